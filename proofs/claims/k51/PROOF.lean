import PyProof.Rows.All
import Wide.All
import OpenK.AllK
import Wide.FinOn
import Lean
import PyProof.EqAt
import PyProof.EqKinds
import PyProof.TupleCall
import PyProof.NeKinds
import PyProof.DictUpdate
import PyProof.AttrMissHeap
import KE.KDictOf
import PyProof.TupleIter
import PyProof.WalksEnum
import PyProof.EnumMake
import PyProof.Rows.EnumRows
import PyProof.Rows.MaxTwoN
import PyProof.ZipIter
import PyProof.IsRules
import PyProof.DictRoadsH
import Wide.Seal
import PyProof.MeetsDict
import PyProof.DictIter
import PyProof.DictWalks
import KE.KDictList
import PyProof.Rows.SumAny
import PyProof.ListRange
import PyProof.AutoSeq1
import PyProof.WalkInts
import PyProof.SeqI3
import PySem.Challenge.RW_callmill_k51_tables_of_tables
set_option Elab.async false
set_option linter.all false
set_option maxRecDepth 100000
set_option maxHeartbeats 4000000
namespace L2
open PySem PySem.Spec PyProof.Rows
abbrev Key := Sum Int Str
def keyIs : Key → Value → Bool
  | .inl k, v => Value.isInt k v
  | .inr x, v => Value.isStrOf x v
def keyH (w : World) : Key → Int
  | .inl k => hashInt k
  | .inr x => hashStr w x
theorem keyIs_shape : ∀ {k : Key} {v : Value}, keyIs k v = true → (∃ i t, k = Sum.inl i ∧ v = Value.int i t) ∨ (∃ x t, k = Sum.inr x ∧ v = Value.str x t)
  | .inl i, v, h => by
    obtain ⟨t, e⟩ := Value.isInt_shape (k := i) (v := v) h
    exact .inl ⟨i, t, rfl, e⟩
  | .inr x, v, h => by
    obtain ⟨t, e⟩ := Value.isStrOf_shape (x := x) (v := v) h
    exact .inr ⟨x, t, rfl, e⟩
theorem keyIs_int (i : Int) (t : Tok) : keyIs (.inl i) (.int i t) = true := by simp [keyIs, Value.isInt]
theorem keyIs_str (x : Str) (t : Tok) : keyIs (.inr x) (.str x t) = true := by simp [keyIs, Value.isStrOf]
theorem key_ll (a b : Int) : decide ((Sum.inl a : Key) = Sum.inl b) = (a == b) := by
  by_cases e : a = b
  · subst e; simp
  · have h : ¬ (Sum.inl a : Key) = Sum.inl b := fun q => e (Sum.inl.inj q)
    rw [decide_eq_false h]
    exact (beq_eq_false_iff_ne.mpr e).symm
theorem key_rr (a b : Str) : decide ((Sum.inr a : Key) = Sum.inr b) = decide (a = b) := by
  by_cases e : a = b
  · subst e; simp
  · have h : ¬ (Sum.inr a : Key) = Sum.inr b := fun q => e (Sum.inr.inj q)
    rw [decide_eq_false h, decide_eq_false e]
theorem key_lr (a : Int) (b : Str) : decide ((Sum.inl a : Key) = Sum.inr b) = false := decide_eq_false (fun q => nomatch q)
theorem key_rl (a : Str) (b : Int) : decide ((Sum.inr a : Key) = Sum.inl b) = false := decide_eq_false (fun q => nomatch q)
def mixKind (prog : Program) (w : World) : PySem.KeyKind prog w Key where
  is := keyIs
  hash := keyH w
  inj := fun v a b ha hb => by
    rcases keyIs_shape ha with ⟨i, t, rfl, rfl⟩ | ⟨x, t, rfl, rfl⟩
    · rcases keyIs_shape hb with ⟨j, u, rfl, e⟩ | ⟨y, u, rfl, e⟩
      · injection e with e1 _; rw [e1]
      · exact nomatch e
    · rcases keyIs_shape hb with ⟨j, u, rfl, e⟩ | ⟨y, u, rfl, e⟩
      · exact nomatch e
      · injection e with e1 _; rw [e1]
  byValue := fun k v h => by
    rcases keyIs_shape h with ⟨i, t, rfl, rfl⟩ | ⟨x, t, rfl, rfl⟩ <;> rfl
  pyHash := fun hv h => by
    rcases keyIs_shape hv with ⟨i, t, rfl, rfl⟩ | ⟨x, t, rfl, rfl⟩
    · exact wpAny_pyHash_int h
    · exact wpAny_pyHash_str h
  eqBool := fun hu hv h => by
    rcases keyIs_shape hu with ⟨i, t, rfl, rfl⟩ | ⟨x, t, rfl, rfl⟩
    · rcases keyIs_shape hv with ⟨j, u, rfl, rfl⟩ | ⟨y, u, rfl, rfl⟩
      · rw [key_ll] at h; exact wpAny_eqBool_int h
      · rw [key_lr] at h; exact SeqAt.EqAt.int_str i t y u _ _ _ _ h
    · rcases keyIs_shape hv with ⟨j, u, rfl, rfl⟩ | ⟨y, u, rfl, rfl⟩
      · rw [key_rl] at h; exact SeqAt.EqAt.str_int x t j u _ _ _ _ h
      · rw [key_rr] at h; exact wpAny_eqBool_str h
  «strs» := fun k x t v h => by
    rcases keyIs_shape h with ⟨i, u, rfl, e⟩ | ⟨y, u, rfl, e⟩
    · exact nomatch e
    · injection e with e1 _
      subst e1
      cases v <;> rfl
theorem mixKind_int (prog : Program) (w : World) (i : Int) (t : Tok) : (mixKind prog w).is (.inl i) (.int i t) = true := keyIs_int i t
theorem mixKind_str (prog : Program) (w : World) (x : Str) (t : Tok) : (mixKind prog w).is (.inr x) (.str x t) = true := keyIs_str x t
end L2
namespace L2
open PySem PySem.Spec PyProof.Rows
inductive V where
  | non | bl (b : Bool) | int (i : Int) | str (x : Str) | byt (b : Array UInt8) | flt (b : UInt64) | ref (a : Addr) | ty (n : String)
  deriving DecidableEq
def RelV : V → Value → Prop
  | .non, u => u = Value.none
  | .bl b, u => u = Value.bool b
  | .int i, u => ∃ t, u = Value.int i t
  | .str x, u => ∃ t, u = Value.str x t
  | .byt b, u => ∃ t, u = Value.bytes b t
  | .flt b, u => ∃ t, u = Value.float b t
  | .ref a, u => u = Value.ref a
  | .ty n, u => u = Value.type n
abbrev Vals : List V → List Value → Prop := Paired RelV
theorem Vals.length {xs : List V} {us : List Value} (r : Vals xs us) : xs.length = us.length := Paired.length r
theorem Vals.get : ∀ {xs : List V} {us : List Value} {i : Nat} {x : V}, Vals xs us → xs[i]? = some x → ∃ u, us[i]? = some u ∧ RelV x u
  | _, _, _, _, .nil, e => by simp at e
  | _, _, 0, _, .cons r _, e => by simp at e; subst e; exact ⟨_, rfl, r⟩
  | _, _, i + 1, x, .cons _ t, e => by
    obtain ⟨u, h1, h2⟩ := Vals.get (i := i) (x := x) t (by simpa using e)
    exact ⟨u, by simpa using h1, h2⟩
theorem Vals.set {x : V} {u : Value} (r : RelV x u) : ∀ {xs : List V} {us : List Value} (i : Nat), Vals xs us → Vals (xs.set i x) (us.set i u)
  | _, _, _, .nil => .nil
  | _, _, 0, .cons _ t => .cons r t
  | _, _, i + 1, .cons q t => .cons q (Vals.set r i t)
theorem Vals.append : ∀ {xs ys : List V} {us ws : List Value}, Vals xs us → Vals ys ws → Vals (xs ++ ys) (us ++ ws)
  | _, _, _, _, .nil, s => s
  | _, _, _, _, .cons r t, s => .cons r (Vals.append t s)
theorem Vals.take : ∀ {xs : List V} {us : List Value} (n : Nat), Vals xs us → Vals (xs.take n) (us.take n)
  | _, _, 0, _ => .nil
  | _, _, _ + 1, .nil => .nil
  | _, _, n + 1, .cons r t => .cons r (Vals.take n t)
theorem Vals.drop : ∀ {xs : List V} {us : List Value} (n : Nat), Vals xs us → Vals (xs.drop n) (us.drop n)
  | _, _, 0, r => r
  | _, _, _ + 1, .nil => .nil
  | _, _, n + 1, .cons _ t => Vals.drop n t
theorem Vals.none_of : ∀ {xs : List V} {us : List Value} {i : Nat}, Vals xs us → xs[i]? = none → us[i]? = none := fun {xs us i} r e => by
  have h1 := r.length
  have h2 : xs.length ≤ i := List.getElem?_eq_none_iff.mp e
  exact List.getElem?_eq_none_iff.mpr (by omega)
def RelO : Option V → Option Value → Prop
  | some v, some u => RelV v u
  | none, none => True
  | _, _ => False
def KV {κ : Type} : List (κ × V) → List (κ × Value) → Prop := Paired fun (p : κ × V) (q : κ × Value) => p.1 = q.1 ∧ RelV p.2 q.2
def kV : Key → V
  | .inl i => .int i
  | .inr x => .str x
inductive HO where
  | lst (xs : List V)
  | tup (xs : List V)
  | dK (kvs : List (Key × V)) | dT (kvs : List (List Key × V))
  | set (S : Int → Bool) (n : Nat)
  | ins (C dx : Addr) (fs : List (Str × V))
  | own (x : Addr)
  | xd (fs : List (Str × V))
  | met (f x : Addr)
  | rng (lo hi : Int)
  | frz (o : Obj) (u : HO)
  | tbl (ps : Array Value)
  | ext (φ : Heap → Prop)
abbrev Hp := Addr → Option HO
def upd (H : Hp) (a : Addr) (o : HO) : Hp := fun b => if b = a then some o else H b
theorem upd_same {H : Hp} {a : Addr} {o : HO} : upd H a o a = some o := by unfold upd; rw [if_pos rfl]
theorem upd_ne {H : Hp} {a b : Addr} {o : HO} (h : b ≠ a) : upd H a o b = H b := by unfold upd; rw [if_neg h]
theorem upd_upd {H : Hp} {a : Addr} {o u : HO} : upd (upd H a o) a u = upd H a u := by
  funext b; unfold upd; split <;> rfl
theorem ne_of {H : Hp} {a b : Addr} {o u : HO} (h : H a = some o) (h' : H b = some u) (d : o ≠ u) : a ≠ b := by
  intro e; subst e; rw [h] at h'; exact d (Option.some.inj h')
theorem ne_of_none {H : Hp} {a b : Addr} {o : HO} (h : H a = some o) (h' : H b = none) : a ≠ b := by
  intro e; subst e; rw [h] at h'; cases h'
section
variable (P : Program) (w : World)
def ObjOk (H : Hp) (h : Heap) (a : Addr) : HO → Prop
  | .lst xs => xs.length ≤ sizeLine ∧ ∃ (its : List Value) (n : Nat), Vals xs its ∧ h.get? a = some { cls := .type "list", data := .seq its.toArray n }
  | .tup xs => xs.length ≤ sizeLine ∧ ∃ its : List Value, Vals xs its ∧ IsTup h a its.toArray
  | .dK kvs => kvs.length ≤ sizeLine ∧ (a == sysModules) = false ∧ ∃ vs, KV kvs vs ∧ h.DictOf (mixKind P w) a vs
  | .dT kvs => kvs.length ≤ sizeLine ∧ (a == sysModules) = false ∧ ∃ xs : List (List Key × Addr × Value),
      Paired (fun (p : List Key × V) (q : List Key × Addr × Value) => p.1 = q.1 ∧ H q.2.1 = some (.tup (p.1.map kV)) ∧ RelV p.2 q.2.2) kvs xs ∧
      ∃ o es ep, h.get? a = some o ∧ o.ExactDict ∧ o.data = .dict es ep ∧ es.toList = xs.map (entryOfKey (tupleKind (mixKind P w))) ∧ (xs.map (·.1)).Nodup
  | .set S n => h.SetOf (intKind P w) a S n
  | .ins C dx fs => H dx = some (.own a) ∧ fs.length ≤ 1000 ∧ dx ≠ a ∧ h.get? a = some (PySem.W.instObj C dx) ∧
      ∃ mA, h.Ns1 dx mA ∧ (∀ f, RelO (fs.lookup f) (mA f)) ∧ PySem.Within mA (fs.map (·.1))
  | .own _ => ∃ o, h.get? a = some o
  | .xd fs => ∃ mA, h.Ns1 a mA ∧ ∀ f, RelO (fs.lookup f) (mA f)
  | .rng lo hi => ∃ t u v, h.get? a = some { cls := .type "range", data := .fields #[.int lo t, .int hi u, .int 1 v] }
  | .frz o u => h.get? a = some o ∧ ObjOk H h a u
  | .tbl ps => h.get? a = some { cls := .none, data := .fields ps }
  | .met f x => h.get? a = some (PySem.W.methodObj (.ref f) (.ref x))
  | .ext φ => φ h ∧ (∃ o, h.get? a = some o) ∧ ∀ h1 h2 : Heap, φ h1 → (∀ o, h1.get? a = some o → h2.get? a = some o) → φ h2
def HOk (H : Hp) (h : Heap) : Prop := ∀ a o, H a = some o → ObjOk P w H h a o
end
section
variable {P : Program} {w : World} {H H' : Hp} {h h' : Heap} {a : Addr} {o : HO}
theorem ObjOk.lt (x : ObjOk P w H h a o) : a < h.objs.size := by
  cases o with
  | lst xs => obtain ⟨_, _, _, _, e⟩ := x; exact Heap.lt_size e
  | tup xs => obtain ⟨_, _, _, p⟩ := x; exact p.lt
  | dK kvs => obtain ⟨_, _, _, _, o, _, _, e, _⟩ := x; exact Heap.lt_size e
  | dT kvs => obtain ⟨_, _, _, _, o, _, _, e, _⟩ := x; exact Heap.lt_size e
  | set S n => obtain ⟨o, _, _, _, e, _⟩ := x; exact Heap.lt_size e
  | ins C dx fs => obtain ⟨_, _, _, e, _⟩ := x; exact Heap.lt_size e
  | own y => obtain ⟨_, e⟩ := x; exact Heap.lt_size e
  | xd fs => obtain ⟨_, ⟨_, _, _, e, _⟩, _⟩ := x; exact Heap.lt_size e
  | rng lo hi => obtain ⟨_, _, _, e⟩ := x; exact Heap.lt_size e
  | frz ob u => obtain ⟨e, _⟩ := x; exact Heap.lt_size e
  | tbl ps => exact Heap.lt_size (show h.get? a = some _ from x)
  | met f y => exact Heap.lt_size (show h.get? a = some _ from x)
  | ext φ => obtain ⟨_, ⟨_, e⟩, _⟩ := x; exact Heap.lt_size e
theorem Paired.mapP {α β : Type} {F G : α → β → Prop} : ∀ {l₁ : List α} {l₂ : List β}, Paired F l₁ l₂ → (∀ a b, F a b → G a b) → Paired G l₁ l₂
  | _, _, .nil, _ => .nil
  | _, _, .cons r t, f => .cons (f _ _ r) (Paired.mapP t f)
theorem ObjOk.stay (x : ObjOk P w H h a o) (k : ∀ b u, (b = a ∨ H b = some (.own a)) → h.get? b = some u → h'.get? b = some u)
    (ho : ∀ b, H b = some (.own a) → H' b = some (.own a)) (ht : ∀ b xs, H b = some (.tup xs) → H' b = some (.tup xs)) : ObjOk P w H' h' a o := by
  induction o with
  | lst xs => obtain ⟨z, its, n, r, e⟩ := x; exact ⟨z, its, n, r, k _ _ (.inl rfl) e⟩
  | tup xs => obtain ⟨z, its, r, ob, e, c⟩ := x; exact ⟨z, its, r, ob, k _ _ (.inl rfl) e, c⟩
  | dK kvs => obtain ⟨z, y, vs, r, ob, es, ep, e, c⟩ := x; exact ⟨z, y, vs, r, ob, es, ep, k _ _ (.inl rfl) e, c⟩
  | dT kvs =>
    obtain ⟨z, y, xs, r, ob, es, ep, e, c⟩ := x
    exact ⟨z, y, xs, Paired.mapP r fun p q z => ⟨z.1, ht _ _ z.2.1, z.2.2⟩, ob, es, ep, k _ _ (.inl rfl) e, c⟩
  | set S n => obtain ⟨ob, es, ep, t, e, c⟩ := x; exact ⟨ob, es, ep, t, k _ _ (.inl rfl) e, c⟩
  | ins C dx fs =>
    obtain ⟨d, z, ne, e, mA, ⟨od, es, ep, e2, c⟩, r⟩ := x
    exact ⟨ho _ d, z, ne, k _ _ (.inl rfl) e, mA, ⟨od, es, ep, k _ _ (.inr d) e2, c⟩, r⟩
  | own y => obtain ⟨ob, e⟩ := x; exact ⟨ob, k _ _ (.inl rfl) e⟩
  | xd fs => obtain ⟨mA, ⟨od, es, ep, e, c⟩, r⟩ := x; exact ⟨mA, ⟨od, es, ep, k _ _ (.inl rfl) e, c⟩, r⟩
  | rng lo hi => obtain ⟨t, u, v, e⟩ := x; exact ⟨t, u, v, k _ _ (.inl rfl) e⟩
  | frz ob u ih => obtain ⟨e, q⟩ := x; exact ⟨k _ _ (.inl rfl) e, ih q⟩
  | tbl ps =>
    have e : h.get? a = some { cls := .none, data := .fields ps } := x
    show h'.get? a = some { cls := .none, data := .fields ps }
    exact k a _ (.inl rfl) e
  | met f y =>
    have e : h.get? a = some (PySem.W.methodObj (.ref f) (.ref y)) := x
    show h'.get? a = some (PySem.W.methodObj (.ref f) (.ref y))
    exact k a _ (.inl rfl) e
  | ext φ => obtain ⟨p, ⟨o, e⟩, st⟩ := x; exact ⟨st _ _ p fun o q => k _ _ (.inl rfl) q, ⟨o, k _ _ (.inl rfl) e⟩, st⟩
theorem HOk.lt (x : HOk P w H h) (e : H a = some o) : a < h.objs.size := (x a o e).lt
theorem HOk.fresh (x : HOk P w H h) (e : h.objs.size ≤ a) : H a = none := by
  cases q : H a with
  | none => rfl
  | some u => exact absurd (Nat.lt_of_lt_of_le (x.lt q) e) (Nat.lt_irrefl _)
theorem HOk.kept (x : HOk P w H h) (k : ∀ b u, h.get? b = some u → h'.get? b = some u) : HOk P w H h' := fun a o e =>
  (x a o e).stay (fun b u _ q => k b u q) (fun _ q => q) fun _ _ q => q
theorem HOk.laid (x : HOk P w H h) (k : ∀ b u, h.get? b = some u → h'.get? b = some u) (hp : h.objs.size ≤ a) (new : ObjOk P w (upd H a o) h' a o) : HOk P w (upd H a o) h' := fun b u e => by
  have hn := x.fresh hp
  by_cases hb : b = a
  · subst hb; rw [upd_same] at e; cases e; exact new
  · rw [upd_ne hb] at e
    exact (x b u e).stay (fun c v _ q => k c v q) (fun c q => by rw [upd_ne (ne_of_none q hn)]; exact q) fun c xs q => by rw [upd_ne (ne_of_none q hn)]; exact q
end
def Rd (H : Hp) (a : Addr) (u : HO) : Prop := H a = some u ∨ ∃ o, H a = some (.frz o u)
theorem Rd.of {H : Hp} {a : Addr} {u : HO} (h : H a = some u) : Rd H a u := .inl h
theorem Rd.ok {P : Program} {w : World} {H : Hp} {h : Heap} {a : Addr} {u : HO} (r : Rd H a u) (x : HOk P w H h) : ObjOk P w H h a u := by
  rcases r with r | ⟨o, r⟩
  · exact x a u r
  · obtain ⟨_, q⟩ := x a _ r
    exact q
def Mut : Option HO → Prop
  | some (.lst _) => True
  | some (.dK _) => True
  | some (.dT _) => True
  | some (.set _ _) => True
  | some (.ins _ _ _) => True
  | some (.ext _) => True
  | _ => False
section
variable {P : Program} {w : World} {H : Hp} {h h' : Heap} {x e : Addr} {o' : HO}
theorem HOk.write (ok : HOk P w H h) (mu : Mut (H x)) (he : e = x ∨ H e = some (.own x)) (k : ∀ b u, b ≠ e → h.get? b = some u → h'.get? b = some u) (heo : ∃ u, h'.get? e = some u)
    (new : ObjOk P w (upd H x o') h' x o') : HOk P w (upd H x o') h' := fun b u q => by
  have nown : ∀ c y, H c = some (.own y) → c ≠ x := fun c y r z => by subst z; rw [r] at mu; exact mu
  have ntup : ∀ c xs, H c = some (.tup xs) → c ≠ x := fun c xs r z => by subst z; rw [r] at mu; exact mu
  by_cases hb : b = x
  · subst hb; rw [upd_same] at q; cases q; exact new
  · rw [upd_ne hb] at q
    by_cases hbe : b = e
    · have q' : H b = some (.own x) := by
        rcases he with z | z
        · exact absurd (hbe.trans z) hb
        · rw [hbe]; exact z
      rw [q] at q'; cases q'
      obtain ⟨v, hv⟩ := heo
      exact ⟨v, by rw [hbe]; exact hv⟩
    · refine (ok b u q).stay (fun c v hc r => k c v ?_ r) (fun c r => by rw [upd_ne (nown c b r)]; exact r) fun c xs r => by rw [upd_ne (ntup c xs r)]; exact r
      rcases hc with rfl | hc
      · exact hbe
      · rintro rfl
        rcases he with z | z
        · exact nown c b hc z
        · rw [hc] at z; cases z; exact hb rfl
end
structure Un (fs ex : List Addr) (H H' : Hp) (h h' : Heap) : Prop where
  keep : ∀ b o, h.get? b = some o → H b = none → b ∉ fs → b ∉ ex → h'.get? b = some o
  slot : ∀ b o, h.get? b = some o → H b = none → b ∈ fs → b ∉ ex → ∃ sl, h'.get? b = some { o with slots := sl }
  free : ∀ b o, h.get? b = some o → H b = none → b ∉ ex → H' b = none
  there : ∀ b o, h.get? b = some o → b ∉ ex → ∃ o', h'.get? b = some o'
  tups : ∀ b xs, H b = some (.tup xs) → H' b = some (.tup xs)
  frzs : ∀ b o u, H b = some (.frz o u) → H' b = some (.frz o u)
  tbls : ∀ b ps, H b = some (.tbl ps) → ∃ more, H' b = some (.tbl (ps ++ more))
section
variable {fs fs' ex ex' : List Addr} {H H1 H2 : Hp} {h h1 h2 h' : Heap} {a x e : Addr} {o : HO}
theorem Un.any (u : Un fs ex H H1 h h1) {b : Addr} {ob : Obj} (q : h.get? b = some ob) (n : H b = none) (hx : b ∉ ex) : ∃ sl, h1.get? b = some { ob with slots := sl } := by
  by_cases hb : b ∈ fs
  · exact u.slot b ob q n hb hx
  · exact ⟨ob.slots, u.keep b ob q n hb hx⟩
theorem Un.trans (a : Un fs ex H H1 h h1) (b : Un fs ex H1 H2 h1 h2) : Un fs ex H H2 h h2 where
  keep := fun c ob q n hc hx => b.keep c ob (a.keep c ob q n hc hx) (a.free c ob q n hx) hc hx
  slot := fun c ob q n hc hx => by
    obtain ⟨sl, e1⟩ := a.slot c ob q n hc hx
    obtain ⟨sl', e2⟩ := b.slot c _ e1 (a.free c ob q n hx) hc hx
    exact ⟨sl', e2⟩
  free := fun c ob q n hx => by
    obtain ⟨o', e1⟩ := a.there c ob q hx
    exact b.free c o' e1 (a.free c ob q n hx) hx
  there := fun c ob q hx => by
    obtain ⟨o', e1⟩ := a.there c ob q hx
    exact b.there c o' e1 hx
  tups := fun c xs q => b.tups c xs (a.tups c xs q)
  frzs := fun c ob xs q => b.frzs c ob xs (a.frzs c ob xs q)
  tbls := fun c ps q => by
    obtain ⟨m1, e1⟩ := a.tbls c ps q
    obtain ⟨m2, e2⟩ := b.tbls c _ e1
    exact ⟨m1 ++ m2, by rw [e2, Array.append_assoc]⟩
theorem Un.kept (k : ∀ b u, h.get? b = some u → h'.get? b = some u) : Un fs ex H H h h' :=
  ⟨fun b ob q _ _ _ => k b ob q, fun b ob q _ _ _ => ⟨ob.slots, k b ob q⟩, fun _ _ _ n _ => n, fun b ob q _ => ⟨ob, k b ob q⟩, fun _ _ q => q, fun _ _ _ q => q, fun _ ps q => ⟨#[], by rw [q]; simp⟩⟩
theorem Un.refl : Un fs ex H H h h := Un.kept fun _ _ q => q
theorem Un.laid (k : ∀ b u, h.get? b = some u → h'.get? b = some u) (hp : h.objs.size ≤ a) (hn : H a = none) : Un fs ex H (upd H a o) h h' where
  keep := fun b u q _ _ _ => k b u q
  slot := fun b u q _ _ _ => ⟨u.slots, k b u q⟩
  free := fun b u q n _ => by rw [upd_ne (Nat.ne_of_lt (Nat.lt_of_lt_of_le (Heap.lt_size q) hp))]; exact n
  there := fun b u q _ => ⟨u, k b u q⟩
  tups := fun b xs q => by rw [upd_ne (ne_of_none q hn)]; exact q
  frzs := fun b u xs q => by rw [upd_ne (ne_of_none q hn)]; exact q
  tbls := fun b ps q => ⟨#[], by rw [upd_ne (ne_of_none q hn), q]; simp⟩
theorem Un.write (mu : Mut (H x)) (he : e = x ∨ H e = some (.own x)) (k : ∀ b u, b ≠ e → h.get? b = some u → h'.get? b = some u) (heo : ∃ u, h'.get? e = some u) : Un fs ex H (upd H x o) h h' := by
  have hx : ∀ b, H b = none → b ≠ x := fun b n z => by subst z; rw [n] at mu; exact mu
  have hb : ∀ b, H b = none → b ≠ e := fun b n z => by
    subst z
    rcases he with r | r
    · exact hx b n r
    · rw [n] at r; cases r
  have hm : ∀ b u, H b = some u → ¬ Mut (some u) → b ≠ x := fun b u q nm z => by subst z; rw [q] at mu; exact nm mu
  refine ⟨fun b u q n _ _ => k b u (hb b n) q, fun b u q n _ _ => ⟨u.slots, k b u (hb b n) q⟩, fun b u q n _ => by rw [upd_ne (hx b n)]; exact n, fun b u q _ => ?_,
    fun b xs q => by rw [upd_ne (hm b _ q fun z => z)]; exact q, fun b u xs q => by rw [upd_ne (hm b _ q fun z => z)]; exact q, fun b ps q => ⟨#[], by rw [upd_ne (hm b _ q fun z => z), q]; simp⟩⟩
  by_cases hbe : b = e
  · subst hbe; exact heo
  · exact ⟨u, k b u hbe q⟩
theorem Un.mono (u : Un fs ex H H1 h h1) (hs : ∀ b ∈ fs, b ∈ fs') (hx : ∀ b ∈ ex, b ∈ ex') : Un fs' ex' H H1 h h1 :=
  ⟨fun b ob q n hb he => u.keep b ob q n (fun z => hb (hs b z)) fun z => he (hx b z), fun _ _ q n _ he => u.any q n fun z => he (hx _ z), fun b ob q n he => u.free b ob q n fun z => he (hx b z), fun b ob q he => u.there b ob q fun z => he (hx b z), u.tups, u.frzs, u.tbls⟩
end
def trk (h : Heap) (H : Hp) : List Addr := (List.range h.objs.size).filter fun a => (H a).isSome
def hidT (h : Heap) (H : Hp) : Heap := PySem.W.hideAll h (trk h H)
theorem hidT_size (h : Heap) (H : Hp) : (hidT h H).objs.size = h.objs.size := PySem.W.hideAll_size _ _
theorem hidT_get {h : Heap} {H : Hp} {b : Addr} {o : Obj} (e : h.get? b = some o) (n : H b = none) : (hidT h H).get? b = some o :=
  PySem.W.hideAll_get _ e fun hm => by
    have q : (H b).isSome = true := (List.mem_filter.mp hm).2
    rw [n] at q; simp at q
theorem of_hidT {h : Heap} {H : Hp} {b : Addr} {o : Obj} (e : (hidT h H).get? b = some o) : h.get? b = some o ∧ H b = none := by
  have e' : h.get? b = some o := PySem.W.of_hideAll (trk h H) e
  refine ⟨e', ?_⟩
  cases q : H b with
  | none => rfl
  | some x =>
    have hm : b ∈ trk h H := List.mem_filter.mpr ⟨List.mem_range.mpr (Heap.lt_size e'), by simp [q]⟩
    have z : (hidT h H).get? b = none := PySem.W.hideAll_none (trk h H) hm
    rw [z] at e; cases e
def allNews (g h : Heap) (L : Addr) : List (Addr × Obj) := (List.range h.objs.size).filterMap fun a => if a = L ∨ (g.get? a).isSome = true then none else (h.get? a).map fun o => (a, o)
def rest (g h : Heap) (L d : Addr) : List (Addr × Obj) := (allNews g h L).filter fun p => decide (p.1 ≠ d)
end L2
namespace L2
open PySem PySem.Spec PyProof.Rows
structure Mod (K : PySem.W.Frag) (mg : Str → Option Value) (base : Heap) : Prop where
  kin : K.In base
  glob : base.Ns mainGlobals mg
  blt : ∃ mb, base.Ns builtinsNs mb ∧ ∀ x : Str, x ≠ "__name__" → mb x = bootBuiltins x
  nolimit : base.NoLimit
structure Cx where
  prog : Program
  w : World
  K : PySem.W.Frag
  mg : Str → Option Value
  base : Heap
  A : Around
  N : List Str
  s₀ : Shared
  H₀ : Hp
  env : Env
  outer : List Env
  stack : List Env
  ex : List Addr
  fn : Str → Bool
  calm : Bool
  pn : List (Addr × Obj)
  xe : Value → Shared → Prop
def frs (l : List Env) : List Addr := l.filterMap (·.frame)
abbrev Cx.fs (X : Cx) : List Addr := frs X.outer
def Vis (sc : Scope) (x : Str) : Prop := sc.names.lookup x = some .local ∨ sc.names.lookup x = some .cell ∨ sc.names.lookup x = some .free
def Loc (sc : Scope) (x : Str) : Prop := sc.names.lookup x = some .local ∨ sc.names.lookup x = some .cell
def Look (env : Env) (h : Heap) (m : Str → Option Value) (x : Str) (u : Value) : Prop :=
  (env.kindOf x = some .local ∧ m x = some u) ∨ ((env.kindOf x = some .cell ∨ env.kindOf x = some .free) ∧ ∃ c, env.cells.lookup x = some c ∧ h.IsCell c (some u))
structure Cx.Ok (X : Cx) : Prop where
  mod : Mod X.K X.mg X.base
  kind : X.env.scope.kind = .function
  glob : X.env.globals = mainGlobals
  blt : X.env.builtins = builtinsNs
  above : X.s₀.heap.objs.size ≤ X.env.locals
  inj : ∀ x y c, X.env.cells.lookup x = some c → X.env.cells.lookup y = some c → x = y
  has : ∀ x, (X.env.kindOf x = some .cell ∨ X.env.kindOf x = some .free) → ∃ c, X.env.cells.lookup x = some c
  cab : ∀ x c, X.fn x = true → X.env.cells.lookup x = some c → X.s₀.heap.objs.size ≤ c
  hd : X.calm = true → X.A.handled = none
  frames : X.A.frames = some X.stack
  stk : X.stack = X.outer ∨ (X.stack = X.env :: X.outer ∧ X.env.frame = some X.env.locals)
  exf : ∀ b ∈ X.ex, b ≠ X.env.locals ∧ ∀ x c, X.env.cells.lookup x = some c → c ≠ b
  bs : ∀ b o, X.base.get? b = some o → X.s₀.heap.get? b = some o ∧ X.H₀ b = none
  bsz : X.base.objs.size ≤ X.s₀.heap.objs.size
  noex : ∀ b o, X.base.get? b = some o → b ∉ X.ex
  exfs : ∀ b ∈ X.ex, b ∉ X.fs
  funs : X.s₀.heap.FunFrames X.base X.outer
  frf : ∀ b ∈ X.fs, X.H₀ b = none
structure Inv (X : Cx) (pins : List (Addr × Obj)) (σ : List (Option V)) (H : Hp) (s : Shared) : Prop where
  ok : X.Ok
  os : s.os = X.s₀.os
  bare : AllBare s.gens
  base : Un X.fs X.ex X.H₀ H X.s₀.heap s.heap
  loc : ∃ m, s.heap.Ns X.env.locals m ∧ ∀ (i : Nat) (x : Str) (v : V), X.N[i]? = some x → σ[i]? = some (some v) → Vis X.env.scope x → ∃ u, RelV v u ∧ Look X.env s.heap m x u
  cell : ∀ x c, X.env.cells.lookup x = some c → ∃ v, s.heap.IsCell c v
  free : H X.env.locals = none
  freeC : ∀ x c, X.env.cells.lookup x = some c → H c = none
  pin : ∀ p ∈ X.pn ++ pins, s.heap.get? p.1 = some p.2 ∧ H p.1 = none ∧ p.1 ≠ X.env.locals ∧ p.1 ∉ X.fs ∧ ∀ v, p.2.data ≠ .cell v
  hok : HOk X.prog X.w H s.heap
  len : σ.length = X.N.length
section
variable {X : Cx} {pins : List (Addr × Obj)} {σ : List (Option V)} {H H' : Hp} {s : Shared} {h' : Heap}
theorem Cx.Ok.nofr (ok : X.Ok) {b : Addr} {o : Obj} (e : X.base.get? b = some o) : b ∉ X.fs := fun hb => by
  have := (ok.funs.mem hb).1
  rw [e] at this; cases this
theorem Inv.bs (I : Inv X pins σ H s) : ∀ b o, X.base.get? b = some o → s.heap.get? b = some o ∧ H b = none := fun b o e =>
  ⟨I.base.keep b o (I.ok.bs b o e).1 (I.ok.bs b o e).2 (I.ok.nofr e) (I.ok.noex b o e), I.base.free b o (I.ok.bs b o e).1 (I.ok.bs b o e).2 (I.ok.noex b o e)⟩
theorem Inv.bk (I : Inv X pins σ H s) : ∀ b o, X.base.get? b = some o → s.heap.get? b = some o := fun b o e => (I.bs b o e).1
theorem Inv.mod (I : Inv X pins σ H s) : Mod X.K X.mg X.base := I.ok.mod
theorem Inv.kIn (I : Inv X pins σ H s) : X.K.In s.heap := I.ok.mod.kin.keeps I.bk
theorem Inv.nolimit (I : Inv X pins σ H s) : s.heap.NoLimit := I.ok.mod.nolimit.keeps I.bk
theorem Inv.fr (I : Inv X pins σ H s) : ∃ m, Fr X.base X.env.locals s.heap m :=
  let ⟨m, hn, _⟩ := I.loc
  ⟨m, hn, I.bk, Nat.le_trans I.ok.bsz I.ok.above⟩
theorem Inv.lt (I : Inv X pins σ H s) : X.env.locals < s.heap.objs.size := let ⟨_, hn, _⟩ := I.loc; hn.lt
theorem Inv.sz (I : Inv X pins σ H s) : X.s₀.heap.objs.size ≤ s.heap.objs.size := Nat.le_trans I.ok.above (Nat.le_of_lt I.lt)
theorem Inv.nofs (I : Inv X pins σ H s) {a : Addr} (h : s.heap.objs.size ≤ a) : a ∉ X.fs := fun hb => by
  obtain ⟨_, o, ho, _⟩ := I.ok.funs.mem hb
  exact absurd (Nat.lt_of_lt_of_le (Heap.lt_size ho) (Nat.le_trans I.sz h)) (Nat.lt_irrefl _)
theorem Inv.cne (I : Inv X pins σ H s) : ∀ x c, X.env.cells.lookup x = some c → c ≠ X.env.locals := fun x c e z => by
  obtain ⟨v, o, ho, hd⟩ := I.cell x c e
  obtain ⟨m, ⟨o', es, ep, ho', hd', _⟩, _⟩ := I.loc
  rw [z, ho'] at ho; cases ho; rw [hd'] at hd; cases hd
theorem Inv.funs (I : Inv X pins σ H s) : s.heap.FunFrames X.base X.outer := by
  have all : ∀ (l : List Env), (∀ b ∈ frs l, b ∈ X.fs) → X.s₀.heap.FunFrames X.base l → s.heap.FunFrames X.base l := by
    intro l
    induction l with
    | nil => intro _ _; trivial
    | cons env r ih =>
      intro hs hl
      obtain ⟨hk, ⟨L, o, hf, hn, ho, hd⟩, hr⟩ := hl
      have hL : L ∈ X.fs := hs L (by unfold frs; rw [List.filterMap_cons, hf]; exact List.mem_cons_self)
      obtain ⟨sl, e⟩ := I.base.slot L o ho (I.ok.frf L hL) hL fun z => I.ok.exfs L z hL
      exact ⟨hk, ⟨L, _, hf, hn, e, hd⟩, ih (fun b hb => hs b (by unfold frs; rw [List.filterMap_cons, hf]; exact List.mem_cons_of_mem _ hb)) hr⟩
  exact all X.outer (fun _ hb => hb) I.ok.funs
theorem Inv.stack (I : Inv X pins σ H s) : s.heap.FunFrames X.base X.stack := by
  rcases I.ok.stk with e | ⟨e, hf⟩
  · rw [e]; exact I.funs
  · rw [e]
    obtain ⟨m, hn, _⟩ := I.loc
    refine .cons (by rw [I.ok.kind]; decide) hf hn ?_ I.funs
    exact Heap.get?_none_of_le (Nat.le_trans I.ok.bsz I.ok.above)
theorem Inv.stkSub (I : Inv X pins σ H s) : ∀ b ∈ frs X.stack, b ∈ X.env.locals :: X.fs := fun b hb => by
  rcases I.ok.stk with e | ⟨e, hf⟩
  · rw [e] at hb; exact List.mem_cons_of_mem _ hb
  · rw [e] at hb
    unfold frs at hb
    rw [List.filterMap_cons, hf] at hb
    exact hb
theorem Inv.stkFree (I : Inv X pins σ H s) : ∀ b ∈ frs X.stack, H b = none := fun b hb => by
  rcases List.mem_cons.mp (I.stkSub b hb) with e | hb
  · rw [e]; exact I.free
  · obtain ⟨_, o, ho, _⟩ := I.ok.funs.mem hb
    exact I.base.free b o ho (I.ok.frf b hb) fun z => I.ok.exfs b z hb
theorem Inv.step {g' : Array GenState} {t' : Nat} {d' : Drawn} {ch : List Addr} (I : Inv X pins σ H s)
    (hch : ∀ b ∈ ch, (b ∈ X.ex ∨ X.s₀.heap.objs.size ≤ b) ∧ b ≠ X.env.locals ∧ (∀ x c, X.env.cells.lookup x = some c → c ≠ b) ∧ ∀ p ∈ X.pn ++ pins, p.1 ≠ b)
    (keep : ∀ b o, b ≠ X.env.locals → b ∉ X.fs → b ∉ ch → s.heap.get? b = some o → H b = none → h'.get? b = some o)
    (slot : ∀ b o, b ≠ X.env.locals → b ∈ X.fs → b ∉ ch → s.heap.get? b = some o → H b = none → ∃ sl, h'.get? b = some { o with slots := sl }) (free : ∀ b o, b ∉ ch → s.heap.get? b = some o → H b = none → H' b = none)
    (there : ∀ b o, b ∉ ch → s.heap.get? b = some o → ∃ o', h'.get? b = some o')
    (tups : ∀ b xs, H b = some (.tup xs) → H' b = some (.tup xs)) (frzs : ∀ b o u, H b = some (.frz o u) → H' b = some (.frz o u)) (tbls : ∀ b ps, H b = some (.tbl ps) → ∃ more, H' b = some (.tbl (ps ++ more)))
    (ns : ∀ m, s.heap.Ns X.env.locals m → h'.Ns X.env.locals m) (hok : HOk X.prog X.w H' h') (hg : AllBare g') :
    Inv X pins σ H' { s with heap := h', gens := g', drawn := d', toks := t' } := by
  have neL : ∀ b o, X.s₀.heap.get? b = some o → b ≠ X.env.locals := fun b o e => Nat.ne_of_lt (Nat.lt_of_lt_of_le (Heap.lt_size e) I.ok.above)
  have neC : ∀ b o, X.s₀.heap.get? b = some o → b ∉ X.ex → b ∉ ch := fun b o e hx hb => by
    rcases (hch b hb).1 with z | z
    · exact hx z
    · exact absurd (Nat.lt_of_lt_of_le (Heap.lt_size e) z) (Nat.lt_irrefl _)
  have cellK : ∀ x c, X.env.cells.lookup x = some c → ∀ v, s.heap.IsCell c v → h'.IsCell c v := fun x c e v ⟨o, ho, hd⟩ => by
    have nch : c ∉ ch := fun z => (hch c z).2.2.1 x c e rfl
    by_cases hc : c ∈ X.fs
    · obtain ⟨sl, q⟩ := slot c o (I.cne x c e) hc nch ho (I.freeC x c e)
      exact ⟨_, q, hd⟩
    · exact ⟨o, keep c o (I.cne x c e) hc nch ho (I.freeC x c e), hd⟩
  refine ⟨I.ok, I.os, hg, ⟨fun b o e n hb hx => ?_, fun b o e n hb hx => ?_, fun b o e n hx => ?_, fun b o e hx => ?_, fun b xs e => tups b xs (I.base.tups b xs e), fun b o xs e => frzs b o xs (I.base.frzs b o xs e), fun b ps e => ?_⟩, ?_, fun x c e => ?_, ?_, fun x c e => ?_, fun p hp => ?_, hok, I.len⟩
  · exact keep b o (neL b o e) hb (neC b o e hx) (I.base.keep b o e n hb hx) (I.base.free b o e n hx)
  · obtain ⟨sl, e1⟩ := I.base.slot b o e n hb hx
    obtain ⟨sl', e2⟩ := slot b _ (neL b o e) hb (neC b o e hx) e1 (I.base.free b o e n hx)
    exact ⟨sl', e2⟩
  · obtain ⟨o', e1⟩ := I.base.there b o e hx
    exact free b o' (neC b o e hx) e1 (I.base.free b o e n hx)
  · obtain ⟨o', e1⟩ := I.base.there b o e hx
    exact there b o' (neC b o e hx) e1
  · obtain ⟨m1, e1⟩ := I.base.tbls b ps e
    obtain ⟨m2, e2⟩ := tbls b _ e1
    exact ⟨m1 ++ m2, by rw [e2, Array.append_assoc]⟩
  · obtain ⟨m, hn, hl⟩ := I.loc
    refine ⟨m, ns m hn, fun i x v e1 e2 e3 => ?_⟩
    obtain ⟨u, r, l⟩ := hl i x v e1 e2 e3
    refine ⟨u, r, ?_⟩
    rcases l with l | ⟨k, c, e, z⟩
    · exact .inl l
    · exact .inr ⟨k, c, e, cellK x c e _ z⟩
  · obtain ⟨v, z⟩ := I.cell x c e
    exact ⟨v, cellK x c e v z⟩
  · obtain ⟨m, ⟨o, _, _, ho, _⟩, _⟩ := I.loc
    exact free _ o (fun z => (hch _ z).2.1 rfl) ho I.free
  · obtain ⟨v, o, ho, hd⟩ := I.cell x c e
    exact free c o (fun z => (hch c z).2.2.1 x c e rfl) ho (I.freeC x c e)
  · obtain ⟨e, n, ne, nf, d⟩ := I.pin p hp
    have nch : p.1 ∉ ch := fun z => (hch p.1 z).2.2.2 p hp rfl
    exact ⟨keep p.1 p.2 ne nf nch e n, free p.1 p.2 nch e n, ne, nf, d⟩
theorem Inv.un {t' : Nat} (I : Inv X pins σ H s) (u : Un X.fs [] H H' s.heap h') (hok : HOk X.prog X.w H' h') : Inv X pins σ H' { s with heap := h', toks := t' } := by
  obtain ⟨m, ⟨o, es, ep, ho, r⟩, _⟩ := id I.loc
  obtain ⟨sl, hL⟩ := u.any ho I.free (by simp)
  exact I.step (g' := s.gens) (d' := s.drawn) (ch := []) (fun _ z => nomatch z) (fun b o _ hb _ e n => u.keep b o e n hb (by simp)) (fun b o _ hb _ e n => u.slot b o e n hb (by simp)) (fun b o _ e n => u.free b o e n (by simp)) (fun b o _ e => u.there b o e (by simp)) u.tups u.frzs u.tbls (fun m' hm => by
    obtain ⟨o', es', ep', ho', r'⟩ := hm
    rw [ho] at ho'; cases ho'
    exact ⟨_, es', ep', hL, r'⟩) hok I.bare
theorem Inv.call {g' : Array GenState} {t' : Nat} {d' : Drawn} {ch : List Addr} (I : Inv X pins σ H s) (u : Un (frs X.stack) ch H H' s.heap h') (hok : HOk X.prog X.w H' h') (hg : AllBare g')
    (hch : ∀ b ∈ ch, (b ∈ X.ex ∨ X.s₀.heap.objs.size ≤ b) ∧ b ≠ X.env.locals ∧ (∀ x c, X.env.cells.lookup x = some c → c ≠ b) ∧ ∀ p ∈ X.pn ++ pins, p.1 ≠ b) :
    Inv X pins σ H' { s with heap := h', gens := g', drawn := d', toks := t' } := by
  obtain ⟨m, ⟨o, es, ep, ho, r⟩, _⟩ := id I.loc
  obtain ⟨sl, hL⟩ := u.any ho I.free fun z => (hch _ z).2.1 rfl
  exact I.step (ch := ch) hch (fun b o hL hb hc e n => u.keep b o e n (fun z => (List.mem_cons.mp (I.stkSub b z)).elim hL hb) hc) (fun b o _ _ hc e n => u.any e n hc) (fun b o hc e n => u.free b o e n hc) (fun b o hc e => u.there b o e hc) u.tups u.frzs u.tbls (fun m' hm => by
    obtain ⟨o', es', ep', ho', r'⟩ := hm
    rw [ho] at ho'; cases ho'
    exact ⟨_, es', ep', hL, r'⟩) hok hg
theorem Inv.turned {t' : Nat} {it : Addr} (I : Inv X pins σ H s) (k : ∀ b o, b ≠ it → s.heap.get? b = some o → h'.get? b = some o) (hn : H it = none) (hL : it ≠ X.env.locals)
    (h1 : it ∈ X.ex ∨ X.s₀.heap.objs.size ≤ it) (h2 : ∀ x c, X.env.cells.lookup x = some c → c ≠ it) (h3 : ∀ p ∈ X.pn ++ pins, p.1 ≠ it) : Inv X pins σ H { s with heap := h', toks := t' } := by
  have nit : ∀ b u, H b = some u → b ≠ it := fun b u e z => by rw [z, hn] at e; cases e
  refine I.step (g' := s.gens) (d' := s.drawn) (ch := [it]) (fun b hb => ?_) (fun b o _ _ hc e _ => k b o (fun z => hc (by simp [z])) e) (fun b o _ _ hc e _ => ⟨o.slots, k b o (fun z => hc (by simp [z])) e⟩) (fun _ _ _ _ n => n)
    (fun b o hc e => ⟨o, k b o (fun z => hc (by simp [z])) e⟩) (fun _ _ e => e) (fun _ _ _ e => e) (fun b ps e => ⟨#[], by rw [e]; simp⟩) (fun m hm => ?_) (fun b u e => ?_) I.bare
  · have e : b = it := by simpa using hb
    subst e
    exact ⟨h1, hL, h2, h3⟩
  · obtain ⟨o, es, ep, ho, r⟩ := hm
    exact ⟨o, es, ep, k _ o (Ne.symm hL) ho, r⟩
  · refine (I.hok b u e).stay (fun c v hc q => k c v ?_ q) (fun _ q => q) fun _ _ q => q
    rcases hc with z | z
    · rw [z]; exact nit b u e
    · exact nit c _ z
theorem Inv.tok (I : Inv X pins σ H s) (t : Nat) : Inv X pins σ H { s with toks := t } := I.un (h' := s.heap) (t' := t) Un.refl I.hok
theorem Inv.kept {t' : Nat} (I : Inv X pins σ H s) (k : ∀ b u, s.heap.get? b = some u → h'.get? b = some u) : Inv X pins σ H { s with heap := h', toks := t' } := I.un (Un.kept k) (I.hok.kept k)
theorem Inv.laid {a : Addr} {o : HO} {t' : Nat} (I : Inv X pins σ H s) (k : ∀ b u, s.heap.get? b = some u → h'.get? b = some u) (hp : s.heap.objs.size ≤ a) (new : ObjOk X.prog X.w (upd H a o) h' a o) :
    Inv X pins σ (upd H a o) { s with heap := h', toks := t' } := I.un (Un.laid k hp (I.hok.fresh hp)) (I.hok.laid k hp new)
theorem Inv.write {x e : Addr} {o : HO} {t' : Nat} (I : Inv X pins σ H s) (mu : Mut (H x)) (he : e = x ∨ H e = some (.own x)) (k : ∀ b u, b ≠ e → s.heap.get? b = some u → h'.get? b = some u) (heo : ∃ u, h'.get? e = some u)
    (new : ObjOk X.prog X.w (upd H x o) h' x o) : Inv X pins σ (upd H x o) { s with heap := h', toks := t' } := I.un (Un.write mu he k heo) (I.hok.write mu he k heo new)
theorem Inv.pins_of {pins' : List (Addr × Obj)} (I : Inv X pins σ H s) (h : ∀ p ∈ pins', s.heap.get? p.1 = some p.2 ∧ H p.1 = none ∧ p.1 ≠ X.env.locals ∧ p.1 ∉ X.fs ∧ ∀ v, p.2.data ≠ .cell v) : Inv X pins' σ H s :=
  ⟨I.ok, I.os, I.bare, I.base, I.loc, I.cell, I.free, I.freeC, fun p hp => (List.mem_append.mp hp).elim (fun z => I.pin p (List.mem_append_left _ z)) (h p), I.hok, I.len⟩
theorem nodup_ix {N : List Str} (hN : N.Nodup) {i j : Nat} {x : Str} (a : N[i]? = some x) (b : N[j]? = some x) : i = j := by
  obtain ⟨h1, e1⟩ := List.getElem?_eq_some_iff.mp a
  obtain ⟨h2, e2⟩ := List.getElem?_eq_some_iff.mp b
  exact (List.getElem_inj hN).mp (e1.trans e2.symm)
theorem store_ok2 {M : Model} {A : Around} {E : Value → Shared → Prop} {i : Nat} {x : Str} {v : V} {u : Value} {Q : Unit → Shared → Prop} (I : Inv X pins σ H s) (hN : X.N.Nodup) (hi : X.N[i]? = some x) (hx : Loc X.env.scope x) (r : RelV v u)
    (h : ∀ s', Inv X pins (σ.set i (some v)) H s' → (∃ a, Heap.SameBut a s.heap s'.heap ∧ (a = X.env.locals ∨ X.env.cells.lookup x = some a)) → Q () s') (hf : X.fn x = true ∨ X.env.scope.names.lookup x = some .local := by first | exact .inl rfl | exact .inr rfl | assumption) : wpAny M A (storeName X.env x u) Q E s := by
  obtain ⟨m, hn, hl⟩ := id I.loc
  have hcls : (X.env.scope.kind == .class || (X.env.scope.kind == .module && X.env.locals != X.env.globals)) = false := by rw [I.ok.kind]; rfl
  have hiσ : i < σ.length := by rw [I.len]; exact (List.getElem?_eq_some_iff.mp hi).1
  have cne := I.cne
  have tracked : ∀ {a : Addr} {h' : Heap}, (∃ o, s.heap.get? a = some o ∧ H a = none) → Heap.SameBut a s.heap h' → HOk X.prog X.w H h' := fun {a h'} ha hs b ob e => by
    obtain ⟨_, _, hfree⟩ := ha
    refine (I.hok b ob e).stay (fun c w' hc q => (hs.2 c ?_).trans q) (fun _ q => q) fun _ _ q => q
    rintro rfl
    rcases hc with rfl | hc
    · rw [hfree] at e; cases e
    · rw [hfree] at hc; cases hc
  rcases hx with hk | hk
  · refine wpAny_storeName_local hk hn (fun h' hn' hs => ?_) hcls
    obtain ⟨oL, _, _, hoL, _⟩ := id hn
    refine h _ ⟨I.ok, I.os, I.bare, ⟨fun b o e n hb hx => ?_, fun b o e n hb hx => ?_, I.base.free, fun b o e hx => ?_, I.base.tups, I.base.frzs, I.base.tbls⟩, ⟨_, hn', fun j y v' e1 e2 e3 => ?_⟩, fun y c e => ?_, I.free, I.freeC, fun p hp => ?_, tracked ⟨oL, hoL, I.free⟩ hs, by simpa using I.len⟩ ⟨_, hs, .inl rfl⟩
    · exact (hs.2 b (Nat.ne_of_lt (Nat.lt_of_lt_of_le (Heap.lt_size e) I.ok.above))).trans (I.base.keep b o e n hb hx)
    · obtain ⟨sl, e1⟩ := I.base.slot b o e n hb hx
      exact ⟨sl, (hs.2 b (Nat.ne_of_lt (Nat.lt_of_lt_of_le (Heap.lt_size e) I.ok.above))).trans e1⟩
    · obtain ⟨o', e1⟩ := I.base.there b o e hx
      exact ⟨o', (hs.2 b (Nat.ne_of_lt (Nat.lt_of_lt_of_le (Heap.lt_size e) I.ok.above))).trans e1⟩
    · by_cases hj : j = i
      · subst hj
        rw [hi] at e1; cases e1
        rw [List.getElem?_set_self hiσ] at e2
        cases e2
        exact ⟨u, r, .inl ⟨hk, by simp⟩⟩
      · rw [List.getElem?_set_ne (Ne.symm hj)] at e2
        obtain ⟨u', r', q⟩ := hl j y v' e1 e2 e3
        refine ⟨u', r', ?_⟩
        rcases q with ⟨k, e⟩ | ⟨k, c, e, z⟩
        · refine .inl ⟨k, ?_⟩
          have : y ≠ x := fun e => hj (nodup_ix hN e1 (e ▸ hi))
          simp [this, e]
        · exact .inr ⟨k, c, e, z.sameBut hs (cne y c e)⟩
    · obtain ⟨w', z⟩ := I.cell y c e
      exact ⟨w', z.sameBut hs (cne y c e)⟩
    · obtain ⟨e, n, ne, nf, d⟩ := I.pin p hp
      exact ⟨(hs.2 p.1 ne).trans e, n, ne, nf, d⟩
  · have hfn : X.fn x = true := by
      rcases hf with z | z
      · exact z
      · rw [z] at hk; cases hk
    obtain ⟨c, hc⟩ := I.ok.has x (.inl hk)
    obtain ⟨w', z⟩ := I.cell x c hc
    refine wpAny_storeName_cell I.ok.kind hk hc z (fun h' hc' hs => ?_)
    obtain ⟨oc, hoc, hocd⟩ := id z
    refine h { s with heap := h' } ⟨I.ok, I.os, I.bare, ⟨fun b o e n hb hx => ?_, fun b o e n hb hx => ?_, I.base.free, fun b o e hx => ?_, I.base.tups, I.base.frzs, I.base.tbls⟩, ⟨m, hn.sameBut hs (Ne.symm (cne x c hc)), fun j y v' e1 e2 e3 => ?_⟩, fun y c' e => ?_, I.free, I.freeC, fun p hp => ?_, tracked ⟨oc, hoc, I.freeC x c hc⟩ hs, by simpa using I.len⟩ ⟨c, hs, .inr hc⟩
    · exact (hs.2 b (Nat.ne_of_lt (Nat.lt_of_lt_of_le (Heap.lt_size e) (I.ok.cab x c hfn hc)))).trans (I.base.keep b o e n hb hx)
    · obtain ⟨sl, e1⟩ := I.base.slot b o e n hb hx
      exact ⟨sl, (hs.2 b (Nat.ne_of_lt (Nat.lt_of_lt_of_le (Heap.lt_size e) (I.ok.cab x c hfn hc)))).trans e1⟩
    · obtain ⟨o', e1⟩ := I.base.there b o e hx
      exact ⟨o', (hs.2 b (Nat.ne_of_lt (Nat.lt_of_lt_of_le (Heap.lt_size e) (I.ok.cab x c hfn hc)))).trans e1⟩
    · by_cases hj : j = i
      · subst hj
        rw [hi] at e1; cases e1
        rw [List.getElem?_set_self hiσ] at e2
        cases e2
        exact ⟨u, r, .inr ⟨.inl hk, c, hc, hc'⟩⟩
      · rw [List.getElem?_set_ne (Ne.symm hj)] at e2
        obtain ⟨u', r', q⟩ := hl j y v' e1 e2 e3
        refine ⟨u', r', ?_⟩
        rcases q with q | ⟨k, c', e, z'⟩
        · exact .inl q
        · refine .inr ⟨k, c', e, z'.sameBut hs ?_⟩
          rintro rfl
          exact hj (nodup_ix hN e1 (I.ok.inj _ _ _ e hc ▸ hi))
    · by_cases hcc : c' = c
      · subst hcc; exact ⟨_, hc'⟩
      · obtain ⟨w2, z2⟩ := I.cell y c' e
        exact ⟨w2, z2.sameBut hs hcc⟩
    · obtain ⟨e, n, ne, nf, d⟩ := I.pin p hp
      refine ⟨(hs.2 p.1 ?_).trans e, n, ne, nf, d⟩
      intro q
      rw [q, hoc] at e
      have q' : oc = p.2 := Option.some.inj e
      exact d w' (by rw [← q']; exact hocd)
theorem store_ok {M : Model} {A : Around} {E : Value → Shared → Prop} {i : Nat} {x : Str} {v : V} {u : Value} {Q : Unit → Shared → Prop} (I : Inv X pins σ H s) (hN : X.N.Nodup) (hi : X.N[i]? = some x) (hx : Loc X.env.scope x) (r : RelV v u)
    (h : ∀ s', Inv X pins (σ.set i (some v)) H s' → Q () s') (hf : X.fn x = true ∨ X.env.scope.names.lookup x = some .local := by first | exact .inl rfl | exact .inr rfl | assumption) : wpAny M A (storeName X.env x u) Q E s :=
  store_ok2 I hN hi hx r (fun s' I' _ => h s' I') hf
theorem Inv.call' {s' : Shared} {ch : List Addr} (I : Inv X pins σ H s) (ho : s'.os = s.os) (u : Un (frs X.stack) ch H H' s.heap s'.heap) (hok : HOk X.prog X.w H' s'.heap) (hg : AllBare s'.gens)
    (hch : ∀ b ∈ ch, (b ∈ X.ex ∨ X.s₀.heap.objs.size ≤ b) ∧ b ≠ X.env.locals ∧ (∀ x c, X.env.cells.lookup x = some c → c ≠ b) ∧ ∀ p ∈ X.pn ++ pins, p.1 ≠ b) : Inv X pins σ H' s' := by
  obtain ⟨h', g', d', t', o'⟩ := s'
  have e : o' = s.os := ho
  subst e
  exact I.call (g' := g') (t' := t') (d' := d') u hok hg hch
end
abbrev XK := Value → Option Addr → Hp → Prop
abbrev St := List (Option V)
abbrev VK := V → Hp → Prop
abbrev TE := St → Hp → VK → Prop
abbrev TT := St → Hp → (Bool → Hp → Prop) → Prop
abbrev TA := St → Hp → (List V → Hp → Prop) → Prop
structure Ends where
  nx : St → Hp → Prop
  rt : VK
  bk : St → Hp → Prop := fun _ _ => False
  ct : St → Hp → Prop := fun _ _ => False
abbrev TS := Ends → St → Hp → Prop
def EP (X : Cx) (pins : List (Addr × Obj)) (σ : St) (Q : VK) (u : Value) (s' : Shared) : Prop := ∃ v H', Inv X pins σ H' s' ∧ RelV v u ∧ Q v H'
def TP (X : Cx) (pins : List (Addr × Obj)) (σ : St) (Q : Bool → Hp → Prop) (b : Bool) (s' : Shared) : Prop := ∃ H', Inv X pins σ H' s' ∧ Q b H'
def AP (X : Cx) (pins : List (Addr × Obj)) (σ : St) (Q : List V → Hp → Prop) (us : List Value) (s' : Shared) : Prop := ∃ vs H', Inv X pins σ H' s' ∧ Vals vs us ∧ Q vs H'
def SP (X : Cx) (pins : List (Addr × Obj)) (D : Ends) (f : Flow) (s' : Shared) : Prop :=
  match f with
  | .next => ∃ σ' H', Inv X pins σ' H' s' ∧ D.nx σ' H'
  | .brk => ∃ σ' H', Inv X pins σ' H' s' ∧ D.bk σ' H'
  | .cont => ∃ σ' H', Inv X pins σ' H' s' ∧ D.ct σ' H'
  | .ret u => ∃ v σ' H', Inv X pins σ' H' s' ∧ RelV v u ∧ D.rt v H'
def PE (X : Cx) (e : Expr) (t : TE) : Prop :=
  ∀ (pins : List (Addr × Obj)) (s : Shared) (σ : St) (H : Hp) (Q : VK), Inv X pins σ H s → t σ H Q → wpAny (model X.prog X.w) X.A (eval e X.env) (EP X pins σ Q) X.xe s
def PT (X : Cx) (e : Expr) (t : TT) : Prop :=
  ∀ (pins : List (Addr × Obj)) (s : Shared) (σ : St) (H : Hp) (Q : Bool → Hp → Prop), Inv X pins σ H s → t σ H Q → wpAny (model X.prog X.w) X.A (isTrue e X.env (eval e X.env)) (TP X pins σ Q) X.xe s
def PW (X : Cx) (e : Expr) (t : TT) : Prop :=
  ∀ (whole : Sem Value) (pins : List (Addr × Obj)) (s : Shared) (σ : St) (H : Hp) (Q : Bool → Hp → Prop), Inv X pins σ H s → t σ H Q → wpAny (model X.prog X.w) X.A (isTrue e X.env whole) (TP X pins σ Q) X.xe s
theorem PW.pt {X : Cx} {e : Expr} {t : TT} (h : PW X e t) : PT X e t := h _
def PA (X : Cx) (es : List Expr) (t : TA) : Prop :=
  ∀ (pos : Pos) (pins : List (Addr × Obj)) (s : Shared) (σ : St) (H : Hp) (Q : List V → Hp → Prop), Inv X pins σ H s → t σ H Q → wpAny (model X.prog X.w) X.A (spliced (backTo pos (starEach es X.env))) (AP X pins σ Q) X.xe s
def PS (X : Cx) (st : Stmt) (t : TS) : Prop :=
  ∀ (pins : List (Addr × Obj)) (s : Shared) (σ : St) (H : Hp) (D : Ends), Inv X pins σ H s → t D σ H → wpAny (model X.prog X.w) X.A (exec st X.env) (SP X pins D) X.xe s
def PSs (X : Cx) (st : List Stmt) (t : TS) : Prop :=
  ∀ (pins : List (Addr × Obj)) (s : Shared) (σ : St) (H : Hp) (D : Ends), Inv X pins σ H s → t D σ H → wpAny (model X.prog X.w) X.A (execs st X.env) (SP X pins D) X.xe s
theorem thn {α : Type} {t : Sem α} {Q Q' : α → Shared → Prop} {M : Model} {A : Around} {E : Value → Shared → Prop} {s : Shared} (h : wpAny M A t Q E s) (hQ : ∀ a s, Q a s → Q' a s) : wpAny M A t Q' E s := wpAny_mono h hQ fun _ _ x => x
end L2
namespace L2
open PySem PySem.Spec PyProof.Rows
section
variable {X : Cx}
def tVar (i : Nat) : TE := fun σ H Q => ∃ v, σ[i]? = some (some v) ∧ Q v H
def tC (v : V) : TE := fun _ H Q => Q v H
theorem pe_var {i : Nat} {x : Str} {pos : Pos} (hN : X.N[i]? = some x) (hv : Vis X.env.scope x) (hd : (x == ("__debug__" : Str)) = false := by decide) (hcd : (x == ("__classdict__" : Str)) = false := by decide) : PE X (.Name x pos) (tVar i) := by
  intro pins s σ H Q I h
  obtain ⟨v, e, h⟩ := h
  obtain ⟨m, hn, hl⟩ := I.loc
  obtain ⟨u, r, l⟩ := hl i x v hN e hv
  have fin : EP X pins σ Q u s := ⟨v, H, I, r, h⟩
  rcases l with ⟨hk, hm⟩ | ⟨hk, c, hc, hcell⟩
  · exact wpAny_Name (wpAny_loadName_local I.ok.kind hk hn hm fin) hd
  · rcases hk with hk | hk
    · exact wpAny_Name (wpAny_loadName_cell I.ok.kind hk hc hcell fin) hd
    · exact wpAny_Name (wpAny_loadName_free I.ok.kind hk hc hcell fin hcd) hd
theorem pe_int {i j pos} : PE X (.Constant (.int i) j pos) (tC (.int i)) := fun _ _ _ H _ I h => wpAny_Constant_int ⟨.int i, H, I.tok _, ⟨_, rfl⟩, h⟩
theorem pe_bl {b j pos} : PE X (.Constant (.bool b) j pos) (tC (.bl b)) := fun _ _ _ H _ I h => Constant_bool ⟨.bl b, H, I, rfl, h⟩
theorem pe_str {x j pos} : PE X (.Constant (.str x) j pos) (tC (.str x)) := fun _ _ _ H _ I h => Calls.Constant_str ⟨.str x, H, I.tok _, ⟨_, rfl⟩, h⟩
def Gl (X : Cx) (x : Str) : Prop := X.env.kindOf x = some .globalImplicit
theorem ld_glob {E : Value → Shared → Prop} {pins : List (Addr × Obj)} {s : Shared} {σ : St} {H : Hp} {x : Str} {u : Value} {pos : Pos} {Q : Value → Shared → Prop} (I : Inv X pins σ H s) (hg : Gl X x) (hm : X.mg x = some u) (h : Q u s)
    (hd : (x == ("__debug__" : Str)) = false := by decide) : wpAny (model X.prog X.w) X.A (eval (.Name x pos) X.env) Q E s :=
  Calls.Name_function_global I.ok.kind hg (Calls.loadGlobal_global (by rw [I.ok.glob]; exact I.mod.glob.keeps I.bk) hm h) hd
theorem ld_blt {E : Value → Shared → Prop} {pins : List (Addr × Obj)} {s : Shared} {σ : St} {H : Hp} {x : Str} {u : Value} {pos : Pos} {Q : Value → Shared → Prop} (I : Inv X pins σ H s) (hg : Gl X x) (hm : X.mg x = none) (hv : bootBuiltins x = some u) (h : Q u s)
    (hn : x ≠ "__name__" := by decide) (hd : (x == ("__debug__" : Str)) = false := by decide) : wpAny (model X.prog X.w) X.A (eval (.Name x pos) X.env) Q E s := by
  obtain ⟨mb, h1, h2⟩ := I.mod.blt
  exact Calls.Name_function_global I.ok.kind hg (Calls.loadGlobal_builtin (by rw [I.ok.glob]; exact I.mod.glob.keeps I.bk) hm (by rw [I.ok.blt]; exact h1.keeps I.bk) ((h2 x hn).trans hv) h) hd
theorem pe_glob {x : Str} {v : V} {u : Value} {pos : Pos} (hg : Gl X x) (hm : X.mg x = some u) (r : RelV v u) (hd : (x == ("__debug__" : Str)) = false := by decide) : PE X (.Name x pos) (tC v) :=
  fun _ _ _ H _ I h => ld_glob I hg hm ⟨v, H, I, r, h⟩ hd
theorem pe_bltn {x : Str} {v : V} {u : Value} {pos : Pos} (hg : Gl X x) (hm : X.mg x = none) (hv : bootBuiltins x = some u) (r : RelV v u) (hn : x ≠ "__name__" := by decide) (hd : (x == ("__debug__" : Str)) = false := by decide) : PE X (.Name x pos) (tC v) :=
  fun _ _ _ H _ I h => ld_blt I hg hm hv ⟨v, H, I, r, h⟩ hn hd
def t2I (ta tb : TE) (k : Int → Int → Hp → Prop) : St → Hp → Prop := fun σ H => ta σ H fun x H1 => tb σ H1 fun y H2 => ∃ i j, x = .int i ∧ y = .int j ∧ k i j H2
def tAdd (ta tb : TE) : TE := fun σ H Q => t2I ta tb (fun i j H2 => Q (.int (i + j)) H2) σ H
def tSub (ta tb : TE) : TE := fun σ H Q => t2I ta tb (fun i j H2 => Q (.int (i - j)) H2) σ H
def tMul (ta tb : TE) : TE := fun σ H Q => t2I ta tb (fun i j H2 => (-(2 ^ 64) < i ∧ i < 2 ^ 64) ∧ Q (.int (i * j)) H2) σ H
variable {a b : Expr} {ta tb : TE} {pos : Pos}
def PC (X : Cx) (op : CmpOp) (a b : Expr) (t : TE) : Prop :=
  ∀ (pins : List (Addr × Obj)) (s : Shared) (σ : St) (H : Hp) (Q : VK), Inv X pins σ H s → t σ H Q →
    wpAny (model X.prog X.w) X.A (eval a X.env) (fun v s₁ => wpAny (model X.prog X.w) X.A (eval b X.env) (fun u s₂ => wpAny (model X.prog X.w) X.A (compareOp op v u) (EP X pins σ Q) X.xe s₂) X.xe s₁) X.xe s
theorem nobehind (b : Expr) {op : CmpOp} (h : op ≠ .In) (h2 : op ≠ .NotIn) : behindInMarks op b = false := by
  have e1 : (op == CmpOp.In) = false := by cases op <;> first | rfl | exact absurd rfl h
  have e2 : (op == CmpOp.NotIn) = false := by cases op <;> first | rfl | exact absurd rfl h2
  cases b <;> simp [behindInMarks, e1, e2]
def tCmp (p : Int → Int → Bool) (ta tb : TE) : TE := fun σ H Q => t2I ta tb (fun i j H2 => Q (.bl (p i j)) H2) σ H
abbrev tLt : TE → TE → TE := tCmp fun i j => decide (i < j)
abbrev tLe : TE → TE → TE := tCmp fun i j => decide (i ≤ j)
abbrev tGt : TE → TE → TE := tCmp fun i j => decide (j < i)
abbrev tGe : TE → TE → TE := tCmp fun i j => decide (j ≤ i)
abbrev tEqI : TE → TE → TE := tCmp fun i j => decide (i = j)
abbrev tNeI : TE → TE → TE := tCmp fun i j => !decide (i = j)
def tIsN (ta : TE) : TE := fun σ H Q => ta σ H fun x H1 => Q (.bl (decide (x = .non))) H1
def tNotN (ta : TE) : TE := fun σ H Q => ta σ H fun x H1 => Q (.bl (!decide (x = .non))) H1
def tB (t : TE) : TT := fun σ H Q => t σ H fun x H1 => ∃ c, x = .bl c ∧ Q c H1
theorem pt_cmp {op : CmpOp} {t : TE} (h : PC X op a b t) (h1 : behindInMarks op b = false := by first | exact nobehind _ (by decide) (by decide) | rfl) : PT X (.Compare a [op] [b] pos) (tB t) := by
  intro pins s σ H Q I hw
  refine wpAny_isTrue_Compare1 (thn (h pins s σ H _ I hw) fun v s1 h1 => thn h1 fun u s2 h2 => thn h2 fun c s3 ⟨x, H1, I1, r1, q1⟩ => ?_) h1
  obtain ⟨d, rfl, q⟩ := q1
  cases r1
  exact wpAny_truthy_bool ⟨H1, I1, q⟩
variable {tA tB' : TT} {rest : List Expr}
def tAnd (t u : TT) : TT := fun σ H Q => t σ H fun c H1 => if c = true then u σ H1 Q else Q false H1
def tOr (t u : TT) : TT := fun σ H Q => t σ H fun c H1 => if c = true then Q true H1 else u σ H1 Q
def tNot (t : TT) : TT := fun σ H Q => t σ H fun c H1 => Q (!c) H1
theorem pw_or1 (ha : PT X a tA) : PW X (.BoolOp .Or [a] pos) tA := by
  intro wh pins s σ H Q I h
  refine isTrue_or (thn (ha pins s σ H Q I h) fun c s1 e => ?_)
  cases c with
  | false => exact isTrue_or_nil e
  | true => exact e
theorem pw_or (ha : PT X a tA) (hb : PW X (.BoolOp .Or (b :: rest) pos) tB') : PW X (.BoolOp .Or (a :: b :: rest) pos) (tOr tA tB') := by
  intro wh pins s σ H Q I h
  refine isTrue_or (thn (ha pins s σ H _ I h) fun c s1 ⟨H1, I1, q1⟩ => ?_)
  cases c with
  | true => exact ⟨H1, I1, q1⟩
  | false => exact hb wh pins s1 σ H1 Q I1 q1
theorem pt_not (ha : PT X a tA) : PT X (.UnaryOp .Not a pos) (tNot tA) := by
  intro pins s σ H Q I h
  exact isTrue_not (ha pins s σ H (fun c H1 => Q (!c) H1) I h)
def tAndV (ta tb : TE) : TE := fun σ H Q => ta σ H fun x H1 => ∃ c, x = .bl c ∧ if c = true then tb σ H1 Q else Q (.bl false) H1
def tOrV (ta tb : TE) : TE := fun σ H Q => ta σ H fun x H1 => ∃ c, x = .bl c ∧ if c = true then Q (.bl true) H1 else tb σ H1 Q
def tNotV (ta : TE) : TE := fun σ H Q => ta σ H fun x H1 => ∃ c, x = .bl c ∧ Q (.bl (!c)) H1
def tIf (t : TT) (ta tb : TE) : TE := fun σ H Q => t σ H fun c H1 => if c = true then ta σ H1 Q else tb σ H1 Q
end
end L2
namespace L2
open PySem PySem.Spec PyProof.Rows
def SqL (K : PySem.W.Frag) (H : Hp) (a : Addr) (xs : List V) : Prop :=
  Rd H a (.lst xs) ∨
    ∃ (o : Obj) (its : Array Value) (n : Nat), K.lookup a = some o ∧ o.cls = .type "list" ∧ o.dict = none ∧ o.data = .seq its n ∧ its.size ≤ sizeLine ∧ Vals xs its.toList
def SqT (K : PySem.W.Frag) (H : Hp) (a : Addr) (xs : List V) : Prop :=
  Rd H a (.tup xs) ∨
    ∃ (o : Obj) (its : Array Value) (n : Nat), K.lookup a = some o ∧ o.cls = .type "tuple" ∧ o.data = .seq its n ∧ its.size ≤ sizeLine ∧ Vals xs its.toList
def absV : Value → Option V
  | .none => some .non
  | .bool b => some (.bl b)
  | .int i _ => some (.int i)
  | .str x _ => some (.str x)
  | .bytes b _ => some (.byt b)
  | .float b _ => some (.flt b)
  | .ref a => some (.ref a)
  | .type n => some (.ty n)
  | _ => none
theorem RelV.abs {x : V} {u : Value} (r : RelV x u) : absV u = some x := by
  cases x with
  | non => cases r; rfl
  | bl _ => cases r; rfl
  | int _ => obtain ⟨t, rfl⟩ := r; rfl
  | str _ => obtain ⟨t, rfl⟩ := r; rfl
  | byt _ => obtain ⟨t, rfl⟩ := r; rfl
  | flt _ => obtain ⟨t, rfl⟩ := r; rfl
  | ref _ => cases r; rfl
  | ty _ => cases r; rfl
theorem RelV.inj {x y : V} {u : Value} (r : RelV x u) (q : RelV y u) : x = y := Option.some.inj (r.abs.symm.trans q.abs)
theorem Vals.inj : ∀ {xs ys : List V} {us : List Value}, Vals xs us → Vals ys us → xs = ys
  | _, _, _, .nil, .nil => rfl
  | _, _, _, .cons r t, .cons r' t' => by rw [r.inj r', Vals.inj t t']
section
variable {X : Cx} {pins : List (Addr × Obj)} {σ : St} {H : Hp} {s : Shared} {a : Addr} {xs ys : List V}
theorem SqL.of {K : PySem.W.Frag} (h : H a = some (.lst xs)) : SqL K H a xs := .inl (.inl h)
theorem SqT.of {K : PySem.W.Frag} (h : H a = some (.tup xs)) : SqT K H a xs := .inl (.inl h)
theorem Inv.list (I : Inv X pins σ H s) (h : SqL X.K H a xs) : ∃ its : List Value, Vals xs its ∧ PlainL s.heap a its.toArray ∧ xs.length ≤ sizeLine := by
  rcases h with h | ⟨o, its, n, hk, hc, hd, hs, hz, r⟩
  · obtain ⟨z, its, n, r, e⟩ := h.ok I.hok
    exact ⟨its, r, ⟨_, n, e, rfl, rfl, rfl⟩, z⟩
  · refine ⟨its.toList, r, ⟨o, n, I.kIn a o hk, hc, hd, by simpa using hs⟩, ?_⟩
    have e := r.length
    simp only [Array.length_toList] at e
    omega
theorem Inv.tuple (I : Inv X pins σ H s) (h : SqT X.K H a xs) : ∃ its : List Value, Vals xs its ∧ IsTup s.heap a its.toArray ∧ xs.length ≤ sizeLine := by
  rcases h with h | ⟨o, its, n, hk, hc, hs, hz, r⟩
  · obtain ⟨z, its, r, p⟩ := h.ok I.hok
    exact ⟨its, r, p, z⟩
  · refine ⟨its.toList, r, ⟨o, I.kIn a o hk, hc, n, by simpa using hs⟩, ?_⟩
    have e := r.length
    simp only [Array.length_toList] at e
    omega
theorem Inv.list_inj (I : Inv X pins σ H s) (h : SqL X.K H a xs) (h' : SqL X.K H a ys) : xs = ys := by
  obtain ⟨its, r, ⟨o, n, e, _, _, d⟩, _⟩ := I.list h
  obtain ⟨its', r', ⟨o', n', e', _, _, d'⟩, _⟩ := I.list h'
  rw [e] at e'; cases e'
  rw [d] at d'
  injection d' with d1 _
  have : its = its' := by simpa using congrArg Array.toList d1
  subst this
  exact r.inj r'
end
abbrev Cx.wish (X : Cx) (E : Value → Shared → Prop) : Cx := { X with xe := E }
abbrev Cx.nox (X : Cx) : Cx := X.wish fun _ _ => False
theorem Cx.Ok.wish {X : Cx} (ok : X.Ok) (E : Value → Shared → Prop) : (X.wish E).Ok :=
  ⟨ok.mod, ok.kind, ok.glob, ok.blt, ok.above, ok.inj, ok.has, ok.cab, ok.hd, ok.frames, ok.stk, ok.exf, ok.bs, ok.bsz, ok.noex, ok.exfs, ok.funs, ok.frf⟩
theorem Cx.Ok.unwish {X : Cx} {E : Value → Shared → Prop} (ok : (X.wish E).Ok) : X.Ok :=
  ⟨ok.mod, ok.kind, ok.glob, ok.blt, ok.above, ok.inj, ok.has, ok.cab, ok.hd, ok.frames, ok.stk, ok.exf, ok.bs, ok.bsz, ok.noex, ok.exfs, ok.funs, ok.frf⟩
section
variable {X : Cx} {pins : List (Addr × Obj)} {σ : St} {H : Hp} {s : Shared} {E : Value → Shared → Prop}
theorem Inv.wish (I : Inv X pins σ H s) (E : Value → Shared → Prop) : Inv (X.wish E) pins σ H s := ⟨I.ok.wish E, I.os, I.bare, I.base, I.loc, I.cell, I.free, I.freeC, I.pin, I.hok, I.len⟩
theorem Inv.unwish (I : Inv (X.wish E) pins σ H s) : Inv X pins σ H s := ⟨I.ok.unwish, I.os, I.bare, I.base, I.loc, I.cell, I.free, I.freeC, I.pin, I.hok, I.len⟩
theorem SP.unwish {D : Ends} {f : Flow} {s' : Shared} (h : SP (X.wish E) pins D f s') : SP X pins D f s' := by
  cases f with
  | next => obtain ⟨σ', H', I, q⟩ := h; exact ⟨σ', H', I.unwish, q⟩
  | brk => obtain ⟨σ', H', I, q⟩ := h; exact ⟨σ', H', I.unwish, q⟩
  | cont => obtain ⟨σ', H', I, q⟩ := h; exact ⟨σ', H', I.unwish, q⟩
  | ret u => obtain ⟨v, σ', H', I, r, q⟩ := h; exact ⟨v, σ', H', I.unwish, r, q⟩
theorem PE.nox {e : Expr} {t : TE} (h : PE X.nox e t) : PE X e t := fun pins s σ H Q I hw =>
  wpAny_mono (h pins s σ H Q (I.wish _) hw) (fun _ _ ⟨v, H', I', r, q⟩ => ⟨v, H', I'.unwish, r, q⟩) fun _ _ z => False.elim z
theorem PT.nox {e : Expr} {t : TT} (h : PT X.nox e t) : PT X e t := fun pins s σ H Q I hw =>
  wpAny_mono (h pins s σ H Q (I.wish _) hw) (fun _ _ ⟨H', I', q⟩ => ⟨H', I'.unwish, q⟩) fun _ _ z => False.elim z
theorem PSs.nox {st : List Stmt} {t : TS} (h : PSs X.nox st t) : PSs X st t := fun pins s σ H D I hw =>
  wpAny_mono (h pins s σ H D (I.wish _) hw) (fun _ _ q => q.unwish) fun _ _ z => False.elim z
end
section
variable {X : Cx} {st : Stmt} {rest : List Stmt} {t u : TS} {e : Expr} {te : TE} {pos : Pos}
def tNext : TS := fun D σ H => D.nx σ H
def tSeq (t u : TS) : TS := fun D σ H => t { D with nx := u D } σ H
theorem pss_nil : PSs X [] tNext := fun _ _ σ H _ I h => wpAny_execs_nil ⟨σ, H, I, h⟩
theorem pss_cons (h1 : PS X st t) (h2 : PSs X rest u) : PSs X (st :: rest) (tSeq t u) := by
  intro pins s σ H D I h
  refine wpAny_execs_cons (thn (h1 pins s σ H { D with nx := u D } I h) fun f s1 q => ?_)
  cases f with
  | next =>
    obtain ⟨σ', H', I', q⟩ := q
    exact h2 pins s1 σ' H' D I' q
  | ret v => exact q
  | brk => exact q
  | cont => exact q
theorem pss_one (h1 : PS X st t) : PSs X [st] t := by
  intro pins s σ H D I h
  refine wpAny_execs_cons (thn (h1 pins s σ H D I h) fun f s1 q => ?_)
  cases f with
  | next => exact wpAny_execs_nil q
  | ret v => exact q
  | brk => exact q
  | cont => exact q
def tBreak : TS := fun D σ H => D.bk σ H
def tCont : TS := fun D σ H => D.ct σ H
theorem ps_continue : PS X (.Continue pos) tCont := fun _ _ σ H _ I h => wpAny_Continue ⟨σ, H, I, h⟩
theorem Inv.quiet {pins : List (Addr × Obj)} {σ : St} {H : Hp} {s : Shared} (I : Inv X pins σ H s) : interactive X.env = false := by simp [interactive, I.ok.kind]
def tDrop (te : TE) : TS := fun D σ H => te σ H fun _ H1 => D.nx σ H1
theorem ps_expr (he : PE X e te) (hs : swapsWith e none pos.line X.env = pure false := by rfl) : PS X (.Expr e pos) (tDrop te) := by
  intro pins s σ H D I h
  exact wpAny_Expr_any (thn (he pins s σ H _ I h) fun v s1 ⟨x, H1, I1, r1, q1⟩ => ⟨σ, H1, I1, q1⟩) I.quiet hs
def tRet (te : TE) : TS := fun D σ H => te σ H D.rt
theorem ps_ret (he : PE X e te) : PS X (.Return (some e) pos) (tRet te) := by
  intro pins s σ H D I h
  exact wpAny_Return_some (thn (he pins s σ H _ I h) fun v s1 ⟨x, H1, I1, r1, q1⟩ => ⟨x, σ, H1, I1, r1, q1⟩)
def tRetN : TS := fun D _ H => D.rt .non H
def tIfS (c : TT) (t u : TS) : TS := fun D σ H => c σ H fun b H1 => if b = true then t D σ H1 else u D σ H1
theorem ps_if {c : Expr} {a b : List Stmt} {tc : TT} (hc : PT X c tc) (ha : PSs X a t) (hb : PSs X b u) : PS X (.If c a b pos) (tIfS tc t u) := by
  intro pins s σ H D I h
  refine wpAny_If (thn (hc pins s σ H _ I h) fun d s1 ⟨H1, I1, q1⟩ => ?_)
  cases d with
  | true => exact ha pins s1 σ H1 D I1 q1
  | false => exact hb pins s1 σ H1 D I1 q1
def tNever : TS := fun _ _ _ => False
theorem ps_never : PS X st tNever := fun _ _ _ _ _ _ h => h.elim
end
abbrev TG := V → St → Hp → (St → Hp → Prop) → Prop
abbrev TGs := List V → St → Hp → (St → Hp → Prop) → Prop
def PG (X : Cx) (target : Expr) (t : TG) : Prop :=
  ∀ (pins : List (Addr × Obj)) (s : Shared) (σ : St) (H : Hp) (v : V) (u : Value) (Q : St → Hp → Prop), Inv X pins σ H s → RelV v u → t v σ H Q →
    wpAny (model X.prog X.w) X.A (assign target X.env u) (fun _ s' => ∃ σ' H', Inv X pins σ' H' s' ∧ Q σ' H') X.xe s
def PGs (X : Cx) (ts : List Expr) (t : TGs) : Prop :=
  ∀ (pins : List (Addr × Obj)) (s : Shared) (σ : St) (H : Hp) (vs : List V) (us : List Value) (Q : St → Hp → Prop), Inv X pins σ H s → Vals vs us → t vs σ H Q →
    wpAny (model X.prog X.w) X.A (assignInOrder ((assignEach ts X.env).map (·.2)) us) (fun _ s' => ∃ σ' H', Inv X pins σ' H' s' ∧ Q σ' H') X.xe s
abbrev TSet := V → V → V → Hp → (Hp → Prop) → Prop
def PSet (X : Cx) (t : TSet) : Prop :=
  ∀ (pins : List (Addr × Obj)) (s : Shared) (σ : St) (H : Hp) (o i v : V) (ov iv u : Value) (Q : Hp → Prop), Inv X pins σ H s → RelV o ov → RelV i iv → RelV v u → t o i v H Q →
    wpAny (model X.prog X.w) X.A (setItem ov iv u) (fun _ s' => ∃ H', Inv X pins σ H' s' ∧ Q H') X.xe s
abbrev TIp := V → V → Hp → VK → Prop
def PIp (X : Cx) (op : Operator) (t : TIp) : Prop :=
  ∀ (pins : List (Addr × Obj)) (s : Shared) (σ : St) (H : Hp) (x y : V) (v u : Value) (Q : VK), Inv X pins σ H s → RelV x v → RelV y u → t x y H Q →
    wpAny (model X.prog X.w) X.A (inplaceOp op v u) (EP X pins σ Q) X.xe s
section
variable {X : Cx} {pos : Pos}
def gName (i : Nat) : TG := fun v σ H Q => Q (σ.set i (some v)) H
theorem pg_name {i : Nat} {x : Str} (hN : X.N.Nodup) (hi : X.N[i]? = some x) (hx : Loc X.env.scope x) (hf : X.fn x = true ∨ X.env.scope.names.lookup x = some .local := by first | exact .inl rfl | exact .inr rfl | assumption) : PG X (.Name x pos) (gName i) := by
  intro pins s σ H v u Q I r h
  exact wpAny_assign_Name (store_ok I hN hi hx r (fun s' I' => ⟨_, H, I', h⟩) hf)
def gNil : TGs := fun vs σ H Q => vs = [] ∧ Q σ H
def gCons (t : TG) (u : TGs) : TGs := fun vs σ H Q => ∃ v r, vs = v :: r ∧ t v σ H fun σ' H' => u r σ' H' Q
theorem pgs_nil : PGs X [] gNil := by
  intro pins s σ H vs us Q I r h
  obtain ⟨e, h⟩ := h
  subst e
  cases r
  exact assignInOrder_nil ⟨σ, H, I, h⟩
theorem pgs_cons {e : Expr} {es : List Expr} {t : TG} {u : TGs} (h1 : PG X e t) (h2 : PGs X es u)
    (hs : (assignEach (e :: es) X.env).map (·.2) = assign e X.env :: (assignEach es X.env).map (·.2) := by rfl) : PGs X (e :: es) (gCons t u) := by
  intro pins s σ H vs us Q I r h
  obtain ⟨v, vr, e1, h⟩ := h
  subst e1
  cases r with
  | cons r rr =>
    rw [hs]
    refine assignInOrder_cons (thn (h1 pins s σ H _ _ _ I r h) fun _ s1 ⟨σ1, H1, I1, q1⟩ => ?_)
    exact h2 pins s1 σ1 H1 _ _ Q I1 rr q1
def gTup (K : PySem.W.Frag) (n : Nat) (t : TGs) : TG := fun v σ H Q => ∃ a xs, v = .ref a ∧ SqT K H a xs ∧ xs.length = n ∧ t xs σ H Q
theorem pg_tup {es : List Expr} {k : Nat} {t : TGs} {n : Nat} (hc : X.calm = true) (h : PGs X es t)
    (hn : (assignEach es X.env).length = n := by rfl) (hst : (assignEach es X.env).findIdx? (·.1) = none := by rfl) : PG X (.Tuple es k pos) (gTup X.K n t) := by
  intro pins s σ H v u Q I r hw
  obtain ⟨a, xs, e1, hq, hl, hw⟩ := hw
  subst e1
  cases r
  obtain ⟨its, rv, ht, hz⟩ := I.tuple hq
  refine assign_Tuple_tuple (I.ok.hd hc) ht (by simp [hn, ← hl, rv.length]) hst fun h' hx => ?_
  have I1 : Inv X pins σ H { s with heap := h' } := I.kept (t' := s.toks) fun b o e => hx b o (Nat.ne_of_lt (Heap.lt_size e)) e
  exact h pins _ σ H xs _ Q I1 (by simpa using rv) hw
def gSub (to ti : TE) (t : TSet) : TG := fun v σ H Q => to σ H fun o H1 => ti σ H1 fun i H2 => t o i v H2 fun H3 => Q σ H3
theorem pg_sub {o i : Expr} {to ti : TE} {t : TSet} (ho : PE X o to) (hi : PE X i ti) (hs : PSet X t)
    (ha : ∀ v, assign (.Subscript o i pos) X.env v = (do
      let ov ← holding [v] (eval o X.env)
      let iv ← holding [v, ov] (eval i X.env)
      standAt pos
      holding [v, ov, iv] (setItem ov iv v)
      release [v, ov, iv] []) := by intro _; rfl) : PG X (.Subscript o i pos) (gSub to ti t) := by
  intro pins s σ H v u Q I r h
  rw [ha]
  refine wpAny_bind (wpAny_holding (thn (ho pins s σ H _ I h) fun ov s1 ⟨x, H1, I1, r1, q1⟩ => ?_))
  refine wpAny_bind (wpAny_holding (thn (hi pins s1 σ H1 _ I1 q1) fun iv s2 ⟨y, H2, I2, r2, q2⟩ => ?_))
  refine wpAny_bind (wpAny_standAt (wpAny_bind (wpAny_holding (thn (hs pins s2 σ H2 x y v ov iv u _ I2 r1 r2 r q2) fun _ s3 ⟨H3, I3, q3⟩ => ?_))))
  exact wpAny_release ⟨σ, H3, I3, q3⟩
def tAsg (te : TE) (g : TG) : TS := fun D σ H => te σ H fun x H1 => g x σ H1 D.nx
theorem ps_asg {tg e : Expr} {te : TE} {g : TG} (he : PE X e te) (hg : PG X tg g) (hs : swapsWithSole [tg] e pos.line X.env = pure false := by rfl) (hw : swappedStores [tg] e X.env = pure none := by rfl)
    (h1 : (assignEach [tg] X.env).map (·.2) = [assign tg X.env] := by rfl) : PS X (.Assign [tg] e pos) (tAsg te g) := by
  intro pins s σ H D I h
  refine wpAny_Assign_stores (thn (he pins s σ H _ I h) fun v s1 ⟨x, H1, I1, r1, q1⟩ => ?_) hs hw
  rw [h1]
  exact thn (hg pins s1 σ H1 x v _ I1 r1 q1) fun _ s2 q => q
theorem ps_set {i : Nat} {x : Str} {e : Expr} {te : TE} {pos' : Pos} (hN : X.N.Nodup) (hi : X.N[i]? = some x) (hx : Loc X.env.scope x) (he : PE X e te) (hs : swapsWith e (some (.Name x pos')) pos.line X.env = pure false := by rfl) (hf : X.fn x = true ∨ X.env.scope.names.lookup x = some .local := by first | exact .inl rfl | exact .inr rfl | assumption) :
    PS X (.Assign [.Name x pos'] e pos) (tAsg te (gName i)) := by
  intro pins s σ H D I h
  refine wpAny_Assign_Name (thn (he pins s σ H _ I h) fun v s1 ⟨y, H1, I1, r1, q1⟩ => ?_) hs
  exact store_ok I1 hN hi hx r1 (fun s2 I2 => ⟨_, H1, I2, q1⟩) hf
def tPar (i j : Nat) (ta : TA) : TS := fun D σ H => ta σ H fun vs H1 => ∃ v w, vs = [v, w] ∧ D.nx ((σ.set i (some v)).set j (some w)) H1
def tAug (i : Nat) (te : TE) (ti : TIp) : TS := fun D σ H => ∃ x, σ[i]? = some (some x) ∧ te σ H fun y H1 => ti x y H1 fun z H2 => D.nx (σ.set i (some z)) H2
theorem ps_aug {i : Nat} {x : Str} {e : Expr} {te : TE} {op : Operator} {ti : TIp} {pos' : Pos} (hN : X.N.Nodup) (hi : X.N[i]? = some x) (hx : Loc X.env.scope x) (he : PE X e te) (ho : PIp X op ti) (hf : X.fn x = true ∨ X.env.scope.names.lookup x = some .local := by first | exact .inl rfl | exact .inr rfl | assumption) :
    PS X (.AugAssign (.Name x pos') op e pos) (tAug i te ti) := by
  intro pins s σ H D I h
  obtain ⟨v, e1, h⟩ := h
  obtain ⟨m, hn, hl⟩ := I.loc
  have vis : Vis X.env.scope x := by rcases hx with k | k; exact .inl k; exact .inr (.inl k)
  obtain ⟨u, r, l⟩ := hl i x v hi e1 vis
  refine wpAny_AugAssign_Name ?_
  have go : wpAny (model X.prog X.w) X.A (eval e X.env) (fun w s₂ => wpAny (model X.prog X.w) X.A (inplaceOp op u w) (fun r s₃ => wpAny (model X.prog X.w) X.A (storeName X.env x r) (fun _ => SP X pins D .next) X.xe s₃) X.xe s₂) X.xe s := by
    refine thn (he pins s σ H _ I h) fun w s1 ⟨y, H1, I1, r1, q1⟩ => ?_
    refine thn (ho pins s1 σ H1 v y u w _ I1 r r1 q1) fun z s2 ⟨zv, H2, I2, r2, q2⟩ => ?_
    exact store_ok I2 hN hi hx r2 (fun s3 I3 => ⟨_, H2, I3, q2⟩) hf
  rcases l with ⟨hk, hm⟩ | ⟨hk, c, hc, hcell⟩
  · exact wpAny_loadName_local I.ok.kind hk hn hm go
  · rcases hk with hk | hk
    · exact wpAny_loadName_cell I.ok.kind hk hc hcell go
    · rcases hx with k | k
      · have : X.env.scope.names.lookup x = some .free := hk
        rw [k] at this; cases this
      · have : X.env.scope.names.lookup x = some .free := hk
        rw [k] at this; cases this
def tAugS (to ti te : TE) (tget : V → V → Hp → VK → Prop) (tip : TIp) (tset : TSet) : TS := fun D σ H => to σ H fun o H1 => ti σ H1 fun i H2 => tget o i H2 fun x H3 => te σ H3 fun y H4 => tip x y H4 fun z H5 => tset o i z H5 fun H6 => D.nx σ H6
def PGet (X : Cx) (t : V → V → Hp → VK → Prop) : Prop :=
  ∀ (pins : List (Addr × Obj)) (s : Shared) (σ : St) (H : Hp) (o i : V) (ov iv : Value) (Q : VK), Inv X pins σ H s → RelV o ov → RelV i iv → t o i H Q →
    wpAny (model X.prog X.w) X.A (getItem ov iv) (EP X pins σ Q) X.xe s
def ipI (f : Int → Int → Int) : TIp := fun x y H Q => ∃ i j, x = .int i ∧ y = .int j ∧ Q (.int (f i j)) H
theorem ip_add : PIp X .Add (ipI fun i j => i + j) := by
  intro pins s σ H x y v u Q I r1 r2 h
  obtain ⟨i, j, e1, e2, q⟩ := h
  subst e1; subst e2
  obtain ⟨t, rfl⟩ := r1
  obtain ⟨t', rfl⟩ := r2
  exact iadd_int ⟨.int _, H, I.tok _, ⟨_, rfl⟩, q⟩
end
section
variable {X : Cx} {pos : Pos}
def tWhile (c : TT) (tb : TS) : TS := fun D σ H => ∃ W : Nat → St → Hp → Prop, (∃ m, W m σ H) ∧ ∀ m σ H, W m σ H →
  c σ H fun b H1 => if b = true then ∃ N : St → Hp → Prop, (∀ σ' H', N σ' H' → ∃ m', m' < m ∧ W m' σ' H') ∧ tb { D with nx := N, ct := N, bk := D.nx } σ H1 else D.nx σ H1
theorem ps_while {c : Expr} {body : List Stmt} {tc : TT} {tb : TS} (hp : PassesOwn (model X.prog X.w) X.A X.env X.xe) (hc : PT X c tc) (hb : PSs X body tb) : PS X (.While c body [] pos) (tWhile tc tb) := by
  intro pins s σ H D I h
  obtain ⟨W, ⟨m0, w0⟩, turn⟩ := h
  refine wpAny_While (codeAny_whileLoop (fun n s' => ∃ σ' H', Inv X pins σ' H' s' ∧ W n σ' H') ?_ m0 ⟨σ, H, I, w0⟩)
  rintro n s1 ⟨σ1, H1, I1, w1⟩
  refine wpAny_passesOwn hp (thn (hc pins s1 σ1 H1 _ I1 (turn n σ1 H1 w1)) fun b s2 ⟨H2, I2, q2⟩ => ?_)
  cases b with
  | true =>
    obtain ⟨N, hN, q2⟩ := q2
    rw [if_pos rfl]
    refine wpAny_passesOwn hp (thn (hb pins s2 σ1 H2 _ I2 q2) fun f s3 q3 => ?_)
    cases f with
    | next =>
      obtain ⟨σ3, H3, I3, n3⟩ := q3
      obtain ⟨m', hm, w3⟩ := hN σ3 H3 n3
      exact ⟨m', hm, σ3, H3, I3, w3⟩
    | cont =>
      obtain ⟨σ3, H3, I3, n3⟩ := q3
      obtain ⟨m', hm, w3⟩ := hN σ3 H3 n3
      exact ⟨m', hm, σ3, H3, I3, w3⟩
    | brk => exact q3
    | ret v => exact q3
  | false =>
    rw [if_neg Bool.false_ne_true]
    exact wpAny_execs_nil ⟨σ1, H2, I2, q2⟩
end
structure It where
  go : Nat → Hp → Prop
  yld : Nat → Hp → V → Hp → Prop
  stop : Nat → Hp → Prop
def FpOk (X : Cx) (pins : List (Addr × Obj)) (H : Hp) (b : Addr) : Prop :=
  H b = none ∧ b ≠ X.env.locals ∧ b ∉ X.fs ∧ (b ∈ X.ex ∨ X.s₀.heap.objs.size ≤ b) ∧ (∀ x c, X.env.cells.lookup x = some c → c ≠ b) ∧ ∀ p ∈ X.pn ++ pins, p.1 ≠ b
theorem Inv.fpOk {X : Cx} {pins : List (Addr × Obj)} {σ : St} {H H' : Hp} {s : Shared} {b : Addr} (I : Inv X pins σ H s) (hb : s.heap.objs.size ≤ b) (hn : H' b = none) : FpOk X pins H' b := by
  refine ⟨hn, Nat.ne_of_gt (Nat.lt_of_lt_of_le I.lt hb), I.nofs hb, .inr (Nat.le_trans I.sz hb), fun x c e z => ?_, fun p hp z => ?_⟩
  · obtain ⟨v, q⟩ := I.cell x c e
    exact absurd (Nat.lt_of_lt_of_le q.lt (by rw [z]; exact hb)) (Nat.lt_irrefl _)
  · exact absurd (Nat.lt_of_lt_of_le (Heap.lt_size (I.pin p hp).1) (by rw [z]; exact hb)) (Nat.lt_irrefl _)
structure Turn (P : Program) (w : World) (K : PySem.W.Frag) (tg : Expr) (J : It) (fp : List Addr) (it : Addr) (tn : Nat → Heap → Prop) : Prop where
  mem : it ∈ fp
  obj : ∀ i h, tn i h → ∀ b ∈ fp, ∃ o, h.get? b = some o ∧ ∀ v, o.data ≠ .cell v
  keep : ∀ i h h', tn i h → (∀ b ∈ fp, ∀ o, h.get? b = some o → h'.get? b = some o) → tn i h'
  item : ∀ (X : Cx), X.prog = P → X.w = w → X.K = K → X.calm = true → ∀ (i : Nat) (pins : List (Addr × Obj)) (s : Shared) (σ : St) (H : Hp) (E : Value → Shared → Prop), Inv X pins σ H s → (∀ b ∈ fp, FpOk X pins H b) → tn i s.heap → J.go i H →
    wpAny (model P w) X.A (pyNext (.ref it)) (fun r s1 => ∃ u, r = some u ∧
      wpAny (model P w) X.A (letOwnedTupleGo tg (.ref it) u) (fun _ s2 => ∃ x H', Inv X pins σ H' s2 ∧ RelV x u ∧ J.yld i H x H' ∧ tn (i + 1) s2.heap ∧ ∀ b ∈ fp, H' b = none) E s1) E s
  done : ∀ (X : Cx), X.prog = P → X.w = w → X.K = K → X.calm = true → ∀ (i : Nat) (pins : List (Addr × Obj)) (s : Shared) (σ : St) (H : Hp) (E : Value → Shared → Prop), Inv X pins σ H s → (∀ b ∈ fp, FpOk X pins H b) → tn i s.heap → J.stop i H →
    wpAny (model P w) X.A (pyNext (.ref it)) (fun r s1 => r = none ∧ Inv X pins σ H s1) E s
  self : ∀ (A : Around) (i : Nat) (s : Shared) (Q : Value → Shared → Prop) (E : Value → Shared → Prop), tn i s.heap → Q (.ref it) s → wpAny (model P w) A (pyIter (.ref it)) Q E s
abbrev TI := St → Hp → (It → Hp → Prop) → Prop
def PIE (X : Cx) (pins : List (Addr × Obj)) (σ : St) (tg : Expr) (R : It → Hp → Prop) (itv : Value) (s2 : Shared) : Prop :=
  ∃ (it : Addr) (fp : List Addr) (tn : Nat → Heap → Prop) (J : It) (H' : Hp), itv = .ref it ∧ Inv X pins σ H' s2 ∧ Turn X.prog X.w X.K tg J fp it tn ∧ tn 0 s2.heap ∧ (∀ b ∈ fp, FpOk X pins H' b) ∧ R J H'
def PI (X : Cx) (tg iter : Expr) (wi : TI) : Prop :=
  ∀ (pins : List (Addr × Obj)) (s : Shared) (σ : St) (H : Hp) (R : It → Hp → Prop), Inv X pins σ H s → wi σ H R →
    wpAny (model X.prog X.w) X.A (eval iter X.env) (fun v s1 => wpAny (model X.prog X.w) X.A (pyIter v) (PIE X pins σ tg R) X.xe s1) X.xe s
theorem go_of {M : Model} {A : Around} {E : Value → Shared → Prop} {s : Shared} {tg : Expr} {it : Addr} {u : Value} {o : Obj} {n : String} {vs : Array Value} {Q : Unit → Shared → Prop} (ho : s.heap.get? it = some o) (hc : o.cls = .type n) (hd : o.data = .fields vs)
    (hn : ["enumerate", "zip", "dict_itemiterator", "dict_reverseitemiterator", "odict_iterator", "itertools.zip_longest", "itertools.pairwise"].contains n = false) (hQ : Q () s) : wpAny M A (letOwnedTupleGo tg (.ref it) u) Q E s := by
  unfold letOwnedTupleGo
  cases tg <;> first
    | exact wpAny_pure hQ
    | (cases u <;> first
        | exact wpAny_pure hQ
        | (refine wpAny_bind (wpAny_load ho ?_)
           rw [hc, hd]
           show wpAny M A (if (["enumerate", "zip", "dict_itemiterator", "dict_reverseitemiterator", "odict_iterator", "itertools.zip_longest", "itertools.pairwise"].contains n && vs[0]? == some (rawInt _)) = true then _ else _) Q E s
           rw [if_neg (by intro h; rw [hn, Bool.false_and] at h; cases h)]
           exact wpAny_pure hQ))
def Itl (K : PySem.W.Frag) (a : Addr) : It :=
  ⟨fun i H => ∃ xs x, SqL K H a xs ∧ xs[i]? = some x, fun i H x H' => H' = H ∧ ∀ xs, SqL K H a xs → xs[i]? = some x, fun i H => ∃ xs, SqL K H a xs ∧ xs.length ≤ i⟩
def Itt (K : PySem.W.Frag) (a : Addr) : It :=
  ⟨fun i H => ∃ xs x, SqT K H a xs ∧ xs[i]? = some x, fun i H x H' => H' = H ∧ ∀ xs, SqT K H a xs → xs[i]? = some x, fun i H => ∃ xs, SqT K H a xs ∧ xs.length ≤ i⟩
def Itr (lo : Int) (n : Nat) : It := ⟨fun i _ => i < n, fun i H x H' => H' = H ∧ x = .int (lo + i), fun i _ => n ≤ i⟩
theorem turn_list {P : Program} {w : World} {K : PySem.W.Frag} {tg : Expr} (a it : Addr) : Turn P w K tg (Itl K a) [it] it (fun i h => h.IsListIter it a i) where
  mem := by simp
  obj := fun i h st b hb => by
    have e : b = it := by simpa using hb
    subst e
    obtain ⟨o, e, c, d⟩ := st
    exact ⟨o, e, fun v z => by rw [d] at z; cases z⟩
  keep := fun i h h' st k => st.at fun o e => k it (by simp) o e
  item := by
    intro X hP hw hK hc i pins s σ H E I hf st hg
    subst hP hw hK
    obtain ⟨xs, x, hq, hx⟩ := hg
    obtain ⟨its, rv, p, hz⟩ := I.list hq
    obtain ⟨u, hu, ru⟩ := rv.get hx
    obtain ⟨f0, f1, f2, f3, f4, f5⟩ := hf it (by simp)
    refine wpAny_pyNext_list_item st p.isList (x := u) (by simpa using hu) fun h' st' sb => ?_
    have I1 : Inv X pins σ H { s with heap := h' } := I.turned (t' := s.toks) (fun b o hb e => (sb.2 b hb).trans e) f0 f1 f3 f4 f5
    obtain ⟨o, e, c, d⟩ := id st'
    exact ⟨u, rfl, go_of (s := { s with heap := h' }) e c d (by decide) ⟨x, H, I1, ru, ⟨rfl, fun ys hy => by rw [I.list_inj hy hq]; exact hx⟩, st', fun b hb => (hf b hb).1⟩⟩
  done := by
    intro X hP hw hK hc i pins s σ H E I hf st hg
    subst hP hw hK
    obtain ⟨xs, hq, hx⟩ := hg
    obtain ⟨its, rv, p, hz⟩ := I.list hq
    obtain ⟨f0, f1, f2, f3, f4, f5⟩ := hf it (by simp)
    have hl := rv.length
    exact wpAny_pyNext_list_end (I.ok.hd hc) st p.isList (by simp; omega) fun h' eb => ⟨rfl, I.turned (t' := s.toks) (fun b o hb e => eb b o hb e) f0 f1 f3 f4 f5⟩
  self := fun _ _ _ _ _ st h => wpAny_pyIter_listiter st h
theorem turn_range {P : Program} {w : World} {K : PySem.W.Frag} {tg : Expr} (it : Addr) (lo : Int) (n : Nat) : Turn P w K tg (Itr lo n) [it] it (fun i h => IsRangeIter h it (lo + (i : Nat) * 1) ((n : Int) - (i : Nat)) 1) where
  mem := by simp
  obj := fun i h st b hb => by
    have e : b = it := by simpa using hb
    subst e
    exact ⟨_, st, fun v z => by
      have z' : Data.fields _ = Data.cell v := z
      cases z'⟩
  keep := fun i h h' st k => k it (by simp) _ st
  item := by
    intro X hP hw hK hc i pins s σ H E I hf st hg
    subst hP hw hK
    obtain ⟨f0, f1, f2, f3, f4, f5⟩ := hf it (by simp)
    have W := Walks.range (prog := X.prog) (w := X.w) (I.ok.hd hc) it lo 1 n
    refine W.item i s _ _ hg st fun v h' tk hv st' kk => ?_
    obtain ⟨t, rfl⟩ := hv
    have I1 : Inv X pins σ H { s with heap := h', toks := tk } := I.turned (fun b o hb e => kk b o (by simpa using hb) e) f0 f1 f3 f4 f5
    refine ⟨_, rfl, go_of (s := { s with heap := h', toks := tk }) (n := "range_iterator") st' rfl rfl (by decide) ⟨.int (lo + i), H, I1, ⟨t, ?_⟩, ⟨rfl, rfl⟩, st', fun b hb => (hf b hb).1⟩⟩
    rw [Int.mul_one]
  done := by
    intro X hP hw hK hc i pins s σ H E I hf st hg
    subst hP hw hK
    obtain ⟨f0, f1, f2, f3, f4, f5⟩ := hf it (by simp)
    exact wpAny_pyNext_range_end (I.ok.hd hc) st (by have : n ≤ i := hg; omega) fun h' eb => ⟨rfl, I.turned (t' := s.toks) (fun b o hb e => eb b o hb e) f0 f1 f3 f4 f5⟩
  self := fun _ _ _ _ _ st h => wpAny_pyIter_rangeiter st h
end L2
namespace L2
open PySem PySem.Spec PyProof.Rows
section
variable {X : Cx} {tg : Expr}
def iList (K : PySem.W.Frag) (tl : TE) : TI := fun σ H R => tl σ H fun x H1 => ∃ a, x = .ref a ∧ (∃ xs, SqL K H1 a xs) ∧ R (Itl K a) H1
def iTup (K : PySem.W.Frag) (tl : TE) : TI := fun σ H R => tl σ H fun x H1 => ∃ a, x = .ref a ∧ (∃ xs, SqT K H1 a xs) ∧ R (Itt K a) H1
theorem pi_list {l : Expr} {tl : TE} (hl : PE X l tl) : PI X tg l (iList X.K tl) := by
  intro pins s σ H R I h
  refine thn (hl pins s σ H _ I h) fun v s1 ⟨x, H1, I1, r1, q1⟩ => ?_
  obtain ⟨a, e, ⟨xs, hq⟩, q⟩ := q1
  subst e
  cases r1
  obtain ⟨its, rv, p, hz⟩ := I1.list hq
  refine wpAny_pyIter_list p.isList ?_
  refine ⟨s1.heap.objs.size, [s1.heap.objs.size], _, _, H1, rfl, I1.kept (t' := s1.toks) fun b o e => Heap.get?_push_of_some _ e, turn_list a _, ⟨_, Heap.get?_push_size _ rfl, rfl, rfl⟩, fun b hb => ?_, q⟩
  have e : b = s1.heap.objs.size := by simpa using hb
  subst e
  exact I1.fpOk (Nat.le_refl _) (I1.hok.fresh (Nat.le_refl _))
theorem range_it {pins : List (Addr × Obj)} {σ : St} {H : Hp} {s : Shared} {R : It → Hp → Prop} {E : Value → Shared → Prop} {lo hi : Int} {t u v : Tok} {tk : Nat} (I : Inv X pins σ H s) (h1 : -(2 ^ 62) ≤ lo) (h2 : lo < 2 ^ 62) (h3 : -(2 ^ 62) ≤ hi) (h4 : hi < 2 ^ 62)
    (q : R (Itr lo (hi - lo).toNat) H) : wpAny (model X.prog X.w) X.A (pyIter (.ref s.heap.objs.size)) (PIE X pins σ tg R) E { s with heap := s.heap.push { cls := .type "range", data := .fields #[.int lo t, .int hi u, .int 1 v] }, toks := tk } := by
  refine wpAny_pyIter_range (IsRange.new ..) (small_one h1 h2 h3 h4) ?_
  have I1 : Inv X pins σ H { s with heap := s.heap.push { cls := .type "range", data := .fields #[.int lo t, .int hi u, .int 1 v] }, toks := tk } := I.kept fun b o e => Heap.get?_push_of_some _ e
  refine ⟨(s.heap.push { cls := .type "range", data := .fields #[.int lo t, .int hi u, .int 1 v] }).objs.size, [(s.heap.push { cls := .type "range", data := .fields #[.int lo t, .int hi u, .int 1 v] }).objs.size], _, _, H, rfl,
    I1.kept (t' := tk) fun b o e => Heap.get?_push_of_some _ e, turn_range _ lo (hi - lo).toNat, ?_, fun b hb => ?_, q⟩
  · have e1 : lo + ((0 : Nat) : Int) * 1 = lo := by simp
    have e2 : (((hi - lo).toNat : Nat) : Int) - ((0 : Nat) : Int) = Builtin.Range.rangeSize lo hi 1 := by rw [rangeSize_one]; split <;> omega
    show IsRangeIter _ _ (lo + ((0 : Nat) : Int) * 1) ((((hi - lo).toNat : Nat) : Int) - ((0 : Nat) : Int)) 1
    rw [e1, e2]
    exact Heap.get?_push_size _ rfl
  · have e : b = (s.heap.push { cls := .type "range", data := .fields #[.int lo t, .int hi u, .int 1 v] }).objs.size := by simpa using hb
    subst e
    exact I1.fpOk (Nat.le_refl _) (I1.hok.fresh (Nat.le_refl _))
def iRng1 (ta : TA) : TI := fun σ H R => ta σ H fun vs H1 => ∃ j : Int, vs = [.int j] ∧ -(2 ^ 62) ≤ j ∧ j < 2 ^ 62 ∧ R (Itr 0 j.toNat) H1
def iRng2 (ta : TA) : TI := fun σ H R => ta σ H fun vs H1 => ∃ i j : Int, vs = [.int i, .int j] ∧ (-(2 ^ 62) ≤ i ∧ i < 2 ^ 62 ∧ -(2 ^ 62) ≤ j ∧ j < 2 ^ 62) ∧ R (Itr i (j - i).toNat) H1
theorem pi_range1 {a : Expr} {ta : TA} {p pos : Pos} (hg : Gl X "range") (hm : X.mg "range" = none) (ha : PA X [a] ta) (hs : starEach [a] X.env = [(false, eval a X.env)] := by rfl) : PI X tg (.Call (.Name "range" p) [a] [] pos) (iRng1 ta) := by
  intro pins s σ H R I h
  refine Call_ (ld_blt I hg hm boot_range (PyProof.Rows.callWith_type1 (thn (ha pos pins s σ H _ I h) fun us s1 ⟨vs, H1, I1, r1, q1⟩ => ?_) hs rfl))
  obtain ⟨j, e, q1, q2, q⟩ := q1
  subst e
  cases r1 with
  | cons r rr =>
    cases rr
    obtain ⟨t, rfl⟩ := r
    exact call_range_1 (range_it I1 (by omega) (by omega) q1 q2 (by simpa using q))
def tFor (wi : TI) (g : TG) (tb : TS) : TS := fun D σ H => wi σ H fun J H1 => ∃ W : Nat → Nat → St → Hp → Prop, (∃ m, W 0 m σ H1) ∧ ∀ i m σ H, W i m σ H →
  (J.stop i H ∧ D.nx σ H) ∨ (J.go i H ∧ ∃ N : St → Hp → Prop, (∀ σ' H', N σ' H' → ∃ m', m' < m ∧ W (i + 1) m' σ' H') ∧ ∀ x H', J.yld i H x H' → g x σ H' fun σ2 H2 => tb { D with nx := N, ct := N, bk := D.nx } σ2 H2)
def pinsAt (fp : List Addr) (h : Heap) : List (Addr × Obj) := fp.filterMap fun b => (h.get? b).map fun o => (b, o)
theorem mem_pinsAt {fp : List Addr} {h : Heap} {b : Addr} {o : Obj} (hb : b ∈ fp) (e : h.get? b = some o) : (b, o) ∈ pinsAt fp h := List.mem_filterMap.mpr ⟨b, hb, by rw [e]; rfl⟩
theorem of_pinsAt {fp : List Addr} {h : Heap} {p : Addr × Obj} (hp : p ∈ pinsAt fp h) : p.1 ∈ fp ∧ h.get? p.1 = some p.2 := by
  obtain ⟨b, hb, e⟩ := List.mem_filterMap.mp hp
  cases q : h.get? b with
  | none => rw [q] at e; cases e
  | some o =>
    rw [q] at e
    have e' : (b, o) = p := Option.some.inj e
    subst e'
    exact ⟨hb, q⟩
theorem Inv.pinned {pins : List (Addr × Obj)} {σ : St} {H : Hp} {s : Shared} {fp : List Addr} (I : Inv X pins σ H s) (hf : ∀ b ∈ fp, FpOk X pins H b) (ho : ∀ b ∈ fp, ∃ o, s.heap.get? b = some o ∧ ∀ v, o.data ≠ .cell v) : Inv X (pins ++ pinsAt fp s.heap) σ H s :=
  I.pins_of fun p hp => (List.mem_append.mp hp).elim (fun z => I.pin p (List.mem_append_right _ z)) fun z => by
    obtain ⟨hb, e⟩ := of_pinsAt z
    obtain ⟨f0, f1, f2, _⟩ := hf p.1 hb
    obtain ⟨o, e', d⟩ := ho p.1 hb
    rw [e] at e'; cases e'
    exact ⟨e, f0, f1, f2, d⟩
theorem Inv.unpinned {pins pl : List (Addr × Obj)} {σ : St} {H : Hp} {s : Shared} (I : Inv X (pins ++ pl) σ H s) : Inv X pins σ H s := I.pins_of fun p hp => I.pin p (List.mem_append_right _ (List.mem_append_left _ hp))
theorem ps_for {iter : Expr} {body : List Stmt} {wi : TI} {g : TG} {tb : TS} {pos : Pos} (hp : PassesOwn (model X.prog X.w) X.A X.env X.xe) (hc : X.calm = true) (hi : PI X tg iter wi) (hg : PG X tg g) (hb : PSs X body tb)
    (hs : ∀ x, foldedSetIterable iter X.env x = pure x := by intro _; rfl) : PS X (.For tg iter body [] pos) (tFor wi g tb) := by
  intro pins s σ H D I h
  refine wpAny_For (thn (hi pins s σ H _ I h) fun v s1 h1 => thn h1 fun itv s2 h2 => ?_) hs
  obtain ⟨it, fp, tn, J, H2, e, I2, T, st2, f2, W, ⟨m0, w0⟩, turn⟩ := h2
  subst e
  have stat : ∀ {H' : Hp}, (∀ b ∈ fp, H' b = none) → ∀ b ∈ fp, FpOk X pins H' b := fun hn b hb => ⟨hn b hb, (f2 b hb).2⟩
  refine codeAny_forLoop_any (fun n s' => ∃ i σ' H', Inv X pins σ' H' s' ∧ tn i s'.heap ∧ (∀ b ∈ fp, H' b = none) ∧ W i n σ' H') ?_ m0 ⟨0, σ, H2, I2, st2, fun b hb => (f2 b hb).1, w0⟩
  rintro n s3 ⟨i, σ3, H3, I3, st3, fr3, w3⟩
  rcases turn i n σ3 H3 w3 with ⟨stop, qn⟩ | ⟨go, N, hN, step⟩
  · refine wpAny_passesOwn hp (thn (T.done X rfl rfl rfl hc i pins s3 σ3 H3 X.xe I3 (stat fr3) st3 stop) fun r s4 ⟨hr, I4⟩ => ?_)
    subst hr
    exact wpAny_execs_nil ⟨σ3, H3, I4, qn⟩
  · refine wpAny_passesOwn hp (thn (T.item X rfl rfl rfl hc i pins s3 σ3 H3 X.xe I3 (stat fr3) st3 go) fun r s4 ⟨u, hr, h4⟩ => ?_)
    subst hr
    refine wpAny_passesOwn hp (thn h4 fun _ s5 ⟨x, H5, I5, r5, y5, st5, fr5⟩ => ?_)
    have I5' := I5.pinned (stat fr5) (T.obj _ _ st5)
    refine wpAny_passesOwn hp (thn (hg _ s5 σ3 H5 x u _ I5' r5 (step x H5 y5)) fun _ s6 ⟨σ6, H6, I6, q6⟩ => ?_)
    refine wpAny_passesOwn hp (thn (hb _ s6 σ6 H6 _ I6 q6) fun f s7 q7 => ?_)
    have again : ∀ {σ7 : St} {H7 : Hp}, Inv X (pins ++ pinsAt fp s5.heap) σ7 H7 s7 → N σ7 H7 → ∃ m, m < n ∧ ∃ i σ' H', Inv X pins σ' H' s7 ∧ tn i s7.heap ∧ (∀ b ∈ fp, H' b = none) ∧ W i m σ' H' := fun {σ7 H7} I7 n7 => by
      obtain ⟨m', hm, w7⟩ := hN σ7 H7 n7
      refine ⟨m', hm, i + 1, σ7, H7, I7.unpinned, T.keep _ _ _ st5 fun b hb o e => (I7.pin (b, o) (List.mem_append_right _ (List.mem_append_right _ (mem_pinsAt hb e)))).1, fun b hb => ?_, w7⟩
      obtain ⟨o, e, d⟩ := T.obj _ _ st5 b hb
      exact (I7.pin (b, o) (List.mem_append_right _ (List.mem_append_right _ (mem_pinsAt hb e)))).2.1
    cases f with
    | next => obtain ⟨σ7, H7, I7, n7⟩ := q7; exact again I7 n7
    | cont => obtain ⟨σ7, H7, I7, n7⟩ := q7; exact again I7 n7
    | brk => obtain ⟨σ7, H7, I7, q7⟩ := q7; exact ⟨σ7, H7, I7.unpinned, q7⟩
    | ret v => obtain ⟨x7, σ7, H7, I7, r7, q7⟩ := q7; exact ⟨x7, σ7, H7, I7.unpinned, r7, q7⟩
end
theorem for_list {K : PySem.W.Frag} {a : Addr} {xs : List V} {g : TG} {tb : TS} {D : Ends} {σ : St} {H : Hp} (Pv : Nat → St → Hp → Prop) (h0 : Pv 0 σ H) (hl : ∀ i σ H, i ≤ xs.length → Pv i σ H → SqL K H a xs)
    (hs : ∀ i x σ H, xs[i]? = some x → Pv i σ H → g x σ H fun σ2 H2 => tb { D with nx := Pv (i + 1), ct := Pv (i + 1), bk := D.nx } σ2 H2) (hd : ∀ σ H, Pv xs.length σ H → D.nx σ H) :
    ∃ W : Nat → Nat → St → Hp → Prop, (∃ m, W 0 m σ H) ∧ ∀ i m σ H, W i m σ H →
      ((Itl K a).stop i H ∧ D.nx σ H) ∨ ((Itl K a).go i H ∧ ∃ N : St → Hp → Prop, (∀ σ' H', N σ' H' → ∃ m', m' < m ∧ W (i + 1) m' σ' H') ∧ ∀ x H', (Itl K a).yld i H x H' → g x σ H' fun σ2 H2 => tb { D with nx := N, ct := N, bk := D.nx } σ2 H2) := by
  refine ⟨fun i m σ H => m = xs.length - i ∧ i ≤ xs.length ∧ Pv i σ H, ⟨xs.length, by simp, Nat.zero_le _, h0⟩, ?_⟩
  rintro i m σ H ⟨rfl, hi, p⟩
  have q := hl i σ H hi p
  by_cases hlt : i < xs.length
  · refine .inr ⟨⟨xs, xs[i], q, by simp [hlt]⟩, Pv (i + 1), fun σ' H' p' => ⟨xs.length - (i + 1), by omega, rfl, hlt, p'⟩, fun x H' y => ?_⟩
    obtain ⟨e, y⟩ := y
    subst e
    exact hs i x σ _ (y xs q) p
  · have e : i = xs.length := by omega
    subst e
    exact .inl ⟨⟨xs, q, Nat.le_refl _⟩, hd σ H p⟩
theorem for_range {lo : Int} {n : Nat} {g : TG} {tb : TS} {D : Ends} {σ : St} {H : Hp} (Pv : Nat → St → Hp → Prop) (h0 : Pv 0 σ H)
    (hs : ∀ i σ H, i < n → Pv i σ H → g (.int (lo + i)) σ H fun σ2 H2 => tb { D with nx := Pv (i + 1), ct := Pv (i + 1), bk := D.nx } σ2 H2) (hd : ∀ σ H, Pv n σ H → D.nx σ H) :
    ∃ W : Nat → Nat → St → Hp → Prop, (∃ m, W 0 m σ H) ∧ ∀ i m σ H, W i m σ H →
      ((Itr lo n).stop i H ∧ D.nx σ H) ∨ ((Itr lo n).go i H ∧ ∃ N : St → Hp → Prop, (∀ σ' H', N σ' H' → ∃ m', m' < m ∧ W (i + 1) m' σ' H') ∧ ∀ x H', (Itr lo n).yld i H x H' → g x σ H' fun σ2 H2 => tb { D with nx := N, ct := N, bk := D.nx } σ2 H2) := by
  refine ⟨fun i m σ H => m = n - i ∧ i ≤ n ∧ Pv i σ H, ⟨n, by simp, Nat.zero_le _, h0⟩, ?_⟩
  rintro i m σ H ⟨rfl, hi, p⟩
  by_cases hlt : i < n
  · refine .inr ⟨hlt, Pv (i + 1), fun σ' H' p' => ⟨n - (i + 1), by omega, rfl, hlt, p'⟩, fun x H' y => ?_⟩
    obtain ⟨e, y⟩ := y
    subst e y
    exact hs i σ _ hlt p
  · have e : i = n := by omega
    subst e
    exact .inl ⟨Nat.le_refl _, hd σ H p⟩
end L2
namespace L2
open PySem PySem.Spec PyProof.Rows
abbrev R2 := V → V → Hp → VK → Prop
def OpR (X : Cx) (f : Value → Value → Sem Value) (r : R2) : Prop :=
  ∀ (pins : List (Addr × Obj)) (s : Shared) (σ : St) (H : Hp) (x y : V) (v u : Value) (Q : VK), Inv X pins σ H s → RelV x v → RelV y u → r x y H Q →
    wpAny (model X.prog X.w) X.A (f v u) (EP X pins σ Q) X.xe s
def UnR (X : Cx) (f : Value → Sem Value) (r : V → Hp → VK → Prop) : Prop :=
  ∀ (pins : List (Addr × Obj)) (s : Shared) (σ : St) (H : Hp) (x : V) (v : Value) (Q : VK), Inv X pins σ H s → RelV x v → r x H Q →
    wpAny (model X.prog X.w) X.A (f v) (EP X pins σ Q) X.xe s
def CallR (X : Cx) (f : Value) (r : List V → Hp → VK → Prop) : Prop :=
  ∀ (pins : List (Addr × Obj)) (s : Shared) (σ : St) (H : Hp) (xs : List V) (us : List Value) (Q : VK), Inv X pins σ H s → Vals xs us → r xs H Q →
    wpAny (model X.prog X.w) X.A (call f us) (EP X pins σ Q) X.xe s
def TruR (X : Cx) (r : V → Hp → (Bool → Hp → Prop) → Prop) : Prop :=
  ∀ (pins : List (Addr × Obj)) (s : Shared) (σ : St) (H : Hp) (x : V) (v : Value) (Q : Bool → Hp → Prop), Inv X pins σ H s → RelV x v → r x H Q →
    wpAny (model X.prog X.w) X.A (truthy v) (TP X pins σ Q) X.xe s
def tOp (r : R2) (ta tb : TE) : TE := fun σ H Q => ta σ H fun x H1 => tb σ H1 fun y H2 => r x y H2 Q
def tUn (r : V → Hp → VK → Prop) (ta : TE) : TE := fun σ H Q => ta σ H fun x H1 => r x H1 Q
def rI (C : Int → Int → Prop) (g : Int → Int → V) : R2 := fun x y H Q => ∃ i j, x = .int i ∧ y = .int j ∧ C i j ∧ Q (g i j) H
def rI0 (g : Int → Int → V) : R2 := fun x y H Q => ∃ i j, x = .int i ∧ y = .int j ∧ Q (g i j) H
def rU (g : Int → V) : V → Hp → VK → Prop := fun x H Q => ∃ i, x = .int i ∧ Q (g i) H
section
variable {X : Cx} {a b c : Expr} {ta tb tc : TE} {pos : Pos}
theorem binT (ha : PE X a ta) (hb : PE X b tb) {pins : List (Addr × Obj)} {s : Shared} {σ : St} {H : Hp} {R : V → V → Hp → Prop} (I : Inv X pins σ H s)
    (h : ta σ H fun x H1 => tb σ H1 fun y H2 => R x y H2) {Q : Value → Shared → Prop} {f : Value → Value → Sem Value}
    (hf : ∀ v u s2 x y H2, Inv X pins σ H2 s2 → RelV x v → RelV y u → R x y H2 → wpAny (model X.prog X.w) X.A (f v u) Q X.xe s2) :
    wpAny (model X.prog X.w) X.A (eval a X.env) (fun v s₁ => wpAny (model X.prog X.w) X.A (eval b X.env) (fun u s₂ => wpAny (model X.prog X.w) X.A (f v u) Q X.xe s₂) X.xe s₁) X.xe s := by
  refine thn (ha pins s σ H _ I h) fun v s1 ⟨x, H1, I1, r1, q1⟩ => ?_
  refine thn (hb pins s1 σ H1 _ I1 q1) fun u s2 ⟨y, H2, I2, r2, q2⟩ => ?_
  exact hf v u s2 x y H2 I2 r1 r2 q2
theorem pe_op {op : Operator} {r : R2} (ho : OpR X (binaryOp op) r) (ha : PE X a ta) (hb : PE X b tb) : PE X (.BinOp a op b pos) (tOp r ta tb) := by
  intro pins s σ H Q I h
  exact wpAny_BinOp (binT ha hb I h fun v u s2 x y H2 I2 rx ry q => ho pins s2 σ H2 x y v u Q I2 rx ry q)
theorem opI {f : Value → Value → Sem Value} {C : Int → Int → Prop} {g : Int → Int → Int}
    (rule : ∀ (i j : Int) (t u : Tok) (s : Shared) (Q : Value → Shared → Prop) (E : Value → Shared → Prop), C i j → Q (.int (g i j) s.toks) { s with toks := s.toks + 1 } → wpAny (model X.prog X.w) X.A (f (.int i t) (.int j u)) Q E s) :
    OpR X f (rI C fun i j => .int (g i j)) := by
  intro pins s σ H x y v u Q I rx ry h
  obtain ⟨i, j, rfl, rfl, hc, q⟩ := h
  obtain ⟨t, rfl⟩ := rx
  obtain ⟨t', rfl⟩ := ry
  exact rule i j t t' s _ _ hc ⟨.int (g i j), H, I.tok _, ⟨_, rfl⟩, q⟩
theorem opI0 {f : Value → Value → Sem Value} {g : Int → Int → Int}
    (rule : ∀ (i j : Int) (t u : Tok) (s : Shared) (Q : Value → Shared → Prop) (E : Value → Shared → Prop), Q (.int (g i j) s.toks) { s with toks := s.toks + 1 } → wpAny (model X.prog X.w) X.A (f (.int i t) (.int j u)) Q E s) :
    OpR X f (rI0 fun i j => .int (g i j)) := by
  intro pins s σ H x y v u Q I rx ry h
  obtain ⟨i, j, rfl, rfl, q⟩ := h
  obtain ⟨t, rfl⟩ := rx
  obtain ⟨t', rfl⟩ := ry
  exact rule i j t t' s _ _ ⟨.int (g i j), H, I.tok _, ⟨_, rfl⟩, q⟩
theorem opB0 {f : Value → Value → Sem Value} {g : Int → Int → Bool}
    (rule : ∀ (i j : Int) (t u : Tok) (s : Shared) (Q : Value → Shared → Prop) (E : Value → Shared → Prop), Q (.bool (g i j)) s → wpAny (model X.prog X.w) X.A (f (.int i t) (.int j u)) Q E s) :
    OpR X f (rI0 fun i j => .bl (g i j)) := by
  intro pins s σ H x y v u Q I rx ry h
  obtain ⟨i, j, rfl, rfl, q⟩ := h
  obtain ⟨t, rfl⟩ := rx
  obtain ⟨t', rfl⟩ := ry
  exact rule i j t t' s _ _ ⟨.bl (g i j), H, I, rfl, q⟩
def CDiv (i j : Int) : Prop := 0 < j ∧ j < 1073741824
def CDivN (i j : Int) : Prop := j ≠ 0 ∧ j.natAbs < 1073741824
def CPow (i j : Int) : Prop := 0 ≤ j ∧ j ≤ 1000000 ∧ i.natAbs < 2 ^ 64
def CMul (i j : Int) : Prop := (-(2 ^ 64) < i ∧ i < 2 ^ 64) ∨ (-(2 ^ 64) < j ∧ j < 2 ^ 64)
theorem CMul.ok {i j : Int} (h : CMul i j) : IntMulOk i j := by
  rcases h with ⟨h1, h2⟩ | ⟨h1, h2⟩
  · exact .of_left (intBits_le_64 h1 h2)
  · exact .of_right (intBits_le_64 h1 h2)
theorem op_add : OpR X (binaryOp .Add) (rI0 fun i j => .int (i + j)) := opI0 fun _ _ _ _ _ _ _ q => add_int q
theorem op_fdiv : OpR X (binaryOp .FloorDiv) (rI CDiv fun i j => .int (i / j)) := opI fun i j _ _ _ _ _ hc q => by
  have h1 : (0 : Int) < j := hc.1
  have h2 : j < 1073741824 := hc.2
  exact floordiv_int (by omega) (by rw [Int.fdiv_eq_ediv_of_nonneg i (by omega)]; exact q) (.inl (PyProof.noPylong_small (by omega)))
theorem op_mod : OpR X (binaryOp .Mod) (rI (fun _ j => 0 < j) fun i j => .int (i % j)) := opI fun i j _ _ _ _ _ hc q => by
  have h1 : (0 : Int) < j := hc
  exact mod_int' (by omega) (by rw [Int.fmod_eq_emod_of_nonneg i (by omega)]; exact q)
end
def scal : V → V → Bool
  | .non, .non => true | .non, .int _ => true | .int _, .non => true | .non, .bl _ => true | .bl _, .non => true | .non, .str _ => true | .str _, .non => true
  | .int _, .int _ => true | .bl _, .bl _ => true | .str _, .str _ => true | .byt _, .byt _ => true
  | .int _, .str _ => true | .str _, .int _ => true | .bl _, .str _ => true | .str _, .bl _ => true
  | _, _ => false
def rEq : R2 := fun x y H Q => scal x y = true ∧ Q (.bl (decide (x = y))) H
def rNe : R2 := fun x y H Q => scal x y = true ∧ Q (.bl (!decide (x = y))) H
theorem dec_int {i j : Int} : decide (V.int i = V.int j) = (i == j) := by
  rw [Bool.eq_iff_iff]
  simp
theorem dec_bl {i j : Bool} : decide (V.bl i = V.bl j) = (i == j) := by
  rw [Bool.eq_iff_iff]
  simp
theorem dec_str {i j : Str} : decide (V.str i = V.str j) = (i == j) := by
  rw [Bool.eq_iff_iff]
  simp
theorem dec_byt {i j : Array UInt8} : decide (V.byt i = V.byt j) = (i.toList == j.toList) := by
  rw [Bool.eq_iff_iff]
  cases i
  cases j
  simp
section
variable {X : Cx} {a b c : Expr} {ta tb tc : TE} {pos : Pos}
theorem fin_bl {pins : List (Addr × Obj)} {σ : St} {H : Hp} {s : Shared} {Q : VK} {k k' : Bool} (I : Inv X pins σ H s) (q : Q (.bl k) H) (e : k = k') : EP X pins σ Q (.bool k') s := by
  subst e
  exact ⟨.bl k, H, I, rfl, q⟩
theorem op_eq : OpR X (compareOp .Eq) rEq := by
  intro pins s σ H x y v u Q I rx ry h
  obtain ⟨hs, q⟩ := h
  cases x with
  | non =>
    cases rx
    cases y with
    | non => cases ry; exact PySem.EqNone.eq_none_none (fin_bl I q (by simp))
    | bl j => cases ry; exact PySem.EqNone.eq_none_bool (fin_bl I q (by simp))
    | int j => obtain ⟨t', rfl⟩ := ry; exact PySem.EqNone.eq_none_int (fin_bl I q (by simp))
    | str j => obtain ⟨t', rfl⟩ := ry; exact PySem.EqNone.eq_none_str (fin_bl I q (by simp))
    | _ => exact absurd (show false = true from hs) Bool.false_ne_true
  | bl i =>
    cases rx
    cases y with
    | non => cases ry; exact PySem.EqNone.eq_bool_none (fin_bl I q (by simp))
    | bl j => cases ry; exact eq_bool (fin_bl I q dec_bl)
    | str j => obtain ⟨t', rfl⟩ := ry; exact PySem.EqMixed.eq_bool_str (fin_bl I q (by simp))
    | _ => exact absurd (show false = true from hs) Bool.false_ne_true
  | int i =>
    obtain ⟨t, rfl⟩ := rx
    cases y with
    | non => cases ry; exact PySem.EqNone.eq_int_none (fin_bl I q (by simp))
    | int j => obtain ⟨t', rfl⟩ := ry; exact eq_int (fin_bl I q dec_int)
    | str j => obtain ⟨t', rfl⟩ := ry; exact PySem.EqMixed.eq_int_str (fin_bl I q (by simp))
    | _ => exact absurd (show false = true from hs) Bool.false_ne_true
  | str i =>
    obtain ⟨t, rfl⟩ := rx
    cases y with
    | non => cases ry; exact PySem.EqNone.eq_str_none (fin_bl I q (by simp))
    | bl j => cases ry; exact PySem.EqMixed.eq_str_bool (fin_bl I q (by simp))
    | int j => obtain ⟨t', rfl⟩ := ry; exact PySem.EqMixed.eq_str_int (fin_bl I q (by simp))
    | str j => obtain ⟨t', rfl⟩ := ry; exact eq_str (fin_bl I q dec_str)
    | _ => exact absurd (show false = true from hs) Bool.false_ne_true
  | byt i =>
    obtain ⟨t, rfl⟩ := rx
    cases y with
    | byt j => obtain ⟨t', rfl⟩ := ry; exact PySem.W.eq_bytes (fin_bl I q dec_byt)
    | _ => exact absurd (show false = true from hs) Bool.false_ne_true
  | _ => cases y <;> exact absurd (show false = true from hs) Bool.false_ne_true
theorem op_lt : OpR X (compareOp .Lt) (rI0 fun i j => .bl (decide (i < j))) := opB0 fun _ _ _ _ _ _ _ q => lt_int q
def isObj : HO → Bool
  | .lst _ => true
  | .ins _ _ _ => true
  | _ => false
theorem nomark (b : Expr) {op : CmpOp} (h : op ≠ .In := by decide) (h2 : op ≠ .NotIn := by decide) : behindInMarks op b = false := by
  have e1 : (op == CmpOp.In) = false := by cases op <;> first | rfl | exact absurd rfl h
  have e2 : (op == CmpOp.NotIn) = false := by cases op <;> first | rfl | exact absurd rfl h2
  cases b <;> simp [behindInMarks, e1, e2]
theorem pe_cmpR {op : CmpOp} {r : R2} (ho : OpR X (compareOp op) r) (ha : PE X a ta) (hb : PE X b tb) (hm : behindInMarks op b = false) : PE X (.Compare a [op] [b] pos) (tOp r ta tb) := by
  intro pins s σ H Q I h
  exact wpAny_Compare1 (binT ha hb I h fun v u s2 x y H2 I2 rx ry q => ho pins s2 σ H2 x y v u Q I2 rx ry q) hm
def tTest (t : TE) : TT := fun σ H Q => t σ H fun x H' => ∃ k, x = .bl k ∧ Q k H'
theorem pt_cmpR {op : CmpOp} {r : R2} (ho : OpR X (compareOp op) r) (ha : PE X a ta) (hb : PE X b tb) (hm : behindInMarks op b = false) : PT X (.Compare a [op] [b] pos) (tTest (tOp r ta tb)) := by
  intro pins s σ H Q I h
  refine wpAny_isTrue_Compare1 (thn (ha pins s σ H _ I h) fun v s1 ⟨x, H1, I1, r1, q1⟩ => thn (hb pins s1 σ H1 _ I1 q1) fun u s2 ⟨y, H2, I2, r2, q2⟩ =>
    thn (ho pins s2 σ H2 x y v u _ I2 r1 r2 q2) fun c s3 ⟨z, H3, I3, r3, k, e, q3⟩ => ?_) hm
  subst e
  cases r3
  exact wpAny_truthy_bool ⟨H3, I3, q3⟩
def tChain (r r' : R2) (ta tb tc : TE) : TE := fun σ H Q => ta σ H fun x H1 => tb σ H1 fun y H2 => r x y H2 fun z H3 => ∃ k, z = .bl k ∧
  (if k = true then tc σ H3 fun w' H4 => r' y w' H4 Q else Q (.bl false) H3)
def TruV (K : PySem.W.Frag) (x : V) (H : Hp) (k : Bool) : Prop :=
  match x with
  | .non => k = false
  | .bl b => k = b
  | .int i => k = (i != 0)
  | .str y => y.length ≤ sizeLine ∧ k = ((y.length : Int) != 0)
  | .byt y => y.size ≤ sizeLine ∧ k = ((y.size : Int) != 0)
  | .ref p => (∃ xs, SqL K H p xs ∧ k = !xs.isEmpty) ∨ (∃ xs, SqT K H p xs ∧ k = !xs.isEmpty) ∨ ∃ kvs, H p = some (.dK kvs) ∧ k = !kvs.isEmpty
  | _ => False
theorem isEmpty_kv {κ : Type} {kvs : List (κ × V)} {vs : List (κ × Value)} (r : KV kvs vs) : (!vs.isEmpty) = !kvs.isEmpty := by
  cases r <;> rfl
theorem isEmpty_of {xs : List V} {its : List Value} (r : Vals xs its) : (!its.toArray.isEmpty) = !xs.isEmpty := by
  cases r <;> simp
theorem line63 : (sizeLine : Nat) < 2 ^ 63 := by rw [sizeLine_eq]; decide
theorem tru_ok : TruR X (fun x H Q => ∃ k, TruV X.K x H k ∧ Q k H) := by
  intro pins s σ H x v Q I rx h
  obtain ⟨k, e, q⟩ := h
  have hl := line63
  have hs : sizeLine = 16777216 := sizeLine_eq
  cases x with
  | non =>
    cases rx
    have e' : k = false := e
    subst e'
    exact truthy_none ⟨H, I, q⟩
  | bl b =>
    cases rx
    have e' : k = b := e
    subst e'
    exact wpAny_truthy_bool ⟨H, I, q⟩
  | int i =>
    obtain ⟨t, rfl⟩ := rx
    have e' : k = (i != 0) := e
    subst e'
    exact PySem.P.truthy_int ⟨H, I, q⟩
  | str y =>
    obtain ⟨t, rfl⟩ := rx
    obtain ⟨hy, e'⟩ : y.length ≤ sizeLine ∧ k = ((y.length : Int) != 0) := e
    subst e'
    exact PySem.P.truthy_str (by omega) ⟨H, I.tok _, q⟩
  | byt y =>
    obtain ⟨t, rfl⟩ := rx
    obtain ⟨hy, e'⟩ : y.size ≤ sizeLine ∧ k = ((y.size : Int) != 0) := e
    subst e'
    exact PySem.W.truthy_bytes (by omega) ⟨H, I.tok _, q⟩
  | ref p =>
    cases rx
    have e' : (∃ xs, SqL X.K H p xs ∧ k = !xs.isEmpty) ∨ (∃ xs, SqT X.K H p xs ∧ k = !xs.isEmpty) ∨ ∃ kvs, H p = some (.dK kvs) ∧ k = !kvs.isEmpty := e
    rcases e' with ⟨xs, hx, e'⟩ | ⟨xs, hx, e'⟩ | ⟨kvs, hx, e'⟩
    · subst e'
      obtain ⟨its, r, pl, hz⟩ := I.list hx
      have hlen := r.length
      exact wpAny_truthy_list pl.isList (by simp only [List.size_toArray]; omega) ⟨H, I.tok _, by rw [isEmpty_of r]; exact q⟩
    · subst e'
      obtain ⟨its, r, pl, hz⟩ := I.tuple hx
      have hlen := r.length
      exact truthy_tuple pl (by simp only [List.size_toArray]; omega) ⟨H, I.tok _, by rw [isEmpty_of r]; exact q⟩
    · subst e'
      obtain ⟨hz, hS, vs, r, m⟩ : kvs.length ≤ sizeLine ∧ (p == sysModules) = false ∧ ∃ vs, KV kvs vs ∧ s.heap.DictOf (mixKind X.prog X.w) p vs := I.hok p _ hx
      have hlen : kvs.length = vs.length := Paired.length r
      exact wpAny_truthy_dict hS m (by omega) ⟨H, I.tok _, by rw [isEmpty_kv r]; exact q⟩
  | _ => exact (show False from e).elim
theorem pt_truth (ha : PE X a ta) (he : ∀ whole, isTrue a X.env whole = (do let v ← whole; standAt a.pos; holding [v] (truthy v))) :
    PT X a (fun σ H Q => ta σ H fun x H' => ∃ k, TruV X.K x H' k ∧ Q k H') := by
  intro pins s σ H Q I h
  exact isTrue_plain (thn (ha pins s σ H _ I h) fun v s1 ⟨x, H1, I1, r1, q1⟩ => tru_ok pins s1 σ H1 x v Q I1 r1 q1) (he _)
theorem op_add_str : OpR X (binaryOp .Add) (fun x y H Q => ∃ i j, x = .str i ∧ y = .str j ∧ i.length + j.length ≤ sizeLine ∧ Q (.str (i ++ j)) H) := by
  intro pins s σ H x y v u Q I rx ry h
  obtain ⟨i, j, rfl, rfl, hz, q⟩ := h
  obtain ⟨t, rfl⟩ := rx
  obtain ⟨t', rfl⟩ := ry
  exact add_str (fun t' tk => ⟨.str (i ++ j), H, I.tok _, ⟨_, rfl⟩, q⟩) hz
def PlainIxT (b : Expr) : Prop := ∀ o i, subscripted b false o i = operate [o, i] (getItem o i)
theorem vals1 {x : V} {us : List Value} (r : Vals [x] us) : ∃ u, us = [u] ∧ RelV x u := by
  cases r with
  | cons r1 r2 => cases r2; exact ⟨_, rfl, r1⟩
theorem vals2 {x y : V} {us : List Value} (r : Vals [x, y] us) : ∃ u w', us = [u, w'] ∧ RelV x u ∧ RelV y w' := by
  cases r with
  | cons r1 r2 =>
    cases r2 with
    | cons r3 r4 => cases r4; exact ⟨_, _, rfl, r1, r3⟩
def LenV (K : PySem.W.Frag) (x : V) (H : Hp) (n : Nat) : Prop :=
  match x with
  | .str y => y.length ≤ sizeLine ∧ n = y.length
  | .byt y => y.size ≤ sizeLine ∧ n = y.size
  | .ref p => (∃ xs, SqL K H p xs ∧ n = xs.length) ∨ ∃ xs, SqT K H p xs ∧ n = xs.length
  | _ => False
theorem call_len : CallR X (.builtin "len") (fun xs H Q => ∃ x n, xs = [x] ∧ LenV X.K x H n ∧ Q (.int n) H) := by
  intro pins s σ H xs us Q I r h
  obtain ⟨x, n, rfl, e, q⟩ := h
  obtain ⟨u, rfl, rx⟩ := vals1 r
  have hl := line63
  have hs : sizeLine = 16777216 := sizeLine_eq
  cases x with
  | str y =>
    obtain ⟨t, rfl⟩ := rx
    obtain ⟨hy, e'⟩ : y.length ≤ sizeLine ∧ n = y.length := e
    subst e'
    exact len_str (by omega) ⟨.int _, H, I.tok _, ⟨_, rfl⟩, q⟩
  | byt y =>
    obtain ⟨t, rfl⟩ := rx
    obtain ⟨hy, e'⟩ : y.size ≤ sizeLine ∧ n = y.size := e
    subst e'
    exact PySem.W.len_bytes (by omega) ⟨.int _, H, I.tok _, ⟨_, rfl⟩, q⟩
  | ref p =>
    cases rx
    have e' : (∃ xs, SqL X.K H p xs ∧ n = xs.length) ∨ ∃ xs, SqT X.K H p xs ∧ n = xs.length := e
    rcases e' with ⟨xs, hx, e'⟩ | ⟨xs, hx, e'⟩
    · subst e'
      obtain ⟨its, r', pl, hz⟩ := I.list hx
      have hlen := r'.length
      exact Calls.call_len_list pl.isList (by simp only [List.size_toArray]; omega) ⟨.int xs.length, H, I.tok _, ⟨_, by simp only [List.size_toArray]; rw [hlen]⟩, q⟩
    · subst e'
      obtain ⟨its, r', pl, hz⟩ := I.tuple hx
      have hlen := r'.length
      exact len_tuple pl (by simp only [List.size_toArray]; omega) ⟨.int xs.length, H, I.tok _, ⟨_, by simp only [List.size_toArray]; rw [hlen]⟩, q⟩
  | _ => exact (show False from e).elim
end
end L2
namespace L2
open PySem PySem.Spec PyProof.Rows
structure ObjM (h : Heap) (x dx C : Addr) (mA : Str → Option Value) : Prop where
  obj : h.get? x = some (PySem.W.instObj C dx)
  ns : h.Ns1 dx mA
  ne : dx ≠ x
theorem lookIn_ns {h : Heap} {dx : Addr} {mA : Str → Option Value} (n : h.Ns1 dx mA) : ∃ od, h.get? dx = some od ∧ ∀ name, PySem.W.lookIn name od = some (mA name) := by
  obtain ⟨o, es, ep, ho, hd, hk, _, hm⟩ := n
  refine ⟨o, ho, fun name => ?_⟩
  have e := hm name
  unfold nsFind findBy at e
  rw [← Array.find?_toList] at e
  unfold PySem.W.lookIn
  rw [hd]
  dsimp only
  split
  · rename_i y q
    rw [q] at e
    exact congrArg some e
  · rename_i q
    rw [q] at e
    have a : es.toList.any (·.refKey) = false := by
      rw [List.any_eq_false]
      intro y hy
      obtain ⟨z, t, hkey⟩ := hk y (Array.mem_toList_iff.mp hy)
      simp [DictEntry.refKey, hkey]
    have a' : ¬ es.toList.any (·.refKey) = true := by rw [a]; exact Bool.false_ne_true
    rw [if_neg a']
    exact congrArg some e
theorem ObjM.look {h : Heap} {x dx C : Addr} {mA : Str → Option Value} (I : ObjM h x dx C mA) : ∃ od, PySem.W.InstAt h x (PySem.W.instObj C dx) C (some od) ∧ ∀ name, PySem.W.lookIn name od = some (mA name) :=
  let ⟨od, ho, hl⟩ := lookIn_ns I.ns
  ⟨od, ⟨I.obj, rfl, rfl, ho⟩, hl⟩
section
variable {prog : Program} {w : World} {A : Around} {E : Value → Shared → Prop} {s : Shared} {K : PySem.W.Frag} {x dx C f : Addr} {mA : Str → Option Value} {name : Str} {v : Value}
theorem get_map {expr : Bool} {Q : Value → Shared → Prop} (X : K.In s.heap) (I : ObjM s.heap x dx C mA) (hg : PySem.W.plainGet K C name = true) (hh : PySem.W.hasDictIn K C = true)
    (ha : PySem.W.findIn K (.ref C) name = some none) (hv : mA name = some v) (hv' : PySem.W.handedIn v = true) (h : Q v { s with toks := s.toks + 1 }) :
    wpAny (model prog w) A (getAttr (.ref x) name expr) Q E s := by
  obtain ⟨od, J, hl⟩ := I.look
  exact PySem.W.get_value X J (PySem.W.plainGet_of hg).1 (PySem.W.findObj_own hh ha rfl (by rw [hl, hv])) hv' h
theorem get_meth {pl : Sem Bool} {Q : Value × List Value → Shared → Prop} (X : K.In s.heap) (I : ObjM s.heap x dx C mA) (hg : PySem.W.plainGet K C name = true)
    (hf : PySem.W.findIn K (.ref C) name = some (some (.ref f))) (ht : PySem.W.isFn K (.ref f) = true) (hv : mA name = none) (h : Q (.ref f, [.ref x]) s) :
    wpAny (model prog w) A (getMethod (.ref x) name pl) Q E s := by
  obtain ⟨od, J, hl⟩ := I.look
  exact PySem.W.method_fn X J (PySem.W.plainGet_of hg).1 (PySem.W.plainGet_of hg).2 hf (beq_iff_eq.mp ht) (by show (PySem.W.lookIn name od).map (·.isSome) = some false; rw [hl, hv]; rfl) h
theorem set_map {ns : List Str} {Q : Unit → Shared → Prop} (X : K.In s.heap) (I : ObjM s.heap x dx C mA)
    (hs : PySem.W.findIn K (.ref C) "__setattr__" = some (some (.builtin "object.__setattr__"))) (hp : PySem.W.plainOver K C = true) (ht : PySem.W.takerIn K C name = some none) (hh : PySem.W.hasDictIn K C = true)
    (hw : PySem.Within mA ns) (hsz : ns.length ≤ sizeLine)
    (h : ∀ h', ObjM h' x dx C (fun y => if y = name then some v else mA y) → Heap.SameBut dx s.heap h' → Q () { s with heap := h', toks := s.toks + 2 }) :
    wpAny (model prog w) A (setAttr (.ref x) name v) Q E s := by
  obtain ⟨od, J, hl⟩ := I.look
  refine PySem.W.set_plain X J hs (PySem.W.osa_open (s := { s with toks := s.toks + 1 }) (r := none) X J hp ht fun b => ?_)
  obtain ⟨cd, hc, hd'⟩ := PySem.W.any_some hh
  have hx : s.heap.get? x = some ⟨.ref C, some dx, .plain, #[]⟩ := I.obj
  refine wpAny_bind (wpAny_pure (wpAny_bind (wpAny_bind (wpAny_loadPart hx (wpAny_bind (PySem.W.Looks.here (s := { s with toks := s.toks + 1 }) (PySem.W.looks_clsIn X hc) ?_))))))
  rw [hd']
  refine wpAny_pure (a := some dx) (wpAny_bind (wpAny_pure (wpAny_bind ?_)))
  refine wpAny_nsSet1 (s := { s with toks := s.toks + 1 }) I.ns fun h' hn2 hs2 => ?_
  obtain ⟨oD, esD, epD, hoD, hdD, hcD⟩ := hn2.count (PySem.Within.cons name v hw)
  refine wpAny_bind (wpAny_lookBehind hoD (by rw [hdD]; exact pastItsLine_dict (Nat.le_trans hcD (by rw [List.length_cons]; omega))) ?_)
  exact wpAny_pure (h _ ⟨(hs2.2 _ (Ne.symm I.ne)).trans I.obj, hn2, I.ne⟩ hs2)
theorem make_map {R : Result → Shared → Prop} {vs : List Value} {kw : List (Str × Value)} (X : K.In s.heap) (hm : PySem.W.makesIn K C = true)
    (hi : PySem.W.findIn K (.ref C) "__init__" = some (some (.ref f))) (hf : PySem.W.typeIn K (.ref f) = some (.type "function"))
    (h : codeAny (model prog w) (A.under (.builtin "type.__call__" ⟨.ref C :: vs, kw⟩)) (.call (.ref f) ⟨.ref (s.heap.objs.size + 1) :: vs, kw⟩) (PySem.W.InitBack (s.heap.objs.size + 1) R)
      { s with heap := (s.heap.push PySem.W.emptyDict).push (PySem.W.instObj C s.heap.objs.size) }) :
    codeAny (model prog w) A (.call (.ref C) ⟨vs, kw⟩) R s := by
  obtain ⟨hh, g, d, t, os⟩ := s
  exact PySem.W.make_core (PySem.W.makes_of X hm) (PySem.W.looks_findIn X hi) (fun self => PySem.W.bind_fn X self hf) (.inl rfl) h
end
def putF (f : Str) (v : V) : List (Str × V) → List (Str × V)
  | [] => [(f, v)]
  | (g, x) :: r => if g = f then (g, v) :: r else (g, x) :: putF f v r
theorem lookup_putF (f g : Str) (v : V) : ∀ fs : List (Str × V), (putF f v fs).lookup g = if g = f then some v else fs.lookup g
  | [] => by
    show List.lookup g [(f, v)] = _
    by_cases h : g = f
    · have hb : (g == f) = true := beq_iff_eq.mpr h
      simp only [List.lookup, hb, if_pos h]
    · have hb : (g == f) = false := beq_eq_false_iff_ne.mpr h
      simp only [List.lookup, hb, if_neg h]
  | (k, x) :: r => by
    have ih := lookup_putF f g v r
    rw [show putF f v ((k, x) :: r) = (if k = f then (k, v) :: r else (k, x) :: putF f v r) from rfl]
    by_cases hk : k = f
    · rw [if_pos hk]
      by_cases h : g = k
      · have hb : (g == k) = true := beq_iff_eq.mpr h
        simp only [List.lookup, hb, if_pos (h.trans hk)]
      · have hb : (g == k) = false := beq_eq_false_iff_ne.mpr h
        simp only [List.lookup, hb, if_neg (fun e : g = f => h (e.trans hk.symm))]
    · rw [if_neg hk]
      by_cases h : g = k
      · have hb : (g == k) = true := beq_iff_eq.mpr h
        simp only [List.lookup, hb, if_neg (fun e : g = f => hk (h.symm.trans e))]
      · have hb : (g == k) = false := beq_eq_false_iff_ne.mpr h
        simp only [List.lookup, hb]
        exact ih
theorem keys_putF (f : Str) (v : V) : ∀ fs : List (Str × V), f ∈ (putF f v fs).map (·.1) ∧ ∀ g, g ∈ fs.map (·.1) → g ∈ (putF f v fs).map (·.1)
  | [] => ⟨by simp [putF], fun g h => by simp at h⟩
  | (k, x) :: r => by
    obtain ⟨i1, i2⟩ := keys_putF f v r
    rw [show putF f v ((k, x) :: r) = (if k = f then (k, v) :: r else (k, x) :: putF f v r) from rfl]
    by_cases hk : k = f
    · rw [if_pos hk]
      subst hk
      exact ⟨by simp, fun g h => by simpa using h⟩
    · rw [if_neg hk]
      refine ⟨?_, fun g h => ?_⟩
      · rw [List.map_cons]
        exact List.mem_cons_of_mem _ i1
      · rw [List.map_cons] at h ⊢
        rcases List.mem_cons.mp h with e | e
        · exact List.mem_cons.mpr (.inl e)
        · exact List.mem_cons_of_mem _ (i2 g e)
theorem length_putF (f : Str) (v : V) : ∀ fs : List (Str × V), (putF f v fs).length ≤ fs.length + 1
  | [] => by simp [putF]
  | (k, x) :: r => by
    have ih := length_putF f v r
    rw [show putF f v ((k, x) :: r) = (if k = f then (k, v) :: r else (k, x) :: putF f v r) from rfl]
    by_cases hk : k = f
    · rw [if_pos hk, List.length_cons, List.length_cons]; omega
    · rw [if_neg hk, List.length_cons, List.length_cons]; omega
theorem RelO.some_of {v : V} {o : Option Value} (r : RelO (some v) o) : ∃ u, o = some u ∧ RelV v u := by
  cases o with
  | none => exact (show False from r).elim
  | some u => exact ⟨u, rfl, r⟩
theorem RelO.none_of {o : Option Value} (r : RelO none o) : o = none := by
  cases o with
  | none => rfl
  | some u => exact (show False from r).elim
theorem handed_of {v : V} {u : Value} (r : RelV v u) : PySem.W.handedIn u = true := by
  cases v with
  | non => cases (show u = Value.none from r); rfl
  | bl b => cases (show u = Value.bool b from r); rfl
  | int i => obtain ⟨t, e⟩ := (show ∃ t, u = Value.int i t from r); cases e; rfl
  | str x => obtain ⟨t, e⟩ := (show ∃ t, u = Value.str x t from r); cases e; rfl
  | byt b => obtain ⟨t, e⟩ := (show ∃ t, u = Value.bytes b t from r); cases e; rfl
  | flt b => obtain ⟨t, e⟩ := (show ∃ t, u = Value.float b t from r); cases e; rfl
  | ref a => cases (show u = Value.ref a from r); rfl
  | ty n => cases (show u = Value.type n from r); rfl
section
variable {P : Program} {w : World} {H H' : Hp} {h h' : Heap} {a C dx : Addr} {fs fs' : List (Str × V)}
theorem ins_get (hok : HOk P w H h) (e : H a = some (.ins C dx fs)) : ∃ mA, ObjM h a dx C mA ∧ (∀ f, RelO (fs.lookup f) (mA f)) ∧ PySem.Within mA (fs.map (·.1)) ∧ fs.length ≤ 1000 ∧ H dx = some (.own a) := by
  obtain ⟨d, z, ne, ob, mA, n, r, q⟩ := (show ObjOk P w H h a (.ins C dx fs) from hok a _ e)
  exact ⟨mA, ⟨ob, n, ne⟩, r, q, z, d⟩
end
structure Cls (K : PySem.W.Frag) (C : Addr) : Prop where
  pg : PySem.W.plainGet K C Str.empty = true
  hd : PySem.W.hasDictIn K C = true
  po : PySem.W.plainOver K C = true
  sa : PySem.W.findIn K (.ref C) "__setattr__" = some (some (.builtin "object.__setattr__"))
theorem Cls.get {K : PySem.W.Frag} {C : Addr} (c : Cls K C) (f : Str) : PySem.W.plainGet K C f = true := c.pg
def NoAttr (K : PySem.W.Frag) (C : Addr) (f : Str) : Prop := PySem.W.findIn K (.ref C) f = some none
theorem NoAttr.taker {K : PySem.W.Frag} {C : Addr} {f : Str} (n : NoAttr K C f) : PySem.W.takerIn K C f = some none := by
  unfold PySem.W.takerIn
  rw [show PySem.W.findIn K (.ref C) f = some none from n]
  rfl
structure Con (K : PySem.W.Frag) (C : Addr) (f : Str) (v : V) (u : Value) : Prop where
  at_ : PySem.W.findIn K (.ref C) f = some (some u)
  rel : RelV v u
  get : PySem.W.specialIn K u "__get__" = some none
  cp : PySem.W.copiedNames.contains f = false
structure Meth (K : PySem.W.Frag) (C : Addr) (m : Str) (f : Addr) : Prop where
  at_ : PySem.W.findIn K (.ref C) m = some (some (.ref f))
  fn : PySem.W.isFn K (.ref f) = true
  kp : PySem.W.keepIn K (.ref f) = true
section
variable {X : Cx} {pins : List (Addr × Obj)} {σ : St} {H : Hp} {s : Shared} {a C dx : Addr} {fs : List (Str × V)} {f : Str} {v : V} {A : Around} {E : Value → Shared → Prop}
theorem getattr_ok {b : Bool} {Q : Value → Shared → Prop} (I : Inv X pins σ H s) (e : H a = some (.ins C dx fs)) (c : Cls X.K C) (n : NoAttr X.K C f) (l : fs.lookup f = some v)
    (h : ∀ u s', Inv X pins σ H s' → RelV v u → Q u s') : wpAny (model X.prog X.w) A (getAttr (.ref a) f b) Q E s := by
  obtain ⟨mA, O, r, _, _, _⟩ := ins_get I.hok e
  obtain ⟨u, hu, ru⟩ := RelO.some_of (v := v) (o := mA f) (by rw [← l]; exact r f)
  exact get_map I.kIn O (c.get f) c.hd n hu (handed_of ru) (h u _ (I.tok _) ru)
theorem getmeth_ok {m : Str} {g : Addr} {pl : Sem Bool} {Q : Value × List Value → Shared → Prop} (I : Inv X pins σ H s) (e : H a = some (.ins C dx fs)) (c : Cls X.K C) (k : Meth X.K C m g) (l : fs.lookup m = none)
    (h : Q (.ref g, [.ref a]) s) : wpAny (model X.prog X.w) A (getMethod (.ref a) m pl) Q E s := by
  obtain ⟨mA, O, r, _, _, _⟩ := ins_get I.hok e
  have hn : mA m = none := RelO.none_of (by rw [← l]; exact r m)
  exact get_meth I.kIn O (c.get m) k.at_ k.fn hn h
theorem setattr_ok {y : V} {u : Value} {Q : Unit → Shared → Prop} (I : Inv X pins σ H s) (e : H a = some (.ins C dx fs)) (c : Cls X.K C) (n : NoAttr X.K C f) (hl : fs.length < 1000) (ry : RelV y u)
    (h : ∀ s', Inv X pins σ (upd H a (.ins C dx (putF f y fs))) s' → Q () s') : wpAny (model X.prog X.w) A (setAttr (.ref a) f u) Q E s := by
  obtain ⟨mA, O, r, wi, _, ho⟩ := ins_get I.hok e
  have hz : (fs.map (·.1)).length ≤ sizeLine := by rw [List.length_map, sizeLine_eq]; omega
  refine set_map I.kIn O c.sa c.po n.taker c.hd wi hz fun h' O' sb => h _ ?_
  have hd : ∃ o, h'.get? dx = some o := let ⟨o, _, _, e', _⟩ := O'.ns; ⟨o, e'⟩
  refine I.write (x := a) (e := dx) (by rw [e]; exact True.intro) (.inr ho) (fun b q hb z => (sb.2 b hb).trans z) hd ?_
  refine ⟨by rw [upd_ne O.ne]; exact ho, ?_, O.ne, O'.obj, _, O'.ns, fun g => ?_, fun g hg => ?_⟩
  · have := length_putF f y fs; omega
  · show RelO ((putF f y fs).lookup g) (if g = f then some u else mA g)
    rw [lookup_putF]
    by_cases q : g = f
    · rw [if_pos q, if_pos q]; exact ry
    · rw [if_neg q, if_neg q]; exact r g
  · by_cases q : g = f
    · rw [q]; exact (keys_putF f y fs).1
    · refine (keys_putF f y fs).2 g (wi g fun z => hg ?_)
      show (if g = f then some u else mA g) = none
      rw [if_neg q]; exact z
theorem Inv.made (I : Inv X pins σ H s) : Inv X pins σ (upd (upd H s.heap.objs.size (.own (s.heap.objs.size + 1))) (s.heap.objs.size + 1) (.ins C s.heap.objs.size []))
    { s with heap := (s.heap.push PySem.W.emptyDict).push (PySem.W.instObj C s.heap.objs.size) } := by
  have e1 : (s.heap.push PySem.W.emptyDict).get? s.heap.objs.size = some PySem.W.emptyDict := Heap.get?_push_size s.heap rfl
  have e2 : ((s.heap.push PySem.W.emptyDict).push (PySem.W.instObj C s.heap.objs.size)).get? (s.heap.objs.size + 1) = some (PySem.W.instObj C s.heap.objs.size) := by
    have := Heap.get?_push_size (s.heap.push PySem.W.emptyDict) (o := PySem.W.instObj C s.heap.objs.size) rfl
    rwa [Heap.size_push] at this
  have e3 : (s.heap.push PySem.W.emptyDict).Ns s.heap.objs.size (fun _ => none) := ⟨PySem.W.emptyDict, #[], _, e1, rfl, (fun e he => absurd he (by simp)), fun _ => rfl⟩
  have I1 := I.laid (a := s.heap.objs.size) (o := .own (s.heap.objs.size + 1)) (h' := s.heap.push PySem.W.emptyDict) (t' := s.toks) (fun b u q => Heap.get?_push_of_some _ q) (Nat.le_refl _) ⟨_, e1⟩
  refine I1.laid (a := s.heap.objs.size + 1) (o := .ins C s.heap.objs.size []) (t' := s.toks) (fun b u q => Heap.get?_push_of_some _ q) (Nat.le_of_eq (Heap.size_push _ _)) ?_
  have ne : s.heap.objs.size ≠ s.heap.objs.size + 1 := Nat.ne_of_lt (Nat.lt_succ_self _)
  refine ⟨by rw [upd_ne ne, upd_same], Nat.zero_le _, ne, e2, fun _ => none, (Heap.Ns1.of_empty e3).at fun o q => Heap.get?_push_of_some _ q, fun _ => True.intro, fun y hy => absurd rfl hy⟩
theorem attr_of {prog : Program} {w : World} {env : Env} {e : Expr} {f : Str} {pos : Pos} {s : Shared} {Q : Value → Shared → Prop} (hb : attributeBase e f env (eval e env) = eval e env)
    (h : wpAny (model prog w) A (eval e env) (fun o s₁ => wpAny (model prog w) A (getAttr o f true) Q E s₁) E s) : wpAny (model prog w) A (eval (.Attribute e f pos) env) Q E s :=
  Attribute_any_ h (by rw [arm_eval_Attribute, hb])
end
def tFld (K : PySem.W.Frag) (ta : TE) (f : Str) : TE := fun σ H Q => ta σ H fun x H1 => ∃ a C dx fs v, x = .ref a ∧ H1 a = some (.ins C dx fs) ∧ Cls K C ∧ NoAttr K C f ∧ fs.lookup f = some v ∧ Q v H1
def tCon (K : PySem.W.Frag) (ta : TE) (f : Str) : TE := fun σ H Q => ta σ H fun x H1 => ∃ a C dx fs v u, x = .ref a ∧ H1 a = some (.ins C dx fs) ∧ Cls K C ∧ Con K C f v u ∧ fs.lookup f = none ∧ Q v H1
def sFld (K : PySem.W.Frag) (ta tv : TE) (f : Str) : TS := fun D σ H => tv σ H fun y H1 => ta σ H1 fun x H2 => ∃ a C dx fs, x = .ref a ∧ H2 a = some (.ins C dx fs) ∧ Cls K C ∧ NoAttr K C f ∧ fs.length < 1000 ∧
  D.nx σ (upd H2 a (.ins C dx (putF f y fs)))
def InOp (X : Cx) (op : Operator) (rd : V → V → Hp → VK → Prop) : Prop :=
  ∀ (pins : List (Addr × Obj)) (s : Shared) (σ : St) (H : Hp) (x y : V) (u v : Value) (Q : VK), Inv X pins σ H s → RelV x u → RelV y v → rd x y H Q → wpAny (model X.prog X.w) X.A (inplaceOp op u v) (EP X pins σ Q) X.xe s
def sFldAug (K : PySem.W.Frag) (ta tv : TE) (rd : V → V → Hp → VK → Prop) (f : Str) : TS := fun D σ H => ta σ H fun x H1 => ∃ a C dx fs v, x = .ref a ∧ H1 a = some (.ins C dx fs) ∧ Cls K C ∧ NoAttr K C f ∧ fs.lookup f = some v ∧
  tv σ H1 fun y H2 => rd v y H2 fun z H3 => ∃ dx' fs', H3 a = some (.ins C dx' fs') ∧ fs'.length < 1000 ∧ D.nx σ (upd H3 a (.ins C dx' (putF f z fs')))
section
variable {X : Cx} {o e value : Expr} {f : Str} {pos pos' tpos : Pos} {ta tv : TE}
theorem pe_fld (he : PE X e ta) (hb : attributeBase e f X.env (eval e X.env) = eval e X.env) : PE X (.Attribute e f pos) (tFld X.K ta f) := by
  intro pins s σ H Q I h
  refine attr_of hb (thn (he pins s σ H _ I h) fun u s1 ⟨x, H1, I1, rx, a, C, dx, fs, v, ex, ea, c, n, l, q⟩ => ?_)
  subst ex
  obtain rfl : u = Value.ref a := rx
  exact getattr_ok I1 ea c n l fun u' s2 I2 ru => ⟨v, H1, I2, ru, q⟩
theorem ps_fld (ha : PE X o ta) (hv : PE X value tv) (hs : swapsWith value (some (.Attribute o f pos')) pos.line X.env = pure false) : PS X (.Assign [.Attribute o f pos'] value pos) (sFld X.K ta tv f) := by
  intro pins s σ H D I h
  refine plainObj_wpAny_Assign_Attribute (thn (hv pins s σ H _ I h) fun u s1 ⟨y, H1, I1, ry, q⟩ => thn (ha pins s1 σ H1 _ I1 q) fun ov s2 ⟨x, H2, I2, rx, a, C, dx, fs, ex, ea, c, n, l, q2⟩ => ?_) hs
  subst ex
  obtain rfl : ov = Value.ref a := rx
  exact setattr_ok I2 ea c n l ry fun s3 I3 => ⟨σ, _, I3, q2⟩
def rAdd : V → V → Hp → VK → Prop := fun x y H Q => ∃ i j, x = .int i ∧ y = .int j ∧ Q (.int (i + j)) H
def rSub : V → V → Hp → VK → Prop := fun x y H Q => ∃ i j, x = .int i ∧ y = .int j ∧ Q (.int (i - j)) H
end
section
variable {X : Cx} {pins : List (Addr × Obj)} {σ : St} {H : Hp} {s : Shared} {A : Around} {E : Value → Shared → Prop} {Q : Value → Shared → Prop} {c : Value} {b : Bool}
inductive TyOf (K : PySem.W.Frag) (H : Hp) : V → Value → Prop where
  | non : TyOf K H .non (.type "NoneType")
  | bl (x : Bool) : TyOf K H (.bl x) (.type "bool")
  | int (i : Int) : TyOf K H (.int i) (.type "int")
  | str (x : Str) : TyOf K H (.str x) (.type "str")
  | flt (x : UInt64) : TyOf K H (.flt x) (.type "float")
  | lst {a : Addr} {xs : List V} (e : H a = some (.lst xs)) : TyOf K H (.ref a) (.type "list")
  | frz {a : Addr} {o : Obj} {xs : List V} (e : H a = some (.frz o (.lst xs))) : TyOf K H (.ref a) (.type "list")
  | tup {a : Addr} {xs : List V} (e : H a = some (.tup xs)) : TyOf K H (.ref a) (.type "tuple")
  | dK {a : Addr} {kvs : List (Key × V)} (e : H a = some (.dK kvs)) : TyOf K H (.ref a) (.type "dict")
  | dT {a : Addr} {kvs : List (List Key × V)} (e : H a = some (.dT kvs)) : TyOf K H (.ref a) (.type "dict")
  | ins {a C dx : Addr} {fs : List (Str × V)} (e : H a = some (.ins C dx fs)) (cl : Cls K C) (ha : PySem.W.findIn K (.ref C) "__class__" = some (some (.builtin "object.__class__")))
      (hn : PySem.W.specialIn K (.builtin "object.__class__") "__get__" = some (some (.builtin "getset_descriptor.__get__"))) (htk : PySem.W.takesIn K (.builtin "object.__class__") = some true)
      (hm : PySem.W.mroIn K C (.type "object") = some true) : TyOf K H (.ref a) (.ref C)
theorem isinst_ok {x : V} {u t : Value} (I : Inv X pins σ H s) (rx : RelV x u) (ty : TyOf X.K H x t) (e : PySem.W.kitOne X.K t c = some b) (h : ∀ tk, Q (.bool b) { s with toks := tk }) :
    wpAny (model X.prog X.w) A (call (.builtin "isinstance") [u, c]) Q E s := by
  cases ty with
  | non => cases (show u = Value.none from rx); exact PySem.W.kia_one PySem.W.kitx_none I.kIn True.intro e (fun z => nomatch z) h
  | bl y => cases (show u = Value.bool y from rx); exact PySem.W.kia_one PySem.W.kitx_bool I.kIn True.intro e (fun z => nomatch z) h
  | int i => obtain ⟨t, q⟩ := (show ∃ t, u = Value.int i t from rx); cases q; exact PySem.W.kia_one PySem.W.kitx_int I.kIn True.intro e (fun z => nomatch z) h
  | str y => obtain ⟨t, q⟩ := (show ∃ t, u = Value.str y t from rx); cases q; exact PySem.W.kia_one PySem.W.kitx_str I.kIn True.intro e (fun z => nomatch z) h
  | flt y => obtain ⟨t, q⟩ := (show ∃ t, u = Value.float y t from rx); cases q; exact PySem.W.kia_one PySem.W.kitx_float I.kIn True.intro e (fun z => nomatch z) h
  | @lst a xs ea =>
    cases (show u = Value.ref a from rx)
    obtain ⟨_, _, n, _, h1⟩ := (show ObjOk X.prog X.w H s.heap a (.lst xs) from I.hok a _ ea)
    exact PySem.W.kia_one PySem.W.kitx_list I.kIn ⟨_, h1, rfl⟩ e (fun z => nomatch z) h
  | @frz a ob xs ea =>
    cases (show u = Value.ref a from rx)
    obtain ⟨_, _, _, n, _, h1⟩ := (show ObjOk X.prog X.w H s.heap a (.frz ob (.lst xs)) from I.hok a _ ea)
    exact PySem.W.kia_one PySem.W.kitx_list I.kIn ⟨_, h1, rfl⟩ e (fun z => nomatch z) h
  | @tup a xs ea =>
    cases (show u = Value.ref a from rx)
    obtain ⟨_, _, _, p⟩ := (show ObjOk X.prog X.w H s.heap a (.tup xs) from I.hok a _ ea)
    obtain ⟨o, h1, h2, _⟩ := p
    exact PySem.W.kia_one PySem.W.kitx_tuple I.kIn ⟨o, h1, h2⟩ e (fun z => nomatch z) h
  | @dK a kvs ea =>
    cases (show u = Value.ref a from rx)
    obtain ⟨_, _, vs, _, p⟩ := (show ObjOk X.prog X.w H s.heap a (.dK kvs) from I.hok a _ ea)
    obtain ⟨o, es, ep, h1, h2, _⟩ := p
    exact PySem.W.kia_one PySem.W.kitx_dict I.kIn ⟨o, h1, h2.1⟩ e (fun z => nomatch z) h
  | @dT a kvs ea =>
    cases (show u = Value.ref a from rx)
    obtain ⟨_, _, xs, _, o, es, ep, h1, h2, _⟩ := (show ObjOk X.prog X.w H s.heap a (.dT kvs) from I.hok a _ ea)
    exact PySem.W.kia_one PySem.W.kitx_dict I.kIn ⟨o, h1, h2.1⟩ e (fun z => nomatch z) h
  | @ins a C dx fs ea cl ha hn htk hm =>
    cases (show u = Value.ref a from rx)
    obtain ⟨mA, O, _⟩ := ins_get I.hok ea
    obtain ⟨od, J, _⟩ := O.look
    exact PySem.W.kia_one (PySem.W.kitx_own (cl.get _) cl.hd ha hn htk hm) I.kIn J e (fun z => nomatch z) h
end
end L2
namespace L2
open PySem PySem.Spec PyProof.Rows
structure Room (k : Nat) (A : Around) : Prop where
  hd : A.handled = none
  dp : A.depth + 3 * k + 5 < recursionLimit
  un : A.units + 16 * k + 200 < cLine
theorem Room.mono {j k : Nat} {A : Around} (r : Room k A) (h : j ≤ k) : Room j A := ⟨r.hd, by have := r.dp; omega, by have := r.un; omega⟩
theorem Room.deeper {k : Nat} {A : Around} (r : Room (k + 1) A) (env : Env) : Room k (A.deeper env) :=
  ⟨r.hd, by have := r.dp; show A.depth + 1 + 3 * k + 5 < _; omega, by have := r.un; show A.units + 3 + 16 * k + 200 < _; omega⟩
theorem Room.in1 {k : Nat} {A : Around} (r : Room (k + 1) A) : Room k A.in1 :=
  ⟨r.hd, by have := r.dp; show A.depth + 3 * k + 5 < _; omega, by have := r.un; show A.units + 1 + 16 * k + 200 < _; omega⟩
theorem make_depth {A : Around} {C : Addr} {us : List Value} {kw : List (Str × Value)} : (A.under (.builtin "type.__call__" ⟨.ref C :: us, kw⟩)).depth = A.depth + 1 := by
  first | rfl | simp [Around.under, Code.weight, Code.isCreation, Code.isGuard, Code.isCaller, Code.frames, Code.isFrame, guardIds]
theorem make_units {A : Around} {C : Addr} {us : List Value} {kw : List (Str × Value)} : (A.under (.builtin "type.__call__" ⟨.ref C :: us, kw⟩)).units = A.units + 1 := by
  first | rfl | simp [Around.under, Code.cUnits, Code.frames, Code.isFrame]
theorem Room.make {k : Nat} {A : Around} (r : Room (k + 1) A) (C : Addr) (us : List Value) (kw : List (Str × Value)) : Room k (A.under (.builtin "type.__call__" ⟨.ref C :: us, kw⟩)) :=
  ⟨r.hd, by have := r.dp; rw [make_depth]; omega, by have := r.un; rw [make_units]; omega⟩
theorem Room.depth {k : Nat} {A : Around} (r : Room k A) : A.depth < recursionLimit := by have := r.dp; omega
theorem Room.units {k : Nat} {A : Around} (r : Room k A) : A.units + 64 < cLine := by have := r.un; omega
def tNil : TA := fun _ H Q => Q [] H
def tCons (ta : TE) (tr : TA) : TA := fun σ H Q => ta σ H fun x H1 => tr σ H1 fun xs H2 => Q (x :: xs) H2
section
variable {X : Cx} {e : Expr} {es : List Expr} {te : TE} {t : TA} {pos : Pos}
theorem pa_nil : PA X [] tNil := fun _ _ _ _ H Q I h => Calls.spliced_nil ⟨[], H, I, .nil, h⟩
theorem pa_cons (ha : PE X e te) (hr : PA X es t) (hs : starEach (e :: es) X.env = (false, eval e X.env) :: starEach es X.env := by rfl) : PA X (e :: es) (tCons te t) := by
  intro pos pins s σ H Q I h
  rw [hs]
  show wpAny _ _ (spliced ((false, eval e X.env) :: backTo pos (starEach es X.env))) _ _ s
  refine Calls.spliced_cons (thn (ha pins s σ H _ I h) fun u s1 ⟨x, H1, I1, r1, q1⟩ => ?_)
  exact thn (hr pos pins s1 σ H1 _ I1 q1) fun us s2 ⟨xs, H2, I2, r2, q2⟩ => ⟨x :: xs, H2, I2, .cons r1 r2, q2⟩
def tTup (t : TA) : TE := fun σ H Q => t σ H fun xs H1 => xs.length ≤ sizeLine ∧ ∀ p, H1 p = none → Q (.ref p) (upd H1 p (.tup xs))
def tLst (t : TA) : TE := fun σ H Q => t σ H fun xs H1 => xs.length ≤ sizeLine ∧ ∀ p, H1 p = none → Q (.ref p) (upd H1 p (.lst xs))
end
abbrev Sp := List V → Hp → VK → XK → Prop
abbrev CXT := List Env → Hp → Shared → XK → Value → Shared → Prop
structure Env0 (P : Program) (w : World) (K : PySem.W.Frag) (mg : Str → Option Value) (base : Heap) (A : Around) (outer : List Env) (s : Shared) (H : Hp) : Prop where
  frames : A.frames = some outer
  mod : Mod K mg base
  bs : ∀ b o, base.get? b = some o → s.heap.get? b = some o ∧ H b = none
  bsz : base.objs.size ≤ s.heap.objs.size
  funs : s.heap.FunFrames base outer
  frf : ∀ b ∈ frs outer, H b = none
  hok : HOk P w H s.heap
  bare : AllBare s.gens
def CE (outer : List Env) (P : Program) (w : World) (H : Hp) (s : Shared) (Q : VK) (u : Value) (s' : Shared) : Prop :=
  ∃ v H', s'.os = s.os ∧ AllBare s'.gens ∧ Un (frs outer) [] H H' s.heap s'.heap ∧ HOk P w H' s'.heap ∧ RelV v u ∧ Q v H'
def CR (CX : CXT) (outer : List Env) (P : Program) (w : World) (H : Hp) (s : Shared) (Q : VK) (E : XK) (r : Result) (s' : Shared) : Prop :=
  match r with
  | .ok (.ret u) => CE outer P w H s Q u s'
  | .ok _ => False
  | .error e => CX outer H s E e s'
structure FnOk (P : Program) (w : World) (K : PySem.W.Frag) (mg : Str → Option Value) (base : Heap) (CX : CXT) (k : Nat) (f : Addr) (fd : FuncData) (ps : List Str) (sp : Sp) : Prop where
  len : ∀ vs H Q E, sp vs H Q E → vs.length = ps.length
  run : ∀ (A : Around) (outer : List Env) (s : Shared) (H : Hp) (args : Args) (us : List Value) (vs : List V) (Q : VK) (E : XK), Room k A → Env0 P w K mg base A outer s H → BindsTo s fd args (ps.zip us) → Vals vs us → sp vs H Q E →
    codeAny (model P w) A (.call (.ref f) args) (CR CX outer P w H s Q E) s
theorem FnOk.mono {P : Program} {w : World} {K : PySem.W.Frag} {mg : Str → Option Value} {base : Heap} {CX : CXT} {j k : Nat} {f : Addr} {fd : FuncData} {ps : List Str} {sp : Sp} (F : FnOk P w K mg base CX j f fd ps sp) (h : j ≤ k) :
    FnOk P w K mg base CX k f fd ps sp := ⟨F.len, fun A outer s H args us vs Q E hr => F.run A outer s H args us vs Q E (hr.mono h)⟩
theorem Env0.make {P : Program} {w : World} {K : PySem.W.Frag} {mg : Str → Option Value} {base : Heap} {A : Around} {outer : List Env} {s : Shared} {H : Hp} (e : Env0 P w K mg base A outer s H) (C : Addr) (us : List Value) (kw : List (Str × Value)) :
    Env0 P w K mg base (A.under (.builtin "type.__call__" ⟨.ref C :: us, kw⟩)) outer s H := ⟨by first | exact e.frames | (simpa [Around.under, Code.envs, Code.isFrame, pushEnvs] using e.frames), e.mod, e.bs, e.bsz, e.funs, e.frf, e.hok, e.bare⟩
theorem Env0.in1 {P : Program} {w : World} {K : PySem.W.Frag} {mg : Str → Option Value} {base : Heap} {A : Around} {outer : List Env} {s : Shared} {H : Hp} (e : Env0 P w K mg base A outer s H) :
    Env0 P w K mg base A.in1 outer s H := ⟨e.frames, e.mod, e.bs, e.bsz, e.funs, e.frf, e.hok, e.bare⟩
section
variable {X : Cx} {pins : List (Addr × Obj)} {σ : St} {H : Hp} {s s' : Shared}
theorem Inv.env0 (I : Inv X pins σ H s) : Env0 X.prog X.w X.K X.mg X.base X.A X.stack s H :=
  ⟨I.ok.frames, I.ok.mod, I.bs, Nat.le_trans I.ok.bsz I.sz, I.stack, I.stkFree, I.hok, I.bare⟩
theorem Inv.after {Q : VK} {u : Value} (I : Inv X pins σ H s) (h : CE X.stack X.prog X.w H s Q u s') : EP X pins σ Q u s' := by
  obtain ⟨v, H', os, bare, un, hok, r, q⟩ := h
  obtain ⟨hh, g, d, t, os'⟩ := s'
  obtain rfl : os' = s.os := os
  exact ⟨v, H', I.call (h' := hh) (g' := g) (d' := d) (t' := t) (ch := []) un hok bare (fun b z => absurd z (by simp)), r, q⟩
end
def tCall (sp : Sp) (dvs : List V) (E : XK) (t : TA) : TE := fun σ H Q => t σ H fun vs H1 => sp (vs ++ dvs) H1 Q E
def tMeth (C : Addr) (m : Str) (sp : Sp) (dvs : List V) (E : XK) (ta : TE) (t : TA) : TE := fun σ H Q => ta σ H fun x H1 => ∃ a dx fs, x = .ref a ∧ H1 a = some (.ins C dx fs) ∧ fs.lookup m = none ∧
  t σ H1 fun vs H2 => sp (x :: (vs ++ dvs)) H2 Q E
def tMake (C : Addr) (sp : Sp) (dvs : List V) (E : XK) (t : TA) : TE := fun σ H Q => t σ H fun vs H1 => ∀ x dx, H1 x = none → H1 dx = none → dx ≠ x →
  sp (.ref x :: (vs ++ dvs)) (upd (upd H1 dx (.own x)) x (.ins C dx [])) (fun v H2 => v = .non ∧ Q (.ref x) H2) E
def Binds (K : PySem.W.Frag) (fd : FuncData) (ps : List Str) (ds : List Value) : Prop :=
  ∀ (s : Shared) (us : List Value), K.In s.heap → (us ++ ds).length = ps.length → BindsTo s fd ⟨us, []⟩ (ps.zip (us ++ ds))
theorem Binds.all {K : PySem.W.Frag} {fd : FuncData} {ps : List Str} (h : ∀ us : List Value, us.length = ps.length → bindArgs fd ⟨us, []⟩ = pure (ps.zip us)) : Binds K fd ps [] := fun s us _ hl => by
  rw [List.append_nil] at hl ⊢
  exact .of_eq (h us hl)
def Passes (CX : CXT) (X : Cx) (E : XK) : Prop := ∀ (pins : List (Addr × Obj)) (σ : St) (H : Hp) (s : Shared) (e : Value) (s' : Shared), Inv X pins σ H s → CX X.stack H s E e s' → X.xe e s'
section
variable {X : Cx} {CX : CXT} {k : Nat} {f C : Addr} {fd : FuncData} {ps : List Str} {sp : Sp} {dvs : List V} {ds : List Value} {E : XK} {x m : Str} {p pos apos : Pos} {e o : Expr} {es : List Expr} {ta : TE} {t : TA}
theorem run_fn {pins : List (Addr × Obj)} {σ : St} {H : Hp} {s : Shared} {Q : VK} {us : List Value} {vs : List V} (F : FnOk X.prog X.w X.K X.mg X.base CX k f fd ps sp) (hr : Room k X.A) (hb : Binds X.K fd ps ds) (hd : Vals dvs ds) (hx : Passes CX X E)
    (I : Inv X pins σ H s) (r : Vals vs us) (h : sp (vs ++ dvs) H Q E) : wpAny (model X.prog X.w) X.A (call (.ref f) us) (EP X pins σ Q) X.xe s := by
  have r2 : Vals (vs ++ dvs) (us ++ ds) := r.append hd
  have hl : (us ++ ds).length = ps.length := by rw [← r2.length]; exact F.len _ _ _ _ h
  refine wpAny_call (codeAny_mono (F.run X.A X.stack s H ⟨us, []⟩ (us ++ ds) (vs ++ dvs) Q E hr I.env0 (hb s us I.kIn hl) r2 h) fun r s' hq => ?_)
  cases r with
  | error e => exact hx pins σ H s e s' I hq
  | ok fl =>
    cases fl with
    | ret u => exact I.after hq
    | next => exact False.elim hq
    | brk => exact False.elim hq
    | cont => exact False.elim hq
theorem pe_call (F : FnOk X.prog X.w X.K X.mg X.base CX k f fd ps sp) (hr : Room k X.A) (hg : Gl X x) (hm : X.mg x = some (.ref f)) (hk : PySem.W.keepIn X.K (.ref f) = true) (hb : Binds X.K fd ps ds) (hd : Vals dvs ds) (hx : Passes CX X E)
    (ha : PA X (e :: es) t) (hdb : (x == ("__debug__" : Str)) = false := by decide) (he : starEach (e :: es) X.env = (false, eval e X.env) :: starEach es X.env := by rfl) (hpl : (backTo pos (starEach es X.env)).any (·.1) = false := by rfl) :
    PE X (.Call (.Name x p) (e :: es) [] pos) (tCall sp dvs E t) := by
  intro pins s σ H Q I h
  refine wpAny_Call_Name_kw (ld_glob I hg hm ?_ hdb)
  refine PySem.W.callWith_K (h₀ := X.base) I.ok.mod.kin hk (thn (ha pos pins s σ H _ I h) fun us s1 ⟨vs, H1, I1, r, q⟩ => ⟨I1.kIn, ?_⟩) he hpl
  exact run_fn F hr hb hd hx I1 r q
theorem pe_meth {pl : Sem Bool} (he : PE X o ta) (c : Cls X.K C) (hm : Meth X.K C m f) (F : FnOk X.prog X.w X.K X.mg X.base CX k f fd ps sp) (hr : Room k X.A) (hb : Binds X.K fd ps ds) (hd : Vals dvs ds) (hx : Passes CX X E) (ha : PA X (e :: es) t)
    (hst : starEach (e :: es) X.env = (false, eval e X.env) :: starEach es X.env := by rfl) (hpl : (backTo pos (starEach es X.env)).any (·.1) = false := by rfl)
    (ht : eval (.Call (.Attribute o m apos) (e :: es) [] pos) X.env = (do
      let ov ← eval o X.env
      standAt apos.atName
      let (f, first) ← holding [ov] (getMethod ov m pl)
      callWith pos f first (backTo pos (starEach (e :: es) X.env)) (backToKw pos (keywordEach [] X.env))) := by rfl) :
    PE X (.Call (.Attribute o m apos) (e :: es) [] pos) (tMeth C m sp dvs E ta t) := by
  intro pins s σ H Q I h
  refine PySem.W.methodCall_KW (pl := pl) (thn (he pins s σ H _ I h) fun u s1 ⟨x, H1, I1, rx, a, dx, fs, ex, ea, l, q⟩ => ?_) ht
  subst ex
  obtain rfl : u = Value.ref a := rx
  refine getmeth_ok I1 ea c hm l ?_
  refine PySem.W.callWith_K (first := [.ref a]) (h₀ := X.base) I.ok.mod.kin hm.kp (thn (ha pos pins s1 σ H1 _ I1 q) fun us s2 ⟨vs, H2, I2, r, q2⟩ => ⟨I2.kIn, ?_⟩) hst hpl
  exact run_fn (us := .ref a :: us) (vs := .ref a :: vs) F hr hb hd hx I2 (.cons rfl r) q2
theorem pe_meth0 {pl : Sem Bool} (he : PE X o ta) (c : Cls X.K C) (hm : Meth X.K C m f) (F : FnOk X.prog X.w X.K X.mg X.base CX k f fd ps sp) (hr : Room k X.A) (hb : Binds X.K fd ps ds) (hd : Vals dvs ds) (hx : Passes CX X E)
    (ht : eval (.Call (.Attribute o m apos) [] [] pos) X.env = (do
      let ov ← eval o X.env
      standAt apos.atName
      let (f, first) ← holding [ov] (getMethod ov m pl)
      callWith pos f first (backTo pos (starEach [] X.env)) (backToKw pos (keywordEach [] X.env))) := by rfl) :
    PE X (.Call (.Attribute o m apos) [] [] pos) (tMeth C m sp dvs E ta tNil) := by
  intro pins s σ H Q I h
  refine PySem.W.methodCall_KW (pl := pl) (thn (he pins s σ H _ I h) fun u s1 ⟨x, H1, I1, rx, a, dx, fs, ex, ea, l, q⟩ => ?_) ht
  subst ex
  obtain rfl : u = Value.ref a := rx
  refine getmeth_ok I1 ea c hm l ?_
  exact PySem.W.callWith_K0 (first := [.ref a]) I1.kIn hm.kp (run_fn (us := [.ref a]) (vs := [.ref a]) F hr hb hd hx I1 (.cons rfl .nil) q)
structure Mk (K : PySem.W.Frag) (C f : Addr) : Prop where
  makes : PySem.W.makesIn K C = true
  init : PySem.W.findIn K (.ref C) "__init__" = some (some (.ref f))
  fn : PySem.W.isFn K (.ref f) = true
  kp : PySem.W.keepIn K (.ref C) = true
theorem run_make {pins : List (Addr × Obj)} {σ : St} {H : Hp} {s : Shared} {Q : VK} {us : List Value} {vs : List V} (M : Mk X.K C f) (F : FnOk X.prog X.w X.K X.mg X.base CX k f fd ps sp) (hr : Room (k + 1) X.A) (hb : Binds X.K fd ps ds) (hd : Vals dvs ds)
    (hx : Passes CX X E) (I : Inv X pins σ H s) (r : Vals vs us)
    (h : ∀ x dx, H x = none → H dx = none → dx ≠ x → sp (.ref x :: (vs ++ dvs)) (upd (upd H dx (.own x)) x (.ins C dx [])) (fun v H2 => v = .non ∧ Q (.ref x) H2) E) :
    wpAny (model X.prog X.w) X.A (call (.ref C) us) (EP X pins σ Q) X.xe s := by
  have hq := h (s.heap.objs.size + 1) s.heap.objs.size (I.hok.fresh (Nat.le_succ _)) (I.hok.fresh (Nat.le_refl _)) (Nat.ne_of_lt (Nat.lt_succ_self _))
  have I2 := Inv.made (C := C) I
  have r2 : Vals (V.ref (s.heap.objs.size + 1) :: (vs ++ dvs)) (Value.ref (s.heap.objs.size + 1) :: (us ++ ds)) := .cons rfl (r.append hd)
  have hl : (Value.ref (s.heap.objs.size + 1) :: us ++ ds).length = ps.length := by
    have e := r2.length
    rw [F.len _ _ _ _ hq] at e
    exact e.symm
  refine wpAny_call (make_map (f := f) I.kIn M.makes M.init (beq_iff_eq.mp M.fn) (codeAny_mono (F.run _ X.stack _ _ ⟨Value.ref (s.heap.objs.size + 1) :: us, []⟩ (Value.ref (s.heap.objs.size + 1) :: (us ++ ds)) _ _ E (hr.make C us [])
    (I2.env0.make C us []) (hb _ (Value.ref (s.heap.objs.size + 1) :: us) I2.kIn hl) r2 hq) fun r s' hq' => ?_))
  cases r with
  | error e => exact hx pins σ _ _ e s' I2 hq'
  | ok fl =>
    cases fl with
    | ret u =>
      obtain ⟨v, H', I3, rv, ev, q3⟩ := I2.after hq'
      subst ev
      exact ⟨rv, ⟨V.ref (s.heap.objs.size + 1), H', I3, rfl, q3⟩⟩
    | next => exact False.elim hq'
    | brk => exact False.elim hq'
    | cont => exact False.elim hq'
theorem pe_make (M : Mk X.K C f) (F : FnOk X.prog X.w X.K X.mg X.base CX k f fd ps sp) (hr : Room (k + 1) X.A) (hg : Gl X x) (hm : X.mg x = some (.ref C)) (hb : Binds X.K fd ps ds) (hd : Vals dvs ds) (hx : Passes CX X E)
    (ha : PA X (e :: es) t) (hdb : (x == ("__debug__" : Str)) = false := by decide) (he : starEach (e :: es) X.env = (false, eval e X.env) :: starEach es X.env := by rfl) (hpl : (backTo pos (starEach es X.env)).any (·.1) = false := by rfl) :
    PE X (.Call (.Name x p) (e :: es) [] pos) (tMake C sp dvs E t) := by
  intro pins s σ H Q I h
  refine wpAny_Call_Name_kw (ld_glob I hg hm ?_ hdb)
  refine PySem.W.callWith_K (h₀ := X.base) I.ok.mod.kin M.kp (thn (ha pos pins s σ H _ I h) fun us s1 ⟨vs, H1, I1, r, q⟩ => ⟨I1.kIn, ?_⟩) he hpl
  exact run_make M F hr hb hd hx I1 r q
end
def PK (X : Cx) (kws : List Keyword) (t : TA) : Prop :=
  ∀ (pos : Pos) (pins : List (Addr × Obj)) (s : Shared) (σ : St) (H : Hp) (Q : List V → Hp → Prop), Inv X pins σ H s → t σ H Q → wpAny (model X.prog X.w) X.A (evalAll ((backToKw pos (keywordEach kws X.env)).map (·.2))) (AP X pins σ Q) X.xe s
section
variable {X : Cx} {CX : CXT} {k : Nat} {f C : Addr} {fd : FuncData} {ps ks : List Str} {sp : Sp} {E : XK} {x m : Str} {p pos apos kpos : Pos} {e o : Expr} {es : List Expr} {kws : List Keyword} {te ta : TE} {t tk : TA} {nm : Option Str}
structure KBinds (K : PySem.W.Frag) (fd : FuncData) (ps ks : List Str) (g : List Value → List Value → List Value) (gV : List V → List V → List V) : Prop where
  to : ∀ (s : Shared) (us ws : List Value), K.In s.heap → (g us ws).length = ps.length → BindsTo s fd ⟨us, ks.zip ws⟩ (ps.zip (g us ws))
  rel : ∀ {vs : List V} {us : List Value} {zs : List V} {ws : List Value}, Vals vs us → Vals zs ws → Vals (gV vs zs) (g us ws)
def tCallK (sp : Sp) (gV : List V → List V → List V) (E : XK) (t tk : TA) : TE := fun σ H Q => t σ H fun vs H1 => tk σ H1 fun zs H2 => sp (gV vs zs) H2 Q E
variable {g : List Value → List Value → List Value} {gV : List V → List V → List V}
end
structure FnScope (N P : List Str) (sc : Scope) : Prop where
  kind : sc.kind = .function
  co : sc.isCoroutine = false
  gen : sc.isGenerator = false
  nd : N.Nodup
  pre : N.take P.length = P
  par : ∀ x ∈ P, sc.names.lookup x = some .local ∨ sc.names.lookup x = some .cell
  nofree : ∀ y ∈ sc.names, y.2 ≠ .free
theorem bindL_out {kindOf : Str → Option NameKind} {x : Str} : ∀ {binds : List (Str × Value)} {m : Str → Option Value}, (∀ v, (x, v) ∉ binds) → bindL kindOf binds m x = m x
  | [], _, _ => rfl
  | (n, v) :: r, m, h => by
    unfold bindL
    rw [bindL_out fun w hw => h w (List.mem_cons_of_mem _ hw)]
    split
    · have : x ≠ n := by rintro rfl; exact h v List.mem_cons_self
      simp [this]
    · rfl
theorem bindC_out {kindOf : Str → Option NameKind} {x : Str} : ∀ {binds : List (Str × Value)} {m : Str → Option Value}, (∀ v, (x, v) ∉ binds) → bindC kindOf binds m x = m x
  | [], _, _ => rfl
  | (n, v) :: r, m, h => by
    unfold bindC
    rw [bindC_out fun w hw => h w (List.mem_cons_of_mem _ hw)]
    split
    · rfl
    · have : x ≠ n := by rintro rfl; exact h v List.mem_cons_self
      simp [this]
theorem bindL_get {kindOf : Str → Option NameKind} {x : Str} {v : Value} : ∀ {P : List Str} {vs : List Value} {i : Nat} {m : Str → Option Value}, P.Nodup → P[i]? = some x → vs[i]? = some v → kindOf x = some .local →
    bindL kindOf (P.zip vs) m x = some v
  | [], _, _, _, _, h, _, _ => by simp at h
  | _ :: _, [], _, _, _, _, h, _ => by simp at h
  | p :: P, w :: vs, 0, m, nd, h1, h2, hk => by
    simp at h1 h2; subst h1; subst h2
    show bindL kindOf ((p, w) :: P.zip vs) m p = _
    unfold bindL
    rw [bindL_out fun v hv => (List.nodup_cons.mp nd).1 (List.of_mem_zip hv).1, if_pos hk]
    simp
  | p :: P, w :: vs, i + 1, m, nd, h1, h2, hk => by
    show bindL kindOf ((p, w) :: P.zip vs) m x = _
    unfold bindL
    exact bindL_get (i := i) (List.nodup_cons.mp nd).2 (by simpa using h1) (by simpa using h2) hk
theorem bindC_get {kindOf : Str → Option NameKind} {x : Str} {v : Value} : ∀ {P : List Str} {vs : List Value} {i : Nat} {m : Str → Option Value}, P.Nodup → P[i]? = some x → vs[i]? = some v → kindOf x ≠ some .local →
    bindC kindOf (P.zip vs) m x = some v
  | [], _, _, _, _, h, _, _ => by simp at h
  | _ :: _, [], _, _, _, _, h, _ => by simp at h
  | p :: P, w :: vs, 0, m, nd, h1, h2, hk => by
    simp at h1 h2; subst h1; subst h2
    show bindC kindOf ((p, w) :: P.zip vs) m p = _
    unfold bindC
    rw [bindC_out fun v hv => (List.nodup_cons.mp nd).1 (List.of_mem_zip hv).1, if_neg hk]
    simp
  | p :: P, w :: vs, i + 1, m, nd, h1, h2, hk => by
    show bindC kindOf ((p, w) :: P.zip vs) m x = _
    unfold bindC
    exact bindC_get (i := i) (List.nodup_cons.mp nd).2 (by simpa using h1) (by simpa using h2) hk
def start (N : List Str) (vs : List V) : St := vs.map some ++ List.replicate (N.length - vs.length) none
def cxOf (CX : CXT) (P : Program) (w : World) (K : PySem.W.Frag) (mg : Str → Option Value) (base : Heap) (N : List Str) (qual : Str) (scope : Scope) (f : Addr) (cd : Value) (A : Around) (outer : List Env) (s : Shared) (H : Hp) (E : XK) : Cx where
  prog := P
  w := w
  K := K
  mg := mg
  base := base
  A := A.deeper (envOfC qual scope s.heap.objs.size f cd)
  N := N
  s₀ := s
  H₀ := H
  env := envOfC qual scope s.heap.objs.size f cd
  outer := outer
  stack := envOfC qual scope s.heap.objs.size f cd :: outer
  ex := []
  calm := true
  fn := fun _ => true
  pn := []
  xe := fun e s' => wpAny (model P w) (A.deeper (envOfC qual scope s.heap.objs.size f cd)) (leaving (envOfC qual scope s.heap.objs.size f cd) e) (fun _ s'' => CX outer H s E e s'') (fun e' s'' => CX outer H s E e' s'') s'
theorem cell_has {sc : Scope} {n : Nat} {x : Str} (h : sc.names.lookup x = some .cell) : ∃ c, (cellsFrom n sc.names []).lookup x = some c := by
  have q := PySem.W.cellsFrom_some sc.names n [] (.inl h)
  exact Option.isSome_iff_exists.mp q
theorem inv_start {CX : CXT} {P : Program} {w : World} {K : PySem.W.Frag} {mg : Str → Option Value} {base : Heap} {N ps : List Str} {qual : Str} {scope : Scope} {f : Addr} {cd : Value} {A : Around} {outer : List Env} {s s1 : Shared} {H : Hp} {E : XK} {us : List Value} {vs : List V}
    (S : FnScope N ps scope) (hd : A.handled = none) (e0 : Env0 P w K mg base A outer s H) (hl : vs.length = ps.length) (r : Vals vs us)
    (x : InCallC s s.heap.objs.size (bindL (envOfC qual scope s.heap.objs.size f cd).kindOf (ps.zip us) fun _ => none) (cellsFrom (s.heap.objs.size + 1) scope.names []) (bindC (envOfC qual scope s.heap.objs.size f cd).kindOf (ps.zip us) fun _ => none) s1) :
    Inv (cxOf CX P w K mg base N qual scope f cd A outer s H E) [] (start N vs) H s1 := by
  have hpl : ps.length ≤ N.length := by have := congrArg List.length S.pre; rw [List.length_take] at this; omega
  obtain ⟨h1, tk, rfl, hk⟩ := x.done
  have noA : ∀ b : Addr, b ∉ (cxOf CX P w K mg base N qual scope f cd A outer s H E).ex := fun b z => absurd (show b ∈ ([] : List Addr) from z) (by simp)
  refine ⟨⟨e0.mod, S.kind, rfl, rfl, Nat.le_refl _, fun y z c h1 h2 => ?_, fun y hy => ?_, fun y c _ h => ?_, fun _ => hd, Around.frames_deeper e0.frames, .inr ⟨rfl, rfl⟩, fun b z => absurd z (noA b), e0.bs, e0.bsz, fun b _ _ => noA b, fun b z => absurd z (noA b), e0.funs, e0.frf⟩,
    rfl, e0.bare, Un.kept hk, ⟨_, x.toInCall.ns, fun i y v h1 h2 h3 => ?_⟩, fun y c h => ⟨_, x.cell y c h⟩, e0.hok.fresh (Nat.le_refl _), fun y c h => ?_, fun p hp => absurd (show p ∈ ([] : List (Addr × Obj)) from hp) (by simp), e0.hok.kept hk, ?_⟩
  · exact name_of_addr x.apart (PySem.mem_of_lookup h1) (PySem.mem_of_lookup h2)
  · have hy : scope.names.lookup y = some .cell ∨ scope.names.lookup y = some .free := hy
    rcases hy with hy | hy
    · exact cell_has hy
    · exact absurd rfl (S.nofree _ (PySem.mem_of_lookup hy))
  · exact Nat.le_of_lt (x.above y c (PySem.mem_of_lookup h))
  · have hi : i < vs.length := by
      unfold start at h2
      by_cases hi : i < vs.length
      · exact hi
      · rw [List.getElem?_append_right (by simpa using hi)] at h2
        rw [List.getElem?_replicate] at h2
        split at h2 <;> cases h2
    have ha : vs[i]? = some v := by
      unfold start at h2
      rw [List.getElem?_append_left (by simpa using hi), List.getElem?_map] at h2
      cases e : vs[i]? with
      | none => rw [e] at h2; cases h2
      | some a => rw [e] at h2; cases h2; rfl
    obtain ⟨u, hu, rv⟩ := r.get ha
    have hp : ps[i]? = some y := by
      rw [← S.pre, List.getElem?_take_of_lt (by omega)]; exact h1
    have ndP : ps.Nodup := by rw [← S.pre]; exact S.nd.sublist (List.take_sublist _ _)
    refine ⟨u, rv, ?_⟩
    rcases S.par y (List.mem_of_getElem? hp) with k | k
    · exact .inl ⟨k, bindL_get ndP hp hu k⟩
    · obtain ⟨c, e⟩ := cell_has (n := s.heap.objs.size + 1) k
      refine .inr ⟨.inl k, c, e, ?_⟩
      have q := x.cell y c e
      rw [bindC_get ndP hp hu (by show scope.names.lookup y ≠ _; rw [k]; decide)] at q
      exact q
  · exact e0.hok.fresh (Nat.le_of_lt (x.above y c (PySem.mem_of_lookup h)))
  · unfold start
    show _ = N.length
    rw [List.length_append, List.length_map, List.length_replicate]
    omega
theorem fn_of {CX : CXT} {P : Program} {w : World} {K : PySem.W.Frag} {mg : Str → Option Value} {base : Heap} {k : Nat} {f : Addr} {name qual : Str} {params : Arguments} {body : List Stmt} {scope : Scope} {dV kV doc pm cdv ct oc : Value} {an od : Option Addr}
    {osl : Array (Option Value)} {N ps : List Str} {sp : Sp} (lk : K.lookup f = some ⟨oc, od, .func (PySem.W.fnOf name qual params body scope dV kV doc pm an cdv ct), osl⟩) (hcd : PySem.W.codeIn K cdv qual = true) (S : FnScope N ps scope)
    (len : ∀ vs H Q E, sp vs H Q E → vs.length = ps.length)
    (hbody : ∀ (A : Around) (outer : List Env) (s : Shared) (H : Hp) (vs : List V) (Q : VK) (E : XK), Room k (A.deeper (envOfC qual scope s.heap.objs.size f cdv)) → sp vs H Q E →
      ∃ t, PSs (cxOf CX P w K mg base N qual scope f cdv A outer s H E) body t ∧ t { nx := fun _ H' => Q .non H', rt := Q } (start N vs) H) :
    FnOk P w K mg base CX (k + 1) f (PySem.W.fnOf name qual params body scope dV kV doc pm an cdv ct) ps sp := by
  refine ⟨len, fun A outer s H args us vs Q E hr e0 hb r hsp => ?_⟩
  have hl := len _ _ _ _ hsp
  have KX : K.In s.heap := e0.mod.kin.keeps fun b o e => (e0.bs b o e).1
  have lim : s.heap.NoLimit := e0.mod.nolimit.keeps fun b o e => (e0.bs b o e).1
  have hkind : ∀ y ∈ ps.zip us, scope.names.lookup y.1 = some .local ∨ (scope.names.lookup y.1 = some .cell ∧ ((cellsFrom (s.heap.objs.size + 1) scope.names []).lookup y.1).isSome = true) := fun ⟨n, v⟩ hy => by
    rcases S.par n (List.of_mem_zip hy).1 with q | q
    · exact .inl q
    · exact .inr ⟨q, PySem.W.cellsFrom_some _ _ _ (.inl q)⟩
  refine codeAny_call_function hr.depth (KX _ _ lk) rfl S.co S.gen rfl (PySem.W.codeRec_of KX hcd) (hb _ _ _ _ ?_)
  refine wpAny_newFunctionEnv_cells S.kind hkind fun env he s1 x => ?_
  subst he
  refine ⟨lim.keeps x.toInCall.keep, codeAny_func ?_⟩
  obtain ⟨t, ht, hq⟩ := hbody A outer s H vs Q E (hr.deeper _) hsp
  have I : Inv (cxOf CX P w K mg base N qual scope f cdv A outer s H E) [] (start N vs) H s1 := inv_start S hr.hd e0 hl r x
  refine wpAny_mono (ht [] s1 (start N vs) H _ I hq) (fun fl s' hs => ?_) fun e s' hs => hs
  have fin : ∀ {σ' : St} {H' : Hp} {v : V} {u : Value}, Inv (cxOf CX P w K mg base N qual scope f cdv A outer s H E) [] σ' H' s' → RelV v u → Q v H' → CE outer P w H s Q u s' :=
    fun {σ' H' v u} J rv q => ⟨v, H', J.os, J.bare, J.base, J.hok, rv, q⟩
  cases fl with
  | ret u =>
    obtain ⟨v, σ', H', J, rv, q⟩ := hs
    exact fin J rv q
  | next =>
    obtain ⟨σ', H', J, q⟩ := hs
    exact fin (v := V.non) (u := Value.none) J rfl q
  | brk =>
    obtain ⟨_, _, _, q⟩ := hs
    exact False.elim q
  | cont =>
    obtain ⟨_, _, _, q⟩ := hs
    exact False.elim q
end L2
namespace L2
open PySem PySem.Spec PyProof.Rows
section
variable {X : Cx} {x : Str} {p pos : Pos} {e : Expr} {es : List Expr} {t : TA} {id T : String} {r : List V → Hp → VK → Prop}
def tCB (r : List V → Hp → VK → Prop) (t : TA) : TE := fun σ H Q => t σ H fun vs H1 => r vs H1 Q
theorem pe_callB (hc : CallR X (.builtin id) r) (hg : Gl X x) (hm : X.mg x = none) (hv : bootBuiltins x = some (.builtin id)) (ha : PA X (e :: es) t) (hn : x ≠ "__name__" := by decide) (hdb : (x == ("__debug__" : Str)) = false := by decide)
    (he : starEach (e :: es) X.env = (false, eval e X.env) :: starEach es X.env := by rfl) (hpl : (backTo pos (starEach es X.env)).any (·.1) = false := by rfl) : PE X (.Call (.Name x p) (e :: es) [] pos) (tCB r t) := by
  intro pins s σ H Q I h
  refine wpAny_Call_Name_kw (ld_blt I hg hm hv ?_ hn hdb)
  exact PyProof.Rows.callWith_builtin1 (thn (ha pos pins s σ H _ I h) fun us s1 ⟨vs, H1, I1, r1, q1⟩ => hc pins s1 σ H1 vs us Q I1 r1 q1) he hpl
theorem pe_callTy (hc : CallR X (.type T) r) (hg : Gl X x) (hm : X.mg x = none) (hv : bootBuiltins x = some (.type T)) (ha : PA X (e :: es) t) (hn : x ≠ "__name__" := by decide) (hdb : (x == ("__debug__" : Str)) = false := by decide)
    (he : starEach (e :: es) X.env = (false, eval e X.env) :: starEach es X.env := by rfl) (hpl : (backTo pos (starEach es X.env)).any (·.1) = false := by rfl) : PE X (.Call (.Name x p) (e :: es) [] pos) (tCB r t) := by
  intro pins s σ H Q I h
  refine wpAny_Call_Name_kw (ld_blt I hg hm hv ?_ hn hdb)
  exact PyProof.Rows.callWith_type1 (thn (ha pos pins s σ H _ I h) fun us s1 ⟨vs, H1, I1, r1, q1⟩ => hc pins s1 σ H1 vs us Q I1 r1 q1) he hpl
end
end L2
namespace HT
open PySem PyProof.Rows
def lexLt : List Int → List Int → Bool
  | [], [] => false
  | [], _ :: _ => true
  | _ :: _, [] => false
  | x :: xs, y :: ys => if x = y then lexLt xs ys else decide (x < y)
section
open PySem.SeqAt
open PySem.AutoSeq1 (wpAny_loadPart')
open PySem.MeetsSeq PySem.MeetsSeq2 PySem.MeetsSeq3
end
section
variable {prog : Program} {w : World} {A : Around} {E : Value → Shared → Prop} {s : Shared}
def sIx (n d : Nat) : Option Int → Nat
  | none => d
  | some v => if v < 0 then (v + (n : Int)).toNat else min v.toNat n
theorem sIx_none (n d : Nat) : sIx n d none = d := rfl
theorem sIx_nat (n d k : Nat) : sIx n d (some (k : Int)) = min k n := by
  show (if (k : Int) < 0 then ((k : Int) + (n : Int)).toNat else min (k : Int).toNat n) = min k n
  rw [if_neg (by omega), Int.toNat_natCast]
end
end HT
namespace L2
open PySem PySem.Spec PyProof.Rows
abbrev TO := St → Hp → (Option Int → Hp → Prop) → Prop
def PO (X : Cx) (e : Option Expr) (t : TO) : Prop :=
  ∀ (pins : List (Addr × Obj)) (s : Shared) (σ : St) (H : Hp) (Q : Option Int → Hp → Prop), Inv X pins σ H s → t σ H Q →
    wpAny (model X.prog X.w) X.A (evalPart e X.env) (fun u s' => ∃ o H', Inv X pins σ H' s' ∧ IsPart u o ∧ Q o H') X.xe s
def tNoPart : TO := fun _ H Q => Q none H
def tPart (t : TE) : TO := fun σ H Q => t σ H fun x H1 => ∃ i, x = .int i ∧ Q (some i) H1
theorem intsAre_of {ns : List Int} : ∀ {us : List Value}, Vals (ns.map V.int) us → IntsAre us ns := by
  induction ns with
  | nil => intro us r; rw [List.map_nil] at r; cases r; exact .nil
  | cons n ns ih =>
    intro us r
    rw [List.map_cons] at r
    cases r with
    | cons r1 r2 =>
      obtain ⟨t, e⟩ := r1
      subst e
      exact .cons n t (ih r2)
section
variable {X : Cx} {e : Expr} {te : TE} {lo hi : Option Expr} {tl th : TO} {pos p2 : Pos}
theorem po_none : PO X none tNoPart := by
  intro pins s σ H Q I h
  rw [evalPart_none]
  exact wpAny_pure ⟨none, H, I, .none, h⟩
theorem po_some (h : PE X e te) : PO X (some e) (tPart te) := by
  intro pins s σ H Q I hw
  rw [evalPart_some]
  refine thn (h pins s σ H _ I hw) fun u s1 ⟨x, H1, I1, r1, q1⟩ => ?_
  obtain ⟨i, rfl, q⟩ := q1
  obtain ⟨t, rfl⟩ := r1
  exact ⟨some i, H1, I1, .int i t, q⟩
def SlR (X : Cx) (r : V → Option Int → Option Int → Hp → VK → Prop) : Prop :=
  ∀ (pins : List (Addr × Obj)) (s : Shared) (σ : St) (H : Hp) (x : V) (v vl vu : Value) (lo hi : Option Int) (sl : Addr) (Q : VK), Inv X pins σ H s → RelV x v → s.heap.IsSliceOf sl vl vu .none → IsPart vl lo → IsPart vu hi → r x lo hi H Q →
    ∃ T id, typeLookup (.type T) "__getitem__" = pure (some (.builtin id)) ∧ s.TypeIs v T ∧ wpAny (model X.prog X.w) X.A (getItem v (.ref sl)) (EP X pins σ Q) X.xe s
def tSl (r : V → Option Int → Option Int → Hp → VK → Prop) (te : TE) (tl th : TO) : TE := fun σ H Q => te σ H fun x H1 => tl σ H1 fun l H2 => th σ H2 fun u H3 => r x l u H3 Q
theorem pe_slice {r : V → Option Int → Option Int → Hp → VK → Prop} (hr : SlR X r) (he : PE X e te) (hl : PO X lo tl) (hu : PO X hi th) : PE X (.Subscript e (.Slice lo hi none p2) pos) (tSl r te tl th) := by
  intro pins s σ H Q I h
  refine Subscript_ (thn (he pins s σ H _ I h) fun v s1 ⟨x, H1, I1, r1, q1⟩ => ?_)
  refine wpAny_Slice (thn (hl pins s1 σ H1 _ I1 q1) fun vl s2 ⟨l, H2, I2, pl, q2⟩ => thn (hu pins s2 σ H2 _ I2 q2) fun vu s3 ⟨u, H3, I3, pu, q3⟩ => ?_)
  rw [evalPart_none]
  refine wpAny_pure ?_
  have I4 : Inv X pins σ H3 { s3 with heap := s3.heap.push { cls := .type "slice", data := .fields #[vl, vu, .none] } } := I3.kept (t' := s3.toks) fun b ob q => Heap.get?_push_of_some _ q
  obtain ⟨T, id, hT, ht, hg⟩ := hr pins { s3 with heap := s3.heap.push { cls := .type "slice", data := .fields #[vl, vu, .none] } } σ H3 x v vl vu l u s3.heap.objs.size Q I4 r1 (Heap.IsSliceOf.new ..) pl pu q3
  show wpAny (model X.prog X.w) X.A (subscriptTail e (.Slice lo hi none p2) v (.ref s3.heap.objs.size)) (EP X pins σ Q) X.xe { s3 with heap := s3.heap.push { cls := .type "slice", data := .fields #[vl, vu, .none] } }
  exact tail_any (ops := [.ref s3.heap.objs.size, v]) ht hT hg (by with_unfolding_all rfl)
def cutV (xs : List V) (lo hi : Option Int) : List V := (xs.drop (HT.sIx xs.length 0 lo)).take (HT.sIx xs.length xs.length hi - HT.sIx xs.length 0 lo)
theorem cutV_length (xs : List V) (lo hi : Option Int) : (cutV xs lo hi).length ≤ xs.length := by
  unfold cutV
  rw [List.length_take, List.length_drop]
  omega
def rSlT (K : PySem.W.Frag) : V → Option Int → Option Int → Hp → VK → Prop := fun x lo hi H Q => ∃ a xs, x = .ref a ∧ SqT K H a xs ∧
  ¬ (HT.sIx xs.length 0 lo = 0 ∧ HT.sIx xs.length xs.length hi = xs.length) ∧ ∀ p, H p = none → Q (.ref p) (upd H p (.tup (cutV xs lo hi)))
def rLtT (K : PySem.W.Frag) : R2 := fun x y H Q => ∃ a b ns ms, x = .ref a ∧ y = .ref b ∧ SqT K H a (ns.map V.int) ∧ SqT K H b (ms.map V.int) ∧ Q (.bl (HT.lexLt ns ms)) H
def rCatT (K : PySem.W.Frag) : R2 := fun x y H Q => ∃ a b xs ys, x = .ref a ∧ y = .ref b ∧ SqT K H a xs ∧ SqT K H b ys ∧ xs ≠ [] ∧ xs.length + ys.length ≤ sizeLine ∧
  (ys = [] → Q (.ref a) H) ∧ (ys ≠ [] → ∀ p, H p = none → Q (.ref p) (upd H p (.tup (xs ++ ys))))
end
end L2
namespace L2
open PySem PySem.Spec PyProof.Rows
def ixN (n : Nat) (i : Int) : Option Nat := if 0 ≤ i then (if i < n then some i.toNat else none) else if -(n : Int) ≤ i then some (i + n).toNat else none
def atI {α : Type} (xs : List α) (i : Int) : Option α := (ixN xs.length i).bind fun j => xs[j]?
theorem ixN_seq {n : Nat} {i : Int} {j : Nat} (h : ixN n i = some j) : seqIndex? i n = some j ∧ j < n ∧ -(n : Int) ≤ i ∧ i < n := by
  unfold ixN at h
  by_cases h0 : 0 ≤ i
  · rw [if_pos h0] at h
    by_cases h1 : i < n
    · rw [if_pos h1] at h
      have e : i.toNat = j := Option.some.inj h
      exact ⟨by rw [seqIndex_of h0 h1, e], by omega, by omega, h1⟩
    · rw [if_neg h1] at h; cases h
  · rw [if_neg h0] at h
    by_cases h1 : -(n : Int) ≤ i
    · rw [if_pos h1] at h
      have e : (i + n).toNat = j := Option.some.inj h
      exact ⟨by rw [seqIndex_neg (by omega) h1, e], by omega, h1, by omega⟩
    · rw [if_neg h1] at h; cases h
theorem atI_get {α : Type} {xs : List α} {i : Int} {v : α} (h : atI xs i = some v) : ∃ j, seqIndex? i xs.length = some j ∧ xs[j]? = some v ∧ j < xs.length ∧ -(xs.length : Int) ≤ i ∧ i < xs.length := by
  unfold atI at h
  cases e : ixN xs.length i with
  | none => rw [e] at h; cases h
  | some j =>
    rw [e] at h
    obtain ⟨h1, h2, h3, h4⟩ := ixN_seq e
    exact ⟨j, h1, h, h2, h3, h4⟩
theorem atI_nat {α : Type} {xs : List α} {j : Nat} {v : α} (h : xs[j]? = some v) : atI xs (j : Int) = some v := by
  have hj : j < xs.length := (List.getElem?_eq_some_iff.mp h).1
  have e : ixN xs.length (j : Int) = some j := by
    unfold ixN
    rw [if_pos (by omega), if_pos (by omega)]; simp
  unfold atI; rw [e]; exact h
def PlainIx (b : Expr) : Prop := ∀ o i, subscripted b false o i = operate [o, i] (getItem o i)
def IxR (X : Cx) (r : R2) : Prop :=
  ∀ (value slice : Expr) (pins : List (Addr × Obj)) (s : Shared) (σ : St) (H : Hp) (x y : V) (v u : Value) (Q : VK), Inv X pins σ H s → RelV x v → RelV y u → r x y H Q →
    subscripted slice false v u = operate [v, u] (getItem v u) → wpAny (model X.prog X.w) X.A (subscriptTail value slice v u) (EP X pins σ Q) X.xe s
def MtR (X : Cx) (id : String) (r : V → List V → Hp → VK → Prop) : Prop :=
  ∀ (pins : List (Addr × Obj)) (s : Shared) (σ : St) (H : Hp) (x : V) (xs : List V) (v : Value) (us : List Value) (Q : VK), Inv X pins σ H s → RelV x v → Vals xs us → r x xs H Q →
    wpAny (model X.prog X.w) X.A (call (.builtin id) (v :: us)) (EP X pins σ Q) X.xe s
section
variable {X : Cx} {a b : Expr} {ta tb : TE} {pos : Pos}
theorem pe_ix {r : R2} (hr : IxR X r) (ha : PE X a ta) (hb : PE X b tb) (hs : PlainIx b) : PE X (.Subscript a b pos) (tOp r ta tb) := by
  intro pins s σ H Q I h
  exact Subscript_ (binT ha hb I h fun v u s2 x y H2 I2 rx ry q => hr a b pins s2 σ H2 x y v u Q I2 rx ry q (hs _ _))
def rIxL (K : PySem.W.Frag) : R2 := fun x y H Q => ∃ p xs i v, x = .ref p ∧ y = .int i ∧ SqL K H p xs ∧ atI xs i = some v ∧ Q v H
def rIxT (K : PySem.W.Frag) : R2 := fun x y H Q => ∃ p xs i v, x = .ref p ∧ y = .int i ∧ SqT K H p xs ∧ atI xs i = some v ∧ Q v H
def rIxS : R2 := fun x y H Q => ∃ z i c, x = .str z ∧ y = .int i ∧ z.length ≤ sizeLine ∧ atI z.cps.toList i = some c ∧ Q (.str ⟨#[c]⟩) H
theorem ix_list : IxR X (rIxL X.K) := by
  intro value slice pins s σ H x y v u Q I rx ry h hs
  obtain ⟨p, xs, i, z, rfl, rfl, hq, he, q⟩ := h
  cases rx
  obtain ⟨t, rfl⟩ := ry
  obtain ⟨its, r, pl, hz⟩ := I.list hq
  obtain ⟨j, h1, h2, h3, h4, h5⟩ := atI_get he
  obtain ⟨w, ew, rw'⟩ := r.get h2
  have hl := r.length
  have hn := line63
  have fin : EP X pins σ Q w s := ⟨z, H, I, rw', q⟩
  by_cases h0 : 0 ≤ i
  · have hj : i.toNat = j := by
      rw [seqIndex_of h0 h5] at h1
      exact Option.some.inj h1
    exact item_listR pl.isList h0 (by omega) (by rw [hj]; simpa using ew) fin hs
  · have hj : (i + (its.toArray.size : Int)).toNat = j := by
      rw [seqIndex_neg (by omega) h4] at h1
      rw [List.size_toArray, ← hl]
      exact Option.some.inj h1
    exact subscriptTail_builtinR (x := w) pl.isList.typeIs slot_list_getitem.lookup
      (wpAny_getItem_list_neg (Q := fun r s' => r = w ∧ EP X pins σ Q r s') pl.isList (by omega) (by rw [List.size_toArray] <;> omega) (by omega) (by rw [hj]; simpa using ew) ⟨rfl, fin⟩) hs
theorem ix_tup : IxR X (rIxT X.K) := by
  intro value slice pins s σ H x y v u Q I rx ry h hs
  obtain ⟨p, xs, i, z, rfl, rfl, hq, he, q⟩ := h
  cases rx
  obtain ⟨t, rfl⟩ := ry
  obtain ⟨its, r, pl, hz⟩ := I.tuple hq
  obtain ⟨j, h1, h2, h3, h4, h5⟩ := atI_get he
  obtain ⟨w, ew, rw'⟩ := r.get h2
  have hl := r.length
  have hn := line63
  have fin : EP X pins σ Q w s := ⟨z, H, I, rw', q⟩
  exact subscriptTail_builtinR (x := w) pl.typeIs slot_tuple_getitem.lookup
    (getItem_tuple (j := j) (Q := fun r s' => r = w ∧ EP X pins σ Q r s') pl (by omega) (by omega) (by rw [List.size_toArray, ← hl]; exact h1) (by simpa using ew) ⟨rfl, fin⟩) hs
def rIx (K : PySem.W.Frag) : R2 := fun x y H Q => rIxL K x y H Q ∨ rIxT K x y H Q ∨ rIxS x y H Q
theorem mapSeq_set (its : List Value) (n j : Nat) (u : Value) : Obj.mapSeq (·.setIfInBounds j u) { cls := .type "list", data := .seq its.toArray n } = { cls := .type "list", data := .seq (its.set j u).toArray n } := by
  simp [Obj.mapSeq]
theorem Inv.lst {pins : List (Addr × Obj)} {σ : St} {H : Hp} {s : Shared} {p : Addr} {xs : List V} (I : Inv X pins σ H s) (h : H p = some (.lst xs)) :
    ∃ (its : List Value) (n : Nat), Vals xs its ∧ s.heap.get? p = some { cls := .type "list", data := .seq its.toArray n } ∧ xs.length ≤ sizeLine := by
  obtain ⟨z, its, n, r, e⟩ := I.hok p _ h
  exact ⟨its, n, r, e, z⟩
theorem Inv.lstUpd {pins : List (Addr × Obj)} {σ : St} {H : Hp} {s : Shared} {p : Addr} {xs ys : List V} {its its' : List Value} {n n' : Nat} {f : Obj → Obj} (I : Inv X pins σ H s) (h : H p = some (.lst xs))
    (ho : s.heap.get? p = some { cls := .type "list", data := .seq its.toArray n }) (hf : f { cls := .type "list", data := .seq its.toArray n } = { cls := .type "list", data := .seq its'.toArray n' }) (r : Vals ys its') (hz : ys.length ≤ sizeLine) (t : Nat) :
    Inv X pins σ (upd H p (.lst ys)) { s with heap := s.heap.update p f, toks := t } := by
  have e : (s.heap.update p f).get? p = some { cls := .type "list", data := .seq its'.toArray n' } := by
    rw [Heap.get?_update_self f ho (by rw [hf] <;> rfl), hf]
  refine I.write (x := p) (e := p) (by rw [h]; trivial) (.inl rfl) (fun b u hb q => (Heap.get?_update_other _ _ (Ne.symm hb)).trans q) ⟨_, e⟩ ?_
  exact ⟨hz, its', n', r, e⟩
def rSetL : V → V → V → Hp → (Hp → Prop) → Prop := fun o i v H Q => ∃ p xs k j, o = .ref p ∧ i = .int k ∧ H p = some (.lst xs) ∧ ixN xs.length k = some j ∧ Q (upd H p (.lst (xs.set j v)))
theorem set_list : PSet X rSetL := by
  intro pins s σ H o i v ov iv u Q I ro ri rv h
  obtain ⟨p, xs, k, j, rfl, rfl, hp, hj, q⟩ := h
  cases ro
  obtain ⟨t, rfl⟩ := ri
  obtain ⟨its, n, r, ho, hz⟩ := I.lst hp
  obtain ⟨h1, h2, h3, h4⟩ := ixN_seq hj
  have hl := r.length
  have hn := line63
  have I' : Inv X pins σ (upd H p (.lst (xs.set j v))) { s with heap := s.heap.update p (Obj.mapSeq (·.setIfInBounds j u)) } :=
    I.lstUpd hp ho (mapSeq_set its n j u) (r.set rv j) (by rw [List.length_set]; exact hz) s.toks
  by_cases h0 : 0 ≤ k
  · have hk : k.toNat = j := by
      rw [seqIndex_of h0 h4] at h1
      exact Option.some.inj h1
    exact PySem.W.ki_setAt ho h0 (by omega) (by rw [List.size_toArray, ← hl]; exact h4) (by rw [hk]; exact ⟨_, I', q⟩)
  · have hk : (k + (its.toArray.size : Int)).toNat = j := by
      rw [seqIndex_neg (by omega) h3] at h1
      rw [List.size_toArray, ← hl]
      exact Option.some.inj h1
    exact PySem.W.ki_setBack ho (by omega) (by rw [List.size_toArray, ← hl]; exact h3) (by omega) (by rw [hk]; exact ⟨_, I', q⟩)
theorem slice_bounds (lo hi : Option Int) (n : Nat) : (sliceBounds lo hi none n).1 = ((HT.sIx n 0 lo : Nat) : Int) ∧ (sliceBounds lo hi none n).2.1 = ((HT.sIx n n hi : Nat) : Int) ∧ (sliceBounds lo hi none n).2.2 = 1 := by
  refine ⟨?_, ?_, rfl⟩
  · cases lo with
    | none => simp [sliceBounds, HT.sIx]
    | some i =>
      simp only [sliceBounds, HT.sIx, Option.getD_none, show (1 : Int) > 0 by decide, if_true]
      by_cases h : i < 0
      · simp only [h, if_true] <;> omega
      · simp only [h, if_false] <;> omega
  · cases hi with
    | none => simp [sliceBounds, HT.sIx]
    | some i =>
      simp only [sliceBounds, HT.sIx, Option.getD_none, show (1 : Int) > 0 by decide, if_true]
      by_cases h : i < 0
      · simp only [h, if_true] <;> omega
      · simp only [h, if_false] <;> omega
theorem slicePick_cut (its : List Value) (lo hi : Option Int) : slicePick its.toArray lo hi none = ((its.drop (HT.sIx its.length 0 lo)).take (HT.sIx its.length its.length hi - HT.sIx its.length 0 lo)).toArray := by
  obtain ⟨h1, h2, h3⟩ := slice_bounds lo hi its.toArray.size
  unfold slicePick
  rw [h1, h2, h3]
  simp only [sliceRange_one, pick_run, List.size_toArray] <;> rfl
def rSlL (K : PySem.W.Frag) : V → Option Int → Option Int → Hp → VK → Prop := fun x lo hi H Q => ∃ a xs, x = .ref a ∧ SqL K H a xs ∧ ∀ p, H p = none → Q (.ref p) (upd H p (.lst (cutV xs lo hi)))
theorem sl_list : SlR X (rSlL X.K) := by
  intro pins s σ H x v vl vu lo hi sl Q I rx hs pl pu h
  obtain ⟨a, xs, rfl, hx, q⟩ := h
  cases rx
  obtain ⟨its, r, ht, hz⟩ := I.list hx
  have hlen := r.length
  refine ⟨"list", _, slot_list_getitem.lookup, ht.isList.typeIs, ?_⟩
  refine wpAny_getItem_list_slice ht.isList hs pl pu .none (by simp) ?_ (by rw [List.size_toArray] <;> omega)
  rw [slicePick_cut, ← hlen]
  refine ⟨.ref s.heap.objs.size, _, I.laid (t' := s.toks) (o := .lst (cutV xs lo hi)) (fun b ob q => Heap.get?_push_of_some _ q) (Nat.le_refl _) ?_, rfl, q _ (I.hok.fresh (Nat.le_refl _))⟩
  exact ⟨Nat.le_trans (cutV_length xs lo hi) hz, _, 0, (r.drop (HT.sIx xs.length 0 lo)).take (HT.sIx xs.length xs.length hi - HT.sIx xs.length 0 lo), Heap.get?_push_size _ rfl⟩
def flatV : V → Bool
  | .non => true
  | .bl _ => true
  | .int _ => true
  | .str _ => true
  | _ => false
def eqV : V → V → Bool
  | .non, .non => true
  | .bl a, .bl b => a == b
  | .bl a, .int b => (if a then 1 else 0) == b
  | .int a, .bl b => a == (if b then 1 else 0)
  | .int a, .int b => a == b
  | .str a, .str b => a == b
  | _, _ => false
theorem eqAt_V {A : Around} {s : Shared} {y x : V} {u v : Value} (ry : RelV y u) (rx : RelV x v) (fy : flatV y = true) (fx : flatV x = true) : SeqAt.EqAt A s u v (eqV y x) := by
  cases y with
  | non =>
    cases ry
    cases x with
    | non => cases rx; exact SeqAt.EqAt.same _
    | bl b => cases rx; exact SeqAt.EqAt.none_bool b
    | int b => obtain ⟨t, rfl⟩ := rx; exact SeqAt.EqAt.none_int b t
    | str b => obtain ⟨t, rfl⟩ := rx; exact SeqAt.EqAt.none_str b t
    | _ => exact absurd (show false = true from fx) Bool.false_ne_true
  | bl a =>
    cases ry
    cases x with
    | non => cases rx; exact SeqAt.EqAt.bool_none a
    | bl b => cases rx; exact SeqAt.EqAt.bool_bool a b
    | int b => obtain ⟨t, rfl⟩ := rx; exact SeqAt.EqAt.bool_int a b t
    | str b => obtain ⟨t, rfl⟩ := rx; exact SeqAt.EqAt.bool_str a b t
    | _ => exact absurd (show false = true from fx) Bool.false_ne_true
  | int a =>
    obtain ⟨t', rfl⟩ := ry
    cases x with
    | non => cases rx; exact SeqAt.EqAt.int_none a t'
    | bl b => cases rx; exact SeqAt.EqAt.int_bool a t' b
    | int b => obtain ⟨t, rfl⟩ := rx; exact SeqAt.EqAt.int_int a t' b t
    | str b => obtain ⟨t, rfl⟩ := rx; exact SeqAt.EqAt.int_str a t' b t
    | _ => exact absurd (show false = true from fx) Bool.false_ne_true
  | str a =>
    obtain ⟨t', rfl⟩ := ry
    cases x with
    | non => cases rx; exact SeqAt.EqAt.str_none a t'
    | bl b => cases rx; exact SeqAt.EqAt.str_bool a t' b
    | int b => obtain ⟨t, rfl⟩ := rx; exact SeqAt.EqAt.str_int a t' b t
    | str b => obtain ⟨t, rfl⟩ := rx; exact SeqAt.EqAt.str_str a t' b t
    | _ => exact absurd (show false = true from fx) Bool.false_ne_true
  | _ => exact absurd (show false = true from fy) Bool.false_ne_true
def eqU (x : V) (u : Value) : Bool := match u with
  | .none => eqV .non x
  | .bool b => eqV (.bl b) x
  | .int i _ => eqV (.int i) x
  | .str z _ => eqV (.str z) x
  | _ => false
theorem eqU_of {x y : V} {u : Value} (r : RelV y u) (f : flatV y = true) : eqU x u = eqV y x := by
  cases y with
  | non => cases r; rfl
  | bl b => cases r; rfl
  | int i => obtain ⟨t, rfl⟩ := r; rfl
  | str z => obtain ⟨t, rfl⟩ := r; rfl
  | _ => exact absurd (show false = true from f) Bool.false_ne_true
theorem any_eqU {x : V} : ∀ {xs : List V} {us : List Value}, Vals xs us → xs.all flatV = true → us.any (eqU x) = xs.any fun y => eqV y x
  | _, _, .nil, _ => rfl
  | y :: xs, u :: us, .cons r t, f => by
    rw [List.all_cons, Bool.and_eq_true] at f
    rw [List.any_cons, List.any_cons, eqU_of r f.1, any_eqU t f.2]
theorem mem_eqAt {A : Around} {s : Shared} {x : V} {v : Value} (rx : RelV x v) (fx : flatV x = true) : ∀ {xs : List V} {us : List Value}, Vals xs us → xs.all flatV = true → ∀ u ∈ us, SeqAt.EqAt A s u v (eqU x u)
  | _, _, .nil, _ => fun u hu => by cases hu
  | y :: xs, u :: us, .cons r t, f => fun u' hu => by
    rw [List.all_cons, Bool.and_eq_true] at f
    rcases List.mem_cons.mp hu with rfl | hu
    · rw [eqU_of r f.1]; exact eqAt_V r rx f.1 fx
    · exact mem_eqAt rx fx t f.2 u' hu
def inV (x : V) (xs : List V) : Bool := xs.any fun y => eqV y x
def rIn (K : PySem.W.Frag) (neg : Bool) : R2 := fun x y H Q => ∃ p xs, y = .ref p ∧ (SqL K H p xs ∨ SqT K H p xs) ∧ flatV x = true ∧ xs.all flatV = true ∧ Q (.bl (if neg then !inV x xs else inV x xs)) H
theorem op_notIn_seq : OpR X (compareOp .NotIn) (rIn X.K true) := by
  intro pins s σ H x y v u Q I rx ry h
  obtain ⟨p, xs, rfl, hq, fx, fs, q⟩ := h
  cases ry
  rcases hq with hq | hq
  · obtain ⟨its, r, pl, hz⟩ := I.list hq
    refine SeqAt.notIn_listAt (eqU x) pl.isList (fun w hw => mem_eqAt rx fx r fs w (by simpa using hw)) ⟨.bl _, H, I, rfl, ?_⟩
    rw [show its.toArray.any (eqU x) = its.any (eqU x) by simp, any_eqU r fs]
    exact q
  · obtain ⟨its, r, pl, hz⟩ := I.tuple hq
    refine SeqAt.notIn_tupleAt (eqU x) pl (fun w hw => mem_eqAt rx fx r fs w (by simpa using hw)) ⟨.bl _, H, I, rfl, ?_⟩
    rw [show its.toArray.any (eqU x) = its.any (eqU x) by simp, any_eqU r fs]
    exact q
theorem call_list_of : CallR X (.type "list") (fun xs H Q => ∃ p ys, xs = [.ref p] ∧ (SqL X.K H p ys ∨ SqT X.K H p ys) ∧ ∀ l, H l = none → Q (.ref l) (upd H l (.lst ys))) := by
  intro pins s σ H xs us Q I r h
  obtain ⟨p, ys, rfl, hq, q⟩ := h
  obtain ⟨u, rfl, rx⟩ := vals1 r
  cases rx
  have fin : ∀ (its : List Value), Vals ys its → ys.length ≤ sizeLine → ∀ (h' : Heap) (c' : Nat), (∀ b o', s.heap.get? b = some o' → h'.get? b = some o') →
      h'.get? s.heap.objs.size = some { cls := .type "list", dict := none, data := .seq its.toArray c', slots := #[] } → EP X pins σ Q (.ref s.heap.objs.size) { s with heap := h' } := fun its r' hz h' c' kp e =>
    ⟨.ref s.heap.objs.size, _, I.laid (t' := s.toks) kp (Nat.le_refl _) (show ObjOk X.prog X.w _ h' _ (.lst ys) from ⟨hz, its, c', r', e⟩), rfl, q _ (I.hok.fresh (Nat.le_refl _))⟩
  rcases hq with hq | hq
  · obtain ⟨its, r', pl, hz⟩ := I.list hq
    have hlen := r'.length
    obtain ⟨o, ho, hc, n, hd⟩ := pl.isList
    exact call_list_seq p (.inl rfl) ho hc hd (fun h' c' kp e => fin its r' hz h' c' kp e) (by simp only [List.size_toArray] <;> omega)
  · obtain ⟨its, r', pl, hz⟩ := I.tuple hq
    have hlen := r'.length
    obtain ⟨o, ho, hc, n, hd⟩ := pl
    exact call_list_seq p (.inr rfl) ho hc hd (fun h' c' kp e => fin its r' hz h' c' kp e) (by simp only [List.size_toArray] <;> omega)
def tyV (K : PySem.W.Frag) (T : String) (x : V) (H : Hp) : Prop := match x with
  | .str _ => T = "str"
  | .int _ => T = "int"
  | .ref p => (T = "list" ∧ ∃ xs, SqL K H p xs) ∨ (T = "tuple" ∧ ∃ o, K.lookup p = some o ∧ o.cls = .type "tuple" ∧ o.dict = none) ∨
      (T = "dict" ∧ ((∃ kvs, H p = some (.dK kvs)) ∨ ∃ kvs, H p = some (.dT kvs))) ∨ (T = "set" ∧ ∃ S n, H p = some (.set S n))
  | _ => False
theorem tyV_is {pins : List (Addr × Obj)} {σ : St} {H : Hp} {s : Shared} {T : String} {x : V} {v : Value} (I : Inv X pins σ H s) (r : RelV x v) (ty : tyV X.K T x H) :
    s.TypeIs v T ∧ ∀ a, v = .ref a → ∃ ob, s.heap.get? a = some ob ∧ ob.dict = none := by
  cases x with
  | str z =>
    obtain ⟨t, rfl⟩ := r
    cases (show T = "str" from ty)
    exact ⟨typeIs_str s z t, fun _ e => nomatch e⟩
  | int i =>
    obtain ⟨t, rfl⟩ := r
    cases (show T = "int" from ty)
    exact ⟨typeIs_int s i t, fun _ e => nomatch e⟩
  | ref p =>
    cases r
    rcases ty with ⟨rfl, xs, hq⟩ | ⟨rfl, o, hk, hc, hd⟩ | ⟨rfl, hk⟩ | ⟨rfl, S, n, hk⟩
    · obtain ⟨its, _, pl, _⟩ := I.list hq
      refine ⟨pl.isList.typeIs, fun a e => ?_⟩
      cases e
      obtain ⟨o, n, e, c, hd, _⟩ := pl
      exact ⟨o, e, hd⟩
    · refine ⟨⟨o, I.kIn p o hk, hc⟩, fun a e => ?_⟩
      cases e
      exact ⟨o, I.kIn _ o hk, hd⟩
    · have z : ∃ o, s.heap.get? p = some o ∧ o.ExactDict := by
        rcases hk with ⟨kvs, hk⟩ | ⟨kvs, hk⟩
        · obtain ⟨_, _, _, _, o, _, _, e, ex, _⟩ := I.hok p _ hk
          exact ⟨o, e, ex⟩
        · obtain ⟨_, _, _, _, o, _, _, e, ex, _⟩ := I.hok p _ hk
          exact ⟨o, e, ex⟩
      obtain ⟨o, e, ex⟩ := z
      refine ⟨⟨o, e, ex.1⟩, fun a e2 => ?_⟩
      cases e2
      exact ⟨o, e, ex.2.1⟩
    · obtain ⟨o, _, _, _, e, ex, _⟩ := I.hok p _ hk
      refine ⟨⟨o, e, ex.1⟩, fun a e2 => ?_⟩
      cases e2
      exact ⟨o, e, ex.2.1⟩
  | _ => exact False.elim ty
def tBM0 (K : PySem.W.Frag) (T : String) (r : V → List V → Hp → VK → Prop) (to : TE) : TE := fun σ H Q => to σ H fun x H1 => tyV K T x H1 ∧ r x [] H1 Q
def tBM (K : PySem.W.Frag) (T : String) (r : V → List V → Hp → VK → Prop) (to : TE) (t : TA) : TE := fun σ H Q => to σ H fun x H1 => tyV K T x H1 ∧ t σ H1 fun xs H2 => r x xs H2 Q
variable {o e : Expr} {es : List Expr} {to : TE} {t : TA} {name : Str} {apos cpos : Pos} {T id : String} {r : V → List V → Hp → VK → Prop}
theorem pe_bm (pa : PlainAttrs T) (slot : Slot T name id) (hty : typeOf (.builtin id) = pure (.type "method_descriptor")) (hm : MtR X id r) (ho : PE X o to) (ha : PA X (e :: es) t)
    (hbase : attributeBase o name X.env (eval o X.env) = eval o X.env := by rfl)
    (hfew : ((backTo cpos (starEach (e :: es) X.env)).all (fun x => !x.1) && (backToKw cpos (keywordEach [] X.env)).all (fun x => x.1.isSome)
      && decide ((e :: es).length + ([] : List Keyword).length + (if ([] : List Keyword).isEmpty then 0 else 1) < 30)) = true := by rfl)
    (hline : (apos.endLine == cpos.line) = true := by rfl) (hs : starEach (e :: es) X.env = (false, eval e X.env) :: starEach es X.env := by rfl) (hplain : (backTo cpos (starEach es X.env)).any (·.1) = false := by rfl) :
    PE X (.Call (.Attribute o name apos) (e :: es) [] cpos) (tBM X.K T r to t) := by
  intro pins s σ H Q I h
  refine wpAny_Call_method_late hbase hfew hline rfl (thn (ho pins s σ H _ I h) fun v s1 ⟨x, H1, I1, r1, ty, q1⟩ => ?_)
  obtain ⟨h1, h2⟩ := tyV_is I1 r1 ty
  refine ⟨T, id, pa, slot, hty, h1, h2, ?_⟩
  have hA := ha cpos pins s1 σ H1 _ I1 q1
  rw [hs] at hA ⊢
  refine Calls.callWith_builtin (by show (false || (backTo cpos (starEach es X.env)).any (·.1)) = false; rw [hplain] <;> rfl) (Calls.evalArgs_plain ?_)
  exact thn hA fun us s2 ⟨vs, H2, I2, r2, q2⟩ => hm pins s2 σ H2 x vs v us Q I2 r1 r2 q2
/- xs.append(e), list.index on a module's tuple .. are MtR facts of 06m -/
end
end L2
namespace L2
open PySem PySem.Spec PyProof.Rows
def MtM (X : Cx) (id : String) (r : V → List V → Hp → VK → Prop) : Prop :=
  ∀ (pins : List (Addr × Obj)) (s : Shared) (σ : St) (H : Hp) (x : V) (xs : List V) (v : Value) (us : List Value) (Q : VK), Inv X pins σ H s → RelV x v → Vals xs us → r x xs H Q →
    wpAny (model X.prog X.w) X.A (call (.builtin id) (v :: us)) (EP X pins σ Q) X.xe s
theorem Vals.one : ∀ {x : V} {us : List Value}, Vals [x] us → ∃ u, us = [u] ∧ RelV x u
  | _, _, .cons r .nil => ⟨_, rfl, r⟩
theorem Vals.two : ∀ {x y : V} {us : List Value}, Vals [x, y] us → ∃ u v, us = [u, v] ∧ RelV x u ∧ RelV y v
  | _, _, _, .cons r (.cons q .nil) => ⟨_, _, rfl, r, q⟩
theorem Vals.zero : ∀ {us : List Value}, Vals [] us → us = []
  | _, .nil => rfl
theorem Vals.dropLast {xs : List V} {us : List Value} (h : Vals xs us) : Vals xs.dropLast us.dropLast := by
  induction h with
  | nil => exact .nil
  | cons r t ih =>
    cases t with
    | nil => exact .nil
    | cons q t' => exact .cons r ih
theorem Vals.eraseIdx : ∀ {xs : List V} {us : List Value} (i : Nat), Vals xs us → Vals (xs.eraseIdx i) (us.eraseIdx i)
  | _, _, _, .nil => .nil
  | _, _, 0, .cons _ t => t
  | _, _, i + 1, .cons r t => .cons r (Vals.eraseIdx i t)
theorem Vals.reverse {xs : List V} {us : List Value} (h : Vals xs us) : Vals xs.reverse us.reverse := by
  induction h with
  | nil => exact .nil
  | cons r t ih => rw [List.reverse_cons, List.reverse_cons]; exact Vals.append ih (.cons r .nil)
section
variable {X : Cx} {pins : List (Addr × Obj)} {σ : St} {H : Hp} {s : Shared} {l b : Addr} {xs ys zs : List V}
theorem Inv.lset {its its' : List Value} {n : Nat} {f : Array Value → Array Value} {t' : Nat} (I : Inv X pins σ H s) (hH : H l = some (.lst xs))
    (e : s.heap.get? l = some { cls := .type "list", data := .seq its.toArray n }) (hf : f its.toArray = its'.toArray) (hv : Vals ys its') (hz : ys.length ≤ sizeLine) :
    Inv X pins σ (upd H l (.lst ys)) { s with heap := s.heap.update l (Obj.mapSeq f), toks := t' } := by
  have q := PySem.IsL.update e f
  rw [hf] at q
  refine I.write (x := l) (e := l) (by rw [hH]; exact trivial) (.inl rfl) (fun b' u hb hu => (Heap.get?_update_other s.heap (Obj.mapSeq f) (Ne.symm hb)).trans hu) ⟨_, q⟩ ?_
  exact ⟨hz, its', _, hv, q⟩
theorem Inv.lnew {its : List Value} {t' : Nat} (I : Inv X pins σ H s) (hv : Vals ys its) (hz : ys.length ≤ sizeLine) :
    Inv X pins σ (upd H s.heap.objs.size (.lst ys)) { s with heap := s.heap.push { cls := .type "list", data := .seq its.toArray }, toks := t' } :=
  I.laid (fun _ _ q => Heap.get?_push_of_some _ q) (Nat.le_refl _) ⟨hz, its, 0, hv, Heap.get?_push_size _ rfl⟩
theorem Inv.fresh (I : Inv X pins σ H s) : H s.heap.objs.size = none := I.hok.fresh (Nat.le_refl _)
theorem Inv.lstM (I : Inv X pins σ H s) (hH : H l = some (.lst xs)) : xs.length ≤ sizeLine ∧ ∃ (its : List Value) (n : Nat), Vals xs its ∧ xs.length = its.length ∧ s.heap.get? l = some { cls := .type "list", data := .seq its.toArray n } := by
  obtain ⟨z, its, n, r, e⟩ := I.hok l _ hH
  exact ⟨z, its, n, r, r.length, e⟩
end
section
variable {X : Cx}
def rAppend : V → List V → Hp → VK → Prop := fun x vs H Q => ∃ l xs y, x = .ref l ∧ vs = [y] ∧ H l = some (.lst xs) ∧ xs.length < sizeLine ∧ Q .non (upd H l (.lst (xs ++ [y])))
theorem mt_append : MtM X "list.append" rAppend := by
  intro pins s σ H x vs v us Q I rx rv h
  obtain ⟨l, xs, y, rfl, rfl, hH, hz, q⟩ := h
  cases rx
  obtain ⟨u, rfl, ru⟩ := rv.one
  obtain ⟨z, its, n, r, hl, e⟩ := I.lstM hH
  refine call_meets F.slot_list_append ⟨_, e, rfl⟩ F.entry_list_append (F.args_list_append_2 _ _) (PySem.list_append l its.toArray n u (by rw [List.size_toArray]; omega)) ⟨e, ?_⟩
  refine ⟨.non, _, I.lset (its' := its ++ [u]) hH e (by simp) (r.append (.cons ru .nil)) ?_, rfl, q⟩
  rw [List.length_append, List.length_singleton]
  omega
def rExtend : V → List V → Hp → VK → Prop := fun x vs H Q => ∃ l b xs zs, x = .ref l ∧ vs = [.ref b] ∧ H l = some (.lst xs) ∧ H b = some (.lst zs) ∧ xs.length + zs.length ≤ sizeLine ∧ Q .non (upd H l (.lst (xs ++ zs)))
def rPop : V → List V → Hp → VK → Prop := fun x vs H Q => ∃ l xs y, x = .ref l ∧ vs = [] ∧ H l = some (.lst xs) ∧ xs[xs.length - 1]? = some y ∧ Q y (upd H l (.lst xs.dropLast))
def rPopAt : V → List V → Hp → VK → Prop := fun x vs H Q => ∃ l xs i k y, x = .ref l ∧ vs = [.int i] ∧ H l = some (.lst xs) ∧ -(2 ^ 63) ≤ i ∧ i < 2 ^ 63 ∧ seqIndex? i xs.length = some k ∧ xs[k]? = some y ∧ Q y (upd H l (.lst (xs.eraseIdx k)))
def rReverse : V → List V → Hp → VK → Prop := fun x vs H Q => ∃ l xs, x = .ref l ∧ vs = [] ∧ H l = some (.lst xs) ∧ Q .non (upd H l (.lst xs.reverse))
def rClear : V → List V → Hp → VK → Prop := fun x vs H Q => ∃ l xs, x = .ref l ∧ vs = [] ∧ H l = some (.lst xs) ∧ Q .non (upd H l (.lst []))
def rCat : R2 := fun x y H Q => ∃ l b xs zs, x = .ref l ∧ y = .ref b ∧ H l = some (.lst xs) ∧ H b = some (.lst zs) ∧ xs.length + zs.length ≤ sizeLine ∧ ∀ p, H p = none → Q (.ref p) (upd H p (.lst (xs ++ zs)))
theorem op_cat : OpR X (binaryOp .Add) rCat := by
  intro pins s σ H x y v u Q I rx ry h
  obtain ⟨l, b, xs, zs, rfl, rfl, hH, hB, hz, q⟩ := h
  cases rx
  cases ry
  obtain ⟨z, its, n, r, hl, e⟩ := I.lstM hH
  obtain ⟨z2, its2, n2, r2, hl2, e2⟩ := I.lstM hB
  refine PySem.P.add_list e e2 ?_ (by rw [List.size_toArray, List.size_toArray]; omega)
  have ea : its.toArray ++ its2.toArray = (its ++ its2).toArray := by simp
  rw [ea]
  exact ⟨.ref _, _, I.lnew (t' := s.toks) (r.append r2) (by rw [List.length_append]; omega), rfl, q _ I.fresh⟩
def rRep : R2 := fun x y H Q => ∃ l k xs, x = .ref l ∧ y = .int k ∧ H l = some (.lst xs) ∧ -(2 ^ 63) ≤ k ∧ k < 2 ^ 63 ∧ xs.length * k.toNat ≤ sizeLine ∧
  ∀ p, H p = none → Q (.ref p) (upd H p (.lst (List.replicate k.toNat xs).flatten))
end
section
variable {prog : Program} {w : World} {A : Around} {E : Value → Shared → Prop} {s : Shared}
set_option maxRecDepth 100000 in
end
section
variable {X : Cx}
end
end L2
namespace Att
open PySem PySem.W PySem.Calls PyProof.Rows
theorem ints_of_wellAll {P : Params} {h : Heap} : ∀ (ns : List Int) (vs : List Value), WellAll P h vs (ns.map WData.int) → IntsAre vs ns := by
  intro ns
  induction ns with
  | nil =>
    intro vs w
    rw [List.map_nil] at w
    cases w
    exact .nil
  | cons n ns ih =>
    intro vs w
    rw [List.map_cons] at w
    cases w with
    | cons a b =>
      cases a
      exact .cons _ _ (ih _ b)
theorem script_of {l : OpenLaw} {n : Nat} (hn : l.most = some n) {P : Params} {h : Heap} {args : List WData} {vals : List Value}
    (hpre : l.row.toRowW.claim.pre args = true) (hwl : WellAll P h vals args) :
    ∃ a vs ns, vals = [Value.ref a] ∧ args = [WData.list (ns.map WData.int)] ∧ h.get? a = some { cls := .type "list", data := .seq vs.toArray } ∧ IntsAre vs ns ∧ ns.length ≤ n := by
  have hsh : WShape.hasAll [] args [.list .int] = true := (pre_splitW hpre).1
  have hc : l.pre.holds [] { args := args } = true := (pre_splitW hpre).2
  obtain ⟨d, r, rfl, h1, h2⟩ := hasAllW_cons hsh
  obtain rfl := hasAllW_nil h2
  obtain ⟨xs, rfl, h3⟩ := hasW_list h1
  obtain ⟨ns, rfl⟩ := items_int h3
  have hlen : ns.length ≤ n := by
    unfold OpenLaw.pre at hc
    have h4 : (WTm.not (.lt (.lit (.int (n : Int))) (.len (.arg 0)))).holds [] { args := [.list (ns.map .int)] } = true := by
      have h4 := (holds_andW hc).1
      rw [hn] at h4
      exact h4
    have h5 := condW_of h4 (w_not (w_lt w_lit (w_len_list (w_arg rfl))))
    rw [List.length_map] at h5
    refine Nat.le_of_not_lt fun q => ?_
    have q' : (n : Int) < ((ns.length : Nat) : Int) := by omega
    first
      | (rw [decide_eq_true q'] at h5; exact absurd h5 (by decide))
      | (simp at h5; omega)
  cases hwl with
  | cons w1 w2 =>
    cases w2
    cases w1 with
    | list ho hall => exact ⟨_, _, ns, rfl, rfl, ho, ints_of_wellAll ns _ hall, hlen⟩
theorem post_true (l : OpenLaw) (args : List WData) : l.row.toRowW.claim.post args (.bool true) args = true :=
  postW_of (r := l.row.toRowW) (X := (true == true))
    (show WShape.has [] (.bool true) .bool = true by first | rfl | decide | simp [WShape.has, WShape.arms, WShape.armsAll])
    (show (WTm.eq .res (.lit (.bool true))).value [] { args := args, res := some (.bool true), after := args } = some (.bool (true == true)) from w_eq_bool (w_res rfl) w_lit) rfl
theorem attach_call {l : OpenLaw} {n : Nat} {q : Program} {loose : List Str} {XP : (Str → Option Value) → Heap → Prop} {YP : World → Heap → Prop} {d : DefRec}
    (hn : l.most = some n) (hdf : d.params.defaults = [])
    (call : ∀ (w : World) (s₀ s₁ : Shared) (mg mb : Str → Option Value) (fa : Addr) (o : Obj) (pm cd doc : Value) (a : Addr) (vs : List Value) (ns : List Int),
      Ground q loose [] XP w s₀ mg mb s₁.heap → YP w s₁.heap →
      s₁.heap.get? fa = some o → o.data = .func (docDef d.name d.params d.body d.scope pm cd doc) → s₁.heap.CodeRec cd d.name → mg d.name = some (.ref fa) →
      s₁.heap.get? a = some { cls := .type "list", data := .seq vs.toArray } → IntsAre vs ns → ns.length ≤ n → s₁.gens = #[] →
      codeAny (model l.prog w) callerA (.call (.ref fa) ⟨[.ref a], []⟩) (fun r s' => r = .ok (.ret (.bool true)) ∧ OldK s₁.heap s'.heap ∧ s'.os = s₁.os ∧ AllBare s'.gens) s₁) :
    WalkO q loose XP YP l.row.toRowW d [] (fun f vs => PySem.call f vs) := by
  intro w s₀ s₁ mg mb G Y fa o pm cd doc dV kV ho hd hcd hD hmg hg args vals as hpre hlay hrd hwl hlo
  obtain rfl : dV = .none := Dflts.none hD hdf
  obtain rfl : kV = .none := Dflts.noKw hD
  obtain ⟨a, vs, ns, rfl, rfl, hobj, hints, hlen⟩ := script_of hn hpre hwl
  refine enter_call (codeAny_mono (call w s₀ s₁ mg mb fa o pm cd doc a vs ns G Y ho (fd_plain hd) hcd hmg hobj hints hlen hg) fun r s' hq => ?_)
  obtain ⟨rfl, h2, h3, h4⟩ := hq
  exact ⟨.inl ⟨.bool true, .bool true, [], rfl, fun _ => rfl, .bool true, post_true l _, fun _ => ⟨List.Pairwise.nil, fun _ hm => (nomatch hm)⟩⟩, h2, h3, h4⟩
section
variable {prog : Program} {w : World} {A : Around} {E : Value → Shared → Prop} {s : Shared} {K : Frag}
def noObjs (h : Heap) : Heap := { h with objs := #[] }
def ledger (h : Heap) (L d : Addr) : List (Addr × Obj) := (List.range h.objs.size).filterMap fun a => if a = L ∨ a = d then none else (h.get? a).map fun o => (a, o)
end
end Att
namespace L2
open PySem PySem.Spec PyProof.Rows
theorem vals_ints : ∀ {vs : List Value} {ns : List Int}, IntsAre vs ns → Vals (ns.map V.int) vs
  | _, _, .nil => .nil
  | _, _, .cons n t h => .cons ⟨t, rfl⟩ (vals_ints h)
def Only (H : Hp) : Prop := ∀ b, H b = none ∨ ∃ o xs, H b = some (.frz o (.lst xs))
theorem law_call {P : Program} {w : World} {K : PySem.W.Frag} {mg mb : Str → Option Value} {CX : CXT} {k : Nat} {fa a : Addr} {fd : FuncData} {x : Str} {sp : Sp} {s₁ : Shared} {vs : List Value} {ns : List Int}
    (KX : K.In s₁.heap) (hns : s₁.heap.Ns mainGlobals mg) (hb : s₁.heap.Ns builtinsNs mb) (hbb : ∀ x : Str, x ≠ "__name__" → mb x = bootBuiltins x) (hlim : s₁.heap.NoLimit) (hg : s₁.gens = #[])
    (ha : s₁.heap.get? a = some { cls := .type "list", data := .seq vs.toArray }) (hi : IntsAre vs ns) (hl : ns.length ≤ sizeLine) (hr : Room k callerA)
    (F : ∀ base : Heap, K.In base → base.Ns mainGlobals mg → FnOk P w K mg base CX k fa fd [x] sp) (hbind : ∀ (s : Shared) (u : Value), BindsTo s fd ⟨[u], []⟩ [(x, u)])
    (hsp : ∀ H : Hp, Only H → SqL K H a (ns.map V.int) → sp [.ref a] H (fun v _ => v = .bl true) fun _ _ _ => False)
    (hCX : ∀ H e s', CX [] H s₁ (fun _ _ _ => False) e s' → False) :
    codeAny (model P w) callerA (.call (.ref fa) ⟨[.ref a], []⟩) (fun r s' => r = .ok (.ret (.bool true)) ∧ OldK s₁.heap s'.heap ∧ s'.os = s₁.os ∧ AllBare s'.gens) s₁ := by
  have rv := vals_ints hi
  have lenV := hi.length
  have core : ∀ H : Hp, Only H → SqL K H a (ns.map V.int) → HOk P w H s₁.heap → (∀ b, H b ≠ none → b = a) → (H a ≠ none → K.lookup a = none) →
      codeAny (model P w) callerA (.call (.ref fa) ⟨[.ref a], []⟩) (fun r s' => r = .ok (.ret (.bool true)) ∧ OldK s₁.heap s'.heap ∧ s'.os = s₁.os ∧ AllBare s'.gens) s₁ := by
    intro H hO hS hok hA hK
    have base_of : ∀ {b : Addr} {o : Obj}, s₁.heap.get? b = some o → H b = none → (hidT s₁.heap H).get? b = some o := fun e n => hidT_get e n
    have noA : ∀ {b : Addr} {o : Obj} {es : Array DictEntry} {ep : Nat}, s₁.heap.get? b = some o → o.data = .dict es ep → H b = none := fun {b o es ep} e d => by
      cases q : H b with
      | none => rfl
      | some u =>
        have e' : b = a := hA b (by rw [q]; simp)
        subst e'
        rw [ha] at e; cases e
        have d' : Data.seq vs.toArray _ = Data.dict es ep := d
        cases d'
    have nsK : ∀ {b : Addr} {m : Str → Option Value}, s₁.heap.Ns b m → (hidT s₁.heap H).Ns b m := fun {b m} ⟨o, es, ep, e, d, r⟩ => ⟨o, es, ep, base_of e (noA e d), d, r⟩
    have hKb : K.In (hidT s₁.heap H) := fun b o e => base_of (KX b o e) (by
      cases q : H b with
      | none => rfl
      | some u =>
        have e' : b = a := hA b (by rw [q]; simp)
        subst e'
        rw [hK (by rw [q]; simp)] at e; cases e)
    have hM : Mod K mg (hidT s₁.heap H) := ⟨hKb, nsK hns, ⟨mb, nsK hb, hbb⟩, let ⟨mc, h1, h2⟩ := hlim; ⟨mc, nsK h1, h2⟩⟩
    have e0 : Env0 P w K mg (hidT s₁.heap H) callerA [] s₁ H := ⟨rfl, hM, fun b o e => of_hidT e, Nat.le_of_eq (hidT_size _ _), trivial, fun b hb => absurd (show b ∈ ([] : List Addr) from hb) (by simp), hok, .of_eq hg⟩
    refine codeAny_mono ((F _ hKb (nsK hns)).run callerA [] s₁ H ⟨[.ref a], []⟩ [.ref a] [.ref a] _ _ hr e0 (hbind s₁ (.ref a)) (.cons rfl .nil) (hsp H hO hS)) fun r s' h => ?_
    cases r with
    | error e => exact (hCX H e s' h).elim
    | ok fl =>
      cases fl with
      | next => exact False.elim h
      | brk => exact False.elim h
      | cont => exact False.elim h
      | ret u =>
        obtain ⟨v, H', os, bare, un, hok', r', q⟩ := h
        have q' : v = .bl true := q
        subst q'
        obtain rfl : u = Value.bool true := r'
        refine ⟨rfl, OldK.of_keep fun b o e => ?_, os, bare⟩
        cases q : H b with
        | none => exact un.keep b o e q (by intro z; exact absurd (show b ∈ ([] : List Addr) from z) (by simp)) (by simp)
        | some u =>
          rcases hO b with z | ⟨ob, xs, z⟩
          · rw [q] at z; cases z
          · have z2 := un.frzs b ob _ z
            obtain ⟨e1, _⟩ := hok b _ z
            obtain ⟨e2, _⟩ := hok' b _ z2
            rw [e] at e1; cases e1
            exact e2
  cases hk : K.lookup a with
  | some o =>
    have e := KX a o hk
    rw [ha] at e
    cases e
    refine core (fun _ => none) (fun _ => .inl rfl) (.inr ⟨_, vs.toArray, _, hk, rfl, rfl, rfl, by rw [List.size_toArray, lenV]; exact hl, by simpa using rv⟩) (fun b u z => by have z' : (none : Option HO) = some u := z; cases z') (fun b z => absurd rfl z) fun z => absurd rfl z
  | none =>
    refine core (fun b => if b = a then some (.frz { cls := .type "list", data := .seq vs.toArray } (.lst (ns.map V.int))) else none) (fun b => ?_) (.inl (.inr ⟨{ cls := .type "list", data := .seq vs.toArray }, if_pos rfl⟩)) (fun b u z => ?_) (fun b z => ?_) fun _ => hk
    · by_cases hb : b = a
      · exact .inr ⟨_, _, if_pos hb⟩
      · exact .inl (if_neg hb)
    · by_cases hb : b = a
      · have z' := (if_pos hb).symm.trans z
        cases z'
        subst hb
        exact ⟨ha, by rw [List.length_map]; exact hl, vs, _, rv, ha⟩
      · have z' := (if_neg hb).symm.trans z
        cases z'
    · by_cases hb : b = a
      · exact hb
      · exact absurd (if_neg hb) z
end L2
namespace L2
open PySem PySem.Spec PyProof.Rows
abbrev KOf {K : PySem.W.Frag} {h : Heap} (_ : K.In h) : PySem.W.Frag := K
theorem walk_of {l : PySem.W.OpenLaw} {n k : Nat} {q : Program} {loose : List Str} {XP : (Str → Option Value) → Heap → Prop} {YP : World → Heap → Prop} {d : DefRec} {K : Params → PySem.W.Frag} {CX : World → CXT} {sp : World → Sp} {x : Str}
    (hn : l.most = some n) (hn2 : n ≤ sizeLine) (hdf : d.params.defaults = []) (hr : Room k callerA)
    (hY : ∀ (w : World) (h : Heap), YP w h → (K w.params).In h)
    (F : ∀ (w : World) (mg : Str → Option Value) (fa : Addr) (h : Heap), (K w.params).In h → h.Ns mainGlobals mg → mg d.name = some (.ref fa) →
      ∃ fd : FuncData, (∀ (s : Shared) (u : Value), BindsTo s fd ⟨[u], []⟩ [(x, u)]) ∧
        ∀ base : Heap, (K w.params).In base → base.Ns mainGlobals mg → FnOk l.prog w (K w.params) mg base (CX w) k fa fd [x] (sp w))
    (hsp : ∀ (w : World) (H : Hp) (a : Addr) (ns : List Int), ns.length ≤ n → Only H → SqL (K w.params) H a (ns.map V.int) → sp w [.ref a] H (fun v _ => v = .bl true) fun _ _ _ => False)
    (hCX : ∀ (w : World) (H : Hp) (s : Shared) (e : Value) (s' : Shared), CX w [] H s (fun _ _ _ => False) e s' → False) :
    PySem.W.WalkO q loose XP YP l.row.toRowW d [] (fun f vs => PySem.call f vs) := by
  refine Att.attach_call hn hdf fun w s₀ s₁ mg mb fa o pm cd doc a vs ns G Y ho hd hcd hmg hobj hints hlen hg => ?_
  have KX := hY w _ Y
  obtain ⟨fd, hb, hF⟩ := F w mg fa _ KX G.T.g hmg
  exact law_call KX G.T.g G.T.b G.T.builtins G.T.nolimit hg hobj hints (Nat.le_trans hlen hn2) hr hF hb (fun H hO hS => hsp w H a ns hlen hO hS) fun H e s' => hCX w H s₁ e s'
end L2
namespace L2
open PySem PySem.Spec PyProof.Rows
def inClass (s : Stmt) (j : Nat) : Stmt := match s with
  | .ClassDef _ _ _ body _ _ _ _ _ _ _ => body.getD j (.Pass ⟨0, 0, 0, 0⟩)
  | _ => .Pass ⟨0, 0, 0, 0⟩
def defArgs (s : Stmt) : Arguments := match s with
  | .FunctionDef _ a _ _ _ _ _ _ _ _ => a
  | _ => { posonlyargs := [], args := [], vararg := none, kwonlyargs := [], kw_defaults := [], kwarg := none, defaults := [] }
def defBody (s : Stmt) : List Stmt := match s with
  | .FunctionDef _ _ b _ _ _ _ _ _ _ => b
  | _ => []
def defScope (s : Stmt) : Scope := match s with
  | .FunctionDef _ _ _ _ _ _ sc _ _ _ => sc
  | _ => { kind := .function, names := [], isGenerator := false, isCoroutine := false }
abbrev CX0 : CXT := fun _ _ _ _ _ _ => False
abbrev E0 : XK := fun _ _ _ => False
theorem pass0 {X : Cx} : Passes CX0 X E0 := fun _ _ _ _ _ _ _ h => h.elim
structure Fun (K : PySem.W.Frag) (x qual : Str) (st : Stmt) (f : Addr) (fd : FuncData) : Prop where
  ex : ∃ (oc : Value) (od : Option Addr) (kV doc pm : Value) (an : Option Addr) (cdv ct : Value) (osl : Array (Option Value)),
    fd = PySem.W.fnOf x qual (defArgs st) (defBody st) (defScope st) .none kV doc pm an cdv ct ∧ K.lookup f = some ⟨oc, od, .func fd, osl⟩ ∧ PySem.W.codeIn K cdv qual = true
  kp : PySem.W.keepIn K (.ref f) = true
section
variable {P : Program} {w : World} {K : PySem.W.Frag} {mg : Str → Option Value} {base : Heap}
theorem Fun.ok {x qual : Str} {st : Stmt} {f : Addr} {fd : FuncData} {N ps : List Str} {k : Nat} {sp : Sp} (F : Fun K x qual st f fd) (S : FnScope N ps (defScope st)) (len : ∀ vs H Q E, sp vs H Q E → vs.length = ps.length)
    (hbody : ∀ (cdv : Value) (A : Around) (outer : List Env) (s : Shared) (H : Hp) (vs : List V) (Q : VK) (E : XK), Room k (A.deeper (envOfC qual (defScope st) s.heap.objs.size f cdv)) → sp vs H Q E →
      ∃ t, PSs (cxOf CX0 P w K mg base N qual (defScope st) f cdv A outer s H E).nox (defBody st) t ∧ t { nx := fun _ H' => Q .non H', rt := Q } (start N vs) H) : FnOk P w K mg base CX0 (k + 1) f fd ps sp := by
  obtain ⟨oc, od, kV, doc, pm, an, cdv, ct, osl, rfl, lk, hcd⟩ := F.ex
  refine fn_of lk hcd S len fun A outer s H vs Q E hr hsp => ?_
  obtain ⟨t, h, q⟩ := hbody cdv A outer s H vs Q E hr hsp
  exact ⟨t, h.nox, q⟩
theorem Fun.binds {x qual : Str} {st : Stmt} {f : Addr} {fd : FuncData} {ps : List Str} (F : Fun K x qual st f fd)
    (h : ∀ (kV doc pm : Value) (an : Option Addr) (cdv ct : Value) (us : List Value), us.length = ps.length → bindArgs (PySem.W.fnOf x qual (defArgs st) (defBody st) (defScope st) .none kV doc pm an cdv ct) ⟨us, []⟩ = pure (ps.zip us)) : Binds K fd ps [] := by
  obtain ⟨oc, od, kV, doc, pm, an, cdv, ct, osl, rfl, lk, hcd⟩ := F.ex
  exact .all (h kV doc pm an cdv ct)
theorem fun_mk {x qual : Str} {st : Stmt} {f : Addr} {oc : Value} {od an : Option Addr} {osl : Array (Option Value)} {kV doc pm cdv ct : Value} (l : K.lookup f = some ⟨oc, od, .func (PySem.W.fnOf x qual (defArgs st) (defBody st) (defScope st) .none kV doc pm an cdv ct), osl⟩)
    (c : PySem.W.codeIn K cdv qual = true) (k : PySem.W.keepIn K (.ref f) = true) : Fun K x qual st f (PySem.W.fnOf x qual (defArgs st) (defBody st) (defScope st) .none kV doc pm an cdv ct) := ⟨⟨oc, od, kV, doc, pm, an, cdv, ct, osl, rfl, l, c⟩, k⟩
end
theorem hu_of {A : Around} {k : Nat} (hr : Room k A) : A.units + 1 < cLine := Nat.lt_of_le_of_lt (Nat.add_le_add_left (by decide : 1 ≤ 64) _) hr.units
section
variable {X : Cx}
theorem pv (i : Nat) {x : Str} {pos : Pos} (hN : X.N[i]? = some x := by rfl) (hv : Vis X.env.scope x := by first | exact Or.inl rfl | exact Or.inr (Or.inl rfl) | exact Or.inr (Or.inr rfl)) (hd : (x == ("__debug__" : Str)) = false := by decide)
    (hcd : (x == ("__classdict__" : Str)) = false := by decide) : PE X (.Name x pos) (tVar i) := pe_var hN hv hd hcd
end
theorem iteF {A B : Prop} (h : B) : if false = true then A else B := by
  rw [if_neg Bool.false_ne_true]
  exact h
theorem iteT {A B : Prop} (h : A) : if true = true then A else B := by
  rw [if_pos rfl]
  exact h
theorem ite2 {c A B : Prop} [Decidable c] (h1 : c → A) (h2 : ¬ c → B) : if c then A else B := by
  by_cases h : c
  · rw [if_pos h]
    exact h1 h
  · rw [if_neg h]
    exact h2 h
def Same (H H' : Hp) : Prop := ∀ b o, H b = some o → H' b = some o
theorem Same.refl (H : Hp) : Same H H := fun _ _ h => h
theorem Same.trans {H H1 H2 : Hp} (a : Same H H1) (b : Same H1 H2) : Same H H2 := fun c o h => b c o (a c o h)
theorem Same.free {H H' : Hp} (e : Same H H') {l : Addr} (h : H' l = Option.none) : H l = Option.none := by
  cases q : H l with
  | none => rfl
  | some o =>
    rw [e l o q] at h
    cases h
theorem Same.seq {K : PySem.W.Frag} {H H' : Hp} {a : Addr} {xs : List V} (e : Same H H') (h : SqL K H a xs) : SqL K H' a xs := by
  rcases h with (h | ⟨o, h⟩) | h
  · exact .inl (.inl (e _ _ h))
  · exact .inl (.inr ⟨o, e _ _ h⟩)
  · exact .inr h
end L2
namespace L2
open PySem PySem.Spec PyProof.Rows
section
variable {κ : Type} [DecidableEq κ]
def valV (kvs : List (κ × V)) (k : κ) : Option V := (kvs.find? fun kv => decide (kv.1 = k)).map (·.2)
def putK (kvs : List (κ × V)) (k : κ) (v : V) : List (κ × V) :=
  if (kvs.any fun kv => decide (kv.1 = k)) = true then kvs.map (fun kv => if kv.1 = k then (kv.1, v) else kv) else kvs ++ [(k, v)]
def dropK (kvs : List (κ × V)) (k : κ) : List (κ × V) := kvs.filter fun kv => decide (kv.1 ≠ k)
theorem valV_nil {k : κ} : valV ([] : List (κ × V)) k = none := rfl
theorem valV_pos {p : κ × V} {r : List (κ × V)} {k : κ} (e : p.1 = k) : valV (p :: r) k = some p.2 := by simp [valV, List.find?_cons, e]
theorem valV_neg {p : κ × V} {r : List (κ × V)} {k : κ} (e : ¬ p.1 = k) : valV (p :: r) k = valV r k := by simp [valV, List.find?_cons, e]
theorem valV_any (k : κ) : ∀ kvs : List (κ × V), (kvs.any fun kv => decide (kv.1 = k)) = (valV kvs k).isSome
  | [] => rfl
  | p :: r => by
    rw [List.any_cons]
    by_cases e : p.1 = k
    · simp only [valV_pos e, decide_eq_true e, Bool.true_or, Option.isSome_some]
    · rw [valV_neg e, decide_eq_false e, Bool.false_or]; exact valV_any k r
theorem valV_map (k j : κ) (y : V) : ∀ kvs : List (κ × V), valV (kvs.map fun kv => if kv.1 = k then (kv.1, y) else kv) j = (valV kvs j).map fun x => if j = k then y else x
  | [] => rfl
  | p :: r => by
    have ih := valV_map k j y r
    rw [List.map_cons]
    by_cases h : p.1 = k
    · rw [if_pos h]
      by_cases e : p.1 = j
      · rw [valV_pos (p := (p.1, y)) e, valV_pos e, Option.map_some, if_pos (e.symm.trans h)]
      · rw [valV_neg (p := (p.1, y)) e, valV_neg e, ih]
    · rw [if_neg h]
      by_cases e : p.1 = j
      · rw [valV_pos (p := p) e, valV_pos e, Option.map_some, if_neg (fun z => h (e.trans z))]
      · rw [valV_neg (p := p) e, valV_neg e, ih]
theorem valV_snoc (k j : κ) (y : V) : ∀ kvs : List (κ × V), valV kvs k = none → valV (kvs ++ [(k, y)]) j = if j = k then some y else valV kvs j
  | [], _ => by
    by_cases e : k = j
    · rw [if_pos e.symm]; exact valV_pos (p := (k, y)) e
    · rw [if_neg (fun z => e z.symm)]; exact valV_neg (p := (k, y)) e
  | p :: r, hn => by
    rw [List.cons_append]
    have hk : ¬ p.1 = k := fun z => by rw [valV_pos z] at hn; cases hn
    rw [valV_neg hk] at hn
    have ih := valV_snoc k j y r hn
    by_cases e : p.1 = j
    · rw [valV_pos e, valV_pos e, if_neg (fun z => hk (e.trans z))]
    · rw [valV_neg e, valV_neg e, ih]
theorem valV_put (kvs : List (κ × V)) (k j : κ) (y : V) : valV (putK kvs k y) j = if j = k then some y else valV kvs j := by
  unfold putK
  by_cases a : (kvs.any fun kv => decide (kv.1 = k)) = true
  · rw [if_pos a, valV_map]
    rw [valV_any] at a
    by_cases e : j = k
    · obtain ⟨x, hx⟩ := Option.isSome_iff_exists.mp a
      rw [if_pos e, e, hx, Option.map_some, if_pos rfl]
    · rw [if_neg e]
      cases valV kvs j with
      | none => rfl
      | some x => rw [Option.map_some, if_neg e]
  · rw [if_neg a]
    refine valV_snoc k j y kvs ?_
    rw [valV_any] at a
    cases q : valV kvs k with
    | none => rfl
    | some x => rw [q] at a; exact (a rfl).elim
theorem length_putK (kvs : List (κ × V)) (k : κ) (v : V) : (putK kvs k v).length ≤ kvs.length + 1 := by
  unfold putK
  split
  · rw [List.length_map]; omega
  · rw [List.length_append, List.length_cons, List.length_nil]; omega
theorem RelO.isSome_eq {o : Option V} {u : Option Value} (r : RelO o u) : o.isSome = u.isSome := by
  cases o with
  | none => cases u with
    | none => rfl
    | some _ => exact (show False from r).elim
  | some _ => cases u with
    | none => exact (show False from r).elim
    | some _ => rfl
theorem RelO.getD {o : Option V} {u : Option Value} {d : V} {d' : Value} (r : RelO o u) (rd : RelV d d') : RelV (o.getD d) (u.getD d') := by
  cases o with
  | none => cases u with
    | none => exact rd
    | some _ => exact (show False from r).elim
  | some _ => cases u with
    | none => exact (show False from r).elim
    | some _ => exact r
theorem KV.val {kvs : List (κ × V)} {vs : List (κ × Value)} (r : KV kvs vs) (k : κ) : RelO (valV kvs k) (valueAt vs k) := by
  unfold KV at r
  induction r with
  | nil => exact True.intro
  | @cons p q ps qs h t ih =>
    obtain ⟨h1, h2⟩ := h
    by_cases e : p.1 = k
    · have e' : q.1 = k := h1.symm.trans e
      have b : valueAt (q :: qs) k = some q.2 := by simp [valueAt, List.find?_cons, e']
      rw [valV_pos e, b]; exact h2
    · have e' : ¬ q.1 = k := fun z => e (h1.trans z)
      have b : valueAt (q :: qs) k = valueAt qs k := by simp [valueAt, List.find?_cons, e']
      rw [valV_neg e, b]; exact ih
theorem KV.any {kvs : List (κ × V)} {vs : List (κ × Value)} (r : KV kvs vs) (k : κ) : (kvs.any fun kv => decide (kv.1 = k)) = vs.any fun kv => decide (kv.1 = k) := by
  unfold KV at r
  induction r with
  | nil => rfl
  | cons h t ih => rw [List.any_cons, List.any_cons, ih, h.1]
theorem KV.repl {kvs : List (κ × V)} {vs : List (κ × Value)} (r : KV kvs vs) (k : κ) {y : V} {u : Value} (ry : RelV y u) :
    KV (kvs.map fun kv => if kv.1 = k then (kv.1, y) else kv) (vs.map fun kv => if kv.1 = k then (kv.1, u) else kv) := by
  unfold KV at r ⊢
  induction r with
  | nil => exact .nil
  | @cons p q ps qs h t ih =>
    rw [List.map_cons, List.map_cons]
    refine .cons ?_ ih
    obtain ⟨h1, h2⟩ := h
    by_cases e : p.1 = k
    · rw [if_pos e, if_pos (h1.symm.trans e)]; exact ⟨h1, ry⟩
    · rw [if_neg e, if_neg (fun z => e (h1.trans z))]; exact ⟨h1, h2⟩
theorem KV.put {kvs : List (κ × V)} {vs : List (κ × Value)} (r : KV kvs vs) (k : κ) {y : V} {u : Value} (ry : RelV y u) : KV (putK kvs k y) (stored vs k u) := by
  unfold putK stored
  rw [r.any k]
  by_cases e : (vs.any fun kv => decide (kv.1 = k)) = true
  · rw [if_pos e, if_pos e]; exact r.repl k ry
  · rw [if_neg e, if_neg e]; exact Paired.snoc r ⟨rfl, ry⟩
theorem KV.drop {kvs : List (κ × V)} {vs : List (κ × Value)} (r : KV kvs vs) (k : κ) : KV (dropK kvs k) (without vs k) := by
  unfold KV at r ⊢
  unfold dropK without
  induction r with
  | nil => exact .nil
  | @cons p q ps qs h t ih =>
    obtain ⟨h1, h2⟩ := h
    rw [List.filter_cons, List.filter_cons]
    by_cases e : p.1 = k
    · have a : ¬ decide (p.1 ≠ k) = true := by simp [e]
      have b : ¬ decide (q.1 ≠ k) = true := by simp [h1.symm.trans e]
      rw [if_neg a, if_neg b]; exact ih
    · have e' : ¬ q.1 = k := fun z => e (h1.trans z)
      have a : decide (p.1 ≠ k) = true := by simp [e]
      have b : decide (q.1 ≠ k) = true := by simp [e']
      rw [if_pos a, if_pos b]; exact .cons ⟨h1, h2⟩ ih
theorem KV.keys {kvs : List (κ × V)} {vs : List (κ × Value)} (r : KV kvs vs) : kvs.map (·.1) = vs.map (·.1) := by
  unfold KV at r
  induction r with
  | nil => rfl
  | cons h t ih => rw [List.map_cons, List.map_cons, ih, h.1]
theorem KV.length {kvs : List (κ × V)} {vs : List (κ × Value)} (r : KV kvs vs) : kvs.length = vs.length := Paired.length r
end
theorem kV_is {P : Program} {w : World} {k : Key} {u : Value} (r : RelV (kV k) u) : (mixKind P w).is k u = true := by
  cases k with
  | inl i => obtain ⟨t, e⟩ := (show ∃ t, u = Value.int i t from r); subst e; exact mixKind_int P w i t
  | inr x => obtain ⟨t, e⟩ := (show ∃ t, u = Value.str x t from r); subst e; exact mixKind_str P w x t
theorem items_are {P : Program} {w : World} : ∀ {ks : List Key} {us : List Value}, Vals (ks.map kV) us → ItemsAre (mixKind P w) ks us
  | [], _, r => by rw [List.map_nil] at r; cases r; exact .nil
  | k :: ks, _, r => by
    rw [List.map_cons] at r
    cases r with
    | cons h t => exact .cons (kV_is h) (items_are t)
abbrev KT (H : Hp) : List (List Key × V) → List (List Key × Addr × Value) → Prop := Paired fun p q => p.1 = q.1 ∧ H q.2.1 = some (.tup (p.1.map kV)) ∧ RelV p.2 q.2.2
theorem KT.val {H : Hp} {kvs : List (List Key × V)} {xs : List (List Key × Addr × Value)} (r : KT H kvs xs) (k : List Key) : RelO (valV kvs k) ((atKey xs k).map (·.2)) := by
  induction r with
  | nil => exact True.intro
  | @cons p q ps qs h t ih =>
    obtain ⟨h1, _, h2⟩ := h
    by_cases e : p.1 = k
    · have e' : q.1 = k := h1.symm.trans e
      have b : atKey (q :: qs) k = some q.2 := by simp [atKey, List.find?_cons, e']
      rw [valV_pos e, b]; exact h2
    · have e' : ¬ q.1 = k := fun z => e (h1.trans z)
      have b : atKey (q :: qs) k = atKey qs k := by simp [atKey, List.find?_cons, e']
      rw [valV_neg e, b]; exact ih
theorem KT.repl {H : Hp} {kvs : List (List Key × V)} {xs : List (List Key × Addr × Value)} (r : KT H kvs xs) (k : List Key) {y : V} {u : Value} (ry : RelV y u) :
    KT H (kvs.map fun kv => if kv.1 = k then (kv.1, y) else kv) (xs.map (putAt k u)) := by
  induction r with
  | nil => exact .nil
  | @cons p q ps qs h t ih =>
    rw [List.map_cons, List.map_cons]
    refine .cons ?_ ih
    obtain ⟨h1, h2, h3⟩ := h
    unfold putAt
    by_cases e : p.1 = k
    · rw [if_pos e, if_pos (h1.symm.trans e)]; exact ⟨h1, h2, ry⟩
    · rw [if_neg e, if_neg (fun z => e (h1.trans z))]; exact ⟨h1, h2, h3⟩
theorem KT.put {H : Hp} {kvs : List (List Key × V)} {xs : List (List Key × Addr × Value)} (r : KT H kvs xs) (k : List Key) {b : Addr} {y : V} {u : Value} (hb : H b = some (.tup (k.map kV))) (ry : RelV y u) :
    KT H (putK kvs k y) (storedH xs k b u) := by
  have e : (kvs.any fun kv => decide (kv.1 = k)) = (atKey xs k).isSome := by
    rw [valV_any, (r.val k).isSome_eq, Option.isSome_map]
  unfold putK storedH
  rw [e]
  by_cases q : (atKey xs k).isSome = true
  · rw [if_pos q, if_pos q]; exact r.repl k ry
  · rw [if_neg q, if_neg q]; exact Paired.snoc r ⟨rfl, hb, ry⟩
theorem KT.keeps {H H' : Hp} {kvs : List (List Key × V)} {xs : List (List Key × Addr × Value)} (r : KT H kvs xs) (ht : ∀ b ys, H b = some (.tup ys) → H' b = some (.tup ys)) : KT H' kvs xs :=
  Paired.mapP r fun _ _ z => ⟨z.1, ht _ _ z.2.1, z.2.2⟩
section
variable {P : Program} {w : World} {H : Hp} {h : Heap} {a : Addr}
theorem rd_of {u : HO} (ok : HOk P w H h) (e : Rd H a u) : ObjOk P w H h a u := e.ok ok
theorem dk_rd {kvs : List (Key × V)} (ok : HOk P w H h) (e : Rd H a (.dK kvs)) : kvs.length ≤ sizeLine ∧ (a == sysModules) = false ∧ ∃ vs, KV kvs vs ∧ h.DictOf (mixKind P w) a vs :=
  show ObjOk P w H h a (.dK kvs) from rd_of ok e
theorem dk_of {kvs : List (Key × V)} (ok : HOk P w H h) (e : H a = some (.dK kvs)) : kvs.length ≤ sizeLine ∧ (a == sysModules) = false ∧ ∃ vs, KV kvs vs ∧ h.DictOf (mixKind P w) a vs := dk_rd ok (.inl e)
theorem key_of {ks : List Key} (ok : HOk P w H h) (e : H a = some (.tup (ks.map kV))) : (tupleKind (mixKind P w)).is h ks a := by
  obtain ⟨_, its, r, o, h1, h2, n, h3⟩ := (show ObjOk P w H h a (.tup (ks.map kV)) from ok a _ e)
  exact ⟨o, its.toArray, n, h1, h2, h3, by simpa using items_are r⟩
theorem dt_rd {kvs : List (List Key × V)} (ok : HOk P w H h) (e : Rd H a (.dT kvs)) : kvs.length ≤ sizeLine ∧ (a == sysModules) = false ∧
    ∃ xs, KT H kvs xs ∧ h.DictOfH (tupleKind (mixKind P w)) a xs := by
  obtain ⟨z, y, xs, r, o, es, ep, h1, h2, h3, h4, h5⟩ := (show ObjOk P w H h a (.dT kvs) from rd_of ok e)
  refine ⟨z, y, xs, r, o, es, ep, h1, h2, h3, h4, fun x hx => ?_, h5⟩
  have all : ∀ {l : List (List Key × V)} {m : List (List Key × Addr × Value)}, KT H l m → ∀ x ∈ m, (tupleKind (mixKind P w)).is h x.1 x.2.1 := by
    intro l m q
    induction q with
    | nil => intro x hx; exact nomatch hx
    | @cons p q ps qs hq t ih =>
      intro x hx
      rcases List.mem_cons.mp hx with e | hx
      · subst e
        exact key_of ok (by rw [← hq.1]; exact hq.2.1)
      · exact ih x hx
  exact all r x hx
theorem dt_of {kvs : List (List Key × V)} (ok : HOk P w H h) (e : H a = some (.dT kvs)) : kvs.length ≤ sizeLine ∧ (a == sysModules) = false ∧
    ∃ xs, KT H kvs xs ∧ h.DictOfH (tupleKind (mixKind P w)) a xs := dt_rd ok (.inl e)
end
def DGet (H : Hp) (a : Addr) (y : V) (r : Option V) : Prop :=
  (∃ kvs k, Rd H a (.dK kvs) ∧ y = kV k ∧ r = valV kvs k) ∨ ∃ kvs k b, Rd H a (.dT kvs) ∧ y = .ref b ∧ H b = some (.tup (k.map kV)) ∧ r = valV kvs k
def DPut (H : Hp) (a : Addr) (y v : V) (H' : Hp) : Prop :=
  (∃ kvs k, H a = some (.dK kvs) ∧ y = kV k ∧ kvs.length < sizeLine ∧ H' = upd H a (.dK (putK kvs k v))) ∨
  ∃ kvs k b, H a = some (.dT kvs) ∧ y = .ref b ∧ H b = some (.tup (k.map kV)) ∧ kvs.length < sizeLine ∧ H' = upd H a (.dT (putK kvs k v))
theorem DGet.k {H : Hp} {a : Addr} {kvs : List (Key × V)} {k : Key} (e : H a = some (.dK kvs)) : DGet H a (kV k) (valV kvs k) := .inl ⟨kvs, k, .inl e, rfl, rfl⟩
theorem DGet.t {H : Hp} {a b : Addr} {kvs : List (List Key × V)} {k : List Key} (e : H a = some (.dT kvs)) (eb : H b = some (.tup (k.map kV))) : DGet H a (.ref b) (valV kvs k) := .inr ⟨kvs, k, b, .inl e, rfl, eb, rfl⟩
theorem DPut.k {H : Hp} {a : Addr} {kvs : List (Key × V)} {k : Key} {v : V} (e : H a = some (.dK kvs)) (hl : kvs.length < sizeLine) : DPut H a (kV k) v (upd H a (.dK (putK kvs k v))) := .inl ⟨kvs, k, e, rfl, hl, rfl⟩
theorem DPut.t {H : Hp} {a b : Addr} {kvs : List (List Key × V)} {k : List Key} {v : V} (e : H a = some (.dT kvs)) (eb : H b = some (.tup (k.map kV))) (hl : kvs.length < sizeLine) :
    DPut H a (.ref b) v (upd H a (.dT (putK kvs k v))) := .inr ⟨kvs, k, b, e, rfl, eb, hl, rfl⟩
section
variable {X : Cx} {pins : List (Addr × Obj)} {σ : St} {H : Hp} {s : Shared} {a : Addr} {y v : V} {u r : Value} {o : Option V} {A : Around} {E : Value → Shared → Prop}
theorem Inv.big (I : Inv X pins σ H s) : sysModules < s.heap.objs.size := by
  have h : mainGlobals < s.heap.objs.size := (I.mod.glob.keeps I.bk).lt
  exact Nat.lt_trans (by decide) h
theorem d_getItem {Q : Value → Shared → Prop} (hu : A.units + 1 < cLine) (I : Inv X pins σ H s) (g : DGet H a y (some v)) (ry : RelV y u) (h : ∀ w' s', Inv X pins σ H s' → RelV v w' → Q w' s') :
    wpAny (model X.prog X.w) A (getItem (.ref a) u) Q E s := by
  rcases g with ⟨kvs, k, e, ey, l⟩ | ⟨kvs, k, b, e, ey, eb, l⟩
  · subst ey
    obtain ⟨z, hd, vs, rel, dd⟩ := dk_rd I.hok e
    obtain ⟨w', hw, rw'⟩ := RelO.some_of (v := v) (o := valueAt vs k) (by rw [l]; exact rel.val k)
    exact wpAny_getItem_of (kV_is ry) dd.mapOf hw (h w' _ (I.tok _) rw')
  · subst ey
    cases (show u = Value.ref b from ry)
    obtain ⟨z, hd, xs, rel, dd⟩ := dt_rd I.hok e
    obtain ⟨w', hw, rw'⟩ := RelO.some_of (v := v) (o := (atKey xs k).map (·.2)) (by rw [l]; exact rel.val k)
    obtain ⟨p, hp, hp2⟩ := Option.map_eq_some_iff.mp hw
    refine wpAny_getItem_heap (tupleKind_room_in1 hu) (key_of I.hok eb) dd hp ?_
    rw [hp2]
    exact h w' _ (I.tok _) rw'
theorem d_in {Q : Value → Shared → Prop} (hu : A.units + 1 < cLine) (I : Inv X pins σ H s) (g : DGet H a y o) (ry : RelV y u) (h : ∀ s', Inv X pins σ H s' → Q (.bool o.isSome) s') :
    wpAny (model X.prog X.w) A (compareOp .In u (.ref a)) Q E s := by
  rcases g with ⟨kvs, k, e, ey, l⟩ | ⟨kvs, k, b, e, ey, eb, l⟩
  · subst ey
    obtain ⟨z, hd, vs, rel, dd⟩ := dk_rd I.hok e
    refine wpAny_in_of (kV_is ry) hd dd.mapOf ?_
    rw [← (rel.val k).isSome_eq, ← l]
    exact h _ (I.tok _)
  · subst ey
    cases (show u = Value.ref b from ry)
    obtain ⟨z, hd, xs, rel, dd⟩ := dt_rd I.hok e
    refine wpAny_in_heap (tupleKind_room_in1 hu) (key_of I.hok eb) hd dd ?_
    have q := (rel.val k).isSome_eq
    rw [Option.isSome_map] at q
    rw [← q, ← l]
    exact h _ (I.tok _)
theorem d_write {h' : Heap} {t' : Nat} {ob : HO} (I : Inv X pins σ H s) (mu : Mut (H a)) (hs : Heap.SameBut a s.heap h') (he : ∃ q, h'.get? a = some q) (new : ObjOk X.prog X.w (upd H a ob) h' a ob) :
    Inv X pins σ (upd H a ob) { s with heap := h', toks := t' } :=
  I.write (x := a) (e := a) mu (.inl rfl) (fun b q hb z => (hs.2 b hb).trans z) he new
theorem dk_new {P : Program} {w : World} {H' : Hp} {h' : Heap} {kvs : List (Key × V)} {vs : List (Key × Value)} (z : kvs.length ≤ sizeLine) (hd : (a == sysModules) = false) (rel : KV kvs vs) (dd : h'.DictOf (mixKind P w) a vs) :
    ObjOk P w H' h' a (.dK kvs) := ⟨z, hd, vs, rel, dd⟩
theorem d_setItem {H' : Hp} {Q : Unit → Shared → Prop} (hu : A.units + 1 < cLine) (I : Inv X pins σ H s) (g : DPut H a y v H') (ry : RelV y u) (rv : RelV v r) (h : ∀ s', Inv X pins σ H' s' → Q () s') :
    wpAny (model X.prog X.w) A (setItem (.ref a) u r) Q E s := by
  rcases g with ⟨kvs, k, e, ey, l, eH⟩ | ⟨kvs, k, b, e, ey, eb, l, eH⟩
  · subst ey eH
    obtain ⟨z, hd, vs, rel, dd⟩ := dk_of I.hok e
    have hz : vs.length ≤ sizeLine := by rw [← rel.length]; exact z
    have hl : (putK kvs k v).length ≤ sizeLine := by have := length_putK kvs k v; omega
    refine wpAny_setItem_pairs (hsz := hz) (kV_is ry) dd fun h' dd' hs => h _ ?_
    have he : ∃ q, h'.get? a = some q := let ⟨q, _, _, hq, _⟩ := dd'; ⟨q, hq⟩
    exact d_write I (by rw [e]; exact True.intro) hs he (dk_new hl hd (rel.put k rv) dd')
  · subst ey eH
    cases (show u = Value.ref b from ry)
    obtain ⟨z, hd, xs, rel, dd⟩ := dt_of I.hok e
    have hz : xs.length ≤ sizeLine := by rw [← Paired.length rel]; exact z
    have hl : (putK kvs k v).length ≤ sizeLine := by have := length_putK kvs k v; omega
    refine wpAny_setItem_heap (hsz := hz) (tupleKind_room_in1 hu) (key_of I.hok eb) dd fun h' dd' hs => h _ ?_
    obtain ⟨q, es, ep, hq, h2, h3, h4, _, h5⟩ := dd'
    refine d_write I (by rw [e]; exact True.intro) hs ⟨q, hq⟩ ⟨hl, hd, _, (rel.put k eb rv).keeps fun c ys ec => ?_, q, es, ep, hq, h2, h3, h4, h5⟩
    rw [upd_ne (ne_of ec e (fun z => nomatch z))]
    exact ec
end
section
variable {X : Cx} {pins : List (Addr × Obj)} {σ : St} {H : Hp} {s : Shared} {a : Addr} {kvs : List (Key × V)} {k : Key} {u : Value} {A : Around} {E : Value → Shared → Prop}
end
def NoSl (i : Expr) : Prop := ∀ ov iv, subscripted i false ov iv = operate [ov, iv] (getItem ov iv)
theorem subD_of {prog : Program} {w : World} {A : Around} {E : Value → Shared → Prop} {s : Shared} {env : Env} {value slice : Expr} {pos : Pos} {T id : String} {Q : Value → Shared → Prop}
    (hl : typeLookup (.type T) "__getitem__" = pure (some (.builtin id))) (hs : NoSl slice)
    (h : wpAny (model prog w) A (eval value env) (fun o s₁ => wpAny (model prog w) A (eval slice env) (fun i s₂ => s₂.TypeIs o T ∧ wpAny (model prog w) A (getItem o i) Q E s₂) E s₁) E s) :
    wpAny (model prog w) A (eval (.Subscript value slice pos) env) Q E s := by
  refine Subscript_ (wpAny_mono h (fun o s₁ h₁ => wpAny_mono h₁ (fun i s₂ h₂ => ?_) fun _ _ x => x) fun _ _ x => x)
  obtain ⟨hT, h₂⟩ := h₂
  unfold subscriptTail
  refine wpAny_bind ?_
  rw [getitemInPython_of_ne hT.not_modules]
  refine wpAny_bind (wpAny_specialOf hT hl ?_)
  have fin : wpAny (model prog w) A (subscripted slice false o i) (fun r s₃ => wpAny (model prog w) A (letTemporaryGo value o r >>= fun _ => pure r) Q E s₃) E s₂ := by
    rw [hs o i]
    exact wpAny_operating (wpAny_mono h₂ (fun r s₃ h₃ => wpAny_bind (wpAny_letTemporaryGo (wpAny_pure h₃))) fun _ _ x => x)
  first
    | exact wpAny_pure (wpAny_bind fin)
    | exact wpAny_bind (wpAny_pure (wpAny_bind fin))
    | exact wpAny_bind fin
theorem dict_typeIs {X : Cx} {pins : List (Addr × Obj)} {σ : St} {H : Hp} {s : Shared} {a : Addr} {y : V} {o : Option V} (I : Inv X pins σ H s) (g : DGet H a y o) : s.TypeIs (.ref a) "dict" := by
  rcases g with ⟨kvs, k, e, _, _⟩ | ⟨kvs, k, b, e, _, _, _⟩
  · obtain ⟨_, _, vs, _, dd⟩ := dk_rd I.hok e
    exact dd.typeIs
  · obtain ⟨_, _, xs, _, dd⟩ := dt_rd I.hok e
    exact dd.typeIs
def tDGet (td ty : TE) : TE := fun σ H Q => td σ H fun x H1 => ty σ H1 fun y H2 => ∃ a v, x = .ref a ∧ DGet H2 a y (some v) ∧ Q v H2
def tDIn (ty td : TE) : TE := fun σ H Q => ty σ H fun y H1 => td σ H1 fun x H2 => ∃ a o, x = .ref a ∧ DGet H2 a y o ∧ Q (.bl o.isSome) H2
def tDNotIn (ty td : TE) : TE := fun σ H Q => ty σ H fun y H1 => td σ H1 fun x H2 => ∃ a o, x = .ref a ∧ DGet H2 a y o ∧ Q (.bl (!o.isSome)) H2
def sDPut (td ty tv : TE) : TS := fun D σ H => tv σ H fun v H1 => td σ H1 fun x H2 => ty σ H2 fun y H3 => ∃ a H4, x = .ref a ∧ DPut H3 a y v H4 ∧ D.nx σ H4
def sDAug (td ty tv : TE) (rd : V → V → Hp → VK → Prop) : TS := fun D σ H => td σ H fun x H1 => ty σ H1 fun y H2 => ∃ a v, x = .ref a ∧ DGet H2 a y (some v) ∧
  tv σ H2 fun y2 H3 => rd v y2 H3 fun z H4 => ∃ H5, DPut H4 a y z H5 ∧ D.nx σ H5
def sDDel (td ty : TE) : TS := fun D σ H => td σ H fun x H1 => ty σ H1 fun y H2 => ∃ a kvs k, x = .ref a ∧ H2 a = some (.dK kvs) ∧ y = kV k ∧ (valV kvs k).isSome = true ∧ D.nx σ (upd H2 a (.dK (dropK kvs k)))
section
variable {X : Cx} {o i e value : Expr} {pos pos' tpos : Pos} {td ty tv : TE}
theorem pe_dget (hu : X.A.units + 1 < cLine) (ho : PE X o td) (hi : PE X i ty) (hs : NoSl i) : PE X (.Subscript o i pos) (tDGet td ty) := by
  intro pins s σ H Q I h
  refine subD_of PySem.F.slot_dict_getitem.lookup hs (thn (ho pins s σ H _ I h) fun u s1 ⟨x, H1, I1, rx, q1⟩ => thn (hi pins s1 σ H1 _ I1 q1) fun iv s2 ⟨y, H2, I2, ry, a, v, ex, g, q2⟩ => ?_)
  subst ex
  obtain rfl : u = Value.ref a := rx
  exact ⟨dict_typeIs I2 g, d_getItem hu I2 g ry fun w' s3 I3 rw' => ⟨v, H2, I3, rw', q2⟩⟩
theorem pc_din (hu : X.A.units + 1 < cLine) (hi : PE X i ty) (ho : PE X o td) : PC X .In i o (tDIn ty td) := by
  intro pins s σ H Q I h
  refine thn (hi pins s σ H _ I h) fun iv s1 ⟨y, H1, I1, ry, q1⟩ => thn (ho pins s1 σ H1 _ I1 q1) fun u s2 ⟨x, H2, I2, rx, a, ov, ex, g, q2⟩ => ?_
  subst ex
  obtain rfl : u = Value.ref a := rx
  exact d_in hu I2 g ry fun s3 I3 => ⟨.bl ov.isSome, H2, I3, rfl, q2⟩
theorem ps_dput (hu : X.A.units + 1 < cLine) (ho : PE X o td) (hi : PE X i ty) (hv : PE X value tv) (hs : swapsWith value (some (.Subscript o i pos')) pos.line X.env = pure false) :
    PS X (.Assign [.Subscript o i pos'] value pos) (sDPut td ty tv) := by
  intro pins s σ H D I h
  refine wpAny_Assign_Subscript (thn (hv pins s σ H _ I h) fun r s1 ⟨v, H1, I1, rv, q1⟩ => thn (ho pins s1 σ H1 _ I1 q1) fun u s2 ⟨x, H2, I2, rx, q2⟩ => thn (hi pins s2 σ H2 _ I2 q2) fun iv s3 ⟨y, H3, I3, ry, a, H4, ex, g, q3⟩ => ?_) hs
  subst ex
  obtain rfl : u = Value.ref a := rx
  exact d_setItem hu I3 g ry rv fun s4 I4 => ⟨σ, H4, I4, q3⟩
end
theorem dk_empty {P : Program} {w : World} {H : Hp} (h : Heap) (hb : sysModules < h.objs.size) : ObjOk P w H (h.push { cls := .type "dict", data := .dict #[] }) h.objs.size (.dK []) :=
  ⟨Nat.zero_le _, beq_eq_false_iff_ne.mpr (Ne.symm (Nat.ne_of_lt hb)), [], .nil, Heap.DictOf.new h⟩
def tDNewK : TE := fun _ H Q => ∀ p, H p = none → Q (.ref p) (upd H p (.dK []))
def tDNewT : TE := fun _ H Q => ∀ p, H p = none → Q (.ref p) (upd H p (.dT []))
section
variable {X : Cx} {pos : Pos}
end
def tPairs : List (TE × TE) → St → Hp → (List (V × V) → Hp → Prop) → Prop
  | [], _, H, Q => Q [] H
  | (tk, tv) :: r, σ, H, Q => tk σ H fun x H1 => tv σ H1 fun y H2 => tPairs r σ H2 fun ps H3 => Q ((x, y) :: ps) H3
abbrev VV : List (V × V) → List (Value × Value) → Prop := Paired fun p q => RelV p.1 q.1 ∧ RelV p.2 q.2
def PPs (X : Cx) (pos : Pos) (keys : List (Option Expr)) (values : List Expr) (trs : List (TE × TE)) : Prop :=
  ∀ (pins : List (Addr × Obj)) (s : Shared) (σ : St) (H : Hp) (Q : List (V × V) → Hp → Prop), Inv X pins σ H s → tPairs trs σ H Q →
    wpAny (model X.prog X.w) X.A (evalPairs (pairTrees keys values X.env pos)) (fun vs s' => ∃ ps H', Inv X pins σ H' s' ∧ VV ps vs ∧ Q ps H') X.xe s
theorem pps_nil {X : Cx} {pos : Pos} : PPs X pos [] [] [] := fun pins s σ H Q I h => pairTrees_nil_walk ⟨[], H, I, .nil, h⟩
theorem pps_cons {X : Cx} {pos : Pos} {k v : Expr} {ks : List (Option Expr)} {vs : List Expr} {tk tv : TE} {trs : List (TE × TE)} (hk : PE X k tk) (hv : PE X v tv) (hr : PPs X pos ks vs trs) :
    PPs X pos (some k :: ks) (v :: vs) ((tk, tv) :: trs) := fun pins s σ H Q I h =>
  pairTrees_cons_walk (thn (hk pins s σ H _ I h) fun u s1 ⟨x, H1, I1, rx, q1⟩ => thn (hv pins s1 σ H1 _ I1 q1) fun w2 s2 ⟨y, H2, I2, ry, q2⟩ =>
    thn (hr pins s2 σ H2 _ I2 q2) fun ws s3 ⟨ps, H3, I3, rel, q3⟩ => ⟨(x, y) :: ps, H3, I3, .cons ⟨rx, ry⟩ rel, q3⟩)
def mergeK (kvs more : List (Key × V)) : List (Key × V) := more.foldl (fun acc kv => putK acc kv.1 kv.2) kvs
theorem KV.merge : ∀ {more : List (Key × V)} {rs : List (Key × Value)} {kvs : List (Key × V)} {vs : List (Key × Value)}, KV more rs → KV kvs vs → KV (mergeK kvs more) (merged vs rs) := by
  intro more rs kvs vs r
  unfold KV at r
  induction r generalizing kvs vs with
  | nil => intro q; exact q
  | @cons p q ps qs h t ih =>
    intro r0
    have e : KV (putK kvs p.1 p.2) (stored vs q.1 q.2) := by
      have := r0.put p.1 h.2
      rw [← h.1]; exact this
    exact ih e
theorem length_mergeK : ∀ (more kvs : List (Key × V)), (mergeK kvs more).length ≤ kvs.length + more.length
  | [], kvs => by show kvs.length ≤ kvs.length + 0; omega
  | p :: r, kvs => by
    have h1 := length_mergeK r (putK kvs p.1 p.2)
    have h2 := length_putK kvs p.1 p.2
    show (mergeK (putK kvs p.1 p.2) r).length ≤ _
    rw [List.length_cons]; omega
theorem carries_of {P : Program} {w : World} : ∀ {kvs : List (Key × V)} {ws : List (Value × Value)}, VV (kvs.map fun kv => (kV kv.1, kv.2)) ws → ∃ rs, Carries (mixKind P w) ws rs ∧ KV kvs rs
  | [], _, r => by rw [List.map_nil] at r; cases r; exact ⟨[], True.intro, .nil⟩
  | p :: kvs, _, r => by
    rw [List.map_cons] at r
    cases r with
    | @cons a b as bs h t =>
      obtain ⟨rs, c, q⟩ := carries_of (P := P) (w := w) t
      obtain ⟨b1, b2⟩ := b
      exact ⟨(p.1, b2) :: rs, ⟨kV_is h.1, rfl, c⟩, .cons ⟨rfl, h.2⟩ q⟩
def tDisp (trs : List (TE × TE)) : TE := fun σ H Q => ∀ p, H p = none → tPairs trs σ (upd H p (.dK [])) fun ps H2 => H2 p = some (.dK []) ∧ ∃ kvs : List (Key × V), ps = kvs.map (fun kv => (kV kv.1, kv.2)) ∧ kvs.length ≤ 15 ∧ Q (.ref p) (upd H2 p (.dK (mergeK [] kvs)))
theorem pe_disp {X : Cx} {pos : Pos} {keys : List (Option Expr)} {values : List Expr} {trs : List (TE × TE)} (h : PPs X pos keys values trs) (hall : keys.all (·.isSome) = true) (hl : keys.length = values.length) (h0 : keys ≠ [])
    (h15 : keys.length ≤ 15) : PE X (.Dict keys values pos) (tDisp trs) := by
  intro pins s σ H Q I q
  have hn := I.hok.fresh (Nat.le_refl s.heap.objs.size)
  have I1 := I.laid (a := s.heap.objs.size) (o := .dK []) (h' := s.heap.push { cls := .type "dict", data := .dict #[] }) (t' := s.toks) (fun _ _ q => Heap.get?_push_of_some _ q) (Nat.le_refl _) (dk_empty s.heap I.big)
  refine wpAny_Dict_walk (knd := mixKind X.prog X.w) hall hl h0 h15 (thn (h pins _ σ _ _ I1 (q _ hn)) fun ws s2 ⟨ps, H2, I2, rel, e, kvs, ep, lk, q2⟩ => ?_)
  subst ep
  obtain ⟨rs, c, rk⟩ := carries_of (P := X.prog) (w := X.w) rel
  obtain ⟨z, hd, vs0, r0, dd⟩ := dk_of I2.hok e
  cases r0
  refine ⟨rs, c, dd, fun h' dd' hs => ⟨.ref s.heap.objs.size, _, ?_, rfl, q2⟩⟩
  have hz : (mergeK [] kvs).length ≤ sizeLine := by
    have h1 := length_mergeK kvs []
    rw [List.length_nil] at h1
    rw [sizeLine_eq]; omega
  have he : ∃ q, h'.get? s.heap.objs.size = some q := let ⟨q, _, _, hq, _⟩ := dd'; ⟨q, hq⟩
  exact d_write I2 (by rw [e]; exact True.intro) hs he (dk_new hz hd (rk.merge .nil) dd')
structure M1 (X : Cx) (o : Expr) (m : Str) (apos : Pos) (e : Expr) (cpos : Pos) : Prop where
  base : attributeBase o m X.env (eval o X.env) = eval o X.env
  few : ((backTo cpos (starEach [e] X.env)).all (fun x => !x.1) && (backToKw cpos (keywordEach [] X.env)).all (fun x => x.1.isSome)
    && decide (([e] : List Expr).length + ([] : List Keyword).length + (if ([] : List Keyword).isEmpty then 0 else 1) < 30)) = true
  line : (apos.endLine == cpos.line) = true
  trees : backTo cpos (starEach [e] X.env) = [(false, eval e X.env)]
structure M2 (X : Cx) (o : Expr) (m : Str) (apos : Pos) (e f : Expr) (cpos : Pos) : Prop where
  base : attributeBase o m X.env (eval o X.env) = eval o X.env
  few : ((backTo cpos (starEach [e, f] X.env)).all (fun x => !x.1) && (backToKw cpos (keywordEach [] X.env)).all (fun x => x.1.isSome)
    && decide (([e, f] : List Expr).length + ([] : List Keyword).length + (if ([] : List Keyword).isEmpty then 0 else 1) < 30)) = true
  line : (apos.endLine == cpos.line) = true
  trees : backTo cpos (starEach [e, f] X.env) = [(false, eval e X.env), (false, eval f X.env)]
def IsD (H : Hp) (a : Addr) : Prop := (∃ kvs, Rd H a (.dK kvs)) ∨ ∃ kvs, Rd H a (.dT kvs)
section
variable {X : Cx} {pins : List (Addr × Obj)} {σ : St} {H : Hp} {s : Shared} {a : Addr} {y d : V} {u r : Value} {o : Option V} {A : Around} {E : Value → Shared → Prop}
end
def tDGet1 (td ty : TE) : TE := fun σ H Q => td σ H fun x H1 => ∃ a, x = .ref a ∧ IsD H1 a ∧ ty σ H1 fun y H2 => ∃ o, DGet H2 a y o ∧ Q (o.getD .non) H2
def tDGet2 (td ty tx : TE) : TE := fun σ H Q => td σ H fun x H1 => ∃ a, x = .ref a ∧ IsD H1 a ∧ ty σ H1 fun y H2 => tx σ H2 fun z H3 => ∃ o, DGet H3 a y o ∧ Q (o.getD z) H3
def tDPop1 (td ty : TE) : TE := fun σ H Q => td σ H fun x H1 => ∃ a, x = .ref a ∧ IsD H1 a ∧ ty σ H1 fun y H2 => ∃ kvs k v, H2 a = some (.dK kvs) ∧ y = kV k ∧ valV kvs k = some v ∧ Q v (upd H2 a (.dK (dropK kvs k)))
def tDPop2 (td ty tx : TE) : TE := fun σ H Q => td σ H fun x H1 => ∃ a, x = .ref a ∧ IsD H1 a ∧ ty σ H1 fun y H2 => tx σ H2 fun z H3 => ∃ kvs k, H3 a = some (.dK kvs) ∧ y = kV k ∧
  (∀ v, valV kvs k = some v → Q v (upd H3 a (.dK (dropK kvs k)))) ∧ (valV kvs k = none → Q z H3)
section
variable {X : Cx} {o e f : Expr} {apos cpos : Pos} {td ty tx : TE}
end
section
variable {X : Cx} {pins : List (Addr × Obj)} {σ : St} {H : Hp} {s : Shared} {a : Addr} {kvs : List (Key × V)} {A : Around} {E : Value → Shared → Prop}
end
section
variable {X : Cx} {pins : List (Addr × Obj)} {σ : St} {H : Hp} {s : Shared} {a : Addr} {y : V} {u : Value} {A : Around} {E : Value → Shared → Prop}
end
end L2
namespace L2
open PySem PySem.Spec PyProof.Rows
section
variable {κ : Type} [DecidableEq κ]
theorem nd_snoc : ∀ {l : List κ} {k : κ}, l.Nodup → ¬ k ∈ l → (l ++ [k]).Nodup
  | [], k, _, _ => by simp
  | a :: r, k, h, hk => by
    obtain ⟨h1, h2⟩ := List.nodup_cons.mp h
    show (a :: (r ++ [k])).Nodup
    refine List.nodup_cons.mpr ⟨fun m => ?_, nd_snoc h2 fun m => hk (List.mem_cons.mpr (Or.inr m))⟩
    rcases List.mem_append.mp m with q | q
    · exact h1 q
    · exact hk (List.mem_cons.mpr (Or.inl (List.mem_singleton.mp q).symm))
end
end L2
namespace L2
open PySem PySem.Spec PyProof.Rows
def cxC (X : Cx) (N : List Str) (scope : Scope) (cl : List (Str × Addr)) (C : Addr) (s0 : Shared) (H0 : Hp) (ex : List Addr) : Cx :=
  { X with N := N, s₀ := s0, H₀ := H0, env := compEnvC scope cl C X.env, outer := X.stack, stack := X.stack, ex := ex, fn := fun _ => false, pn := [], xe := fun _ _ => False }
theorem closure_ok {env : Env} (has : ∀ x, (env.kindOf x = some .cell ∨ env.kindOf x = some .free) → ∃ c, env.cells.lookup x = some c) {scope : Scope}
    (hf : ∀ y ∈ scope.names, y.2 = .free → env.kindOf y.1 = some .cell ∨ env.kindOf y.1 = some .free) :
    ∃ cl, closureFor scope env = pure cl ∧ (∀ x c, cl.lookup x = some c → env.cells.lookup x = some c) ∧ (∀ y ∈ scope.names, y.2 = .free → ∃ c, cl.lookup y.1 = some c) := by
  have gen : ∀ (names : List (Str × NameKind)) (cs : List (Str × Addr)), (∀ y ∈ names, y.2 = .free → env.kindOf y.1 = some .cell ∨ env.kindOf y.1 = some .free) →
      (∀ x c, cs.lookup x = some c → env.cells.lookup x = some c) →
      ∃ cl, (forIn (m := Sem) names cs fun p r => do
          match p with
          | (name, kind) => if kind == .free then do let c ← cellOf env name; pure (ForInStep.yield ((name, c) :: r)) else pure (ForInStep.yield r)) = pure cl ∧
        (∀ x c, cl.lookup x = some c → env.cells.lookup x = some c) ∧ (∀ x c, cs.lookup x = some c → ∃ c, cl.lookup x = some c) ∧ (∀ y ∈ names, y.2 = .free → ∃ c, cl.lookup y.1 = some c) := by
    intro names
    induction names with
    | nil => intro cs _ h; exact ⟨cs, rfl, h, fun x c e => ⟨c, e⟩, fun y hy => nomatch hy⟩
    | cons p r ih =>
      intro cs hp h
      obtain ⟨n, k⟩ := p
      by_cases hk : k = .free
      · subst hk
        obtain ⟨c, hc⟩ := has n (hp (n, .free) List.mem_cons_self rfl)
        have h' : ∀ x d, ((n, c) :: cs).lookup x = some d → env.cells.lookup x = some d := by
          intro x d e
          rw [List.lookup_cons] at e
          cases hx : x == n with
          | true =>
            rw [hx] at e
            have : x = n := by simpa using hx
            cases e; rw [this]; exact hc
          | false => rw [hx] at e; exact h x d e
        obtain ⟨cl, e1, e2, e3, e4⟩ := ih ((n, c) :: cs) (fun y hy => hp y (List.mem_cons_of_mem _ hy)) h'
        have hn : ∃ d, cl.lookup n = some d := e3 n c (by simp [List.lookup_cons])
        refine ⟨cl, ?_, e2, fun x d e => ?_, fun y hy hyk => ?_⟩
        · rw [List.forIn_cons]
          have : cellOf env n = pure c := by unfold cellOf; rw [hc]
          simp only [beq_self_eq_true, if_true, this]
          exact e1
        · by_cases hx : x = n
          · subst hx; exact hn
          · exact e3 x d (by rw [List.lookup_cons]; have : (x == n) = false := by simpa using hx
                             rw [this]; exact e)
        · rcases List.mem_cons.mp hy with rfl | hy
          · exact hn
          · exact e4 y hy hyk
      · obtain ⟨cl, e1, e2, e3, e4⟩ := ih cs (fun y hy => hp y (List.mem_cons_of_mem _ hy)) h
        refine ⟨cl, ?_, e2, e3, fun y hy hyk => ?_⟩
        · rw [List.forIn_cons]
          have : (k == NameKind.free) = false := by simpa using hk
          simp only [this]
          exact e1
        · rcases List.mem_cons.mp hy with rfl | hy
          · exact absurd hyk hk
          · exact e4 y hy hyk
  obtain ⟨cl, e1, e2, _, e4⟩ := gen scope.names [] hf (fun x c e => nomatch e)
  refine ⟨cl, ?_, e2, e4⟩
  unfold closureFor
  simp only []
  exact congrArg (· >>= fun cs => pure cs) e1 |>.trans rfl
end L2
namespace L2
open PySem PySem.Spec PyProof.Rows
theorem relabel_kind {scope : Scope} {env : Env} {x : Str} {k : NameKind} (h : (relabel scope env).names.lookup x = some k) (hk : k = .cell ∨ k = .free) (nc : ∀ y ∈ scope.names, y.2 ≠ .cell) : ∃ y ∈ scope.names, y.1 = x ∧ y.2 = .free := by
  have gen : ∀ names : List (Str × NameKind), (names.map fun (n, k) => if (k == NameKind.free && env.scope.kind == .function && env.kindOf n == some .cell) then (n, NameKind.cell) else (n, k)).lookup x = some k → (∀ y ∈ names, y.2 ≠ .cell) →
      ∃ y ∈ names, y.1 = x ∧ y.2 = .free := by
    intro names
    induction names with
    | nil => intro h _; cases h
    | cons p r ih =>
      obtain ⟨n, j⟩ := p
      intro h nc
      rw [List.map_cons, List.lookup_cons] at h
      have e1 : (if (j == NameKind.free && env.scope.kind == .function && env.kindOf n == some .cell) = true then (n, NameKind.cell) else (n, j)).1 = n := by split <;> rfl
      dsimp only at h
      rw [e1] at h
      cases hx : x == n with
      | false =>
        rw [hx] at h
        obtain ⟨y, hy, q⟩ := ih h fun y hy => nc y (List.mem_cons_of_mem _ hy)
        exact ⟨y, List.mem_cons_of_mem _ hy, q⟩
      | true =>
        rw [hx] at h
        have ex : x = n := by simpa using hx
        have hj : j = .free := by
          by_cases hc : (j == NameKind.free && env.scope.kind == .function && env.kindOf n == some .cell) = true
          · have := (Bool.and_eq_true _ _).mp ((Bool.and_eq_true _ _).mp hc).1
            simpa using this.1
          · rw [if_neg hc] at h
            cases h
            rcases hk with z | z
            · exact absurd z (nc (n, j) List.mem_cons_self)
            · exact z
        exact ⟨(n, j), List.mem_cons_self, ex.symm, hj⟩
  exact gen scope.names h nc
section
variable {X : Cx} {pins : List (Addr × Obj)} {σ : St} {H : Hp} {s : Shared} {N : List Str} {scope : Scope} {cl : List (Str × Addr)} {C : Addr} {ex : List Addr}
theorem cxC_ok (I : Inv X pins σ H s) (hC : s.heap.objs.size ≤ C) (hkind : scope.kind = .function) (nc : ∀ y ∈ scope.names, y.2 ≠ .cell)
    (hcl : ∀ x c, cl.lookup x = some c → X.env.cells.lookup x = some c) (hcf : ∀ y ∈ scope.names, y.2 = .free → ∃ c, cl.lookup y.1 = some c)
    (hex : ∀ b ∈ ex, FpOk X pins H b) (hexl : ∀ b ∈ ex, b < s.heap.objs.size) : (cxC X N scope cl C s H ex).Ok where
  mod := I.ok.mod
  kind := hkind
  glob := I.ok.glob
  blt := I.ok.blt
  above := hC
  inj := fun x y c h1 h2 => I.ok.inj x y c (hcl x c h1) (hcl y c h2)
  has := fun x hx => by
    have hx' : ∃ k, (relabel scope X.env).names.lookup x = some k ∧ (k = .cell ∨ k = .free) := by
      rcases hx with h | h
      · exact ⟨_, h, .inl rfl⟩
      · exact ⟨_, h, .inr rfl⟩
    obtain ⟨k, h, hk⟩ := hx'
    obtain ⟨y, hy, e1, e2⟩ := relabel_kind h hk nc
    rw [← e1]
    exact hcf y hy e2
  cab := fun x c h => by cases h
  hd := I.ok.hd
  frames := I.ok.frames
  stk := .inl rfl
  exf := fun b hb => ⟨Nat.ne_of_lt (Nat.lt_of_lt_of_le (hexl b hb) hC), fun x c e => (hex b hb).2.2.2.2.1 x c (hcl x c e)⟩
  bs := I.bs
  bsz := Nat.le_trans I.ok.bsz I.sz
  noex := fun b o e hb => by
    rcases (hex b hb).2.2.2.1 with z | z
    · exact I.ok.noex b o e z
    · have h1 := Heap.lt_size e
      have h2 := I.ok.bsz
      exact absurd (Nat.lt_of_lt_of_le h1 (Nat.le_trans h2 z)) (Nat.lt_irrefl _)
  exfs := fun b hb z => by
    have h1 := I.stkSub b z
    rcases List.mem_cons.mp h1 with z | z
    · exact (hex b hb).2.1 z
    · exact (hex b hb).2.2.1 z
  funs := I.stack
  frf := I.stkFree
def capV (caps : List Nat) (σ : St) : St := caps.map fun j => (σ[j]?).join
def cSt (n : Nat) (caps : List Nat) (σ : St) : St := List.replicate n none ++ capV caps σ
theorem cxC_inv {caps : List Nat} {Nt Nf : List Str} {s1 : Shared} {m : Str → Option Value} (I : Inv X pins σ H s) (ok : (cxC X (Nt ++ Nf) scope cl C s H ex).Ok)
    (hcl : ∀ x c, cl.lookup x = some c → X.env.cells.lookup x = some c)
    (hcap : caps.map (fun j => X.N[j]?) = Nf.map some)
    (hvis : ∀ x ∈ Nf, scope.names.lookup x = some .free) (hXv : ∀ x ∈ Nf, X.env.kindOf x = some .cell ∨ X.env.kindOf x = some .free) (hcf : ∀ x ∈ Nf, ∃ c, cl.lookup x = some c)
    (hos : s1.os = s.os) (hgens : s1.gens = s.gens) (hk : ∀ b o, s.heap.get? b = some o → s1.heap.get? b = some o) (hns : s1.heap.Ns C m) (hC : s.heap.objs.size ≤ C) :
    Inv (cxC X (Nt ++ Nf) scope cl C s H ex) [] (cSt Nt.length caps σ) H s1 := by
  have hlen : caps.length = Nf.length := by
    have := congrArg List.length hcap
    simpa using this
  refine ⟨ok, hos, by rw [hgens]; exact I.bare, Un.kept hk, ⟨m, hns, fun i x v h1 h2 h3 => ?_⟩, fun x c e => ?_, I.hok.fresh hC, fun x c e => I.freeC x c (hcl x c e), fun p hp => absurd (show p ∈ ([] : List (Addr × Obj)) from hp) (by simp), I.hok.kept hk, ?_⟩
  · -- a captured name
    have hi : Nt.length ≤ i := by
      refine Nat.le_of_not_lt fun q => ?_
      unfold cSt at h2
      rw [List.getElem?_append_left (by simpa using q), List.getElem?_replicate] at h2
      split at h2 <;> cases h2
    have h1' : Nf[i - Nt.length]? = some x := by
      have : (Nt ++ Nf)[i]? = some x := h1
      rwa [List.getElem?_append_right hi] at this
    unfold cSt at h2
    rw [List.getElem?_append_right (by simpa using hi)] at h2
    have e0 : i - (List.replicate Nt.length (none : Option V)).length = i - Nt.length := by simp
    rw [e0] at h2
    generalize hj : i - Nt.length = j at h1' h2
    unfold capV at h2
    rw [List.getElem?_map] at h2
    cases hc : caps[j]? with
    | none => rw [hc] at h2; cases h2
    | some jj =>
      rw [hc] at h2
      have h2' : (σ[jj]?).join = some v := Option.some.inj h2
      have h2'' : σ[jj]? = some (some v) := by
        cases q : σ[jj]? with
        | none => rw [q] at h2'; cases h2'
        | some z => rw [q] at h2'; cases z with
          | none => cases h2'
          | some z' => cases h2'; rfl
      have hN : X.N[jj]? = some x := by
        have q := congrArg (fun l => l[j]?) hcap
        simp only [List.getElem?_map, hc, h1', Option.map_some] at q
        exact Option.some.inj q
      have hx : x ∈ Nf := List.mem_of_getElem? h1'
      have hXk := hXv x hx
      obtain ⟨mX, _, hl⟩ := I.loc
      obtain ⟨u, ru, lk⟩ := hl jj x v hN h2'' (by
        rcases hXk with z | z
        · exact .inr (.inl z)
        · exact .inr (.inr z))
      refine ⟨u, ru, .inr ?_⟩
      rcases lk with ⟨z, _⟩ | ⟨_, c, hc1, hcell⟩
      · rcases hXk with y | y <;> (rw [z] at y; cases y)
      · obtain ⟨c', hc'⟩ := hcf x hx
        have e := hcl x c' hc'
        rw [hc1] at e; cases e
        refine ⟨?_, c, hc', ?_⟩
        · rcases h3 with z | z | z
          · -- not a local of the block
            exfalso
            have hfree := hvis x hx
            have z' : (relabel scope X.env).names.lookup x = some .local := z
            have gen : ∀ names : List (Str × NameKind), names.lookup x = some .free → (names.map fun (n, k) => if (k == NameKind.free && X.env.scope.kind == .function && X.env.kindOf n == some .cell) then (n, NameKind.cell) else (n, k)).lookup x ≠ some .local := by
              intro names
              induction names with
              | nil => intro h; cases h
              | cons p r ih =>
                obtain ⟨n, k⟩ := p
                intro h
                rw [List.map_cons, List.lookup_cons]
                rw [List.lookup_cons] at h
                have e1 : (if (k == NameKind.free && X.env.scope.kind == .function && X.env.kindOf n == some .cell) = true then (n, NameKind.cell) else (n, k)).1 = n := by split <;> rfl
                dsimp only
                rw [e1]
                cases hx : x == n with
                | false => rw [hx] at h; exact ih h
                | true =>
                  rw [hx] at h
                  cases h
                  show some (if _ then (n, NameKind.cell) else (n, NameKind.free)).2 ≠ some .local
                  split <;> (intro q; cases q)
            exact gen scope.names hfree z'
          · exact .inl z
          · exact .inr z
        · obtain ⟨o, eo, d⟩ := hcell
          exact ⟨o, hk _ _ eo, d⟩
  · obtain ⟨v, q⟩ := I.cell x c (hcl x c e)
    obtain ⟨o, eo, d⟩ := q
    exact ⟨v, o, hk _ _ eo, d⟩
  · show (cSt Nt.length caps σ).length = (Nt ++ Nf).length
    unfold cSt capV
    simp [hlen]
end
end L2
namespace L2
open PySem PySem.Spec PyProof.Rows
abbrev askIfs (ifs : List Expr) (env : Env) : Sem Bool := forIn ifs true fun c r => if r = true then do let ok ← isTrue c env (eval c env); pure (ForInStep.yield ok) else pure (ForInStep.yield r)
abbrev NoX : Value → Shared → Prop := fun _ _ => False
theorem compLoop_any {P : Program} {w : World} {B : Around} {R : Result → Shared → Prop} {s : Shared} {y tg l : Expr} {cs : List Expr} {sc : Scope} {ps : Pos} {iv av : Value} {en : Env} (G : Nat → Shared → Prop)
    (one : ∀ n s, G n s → wpAny (model P w) B (pyNext iv) (fun r s1 => match r with
      | none => R (.ok .next) s1
      | some v => wpAny (model P w) B (letOwnedTupleGo tg iv v) (fun _ s1 => wpAny (model P w) B (assign tg en v) (fun _ s2 => wpAny (model P w) B (askIfs cs en) (fun k s3 =>
            if k = true then wpAny (model P w) B (eval y en) (fun x s4 => wpAny (model P w) B (call (.builtin "list.append") [av, x]) (fun _ s5 => ∃ m, m < n ∧ G m s5) NoX s4) NoX s3
            else ∃ m, m < n ∧ G m s3) NoX s2) NoX s1) NoX s1) NoX s) (n : Nat) (h : G n s) :
    codeAny (model P w) B (.compLoop (.ListComp y [⟨tg, l, cs, 0⟩] sc ps) 0 iv av en) R s := by
  refine codeAny_loop rfl G (fun n s hG => ?_) n h
  show wpAny _ B ((compTurn (.ListComp y [⟨tg, l, cs, 0⟩] sc ps) 0 iv av en).onRaise (fun x => do noteFrame x en; theTreesLotGoes x)) _ _ s
  refine wpAny_noted ?_
  rw [compTurn_list]
  refine wpAny_bind (wpAny_standAt (wpAny_bind (wpAny_mono (one n s hG) (fun r s1 h1 => ?_) fun _ _ z => z.elim)))
  cases r with
  | none => exact wpAny_pure h1
  | some v =>
    refine wpAny_bind (wpAny_mono h1 (fun _ s1' h1' => ?_) fun _ _ z => z.elim)
    refine wpAny_bind (wpAny_mono h1' (fun _ s2 h2 => wpAny_bind (wpAny_mono h2 (fun k s3 h3 => ?_) fun _ _ z => z.elim)) fun _ _ z => z.elim)
    cases k with
    | false => exact wpAny_pure ⟨rfl, h3⟩
    | true => exact wpAny_bind (wpAny_bind (wpAny_mono h3 (fun x s4 h4 => wpAny_bind (wpAny_mono h4 (fun _ s5 h5 => wpAny_pure (wpAny_pure ⟨rfl, h5⟩)) fun _ _ z => z.elim)) fun _ _ z => z.elim))
def PTs (X : Cx) (ifs : List Expr) (t : TT) : Prop :=
  ∀ (pins : List (Addr × Obj)) (s : Shared) (σ : St) (H : Hp) (Q : Bool → Hp → Prop), Inv X pins σ H s → t σ H Q →
    wpAny (model X.prog X.w) X.A (askIfs ifs X.env) (TP X pins σ Q) X.xe s
def tNoIf : TT := fun _ H Q => Q true H
theorem pts_nil {X : Cx} : PTs X [] tNoIf := fun pins s σ H Q I h => wpAny_tests_nil ⟨H, I, h⟩
theorem pts_one {X : Cx} {c : Expr} {t : TT} (h : PT X c t) : PTs X [c] t := fun pins s σ H Q I q => wpAny_tests_one (h pins s σ H Q I q)
section
variable {X : Cx} {pins : List (Addr × Obj)} {σ : St} {H : Hp} {s : Shared}
theorem Inv.adopt {D : Addr} {o : HO} (I : Inv X pins σ H s) (hD : H D = none) (h1 : X.s₀.heap.objs.size ≤ D) (h2 : D ≠ X.env.locals) (h3 : ∀ x c, X.env.cells.lookup x = some c → c ≠ D) (h4 : ∀ p ∈ X.pn ++ pins, p.1 ≠ D)
    (new : ObjOk X.prog X.w (upd H D o) s.heap D o) : Inv X pins σ (upd H D o) s := by
  have old : ∀ {b : Addr} {q : Obj}, X.s₀.heap.get? b = some q → b ≠ D := fun e => Nat.ne_of_lt (Nat.lt_of_lt_of_le (Heap.lt_size e) h1)
  refine ⟨I.ok, I.os, I.bare, ⟨I.base.keep, I.base.slot, fun b q e n hx => by rw [upd_ne (old e)]; exact I.base.free b q e n hx, I.base.there, fun b xs e => ?_, fun b q u e => ?_, fun b ps e => ?_⟩, I.loc, I.cell, by rw [upd_ne (Ne.symm h2)]; exact I.free, fun x c e => by rw [upd_ne (h3 x c e)]; exact I.freeC x c e, fun p hp => ?_, fun b u e => ?_, I.len⟩
  · have e' := I.base.tups b xs e
    rw [upd_ne (ne_of_none e' hD)]; exact e'
  · have e' := I.base.frzs b q u e
    rw [upd_ne (ne_of_none e' hD)]; exact e'
  · obtain ⟨more, e'⟩ := I.base.tbls b ps e
    exact ⟨more, by rw [upd_ne (ne_of_none e' hD)]; exact e'⟩
  · obtain ⟨a1, a2, a3, a4, a5⟩ := I.pin p hp
    exact ⟨a1, by rw [upd_ne (h4 p hp)]; exact a2, a3, a4, a5⟩
  · by_cases hb : b = D
    · subst hb; rw [upd_same] at e; cases e; exact new
    · rw [upd_ne hb] at e
      exact (I.hok b u e).stay (fun c v _ q => q) (fun c q => by rw [upd_ne (ne_of_none q hD)]; exact q) fun c xs q => by rw [upd_ne (ne_of_none q hD)]; exact q
def tLC (wi : TI) (g : TG) (tt : TT) (te : TE) (n : Nat) (caps : List Nat) : TE := fun σ H Q => wi σ H fun J H1 => ∃ W : Nat → Nat → List V → St → Hp → Prop, (∃ m, W 0 m [] (cSt n caps σ) H1) ∧ ∀ i m acc σ' H', W i m acc σ' H' →
  (J.stop i H' ∧ ∀ l, H' l = none → Q (.ref l) (upd H' l (.lst acc))) ∨
  (J.go i H' ∧ acc.length < sizeLine ∧ ∃ N : List V → St → Hp → Prop, (∀ ac σ2 H2, N ac σ2 H2 → ∃ m', m' < m ∧ W (i + 1) m' ac σ2 H2) ∧ ∀ x H2, J.yld i H' x H2 → g x σ' H2 fun σ3 H3 => tt σ3 H3 fun b H4 => if b = true then te σ3 H4 fun y H5 => N (acc ++ [y]) σ3 H5 else N acc σ3 H4)
structure CompOk (X : Cx) (scope : Scope) (Nt Nf : List Str) (caps : List Nat) : Prop where
  kind : scope.kind = .function
  nc : ∀ y ∈ scope.names, y.2 ≠ .cell
  nm : ∀ y ∈ scope.names, y.2 = .local → scope.names.lookup y.1 = some .local
  fr : ∀ y ∈ scope.names, y.2 = .free → X.env.kindOf y.1 = some .cell ∨ X.env.kindOf y.1 = some .free
  cap : caps.map (fun j => X.N[j]?) = Nf.map some
  vis : ∀ x ∈ Nf, scope.names.lookup x = some .free
theorem comp_block {tg iter elt : Expr} {ifs : List Expr} {scope : Scope} {pos : Pos} {g : TG} {tt : TT} {te : TE} {Nt Nf : List Str} {caps : List Nat} {cl : List (Str × Addr)} {it : Addr} {fp : List Addr} {tn : Nat → Heap → Prop} {J : It} {Q : VK} {E : Value → Shared → Prop}
    {RR : Value → Addr → Result → Shared → Prop}
    (hc : X.calm = true) (S : CompOk X scope Nt Nf caps)
    (hg : ∀ cl C s0 H0 ex, PG (cxC X (Nt ++ Nf) scope cl C s0 H0 ex) tg g)
    (ht : ∀ cl C s0 H0 ex, PTs (cxC X (Nt ++ Nf) scope cl C s0 H0 ex) ifs tt)
    (he : ∀ cl C s0 H0 ex, PE (cxC X (Nt ++ Nf) scope cl C s0 H0 ex) elt te)
    (hcl : ∀ x c, cl.lookup x = some c → X.env.cells.lookup x = some c) (hcf : ∀ y ∈ scope.names, y.2 = .free → ∃ c, cl.lookup y.1 = some c)
    (I : Inv X pins σ H s) (T : Turn X.prog X.w X.K tg J fp it tn) (st : tn 0 s.heap) (hfp : ∀ b ∈ fp, FpOk X pins H b)
    (hW : ∃ W : Nat → Nat → List V → St → Hp → Prop, (∃ m, W 0 m [] (cSt Nt.length caps σ) H) ∧ ∀ i m acc σ' H', W i m acc σ' H' →
      (J.stop i H' ∧ ∀ l, H' l = none → Q (.ref l) (upd H' l (.lst acc))) ∨
      (J.go i H' ∧ acc.length < sizeLine ∧ ∃ N : List V → St → Hp → Prop, (∀ ac σ2 H2, N ac σ2 H2 → ∃ m', m' < m ∧ W (i + 1) m' ac σ2 H2) ∧ ∀ x H2, J.yld i H' x H2 → g x σ' H2 fun σ3 H3 => tt σ3 H3 fun b H4 => if b = true then te σ3 H4 fun y H5 => N (acc ++ [y]) σ3 H5 else N acc σ3 H4))
    (fin : ∀ D C m s' H', Inv X pins σ H' s' → Q (.ref D) H' → s'.heap.Ns C m → H' C = none → C ≠ X.env.locals → X.s₀.heap.objs.size ≤ C → (∀ x c, X.env.cells.lookup x = some c → c ≠ C) → (∀ p ∈ X.pn ++ pins, p.1 ≠ C) → RR (.ref D) C (.ok .next) s') :
    wpAny (model X.prog X.w) X.A (newList []) (fun acc s₃ => wpAny (model X.prog X.w) X.A (newFunctionEnv scope X.env.globals cl [] X.env.qual none .none (some X.env)) (fun cenv s₄ =>
      codeAny (model X.prog X.w) X.A (.compStart (.ListComp elt [⟨tg, iter, ifs, 0⟩] scope pos) 0 (.ref it) acc { cenv with scope := relabel scope X.env }) (RR acc cenv.locals) s₄) E s₃) E s := by
  obtain ⟨W, ⟨m0, w0⟩, turn⟩ := hW
  refine wpAny_newObj_type (wpAny_newFunctionEnv S.nc (by intro y hy; simp at hy) (fun h₁ hns₁ hsb₁ => ?_) S.kind)
  dsimp only at hns₁ hsb₁ ⊢
  generalize hH2 : s.heap.push { cls := .type "list", dict := none, data := .seq ([] : List Value).toArray } = P2 at hns₁ hsb₁ ⊢
  have hCs : P2.objs.size = s.heap.objs.size + 1 := by rw [← hH2, Heap.size_push]
  have hDC : s.heap.objs.size ≠ P2.objs.size := by rw [hCs]; exact Nat.ne_of_lt (Nat.lt_succ_self _)
  have hCle : s.heap.objs.size ≤ P2.objs.size := by rw [hCs]; exact Nat.le_succ _
  have below : ∀ b, b < s.heap.objs.size → b ≠ P2.objs.size := fun b hb => by rw [hCs]; exact Nat.ne_of_lt (Nat.lt_succ_of_lt hb)
  have old : ∀ b o, s.heap.get? b = some o → h₁.get? b = some o := fun b o e => hsb₁.extBut b o (below b (Heap.lt_size e)) (Heap.get?_push_of_some _ (hH2 ▸ Heap.get?_push_of_some _ e))
  have hacc : h₁.PlainList s.heap.objs.size #[] := ⟨_, hsb₁.extBut _ _ hDC (Heap.get?_push_of_some _ (hH2 ▸ Heap.get?_push_size _ rfl))⟩
  have fpl : ∀ b ∈ fp, b < s.heap.objs.size := fun b hb => by
    obtain ⟨o, e, _⟩ := T.obj _ _ st b hb
    exact Heap.lt_size e
  have st₁ : tn 0 h₁ := T.keep _ _ _ st fun b _ o e => old b o e
  generalize hCe : P2.objs.size = C at hns₁ hsb₁ hDC hCle below ⊢
  generalize hDe : s.heap.objs.size = D at hacc hDC hCle ⊢
  have hDl : X.env.locals < D := by rw [← hDe]; exact I.lt
  have hDs : X.s₀.heap.objs.size ≤ D := by rw [← hDe]; exact I.sz
  have hcD : ∀ x c, X.env.cells.lookup x = some c → c < D := fun x c e => by
    obtain ⟨v, q⟩ := I.cell x c e
    rw [← hDe]; exact q.lt
  have hpD : ∀ p ∈ X.pn ++ pins, p.1 < D := fun p hp => by rw [← hDe]; exact Heap.lt_size (I.pin p hp).1
  let Y : Cx := cxC X (Nt ++ Nf) scope cl C s H fp
  have okY : Y.Ok := cxC_ok I (by rw [hDe]; exact hCle) S.kind S.nc hcl hcf hfp fpl
  have hfsY : ∀ b, b ∈ Y.fs → b < D := fun b hb => by
    rcases List.mem_cons.mp (I.stkSub b hb) with z | z
    · rw [z]; exact hDl
    · refine Nat.lt_of_lt_of_le ?_ hDs
      have := (I.ok.funs.mem z)
      refine Nat.lt_of_not_le fun q => ?_
      exact absurd z (fun z => by
        have := I.nofs (a := b)
        by_cases hb2 : s.heap.objs.size ≤ b
        · exact this hb2 z
        · obtain ⟨_, o, e, _⟩ := I.ok.funs.mem z
          exact absurd (Heap.lt_size e) (Nat.not_lt.mpr q))
  have loop : ∀ s₃ : Shared, s₃ = { s with heap := h₁, toks := s.toks + ([] : List (Str × Value)).length } →
      codeAny (model X.prog X.w) X.A (.compLoop (.ListComp elt [⟨tg, iter, ifs, 0⟩] scope pos) 0 (.ref it) (.ref D) Y.env) (RR (.ref D) C) s₃ := by
    rintro s₃ rfl
    have I0 : Inv Y [] (cSt Nt.length caps σ) H { s with heap := h₁, toks := s.toks + ([] : List (Str × Value)).length } :=
      cxC_inv I okY hcl S.cap S.vis (fun x hx => S.fr (x, .free) (PySem.mem_of_lookup (S.vis x hx)) rfl) (fun x hx => hcf (x, .free) (PySem.mem_of_lookup (S.vis x hx)) rfl) rfl rfl old hns₁ (by rw [hDe]; exact hCle)
    have fpY : ∀ {H' : Hp}, (∀ b ∈ fp, H' b = none) → ∀ b ∈ fp, FpOk Y [] H' b := fun hn b hb =>
      ⟨hn b hb, Nat.ne_of_lt (Nat.lt_of_lt_of_le (fpl b hb) (by rw [hDe]; exact hCle)), okY.exfs b hb, .inl hb, fun x c e => (hfp b hb).2.2.2.2.1 x c (hcl x c e), fun p hp => absurd (show p ∈ ([] : List (Addr × Obj)) from hp) (by simp)⟩
    have fpD : ∀ b ∈ fp, b ≠ D := fun b hb => Nat.ne_of_lt (by rw [← hDe]; exact fpl b hb)
    refine compLoop_any (fun n s' => ∃ i acc its σ' H', Inv Y [] σ' H' s' ∧ tn i s'.heap ∧ (∀ b ∈ fp, H' b = none) ∧ s'.heap.PlainList D its ∧ H' D = none ∧ Vals acc its.toList ∧ acc.length ≤ sizeLine ∧ W i n acc σ' H') ?_ m0
      ⟨0, [], #[], cSt Nt.length caps σ, H, I0, st₁, fun b hb => (hfp b hb).1, hacc, by rw [← hDe]; exact I.hok.fresh (Nat.le_refl _), .nil, Nat.zero_le _, w0⟩
    rintro n s3 ⟨i, acc, its, σ3, H3, I3, st3, fr3, ⟨nd, e3⟩, hD3, rv3, hl3, w3⟩
    have cD : C ≠ D := Ne.symm hDC
    have pinOk : ∀ {H' : Hp} {s' : Shared} {o : Obj}, s'.heap.get? D = some o → H' D = none → (∀ v, o.data ≠ .cell v) → s'.heap.get? D = some o ∧ H' D = none ∧ D ≠ Y.env.locals ∧ D ∉ Y.fs ∧ ∀ v, o.data ≠ .cell v := fun e n d =>
      ⟨e, n, hDC, fun z => absurd (hfsY D z) (Nat.lt_irrefl _), d⟩
    have I3' : Inv Y [(D, { cls := .type "list", data := .seq its nd })] σ3 H3 s3 := I3.pins_of fun p hp => by
      obtain rfl : p = (D, ({ cls := .type "list", data := .seq its nd } : Obj)) := List.mem_singleton.mp hp
      exact pinOk e3 hD3 (fun v z => by cases z)
    have fpY' : ∀ {H' : Hp}, (∀ b ∈ fp, H' b = none) → ∀ b ∈ fp, FpOk Y [(D, { cls := .type "list", data := .seq its nd })] H' b := fun hn b hb => by
      obtain ⟨a1, a2, a3, a4, a5, _⟩ := fpY hn b hb
      refine ⟨a1, a2, a3, a4, a5, fun p hp => ?_⟩
      obtain rfl : p = (D, ({ cls := .type "list", data := .seq its nd } : Obj)) := List.mem_singleton.mp hp
      exact Ne.symm (fpD b hb)
    rcases turn i n acc σ3 H3 w3 with ⟨stop, qn⟩ | ⟨go, hlt, N, hN, step⟩
    · refine thn (T.done Y rfl rfl rfl hc i _ s3 σ3 H3 _ I3' (fpY' fr3) st3 stop) fun r s4 ⟨hr, I4⟩ => ?_
      subst hr
      have e4 := (I4.pin (D, { cls := .type "list", data := .seq its nd }) (List.mem_append_right _ List.mem_cons_self)).1
      have IX : Inv X pins σ H3 s4 := I.call' (ch := fp) I4.os I4.base I4.hok I4.bare fun b hb => by
        obtain ⟨_, a2, _, a4, a5, a6⟩ := hfp b hb
        exact ⟨a4, a2, a5, a6⟩
      have IA := IX.adopt (o := .lst acc) hD3 hDs (Nat.ne_of_gt hDl) (fun x c e => Nat.ne_of_lt (hcD x c e)) (fun p hp => Nat.ne_of_lt (hpD p hp)) ⟨hl3, its.toList, nd, rv3, e4⟩
      obtain ⟨m, nsC, _⟩ := I4.loc
      refine fin D C m s4 _ IA (qn D hD3) nsC (by rw [upd_ne cD]; exact I4.free) ?_ ?_ ?_ ?_
      · exact Nat.ne_of_gt (Nat.lt_of_lt_of_le hDl hCle)
      · exact Nat.le_trans hDs hCle
      · exact fun x c e => Nat.ne_of_lt (Nat.lt_of_lt_of_le (hcD x c e) hCle)
      · exact fun p hp => Nat.ne_of_lt (Nat.lt_of_lt_of_le (hpD p hp) hCle)
    · refine thn (T.item Y rfl rfl rfl hc i _ s3 σ3 H3 _ I3' (fpY' fr3) st3 go) fun r s4 ⟨u, hr, h4⟩ => ?_
      subst hr
      refine thn h4 fun _ s5 ⟨x, H5, I5, r5, y5, st5, fr5⟩ => ?_
      have I5' := I5.pinned (fpY' fr5) (T.obj _ _ st5)
      refine thn (hg cl C s H fp _ s5 σ3 H5 x u _ I5' r5 (step x H5 y5)) fun _ s6 ⟨σ6, H6, I6, q6⟩ => ?_
      refine thn (ht cl C s H fp _ s6 σ6 H6 _ I6 q6) fun b s7 ⟨H7, I7, q7⟩ => ?_
      have back : ∀ {σ' : St} {H' : Hp} {s' : Shared}, Inv Y ([(D, { cls := .type "list", data := .seq its nd })] ++ pinsAt fp s5.heap) σ' H' s' →
          s'.heap.get? D = some { cls := .type "list", data := .seq its nd } ∧ H' D = none ∧ tn (i + 1) s'.heap ∧ ∀ b ∈ fp, H' b = none := fun {σ' H' s'} J7 => by
        have hd := J7.pin (D, { cls := .type "list", data := .seq its nd }) (List.mem_append_right _ (List.mem_append_left _ List.mem_cons_self))
        refine ⟨hd.1, hd.2.1, T.keep _ _ _ st5 fun b hb o e => (J7.pin (b, o) (List.mem_append_right _ (List.mem_append_right _ (mem_pinsAt hb e)))).1, fun b hb => ?_⟩
        obtain ⟨o, e, d⟩ := T.obj _ _ st5 b hb
        exact (J7.pin (b, o) (List.mem_append_right _ (List.mem_append_right _ (mem_pinsAt hb e)))).2.1
      cases b with
      | false =>
        rw [if_neg Bool.false_ne_true]
        rw [if_neg Bool.false_ne_true] at q7
        obtain ⟨m', hm, w7⟩ := hN _ _ _ q7
        obtain ⟨b1, b2, b3, b4⟩ := back I7
        exact ⟨m', hm, i + 1, acc, its, σ6, H7, I7.pins_of (fun p hp => nomatch hp), b3, b4, ⟨nd, b1⟩, b2, rv3, hl3, w7⟩
      | true =>
        rw [if_pos rfl]
        rw [if_pos rfl] at q7
        refine thn (he cl C s H fp _ s7 σ6 H7 _ I7 q7) fun u8 s8 ⟨y, H8, I8, r8, n8⟩ => ?_
        obtain ⟨m', hm, w8⟩ := hN _ _ _ n8
        obtain ⟨b1, b2, b3, b4⟩ := back I8
        have hsz : its.size ≤ sizeLine := by
          have h1 := rv3.length
          have h2 : its.toList.length = its.size := by simp
          omega
        refine wpAny_list_append_plain (hsz := hsz) ⟨nd, b1⟩ fun h' pl' sb' => ?_
        have I8' : Inv Y [] σ6 H8 s8 := I8.pins_of (fun p hp => nomatch hp)
        refine ⟨m', hm, i + 1, acc ++ [y], its.push u8, σ6, H8, I8'.turned (t' := s8.toks) (fun b o hb e => (sb'.2 b hb).trans e) b2 hDC (.inr (by show s.heap.objs.size ≤ D; rw [hDe]; exact Nat.le_refl _)) (fun x c e => Nat.ne_of_lt (hcD x c (hcl x c e))) (fun p hp => absurd (show p ∈ ([] : List (Addr × Obj)) from hp) (by simp)), ?_, b4, pl', b2, ?_, ?_, w8⟩
        · exact T.keep _ _ _ b3 fun b hb o e => (sb'.2 b (fpD b hb)).trans e
        · rw [Array.toList_push]
          exact rv3.append (.cons r8 .nil)
        · rw [List.length_append, List.length_singleton]
          omega
  exact codeAny_compStart_list (loop _ rfl) (T.self _ _ _ _ _ st₁ (loop _ rfl))
theorem pe_lc {tg iter elt : Expr} {ifs : List Expr} {scope : Scope} {pos : Pos} {wi : TI} {g : TG} {tt : TT} {te : TE} {Nt Nf : List Str} {caps : List Nat} (hc : X.calm = true) (S : CompOk X scope Nt Nf caps) (hi : PI X tg iter wi)
    (hg : ∀ cl C s0 H0 ex, PG (cxC X (Nt ++ Nf) scope cl C s0 H0 ex) tg g)
    (ht : ∀ cl C s0 H0 ex, PTs (cxC X (Nt ++ Nf) scope cl C s0 H0 ex) ifs tt)
    (he : ∀ cl C s0 H0 ex, PE (cxC X (Nt ++ Nf) scope cl C s0 H0 ex) elt te)
    (hs : ∀ x, foldedSetIterable iter X.env x = pure x := by intro _; rfl) : PE X (.ListComp elt [⟨tg, iter, ifs, 0⟩] scope pos) (tLC wi g tt te Nt.length caps) := by
  intro pins s σ H Q I h
  obtain ⟨cl, hclos, hcl, hcf⟩ := closure_ok I.ok.has S.fr
  rw [eval_ListComp]
  refine wpAny_comprehension_free (use := none) rfl hs hclos S.kind S.nm (thn (hi pins s σ H _ I h) fun v s1 h1 => thn h1 fun itv s2 h2 => ?_)
  obtain ⟨it, fp, tn, J, H2, e, I2, T, st2, f2, hW⟩ := h2
  subst e
  refine comp_block (RR := fun acc C => compPost (model X.prog X.w) X.A X.xe none (EP X pins σ Q) acc C) (Q := Q) hc S hg ht he hcl hcf I2 T st2 f2 hW ?_
  intro D C m s' H' I' q nsC hCn hCl hCs hCc hCp
  exact ⟨m, nsC, fun h' sb => ⟨.ref D, H', I'.turned (t' := s'.toks) (fun b o hb e => (sb.2 b hb).trans e) hCn hCl (.inr hCs) hCc hCp, rfl, q⟩⟩
theorem ps_lc {tg iter elt : Expr} {ifs : List Expr} {scope : Scope} {pos spos py : Pos} {y : Str} {i : Nat} {wi : TI} {g : TG} {tt : TT} {te : TE} {Nt Nf : List Str} {caps : List Nat} (hc : X.calm = true) (S : CompOk X scope Nt Nf caps) (hi : PI X tg iter wi)
    (hg : ∀ cl C s0 H0 ex, PG (cxC X (Nt ++ Nf) scope cl C s0 H0 ex) tg g)
    (ht : ∀ cl C s0 H0 ex, PTs (cxC X (Nt ++ Nf) scope cl C s0 H0 ex) ifs tt)
    (he : ∀ cl C s0 H0 ex, PE (cxC X (Nt ++ Nf) scope cl C s0 H0 ex) elt te)
    (hN : X.N.Nodup) (hy : X.N[i]? = some y) (hx : Loc X.env.scope y)
    (hsw : swapsWith (.ListComp elt [⟨tg, iter, ifs, 0⟩] scope pos) (some (.Name y py)) spos.line X.env = pure true)
    (hf : X.fn y = true ∨ X.env.scope.names.lookup y = some .local := by first | exact .inl rfl | exact .inr rfl | assumption)
    (hs : ∀ x, foldedSetIterable iter X.env x = pure x := by intro _; rfl) : PS X (.Assign [.Name y py] (.ListComp elt [⟨tg, iter, ifs, 0⟩] scope pos) spos) (tAsg (tLC wi g tt te Nt.length caps) (gName i)) := by
  intro pins s σ H D I h
  obtain ⟨cl, hclos, hcl, hcf⟩ := closure_ok I.ok.has S.fr
  rw [exec_Assign_Name_used _ _ _ _ hsw]
  refine wpAny_bind (wpAny_standAt (wpAny_bind ?_))
  show wpAny _ X.A (do let _ ← comprehension (.ListComp elt [⟨tg, iter, ifs, 0⟩] scope pos) scope X.env _ (newList []) false (eval iter X.env) (some (assign (.Name y py) X.env))) _ _ s
  refine wpAny_bind (wpAny_mono (wpAny_comprehension_free (use := some (assign (.Name y py) X.env)) (Q := fun _ s' => SP X pins D .next s') rfl hs hclos S.kind S.nm
    (thn (hi pins s σ H _ I h) fun v s1 h1 => thn h1 fun itv s2 h2 => ?_)) (fun _ s' hq => wpAny_pure (wpAny_pure hq)) fun _ _ e => e)
  obtain ⟨it, fp, tn, J, H2, e, I2, T, st2, f2, hW⟩ := h2
  subst e
  refine comp_block (RR := fun acc C => compPost (model X.prog X.w) X.A X.xe (some (assign (.Name y py) X.env)) (fun _ s' => SP X pins D .next s') acc C) (Q := fun x H1 => gName i x σ H1 D.nx) hc S hg ht he hcl hcf I2 T st2 f2 hW ?_
  intro l C m s' H' I' q nsC hCn hCl hCs hCc hCp
  show wpAny _ X.A (assign (.Name y py) X.env (.ref l)) _ _ _
  refine wpAny_assign_Name (store_ok2 (v := .ref l) I' hN hy hx rfl (fun s'' I'' ⟨a, sb, ha⟩ => ?_) hf)
  have haC : C ≠ a := by
    rcases ha with z | z
    · rw [z]; exact hCl
    · exact fun e => hCc y a z e.symm
  refine ⟨m, nsC.sameBut sb haC, fun h' sb' => ⟨_, H', I''.turned (t' := s''.toks) (fun b o hb e => (sb'.2 b hb).trans e) hCn hCl (.inr hCs) hCc hCp, q⟩⟩
end
end L2
namespace L2
open PySem PySem.Spec PyProof.Rows
def Its (z : Str) : It := ⟨fun i _ => i < z.cps.size, fun i H x H' => H' = H ∧ ∃ c, z.cps[i]? = some c ∧ x = .str ⟨#[c]⟩, fun i _ => z.cps.size ≤ i⟩
section
variable {X : Cx} {tg : Expr}
def iStr (tl : TE) : TI := fun σ H R => tl σ H fun x H1 => ∃ z, x = .str z ∧ R (Its z) H1
end
section
variable {X : Cx}
def strsV (ys : List Str) : List V := ys.map V.str
def rJoin (K : PySem.W.Frag) : V → List V → Hp → VK → Prop := fun x vs H Q => ∃ z l ys, x = .str z ∧ vs = [.ref l] ∧ SqL K H l (strsV ys) ∧ (ys.map (·.length)).sum + ys.length * z.length ≤ 16777216 ∧ Q (.str (Txt.join z ys)) H
def rFind : V → List V → Hp → VK → Prop := fun x vs H Q => ∃ z y, x = .str z ∧ vs = [.str y] ∧ Q (.int (Txt.find z y)) H
def rUpper : V → List V → Hp → VK → Prop := fun x vs H Q => ∃ z, x = .str z ∧ vs = [] ∧ Builtin.Str.tooLong (Txt.upper z).length = false ∧ Q (.str (Txt.upper z)) H
def CBig (i j : Int) : Prop := (i.natAbs < 2 ^ 4096 ∧ j.natAbs < 2 ^ 4096) ∨ CMul i j
theorem bits_le {i : Int} {n : Nat} (h : i.natAbs < 2 ^ n) : Builtin.Int.intBits i ≤ n := by
  unfold Builtin.Int.intBits
  split
  · exact Nat.zero_le _
  · rename_i h0
    have h1 : i.natAbs ≠ 0 := by simpa using h0
    have := (Nat.log2_lt h1).mpr h
    omega
theorem CBig.ok {i j : Int} (h : CBig i j) : IntMulOk i j := by
  rcases h with ⟨h1, h2⟩ | h
  · exact IntMulOk.of_bits (Nat.le_trans (bits_le h1) (by decide)) (Nat.le_trans (bits_le h2) (by decide))
  · exact h.ok
theorem op_big : OpR X (binaryOp .Mult) (rI CBig fun i j => .int (i * j)) := opI fun _ _ _ _ _ _ _ hc q => mul_int q hc.ok
theorem call_isi : CallR X (.builtin "isinstance") (fun xs H Q => ∃ x n t b, xs = [x, .ty n] ∧ TyOf X.K H x t ∧ PySem.W.kitOne X.K t (.type n) = some b ∧ Q (.bl b) H) := by
  intro pins s σ H xs us Q I r h
  obtain ⟨x, n, t, b, rfl, ty, e, q⟩ := h
  obtain ⟨u, w', rfl, rx, ry⟩ := vals2 r
  cases (show w' = Value.type n from ry)
  exact isinst_ok I rx ty e fun tk => ⟨.bl b, H, I.tok _, rfl, q⟩
def blsV (bs : List Bool) : List V := bs.map V.bl
def rEqS (K : PySem.W.Frag) (neg : Bool) : R2 := fun x y H Q => ∃ l b ys zs, x = .ref l ∧ y = .ref b ∧ SqL K H l (strsV ys) ∧ SqL K H b (strsV zs) ∧ Q (.bl (if neg then !decide (ys = zs) else decide (ys = zs))) H
end
section
variable {X : Cx} {e : Expr} {te : TE} {pos : Pos}
def tFmt (te : TE) : TE := fun σ H Q => te σ H fun x H1 => (∃ z, x = .str z ∧ z.length ≤ sizeLine ∧ Q (.str z) H1) ∨ ∃ i : Int, x = .int i ∧ i.natAbs.log2 < 1920 ∧ Q (.str (toString i)) H1
inductive PEs (X : Cx) : List Expr → List TE → Prop
  | nil : PEs X [] []
  | cons {e es t ts} : PE X e t → PEs X es ts → PEs X (e :: es) (t :: ts)
def tJoin : List TE → Str → TE
  | [], out => fun _ H Q => out.length ≤ sizeLine ∧ Q (.str out) H
  | t :: r, out => fun σ H Q => t σ H fun x H1 => ∃ y, x = .str y ∧ (out ++ y).length ≤ sizeLine ∧ tJoin r (out ++ y) σ H1 Q
end
end L2
namespace L2
open PySem PySem.Spec PyProof.Rows
abbrev New (H : Hp) (o : HO) (Q : VK) : Prop := ∀ p H', H p = none → Same H H' → H' p = some o → Q (.ref p) H'
theorem Same.new {H : Hp} {p : Addr} {o : HO} (h : H p = none) : Same H (upd H p o) := fun b u e => by rw [upd_ne (ne_of_none e h)]; exact e
theorem New.to {H : Hp} {Q : VK} {o : HO} (h : New H o Q) : ∀ p, H p = none → Q (.ref p) (upd H p o) := fun p hp => h p _ hp (Same.new hp) upd_same
section
variable {X : Cx} {es : List Expr} {t : TA} {pos : Pos}
def tLstN (t : TA) : TE := fun σ H Q => t σ H fun xs H1 => xs.length ≤ sizeLine ∧ New H1 (.lst xs) Q
def tTupN (t : TA) : TE := fun σ H Q => t σ H fun xs H1 => xs.length ≤ sizeLine ∧ New H1 (.tup xs) Q
theorem pe_tupN {x1} (h : PA X es t) : PE X (.Tuple es x1 pos) (tTupN t) := by
  intro pins s σ H Q I hq
  refine wpAny_Tuple_spliced (thn (h pos pins s σ H _ I hq) fun us s1 ⟨xs, H1, I1, r, z, q⟩ => ⟨by rw [← r.length]; exact z, ?_⟩)
  refine ⟨.ref s1.heap.objs.size, upd H1 s1.heap.objs.size (.tup xs), I1.laid (t' := s1.toks) (fun b u e => Heap.get?_push_of_some _ e) (Nat.le_refl _) ?_, rfl, New.to q _ (I1.hok.fresh (Nat.le_refl _))⟩
  exact ⟨z, us, r, ⟨_, Heap.get?_push_size _ rfl, rfl, _, rfl⟩⟩
theorem pe_lstN (h : PA X es t) : PE X (.List es pos) (tLstN t) := by
  intro pins s σ H Q I hq
  refine wpAny_List_spliced (thn (h pos pins s σ H _ I hq) fun us s1 ⟨xs, H1, I1, r, z, q⟩ => ⟨by rw [← r.length]; exact z, ?_⟩)
  refine ⟨.ref s1.heap.objs.size, upd H1 s1.heap.objs.size (.lst xs), I1.laid (t' := s1.toks) (fun b u e => Heap.get?_push_of_some _ e) (Nat.le_refl _) ?_, rfl, New.to q _ (I1.hok.fresh (Nat.le_refl _))⟩
  exact ⟨z, us, 0, r, Heap.get?_push_size _ rfl⟩
def rSlN (K : PySem.W.Frag) : V → Option Int → Option Int → Hp → VK → Prop := fun x lo hi H Q => ∃ a xs, x = .ref a ∧ SqL K H a xs ∧ New H (.lst (cutV xs lo hi)) Q
theorem sl_listN : SlR X (rSlN X.K) := by
  intro pins s σ H x v vl vu lo hi sl Q I rx hs pl pu h
  obtain ⟨a, xs, e, h1, h2⟩ := h
  exact sl_list pins s σ H x v vl vu lo hi sl Q I rx hs pl pu ⟨a, xs, e, h1, New.to h2⟩
theorem call_listN : CallR X (.type "list") (fun xs H Q => ∃ p ys, xs = [.ref p] ∧ (SqL X.K H p ys ∨ SqT X.K H p ys) ∧ New H (.lst ys) Q) := by
  intro pins s σ H xs us Q I r h
  obtain ⟨p, ys, e, h1, h2⟩ := h
  exact call_list_of pins s σ H xs us Q I r ⟨p, ys, e, h1, New.to h2⟩
end
def rIsi (K : PySem.W.Frag) : List V → Hp → VK → Prop := fun xs H Q => ∃ x n t b, xs = [x, .ty n] ∧ TyOf K H x t ∧ PySem.W.kitOne K t (.type n) = some b ∧ Q (.bl b) H
def tTru (K : PySem.W.Frag) (ta : TE) : TT := fun σ H Q => ta σ H fun x H' => ∃ k, TruV K x H' k ∧ Q k H'
def rLen (K : PySem.W.Frag) : List V → Hp → VK → Prop := fun xs H Q => ∃ x n, xs = [x] ∧ LenV K x H n ∧ Q (.int n) H
def rToInt : List V → Hp → VK → Prop := fun xs H Q => (∃ i, xs = [.int i] ∧ Q (.int i) H) ∨ ∃ k, xs = [.bl k] ∧ Q (.int (if k then 1 else 0)) H
def rIsB : R2 := fun x y H Q => ∃ a b, x = .bl a ∧ y = .bl b ∧ Q (.bl (a == b)) H
def rAll (K : PySem.W.Frag) : List V → Hp → VK → Prop := fun xs H Q => ∃ l bs, xs = [.ref l] ∧ SqL K H l (blsV bs) ∧ Q (.bl (bs.all id)) H
def rInS : R2 := fun x y H Q => ∃ i j, x = .str i ∧ y = .str j ∧ Q (.bl (!(Builtin.Str.occurrences j i 0 j.length 1).isEmpty)) H
def rListN (K : PySem.W.Frag) : List V → Hp → VK → Prop := fun xs H Q => ∃ p ys, xs = [.ref p] ∧ (SqL K H p ys ∨ SqT K H p ys) ∧ New H (.lst ys) Q
def rTupleN (K : PySem.W.Frag) : List V → Hp → VK → Prop := fun xs H Q => ∃ p ys, xs = [.ref p] ∧ SqL K H p ys ∧ New H (.tup ys) Q
section
variable {X : Cx} {a : Expr} {ta : TE}
theorem cl_isi : CallR X (.builtin "isinstance") (rIsi X.K) := call_isi
theorem pt_tru (ha : PE X a ta) (he : ∀ whole, isTrue a X.env whole = (do let v ← whole; standAt a.pos; holding [v] (truthy v))) : PT X a (tTru X.K ta) := pt_truth ha he
theorem cl_len : CallR X (.builtin "len") (rLen X.K) := call_len
theorem cl_list : CallR X (.type "list") (rListN X.K) := call_listN
end
def rPlus : R2 := fun x y H Q => match x, y with
  | .int i, .int j => Q (.int (i + j)) H
  | .str i, .str j => i.length + j.length ≤ sizeLine ∧ Q (.str (i ++ j)) H
  | .ref l, .ref b => ∃ xs zs, H l = some (.lst xs) ∧ H b = some (.lst zs) ∧ xs.length + zs.length ≤ sizeLine ∧ New H (.lst (xs ++ zs)) Q
  | _, _ => False
def rTimes : R2 := fun x y H Q => match x, y with
  | .int i, .int j => CBig i j ∧ Q (.int (i * j)) H
  | .str z, .int n => MulOk z n ∧ Q (.str (Txt.mul z n)) H
  | _, _ => False
def rStr : List V → Hp → VK → Prop := fun xs H Q => match xs with
  | [.int i] => i.natAbs.log2 < 1920 ∧ Q (.str (toString i)) H
  | [.str z] => Q (.str z) H
  | _ => False
section
variable {X : Cx}
theorem op_plus : OpR X (binaryOp .Add) rPlus := by
  intro pins s σ H x y v u Q I rx ry h
  cases x with
  | int i => cases y with
    | int j => exact op_add pins s σ H _ _ v u Q I rx ry ⟨i, j, rfl, rfl, h⟩
    | _ => exact (show False from h).elim
  | str i => cases y with
    | str j => exact op_add_str pins s σ H _ _ v u Q I rx ry ⟨i, j, rfl, rfl, h⟩
    | _ => exact (show False from h).elim
  | ref l => cases y with
    | ref b =>
      obtain ⟨xs, zs, h1, h2, h3, h4⟩ := h
      exact op_cat pins s σ H _ _ v u Q I rx ry ⟨l, b, xs, zs, rfl, rfl, h1, h2, h3, New.to h4⟩
    | _ => exact (show False from h).elim
  | _ => exact (show False from h).elim
theorem op_times : OpR X (binaryOp .Mult) rTimes := by
  intro pins s σ H x y v u Q I rx ry h
  cases x with
  | int i => cases y with
    | int j => exact op_big pins s σ H _ _ v u Q I rx ry ⟨i, j, rfl, rfl, h⟩
    | _ => exact (show False from h).elim
  | str z => cases y with
    | int n =>
      obtain ⟨t, rfl⟩ := rx
      obtain ⟨t', rfl⟩ := ry
      exact SB.mul h.1 fun t2 k => ⟨.str _, H, I.tok _, ⟨_, rfl⟩, h.2⟩
    | _ => exact (show False from h).elim
  | _ => exact (show False from h).elim
theorem comp_ok {scope sc : Scope} {Nt Nf : List Str} {caps : List Nat} (hsc : X.env.scope = sc) (kind : scope.kind = .function) (nc : ∀ y ∈ scope.names, y.2 ≠ .cell) (nm : ∀ y ∈ scope.names, y.2 = .local → scope.names.lookup y.1 = some .local)
    (fr : ∀ y ∈ scope.names, y.2 = .free → sc.names.lookup y.1 = some .cell ∨ sc.names.lookup y.1 = some .free) (cap : caps.map (fun j => X.N[j]?) = Nf.map some) (vis : ∀ x ∈ Nf, scope.names.lookup x = some .free) : CompOk X scope Nt Nf caps :=
  ⟨kind, nc, nm, fun y hy h => by show X.env.scope.names.lookup y.1 = _ ∨ X.env.scope.names.lookup y.1 = _; rw [hsc]; exact fr y hy h, cap, vis⟩
abbrev LcEnd (J : It) (te : TE) (tt : TT) (caps : List Nat) (σ : St) (H : Hp) (Q : VK) : Prop := ∃ W : Nat → Nat → List V → St → Hp → Prop, (∃ m, W 0 m [] (cSt 1 caps σ) H) ∧ ∀ i m acc σ' H', W i m acc σ' H' →
  (J.stop i H' ∧ ∀ l, H' l = none → Q (.ref l) (upd H' l (.lst acc))) ∨
  (J.go i H' ∧ acc.length < sizeLine ∧ ∃ N : List V → St → Hp → Prop, (∀ ac σ2 H2, N ac σ2 H2 → ∃ m', m' < m ∧ W (i + 1) m' ac σ2 H2) ∧ ∀ x H2, J.yld i H' x H2 → gName 0 x σ' H2 fun σ3 H3 => tt σ3 H3 fun b H4 => if b = true then te σ3 H4 fun y H5 => N (acc ++ [y]) σ3 H5 else N acc σ3 H4)
theorem lc_any {J : It} {te : TE} {tt : TT} {caps : List Nat} {σ : St} {H : Hp} {Q : VK} (n : Nat) (hz : n ≤ sizeLine) (Pv : Nat → List V → Hp → Prop) (h0 : Pv 0 [] H) (hl : ∀ i acc H, Pv i acc H → acc.length ≤ i)
    (hgo : ∀ i acc H, i < n → Pv i acc H → J.go i H) (hst : ∀ acc H, Pv n acc H → J.stop n H)
    (hs : ∀ i x acc H H2, i < n → Pv i acc H → J.yld i H x H2 → tt (some x :: capV caps σ) H2 fun b H4 => if b = true then te (some x :: capV caps σ) H4 fun y H5 => Pv (i + 1) (acc ++ [y]) H5 else Pv (i + 1) acc H4)
    (hd : ∀ acc H, Pv n acc H → New H (.lst acc) Q) : LcEnd J te tt caps σ H Q := by
  refine ⟨fun i m acc σ' H => m = n - i ∧ i ≤ n ∧ (∃ v, σ' = v :: capV caps σ) ∧ Pv i acc H, ⟨n, by simp, Nat.zero_le _, ⟨none, rfl⟩, h0⟩, ?_⟩
  rintro i m acc σ' H' ⟨rfl, hi, ⟨v, rfl⟩, p⟩
  by_cases hlt : i < n
  · refine .inr ⟨hgo i acc H' hlt p, ?_, fun ac σ2 H2 => (∃ v, σ2 = v :: capV caps σ) ∧ Pv (i + 1) ac H2, fun ac σ2 H2 ⟨e, p'⟩ => ⟨n - (i + 1), by omega, rfl, hlt, e, p'⟩, fun x H2 y => ?_⟩
    · have := hl i acc H' p
      omega
    · have eN : ∀ ac H5, ((∃ u, some x :: capV caps σ = u :: capV caps σ) ∧ Pv (i + 1) ac H5) = Pv (i + 1) ac H5 := fun ac H5 => propext ⟨And.right, fun p => ⟨⟨_, rfl⟩, p⟩⟩
      show tt (some x :: capV caps σ) H2 fun b H4 => if b = true then te (some x :: capV caps σ) H4 fun y H5 => ((∃ u, some x :: capV caps σ = u :: capV caps σ) ∧ Pv (i + 1) (acc ++ [y]) H5) else ((∃ u, some x :: capV caps σ = u :: capV caps σ) ∧ Pv (i + 1) acc H4)
      simp only [eN]
      exact hs i x acc H' H2 hlt p y
  · have e : i = n := by omega
    subst e
    exact .inl ⟨hst acc H' p, New.to (hd acc H' p)⟩
theorem lc_list {K : PySem.W.Frag} {a : Addr} {xs : List V} {te : TE} {tt : TT} {caps : List Nat} {σ : St} {H : Hp} {Q : VK} (hz : xs.length ≤ sizeLine) (Pv : Nat → List V → Hp → Prop) (h0 : Pv 0 [] H) (hl : ∀ i acc H, Pv i acc H → acc.length ≤ i ∧ SqL K H a xs)
    (hs : ∀ i x acc H, xs[i]? = some x → Pv i acc H → tt (some x :: capV caps σ) H fun b H4 => if b = true then te (some x :: capV caps σ) H4 fun y H5 => Pv (i + 1) (acc ++ [y]) H5 else Pv (i + 1) acc H4)
    (hd : ∀ acc H, Pv xs.length acc H → New H (.lst acc) Q) : LcEnd (Itl K a) te tt caps σ H Q := by
  refine lc_any xs.length hz Pv h0 (fun i acc H p => (hl i acc H p).1) (fun i acc H hi p => ⟨xs, xs[i], (hl i acc H p).2, by simp [hi]⟩) (fun acc H p => ⟨xs, (hl _ acc H p).2, Nat.le_refl _⟩) ?_ hd
  rintro i x acc H1 H2 hi p ⟨rfl, y⟩
  exact hs i x acc _ (y xs (hl i acc _ p).2) p
theorem lc_range {lo : Int} {n : Nat} {te : TE} {tt : TT} {caps : List Nat} {σ : St} {H : Hp} {Q : VK} (hz : n ≤ sizeLine) (Pv : Nat → List V → Hp → Prop) (h0 : Pv 0 [] H) (hl : ∀ i acc H, Pv i acc H → acc.length ≤ i)
    (hs : ∀ i acc H, i < n → Pv i acc H → tt (some (.int (lo + i)) :: capV caps σ) H fun b H4 => if b = true then te (some (.int (lo + i)) :: capV caps σ) H4 fun y H5 => Pv (i + 1) (acc ++ [y]) H5 else Pv (i + 1) acc H4)
    (hd : ∀ acc H, Pv n acc H → New H (.lst acc) Q) : LcEnd (Itr lo n) te tt caps σ H Q := by
  refine lc_any n hz Pv h0 hl (fun i acc H hi p => hi) (fun acc H p => Nat.le_refl _) ?_ hd
  rintro i x acc H1 H2 hi p ⟨rfl, rfl⟩
  exact hs i acc _ hi p
end
end L2
namespace L2
open PySem
theorem ex_self_and {α : Sort _} {a : α} {p : α → Prop} : (∃ x, x = a ∧ p x) ↔ p a := ⟨fun ⟨_, e, h⟩ => e ▸ h, fun h => ⟨a, rfl, h⟩⟩
theorem ex_some_and {α : Type} {a : α} {p : α → Prop} : (∃ v, some (some a) = some (some v) ∧ p v) ↔ p a := ⟨fun ⟨_, e, h⟩ => by cases e; exact h, fun h => ⟨a, rfl, h⟩⟩
theorem ex_int {i : Int} {p : Int → Prop} : (∃ j, V.int i = V.int j ∧ p j) ↔ p i := ⟨fun ⟨_, e, h⟩ => by cases e; exact h, fun h => ⟨i, rfl, h⟩⟩
theorem ex_str {i : Str} {p : Str → Prop} : (∃ j, V.str i = V.str j ∧ p j) ↔ p i := ⟨fun ⟨_, e, h⟩ => by cases e; exact h, fun h => ⟨i, rfl, h⟩⟩
theorem ex_bl {i : Bool} {p : Bool → Prop} : (∃ j, V.bl i = V.bl j ∧ p j) ↔ p i := ⟨fun ⟨_, e, h⟩ => by cases e; exact h, fun h => ⟨i, rfl, h⟩⟩
theorem ex_ref {i : Addr} {p : Addr → Prop} : (∃ j, V.ref i = V.ref j ∧ p j) ↔ p i := ⟨fun ⟨_, e, h⟩ => by cases e; exact h, fun h => ⟨i, rfl, h⟩⟩
def ForEnd (J : It) (g : TG) (tb : TS) (D : Ends) (σ : St) (H1 : Hp) : Prop := ∃ W : Nat → Nat → St → Hp → Prop, (∃ m, W 0 m σ H1) ∧ ∀ i m σ H, W i m σ H →
  (J.stop i H ∧ D.nx σ H) ∨ (J.go i H ∧ ∃ N : St → Hp → Prop, (∀ σ' H', N σ' H' → ∃ m', m' < m ∧ W (i + 1) m' σ' H') ∧ ∀ x H', J.yld i H x H' → g x σ H' fun σ2 H2 => tb { D with nx := N, ct := N, bk := D.nx } σ2 H2)
theorem tFor_def (wi : TI) (g : TG) (tb : TS) (D : Ends) (σ : St) (H : Hp) : tFor wi g tb D σ H = wi σ H fun J H1 => ForEnd J g tb D σ H1 := rfl
def CompEnd (J : It) (g : TG) (tt : TT) (te : TE) (n : Nat) (caps : List Nat) (σ : St) (H : Hp) (Q : VK) : Prop := ∃ W : Nat → Nat → List V → St → Hp → Prop, (∃ m, W 0 m [] (cSt n caps σ) H) ∧ ∀ i m acc σ' H', W i m acc σ' H' →
  (J.stop i H' ∧ ∀ l, H' l = none → Q (.ref l) (upd H' l (.lst acc))) ∨
  (J.go i H' ∧ acc.length < sizeLine ∧ ∃ N : List V → St → Hp → Prop, (∀ ac σ2 H2, N ac σ2 H2 → ∃ m', m' < m ∧ W (i + 1) m' ac σ2 H2) ∧ ∀ x H2, J.yld i H' x H2 → g x σ' H2 fun σ3 H3 => tt σ3 H3 fun b H4 => if b = true then te σ3 H4 fun y H5 => N (acc ++ [y]) σ3 H5 else N acc σ3 H4)
theorem tLC_def (wi : TI) (g : TG) (tt : TT) (te : TE) (n : Nat) (caps : List Nat) (σ : St) (H : Hp) (Q : VK) : tLC wi g tt te n caps σ H Q = wi σ H fun J H1 => CompEnd J g tt te n caps σ H1 Q := rfl
section
variable {K : PySem.W.Frag} {a : Addr} {xs : List V} {te : TE} {tt : TT} {caps : List Nat} {σ : St} {H : Hp} {Q : VK} {z : Str} {lo : Int} {n : Nat}
theorem cc_list (hz : xs.length ≤ sizeLine) (Pv : Nat → List V → Hp → Prop) (h0 : Pv 0 [] H) (hl : ∀ i acc H, Pv i acc H → acc.length ≤ i ∧ SqL K H a xs)
    (hs : ∀ i x acc H, xs[i]? = some x → Pv i acc H → tt (some x :: capV caps σ) H fun b H4 => if b = true then te (some x :: capV caps σ) H4 fun y H5 => Pv (i + 1) (acc ++ [y]) H5 else Pv (i + 1) acc H4)
    (hd : ∀ acc H, Pv xs.length acc H → New H (.lst acc) Q) : CompEnd (Itl K a) (gName 0) tt te 1 caps σ H Q := lc_list hz Pv h0 hl hs hd
theorem cc_range (hz : n ≤ sizeLine) (Pv : Nat → List V → Hp → Prop) (h0 : Pv 0 [] H) (hl : ∀ i acc H, Pv i acc H → acc.length ≤ i)
    (hs : ∀ i acc H, i < n → Pv i acc H → tt (some (.int (lo + i)) :: capV caps σ) H fun b H4 => if b = true then te (some (.int (lo + i)) :: capV caps σ) H4 fun y H5 => Pv (i + 1) (acc ++ [y]) H5 else Pv (i + 1) acc H4)
    (hd : ∀ acc H, Pv n acc H → New H (.lst acc) Q) : CompEnd (Itr lo n) (gName 0) tt te 1 caps σ H Q := lc_range hz Pv h0 hl hs hd
end
theorem cxOf_K {CX : CXT} {P : Program} {w : World} {K : PySem.W.Frag} {mg : Str → Option Value} {base : Heap} {N : List Str} {qual : Str} {scope : Scope} {f : Addr} {cd : Value} {A : Around} {outer : List Env} {s : Shared} {H : Hp} {E : XK} :
    (cxOf CX P w K mg base N qual scope f cd A outer s H E).K = K := rfl
theorem cxC_K {X : Cx} {N : List Str} {scope : Scope} {cl : List (Str × Addr)} {C : Addr} {s0 : Shared} {H0 : Hp} {ex : List Addr} : (cxC X N scope cl C s0 H0 ex).K = X.K := rfl
theorem Same.after {H H1 : Hp} {p : Addr} {o : HO} (s : Same H H1) (h : H1 p = none) : Same H (upd H1 p o) := s.trans (Same.new h)
section
variable {X : Cx}
theorem kix_list (K : PySem.W.Frag) (hK : X.K = K := by rfl) : IxR X (rIxL K) := hK ▸ ix_list
theorem kix_tup (K : PySem.W.Frag) (hK : X.K = K := by rfl) : IxR X (rIxT K) := hK ▸ ix_tup
theorem ksl_list (K : PySem.W.Frag) (hK : X.K = K := by rfl) : SlR X (rSlN K) := hK ▸ sl_listN
theorem kcl_isi (K : PySem.W.Frag) (hK : X.K = K := by rfl) : CallR X (.builtin "isinstance") (rIsi K) := hK ▸ cl_isi
theorem kcl_len (K : PySem.W.Frag) (hK : X.K = K := by rfl) : CallR X (.builtin "len") (rLen K) := hK ▸ cl_len
theorem kcl_list (K : PySem.W.Frag) (hK : X.K = K := by rfl) : CallR X (.type "list") (rListN K) := hK ▸ cl_list
theorem kop_notIn (K : PySem.W.Frag) (hK : X.K = K := by rfl) : OpR X (compareOp .NotIn) (rIn K true) := hK ▸ op_notIn_seq
theorem kpt_tru (K : PySem.W.Frag) {a : Expr} {ta : TE} (ha : PE X a ta) (he : ∀ whole, isTrue a X.env whole = (do let v ← whole; standAt a.pos; holding [v] (truthy v))) (hK : X.K = K := by rfl) : PT X a (tTru K ta) := hK ▸ pt_tru ha he
theorem kpi_list (K : PySem.W.Frag) {tg l : Expr} {tl : TE} (hl : PE X l tl) (hK : X.K = K := by rfl) : PI X tg l (iList K tl) := hK ▸ pi_list hl
theorem kpg_tup (K : PySem.W.Frag) {pos : Pos} {es : List Expr} {k : Nat} {t : TGs} {n : Nat} (hc : X.calm = true) (h : PGs X es t) (hn : (assignEach es X.env).length = n := by rfl) (hst : (assignEach es X.env).findIdx? (·.1) = none := by rfl) (hK : X.K = K := by rfl) :
    PG X (.Tuple es k pos) (gTup K n t) := hK ▸ pg_tup hc h hn hst
theorem kpe_bm (K : PySem.W.Frag) {o e : Expr} {es : List Expr} {to : TE} {t : TA} {name : Str} {apos cpos : Pos} {T id : String} {r : V → List V → Hp → VK → Prop} (pa : PlainAttrs T) (slot : Slot T name id) (hty : typeOf (.builtin id) = pure (.type "method_descriptor")) (hm : MtR X id r) (ho : PE X o to) (ha : PA X (e :: es) t)
    (hbase : attributeBase o name X.env (eval o X.env) = eval o X.env := by rfl)
    (hfew : ((backTo cpos (starEach (e :: es) X.env)).all (fun x => !x.1) && (backToKw cpos (keywordEach [] X.env)).all (fun x => x.1.isSome) && decide ((e :: es).length + ([] : List Keyword).length + (if ([] : List Keyword).isEmpty then 0 else 1) < 30)) = true := by rfl)
    (hline : (apos.endLine == cpos.line) = true := by rfl) (hs : starEach (e :: es) X.env = (false, eval e X.env) :: starEach es X.env := by rfl) (hplain : (backTo cpos (starEach es X.env)).any (·.1) = false := by rfl) (hK : X.K = K := by rfl) :
    PE X (.Call (.Attribute o name apos) (e :: es) [] cpos) (tBM K T r to t) := hK ▸ pe_bm pa slot hty hm ho ha hbase hfew hline hs hplain
end
theorem bb_len : bootBuiltins "len" = some (.builtin "len") := by decide +kernel
theorem bb_isinstance : bootBuiltins "isinstance" = some (.builtin "isinstance") := by decide +kernel
theorem bb_sum : bootBuiltins "sum" = some (.builtin "sum") := by decide +kernel
theorem bb_max : bootBuiltins "max" = some (.builtin "max") := by decide +kernel
theorem bb_bool : bootBuiltins "bool" = some (.type "bool") := by decide +kernel
theorem bb_list : bootBuiltins "list" = some (.type "list") := by decide +kernel
theorem bb_tuple : bootBuiltins "tuple" = some (.type "tuple") := by decide +kernel
theorem bb_dict : bootBuiltins "dict" = some (.type "dict") := by decide +kernel
theorem bb_range : bootBuiltins "range" = some (.type "range") := by decide +kernel
end L2
namespace L2
open PySem
def Bd (p : Nat) (x : Int) : Prop := x.natAbs < 2 ^ p
theorem Bd.mono {p q : Nat} {x : Int} (h : Bd p x) (l : p ≤ q) : Bd q x := Nat.lt_of_lt_of_le h (Nat.pow_le_pow_right (by decide) l)
theorem Bd.mul {p q : Nat} {x y : Int} (h : Bd p x) (h' : Bd q y) : Bd (p + q) (x * y) := by
  unfold Bd at *
  rw [Int.natAbs_mul, Nat.pow_add]
  exact Nat.mul_lt_mul'' h h'
theorem Bd.big {p q : Nat} {x y : Int} (h : Bd p x) (h' : Bd q y) (hp : p ≤ 4096 := by decide) (hq : q ≤ 4096 := by decide) : CBig x y := .inl ⟨h.mono hp, h'.mono hq⟩
theorem Bd.of {p : Nat} {x : Int} (h0 : 0 ≤ x) (h1 : x < 2 ^ p) : Bd p x := by
  unfold Bd
  have e : ((2 ^ p : Nat) : Int) = (2 : Int) ^ p := by norm_cast
  omega
def stirA (c k : Int) : Int := c % 10 ^ Int.toNat 40 * 48271 + 3 ^ Int.toNat 60 * (k + 1) * (k + 1) + k
def stirB (n : Int) : Int := n * n + 69621 * n
def stirF (c k : Int) : Int := stirB (stirA c k) * stirB (stirA c k) % (10 ^ Int.toNat 61 + 7) / 8
end L2
local macro_rules | `(tactic| walk_at "rd") => `(tactic| simp only [L2.tCB, L2.tCons, L2.tNil, L2.tVar, L2.rStr, L2.tNoIf, L2.capV, List.map_nil, List.getElem?_cons_zero, L2.ex_some_and, if_true])
namespace L2
open PySem
theorem le_line {n : Nat} (h : n ≤ 1000000) : n ≤ sizeLine := Nat.le_trans h (by decide)
def PartS (x : V) (y : Str) : Prop := (∃ i : Int, x = .int i ∧ i.natAbs < 2 ^ 64 ∧ y = Str.ofString (toString i)) ∨ x = .str y
inductive PartsS : List V → List Str → Prop
  | nil : PartsS [] []
  | cons {x y xs ys} : PartS x y → PartsS xs ys → PartsS (x :: xs) (y :: ys)
theorem PartsS.get : ∀ {xs : List V} {ys : List Str}, PartsS xs ys → ∀ (i : Nat) (x : V), xs[i]? = some x → ∃ y, ys[i]? = some y ∧ PartS x y
  | _, _, .nil, i, x, e => by simp at e
  | _, _, .cons p r, 0, x, e => by simp at e; subst e; exact ⟨_, rfl, p⟩
  | _, _, .cons p r, i + 1, x, e => r.get i x (by simpa using e)
theorem PartsS.len {xs : List V} {ys : List Str} (p : PartsS xs ys) : xs.length = ys.length := by
  induction p with
  | nil => rfl
  | cons _ _ ih => simp [ih]
theorem sx_ext {x y : Str} (h : x.cps.toList = y.cps.toList) : x = y := by
  cases x; cases y
  simp at h
  simp [h]
theorem sx_app (x y : Str) : (x ++ y).cps.toList = x.cps.toList ++ y.cps.toList := by
  show (x.cps ++ y.cps).toList = _
  simp
theorem sx_assoc (x y z : Str) : x ++ y ++ z = x ++ (y ++ z) := sx_ext (by simp only [sx_app, List.append_assoc])
theorem sx_len (x y : Str) : (x ++ y).length = x.length + y.length := strLen_append x y
theorem dig_cases {k : Int} (h0 : 0 ≤ k) (h1 : k < 10) : k = 0 ∨ k = 1 ∨ k = 2 ∨ k = 3 ∨ k = 4 ∨ k = 5 ∨ k = 6 ∨ k = 7 ∨ k = 8 ∨ k = 9 := by omega
theorem dig_len {k : Int} (h0 : 0 ≤ k) (h1 : k < 10) : (Str.ofString (toString k)).length = 1 := by
  rcases dig_cases h0 h1 with rfl | rfl | rfl | rfl | rfl | rfl | rfl | rfl | rfl | rfl <;> decide +kernel
theorem cut_to {ns : List Int} {k : Nat} : cutV (ns.map V.int) none (some (k : Int)) = (ns.take k).map V.int := by
  unfold cutV
  rw [HT.sIx_none, HT.sIx_nat, List.drop_zero, Nat.sub_zero, List.length_map, List.map_take]
  by_cases h : k ≤ ns.length
  · rw [Nat.min_eq_left h]
  · rw [Nat.min_eq_right (by omega), List.take_of_length_le (by simp), List.take_of_length_le (by simp; omega)]
end L2
namespace L2
open PySem
theorem nox_K {X : Cx} : X.nox.K = X.K := rfl
theorem wish_K {X : Cx} {E : Value → Shared → Prop} : (X.wish E).K = X.K := rfl
section
variable {σ : St} {H : Hp} {Q : VK} {D : Ends} {nn bb cc : St → Hp → Prop} {rr : VK} {t u : TS} {ta tb tc te : TE} {tA tB : TT} {g : TG} {QT : Bool → Hp → Prop} {QA : List V → Hp → Prop} {QS : St → Hp → Prop}
theorem i_seq (h : t ⟨u ⟨nn, rr, bb, cc⟩, rr, bb, cc⟩ σ H) : tSeq t u ⟨nn, rr, bb, cc⟩ σ H := h
theorem i_asg (h : te σ H fun x H1 => g x σ H1 nn) : tAsg te g ⟨nn, rr, bb, cc⟩ σ H := h
theorem i_name {i : Nat} {v : V} (h : QS (σ.set i (some v)) H) : gName i v σ H QS := h
theorem i_var {i : Nat} {v : V} (e : σ[i]? = some (some v)) (h : Q v H) : tVar i σ H Q := ⟨v, e, h⟩
theorem i_c {v : V} (h : Q v H) : tC v σ H Q := h
theorem i_op {r : R2} (h : ta σ H fun x H1 => tb σ H1 fun y H2 => r x y H2 Q) : tOp r ta tb σ H Q := h
theorem i_un {r : V → Hp → VK → Prop} (h : ta σ H fun x H1 => r x H1 Q) : tUn r ta σ H Q := h
theorem i_rU {f : Int → V} {i : Int} (h : Q (f i) H) : rU f (.int i) H Q := ⟨i, rfl, h⟩
theorem i_rI {C : Int → Int → Prop} {f : Int → Int → V} {i j : Int} (c : C i j) (h : Q (f i j) H) : rI C f (.int i) (.int j) H Q := ⟨i, j, rfl, rfl, c, h⟩
theorem i_rI0 {f : Int → Int → V} {i j : Int} (h : Q (f i j) H) : rI0 f (.int i) (.int j) H Q := ⟨i, j, rfl, rfl, h⟩
theorem i_plusI {i j : Int} (h : Q (.int (i + j)) H) : rPlus (.int i) (.int j) H Q := h
theorem i_plusL {l b : Addr} {xs zs : List V} (h1 : H l = some (.lst xs)) (h2 : H b = some (.lst zs)) (z : xs.length + zs.length ≤ sizeLine) (h : New H (.lst (xs ++ zs)) Q) : rPlus (.ref l) (.ref b) H Q := ⟨xs, zs, h1, h2, z, h⟩
theorem i_timesI {i j : Int} (c : CBig i j) (h : Q (.int (i * j)) H) : rTimes (.int i) (.int j) H Q := ⟨c, h⟩
theorem decI (i j : Int) : decide (V.int i = V.int j) = decide (i = j) := by rw [Bool.eq_iff_iff]; simp
theorem decS (i j : Str) : decide (V.str i = V.str j) = decide (i = j) := by rw [Bool.eq_iff_iff]; simp
theorem decB (i j : Bool) : decide (V.bl i = V.bl j) = decide (i = j) := by rw [Bool.eq_iff_iff]; simp
theorem i_eqI {i j : Int} (h : Q (.bl (decide (i = j))) H) : rEq (.int i) (.int j) H Q := ⟨rfl, by rw [decI]; exact h⟩
theorem i_eqS {i j : Str} (h : Q (.bl (decide (i = j))) H) : rEq (.str i) (.str j) H Q := ⟨rfl, by rw [decS]; exact h⟩
theorem i_eqB {i j : Bool} (h : Q (.bl (decide (i = j))) H) : rEq (.bl i) (.bl j) H Q := ⟨rfl, by rw [decB]; exact h⟩
theorem i_neI {i j : Int} (h : Q (.bl (!decide (i = j))) H) : rNe (.int i) (.int j) H Q := ⟨rfl, by rw [decI]; exact h⟩
theorem i_neS {i j : Str} (h : Q (.bl (!decide (i = j))) H) : rNe (.str i) (.str j) H Q := ⟨rfl, by rw [decS]; exact h⟩
theorem i_neB {i j : Bool} (h : Q (.bl (!decide (i = j))) H) : rNe (.bl i) (.bl j) H Q := ⟨rfl, by rw [decB]; exact h⟩
theorem i_test (h : te σ H fun x H' => ∃ k, x = .bl k ∧ QT k H') : tTest te σ H QT := h
theorem i_bl {k : Bool} {p : Bool → Prop} (h : p k) : ∃ j, V.bl k = V.bl j ∧ p j := ⟨k, rfl, h⟩
theorem i_ifS (h : tA σ H fun b H1 => if b = true then t D σ H1 else u D σ H1) : tIfS tA t u D σ H := h
theorem i_if (h : tA σ H fun b H1 => if b = true then ta σ H1 Q else tb σ H1 Q) : tIf tA ta tb σ H Q := h
theorem i_ret (h : te σ H rr) : tRet te ⟨nn, rr, bb, cc⟩ σ H := h
theorem i_retN (h : rr .non H) : tRetN ⟨nn, rr, bb, cc⟩ σ H := h
theorem i_next (h : nn σ H) : tNext ⟨nn, rr, bb, cc⟩ σ H := h
theorem i_drop (h : te σ H fun _ H1 => nn σ H1) : tDrop te ⟨nn, rr, bb, cc⟩ σ H := h
theorem i_break (h : bb σ H) : tBreak ⟨nn, rr, bb, cc⟩ σ H := h
theorem i_cont (h : cc σ H) : tCont ⟨nn, rr, bb, cc⟩ σ H := h
theorem i_cons {tr : TA} (h : te σ H fun x H1 => tr σ H1 fun xs H2 => QA (x :: xs) H2) : tCons te tr σ H QA := h
theorem i_nil (h : QA [] H) : tNil σ H QA := h
theorem i_cb {r : List V → Hp → VK → Prop} {ts : TA} (h : ts σ H fun vs H1 => r vs H1 Q) : tCB r ts σ H Q := h
theorem i_call {sp : Sp} {dvs : List V} {E : XK} {ts : TA} (h : ts σ H fun vs H1 => sp (vs ++ dvs) H1 Q E) : tCall sp dvs E ts σ H Q := h
theorem i_lst {ts : TA} (h : ts σ H fun xs H1 => xs.length ≤ sizeLine ∧ New H1 (.lst xs) Q) : tLstN ts σ H Q := h
theorem i_tup {ts : TA} (h : ts σ H fun xs H1 => xs.length ≤ sizeLine ∧ New H1 (.tup xs) Q) : tTupN ts σ H Q := h
theorem i_szA {n : Nat} {P : Prop} (h : n ≤ sizeLine) (p : P) : n ≤ sizeLine ∧ P := ⟨h, p⟩
theorem i_rgA {j : Int} {P : Prop} (h : -(2 ^ 62) ≤ j) (h' : j < 2 ^ 62) (p : P) : -(2 ^ 62) ≤ j ∧ j < 2 ^ 62 ∧ P := ⟨h, h', p⟩
theorem i_noIf (h : QT true H) : tNoIf σ H QT := h
theorem i_not (h : tA σ H fun c H1 => QT (!c) H1) : tNot tA σ H QT := h
theorem i_and (h : tA σ H fun c H1 => if c = true then tB σ H1 QT else QT false H1) : tAnd tA tB σ H QT := h
theorem i_or (h : tA σ H fun c H1 => if c = true then QT true H1 else tB σ H1 QT) : tOr tA tB σ H QT := h
theorem i_andV (h : ta σ H fun x H1 => ∃ c, x = .bl c ∧ if c = true then tb σ H1 Q else Q (.bl false) H1) : tAndV ta tb σ H Q := h
theorem i_orV (h : ta σ H fun x H1 => ∃ c, x = .bl c ∧ if c = true then Q (.bl true) H1 else tb σ H1 Q) : tOrV ta tb σ H Q := h
theorem i_notV (h : ta σ H fun x H1 => ∃ c, x = .bl c ∧ Q (.bl (!c)) H1) : tNotV ta σ H Q := h
theorem i_strS {z : Str} (h : Q (.str z) H) : rStr [.str z] H Q := h
theorem i_for {wi : TI} (h : wi σ H fun J H1 => ForEnd J g t D σ H1) : tFor wi g t D σ H := h
theorem i_lc {wi : TI} {n : Nat} {caps : List Nat} (h : wi σ H fun J H1 => CompEnd J g tA te n caps σ H1 Q) : tLC wi g tA te n caps σ H Q := h
theorem i_rng1 {R : It → Hp → Prop} {ts : TA} (h : ts σ H fun vs H1 => ∃ j : Int, vs = [.int j] ∧ -(2 ^ 62) ≤ j ∧ j < 2 ^ 62 ∧ R (Itr 0 j.toNat) H1) : iRng1 ts σ H R := h
theorem i_iList {K : PySem.W.Frag} {R : It → Hp → Prop} (h : te σ H fun x H1 => ∃ a, x = .ref a ∧ (∃ xs, SqL K H1 a xs) ∧ R (Itl K a) H1) : iList K te σ H R := h
theorem i_iTup {K : PySem.W.Frag} {R : It → Hp → Prop} (h : te σ H fun x H1 => ∃ a, x = .ref a ∧ (∃ xs, SqT K H1 a xs) ∧ R (Itt K a) H1) : iTup K te σ H R := h
theorem i_iStr {R : It → Hp → Prop} (h : te σ H fun x H1 => ∃ z, x = .str z ∧ R (Its z) H1) : iStr te σ H R := h
theorem i_rng {j : Int} {p : Int → Prop} (h : p j) : ∃ i : Int, [V.int j] = [V.int i] ∧ p i := ⟨j, rfl, h⟩
theorem i_ref {a : Addr} {p : Addr → Prop} (h : p a) : ∃ b, V.ref a = V.ref b ∧ p b := ⟨a, rfl, h⟩
theorem i_sx {z : Str} {p : Str → Prop} (h : p z) : ∃ b, V.str z = V.str b ∧ p b := ⟨z, rfl, h⟩
theorem i_bm {K : PySem.W.Frag} {T : String} {r : V → List V → Hp → VK → Prop} {to : TE} {ts : TA} (h : to σ H fun x H1 => tyV K T x H1 ∧ ts σ H1 fun xs H2 => r x xs H2 Q) : tBM K T r to ts σ H Q := h
theorem i_bm0 {K : PySem.W.Frag} {T : String} {r : V → List V → Hp → VK → Prop} {to : TE} (h : to σ H fun x H1 => tyV K T x H1 ∧ r x [] H1 Q) : tBM0 K T r to σ H Q := h
theorem i_tyS {K : PySem.W.Frag} {z : Str} {P : Prop} (h : P) : tyV K "str" (.str z) H ∧ P := ⟨rfl, h⟩
theorem i_ixL {K : PySem.W.Frag} {p : Addr} {xs : List V} {i : Int} {v : V} (h1 : SqL K H p xs) (h2 : atI xs i = some v) (h : Q v H) : rIxL K (.ref p) (.int i) H Q := ⟨p, xs, i, v, rfl, rfl, h1, h2, h⟩
theorem i_ixT {K : PySem.W.Frag} {p : Addr} {xs : List V} {i : Int} {v : V} (h1 : SqT K H p xs) (h2 : atI xs i = some v) (h : Q v H) : rIxT K (.ref p) (.int i) H Q := ⟨p, xs, i, v, rfl, rfl, h1, h2, h⟩
theorem i_sl {r : V → Option Int → Option Int → Hp → VK → Prop} {tl th : TO} (h : te σ H fun x H1 => tl σ H1 fun l H2 => th σ H2 fun u H3 => r x l u H3 Q) : tSl r te tl th σ H Q := h
theorem i_nopart {QO : Option Int → Hp → Prop} (h : QO none H) : tNoPart σ H QO := h
theorem i_part {QO : Option Int → Hp → Prop} (h : te σ H fun x H1 => ∃ i, x = .int i ∧ QO (some i) H1) : tPart te σ H QO := h
theorem i_ix1 {i : Int} {p : Int → Prop} (h : p i) : ∃ j, V.int i = V.int j ∧ p j := ⟨i, rfl, h⟩
theorem i_slL {K : PySem.W.Frag} {a : Addr} {xs : List V} {lo hi : Option Int} (h1 : SqL K H a xs) (h : New H (.lst (cutV xs lo hi)) Q) : rSlN K (.ref a) lo hi H Q := ⟨a, xs, rfl, h1, h⟩
theorem i_itT {A B : Prop} (h : A) : if true = true then A else B := iteT h
theorem i_itF {A B : Prop} (h : B) : if false = true then A else B := iteF h
theorem i_itnT {A B : Prop} (h : B) : if (!true) = true then A else B := iteF h
theorem i_itnF {A B : Prop} (h : A) : if (!false) = true then A else B := iteT h
theorem i_itDT {c A B : Prop} [Decidable c] (hc : c) (h : A) : if decide c = true then A else B := by rw [decide_eq_true hc]; exact iteT h
theorem i_itDF {c A B : Prop} [Decidable c] (hc : ¬ c) (h : B) : if decide c = true then A else B := by rw [decide_eq_false hc]; exact iteF h
theorem i_itNT {c A B : Prop} [Decidable c] (hc : ¬ c) (h : A) : if (!decide c) = true then A else B := by rw [decide_eq_false hc]; exact iteT h
theorem i_itNF {c A B : Prop} [Decidable c] (hc : c) (h : B) : if (!decide c) = true then A else B := by rw [decide_eq_true hc]; exact iteF h
theorem i_chain {r r' : R2} (h : ta σ H fun x H1 => tb σ H1 fun y H2 => r x y H2 fun z H3 => ∃ k, z = .bl k ∧ (if k = true then tc σ H3 fun w' H4 => r' y w' H4 Q else Q (.bl false) H3)) : tChain r r' ta tb tc σ H Q := h
theorem i_asgT {K : PySem.W.Frag} {n : Nat} {ts : TGs} {a : Addr} {xs : List V} (h1 : SqT K H a xs) (h2 : xs.length = n) (h : ts xs σ H QS) : gTup K n ts (.ref a) σ H QS := ⟨a, xs, rfl, h1, h2, h⟩
theorem i_gnil (h : QS σ H) : gNil [] σ H QS := ⟨rfl, h⟩
theorem i_gcons {gt : TG} {us : TGs} {v : V} {r : List V} (h : gt v σ H fun σ' H' => us r σ' H' QS) : gCons gt us (v :: r) σ H QS := ⟨v, r, rfl, h⟩
theorem i_find {z y : Str} (h : Q (.int (Txt.find z y)) H) : rFind (.str z) [.str y] H Q := ⟨z, y, rfl, rfl, h⟩
theorem i_isiS {K : PySem.W.Frag} {z : Str} (h : Q (.bl true) H) : rIsi K [V.str z, V.ty "str"] H Q := ⟨_, _, _, true, rfl, .str z, rfl, h⟩
theorem i_isiB {K : PySem.W.Frag} {z : Bool} (h : Q (.bl true) H) : rIsi K [V.bl z, V.ty "bool"] H Q := ⟨_, _, _, true, rfl, .bl z, rfl, h⟩
theorem i_isiI {K : PySem.W.Frag} {z : Int} (h : Q (.bl true) H) : rIsi K [V.int z, V.ty "int"] H Q := ⟨_, _, _, true, rfl, .int z, rfl, h⟩
theorem i_isiIB {K : PySem.W.Frag} {z : Int} (h : Q (.bl false) H) : rIsi K [V.int z, V.ty "bool"] H Q := ⟨_, _, _, false, rfl, .int z, by rfl, h⟩
theorem i_isiL {K : PySem.W.Frag} {a : Addr} {xs : List V} (e : H a = some (.lst xs)) (h : Q (.bl true) H) : rIsi K [V.ref a, V.ty "list"] H Q := ⟨_, _, _, true, rfl, .lst e, rfl, h⟩
theorem i_tru {K : PySem.W.Frag} (h : te σ H fun x H' => ∃ k, TruV K x H' k ∧ QT k H') : tTru K te σ H QT := h
theorem i_truB {K : PySem.W.Frag} {k : Bool} {p : Bool → Prop} (h : p k) : ∃ j, TruV K (.bl k) H j ∧ p j := ⟨k, rfl, h⟩
theorem i_lenL {K : PySem.W.Frag} {p : Addr} {xs : List V} (h1 : SqL K H p xs) (h : Q (.int xs.length) H) : rLen K [V.ref p] H Q := ⟨_, _, rfl, .inl ⟨xs, h1, rfl⟩, h⟩
theorem i_intB {k : Bool} (h : Q (.int (if k then 1 else 0)) H) : rToInt [V.bl k] H Q := .inr ⟨k, rfl, h⟩
theorem i_intI {k : Int} (h : Q (.int k) H) : rToInt [V.int k] H Q := .inl ⟨k, rfl, h⟩
theorem i_isB {a b : Bool} (h : Q (.bl (a == b)) H) : rIsB (.bl a) (.bl b) H Q := ⟨a, b, rfl, rfl, h⟩
theorem i_inS {x y : Str} (h : Q (.bl (!(Builtin.Str.occurrences y x 0 y.length 1).isEmpty)) H) : rInS (.str x) (.str y) H Q := ⟨x, y, rfl, rfl, h⟩
theorem i_listL {K : PySem.W.Frag} {p : Addr} {ys : List V} (h1 : SqL K H p ys) (h : New H (.lst ys) Q) : rListN K [.ref p] H Q := ⟨p, ys, rfl, .inl h1, h⟩
end
end L2
namespace L2
open PySem PySem.Spec PyProof.Rows
def rIndex (K : PySem.W.Frag) : V → List V → Hp → VK → Prop := fun x vs H Q => ∃ l ys y j, x = .ref l ∧ vs = [.str y] ∧ SqL K H l (strsV ys) ∧ ys[j]? = some y ∧ (∀ m, m < j → ys[m]? ≠ some y) ∧ Q (.int (j : Nat)) H
section
variable {X : Cx}
def rNeE (K : PySem.W.Frag) (neg : Bool) : R2 := fun x y H Q => ∃ l b xs, x = .ref l ∧ y = .ref b ∧ SqL K H l xs ∧ SqL K H b [] ∧ Q (.bl (if neg then !xs.isEmpty else xs.isEmpty)) H
def refsV : List V → Bool := fun xs => xs.all fun x => match x with | .ref _ => true | _ => false
def rEqR (K : PySem.W.Frag) : R2 := fun x y H Q => ∃ l b xs, x = .ref l ∧ y = .ref b ∧ SqL K H l xs ∧ SqL K H b xs ∧ refsV xs = true ∧ Q (.bl true) H
end
theorem cc_pairs {K : PySem.W.Frag} {a : Addr} {xs : List V} {te : TE} {tt : TT} {caps : List Nat} {σ : St} {H : Hp} {Q : VK} (hz : xs.length ≤ sizeLine) (Pv : Nat → List V → Hp → Prop) (h0 : Pv 0 [] H) (hl : ∀ i acc H, Pv i acc H → acc.length ≤ i ∧ SqL K H a xs)
    (hs : ∀ i x acc H, xs[i]? = some x → Pv i acc H → ∃ p u v, x = .ref p ∧ SqT K H p [u, v] ∧ tt (some u :: some v :: capV caps σ) H fun b H4 => if b = true then te (some u :: some v :: capV caps σ) H4 fun y H5 => Pv (i + 1) (acc ++ [y]) H5 else Pv (i + 1) acc H4)
    (hd : ∀ acc H, Pv xs.length acc H → New H (.lst acc) Q) : CompEnd (Itl K a) (gTup K 2 (gCons (gName 0) (gCons (gName 1) gNil))) tt te 2 caps σ H Q := by
  refine ⟨fun i m acc σ' H => m = xs.length - i ∧ i ≤ xs.length ∧ (∃ u v, σ' = u :: v :: capV caps σ) ∧ Pv i acc H, ⟨xs.length, by simp, Nat.zero_le _, ⟨none, none, rfl⟩, h0⟩, ?_⟩
  rintro i m acc σ' H' ⟨rfl, hi, ⟨u0, v0, rfl⟩, p⟩
  obtain ⟨hl1, hq⟩ := hl i acc H' p
  by_cases hlt : i < xs.length
  · refine .inr ⟨⟨xs, xs[i], hq, by simp [hlt]⟩, by omega, fun ac σ2 H2 => (∃ u v, σ2 = u :: v :: capV caps σ) ∧ Pv (i + 1) ac H2, fun ac σ2 H2 ⟨e, p'⟩ => ⟨xs.length - (i + 1), by omega, rfl, hlt, e, p'⟩, fun x H2 y => ?_⟩
    obtain ⟨e, y⟩ := y
    subst e
    obtain ⟨q, u, v, rfl, hT, hst⟩ := hs i x acc _ (y xs hq) p
    have eN : ∀ ac H5, ((∃ u1 v1, some u :: some v :: capV caps σ = u1 :: v1 :: capV caps σ) ∧ Pv (i + 1) ac H5) = Pv (i + 1) ac H5 := fun ac H5 => propext ⟨And.right, fun p => ⟨⟨_, _, rfl⟩, p⟩⟩
    refine ⟨q, [u, v], rfl, hT, rfl, u, [v], rfl, v, [], rfl, rfl, ?_⟩
    show tt (some u :: some v :: capV caps σ) _ fun b H4 => if b = true then te (some u :: some v :: capV caps σ) H4 fun y H5 => ((∃ u1 v1, some u :: some v :: capV caps σ = u1 :: v1 :: capV caps σ) ∧ Pv (i + 1) (acc ++ [y]) H5) else ((∃ u1 v1, some u :: some v :: capV caps σ = u1 :: v1 :: capV caps σ) ∧ Pv (i + 1) acc H4)
    simp only [eN]
    exact hst
  · have e : i = xs.length := by omega
    subst e
    exact .inl ⟨⟨xs, hq, Nat.le_refl _⟩, New.to (hd acc H' p)⟩
section
variable {σ : St} {H : Hp} {Q : VK}
theorem i_append {l : Addr} {xs : List V} {y : V} (h1 : H l = some (.lst xs)) (hz : xs.length < sizeLine) (h : Q .non (upd H l (.lst (xs ++ [y])))) : rAppend (.ref l) [y] H Q := ⟨l, xs, y, rfl, rfl, h1, hz, h⟩
theorem i_tyL {K : PySem.W.Frag} {l : Addr} {xs : List V} {P : Prop} (h1 : SqL K H l xs) (h : P) : tyV K "list" (.ref l) H ∧ P := ⟨.inl ⟨rfl, xs, h1⟩, h⟩
end
def Tups (H H' : Hp) : Prop := ∀ b xs, H b = some (.tup xs) → H' b = some (.tup xs)
theorem Same.tups {H H' : Hp} (s : Same H H') : Tups H H' := fun b xs h => s b _ h
theorem Tups.trans {H H1 H2 : Hp} (a : Tups H H1) (b : Tups H1 H2) : Tups H H2 := fun c xs h => b c xs (a c xs h)
theorem Tups.refl (H : Hp) : Tups H H := fun _ _ h => h
theorem Tups.upd {H : Hp} {l : Addr} {xs : List V} {o : HO} (h : H l = some (.lst xs)) : Tups H (upd H l o) := fun b ys e => by rw [upd_ne (ne_of e h (fun z => nomatch z))]; exact e
end L2
namespace L2
open PySem
theorem Same.updNew {H H1 : Hp} {l : Addr} {o : HO} (s : Same H H1) (h : H l = none) : Same H (upd H1 l o) := fun b u e => by rw [upd_ne (ne_of_none e h)]; exact s b u e
inductive Ex where
  | num (i : Int)
  | box (n : Str)
  | two (k : Bool) (a b : Ex)
def Ex.h : Ex → Nat
  | .num _ => 0
  | .box _ => 0
  | .two _ a b => max a.h b.h + 1
def Ex.sz : Ex → Nat
  | .num _ => 1
  | .box _ => 1
  | .two _ a b => a.sz + b.sz + 1
def Ex.ok (ns : List Str) : Ex → Prop
  | .num i => 0 ≤ i ∧ i < 10
  | .box n => n ∈ ns
  | .two _ a b => a.ok ns ∧ b.ok ns
def markS (k : Bool) : Str := if k then "plus" else "less"
def Ex.At (H : Hp) : Ex → V → Prop
  | .num i, v => ∃ a, v = .ref a ∧ H a = some (.tup [.str "number", .int i])
  | .box n, v => ∃ a, v = .ref a ∧ H a = some (.tup [.str "box", .str n])
  | .two k e f, v => ∃ a x y, v = .ref a ∧ H a = some (.tup [.str (markS k), x, y]) ∧ e.At H x ∧ f.At H y
theorem Ex.At.mono {H H' : Hp} (t : Tups H H') : ∀ {e : Ex} {v : V}, e.At H v → e.At H' v
  | .num _, _, ⟨a, h1, h2⟩ => ⟨a, h1, t _ _ h2⟩
  | .box _, _, ⟨a, h1, h2⟩ => ⟨a, h1, t _ _ h2⟩
  | .two _ e f, _, ⟨a, x, y, h1, h2, h3, h4⟩ => ⟨a, x, y, h1, t _ _ h2, Ex.At.mono t h3, Ex.At.mono t h4⟩
def bval : List Str → List Int → Str → Int
  | m :: ns, v :: vs, n => if m = n then v else bval ns vs n
  | _, _, _ => 0
def Ex.ev (ns : List Str) (vs : List Int) : Ex → Int
  | .num i => i
  | .box n => bval ns vs n
  | .two k a b => if k then a.ev ns vs + b.ev ns vs else a.ev ns vs - b.ev ns vs
def fsum : List Str → List Int → Str → Int
  | m :: ns, v :: vs, n => (if m = n then v else 0) + fsum ns vs n
  | _, _, _ => 0
inductive Boxes (H : Hp) : List V → List Str → Prop
  | nil : Boxes H [] []
  | cons {p : Addr} {n : Str} {z : Int} {xs ns} : H p = some (.tup [.str n, .int z]) → Boxes H xs ns → Boxes H (.ref p :: xs) (n :: ns)
theorem Boxes.mono {H H' : Hp} (t : Tups H H') {xs : List V} {ns : List Str} (b : Boxes H xs ns) : Boxes H' xs ns := by
  induction b with
  | nil => exact .nil
  | cons h _ ih => exact .cons (t _ _ h) ih
theorem Boxes.len {H : Hp} {xs : List V} {ns : List Str} (b : Boxes H xs ns) : xs.length = ns.length := by
  induction b with
  | nil => rfl
  | cons _ _ ih => simp [ih]
theorem Boxes.get {H : Hp} : ∀ {xs : List V} {ns : List Str}, Boxes H xs ns → ∀ (i : Nat) (x : V), xs[i]? = some x → ∃ (p : Addr) (n : Str) (z : Int), x = .ref p ∧ ns[i]? = some n ∧ H p = some (.tup [.str n, .int z])
  | _, _, .nil, i, x, e => by simp at e
  | _, _, .cons h r, 0, x, e => by simp at e; subst e; exact ⟨_, _, _, rfl, rfl, h⟩
  | _, _, .cons h r, i + 1, x, e => r.get i x (by simpa using e)
theorem Boxes.snoc {H : Hp} {xs : List V} {ns : List Str} (b : Boxes H xs ns) {p : Addr} {n : Str} {z : Int} (h : H p = some (.tup [.str n, .int z])) : Boxes H (xs ++ [.ref p]) (ns ++ [n]) := by
  induction b with
  | nil => exact .cons h .nil
  | cons h' _ ih => exact .cons h' ih
inductive Pile (H : Hp) : List V → List (Ex × Int) → Prop
  | nil : Pile H [] []
  | snoc {p : Addr} {x : V} {e : Ex} {s : Int} {xs ps} : Pile H xs ps → H p = some (.tup [x, .int s]) → e.At H x → (s = 1 ∨ s = -1) → Pile H (xs ++ [.ref p]) ((e, s) :: ps)
theorem Pile.mono {H H' : Hp} (t : Tups H H') {xs : List V} {ps : List (Ex × Int)} (b : Pile H xs ps) : Pile H' xs ps := by
  induction b with
  | nil => exact .nil
  | snoc _ h1 h2 h3 ih => exact .snoc ih (t _ _ h1) (h2.mono t) h3
def psum (ns : List Str) (vs : List Int) : List (Ex × Int) → Int
  | [] => 0
  | (e, s) :: r => s * e.ev ns vs + psum ns vs r
def psz : List (Ex × Int) → Nat
  | [] => 0
  | (e, _) :: r => e.sz + psz r
def pok (ns : List Str) : List (Ex × Int) → Prop
  | [] => True
  | (e, _) :: r => e.ok ns ∧ pok ns r
end L2
namespace L2
open PySem PySem.Spec PyProof.Rows
def rEqB (K : PySem.W.Frag) : R2 := fun x y H Q => ∃ l b ys zs, x = .ref l ∧ y = .ref b ∧ SqL K H l (blsV ys) ∧ SqL K H b (blsV zs) ∧ ys.length = zs.length ∧ Q (.bl (decide (ys = zs))) H
inductive Cd where
  | cmp (k : Bool) (a b : Ex)
  | nt (c : Cd)
  | both (c d : Cd)
def Cd.h : Cd → Nat
  | .cmp _ _ _ => 0
  | .nt c => c.h + 1
  | .both c d => max c.h d.h + 1
def Cd.ok (ns : List Str) (n : Nat) : Cd → Prop
  | .cmp _ a b => (a.ok ns ∧ a.h ≤ n) ∧ b.ok ns ∧ b.h ≤ n
  | .nt c => c.ok ns n
  | .both c d => c.ok ns n ∧ d.ok ns n
def markC (k : Bool) : Str := if k then "same" else "under"
def Cd.At (H : Hp) : Cd → V → Prop
  | .cmp k e f, v => ∃ a x y, v = .ref a ∧ H a = some (.tup [.str (markC k), x, y]) ∧ e.At H x ∧ f.At H y
  | .nt c, v => ∃ a x, v = .ref a ∧ H a = some (.tup [.str "not", x]) ∧ c.At H x
  | .both c d, v => ∃ a x y, v = .ref a ∧ H a = some (.tup [.str "both", x, y]) ∧ c.At H x ∧ d.At H y
theorem Cd.At.mono {H H' : Hp} (t : Tups H H') : ∀ {c : Cd} {v : V}, c.At H v → c.At H' v
  | .cmp _ e f, _, ⟨a, x, y, h1, h2, h3, h4⟩ => ⟨a, x, y, h1, t _ _ h2, h3.mono t, h4.mono t⟩
  | .nt c, _, ⟨a, x, h1, h2, h3⟩ => ⟨a, x, h1, t _ _ h2, Cd.At.mono t h3⟩
  | .both c d, _, ⟨a, x, y, h1, h2, h3, h4⟩ => ⟨a, x, y, h1, t _ _ h2, Cd.At.mono t h3, Cd.At.mono t h4⟩
def Cd.ev (ns : List Str) (vs : List Int) : Cd → Bool
  | .cmp k a b => if k then decide (a.ev ns vs = b.ev ns vs) else decide (a.ev ns vs < b.ev ns vs)
  | .nt c => !c.ev ns vs
  | .both c d => c.ev ns vs && d.ev ns vs
end L2
namespace L2
open PySem PySem.Spec PyProof.Rows
def rSplit : V → List V → Hp → VK → Prop := fun x vs H Q => ∃ z y, x = .str z ∧ vs = [.str y] ∧ (y.length == 0) = false ∧ z.length + 2 ≤ sizeLine ∧ New H (.lst (strsV (Txt.split z y))) Q
def jl (c : Nat) : List (List Nat) → List Nat
  | [] => []
  | [x] => x
  | x :: y :: r => x ++ c :: jl c (y :: r)
theorem jl_inj {c : Nat} : ∀ {xs ys : List (List Nat)}, xs ≠ [] → ys ≠ [] → (∀ x ∈ xs, c ∉ x) → (∀ y ∈ ys, c ∉ y) → jl c xs = jl c ys → xs = ys
  | [], _, h, _, _, _, _ => absurd rfl h
  | _, [], _, h, _, _, _ => absurd rfl h
  | [x], [y], _, _, _, _, e => by simp only [jl] at e; rw [e]
  | [x], y :: z :: r, _, _, hx, _, e => by
    simp only [jl] at e
    exact absurd (show c ∈ x by rw [e]; simp) (hx x (by simp))
  | x :: z :: r, [y], _, _, _, hy, e => by
    simp only [jl] at e
    exact absurd (show c ∈ y by rw [← e]; simp) (hy y (by simp))
  | x :: z :: r, y :: w :: r', _, _, hx, hy, e => by
    simp only [jl] at e
    have cut : ∀ (a b : List Nat) (s t : List Nat), c ∉ a → c ∉ b → a ++ c :: s = b ++ c :: t → a = b ∧ s = t := by
      intro a
      induction a with
      | nil =>
        intro b s t _ hb e
        cases b with
        | nil => simpa using e
        | cons d b =>
          simp only [List.nil_append, List.cons_append, List.cons.injEq] at e
          exact absurd (show c ∈ d :: b by rw [e.1]; simp) hb
      | cons d a ih =>
        intro b s t ha hb e
        cases b with
        | nil =>
          simp only [List.nil_append, List.cons_append, List.cons.injEq] at e
          exact absurd (show c ∈ d :: a by rw [← e.1]; simp) ha
        | cons d' b =>
          simp only [List.cons_append, List.cons.injEq] at e
          obtain ⟨h1, h2⟩ := ih b s t (fun h => ha (List.mem_cons_of_mem _ h)) (fun h => hb (List.mem_cons_of_mem _ h)) e.2
          exact ⟨by rw [e.1, h1], h2⟩
    obtain ⟨h1, h2⟩ := cut _ _ _ _ (hx x (by simp)) (hy y (by simp)) e
    have := jl_inj (by simp) (by simp) (fun a h => hx a (List.mem_cons_of_mem _ h)) (fun a h => hy a (List.mem_cons_of_mem _ h)) h2
    rw [h1, this]
theorem join_jl (c : Nat) : ∀ ws : List Str, (Str.join ⟨#[c]⟩ ws).cps.toList = jl c (ws.map fun w => w.cps.toList)
  | [] => rfl
  | [x] => rfl
  | x :: y :: r => by
    show (x ++ (⟨#[c]⟩ : Str) ++ Str.join ⟨#[c]⟩ (y :: r)).cps.toList = _
    rw [sx_app, sx_app, join_jl c (y :: r)]
    simp [jl]
theorem split_join {c : Nat} {ws : List Str} (hne : ws ≠ []) (hf : ∀ w ∈ ws, c ∉ w.cps.toList) : Txt.split (Str.join ⟨#[c]⟩ ws) ⟨#[c]⟩ = ws := by
  have h1 := StrLaws.join_split (Str.join ⟨#[c]⟩ ws) ⟨#[c]⟩
  have h2 := congrArg (fun z : Str => z.cps.toList) h1
  simp only [join_jl] at h2
  have hp := split_pos (Str.join ⟨#[c]⟩ ws) ⟨#[c]⟩
  have h3 := jl_inj (xs := (Txt.split (Str.join ⟨#[c]⟩ ws) ⟨#[c]⟩).map fun w => w.cps.toList) (ys := ws.map fun w => w.cps.toList)
    (fun e => by have := congrArg List.length e; simp only [List.length_map, List.length_nil] at this; omega) (fun e => hne (by simpa using e))
    (fun x hx => by
      obtain ⟨w, hw, rfl⟩ := List.mem_map.mp hx
      exact StrLaws.split_free _ c w hw)
    (fun x hx => by
      obtain ⟨w, hw, rfl⟩ := List.mem_map.mp hx
      exact hf w hw) h2
  have inj : ∀ {a b : List Str}, (a.map fun w => w.cps.toList) = (b.map fun w => w.cps.toList) → a = b := by
    intro a
    induction a with
    | nil => intro b h; cases b with
      | nil => rfl
      | cons y b => simp at h
    | cons x a ih => intro b h; cases b with
      | nil => simp at h
      | cons y b =>
        simp only [List.map_cons, List.cons.injEq] at h
        rw [sx_ext h.1, ih h.2]
  exact inj h3
theorem join_app (s : Str) : ∀ {a b : List Str}, a ≠ [] → b ≠ [] → Str.join s (a ++ b) = Str.join s a ++ s ++ Str.join s b
  | [], _, h, _ => absurd rfl h
  | _, [], _, h => absurd rfl h
  | [x], y :: b, _, _ => rfl
  | x :: z :: a, y :: b, _, _ => by
    show x ++ s ++ Str.join s ((z :: a) ++ (y :: b)) = x ++ s ++ Str.join s (z :: a) ++ s ++ Str.join s (y :: b)
    rw [join_app s (by simp) (by simp), sx_assoc, sx_assoc, sx_assoc, sx_assoc, sx_assoc]
end L2
namespace L2
open PySem
abbrev bl1 : Str := ⟨#[32]⟩
def Tx (ws : List Str) : Str := Str.join bl1 ws
def sgnE (k : Bool) : Str := if k then "+" else "-"
def sgnC (k : Bool) : Str := if k then "=" else "<"
def Ex.words : Ex → List Str
  | .num i => [Str.ofString (toString i)]
  | .box n => [n]
  | .two k a b => Str.ofString "(" :: ((a.words ++ sgnE k :: b.words) ++ [Str.ofString ")"])
def Cd.words : Cd → List Str
  | .cmp k a b => a.words ++ sgnC k :: b.words
  | .nt c => Str.ofString "not" :: c.words
  | .both c d => Str.ofString "(" :: ((c.words ++ Str.ofString "and" :: d.words) ++ [Str.ofString ")"])
def Ex.names : Ex → List Str
  | .num _ => []
  | .box n => [n]
  | .two _ a b => a.names ++ b.names
def Cd.names : Cd → List Str
  | .cmp _ a b => a.names ++ b.names
  | .nt c => c.names
  | .both c d => c.names ++ d.names
theorem Ex.words_ne : ∀ e : Ex, e.words ≠ []
  | .num _ => by simp [Ex.words]
  | .box _ => by simp [Ex.words]
  | .two _ _ _ => by simp [Ex.words]
theorem Cd.words_ne : ∀ c : Cd, c.words ≠ []
  | .cmp _ a _ => by simp [Cd.words]
  | .nt _ => by simp [Cd.words]
  | .both _ _ => by simp [Cd.words]
theorem tx_mid {a b : List Str} (m : Str) (ha : a ≠ []) (hb : b ≠ []) : Tx (a ++ m :: b) = Tx a ++ (bl1 ++ m ++ bl1) ++ Tx b := by
  unfold Tx
  rw [show a ++ m :: b = a ++ ([m] ++ b) from rfl, join_app bl1 ha (by simp), join_app bl1 (a := [m]) (by simp) hb]
  show Str.join bl1 a ++ bl1 ++ (m ++ bl1 ++ Str.join bl1 b) = _
  simp only [sx_assoc]
theorem tx_cons (m : Str) {a : List Str} (ha : a ≠ []) : Tx (m :: a) = m ++ bl1 ++ Tx a := by
  unfold Tx
  rw [show m :: a = [m] ++ a from rfl, join_app bl1 (a := [m]) (by simp) ha]
  rfl
theorem tx_snoc (m : Str) {a : List Str} (ha : a ≠ []) : Tx (a ++ [m]) = Tx a ++ (bl1 ++ m) := by
  unfold Tx
  rw [join_app bl1 ha (by simp)]
  show Str.join bl1 a ++ bl1 ++ m = _
  rw [sx_assoc]
def isLow (y : Str) : Bool := !y.cps.toList.isEmpty && y.cps.toList.all fun c => decide (97 ≤ c) && decide (c ≤ 122)
structure Good (ys : List Str) : Prop where
  low : ∀ y ∈ ys, isLow y = true
  nt : (Str.ofString "not") ∉ ys
  an : (Str.ofString "and") ∉ ys
  ln : ∀ y ∈ ys, y.length ≤ 8
theorem Good.no {ys : List Str} (g : Good ys) {y : Str} (h : isLow y = false) : y ∉ ys := fun m => by
  have := g.low y m
  rw [h] at this
  cases this
theorem low_noblank {y : Str} (h : isLow y = true) : 32 ∉ y.cps.toList := fun m => by
  unfold isLow at h
  rw [Bool.and_eq_true, List.all_eq_true] at h
  have := h.2 32 m
  simp at this
theorem dig_facts {i : Int} (h0 : 0 ≤ i) (h1 : i < 10) : isLow (Str.ofString (toString i)) = false ∧ 32 ∉ (Str.ofString (toString i)).cps.toList := by
  rcases dig_cases h0 h1 with rfl | rfl | rfl | rfl | rfl | rfl | rfl | rfl | rfl | rfl <;> decide +kernel
theorem mark_facts : ∀ m ∈ ([Str.ofString "(", Str.ofString ")", Str.ofString "+", Str.ofString "-", Str.ofString "=", Str.ofString "<"] : List Str), isLow m = false ∧ 32 ∉ m.cps.toList ∧ m.length = 1 := by decide +kernel
theorem sgnE_in (k : Bool) : sgnE k ∈ ([Str.ofString "(", Str.ofString ")", Str.ofString "+", Str.ofString "-", Str.ofString "=", Str.ofString "<"] : List Str) := by cases k <;> decide +kernel
theorem sgnC_in (k : Bool) : sgnC k ∈ ([Str.ofString "(", Str.ofString ")", Str.ofString "+", Str.ofString "-", Str.ofString "=", Str.ofString "<"] : List Str) := by cases k <;> decide +kernel
theorem brL_in : Str.ofString "(" ∈ ([Str.ofString "(", Str.ofString ")", Str.ofString "+", Str.ofString "-", Str.ofString "=", Str.ofString "<"] : List Str) := by decide +kernel
theorem brR_in : Str.ofString ")" ∈ ([Str.ofString "(", Str.ofString ")", Str.ofString "+", Str.ofString "-", Str.ofString "=", Str.ofString "<"] : List Str) := by decide +kernel
def pick (ys ws : List Str) : List Str := ws.filter fun w => decide (w ∈ ys)
theorem pick_app (ys a b : List Str) : pick ys (a ++ b) = pick ys a ++ pick ys b := List.filter_append ..
theorem pick_no {ys : List Str} {w : Str} (r : List Str) (h : w ∉ ys) : pick ys (w :: r) = pick ys r := by unfold pick; rw [List.filter_cons, if_neg (by simpa using h)]
theorem pick_nil (ys : List Str) : pick ys [] = [] := rfl
theorem Ex.pick {ys : List Str} (g : Good ys) : ∀ e : Ex, e.ok ys → L2.pick ys e.words = e.names
  | .num i, h => by
    have hi := (dig_facts h.1 h.2).1
    simp only [Ex.words, Ex.names]
    rw [pick_no _ (g.no hi), pick_nil]
  | .box n, h => by
    have h' : n ∈ ys := h
    simp [Ex.words, Ex.names, L2.pick, h']
  | .two k a b, h => by
    simp only [Ex.words, Ex.names]
    rw [pick_no _ (g.no (mark_facts _ brL_in).1), pick_app, pick_app, pick_no _ (g.no (mark_facts _ (sgnE_in k)).1), pick_no _ (g.no (mark_facts _ brR_in).1), pick_nil, Ex.pick g a h.1, Ex.pick g b h.2, List.append_nil]
theorem Cd.pick {ys : List Str} {n : Nat} (g : Good ys) : ∀ c : Cd, c.ok ys n → L2.pick ys c.words = c.names
  | .cmp k a b, h => by
    simp only [Cd.words, Cd.names]
    rw [pick_app, pick_no _ (g.no (mark_facts _ (sgnC_in k)).1), Ex.pick g a h.1.1, Ex.pick g b h.2.1]
  | .nt c, h => by
    simp only [Cd.words, Cd.names]
    rw [pick_no _ g.nt, Cd.pick g c h]
  | .both c d, h => by
    simp only [Cd.words, Cd.names]
    rw [pick_no _ (g.no (mark_facts _ brL_in).1), pick_app, pick_app, pick_no _ g.an, pick_no _ (g.no (mark_facts _ brR_in).1), pick_nil, Cd.pick g c h.1, Cd.pick g d h.2, List.append_nil]
theorem Ex.noblank {ys : List Str} (g : Good ys) : ∀ e : Ex, e.ok ys → ∀ w ∈ e.words, 32 ∉ w.cps.toList
  | .num i, h, w, hw => by
    simp only [Ex.words, List.mem_singleton] at hw
    subst hw
    exact (dig_facts h.1 h.2).2
  | .box n, h, w, hw => by
    simp only [Ex.words, List.mem_singleton] at hw
    subst hw
    exact low_noblank (g.low _ h)
  | .two k a b, h, w, hw => by
    simp only [Ex.words, List.mem_cons, List.mem_append, List.mem_singleton, List.not_mem_nil, or_false] at hw
    rcases hw with rfl | (hw | rfl | hw) | rfl
    · exact (mark_facts _ brL_in).2.1
    · exact Ex.noblank g a h.1 w hw
    · exact (mark_facts _ (sgnE_in k)).2.1
    · exact Ex.noblank g b h.2 w hw
    · exact (mark_facts _ brR_in).2.1
theorem Cd.noblank {ys : List Str} {n : Nat} (g : Good ys) : ∀ c : Cd, c.ok ys n → ∀ w ∈ c.words, 32 ∉ w.cps.toList
  | .cmp k a b, h, w, hw => by
    simp only [Cd.words, List.mem_cons, List.mem_append] at hw
    rcases hw with hw | rfl | hw
    · exact Ex.noblank g a h.1.1 w hw
    · exact (mark_facts _ (sgnC_in k)).2.1
    · exact Ex.noblank g b h.2.1 w hw
  | .nt c, h, w, hw => by
    simp only [Cd.words, List.mem_cons] at hw
    rcases hw with rfl | hw
    · decide +kernel
    · exact Cd.noblank g c h w hw
  | .both c d, h, w, hw => by
    simp only [Cd.words, List.mem_cons, List.mem_append, List.mem_singleton, List.not_mem_nil, or_false] at hw
    rcases hw with rfl | (hw | rfl | hw) | rfl
    · exact (mark_facts _ brL_in).2.1
    · exact Cd.noblank g c h.1 w hw
    · decide +kernel
    · exact Cd.noblank g d h.2 w hw
    · exact (mark_facts _ brR_in).2.1
inductive Th where
  | ex (e : Ex)
  | cd (c : Cd)
def Cd.hh : Cd → Nat
  | .cmp _ a b => max a.h b.h + 1
  | .nt c => c.hh + 1
  | .both c d => max c.hh d.hh + 1
def Cd.sz : Cd → Nat
  | .cmp _ a b => a.sz + b.sz + 1
  | .nt c => c.sz + 1
  | .both c d => c.sz + d.sz + 1
def Th.hh : Th → Nat
  | .ex e => e.h
  | .cd c => c.hh
def Th.ok (ys : List Str) : Th → Prop
  | .ex e => e.ok ys
  | .cd c => c.ok ys 5
def Th.At (H : Hp) : Th → V → Prop
  | .ex e, v => e.At H v
  | .cd c, v => c.At H v
def Th.words : Th → List Str
  | .ex e => e.words
  | .cd c => c.words
def Th.names : Th → List Str
  | .ex e => e.names
  | .cd c => c.names
def Th.sz : Th → Nat
  | .ex e => e.sz
  | .cd c => c.sz
theorem Th.At.mono {H H' : Hp} (t : Tups H H') {x : Th} {v : V} (h : x.At H v) : x.At H' v := by
  cases x with
  | ex e => exact Ex.At.mono t h
  | cd c => exact Cd.At.mono t h
theorem tx_len1 (w : Str) : (Tx [w]).length = w.length := rfl
theorem bl1_len : bl1.length = 1 := rfl
theorem Ex.len {ys : List Str} (g : Good ys) : ∀ e : Ex, e.ok ys → (Tx e.words).length ≤ 12 * e.sz
  | .num i, h => by
    have := dig_len h.1 h.2
    simp only [Ex.words, tx_len1, Ex.sz]
    omega
  | .box n, h => by
    have := g.ln n h
    simp only [Ex.words, tx_len1, Ex.sz]
    omega
  | .two k a b, h => by
    have h1 := Ex.len g a h.1
    have h2 := Ex.len g b h.2
    have e1 := (mark_facts _ brL_in).2.2
    have e2 := (mark_facts _ brR_in).2.2
    have e3 := (mark_facts _ (sgnE_in k)).2.2
    simp only [Ex.words, Ex.sz]
    rw [tx_cons _ (by simp), tx_snoc _ (by simp), tx_mid _ a.words_ne b.words_ne]
    simp only [sx_len, bl1_len, e1, e2, e3]
    omega
theorem Cd.len {ys : List Str} {n : Nat} (g : Good ys) : ∀ c : Cd, c.ok ys n → (Tx c.words).length ≤ 12 * c.sz
  | .cmp k a b, h => by
    have h1 := Ex.len g a h.1.1
    have h2 := Ex.len g b h.2.1
    have e3 := (mark_facts _ (sgnC_in k)).2.2
    simp only [Cd.words, Cd.sz]
    rw [tx_mid _ a.words_ne b.words_ne]
    simp only [sx_len, bl1_len, e3]
    omega
  | .nt c, h => by
    have h1 := Cd.len g c h
    have e1 : (Str.ofString "not").length = 3 := by decide +kernel
    simp only [Cd.words, Cd.sz]
    rw [tx_cons _ c.words_ne]
    simp only [sx_len, bl1_len, e1]
    omega
  | .both c d, h => by
    have h1 := Cd.len g c h.1
    have h2 := Cd.len g d h.2
    have e1 := (mark_facts _ brL_in).2.2
    have e2 := (mark_facts _ brR_in).2.2
    have e3 : (Str.ofString "and").length = 3 := by decide +kernel
    simp only [Cd.words, Cd.sz]
    rw [tx_cons _ (by simp), tx_snoc _ (by simp), tx_mid _ c.words_ne d.words_ne]
    simp only [sx_len, bl1_len, e1, e2, e3]
    omega
theorem Th.len {ys : List Str} (g : Good ys) (x : Th) (h : x.ok ys) : (Tx x.words).length ≤ 12 * x.sz := by
  cases x with
  | ex e => exact Ex.len g e h
  | cd c => exact Cd.len g c h
end L2
namespace L2
open PySem
abbrev markKv : List (Key × V) := [(Sum.inr (Str.ofString "plus"), .str (Str.ofString " + ")), (Sum.inr (Str.ofString "less"), .str (Str.ofString " - ")), (Sum.inr (Str.ofString "same"), .str (Str.ofString " = ")), (Sum.inr (Str.ofString "under"), .str (Str.ofString " < ")), (Sum.inr (Str.ofString "both"), .str (Str.ofString " and "))]
structure Two (H : Hp) (x : Th) (v : V) (m sg : Str) (x1 x2 : Th) (a : Addr) (v1 v2 : V) : Prop where
  v : v = .ref a
  at_ : H a = some (.tup [.str m, v1, v2])
  a1 : x1.At H v1
  a2 : x2.At H v2
  n1 : ¬ m = Str.ofString "number"
  n2 : ¬ m = Str.ofString "box"
  n3 : ¬ m = Str.ofString "not"
  names : x.names = x1.names ++ x2.names
  h1 : x1.hh < x.hh
  h2 : x2.hh < x.hh
  sz : x1.sz + x2.sz + 1 = x.sz
  ok : ∀ ys, x.ok ys → x1.ok ys ∧ x2.ok ys
  mv : valV (mergeK [] markKv) (Sum.inr m) = some (.str (bl1 ++ sg ++ bl1))
  sl : sg.length ≤ 3
  ws : (m ∈ [Str.ofString "same", Str.ofString "under"] ∧ x.words = x1.words ++ sg :: x2.words) ∨ (m ∉ [Str.ofString "same", Str.ofString "under"] ∧ x.words = Str.ofString "(" :: ((x1.words ++ sg :: x2.words) ++ [Str.ofString ")"]))
theorem Th.pick {ys : List Str} (g : Good ys) (x : Th) (h : x.ok ys) : L2.pick ys x.words = x.names := by
  cases x with
  | ex e => exact Ex.pick g e h
  | cd c => exact Cd.pick g c h
theorem Th.noblank {ys : List Str} (g : Good ys) (x : Th) (h : x.ok ys) : ∀ w ∈ x.words, 32 ∉ w.cps.toList := by
  cases x with
  | ex e => exact Ex.noblank g e h
  | cd c => exact Cd.noblank g c h
theorem Th.words_ne (x : Th) : x.words ≠ [] := by
  cases x with
  | ex e => exact e.words_ne
  | cd c => exact c.words_ne
theorem Th.split {ys : List Str} (g : Good ys) (x : Th) (h : x.ok ys) : Txt.split (Tx x.words) bl1 = x.words := split_join x.words_ne (x.noblank g h)
theorem i_dget {σ : St} {H : Hp} {Q : VK} {td ty : TE} (h : td σ H fun x H1 => ty σ H1 fun y H2 => ∃ a v, x = .ref a ∧ DGet H2 a y (some v) ∧ Q v H2) : tDGet td ty σ H Q := h
end L2
namespace L2
open PySem PySem.Spec PyProof.Rows
def fixN (y : Str) : Str := if y ∈ [Str.ofString "not", Str.ofString "and"] then Str.ofString "nota" else y
end L2
namespace L2
open PySem
inductive Tr where
  | non
  | int (i : Int)
  | str (s : Str)
  | tup (xs : List Tr)
  | lst (xs : List Tr)
mutual
def Tr.At (H : Hp) : Tr → V → List Addr → Prop
  | .non, v, fs => v = .non ∧ fs = []
  | .int i, v, fs => v = .int i ∧ fs = []
  | .str s, v, fs => v = .str s ∧ fs = []
  | .tup xs, v, fs => ∃ a vs, v = .ref a ∧ H a = some (.tup vs) ∧ Tr.Ats H xs vs fs
  | .lst xs, v, fs => ∃ a vs gs, v = .ref a ∧ H a = some (.lst vs) ∧ Tr.Ats H xs vs gs ∧ fs = a :: gs
def Tr.Ats (H : Hp) : List Tr → List V → List Addr → Prop
  | [], vs, fs => vs = [] ∧ fs = []
  | x :: xs, vs, fs => ∃ v ws f g, vs = v :: ws ∧ fs = f ++ g ∧ Tr.At H x v f ∧ Tr.Ats H xs ws g
end
def Keep (fs : List Addr) (H H' : Hp) : Prop := Tups H H' ∧ ∀ a ∈ fs, ∀ xs, H a = some (.lst xs) → H' a = some (.lst xs)
theorem Same.keep {H H' : Hp} (s : Same H H') (fs : List Addr) : Keep fs H H' := ⟨s.tups, fun a _ xs h => s a _ h⟩
theorem Keep.upd {fs : List Addr} {H : Hp} {l : Addr} {xs : List V} {o : HO} (h : H l = some (.lst xs)) (n : l ∉ fs) : Keep fs H (upd H l o) := ⟨Tups.upd h, fun a m ys e => by
  have hne : a ≠ l := fun z => n (z ▸ m)
  rw [upd_ne hne]
  exact e⟩
theorem Keep.trans {fs : List Addr} {H H1 H2 : Hp} (a : Keep fs H H1) (b : Keep fs H1 H2) : Keep fs H H2 := ⟨a.1.trans b.1, fun c m xs h => b.2 c m xs (a.2 c m xs h)⟩
theorem Keep.sub {fs gs : List Addr} {H H' : Hp} (k : Keep fs H H') (h : ∀ a ∈ gs, a ∈ fs) : Keep gs H H' := ⟨k.1, fun a m => k.2 a (h a m)⟩
mutual
theorem Tr.At.mono {H H' : Hp} : ∀ {x : Tr} {v : V} {fs : List Addr}, x.At H v fs → Keep fs H H' → x.At H' v fs
  | .non, _, _, h, _ => by simpa only [Tr.At] using h
  | .int _, _, _, h, _ => by simpa only [Tr.At] using h
  | .str _, _, _, h, _ => by simpa only [Tr.At] using h
  | .tup xs, v, fs, h, k => by
    simp only [Tr.At] at h ⊢
    obtain ⟨a, vs, e, g, r⟩ := h
    exact ⟨a, vs, e, k.1 _ _ g, Tr.Ats.mono r k⟩
  | .lst xs, v, fs, h, k => by
    simp only [Tr.At] at h ⊢
    obtain ⟨a, vs, gs, e, g, r, rfl⟩ := h
    exact ⟨a, vs, gs, e, k.2 _ (by simp) _ g, Tr.Ats.mono r (k.sub fun b m => by simp [m]), rfl⟩
theorem Tr.Ats.mono {H H' : Hp} : ∀ {xs : List Tr} {vs : List V} {fs : List Addr}, Tr.Ats H xs vs fs → Keep fs H H' → Tr.Ats H' xs vs fs
  | [], _, _, h, _ => by simpa only [Tr.Ats] using h
  | x :: xs, vs, fs, h, k => by
    simp only [Tr.Ats] at h ⊢
    obtain ⟨v, ws, f, g, e, rfl, a, b⟩ := h
    exact ⟨v, ws, f, g, e, rfl, Tr.At.mono a (k.sub fun c m => by simp [m]), Tr.Ats.mono b (k.sub fun c m => by simp [m])⟩
end
theorem Tr.Ats.snoc {H : Hp} : ∀ {xs : List Tr} {vs : List V} {fs gs : List Addr} {x : Tr} {v : V}, Tr.Ats H xs vs fs → x.At H v gs → Tr.Ats H (xs ++ [x]) (vs ++ [v]) (fs ++ gs)
  | [], vs, fs, gs, x, v, h, a => by
    simp only [Tr.Ats] at h
    obtain ⟨rfl, rfl⟩ := h
    simp only [List.nil_append, Tr.Ats]
    exact ⟨v, [], gs, [], rfl, by simp, a, rfl, rfl⟩
  | y :: xs, vs, fs, gs, x, v, h, a => by
    simp only [Tr.Ats] at h
    obtain ⟨w, ws, f, g, rfl, rfl, b, c⟩ := h
    simp only [List.cons_append, Tr.Ats]
    exact ⟨w, ws ++ [v], f, g ++ gs, rfl, by simp, b, c.snoc a⟩
theorem Tr.Ats.len {H : Hp} : ∀ {xs : List Tr} {vs : List V} {fs : List Addr}, Tr.Ats H xs vs fs → vs.length = xs.length
  | [], vs, fs, h => by
    simp only [Tr.Ats] at h
    obtain ⟨rfl, rfl⟩ := h
    rfl
  | y :: xs, vs, fs, h => by
    simp only [Tr.Ats] at h
    obtain ⟨w, ws, f, g, rfl, rfl, b, c⟩ := h
    simp [c.len]
theorem Tr.Ats.get {H : Hp} : ∀ {xs : List Tr} {vs : List V} {fs : List Addr}, Tr.Ats H xs vs fs → ∀ (i : Nat) (v : V), vs[i]? = some v → ∃ x f, xs[i]? = some x ∧ x.At H v f ∧ ∀ a ∈ f, a ∈ fs
  | [], vs, fs, h, i, v, e => by
    simp only [Tr.Ats] at h
    obtain ⟨rfl, rfl⟩ := h
    simp at e
  | y :: xs, vs, fs, h, i, v, e => by
    simp only [Tr.Ats] at h
    obtain ⟨w, ws, f, g, rfl, rfl, b, c⟩ := h
    cases i with
    | zero =>
      simp at e
      subst e
      exact ⟨y, f, rfl, b, fun a m => by simp [m]⟩
    | succ i =>
      obtain ⟨x, f', h1, h2, h3⟩ := c.get i v (by simpa using e)
      exact ⟨x, f', by simpa using h1, h2, fun a m => by simp [h3 a m]⟩
end L2
namespace L2
open PySem PySem.Spec PyProof.Rows
mutual
def Tr.h : Tr → Nat
  | .non => 0
  | .int _ => 0
  | .str _ => 0
  | .tup xs => Tr.hs xs + 1
  | .lst xs => Tr.hs xs + 1
def Tr.hs : List Tr → Nat
  | [] => 0
  | x :: xs => max x.h (Tr.hs xs)
end
theorem all_tt (n : Nat) : ((List.range n).all fun _ => true) = true := by simp
theorem in1_units (A : Around) : A.in1.units = A.units + 1 := rfl
section
variable {X : Cx} {pins : List (Addr × Obj)} {σ : St} {H : Hp} {s : Shared}
mutual
theorem Tr.eqAt (I : Inv X pins σ H s) : ∀ {t : Tr} {A : Around} {v w : V} {fs gs : List Addr} {u z : Value}, t.At H v fs → t.At H w gs → RelV v u → RelV w z → A.units + t.h < cLine → SeqAt.EqAt A s u z true
  | .non, A, v, w, fs, gs, u, z, h1, h2, r1, r2, hu => by
    simp only [Tr.At] at h1 h2
    obtain ⟨rfl, -⟩ := h1
    obtain ⟨rfl, -⟩ := h2
    cases r1
    cases r2
    exact SeqAt.EqAt.same _
  | .int i, A, v, w, fs, gs, u, z, h1, h2, r1, r2, hu => by
    simp only [Tr.At] at h1 h2
    obtain ⟨rfl, -⟩ := h1
    obtain ⟨rfl, -⟩ := h2
    obtain ⟨t1, rfl⟩ := r1
    obtain ⟨t2, rfl⟩ := r2
    have := SeqAt.EqAt.int_int (A := A) (s := s) i t1 i t2
    simpa using this
  | .str i, A, v, w, fs, gs, u, z, h1, h2, r1, r2, hu => by
    simp only [Tr.At] at h1 h2
    obtain ⟨rfl, -⟩ := h1
    obtain ⟨rfl, -⟩ := h2
    obtain ⟨t1, rfl⟩ := r1
    obtain ⟨t2, rfl⟩ := r2
    have := SeqAt.EqAt.str_str (A := A) (s := s) i t1 i t2
    simpa using this
  | .tup xs, A, v, w, fs, gs, u, z, h1, h2, r1, r2, hu => by
    simp only [Tr.At] at h1 h2
    obtain ⟨a, vs, rfl, e1, c1⟩ := h1
    obtain ⟨b, ws, rfl, e2, c2⟩ := h2
    cases r1
    cases r2
    by_cases hab : a = b
    · subst hab
      exact SeqAt.EqAt.same _
    refine SeqAt.EqAt.of_refs hab ?_
    obtain ⟨is1, q1, p1, _⟩ := I.tuple (SqT.of e1)
    obtain ⟨is2, q2, p2, _⟩ := I.tuple (SqT.of e2)
    simp only [Tr.h] at hu
    have hl : is1.length = is2.length := by rw [← q1.length, ← q2.length, c1.len, c2.len]
    have := SeqAt.RcAt.tuples (A := A) (s := s) (e := fun _ => true) p1 p2 (by omega) (fun j h1 h2 => by
      have := Tr.eqAts I (A := A.in1) c1 c2 q1 q2 (by rw [in1_units]; omega) j (by simpa using h1) (by simpa using h2)
      simpa using this)
    simpa [hl, all_tt] using this
  | .lst xs, A, v, w, fs, gs, u, z, h1, h2, r1, r2, hu => by
    simp only [Tr.At] at h1 h2
    obtain ⟨a, vs, _, rfl, e1, c1, _⟩ := h1
    obtain ⟨b, ws, _, rfl, e2, c2, _⟩ := h2
    cases r1
    cases r2
    by_cases hab : a = b
    · subst hab
      exact SeqAt.EqAt.same _
    refine SeqAt.EqAt.of_refs hab ?_
    obtain ⟨is1, q1, p1, _⟩ := I.list (SqL.of e1)
    obtain ⟨is2, q2, p2, _⟩ := I.list (SqL.of e2)
    simp only [Tr.h] at hu
    have hl : is1.length = is2.length := by rw [← q1.length, ← q2.length, c1.len, c2.len]
    have := SeqAt.RcAt.lists (A := A) (s := s) (e := fun _ => true) p1.isList p2.isList (by simpa using hl) (by omega) (fun j h1 h2 => by
      have := Tr.eqAts I (A := A.in1) c1 c2 q1 q2 (by rw [in1_units]; omega) j (by simpa using h1) (by simpa using h2)
      simpa using this)
    simpa [all_tt] using this
theorem Tr.eqAts (I : Inv X pins σ H s) : ∀ {ts : List Tr} {A : Around} {vs ws : List V} {fs gs : List Addr} {us zs : List Value}, Tr.Ats H ts vs fs → Tr.Ats H ts ws gs → Vals vs us → Vals ws zs → A.units + Tr.hs ts < cLine →
    ∀ (j : Nat) (h1 : j < us.length) (h2 : j < zs.length), SeqAt.EqAt A s us[j] zs[j] true
  | [], A, vs, ws, fs, gs, us, zs, c1, c2, q1, q2, hu, j, h1, h2 => by
    simp only [Tr.Ats] at c1
    obtain ⟨rfl, -⟩ := c1
    cases q1
    exact absurd h1 (by simp)
  | t :: ts, A, vs, ws, fs, gs, us, zs, c1, c2, q1, q2, hu, j, h1, h2 => by
    simp only [Tr.Ats] at c1 c2
    obtain ⟨v, vs, f, g, rfl, rfl, a1, b1⟩ := c1
    obtain ⟨w, ws, f', g', rfl, rfl, a2, b2⟩ := c2
    cases q1 with
    | cons r1 q1 =>
    cases q2 with
    | cons r2 q2 =>
    simp only [Tr.hs] at hu
    cases j with
    | zero => exact Tr.eqAt I a1 a2 r1 r2 (by omega)
    | succ j => exact Tr.eqAts I b1 b2 q1 q2 (by omega) j (by simpa using h1) (by simpa using h2)
end
def rEqT : R2 := fun x y H Q => ∃ t fs gs, (Tr.tup t).At H x fs ∧ (Tr.tup t).At H y gs ∧ Tr.hs t ≤ 60 ∧ Q (.bl true) H
end
end L2
namespace L2
open PySem PySem.Spec PyProof.Rows
theorem isList_but {it l : Addr} {items : Array Value} {h h' : Heap} (hl : h.IsList l items) (e : Heap.ExtBut it h h') (hne : l ≠ it) : h'.IsList l items := by
  obtain ⟨o, ho, r⟩ := hl
  exact ⟨o, e l o hne ho, r⟩
section
variable {prog : Program} {w : World} {A : Around} {E : Value → Shared → Prop}
theorem draw_list {it l : Addr} {items : Array Value} (hne : l ≠ it) : ∀ (n i : Nat) (s : Shared) (Q : List Value → Shared → Prop), s.heap.IsListIter it l i → s.heap.IsList l items → i + n ≤ items.size →
    (∀ h', h'.IsListIter it l (i + n) → Heap.SameBut it s.heap h' → Q ((items.toList.drop i).take n) { s with heap := h' }) → wpAny (model prog w) A (draw (.ref it) n) Q E s
  | 0, i, s, Q, hit, _, _, hQ => by
    show wpAny _ _ (pure []) Q E s
    exact wpAny_pure (by simpa using hQ s.heap hit (Heap.SameBut.refl ..))
  | n + 1, i, s, Q, hit, ht, hle, hQ => by
    have hlt : i < items.size := by omega
    show wpAny _ _ (pyNext (.ref it) >>= _) Q E s
    refine wpAny_bind (wpAny_pyNext_list_item hit ht (x := items[i]) (by simp [hlt]) fun h1 hit1 hs1 => ?_)
    refine wpAny_bind (wpAny_holding (draw_list hne n (i + 1) _ _ hit1 (isList_but ht hs1.extBut hne) (by omega) fun h2 hit2 hs2 => wpAny_pure ?_))
    have hd : items.toList.drop i = items[i] :: items.toList.drop (i + 1) := by simp [List.drop_eq_getElem_cons, hlt]
    have := hQ h2 (by rw [show i + (n + 1) = i + 1 + n by omega]; exact hit2) (hs1.trans hs2)
    rw [hd, List.take_succ_cons] at this
    exact this
theorem unpackItems_list {s : Shared} {l : Addr} {items : Array Value} {Q : List Value → Shared → Prop} (hh : A.handled = none) (ht : s.heap.IsList l items)
    (hQ : ∀ h', Heap.ExtBut s.heap.objs.size s.heap h' → Q items.toList { s with heap := h' }) : wpAny (model prog w) A (unpackItems (.ref l) items.size none) Q E s := by
  have hlt : l ≠ s.heap.objs.size := by obtain ⟨o, ho, _⟩ := ht; exact Nat.ne_of_lt (Heap.lt_size ho)
  unfold unpackItems
  refine wpAny_bind ?_
  unfold notIterableAtAll
  refine wpAny_bind (wpAny_specialOf ht.typeIs slot_list_iter.lookup ?_)
  refine wpAny_pure ?_
  simp only [Bool.false_eq_true, if_false]
  refine wpAny_bind (wpAny_holding (wpAny_pyIter_list ht ?_))
  have hp : (s.heap.push { cls := .type "list_iterator", data := .fields #[.ref l, .int 0 0] }).IsList l items := by
    obtain ⟨o, ho, r⟩ := ht
    exact ⟨o, Heap.get?_push_of_some _ ho, r⟩
  refine wpAny_bind (wpAny_holding (draw_list hlt items.size 0 _ _ ⟨_, Heap.get?_push_size _ rfl, rfl, rfl⟩ hp (by omega) fun h1 hit1 hs1 => ?_))
  have hall : List.take items.size (List.drop 0 items.toList) = items.toList := by
    rw [List.drop_zero]; exact List.take_of_length_le (by simp)
  rw [hall, if_neg (by simp)]
  refine wpAny_bind (wpAny_holding (wpAny_pyNext_list_end hh hit1 (isList_but hp hs1.extBut hlt) (by simp) fun h2 he2 => ?_))
  simp only [Option.isSome_none, Bool.false_eq_true, if_false]
  exact wpAny_pure (hQ h2 fun b o hb e => he2 b o hb (hs1.extBut b o hb (Heap.get?_push_of_some _ e)))
end
section
variable {X : Cx} {pos : Pos}
def gLst (K : PySem.W.Frag) (n : Nat) (t : TGs) : TG := fun v σ H Q => ∃ a xs, v = .ref a ∧ SqL K H a xs ∧ xs.length = n ∧ t xs σ H Q
theorem kpg_lst (K : PySem.W.Frag) {es : List Expr} {k : Nat} {t : TGs} {n : Nat} (hc : X.calm = true) (h : PGs X es t) (hn : (assignEach es X.env).length = n := by rfl) (hst : (assignEach es X.env).findIdx? (·.1) = none := by rfl) (hK : X.K = K := by rfl) :
    PG X (.Tuple es k pos) (gLst K n t) := by
  subst hK
  intro pins s σ H v u Q I r hw
  obtain ⟨a, xs, e1, hq, hl, hw⟩ := hw
  subst e1
  cases r
  obtain ⟨its, rv, ht, hz⟩ := I.list hq
  rw [PySem.arm_assign_Tuple]
  refine wpAny_bind (wpAny_standAt ?_)
  unfold unpack
  rw [hst, show (assignEach es X.env).length = its.toArray.size by simp [hn, ← hl, rv.length]]
  refine wpAny_bind (wpAny_holding (unpackItems_list (I.ok.hd hc) ht.isList fun h' hx => ?_))
  have I1 : Inv X pins σ H { s with heap := h' } := I.kept (t' := s.toks) fun b o e => hx b o (Nat.ne_of_lt (Heap.lt_size e)) e
  exact h pins _ σ H xs _ Q I1 (by simpa using rv) hw
theorem i_asgL {K : PySem.W.Frag} {σ : St} {H : Hp} {QS : St → Hp → Prop} {n : Nat} {ts : TGs} {a : Addr} {xs : List V} (h1 : SqL K H a xs) (h2 : xs.length = n) (h : ts xs σ H QS) : gLst K n ts (.ref a) σ H QS := ⟨a, xs, rfl, h1, h2, h⟩
end
end L2
namespace L2
open PySem PySem.Spec PyProof.Rows
structure DicK (K : PySem.W.Frag) (P : Params) (a : Addr) (f : List (Str × Str)) : Prop where
  lk : ∃ es n, K.lookup a = some ⟨.type "dict", none, .dict es n, #[]⟩ ∧ PySem.W.KeysLit P es.toList
  at_ : ∀ k z, (k, z) ∈ f → ∃ t, PySem.W.nsIn K a k = some (some (.str z t))
def rIxD (K : PySem.W.Frag) (P : Params) : R2 := fun x y H Q => ∃ a f k z, x = .ref a ∧ y = .str k ∧ DicK K P a f ∧ (k, z) ∈ f ∧ Q (.str z) H
inductive DicAt (K : PySem.W.Frag) (a : Addr) : List (Str × Str) → Prop
  | nil : DicAt K a []
  | cons {k z : Str} {v : Value} {r : List (Str × Str)} : PySem.W.nsIn K a k = some (some v) → RelV (.str z) v → DicAt K a r → DicAt K a ((k, z) :: r)
theorem DicAt.all {K : PySem.W.Frag} {a : Addr} {f : List (Str × Str)} (d : DicAt K a f) : ∀ k z, (k, z) ∈ f → ∃ t, PySem.W.nsIn K a k = some (some (.str z t)) := by
  induction d with
  | nil => intro k z m; exact nomatch m
  | cons e r _ ih =>
    intro k z m
    rcases List.mem_cons.mp m with h | h
    · cases h
      obtain ⟨t, rfl⟩ := r
      exact ⟨t, e⟩
    · exact ih k z h
def iSeq (K : PySem.W.Frag) (te : TE) : TI := fun σ H R => te σ H fun x H1 => ∃ a, x = .ref a ∧ (((∃ xs, SqL K H1 a xs) ∧ R (Itl K a) H1) ∨ ((∃ xs, SqT K H1 a xs) ∧ R (Itt K a) H1))
theorem i_iSeq {K : PySem.W.Frag} {σ : St} {H : Hp} {te : TE} {R : It → Hp → Prop} (h : te σ H fun x H1 => ∃ a, x = .ref a ∧ (((∃ xs, SqL K H1 a xs) ∧ R (Itl K a) H1) ∨ ((∃ xs, SqT K H1 a xs) ∧ R (Itt K a) H1))) : iSeq K te σ H R := h
inductive Pt where
  | s (z : Str)
  | i (n : Int)
def Pt.v : Pt → V
  | .s z => .str z
  | .i n => .int n
def Pt.tx : Pt → Str
  | .s z => z
  | .i n => Str.ofString (toString n)
def rowT (ps : List Pt) : Str := Tx (ps.map Pt.tx)
theorem i_joinC {t : TE} {r : List TE} {out : Str} {σ : St} {H : Hp} {Q : VK} (h : t σ H fun x H1 => ∃ y, x = .str y ∧ (out ++ y).length ≤ sizeLine ∧ tJoin r (out ++ y) σ H1 Q) : tJoin (t :: r) out σ H Q := h
theorem i_fmt {te : TE} {σ : St} {H : Hp} {Q : VK} (h : te σ H fun x H1 => (∃ z, x = .str z ∧ z.length ≤ sizeLine ∧ Q (.str z) H1) ∨ ∃ i : Int, x = .int i ∧ i.natAbs.log2 < 1920 ∧ Q (.str (toString i)) H1) : tFmt te σ H Q := h
theorem i_fmS {z : Str} {A : Str → Prop} {B : Int → Prop} (h : A z) : (∃ y, V.str z = .str y ∧ A y) ∨ ∃ i : Int, V.str z = .int i ∧ B i := .inl ⟨z, rfl, h⟩
theorem i_fmI {i : Int} {A : Str → Prop} {B : Int → Prop} (h : B i) : (∃ y, V.int i = .str y ∧ A y) ∨ ∃ j : Int, V.int i = .int j ∧ B j := .inr ⟨i, rfl, h⟩
end L2
namespace L2
open PySem
def Pt.tr : Pt → Tr
  | .s z => .str z
  | .i n => .int n
def Ex.tr : Ex → Tr
  | .num i => .tup [.str "number", .int i]
  | .box n => .tup [.str "box", .str n]
  | .two k a b => .tup [.str (markS k), a.tr, b.tr]
def Cd.tr : Cd → Tr
  | .cmp k a b => .tup [.str (markC k), a.tr, b.tr]
  | .nt c => .tup [.str "not", c.tr]
  | .both c d => .tup [.str "both", c.tr, d.tr]
mutual
inductive Stm where
  | plain (ps : List Pt)
  | put (n : Str) (e : Ex)
  | loop (b : List Stm)
  | wait (n : Int) (bs : List Br)
  | test (c : Cd) (a b : List Stm)
inductive Br where
  | mk (p : List Pt) (b : List Stm)
end
def bodyT (x : Tr) : Tr := x
mutual
def Stm.tr : Stm → Tr
  | .plain ps => .tup (ps.map Pt.tr)
  | .put n e => .tup [.str "put", .str n, e.tr]
  | .loop b => .tup [.str "loop", .lst (Stm.trs b)]
  | .wait n bs => .tup [.str "wait", .int n, .lst (Br.trs bs)]
  | .test c a b => .tup [.str "test", c.tr, .lst (Stm.trs a), .lst (Stm.trs b)]
def Br.tr : Br → Tr
  | .mk p b => .tup [.tup (p.map Pt.tr), .lst (Stm.trs b)]
def Stm.trs : List Stm → List Tr
  | [] => []
  | s :: r => s.tr :: Stm.trs r
def Br.trs : List Br → List Tr
  | [] => []
  | s :: r => s.tr :: Br.trs r
end
abbrev blk : Str := Str.ofString "  "
def inn (ys : List Str) : List Str := ys.map fun y => blk ++ y
def blockR (head : Str) (ys : List Str) : List Str := head :: inn ys ++ [Str.ofString "end"]
def elseR : List Str → List Str → List Str
  | [], _ => []
  | _ :: _, r => Str.ofString "else" :: r
mutual
def Stm.rows : Stm → List Str
  | .plain ps => [Tx (ps.map Pt.tx)]
  | .put n e => [Tx [Str.ofString "put", n, Tx e.words]]
  | .loop b => blockR (Str.ofString "loop") (Stm.rowsL b)
  | .wait n bs => blockR (Str.ofString "wait " ++ Str.ofString (toString n)) (Br.rowsL bs)
  | .test c a b => (Str.ofString "if " ++ Tx c.words) :: inn (Stm.rowsL a) ++ (if b.isEmpty then [] else Str.ofString "else" :: inn (Stm.rowsL b)) ++ [Str.ofString "end"]
def Br.rows : Br → List Str
  | .mk p b => (Str.ofString "on " ++ Tx (p.map Pt.tx)) :: inn (Stm.rowsL b)
def Stm.rowsL : List Stm → List Str
  | [] => []
  | s :: r => s.rows ++ Stm.rowsL r
def Br.rowsL : List Br → List Str
  | [] => []
  | s :: r => s.rows ++ Br.rowsL r
end
def Pt.ok : Pt → Prop
  | .s z => z.length ≤ 8
  | .i n => 0 ≤ n ∧ n < 10
mutual
def Stm.ok (ys : List Str) : Nat → Stm → Prop
  | _, .plain ps => ps.length ≤ 3 ∧ (∀ p ∈ ps, p.ok) ∧ ∃ k r, ps = .s k :: r ∧ k ∉ [Str.ofString "test", Str.ofString "wait", Str.ofString "loop", Str.ofString "put"]
  | _, .put n e => n ∈ ys ∧ e.ok ys ∧ e.h ≤ 5
  | 0, .loop b => False
  | d + 1, .loop b => Stm.oks ys d b
  | 0, .wait n bs => False
  | d + 1, .wait n bs => (0 ≤ n ∧ n < 10) ∧ Br.oks ys d bs
  | 0, .test c a b => False
  | d + 1, .test c a b => c.ok ys 5 ∧ c.h ≤ 3 ∧ Stm.oks ys d a ∧ Stm.oks ys d b
def Br.ok (ys : List Str) : Nat → Br → Prop
  | d, .mk p b => p.length ≤ 3 ∧ (∀ x ∈ p, x.ok) ∧ Stm.oks ys d b
def Stm.oks (ys : List Str) : Nat → List Stm → Prop
  | _, [] => True
  | d, s :: r => s.ok ys d ∧ Stm.oks ys d r
def Br.oks (ys : List Str) : Nat → List Br → Prop
  | _, [] => True
  | d, s :: r => s.ok ys d ∧ Br.oks ys d r
end
end L2
namespace L2
open PySem
theorem Pt.at {H : Hp} : ∀ {p : Pt} {v : V} {fs : List Addr}, p.tr.At H v fs → v = p.v
  | .s _, _, _, h => by simp only [Pt.tr, Tr.At] at h; exact h.1
  | .i _, _, _, h => by simp only [Pt.tr, Tr.At] at h; exact h.1
theorem Pt.len {p : Pt} (h : p.ok) : p.tx.length ≤ 8 := by
  cases p with
  | s z => exact h
  | i n =>
    have := dig_len h.1 h.2
    simp only [Pt.tx]
    omega
theorem Pt.sum : ∀ {ps : List Pt}, (∀ p ∈ ps, p.ok) → ((ps.map Pt.tx).map (·.length)).sum ≤ 8 * ps.length
  | [], _ => by simp
  | p :: ps, h => by
    have h1 := Pt.len (h p (by simp))
    have h2 := Pt.sum (ps := ps) fun q m => h q (List.mem_cons_of_mem _ m)
    simp only [List.map_cons, List.sum_cons, List.length_cons]
    omega
theorem Stm.rowsL_app : ∀ (a b : List Stm), Stm.rowsL (a ++ b) = Stm.rowsL a ++ Stm.rowsL b
  | [], b => by simp [Stm.rowsL]
  | x :: a, b => by simp [Stm.rowsL, Stm.rowsL_app a b]
theorem Br.rowsL_app : ∀ (a b : List Br), Br.rowsL (a ++ b) = Br.rowsL a ++ Br.rowsL b
  | [], b => by simp [Br.rowsL]
  | x :: a, b => by simp [Br.rowsL, Br.rowsL_app a b]
theorem Stm.rowsL_snoc {b : List Stm} {i : Nat} {s : Stm} (e : b[i]? = some s) : Stm.rowsL (b.take (i + 1)) = Stm.rowsL (b.take i) ++ s.rows := by
  rw [List.take_add_one, e, Stm.rowsL_app]
  simp [Stm.rowsL]
theorem Br.rowsL_snoc {b : List Br} {i : Nat} {s : Br} (e : b[i]? = some s) : Br.rowsL (b.take (i + 1)) = Br.rowsL (b.take i) ++ s.rows := by
  rw [List.take_add_one, e, Br.rowsL_app]
  simp [Br.rowsL]
theorem Stm.trs_eq : ∀ (b : List Stm), Stm.trs b = b.map Stm.tr
  | [] => by simp [Stm.trs]
  | x :: b => by simp [Stm.trs, Stm.trs_eq b]
theorem Br.trs_eq : ∀ (b : List Br), Br.trs b = b.map Br.tr
  | [] => by simp [Br.trs]
  | x :: b => by simp [Br.trs, Br.trs_eq b]
def Fit (ys : List Str) : Prop := ys.length ≤ 50000 ∧ ∀ y ∈ ys, y.length ≤ 50000
theorem Fit.app {a b : List Str} (h : Fit (a ++ b)) : Fit a ∧ Fit b := by
  obtain ⟨h1, h2⟩ := h
  rw [List.length_append] at h1
  exact ⟨⟨by omega, fun y m => h2 y (by simp [m])⟩, ⟨by omega, fun y m => h2 y (by simp [m])⟩⟩
theorem Fit.cons {x : Str} {b : List Str} (h : Fit (x :: b)) : x.length ≤ 50000 ∧ Fit b := ⟨h.2 x (by simp), ⟨by have := h.1; simp only [List.length_cons] at this; omega, fun y m => h.2 y (by simp [m])⟩⟩
theorem Fit.inn {b : List Str} (h : Fit (inn b)) : Fit b := by
  refine ⟨by have := h.1; simpa [L2.inn] using this, fun y m => ?_⟩
  have := h.2 (blk ++ y) (List.mem_map.mpr ⟨y, m, rfl⟩)
  rw [sx_len] at this
  omega
theorem Fit.block {head : Str} {b : List Str} (h : Fit (blockR head b)) : head.length ≤ 50000 ∧ Fit b := by
  unfold blockR at h
  rw [List.cons_append] at h
  exact ⟨h.cons.1, h.cons.2.app.1.inn⟩
theorem Fit.take {b : List Stm} {i : Nat} {s : Stm} (h : Fit (Stm.rowsL b)) (e : b[i]? = some s) : Fit s.rows ∧ (Stm.rowsL (b.take i)).length + s.rows.length ≤ 50000 := by
  have e2 : Stm.rowsL b = Stm.rowsL (b.take (i + 1)) ++ Stm.rowsL (b.drop (i + 1)) := by rw [← Stm.rowsL_app, List.take_append_drop]
  rw [e2, Stm.rowsL_snoc e] at h
  have := h.app.1
  refine ⟨this.app.2, ?_⟩
  have := this.1
  rwa [List.length_append] at this
end L2
namespace L2
open PySem
section
variable {H : Hp} {v : V} {fs : List Addr}
end
end L2
namespace L2
open PySem
def boxT (x : Str × Int) : Tr := .tup [.str x.1, .int x.2]
def talkT (x : Str × List Stm) : Tr := .tup [.str x.1, .lst (Stm.trs x.2)]
def scrT (bs : List (Str × Int)) (ts : List (Str × List Stm)) : Tr := .tup [.lst (bs.map boxT), .lst (ts.map talkT)]
def boxR (x : Str × Int) : Str := Str.ofString "box " ++ x.1 ++ Str.ofString " " ++ Str.ofString (toString x.2)
def talkR (x : Str × List Stm) : List Str := blockR (Str.ofString "talk " ++ x.1) (Stm.rowsL x.2)
def talksR (ts : List (Str × List Stm)) : List Str := ts.flatMap talkR
def scrR (bs : List (Str × Int)) (ts : List (Str × List Stm)) : List Str := bs.map boxR ++ talksR ts
section
variable {H : Hp} {v : V} {fs : List Addr}
end
theorem talksR_snoc {b : List (Str × List Stm)} {i : Nat} {s : Str × List Stm} (e : b[i]? = some s) : talksR (b.take (i + 1)) = talksR (b.take i) ++ talkR s := by
  unfold talksR
  rw [List.take_add_one, e]
  simp
theorem Fit.talk {b : List (Str × List Stm)} {i : Nat} {s : Str × List Stm} (h : Fit (talksR b)) (e : b[i]? = some s) : Fit (talkR s) ∧ (talksR (b.take i)).length + (talkR s).length ≤ 50000 := by
  have e2 : talksR b = talksR (b.take (i + 1)) ++ talksR (b.drop (i + 1)) := by
    unfold talksR
    rw [← List.flatMap_append, List.take_append_drop]
  rw [e2, talksR_snoc e] at h
  have := h.app.1
  refine ⟨this.app.2, ?_⟩
  have := this.1
  rwa [List.length_append] at this
end L2
namespace L2
open PySem PySem.Spec PyProof.Rows
section
variable {X : Cx}
def rNeT : R2 := fun x y H Q => ∃ t fs gs, (Tr.lst t).At H x fs ∧ (Tr.lst t).At H y gs ∧ Tr.hs t ≤ 60 ∧ Q (.bl false) H
end
inductive Prs (H : Hp) : List V → List Int → Prop
  | nil : Prs H [] []
  | cons {p : Addr} {u : V} {n : Int} {vs : List V} {ns : List Int} : H p = some (.tup [u, .int n]) → Prs H vs ns → Prs H (.ref p :: vs) (n :: ns)
theorem Prs.mono {H H' : Hp} (t : Tups H H') {vs : List V} {ns : List Int} (h : Prs H vs ns) : Prs H' vs ns := by
  induction h with
  | nil => exact .nil
  | cons e _ ih => exact .cons (t _ _ e) ih
theorem Prs.len {H : Hp} {vs : List V} {ns : List Int} (h : Prs H vs ns) : vs.length = ns.length := by
  induction h with
  | nil => rfl
  | cons e _ ih => simp [ih]
theorem Prs.snoc {H : Hp} {vs : List V} {ns : List Int} {p : Addr} {u : V} {n : Int} (h : Prs H vs ns) (e : H p = some (.tup [u, .int n])) : Prs H (vs ++ [.ref p]) (ns ++ [n]) := by
  induction h with
  | nil => exact .cons e .nil
  | cons e' _ ih => exact .cons e' ih
theorem Prs.get {H : Hp} {vs : List V} {ns : List Int} (h : Prs H vs ns) : ∀ (i : Nat) (x : V), vs[i]? = some x → ∃ p u n, x = .ref p ∧ H p = some (.tup [u, .int n]) ∧ ns[i]? = some n := by
  induction h with
  | nil => intro i x e; simp at e
  | cons e' _ ih =>
    intro i x e
    cases i with
    | zero =>
      simp at e
      exact ⟨_, _, _, e.symm, e', rfl⟩
    | succ i => exact ih i x (by simpa using e)
end L2
namespace L2
def LedN (ws : List (Option Nat)) : Nat → Nat → Nat → Prop
  | 0, i, j => i = j ∧ ws[i]? = some none
  | m + 1, i, j => ∃ k, ws[i]? = some (some k) ∧ LedN ws m k j
def keptP (ws : List (Option Nat)) (n : Nat) : List Nat := (List.range n).filter fun i => decide (ws[i]? = some none)
def kept (ws : List (Option Nat)) : List Nat := keptP ws ws.length
structure Ups (ws : List (Option Nat)) : Prop where
  up : ∀ i k, ws[i]? = some (some k) → i < k ∧ k < ws.length
theorem LedN.end_ {ws : List (Option Nat)} : ∀ {m i j : Nat}, LedN ws m i j → ws[j]? = some none
  | 0, i, j, h => h.1 ▸ h.2
  | m + 1, i, j, h => by obtain ⟨k, _, h⟩ := h; exact LedN.end_ h
structure Wout (ws : List (Option Nat)) (sf : List Nat) : Prop where
  len : sf.length = ws.length
  at_ : ∀ i k, sf[i]? = some k → ∃ m j, LedN ws m i j ∧ (kept ws)[k]? = some j
end L2
namespace L2
open PySem
section
variable {prog : Program} {w : World} {K : Type} [DecidableEq K] {knd : KeyKind prog w K} {A : Around} {E : Value → Shared → Prop} {s : Shared}
theorem plain_dul : plainId "dict.update.loop" = true := by decide +kernel
theorem entry_dul : entryFor table "dict.update.loop" = some Builtin.«dict.update.loop» := entryFor_of_fast (by kernel_rfl)
theorem miss_keys : typeLookup (.type "list") "keys" = pure none := am_miss_of_fast (by decide +kernel)
theorem getAttr?_miss_list {a : Addr} {o : Obj} {xs : Array Value} {k : Nat} {name : Str} {Q : Option Value → Shared → Prop}
    (hx : s.heap.get? a = some o) (hc : o.cls = .type "list") (hdat : o.data = .seq xs k) (hd : o.dict = none) (hmiss : typeLookup (.type "list") name = pure none) (hname : (["__module__", "__name__", "__qualname__", "__doc__", "__annotations__"] : List Str).contains name = false) (hA : A.handled = none)
    (h : ∀ h' tk, (∀ b o, s.heap.get? b = some o → h'.get? b = some o) → Q none { s with heap := h', toks := tk }) (hsz : name.length + 100 ≤ sizeLine := by size_fits) :
    wpAny (model prog w) A (getAttr? (.ref a) name) Q E s := by
  obtain ⟨c, dct, dat, sl⟩ := o
  simp only at hc hdat hd
  subst hc hdat hd
  obtain ⟨hp, g, d, tk, os⟩ := s
  have hT : ∀ tk', (⟨hp, g, d, tk', os⟩ : Shared).TypeIs (.ref a) "list" := fun _ => ⟨_, hx, rfl⟩
  have f1 := sub_AttributeError
  have f3 := F.slot_list_getattribute.lookup
  have f4 := F.slot_list_getattribute.bind (.ref a)
  have f5 := am_list_getattr_none
  unfold getAttr? getAttrBy? getAttrBy
  repeat (any_goals (first | assumption | exact hT _ | ((with_reducible show wpAny _ _ (call (Value.builtin "list.__getattribute__") _ _) _ _ _); refine call_meets F.slot_list_getattribute (hT _) am_entry_list_getattribute (F.args_list_getattribute_2 _ _) (meets_getattribute_miss_list a xs k sl name _ hmiss hname hsz) ⟨hx, hA, fun h' tk' e hx' => ?_⟩) | wp_step))
  obtain ⟨t', u', he⟩ := hx'.there
  show wpAny _ _ (getattributeRaised _ _ _ _ _ _ _) _ _ _
  unfold getattributeRaised
  repeat (any_goals (first | assumption | wp_step))
  exact h _ _ hx'.keeps
end
end L2
namespace L2
open PySem
section
variable {prog : Program} {w : World} {K : Type} [DecidableEq K] {knd : KeyKind prog w K} {A : Around} {E : Value → Shared → Prop} {s : Shared}
def PairsAt (knd : KeyKind prog w K) (h : Heap) (items : Array Value) (ps : List (K × Value)) (no : List Addr) : Prop :=
  ps.length = items.size ∧ ∀ (j : Nat) (x : Value), items[j]? = some x → ∃ T k key v, x = .ref T ∧ T ∉ no ∧ h.IsTuple T #[key, v] ∧ knd.is k key = true ∧ ps[j]? = some (k, v)
theorem PairsAt.mono {h h' : Heap} {items : Array Value} {ps : List (K × Value)} {no : List Addr} (p : PairsAt knd h items ps no) (k : ∀ b o, b ∉ no → h.get? b = some o → h'.get? b = some o) : PairsAt knd h' items ps no :=
  ⟨p.1, fun j x e => by
    obtain ⟨T, k1, key, v, h1, h2, ⟨o, h3, h3'⟩, h4, h5⟩ := p.2 j x e
    exact ⟨T, k1, key, v, h1, h2, ⟨o, k T o h2 h3, h3'⟩, h4, h5⟩⟩
theorem update_loop {R : Result → Shared → Prop} {d it l : Addr} {items : Array Value} {ps : List (K × Value)} {res : Value} (hdi : d ≠ it) (hli : l ≠ it) (hld : l ≠ d) (hA : A.handled = none) :
    ∀ (n i : Nat) (s : Shared) (kvs : List (K × Value)), items.size - i = n → i ≤ items.size → s.heap.IsListIter it l i → s.heap.IsList l items → s.heap.DictOf knd d kvs → kvs.length + n ≤ sizeLine → PairsAt knd s.heap items ps [d, it] →
    (∀ h' tk, h'.DictOf knd d (merged kvs (ps.drop i)) → (∀ b o, b ≠ d → b ≠ it → s.heap.get? b = some o → h'.get? b = some o) → R (.ok (.ret res)) { s with heap := h', toks := tk }) →
    codeAny (model prog w) A (.builtin "dict.update.loop" ⟨[.ref d, .ref it, rawInt i, res], []⟩) R s := by
  intro n
  induction n with
  | zero =>
    intro i s kvs hn hi hit hl hd hz hp hR
    have e : i = items.size := by omega
    subst e
    refine codeAny_builtin entry_dul ?_
    rw [Around.under_plainId plain_dul _]
    show wpAny _ A.in1 (pyNext (.ref it) >>= _) _ _ s
    refine wpAny_bind (wpAny_pyNext_list_end (by exact hA) hit hl (Array.getElem?_eq_none (Nat.le_refl _)) fun h' hx => ?_)
    show wpAny _ _ (Builtin.Dict.addKeywords d [] >>= _) _ _ _
    refine wpAny_bind (wpAny_pure (wpAny_pure ?_))
    refine hR h' s.toks ?_ fun b o _ h2 e => hx b o h2 e
    rw [List.drop_of_length_le (Nat.le_of_eq hp.1)]
    exact hd.extBut hx hdi
  | succ n ih =>
    intro i s kvs hn hi hit hl hd hz hp hR
    have hlt : i < items.size := by omega
    obtain ⟨T, k, key, v, e1, e2, hT, hk, hv⟩ := hp.2 i items[i] (by simp [hlt])
    refine codeAny_builtin entry_dul ?_
    rw [Around.under_plainId plain_dul _]
    show wpAny _ A.in1 (pyNext (.ref it) >>= _) _ _ s
    refine wpAny_bind (wpAny_pyNext_list_item hit hl (x := items[i]) (by simp [hlt]) fun h1 hit1 hs1 => ?_)
    rw [e1]
    have hTd : T ≠ d := fun z => e2 (by simp [z])
    have hTi : T ≠ it := fun z => e2 (by simp [z])
    obtain ⟨oT, hoT, cT, nT, dT⟩ := hT
    have hoT1 : h1.get? T = some oT := (hs1.2 T hTi).trans hoT
    have tT : ({ s with heap := h1 } : Shared).TypeIs (.ref T) "tuple" := ⟨oT, hoT1, cT⟩
    show wpAny _ _ (holding [Value.ref T] _ >>= _) _ _ _
    refine wpAny_bind (wpAny_holding ?_)
    refine wpAny_bind (wpAny_tryCatch ?_)
    unfold Builtin.Dict.pairItems
    refine wpAny_bind (wpAny_typeOf tT ?_)
    rw [if_pos (by decide)]
    refine wpAny_bind (wpAny_seqItems hoT1 dT (wpAny_pure ?_))
    show wpAny _ _ (holding [key, v] (dictSet d key v)) _ _ _
    refine wpAny_holding ?_
    have hd1 : h1.DictOf knd d kvs := hd.sameBut hs1 hdi
    refine wpAny_dictSet_pairs (hsz := by omega) hk hd1 fun h2 hd2 hs2 => ?_
    refine wpAny_pure ⟨plainId_quiet plain_dul _, ?_⟩
    have kp : ∀ b o, b ≠ d → b ≠ it → s.heap.get? b = some o → h2.get? b = some o := fun b o hb1 hb2 e => (hs2.2 b hb1).trans ((hs1.2 b hb2).trans e)
    have hit2 : h2.IsListIter it l (i + 1) := let ⟨o, e, r⟩ := hit1; ⟨o, (hs2.2 it (Ne.symm hdi)).trans e, r⟩
    have hl2 : h2.IsList l items := let ⟨o, e, r⟩ := hl; ⟨o, kp l o hld hli e, r⟩
    have := ih (i + 1) { s with heap := h2, toks := s.toks + 1 } (stored kvs k v) (by omega) (by omega) hit2 hl2 hd2 (by have := stored_length_le kvs k v; omega) (hp.mono fun b o hb e => kp b o (fun z => hb (by simp [z])) (fun z => hb (by simp [z])) e) (fun h' tk hd' kp' => ?_)
    · exact this
    · refine hR h' tk ?_ fun b o h3 h4 e => kp' b o h3 h4 (kp b o h3 h4 e)
      have hdr : ps.drop i = (k, v) :: ps.drop (i + 1) := by
        obtain ⟨hj, ej⟩ := List.getElem?_eq_some_iff.mp hv
        rw [List.drop_eq_getElem_cons hj, ej]
      rw [hdr]
      exact hd'
theorem call_dict_pairs {l : Addr} {o : Obj} {items : Array Value} {n : Nat} {ps : List (K × Value)} {Q : Value → Shared → Prop} (ho : s.heap.get? l = some o) (hc : o.cls = .type "list") (hd : o.dict = none) (hdat : o.data = .seq items n)
    (hA : A.handled = none) (hp : PairsAt knd s.heap items ps []) (hz : items.size ≤ sizeLine)
    (h : ∀ h' tk, h'.DictOf knd s.heap.objs.size (merged [] ps) → (∀ b o, s.heap.get? b = some o → h'.get? b = some o) → Q (.ref s.heap.objs.size) { s with heap := h', toks := tk }) :
    wpAny (model prog w) A (call (.type "dict") [.ref l]) Q E s := by
  refine callType_codes (Q₁ := fun obj s₁ => obj = .ref s.heap.objs.size ∧ s₁ = { s with heap := s.heap.push { cls := .type "dict", data := .dict #[] } }) F.kt_called_dict (F.kt_typeCall_dict_1 _) F.entry_dict_init (kt_code_dict_new _ ⟨rfl, rfl⟩) ?_
  rintro obj s₁ ⟨rfl, rfl⟩
  have hnew : (s.heap.push { cls := .type "dict", data := .dict #[] }).DictOf knd s.heap.objs.size [] := Heap.DictOf.new s.heap
  have hlt := Heap.lt_size ho
  have ho' : (s.heap.push { cls := .type "dict", data := .dict #[] }).get? l = some o := Heap.get?_push_of_some _ ho
  refine ⟨hnew.typeIs, F.args_dict_init_2 _ _, ?_⟩
  unfold Builtin.«dict.__init__»
  refine wpAny_bind ?_
  unfold Builtin.Dict.selfAndRest
  refine wpAny_bind (wpAny_notOrdered_dict hnew.typeIs ?_)
  show wpAny _ _ (pure (s.heap.objs.size, [Value.ref l])) _ _ _
  refine wpAny_pure ?_
  show wpAny _ _ (Builtin.Dict.updateFrom "dict.__init__" s.heap.objs.size (.ref l) [] .none) _ _ _
  unfold Builtin.Dict.updateFrom
  refine wpAny_bind (wpAny_typeOf (T := "list") ⟨o, ho', hc⟩ ?_)
  rw [if_pos (by decide)]
  refine wpAny_bind (getAttr?_miss_list ho' hc hdat hd miss_keys (by decide) (by exact hA) fun h1 tk1 k1 => ?_)
  show wpAny _ _ (rule _ >>= _) _ _ _
  refine wpAny_bind (wpAny_rule ?_)
  have k0 : ∀ b q, s.heap.get? b = some q → h1.get? b = some q := fun b q e => k1 b q (Heap.get?_push_of_some _ e)
  have hl1 : h1.IsList l items := ⟨o, k0 l o ho, hc, n, hdat⟩
  refine wpAny_bind (wpAny_pyIter_list hl1 (wpAny_pure ⟨plainId_quiet plain_dul _, ?_⟩))
  have hd1 : h1.DictOf knd s.heap.objs.size [] := by
    obtain ⟨q, es, ep, e1, e2, e3⟩ := hnew
    exact ⟨q, es, ep, k1 _ _ e1, e2, e3⟩
  have hds : s.heap.objs.size < h1.objs.size := by
    obtain ⟨q, es, ep, e1, _⟩ := hd1
    exact Heap.lt_size e1
  have hl1s : l < h1.objs.size := Heap.lt_size (k0 l o ho)
  refine update_loop (knd := knd) (items := items) (ps := ps) (d := s.heap.objs.size) (it := h1.objs.size) (l := l) (Nat.ne_of_lt hds) (Nat.ne_of_lt hl1s) (Nat.ne_of_lt hlt) (by exact hA) items.size 0 _ [] (by omega) (Nat.zero_le _) ⟨_, Heap.get?_push_size _ rfl, rfl, rfl⟩ (hl1.push _) (hd1.push _) (by simpa using hz) ⟨hp.1, fun j x e => ?_⟩ fun h' tk hd' kp => ?_
  · obtain ⟨T, k, key, v, e1, _, ⟨oT, e2, e3⟩, e4, e5⟩ := hp.2 j x e
    refine ⟨T, k, key, v, e1, ?_, ⟨oT, Heap.get?_push_of_some _ (k0 _ _ e2), e3⟩, e4, e5⟩
    have h1 := Heap.lt_size e2
    have h2 := Heap.lt_size (k0 _ _ e2)
    simp only [List.mem_cons, List.not_mem_nil, or_false, not_or]
    exact ⟨Nat.ne_of_lt h1, Nat.ne_of_lt h2⟩
  · exact ⟨rfl, h h' tk hd' fun b q e => kp b q (Nat.ne_of_lt (Heap.lt_size e)) (Nat.ne_of_lt (Heap.lt_size (k0 _ _ e))) (Heap.get?_push_of_some _ (k0 b q e))⟩
end
end L2
namespace L2
open PySem PySem.Spec PyProof.Rows
section
variable {X : Cx} {pins : List (Addr × Obj)} {σ : St} {H : Hp} {s : Shared}
theorem Inv.turnedL {t' : Nat} {h' : Heap} {ch : List Addr} (I : Inv X pins σ H s) (k : ∀ b o, b ∉ ch → s.heap.get? b = some o → h'.get? b = some o) (hf : ∀ b ∈ ch, FpOk X pins H b) : Inv X pins σ H { s with heap := h', toks := t' } := by
  have nit : ∀ b u, H b = some u → b ∉ ch := fun b u e z => by rw [(hf b z).1] at e; cases e
  refine I.step (g' := s.gens) (d' := s.drawn) (ch := ch) (fun b hb => ⟨(hf b hb).2.2.2.1, (hf b hb).2.1, (hf b hb).2.2.2.2.1, (hf b hb).2.2.2.2.2⟩) (fun b o _ _ hc e _ => k b o hc e) (fun b o _ _ hc e _ => ⟨o.slots, k b o hc e⟩) (fun _ _ _ _ n => n)
    (fun b o hc e => ⟨o, k b o hc e⟩) (fun _ _ e => e) (fun _ _ _ e => e) (fun b ps e => ⟨#[], by rw [e]; simp⟩) (fun m hm => ?_) (fun b u e => ?_) I.bare
  · obtain ⟨o, es, ep, ho, r⟩ := hm
    exact ⟨o, es, ep, k _ o (fun z => (hf _ z).2.1 rfl) ho, r⟩
  · refine (I.hok b u e).stay (fun c v hc q => k c v ?_ q) (fun _ q => q) fun _ _ q => q
    rcases hc with z | z
    · rw [z]; exact nit b u e
    · exact nit c _ z
end
def Ite (K : PySem.W.Frag) (a : Addr) : It :=
  ⟨fun i H => ∃ xs x, SqL K H a xs ∧ xs[i]? = some x, fun i H v H' => ∃ p y, v = .ref p ∧ H p = none ∧ Same H H' ∧ H' p = some (.tup [.int (i : Nat), y]) ∧ ∀ xs, SqL K H a xs → xs[i]? = some y, fun i H => ∃ xs, SqL K H a xs ∧ xs.length ≤ i⟩
theorem turn_enum {P : Program} {w : World} {K : PySem.W.Frag} {elts : List Expr} {x1 : Nat} {pos : Pos} (a e it : Addr) (hne : e ≠ it) :
    Turn P w K (.Tuple elts x1 pos) (Ite K a) [e, it] e (fun i h => (∃ old, IsEnum h e it (i : Nat) old) ∧ h.IsListIter it a i) where
  mem := by simp
  obj := fun i h st b hb => by
    obtain ⟨⟨old, he⟩, o, e2, c, d⟩ := st
    rcases (by simpa using hb : b = e ∨ b = it) with rfl | rfl
    · exact ⟨_, he, fun v z => by cases z⟩
    · exact ⟨o, e2, fun v z => by rw [d] at z; cases z⟩
  keep := fun i h h' st k => ⟨let ⟨old, he⟩ := st.1; ⟨old, k e (by simp) _ he⟩, st.2.at fun o x => k it (by simp) o x⟩
  item := by
    intro X hP hw hK hc i pins s σ H E I hf st hg
    subst hP hw hK
    obtain ⟨xs, x, hq, hx⟩ := hg
    obtain ⟨its, rv, p, hz⟩ := I.list hq
    obtain ⟨u, hu, ru⟩ := rv.get hx
    obtain ⟨⟨old, he⟩, hit⟩ := st
    have helt : e < s.heap.objs.size := Heap.lt_size he
    have hilt : it < s.heap.objs.size := by obtain ⟨_, q, _⟩ := hit; exact Heap.lt_size q
    refine wpAny_pyNext_enum_item he hit p.isList (x := u) (by simpa using hu) hne fun h' ho hit' hT hsz hk => ?_
    have fr : H s.heap.objs.size = none := I.hok.fresh (Nat.le_refl _)
    have I1 : Inv X pins σ H { s with heap := h', toks := s.toks + 1 } := I.turnedL (ch := [e, it]) (fun b o hb q => hk b o (fun z => hb (by simp [z])) (fun z => hb (by simp [z])) q) hf
    have I2 : Inv X pins σ (upd H s.heap.objs.size (.tup [.int (i : Nat), x])) { s with heap := h', toks := s.toks + 1 } := I1.adopt (o := .tup [.int (i : Nat), x]) fr I.sz (Nat.ne_of_gt I.lt) (fun y c ec z => by
        obtain ⟨v, q⟩ := I.cell y c ec
        exact absurd q.lt (by rw [z]; exact Nat.lt_irrefl _)) (fun q hq z => absurd (Heap.lt_size (I.pin q hq).1) (by rw [z]; exact Nat.lt_irrefl _))
      ⟨le_line (by simp), [.int (i : Nat) s.toks, u], .cons ⟨_, rfl⟩ (.cons ru .nil), ⟨_, hT, rfl, _, rfl⟩⟩
    have ne : ∀ b ∈ [e, it], b ≠ s.heap.objs.size := fun b hb => by
      rcases (by simpa using hb : b = e ∨ b = it) with rfl | rfl
      · exact Nat.ne_of_lt helt
      · exact Nat.ne_of_lt hilt
    have hf2 : ∀ b ∈ [e, it], FpOk X pins (upd H s.heap.objs.size (.tup [.int (i : Nat), x])) b := fun b hb => ⟨by rw [upd_ne (ne b hb)]; exact (hf b hb).1, (hf b hb).2⟩
    refine ⟨_, rfl, wpAny_letOwnedTupleGo_enum ho fun h2 he2 hs2 => ⟨.ref s.heap.objs.size, _, I2.turnedL (t' := s.toks + 1) (ch := [e]) (fun b o hb q => (hs2.2 b (fun z => hb (by simp [z]))).trans q) (fun b hb => hf2 b (by simp at hb; simp [hb])), rfl, ⟨s.heap.objs.size, x, rfl, fr, Same.new fr, upd_same, fun ys hy => by rw [I.list_inj hy hq]; exact hx⟩, ⟨⟨_, by simpa using he2⟩, hit'.at fun o q => (hs2.2 it (Ne.symm hne)).trans q⟩, fun b hb => (hf2 b hb).1⟩⟩
  done := by
    intro X hP hw hK hc i pins s σ H E I hf st hg
    subst hP hw hK
    obtain ⟨xs, hq, hx⟩ := hg
    obtain ⟨its, rv, p, hz⟩ := I.list hq
    obtain ⟨⟨old, he⟩, hit⟩ := st
    have hl := rv.length
    exact wpAny_pyNext_enum_end (I.ok.hd hc) he hit p.isList (by simp; omega) fun h' eb => ⟨rfl, I.turnedL (t' := s.toks) (ch := [it]) (fun b o hb q => eb b o (fun z => hb (by simp [z])) q) (fun b hb => hf b (by simp at hb; simp [hb]))⟩
  self := fun A i s Q E st h => let ⟨old, he⟩ := st.1; wpAny_pyIter_enum he h
section
variable {X : Cx} {elts : List Expr} {x1 : Nat} {tpos : Pos}
def iEnum (K : PySem.W.Frag) (ta : TA) : TI := fun σ H R => ta σ H fun vs H1 => ∃ a, vs = [.ref a] ∧ (∃ xs, SqL K H1 a xs) ∧ R (Ite K a) H1
theorem pi_enum (K : PySem.W.Frag) {a : Expr} {ta : TA} {p pos : Pos} (hg : Gl X "enumerate") (hm : X.mg "enumerate" = none) (ha : PA X [a] ta) (hs : starEach [a] X.env = [(false, eval a X.env)] := by rfl) (hK : X.K = K := by rfl) : PI X (.Tuple elts x1 tpos) (.Call (.Name "enumerate" p) [a] [] pos) (iEnum K ta) := by
  subst hK
  intro pins s σ H R I h
  refine Call_ (ld_blt I hg hm boot_enumerate (PyProof.Rows.callWith_type1 (thn (ha pos pins s σ H _ I h) fun us s1 ⟨vs, H1, I1, r1, q1⟩ => ?_) hs rfl))
  obtain ⟨l, e, ⟨xs, hq⟩, q⟩ := q1
  subst e
  obtain ⟨u, rfl, ru⟩ := vals1 r1
  cases ru
  obtain ⟨its, rv, pl, hz⟩ := I1.list hq
  refine call_enumerate_list pl.isList fun h' he hit hsz hk => ?_
  refine wpAny_pyIter_enum he ?_
  refine ⟨s1.heap.objs.size + 1, [s1.heap.objs.size + 1, s1.heap.objs.size], _, _, H1, rfl, I1.kept (t' := s1.toks) hk, turn_enum l _ _ (Nat.succ_ne_self _), ⟨⟨_, he⟩, hit⟩, fun b hb => ?_, q⟩
  have hb' : s1.heap.objs.size ≤ b := by
    rcases (by simpa using hb : b = s1.heap.objs.size + 1 ∨ b = s1.heap.objs.size) with rfl | rfl <;> omega
  exact I1.fpOk hb' (I1.hok.fresh hb')
theorem i_enum {K : PySem.W.Frag} {σ : St} {H : Hp} {R : It → Hp → Prop} {ts : TA} (h : ts σ H fun vs H1 => ∃ a, vs = [.ref a] ∧ (∃ xs, SqL K H1 a xs) ∧ R (Ite K a) H1) : iEnum K ts σ H R := h
theorem i_lref {a : Addr} {p : Addr → Prop} (h : p a) : ∃ b, [V.ref a] = [V.ref b] ∧ p b := ⟨a, rfl, h⟩
theorem cc_enum {K : PySem.W.Frag} {a : Addr} {xs : List V} {te : TE} {tt : TT} {caps : List Nat} {σ : St} {H : Hp} {Q : VK} (hz : xs.length ≤ sizeLine) (Pv : Nat → List V → Hp → Prop) (h0 : Pv 0 [] H) (hl : ∀ i acc H, Pv i acc H → acc.length ≤ i ∧ SqL K H a xs)
    (hs : ∀ i x acc H H2, xs[i]? = some x → Pv i acc H → Same H H2 → tt (some (.int (i : Nat)) :: some x :: capV caps σ) H2 fun b H4 => if b = true then te (some (.int (i : Nat)) :: some x :: capV caps σ) H4 fun y H5 => Pv (i + 1) (acc ++ [y]) H5 else Pv (i + 1) acc H4)
    (hd : ∀ acc H, Pv xs.length acc H → New H (.lst acc) Q) : CompEnd (Ite K a) (gTup K 2 (gCons (gName 0) (gCons (gName 1) gNil))) tt te 2 caps σ H Q := by
  refine ⟨fun i m acc σ' H => m = xs.length - i ∧ i ≤ xs.length ∧ (∃ u v, σ' = u :: v :: capV caps σ) ∧ Pv i acc H, ⟨xs.length, by simp, Nat.zero_le _, ⟨none, none, rfl⟩, h0⟩, ?_⟩
  rintro i m acc σ' H' ⟨rfl, hi, ⟨u0, v0, rfl⟩, p⟩
  obtain ⟨hl1, hq⟩ := hl i acc H' p
  by_cases hlt : i < xs.length
  · refine .inr ⟨⟨xs, xs[i], hq, by simp [hlt]⟩, by omega, fun ac σ2 H2 => (∃ u v, σ2 = u :: v :: capV caps σ) ∧ Pv (i + 1) ac H2, fun ac σ2 H2 ⟨e, p'⟩ => ⟨xs.length - (i + 1), by omega, rfl, hlt, e, p'⟩, fun x H2 y => ?_⟩
    obtain ⟨q, z, rfl, hn, sm, hT, hy⟩ := y
    have hst := hs i z acc H' H2 (hy xs hq) p sm
    have eN : ∀ ac H5, ((∃ u1 v1, some (V.int (i : Nat)) :: some z :: capV caps σ = u1 :: v1 :: capV caps σ) ∧ Pv (i + 1) ac H5) = Pv (i + 1) ac H5 := fun ac H5 => propext ⟨And.right, fun p => ⟨⟨_, _, rfl⟩, p⟩⟩
    refine ⟨q, [.int (i : Nat), z], rfl, SqT.of hT, rfl, .int (i : Nat), [z], rfl, z, [], rfl, rfl, ?_⟩
    show tt (some (.int (i : Nat)) :: some z :: capV caps σ) _ fun b H4 => if b = true then te (some (.int (i : Nat)) :: some z :: capV caps σ) H4 fun y H5 => ((∃ u1 v1, some (V.int (i : Nat)) :: some z :: capV caps σ = u1 :: v1 :: capV caps σ) ∧ Pv (i + 1) (acc ++ [y]) H5) else ((∃ u1 v1, some (V.int (i : Nat)) :: some z :: capV caps σ = u1 :: v1 :: capV caps σ) ∧ Pv (i + 1) acc H4)
    simp only [eN]
    exact hst
  · have e : i = xs.length := by omega
    subst e
    exact .inl ⟨⟨xs, hq, Nat.le_refl _⟩, New.to (hd acc H' p)⟩
end
inductive PrK (H : Hp) : List V → List (Key × V) → Prop
  | nil : PrK H [] []
  | cons {p : Addr} {k : Key} {v : V} {vs : List V} {kvs : List (Key × V)} : H p = some (.tup [kV k, v]) → PrK H vs kvs → PrK H (.ref p :: vs) ((k, v) :: kvs)
theorem PrK.mono {H H' : Hp} (t : Tups H H') {vs : List V} {kvs : List (Key × V)} (h : PrK H vs kvs) : PrK H' vs kvs := by
  induction h with
  | nil => exact .nil
  | cons e _ ih => exact .cons (t _ _ e) ih
theorem PrK.snoc {H : Hp} {vs : List V} {kvs : List (Key × V)} {p : Addr} {k : Key} {v : V} (h : PrK H vs kvs) (e : H p = some (.tup [kV k, v])) : PrK H (vs ++ [.ref p]) (kvs ++ [(k, v)]) := by
  induction h with
  | nil => exact .cons e .nil
  | cons e' _ ih => exact .cons e' ih
def rDictP (K : PySem.W.Frag) : List V → Hp → VK → Prop := fun xs H Q => ∃ l vs kvs, xs = [.ref l] ∧ SqL K H l vs ∧ PrK H vs kvs ∧ New H (.dK (mergeK [] kvs)) Q
section
variable {X : Cx}
theorem PrK.at_ {pins : List (Addr × Obj)} {σ : St} {H : Hp} {s : Shared} (I : Inv X pins σ H s) : ∀ {vs : List V} {kvs : List (Key × V)} {us : List Value}, PrK H vs kvs → Vals vs us →
    ∃ ps : List (Key × Value), KV kvs ps ∧ ps.length = us.length ∧ ∀ (j : Nat) (x : Value), us[j]? = some x → ∃ T k key v, x = .ref T ∧ T ∉ ([] : List Addr) ∧ s.heap.IsTuple T #[key, v] ∧ (mixKind X.prog X.w).is k key = true ∧ ps[j]? = some (k, v)
  | _, _, _, .nil, r => by
    cases r
    exact ⟨[], .nil, rfl, fun j x e => by simp at e⟩
  | _, _, _, .cons (p := p) (k := k) (v := v) e h, r => by
    cases r with
    | cons r1 r2 =>
      cases r1
      obtain ⟨ps, h1, h2, h3⟩ := PrK.at_ I h r2
      obtain ⟨its, q1, q2, _⟩ := I.tuple (SqT.of e)
      obtain ⟨u1, u2, rfl, ra, rb⟩ := vals2 q1
      refine ⟨(k, u2) :: ps, .cons ⟨rfl, rb⟩ h1, by simp [h2], fun j x ej => ?_⟩
      cases j with
      | zero =>
        simp at ej
        subst ej
        exact ⟨p, k, u1, u2, rfl, by simp, q2, kV_is ra, rfl⟩
      | succ j => exact h3 j x (by simpa using ej)
theorem kcl_dict (K : PySem.W.Frag) (hh : X.calm = true := by rfl) (hK : X.K = K := by rfl) : CallR X (.type "dict") (rDictP K) := by
  subst hK
  intro pins s σ H xs us Q I r h
  obtain ⟨l, vs, kvs, rfl, hq, hp, q⟩ := h
  obtain ⟨u, rfl, ru⟩ := vals1 r
  cases ru
  obtain ⟨its, rv, ⟨o, n, e1, e2, e3, e4⟩, hz⟩ := I.list hq
  obtain ⟨ps, k1, k2, k3⟩ := PrK.at_ I hp rv
  have hl := rv.length
  refine call_dict_pairs (knd := mixKind X.prog X.w) e1 e2 e3 e4 (I.ok.hd hh) ⟨by simpa using k2, fun j x e => k3 j x (by simpa using e)⟩ (by simpa using hl ▸ hz) fun h' tk hd kk => ?_
  have hz2 : (mergeK [] kvs).length ≤ sizeLine := by
    have h1 := length_mergeK kvs []
    have h2 : kvs.length = ps.length := k1.length
    simp only [List.length_nil] at h1
    omega
  refine ⟨.ref s.heap.objs.size, upd H s.heap.objs.size (.dK (mergeK [] kvs)), I.laid (t' := tk) kk (Nat.le_refl _) (dk_new hz2 (beq_eq_false_iff_ne.mpr (Ne.symm (Nat.ne_of_lt I.big))) (k1.merge .nil) hd), rfl, New.to q _ (I.hok.fresh (Nat.le_refl _))⟩
theorem i_dictP {K : PySem.W.Frag} {H : Hp} {Q : VK} {l : Addr} {vs : List V} {kvs : List (Key × V)} (h1 : SqL K H l vs) (h2 : PrK H vs kvs) (h : New H (.dK (mergeK [] kvs)) Q) : rDictP K [.ref l] H Q := ⟨l, vs, kvs, rfl, h1, h2, h⟩
def rMin2 : List V → Hp → VK → Prop := fun xs H Q => ∃ a b : Int, xs = [.int a, .int b] ∧ Q (.int (min a b)) H
theorem i_min2 {H : Hp} {Q : VK} {a b : Int} (h : Q (.int (min a b)) H) : rMin2 [.int a, .int b] H Q := ⟨a, b, rfl, h⟩
def rSlTN (K : PySem.W.Frag) : V → Option Int → Option Int → Hp → VK → Prop := fun x lo hi H Q => ∃ a xs, x = .ref a ∧ SqT K H a xs ∧ ¬ (HT.sIx xs.length 0 lo = 0 ∧ HT.sIx xs.length xs.length hi = xs.length) ∧ New H (.tup (cutV xs lo hi)) Q
def rCatTN (K : PySem.W.Frag) : R2 := fun x y H Q => ∃ a b xs ys, x = .ref a ∧ y = .ref b ∧ SqT K H a xs ∧ SqT K H b ys ∧ xs ≠ [] ∧ ys ≠ [] ∧ xs.length + ys.length ≤ sizeLine ∧ New H (.tup (xs ++ ys)) Q
def rIsN : R2 := fun x y H Q => y = .non ∧ Q (.bl (decide (x = .non))) H
def rNotN : R2 := fun x y H Q => y = .non ∧ Q (.bl (!decide (x = .non))) H
theorem i_isN {x : V} {H : Hp} {Q : VK} (h : Q (.bl (decide (x = .non))) H) : rIsN x .non H Q := ⟨rfl, h⟩
theorem i_notN {x : V} {H : Hp} {Q : VK} (h : Q (.bl (!decide (x = .non))) H) : rNotN x .non H Q := ⟨rfl, h⟩
theorem inV_ints (x : Int) : ∀ ns : List Int, inV (.int x) (ns.map V.int) = decide (x ∈ ns)
  | [] => rfl
  | n :: ns => by
    have h := inV_ints x ns
    unfold inV at h ⊢
    rw [List.map_cons, List.any_cons, h]
    show ((n == x) || _) = _
    rw [Bool.eq_iff_iff]
    simp
    constructor
    · rintro (rfl | h)
      · exact .inl rfl
      · exact .inr h
    · rintro (rfl | h)
      · exact .inl rfl
      · exact .inr h
theorem flat_ints (ns : List Int) : (ns.map V.int).all flatV = true := by simp [flatV]
theorem i_notInI {K : PySem.W.Frag} {H : Hp} {Q : VK} {p : Addr} {x : Int} {ns : List Int} (h1 : SqL K H p (ns.map V.int)) (h : Q (.bl (!decide (x ∈ ns))) H) : rIn K true (.int x) (.ref p) H Q := ⟨p, _, rfl, .inl h1, rfl, flat_ints ns, by rw [inV_ints]; exact h⟩
def rIndexI (K : PySem.W.Frag) : V → List V → Hp → VK → Prop := fun x vs H Q => ∃ (l : Addr) (ys : List Int) (y : Int) (j : Nat), x = .ref l ∧ vs = [.int y] ∧ SqL K H l (ys.map V.int) ∧ ys[j]? = some y ∧ (∀ m, m < j → ys[m]? ≠ some y) ∧ Q (.int (j : Nat)) H
theorem intsv_at : ∀ {ys : List Int} {us : List Value}, Vals (ys.map V.int) us → ∀ (i : Nat) (h : i < us.length), ∃ y t, ys[i]? = some y ∧ us[i] = .int y t
  | [], _, r, i, h => by cases r; simp at h
  | y :: ys, _, r, i, h => by
    cases r with
    | cons r1 r2 =>
      cases i with
      | zero =>
        obtain ⟨t, rfl⟩ := r1
        exact ⟨y, t, rfl, rfl⟩
      | succ i => exact intsv_at (ys := ys) r2 i (by simpa using h)
theorem kmt_indexI (K : PySem.W.Frag) (hK : X.K = K := by rfl) : MtR X "list.index" (rIndexI K) := by
  subst hK
  intro pins s σ H x vs v us Q I rx rv h
  obtain ⟨l, ys, y, j, rfl, rfl, hq, hj, hno, q⟩ := h
  cases rx
  obtain ⟨u, rfl, ru⟩ := rv.one
  obtain ⟨its, r, pl, hz⟩ := I.list hq
  have hlen : ys.length = its.length := by have := r.length; simpa using this
  have hjl : j < its.length := by have := (List.getElem?_eq_some_iff.mp hj).1; omega
  obtain ⟨o, n, e, hc, hd, hs⟩ := pl
  obtain ⟨cls, dd, data, sl⟩ := o
  simp only at hc hd hs
  subst hc hs
  have fy : flatV (.int y) = true := rfl
  have fs : (ys.map V.int).all flatV = true := flat_ints ys
  have at_ : ∀ (m : Nat) (hm : m < its.toArray.size), ∃ z, ys[m]? = some z ∧ eqU (.int y) its.toArray[m] = (z == y) := fun m hm => by
    obtain ⟨z, t, ez, eu⟩ := intsv_at r m (by simpa using hm)
    refine ⟨z, ez, ?_⟩
    have : its.toArray[m] = .int z t := by simpa using eu
    rw [this]
    rfl
  have hl16 : its.length ≤ sizeLine := by have := r.length; omega
  have hsm : ((j : Nat) : Int) < 2 ^ 63 - 1 := by
    have : (sizeLine : Nat) + 1 < 2 ^ 63 := by rw [sizeLine_eq]; decide
    omega
  refine call_meets F.slot_list_index ⟨_, e, rfl⟩ F.entry_list_index (F.args_list_index_2 _ _) (SeqAt.list_indexAt l its.toArray n dd sl u (eqU (.int y)) j (by simpa using hjl) hsm ?_ ?_) ⟨e, ?_, ⟨.int j, H, I.tok _, ⟨_, rfl⟩, q⟩⟩
  · obtain ⟨z, ez, eq⟩ := at_ j (by simpa using hjl)
    rw [eq]
    rw [hj] at ez
    cases ez
    simp
  · intro m hm hmj
    obtain ⟨z, ez, eq⟩ := at_ m hm
    rw [eq]
    have : z ≠ y := fun e => hno m hmj (by rw [ez, e])
    simpa using this
  · intro w hw
    exact mem_eqAt ru fy r fs w (by simpa using hw)
theorem i_indexI {K : PySem.W.Frag} {H : Hp} {Q : VK} {l : Addr} {ys : List Int} {y : Int} {j : Nat} (h1 : SqL K H l (ys.map V.int)) (h2 : ys[j]? = some y) (h3 : ∀ m, m < j → ys[m]? ≠ some y) (h : Q (.int (j : Nat)) H) : rIndexI K (.ref l) [.int y] H Q := ⟨l, ys, y, j, rfl, rfl, h1, h2, h3, h⟩
theorem i_isiT {K : PySem.W.Frag} {H : Hp} {Q : VK} {a : Addr} {xs : List V} (e : H a = some (.tup xs)) (h : Q (.bl true) H) : rIsi K [V.ref a, V.ty "tuple"] H Q := ⟨_, _, _, true, rfl, .tup e, rfl, h⟩
theorem i_gsub {to ti : TE} {t : TSet} {v : V} {σ : St} {H : Hp} {Q : St → Hp → Prop} (h : to σ H fun o H1 => ti σ H1 fun i H2 => t o i v H2 fun H3 => Q σ H3) : gSub to ti t v σ H Q := h
theorem i_setL {H : Hp} {Q : Hp → Prop} {p : Addr} {xs : List V} {k : Int} {j : Nat} {v : V} (h1 : H p = some (.lst xs)) (h2 : ixN xs.length k = some j) (h : Q (upd H p (.lst (xs.set j v)))) : rSetL (.ref p) (.int k) v H Q := ⟨p, xs, k, j, rfl, rfl, h1, h2, h⟩
def rNeU : R2 := fun x y H Q => ∃ t fs gs, (Tr.tup t).At H x fs ∧ (Tr.tup t).At H y gs ∧ Tr.hs t ≤ 60 ∧ Q (.bl false) H
def tSeqC (t u : TS) : TS := fun D σ H => ∃ R : St → Hp → Prop, t { D with nx := R } σ H ∧ ∀ σ' H', R σ' H' → u D σ' H'
def tPure (t : TT) : TT := t
theorem i_while {c : TT} {tb : TS} {nn bb cc : St → Hp → Prop} {rr : VK} {σ : St} {H : Hp} (W : Nat → St → Hp → Prop) (m : Nat) (h0 : W m σ H)
    (hs : ∀ m σ H, W m σ H → c σ H fun b H1 => if b = true then ∃ N : St → Hp → Prop, (∀ σ' H', N σ' H' → ∃ m', m' < m ∧ W m' σ' H') ∧ tb ⟨N, rr, nn, N⟩ σ H1 else nn σ H1) : tWhile c tb ⟨nn, rr, bb, cc⟩ σ H := ⟨W, ⟨m, h0⟩, hs⟩
end
end L2
namespace L2
open PySem
inductive Nd where
  | say (w : Str) (n : Nat)
  | hand (l : Int) (w : Str) (n : Nat)
  | put (b : Str) (e : Ex) (n : Nat)
  | test (c : Cd) (m n : Nat)
  | wait (l : Int) (bs : List (List Pt × Nat)) (n : Nat)
  | call (m n : Nat)
  | back
  | stop
def brT (b : List Pt × Nat) : Tr := .tup [.tup (b.1.map Pt.tr), .int (b.2 : Nat)]
def Nd.its : Nd → List Tr
  | .say w n => [.str "say", .str w, .int (n : Nat)]
  | .hand l w n => [.str "hand", .int l, .str w, .int (n : Nat)]
  | .put b e n => [.str "put", .str b, e.tr, .int (n : Nat)]
  | .test c m n => [.str "test", c.tr, .int (m : Nat), .int (n : Nat)]
  | .wait l bs n => [.str "wait", .int l, .tup (bs.map brT), .int (n : Nat)]
  | .call m n => [.str "call", .int (m : Nat), .int (n : Nat)]
  | .back => [.str "back"]
  | .stop => [.str "stop"]
def Nd.tr (d : Nd) : Tr := .tup d.its
def renB (f : Nat → Nat) (b : List Pt × Nat) : List Pt × Nat := (b.1, f b.2)
def Nd.ren (f : Nat → Nat) : Nd → Nd
  | .say w n => .say w (f n)
  | .hand l w n => .hand l w (f n)
  | .put b e n => .put b e (f n)
  | .test c m n => .test c (f m) (f n)
  | .wait l bs n => .wait l (bs.map (renB f)) (f n)
  | .call m n => .call (f m) (f n)
  | .back => .back
  | .stop => .stop
def Nd.nexts : Nd → List Nat
  | .say _ n => [n]
  | .hand _ _ n => [n]
  | .put _ _ n => [n]
  | .test _ m n => [m, n]
  | .wait _ bs n => bs.map (·.2) ++ [n]
  | .call m n => [m, n]
  | .back => []
  | .stop => []
abbrev bxs : List Str := ["many", "mana"]
abbrev bxs3 : List Str := ["many", "mana", "mano"]
def Nd.okAt (n i : Nat) : Nd → Prop
  | .say _ k => i < k ∧ k < n
  | .hand _ _ k => i < k ∧ k < n
  | .put b e k => (i < k ∧ k < n) ∧ (e.ok bxs ∧ e.h ≤ 4) ∧ b ∈ bxs3
  | .test c a b => (i < a ∧ a < n) ∧ (i < b ∧ b < n) ∧ c.ok bxs 5 ∧ c.h ≤ 3
  | .wait _ bs k => (∀ b ∈ bs, b.2 < n) ∧ k < n ∧ bs.length ≤ 3
  | .call a b => (i < a ∧ a < n) ∧ i < b ∧ b < n
  | .back => True
  | .stop => True
theorem Nd.okAt.lt {n i : Nat} {d : Nd} (h : d.okAt n i) : ∀ k ∈ d.nexts, k < n := by
  intro k hk
  cases d with
  | say w m => simp only [Nd.nexts, List.mem_singleton] at hk; subst hk; exact h.2
  | hand l w m => simp only [Nd.nexts, List.mem_singleton] at hk; subst hk; exact h.2
  | put b e m => simp only [Nd.nexts, List.mem_singleton] at hk; subst hk; exact h.1.2
  | test c a b =>
    simp only [Nd.nexts, List.mem_cons, List.not_mem_nil, or_false] at hk
    rcases hk with rfl | rfl
    · exact h.1.2
    · exact h.2.1.2
  | wait l bs m =>
    simp only [Nd.nexts, List.mem_append, List.mem_map, List.mem_singleton] at hk
    rcases hk with ⟨b, hb, rfl⟩ | rfl
    · exact h.1 b hb
    · exact h.2.1
  | call a b =>
    simp only [Nd.nexts, List.mem_cons, List.not_mem_nil, or_false] at hk
    rcases hk with rfl | rfl
    · exact h.1.2
    · exact h.2.2
  | back => simp [Nd.nexts] at hk
  | stop => simp [Nd.nexts] at hk
def Nd.one? : Nd → Option (Str × List Tr × Nat)
  | .say w n => some ("say", [.str w], n)
  | .hand l w n => some ("hand", [.int l, .str w], n)
  | .put b e n => some ("put", [.str b, e.tr], n)
  | _ => none
section
variable {H : Hp} {x : Tr} {xs : List Tr} {v : V} {vs ws : List V}
theorem ats_nil0 : Tr.Ats H [] vs [] ↔ vs = [] := by simp [Tr.Ats]
theorem ats_cons0 : Tr.Ats H (x :: xs) vs [] ↔ ∃ v ws, vs = v :: ws ∧ x.At H v [] ∧ Tr.Ats H xs ws [] := by
  simp only [Tr.Ats]
  constructor
  · rintro ⟨v, ws, f, g, h1, h2, h3, h4⟩
    obtain ⟨rfl, rfl⟩ := List.append_eq_nil_iff.mp h2.symm
    exact ⟨v, ws, h1, h3, h4⟩
  · rintro ⟨v, ws, h1, h3, h4⟩
    exact ⟨v, ws, [], [], h1, rfl, h3, h4⟩
theorem at_tup0 : (Tr.tup xs).At H v [] ↔ ∃ a vs, v = .ref a ∧ H a = some (.tup vs) ∧ Tr.Ats H xs vs [] := by simp only [Tr.At]
theorem at_int0 {i : Int} : (Tr.int i).At H v [] ↔ v = .int i := by simp [Tr.At]
theorem at_str0 {i : Str} : (Tr.str i).At H v [] ↔ v = .str i := by simp [Tr.At]
theorem ats_app0 : ∀ {xs ys : List Tr} {vs : List V}, Tr.Ats H (xs ++ ys) vs [] ↔ ∃ us ws, vs = us ++ ws ∧ Tr.Ats H xs us [] ∧ Tr.Ats H ys ws []
  | [], ys, vs => by
    constructor
    · intro h; exact ⟨[], vs, rfl, ats_nil0.mpr rfl, h⟩
    · rintro ⟨us, ws, rfl, h1, h2⟩
      rw [ats_nil0.mp h1]
      exact h2
  | x :: xs, ys, vs => by
    constructor
    · intro h
      obtain ⟨v, ws, rfl, h1, h2⟩ := ats_cons0.mp h
      obtain ⟨us, zs, rfl, h3, h4⟩ := ats_app0.mp h2
      exact ⟨v :: us, zs, rfl, ats_cons0.mpr ⟨v, us, rfl, h1, h3⟩, h4⟩
    · rintro ⟨us, ws, rfl, h1, h2⟩
      obtain ⟨v, us', rfl, h3, h4⟩ := ats_cons0.mp h1
      exact ats_cons0.mpr ⟨v, us' ++ ws, rfl, h3, ats_app0.mpr ⟨us', ws, rfl, h4, h2⟩⟩
theorem Tr.At.same {H H' : Hp} (h : x.At H v []) (s : Same H H') : x.At H' v [] := h.mono (s.keep _)
theorem Tr.Ats.same {H H' : Hp} (h : Tr.Ats H xs vs []) (s : Same H H') : Tr.Ats H' xs vs [] := h.mono (s.keep _)
theorem Tr.At.tups {H H' : Hp} (h : x.At H v []) (s : Tups H H') : x.At H' v [] := h.mono ⟨s, fun _ m => by simp at m⟩
theorem Tr.Ats.tups {H H' : Hp} (h : Tr.Ats H xs vs []) (s : Tups H H') : Tr.Ats H' xs vs [] := h.mono ⟨s, fun _ m => by simp at m⟩
end
section
variable {H : Hp} {v : V} {a : Addr}
theorem tup2_at {x y : Tr} {u v : V} (e : H a = some (.tup [u, v])) (h : x.At H u []) (h2 : y.At H v []) : (Tr.tup [x, y]).At H (.ref a) [] := at_tup0.mpr ⟨a, _, rfl, e, ats_cons0.mpr ⟨_, _, rfl, h, ats_cons0.mpr ⟨_, _, rfl, h2, ats_nil0.mpr rfl⟩⟩⟩
theorem int_at {i : Int} : (Tr.int i).At H (.int i) [] := at_int0.mpr rfl
theorem str_at0 {i : Str} : (Tr.str i).At H (.str i) [] := at_str0.mpr rfl
def Nd.word : Nd → Str
  | .say _ _ => "say"
  | .hand _ _ _ => "hand"
  | .put _ _ _ => "put"
  | .test _ _ _ => "test"
  | .wait _ _ _ => "wait"
  | .call _ _ => "call"
  | .back => "back"
  | .stop => "stop"
end
def natsV (l : List Nat) : List V := l.map fun k => V.int (k : Nat)
theorem natsV_int (l : List Nat) : natsV l = (l.map fun (k : Nat) => (k : Int)).map V.int := by simp [natsV]
theorem natsV_len (l : List Nat) : (natsV l).length = l.length := by simp [natsV]
theorem atI_nats {l : List Nat} {k : Nat} (h : k < l.length) : atI (natsV l) (k : Nat) = some (.int (l.getD k 0 : Nat)) := atI_nat (by simp [natsV, h])
theorem natsV_snoc (l : List Nat) (k : Nat) : natsV l ++ [V.int (k : Nat)] = natsV (l ++ [k]) := by simp [natsV]
def natsT (l : List Nat) : List Tr := l.map fun k => Tr.int (k : Nat)
theorem ats_nats {H : Hp} : ∀ l : List Nat, Tr.Ats H (natsT l) (natsV l) []
  | [] => by simp [natsT, natsV, Tr.Ats]
  | k :: l => ats_cons0.mpr ⟨_, _, rfl, int_at, ats_nats l⟩
def graphT (bs : List (Str × Int)) (ns : List Nd) (f : Nat) : List Tr := [.lst (bs.map boxT), .lst (ns.map Nd.tr), .int (f : Nat)]
structure GAt (H : Hp) (v : V) (bs : List (Str × Int)) (ns : List Nd) (f : Nat) (b n : Addr) : Prop where
  ex : ∃ a ub un, v = .ref a ∧ H a = some (.tup [.ref b, .ref n, .int (f : Nat)]) ∧ H b = some (.lst ub) ∧ Tr.Ats H (bs.map boxT) ub [] ∧ H n = some (.lst un) ∧ Tr.Ats H (ns.map Nd.tr) un []
theorem GAt.mono {H H' : Hp} {v : V} {bs : List (Str × Int)} {ns : List Nd} {f : Nat} {b n : Addr} (g : GAt H v bs ns f b n) (t : Tups H H') (kb : ∀ o, H b = some o → H' b = some o) (kn : ∀ o, H n = some o → H' n = some o) : GAt H' v bs ns f b n := by
  obtain ⟨a, ub, un, h1, h2, h3, h4, h5, h6⟩ := g.ex
  exact ⟨a, ub, un, h1, t _ _ h2, kb _ h3, h4.tups t, kn _ h5, h6.tups t⟩
theorem GAt.same {H H' : Hp} {v : V} {bs : List (Str × Int)} {ns : List Nd} {f : Nat} {b n : Addr} (g : GAt H v bs ns f b n) (s : Same H H') : GAt H' v bs ns f b n := g.mono s.tups (fun o h => s _ _ h) (fun o h => s _ _ h)
theorem hs_pts0 : ∀ ps : List Pt, Tr.hs (ps.map Pt.tr) = 0
  | [] => by simp [Tr.hs]
  | p :: ps => by
    have : p.tr.h = 0 := by cases p <;> simp [Pt.tr, Tr.h]
    simp [Tr.hs, hs_pts0 ps, this]
theorem ex_trh : ∀ e : Ex, e.tr.h = e.h + 1
  | .num _ => by simp [Ex.tr, Tr.h, Tr.hs, Ex.h]
  | .box _ => by simp [Ex.tr, Tr.h, Tr.hs, Ex.h]
  | .two k a b => by
    have h1 := ex_trh a
    have h2 := ex_trh b
    simp only [Ex.tr, Tr.h, Tr.hs, Ex.h, h1, h2]
    omega
theorem cd_trh {ys : List Str} : ∀ {c : Cd}, c.ok ys 5 → c.tr.h ≤ c.h + 7
  | .cmp k a b, h => by
    have h1 := ex_trh a
    have h2 := ex_trh b
    have h3 := h.1.2
    have h4 := h.2.2
    simp only [Cd.tr, Tr.h, Tr.hs, Cd.h, h1, h2]
    omega
  | .nt c, h => by
    have h1 := cd_trh (c := c) h
    simp only [Cd.tr, Tr.h, Tr.hs, Cd.h]
    omega
  | .both c d, h => by
    have h1 := cd_trh (c := c) h.1
    have h2 := cd_trh (c := d) h.2
    simp only [Cd.tr, Tr.h, Tr.hs, Cd.h]
    omega
theorem nd_h {n i : Nat} {d : Nd} (h : d.okAt n i) : d.tr.h ≤ 11 := by
  cases d with
  | say w m => simp [Nd.tr, Nd.its, Tr.h, Tr.hs]
  | hand l w m => simp [Nd.tr, Nd.its, Tr.h, Tr.hs]
  | put b e m =>
    have h1 := h.2.1.2
    have h2 := ex_trh e
    simp only [Nd.tr, Nd.its, Tr.h, Tr.hs]
    omega
  | test c a b =>
    have h1 := h.2.2.2
    have h2 := cd_trh h.2.2.1
    simp only [Nd.tr, Nd.its, Tr.h, Tr.hs]
    omega
  | wait l bs m =>
    have hb : ∀ bs : List (List Pt × Nat), Tr.hs (bs.map brT) ≤ 2 := fun bs => by
      induction bs with
      | nil => simp [Tr.hs]
      | cons b bs ih => simp only [List.map_cons, Tr.hs, brT, Tr.h, hs_pts0]; omega
    have := hb bs
    simp only [Nd.tr, Nd.its, Tr.h, Tr.hs]
    omega
  | call a b => simp [Nd.tr, Nd.its, Tr.h, Tr.hs]
  | back => simp [Nd.tr, Nd.its, Tr.h, Tr.hs]
  | stop => simp [Nd.tr, Nd.its, Tr.h, Tr.hs]
structure Gok (ns : List Nd) (f : Nat) : Prop where
  at_ : ∀ (i : Nat) (d : Nd), ns[i]? = some d → d.okAt ns.length i
  first : f < ns.length
  few : ns.length ≤ 100
theorem Gok.hs {ns : List Nd} {f : Nat} (g : Gok ns f) : Tr.hs (ns.map Nd.tr) ≤ 11 := by
  have : ∀ l : List Nd, (∀ d ∈ l, d.tr.h ≤ 11) → Tr.hs (l.map Nd.tr) ≤ 11 := fun l => by
    induction l with
    | nil => intro _; simp [Tr.hs]
    | cons d l ih =>
      intro h
      have h1 := h d (by simp)
      have h2 := ih fun x m => h x (by simp [m])
      simp only [List.map_cons, Tr.hs]
      omega
  refine this ns fun d hd => ?_
  obtain ⟨i, hi, e⟩ := List.getElem_of_mem hd
  exact nd_h (g.at_ i d (by rw [List.getElem?_eq_getElem hi, e]))
structure OutAt (H : Hp) (v : V) (bs : List (Str × Int)) (ns : List Nd) (f : Nat) (sf : List Nat) (b n l : Addr) : Prop where
  ex : ∃ a g, v = .ref a ∧ H a = some (.tup [.ref g, .ref l]) ∧ GAt H (.ref g) bs ns f b n ∧ H l = some (.lst (natsV sf))
def outT (bs : List (Str × Int)) (ns : List Nd) (f : Nat) (sf : List Nat) : List Tr := [.tup (graphT bs ns f), .lst (natsT sf)]
theorem OutAt.mono {H H' : Hp} {v : V} {bs : List (Str × Int)} {ns : List Nd} {f : Nat} {sf : List Nat} {b n l : Addr} (o : OutAt H v bs ns f sf b n l) (s : Same H H') : OutAt H' v bs ns f sf b n l := by
  obtain ⟨a, g, h0, h1, h2, h3⟩ := o.ex
  exact ⟨a, g, h0, s _ _ h1, h2.same s, s _ _ h3⟩
def leftN (ns : List Nd) (ks sf : List Nat) : List Nd := ks.map fun i => (ns.getD i .back).ren fun k => sf.getD k 0
def wayV : Option Nat → V
  | none => .non
  | some k => .int (k : Nat)
def waysV (ws : List (Option Nat)) : List V := ws.map wayV
def placeKv (ks : List Nat) : List (Key × V) := ks.zipIdx.map fun p => (Sum.inl (p.1 : Int), V.int (p.2 : Nat))
theorem placeKv_snoc (ks : List Nat) (k : Nat) : placeKv (ks ++ [k]) = placeKv ks ++ [(Sum.inl (k : Int), V.int (ks.length : Nat))] := by
  unfold placeKv
  rw [List.zipIdx_append, List.map_append]
  simp
theorem mergeK_snoc (l : List (Key × V)) (p : Key × V) : mergeK [] (l ++ [p]) = putK (mergeK [] l) p.1 p.2 := by
  unfold mergeK
  rw [List.foldl_append]
  rfl
theorem place_val : ∀ (n : Nat) (ks : List Nat), ks.length = n → ks.Nodup → ∀ (i j : Nat), ks[i]? = some j → valV (mergeK [] (placeKv ks)) (Sum.inl (j : Int)) = some (.int (i : Nat))
  | 0, ks, hl, _, i, j, e => by
    rw [List.length_eq_zero_iff] at hl
    subst hl
    simp at e
  | n + 1, ks, hl, hn, i, j, e => by
    obtain ⟨ks, k, rfl⟩ : ∃ l k, ks = l ++ [k] := ⟨ks.dropLast, ks.getLast (by intro z; rw [z] at hl; simp at hl), (List.dropLast_concat_getLast _).symm⟩
    have hl' : ks.length = n := by simpa using hl
    rw [placeKv_snoc, mergeK_snoc, valV_put]
    have hn1 : ks.Nodup := (List.nodup_append.mp hn).1
    by_cases hi : i < ks.length
    · rw [List.getElem?_append_left hi] at e
      have hne : j ≠ k := fun z => by
        subst z
        have := (List.nodup_append.mp hn).2.2 j (List.mem_of_getElem? e) j (by simp)
        exact this rfl
      rw [if_neg (fun z => hne (by have := Sum.inl.inj z; omega))]
      exact place_val n ks hl' hn1 i j e
    · rw [List.getElem?_append_right (by omega)] at e
      have hi0 : i - ks.length = 0 := by
        have := (List.getElem?_eq_some_iff.mp e).1
        simp at this; omega
      rw [hi0] at e
      simp at e
      subst e
      rw [if_pos rfl]
      have : i = ks.length := by omega
      rw [this]
def tailW (ns : List Nd) : Nd → Option Nat
  | .call m n => if (ns.getD n .stop).word = Str.ofString "back" then some m else none
  | _ => none
def tailWs (ns : List Nd) : List (Option Nat) := ns.map (tailW ns)
end L2
namespace L2
open PySem PySem.Spec PyProof.Rows
def tDNewN : TE := fun _ H Q => New H (.dK []) Q
section
variable {σ : St} {H : Hp} {Q : VK} {QT : Bool → Hp → Prop} {td ty tv te : TE} {nn bb cc : St → Hp → Prop} {rr : VK}
theorem i_dnew (h : New H (.dK []) Q) : tDNewN σ H Q := h
theorem i_tB (h : te σ H fun x H1 => ∃ c, x = .bl c ∧ QT c H1) : tB te σ H QT := h
theorem i_din (h : ty σ H fun y H1 => td σ H1 fun x H2 => ∃ a o, x = .ref a ∧ DGet H2 a y o ∧ Q (.bl o.isSome) H2) : tDIn ty td σ H Q := h
theorem i_dnotin (h : ty σ H fun y H1 => td σ H1 fun x H2 => ∃ a o, x = .ref a ∧ DGet H2 a y o ∧ Q (.bl (!o.isSome)) H2) : tDNotIn ty td σ H Q := h
theorem i_dput (h : tv σ H fun v H1 => td σ H1 fun x H2 => ty σ H2 fun y H3 => ∃ a H4, x = .ref a ∧ DPut H3 a y v H4 ∧ nn σ H4) : sDPut td ty tv ⟨nn, rr, bb, cc⟩ σ H := h
def SetD (H : Hp) (d : Addr) (rd : List Str) : Prop := ∃ kvs, H d = some (.dK kvs) ∧ kvs.length ≤ rd.length ∧ ∀ s : Str, (valV kvs (Sum.inr s)).isSome = decide (s ∈ rd)
theorem SetD.mono {H' : Hp} {d : Addr} {rd : List Str} (h : SetD H d rd) (s : Same H H') : SetD H' d rd := by
  obtain ⟨kvs, h1, h2, h3⟩ := h
  exact ⟨kvs, s _ _ h1, h2, h3⟩
theorem SetD.put {d : Addr} {rd : List Str} {w : Str} {v : V} (h : SetD H d rd) (hz : rd.length < 1000000) : ∃ H4, DPut H d (.str w) v H4 ∧ SetD H4 d (rd ++ [w]) ∧ ∃ o, H4 = upd H d (.dK o) := by
  obtain ⟨kvs, h2, h3, h4⟩ := h
  refine ⟨_, .inl ⟨kvs, Sum.inr w, h2, rfl, Nat.lt_of_lt_of_le (show kvs.length < 1000000 by omega) (le_line (Nat.le_refl _)), rfl⟩, ⟨putK kvs (Sum.inr w) v, upd_same, ?_, fun s => ?_⟩, _, rfl⟩
  · have := length_putK kvs (Sum.inr w) v
    simp only [List.length_append, List.length_cons, List.length_nil]
    omega
  · rw [valV_put]
    by_cases e : s = w
    · subst e
      rw [if_pos rfl]
      simp
    · rw [if_neg (fun z => e (by cases z; rfl)), h4]
      simp [e]
end
def Nd.reads : Nd → List Str
  | .put _ e _ => e.names
  | .test c _ _ => c.names
  | _ => []
def readN (ns : List Nd) : List Str := ns.flatMap Nd.reads
def deafW (rd : List Str) : Nd → Option Nat
  | .put b _ n => if b ∈ rd then none else some n
  | _ => none
def deafWs (ns : List Nd) : List (Option Nat) := ns.map (deafW (readN ns))
end L2
namespace L2
def addAll (row : List Nat) (ks : List Nat) : List Nat := ks.foldl (fun r k => if k ∈ r then r else r ++ [k]) row
theorem addAll_snoc (row ks : List Nat) (k : Nat) : addAll row (ks ++ [k]) = if k ∈ addAll row ks then addAll row ks else addAll row ks ++ [k] := by
  unfold addAll
  rw [List.foldl_append]
  rfl
theorem addAll_ok {n : Nat} {row : List Nat} (hn : row.Nodup) (hl : ∀ k ∈ row, k < n) : ∀ (ks : List Nat), (∀ k ∈ ks, k < n) → (∃ t, addAll row ks = row ++ t) ∧ (addAll row ks).Nodup ∧ (∀ k ∈ addAll row ks, k < n) ∧ ∀ k ∈ ks, k ∈ addAll row ks := by
  have gen : ∀ (m : Nat) (ks : List Nat), ks.length = m → (∀ k ∈ ks, k < n) → (∃ t, addAll row ks = row ++ t) ∧ (addAll row ks).Nodup ∧ (∀ k ∈ addAll row ks, k < n) ∧ ∀ k ∈ ks, k ∈ addAll row ks := by
    intro m
    induction m with
    | zero =>
      intro ks hk _
      rw [List.length_eq_zero_iff] at hk
      subst hk
      exact ⟨⟨[], by simp [addAll]⟩, hn, hl, by simp⟩
    | succ m ih =>
      intro ks hk hlt
      obtain ⟨ls, k, rfl⟩ : ∃ l k, ks = l ++ [k] := ⟨ks.dropLast, ks.getLast (by intro z; rw [z] at hk; simp at hk), (List.dropLast_concat_getLast _).symm⟩
      obtain ⟨⟨t, h1⟩, h2, h3, h4⟩ := ih ls (by simpa using hk) (fun x hx => hlt x (by simp [hx]))
      rw [addAll_snoc]
      by_cases hk : k ∈ addAll row ls
      · rw [if_pos hk]
        refine ⟨⟨t, h1⟩, h2, h3, fun x hx => ?_⟩
        rcases List.mem_append.mp hx with hx | hx
        · exact h4 x hx
        · rw [List.mem_singleton.mp hx]; exact hk
      · rw [if_neg hk]
        refine ⟨⟨t ++ [k], by rw [h1, List.append_assoc]⟩, ?_, ?_, ?_⟩
        · rw [List.nodup_append]
          refine ⟨h2, by simp, fun a ha b hb => ?_⟩
          rw [List.mem_singleton.mp hb]
          exact fun z => hk (z ▸ ha)
        · intro x hx
          rcases List.mem_append.mp hx with hx | hx
          · exact h3 x hx
          · rw [List.mem_singleton.mp hx]; exact hlt k (by simp)
        · intro x hx
          rcases List.mem_append.mp hx with hx | hx
          · exact List.mem_append_left _ (h4 x hx)
          · rw [List.mem_singleton.mp hx]; simp
  exact fun ks => gen ks.length ks rfl
theorem pigeon : ∀ (n : Nat) (l : List Nat), l.Nodup → (∀ k ∈ l, k < n) → l.length ≤ n
  | 0, l, _, h => by
    cases l with
    | nil => simp
    | cons a l => exact absurd (h a (by simp)) (Nat.not_lt_zero _)
  | n + 1, l, hn, h => by
    by_cases hm : n ∈ l
    · have h1 := List.length_erase_of_mem hm
      have h2 := pigeon n (l.erase n) (hn.erase n) (fun k hk => by
        have h3 := hn.mem_erase_iff.mp hk
        have := h k h3.2
        have := h3.1
        omega)
      have : 0 < l.length := List.length_pos_of_mem hm
      omega
    · have := pigeon n l hn (fun k hk => by
        have h1 := h k hk
        have : k ≠ n := fun z => hm (z ▸ hk)
        omega)
      omega
def bfs (nx : Nat → List Nat) : Nat → Nat → List Nat → List Nat
  | 0, _, row => row
  | fuel + 1, p, row => match row[p]? with
    | none => row
    | some k => bfs nx fuel (p + 1) (addAll row (nx k))
structure Bf (nx : Nat → List Nat) (n p : Nat) (row : List Nat) : Prop where
  nd : row.Nodup
  lt : ∀ k ∈ row, k < n
  le : p ≤ row.length
  cl : ∀ (i k : Nat), i < p → row[i]? = some k → ∀ j ∈ nx k, j ∈ row
theorem Bf.step {nx : Nat → List Nat} {n p k : Nat} {row : List Nat} (h : Bf nx n p row) (e : row[p]? = some k) (hx : ∀ j ∈ nx k, j < n) : Bf nx n (p + 1) (addAll row (nx k)) := by
  obtain ⟨⟨t, h1⟩, h2, h3, h4⟩ := addAll_ok h.nd h.lt (nx k) hx
  have hp := (List.getElem?_eq_some_iff.mp e).1
  refine ⟨h2, h3, by rw [h1, List.length_append]; omega, fun i k' hi ek j hj => ?_⟩
  have hi' : i < row.length := by omega
  rw [h1, List.getElem?_append_left hi'] at ek
  by_cases hip : i < p
  · rw [h1]; exact List.mem_append_left _ (h.cl i k' hip ek j hj)
  · have : i = p := by omega
    subst this
    rw [e] at ek
    cases ek
    exact h4 j hj
theorem Bf.few {nx : Nat → List Nat} {n p : Nat} {row : List Nat} (h : Bf nx n p row) : row.length ≤ n := pigeon n row h.nd h.lt
theorem Bf.end_ {nx : Nat → List Nat} {n : Nat} (hx : ∀ k, k < n → ∀ j ∈ nx k, j < n) : ∀ (fuel p : Nat) (row : List Nat), Bf nx n p row → n + 1 ≤ fuel + p → Bf nx n (bfs nx fuel p row).length (bfs nx fuel p row)
  | 0, p, row, h, hf => absurd (Nat.le_trans h.le h.few) (by omega)
  | fuel + 1, p, row, h, hf => by
    unfold bfs
    cases e : row[p]? with
    | none =>
      have : p = row.length := by
        have := List.getElem?_eq_none_iff.mp e
        have := h.le
        omega
      rw [this] at h
      exact h
    | some k => exact Bf.end_ hx fuel (p + 1) _ (h.step e (hx k (h.lt k (List.mem_of_getElem? e)))) (by omega)
theorem bfs_go {nx : Nat → List Nat} {fuel p k : Nat} {row : List Nat} (e : row[p]? = some k) : bfs nx (fuel + 1) p row = bfs nx fuel (p + 1) (addAll row (nx k)) := by
  conv => lhs; unfold bfs
  rw [e]
theorem bfs_stop {nx : Nat → List Nat} {fuel p : Nat} {row : List Nat} (e : row.length ≤ p) : bfs nx fuel p row = row := by
  cases fuel with
  | zero => rfl
  | succ fuel =>
    unfold bfs
    rw [List.getElem?_eq_none e]
def posW (row : List Nat) (n : Nat) : List (Option Nat) := (List.range n).map fun k => if k ∈ row then some (row.idxOf k) else none
theorem idx_get {row : List Nat} {k : Nat} (h : k ∈ row) : row[row.idxOf k]? = some k := by
  have h1 := List.idxOf_lt_length_of_mem h
  rw [List.getElem?_eq_getElem h1]
  simp
theorem idx_of {row : List Nat} (hn : row.Nodup) {i k : Nat} (e : row[i]? = some k) : row.idxOf k = i := by
  have hm : k ∈ row := List.mem_of_getElem? e
  have h1 := idx_get hm
  obtain ⟨a1, b1⟩ := List.getElem?_eq_some_iff.mp e
  obtain ⟨a2, b2⟩ := List.getElem?_eq_some_iff.mp h1
  have := List.nodup_iff_pairwise_ne.mp hn
  rw [List.pairwise_iff_getElem] at this
  rcases Nat.lt_trichotomy (row.idxOf k) i with h | h | h
  · exact absurd (b2.trans b1.symm) (this _ _ a2 a1 h)
  · exact h
  · exact absurd (b1.trans b2.symm) (this _ _ a1 a2 h)
def posT (row : List Nat) (n i : Nat) : List (Option Nat) := (List.range n).map fun k => if k ∈ row.take i then some (row.idxOf k) else none
end L2
namespace L2
open PySem PySem.Spec PyProof.Rows
section
variable {X : Cx} {σ : St} {H : Hp} {Q : VK} {QT : Bool → Hp → Prop} {td ty tv te : TE} {nn bb cc : St → Hp → Prop} {rr : VK}
theorem i_aug1 {i : Nat} {a c : Int} {f : Int → Int → Int} (e : σ[i]? = some (some (.int a))) (h : nn (σ.set i (some (.int (f a c)))) H) : tAug i (tC (.int c)) (ipI f) ⟨nn, rr, bb, cc⟩ σ H := ⟨_, e, a, c, rfl, rfl, h⟩
def rRepN : R2 := fun x y H Q => ∃ l k xs, x = .ref l ∧ y = .int k ∧ H l = some (.lst xs) ∧ -(2 ^ 63) ≤ k ∧ k < 2 ^ 63 ∧ xs.length * k.toNat ≤ sizeLine ∧ New H (.lst (List.replicate k.toNat xs).flatten) Q
def SetI (H : Hp) (d : Addr) (row : List Nat) : Prop := ∃ kvs, H d = some (.dK kvs) ∧ kvs.length ≤ row.length ∧ ∀ k : Nat, (valV kvs (Sum.inl (k : Int))).isSome = decide (k ∈ row)
theorem SetI.mono {H' : Hp} {d : Addr} {row : List Nat} (h : SetI H d row) (s : Same H H') : SetI H' d row := by
  obtain ⟨kvs, h1, h2, h3⟩ := h
  exact ⟨kvs, s _ _ h1, h2, h3⟩
theorem SetI.put {d : Addr} {row : List Nat} {k : Nat} {v : V} (h : SetI H d row) (hz : row.length < 1000000) : ∃ H4, DPut H d (.int (k : Nat)) v H4 ∧ SetI H4 d (row ++ [k]) ∧ ∃ o, H4 = upd H d (.dK o) := by
  obtain ⟨kvs, h2, h3, h4⟩ := h
  refine ⟨_, .inl ⟨kvs, Sum.inl (k : Int), h2, rfl, Nat.lt_of_lt_of_le (show kvs.length < 1000000 by omega) (le_line (Nat.le_refl _)), rfl⟩, ⟨putK kvs (Sum.inl (k : Int)) v, upd_same, ?_, fun s => ?_⟩, _, rfl⟩
  · have := length_putK kvs (Sum.inl (k : Int)) v
    simp only [List.length_append, List.length_cons, List.length_nil]
    omega
  · rw [valV_put]
    by_cases e : s = k
    · subst e
      rw [if_pos rfl]
      simp
    · rw [if_neg (fun z => e (by have := Sum.inl.inj z; omega)), h4]
      simp [e]
theorem setI_one {d : Addr} {k : Nat} {v : V} (h : H d = some (.dK [(Sum.inl (k : Int), v)])) : SetI H d [k] := ⟨_, h, Nat.le_refl _, fun s => by
  by_cases e : s = k
  · subst e
    rw [valV_pos rfl]
    simp
  · rw [valV_neg (fun z => e (by have := Sum.inl.inj z; omega)), valV_nil]
    simp [e]⟩
end
theorem place_none : ∀ (n : Nat) (ks : List Nat), ks.length = n → ∀ (j : Nat), j ∉ ks → valV (mergeK [] (placeKv ks)) (Sum.inl (j : Int)) = none
  | 0, ks, hl, j, e => by
    rw [List.length_eq_zero_iff] at hl
    subst hl
    rfl
  | n + 1, ks, hl, j, e => by
    obtain ⟨ks, k, rfl⟩ : ∃ l k, ks = l ++ [k] := ⟨ks.dropLast, ks.getLast (by intro z; rw [z] at hl; simp at hl), (List.dropLast_concat_getLast _).symm⟩
    have hl' : ks.length = n := by simpa using hl
    rw [placeKv_snoc, mergeK_snoc, valV_put, if_neg (fun z => e (by have := Sum.inl.inj z; simp; omega))]
    exact place_none n ks hl' j (fun m => e (by simp [m]))
theorem place_pos {row : List Nat} (hn : row.Nodup) (k : Nat) : valV (mergeK [] (placeKv row)) (Sum.inl (k : Int)) = (if k ∈ row then some (V.int (row.idxOf k : Nat)) else none) := by
  by_cases h : k ∈ row
  · rw [if_pos h]
    exact place_val _ _ rfl hn _ _ (idx_get h)
  · rw [if_neg h]
    exact place_none _ _ rfl k h
def wayT : Option Nat → Tr
  | none => .non
  | some k => .int (k : Nat)
def waysT (ws : List (Option Nat)) : List Tr := ws.map wayT
structure OutW (H : Hp) (v : V) (bs : List (Str × Int)) (ns : List Nd) (f : Nat) (ws : List (Option Nat)) (b n l : Addr) : Prop where
  ex : ∃ a g, v = .ref a ∧ H a = some (.tup [.ref g, .ref l]) ∧ GAt H (.ref g) bs ns f b n ∧ H l = some (.lst (waysV ws))
def outTW (bs : List (Str × Int)) (ns : List Nd) (f : Nat) (ws : List (Option Nat)) : List Tr := [.tup (graphT bs ns f), .lst (waysT ws)]
theorem OutW.mono {H H' : Hp} {v : V} {bs : List (Str × Int)} {ns : List Nd} {f : Nat} {ws : List (Option Nat)} {b n l : Addr} (o : OutW H v bs ns f ws b n l) (s : Same H H') : OutW H' v bs ns f ws b n l := by
  obtain ⟨a, g, h0, h1, h2, h3⟩ := o.ex
  exact ⟨a, g, h0, s _ _ h1, h2.same s, s _ _ h3⟩
def nxN (ns : List Nd) (k : Nat) : List Nat := (ns.getD k .back).nexts
def rowN (ns : List Nd) (f : Nat) : List Nat := bfs (nxN ns) (ns.length + 1) 0 [f]
def cutN (ns : List Nd) (f : Nat) : List Nd := (rowN ns f).map fun i => (ns.getD i .back).ren fun k => (rowN ns f).idxOf k
end L2
namespace L2
open PySem PySem.Spec PyProof.Rows
def Itz (K : PySem.W.Frag) (a b : Addr) : It :=
  ⟨fun i H => ∃ xs ys x y, SqL K H a xs ∧ SqL K H b ys ∧ xs[i]? = some x ∧ ys[i]? = some y, fun i H v H' => ∃ p x y, v = .ref p ∧ H p = none ∧ Same H H' ∧ H' p = some (.tup [x, y]) ∧ (∀ xs, SqL K H a xs → xs[i]? = some x) ∧ ∀ ys, SqL K H b ys → ys[i]? = some y, fun i H => ∃ xs ys, SqL K H a xs ∧ SqL K H b ys ∧ (xs.length ≤ i ∨ ys.length ≤ i)⟩
section
variable {X : Cx} {elts : List Expr} {x1 : Nat} {tpos : Pos}
def iZip (K : PySem.W.Frag) (ta : TA) : TI := fun σ H R => ta σ H fun vs H1 => ∃ a b, vs = [.ref a, .ref b] ∧ (∃ xs, SqL K H1 a xs) ∧ (∃ ys, SqL K H1 b ys) ∧ R (Itz K a b) H1
end
end L2
namespace L2
open PySem PySem.Spec PyProof.Rows
def rIsC : R2 := fun x y H Q => ∃ b, y = .bl b ∧ ((∃ c, x = .bl c) ∨ ∃ a, x = .ref a) ∧ Q (.bl (decide (x = .bl b))) H
theorem i_isCb {c b : Bool} {H : Hp} {Q : VK} (h : Q (.bl (decide (c = b))) H) : rIsC (.bl c) (.bl b) H Q := ⟨b, rfl, .inl ⟨c, rfl⟩, by rw [show decide (V.bl c = V.bl b) = decide (c = b) by cases c <;> cases b <;> rfl]; exact h⟩
theorem i_isCr {a : Addr} {b : Bool} {H : Hp} {Q : VK} (h : Q (.bl false) H) : rIsC (.ref a) (.bl b) H Q := ⟨b, rfl, .inr ⟨a, rfl⟩, by rw [show decide (V.ref a = V.bl b) = false from decide_eq_false (fun e => by cases e)]; exact h⟩
theorem i_isTT {H : Hp} {Q : VK} (h : Q (.bl true) H) : rIsC (.bl true) (.bl true) H Q := i_isCb h
theorem i_isTF {H : Hp} {Q : VK} (h : Q (.bl false) H) : rIsC (.bl true) (.bl false) H Q := i_isCb h
theorem i_isFT {H : Hp} {Q : VK} (h : Q (.bl false) H) : rIsC (.bl false) (.bl true) H Q := i_isCb h
theorem i_isFF {H : Hp} {Q : VK} (h : Q (.bl true) H) : rIsC (.bl false) (.bl false) H Q := i_isCb h
def inB : Option Int → Bool
  | some x => decide (0 ≤ x) && decide (x ≤ 9)
  | none => false
def pl2 (k : Bool) : Option Int → Option Int → Option Int
  | some x, some y => some (if k then x + y else x - y)
  | _, _ => none
def Ex.plain : Ex → Option Int
  | .num i => some i
  | .box _ => none
  | .two k a b => pl2 k a.plain b.plain
def Ex.fold : Ex → Ex
  | .num i => .num i
  | .box n => .box n
  | .two k a b => if inB (pl2 k a.plain b.plain) = true then .num ((pl2 k a.plain b.plain).getD 0) else .two k a.fold b.fold
def Ex.dn : Ex → Bool
  | .num i => inB (some i)
  | .box _ => true
  | .two k a b => !inB (pl2 k a.plain b.plain) && (a.dn && b.dn)
theorem inB_some {o : Option Int} (h : inB o = true) : ∃ x, o = some x ∧ 0 ≤ x ∧ x ≤ 9 := by
  cases o with
  | none => cases h
  | some x =>
    simp only [inB, Bool.and_eq_true, decide_eq_true_iff] at h
    exact ⟨x, rfl, h⟩
theorem Ex.fold_plain : ∀ e : Ex, e.fold.plain = e.plain
  | .num _ => rfl
  | .box _ => rfl
  | .two k a b => by
    simp only [Ex.fold]
    split
    · rename_i h
      obtain ⟨x, e, _⟩ := inB_some h
      simp [Ex.plain, e]
    · simp only [Ex.plain, Ex.fold_plain a, Ex.fold_plain b]
theorem Ex.fold_dn {ns : List Str} : ∀ {e : Ex}, e.ok ns → e.fold.dn = true
  | .num i, h => by
    simp only [Ex.fold, Ex.dn, inB, Bool.and_eq_true, decide_eq_true_iff]
    have : 0 ≤ i ∧ i < 10 := h
    omega
  | .box _, _ => rfl
  | .two k a b, h => by
    simp only [Ex.fold]
    split
    · rename_i h
      obtain ⟨x, e, h1, h2⟩ := inB_some h
      rw [e]
      simp only [Option.getD_some, Ex.dn, inB, Bool.and_eq_true, decide_eq_true_iff]
      exact ⟨h1, h2⟩
    · rename_i h0
      have h1 := Ex.fold_dn (e := a) h.1
      have h2 := Ex.fold_dn (e := b) h.2
      simp only [Ex.dn, Ex.fold_plain, h1, h2]
      simpa using h0
theorem Ex.fold_h : ∀ e : Ex, e.fold.h ≤ e.h
  | .num _ => Nat.le_refl _
  | .box _ => Nat.le_refl _
  | .two k a b => by
    have h1 := Ex.fold_h a
    have h2 := Ex.fold_h b
    simp only [Ex.fold]
    split
    · simp [Ex.h]
    · simp only [Ex.h]; omega
theorem Ex.fold_ok {ns : List Str} : ∀ {e : Ex}, e.ok ns → e.fold.ok ns
  | .num _, h => h
  | .box _, h => h
  | .two k a b, h => by
    simp only [Ex.fold]
    split
    · rename_i h
      obtain ⟨x, e, h1, h2⟩ := inB_some h
      rw [e]
      exact ⟨h1, by show x < 10; omega⟩
    · exact ⟨Ex.fold_ok h.1, Ex.fold_ok h.2⟩
theorem Ex.fold_num {ns : List Str} {e : Ex} (ho : e.ok ns) : (∃ x, e.fold = .num x ∧ e.plain = some x ∧ inB e.plain = true) ∨ ((∀ x, e.fold ≠ .num x) ∧ inB e.plain = false) := by
  cases e with
  | num i => exact .inl ⟨i, rfl, rfl, by have : 0 ≤ i ∧ i < 10 := ho; simp only [Ex.plain, inB, Bool.and_eq_true, decide_eq_true_iff]; omega⟩
  | box n => exact .inr ⟨fun x h => (by cases h), rfl⟩
  | two k a b =>
    by_cases h : inB (pl2 k a.plain b.plain) = true
    · left
      obtain ⟨x, e, h1, h2⟩ := inB_some h
      refine ⟨x, ?_, e, h⟩
      simp only [Ex.fold, if_pos h]
      rw [e]
      rfl
    · right
      refine ⟨fun x => ?_, by simpa [Ex.plain] using h⟩
      simp [Ex.fold, h]
def cmpB (k : Bool) (x y : Int) : Bool := if k then decide (x = y) else decide (x < y)
def kn2 (k : Bool) (a b : Option Int) : Option Bool := if inB a = true ∧ inB b = true then some (cmpB k (a.getD 0) (b.getD 0)) else none
def kboth (a b : Option Bool) : Option Bool := if a = some false ∨ b = some false then some false else if a = none ∨ b = none then none else some true
def Cd.known : Cd → Option Bool
  | .cmp k a b => kn2 k a.plain b.plain
  | .nt c => c.known.map (!·)
  | .both c d => kboth c.known d.known
def foldCmp (k : Bool) : Ex → Ex → Bool ⊕ Cd
  | .num x, .num y => .inl (cmpB k x y)
  | a, b => .inr (.cmp k a b)
def foldNt : Bool ⊕ Cd → Bool ⊕ Cd
  | .inl b => .inl !b
  | .inr c => .inr (.nt c)
def foldBoth : Bool ⊕ Cd → Bool ⊕ Cd → Bool ⊕ Cd
  | .inl false, _ => .inl false
  | .inl true, y => y
  | .inr c, .inl false => .inl false
  | .inr c, .inl true => .inr c
  | .inr c, .inr d => .inr (.both c d)
def Cd.fold : Cd → Bool ⊕ Cd
  | .cmp k a b => foldCmp k a.fold b.fold
  | .nt c => foldNt c.fold
  | .both c d => foldBoth c.fold d.fold
def Cd.dn : Cd → Bool
  | .cmp k a b => (kn2 k a.plain b.plain).isNone && (a.dn && b.dn)
  | .nt c => (c.known.map (!·)).isNone && c.dn
  | .both c d => (kboth c.known d.known).isNone && (c.dn && d.dn)
def FoldsTo (c : Cd) (n : Nat) (ns : List Str) : Bool ⊕ Cd → Prop
  | .inl b => c.known = some b
  | .inr d => c.known = none ∧ d.known = none ∧ d.dn = true ∧ d.h ≤ c.h ∧ d.ok ns n
theorem Cd.folds {ns : List Str} {n : Nat} : ∀ {c : Cd}, c.ok ns n → FoldsTo c n ns c.fold
  | .cmp k a b, h => by
    obtain ⟨⟨ha, ha'⟩, hb, hb'⟩ := h
    have h1 := Ex.fold_num ha
    have h2 := Ex.fold_num hb
    have p1 := Ex.fold_plain a
    have p2 := Ex.fold_plain b
    have no : (¬(inB a.plain = true ∧ inB b.plain = true)) → foldCmp k a.fold b.fold = .inr (.cmp k a.fold b.fold) → FoldsTo (.cmp k a b) n ns (Cd.cmp k a b).fold := fun hn e => by
      show FoldsTo _ _ _ (foldCmp k a.fold b.fold)
      rw [e]
      have e1 : kn2 k a.plain b.plain = none := by unfold kn2; rw [if_neg hn]
      refine ⟨e1, by simp only [Cd.known, p1, p2]; exact e1, ?_, Nat.le_refl _, ⟨Ex.fold_ok ha, Nat.le_trans (Ex.fold_h a) ha'⟩, Ex.fold_ok hb, Nat.le_trans (Ex.fold_h b) hb'⟩
      simp only [Cd.dn, p1, p2, e1, Ex.fold_dn ha, Ex.fold_dn hb]
      rfl
    rcases h1 with ⟨x, e1, e2, e3⟩ | ⟨e1, e2⟩
    · rcases h2 with ⟨y, g1, g2, g3⟩ | ⟨g1, g2⟩
      · show FoldsTo _ _ _ (foldCmp k a.fold b.fold)
        rw [e1, g1]
        show kn2 k a.plain b.plain = some (cmpB k x y)
        unfold kn2
        rw [if_pos ⟨e3, g3⟩, e2, g2]
        rfl
      · refine no (by rw [g2]; simp) ?_
        rw [e1]
        cases e : b.fold with
        | num y => exact absurd e (g1 y)
        | box y => rfl
        | two y z w => rfl
    · refine no (by rw [e2]; simp) ?_
      cases e : a.fold with
      | num y => exact absurd e (e1 y)
      | box y => rfl
      | two y z w => rfl
  | .nt c, h => by
    have ih := Cd.folds (c := c) h
    show FoldsTo _ _ _ (foldNt c.fold)
    cases e : c.fold with
    | inl b =>
      rw [e] at ih
      show c.known.map (!·) = some !b
      rw [show c.known = some b from ih]
      rfl
    | inr d =>
      rw [e] at ih
      obtain ⟨h1, h2, h3, h4, h5⟩ := ih
      refine ⟨by simp [Cd.known, h1], by simp [Cd.known, h2], by simp [Cd.dn, h2, h3], ?_, h5⟩
      simp only [Cd.h]
      omega
  | .both c d, h => by
    have i1 := Cd.folds (c := c) h.1
    have i2 := Cd.folds (c := d) h.2
    show FoldsTo _ _ _ (foldBoth c.fold d.fold)
    cases e : c.fold with
    | inl b =>
      rw [e] at i1
      have k1 : c.known = some b := i1
      cases b with
      | false =>
        show kboth c.known d.known = some false
        simp [kboth, k1]
      | true =>
        show FoldsTo _ _ _ d.fold
        cases e2 : d.fold with
        | inl b2 =>
          rw [e2] at i2
          have k2 : d.known = some b2 := i2
          show kboth c.known d.known = some b2
          rw [k1, k2]
          cases b2 <;> rfl
        | inr d2 =>
          rw [e2] at i2
          obtain ⟨h1, h2, h3, h4, h5⟩ := i2
          refine ⟨by simp [Cd.known, kboth, k1, h1], h2, h3, ?_, h5⟩
          simp only [Cd.h]
          omega
    | inr c2 =>
      rw [e] at i1
      obtain ⟨h1, h2, h3, h4, h5⟩ := i1
      cases e2 : d.fold with
      | inl b2 =>
        rw [e2] at i2
        have k2 : d.known = some b2 := i2
        cases b2 with
        | false =>
          show kboth c.known d.known = some false
          simp [kboth, k2]
        | true =>
          refine ⟨by simp [Cd.known, kboth, k2, h1], h2, h3, ?_, h5⟩
          simp only [Cd.h]
          omega
      | inr d2 =>
        rw [e2] at i2
        obtain ⟨g1, g2, g3, g4, g5⟩ := i2
        refine ⟨by simp [Cd.known, kboth, h1, g1], by simp [Cd.known, kboth, h2, g2], by simp [Cd.dn, kboth, h2, g2, h3, g3], ?_, h5, g5⟩
        simp only [Cd.h]
        omega
def fcAt (H : Hp) : Bool ⊕ Cd → V → Prop
  | .inl b, v => v = .bl b
  | .inr c, v => c.At H v
theorem fcAt.mono {H H' : Hp} {x : Bool ⊕ Cd} {v : V} (h : fcAt H x v) (t : Tups H H') : fcAt H' x v := by
  cases x with
  | inl b => exact h
  | inr c => exact Cd.At.mono t h
theorem Cd.At.ref {H : Hp} {c : Cd} {v : V} (h : c.At H v) : ∃ a, v = .ref a := by
  cases c with
  | cmp k e f => obtain ⟨a, _, _, e, _⟩ := h; exact ⟨a, e⟩
  | nt c => obtain ⟨a, _, e, _⟩ := h; exact ⟨a, e⟩
  | both c d => obtain ⟨a, _, _, e, _⟩ := h; exact ⟨a, e⟩
def oiV : Option Int → V
  | none => .non
  | some i => .int i
def obV : Option Bool → V
  | none => .non
  | some b => .bl b
end L2
namespace L2
open PySem PySem.Spec PyProof.Rows
theorem i_zip {K : PySem.W.Frag} {σ : St} {H : Hp} {R : It → Hp → Prop} {ts : TA} (h : ts σ H fun vs H1 => ∃ a b, vs = [.ref a, .ref b] ∧ (∃ xs, SqL K H1 a xs) ∧ (∃ ys, SqL K H1 b ys) ∧ R (Itz K a b) H1) : iZip K ts σ H R := h
def Nd.foldN : Nd → Nd
  | .put b e n => .put b e.fold n
  | .test c m n => match c.fold with
    | .inr d => .test d m n
    | .inl _ => .test c m n
  | d => d
def Nd.foldW : Nd → Option Nat
  | .test c m n => match c.fold with
    | .inl true => some m
    | .inl false => some n
    | .inr _ => none
  | _ => none
def FNat (H : Hp) (d : Nd) (v : V) : Prop := (d.foldW = none ∧ d.foldN.tr.At H v []) ∨ ∃ a b c m n, d = .test c m n ∧ c.fold = .inl b ∧ v = .ref a ∧ H a = some (.tup [.str "test", .bl b, .int (m : Nat), .int (n : Nat)])
theorem FNat.same {H H' : Hp} {d : Nd} {v : V} (h : FNat H d v) (s : Same H H') : FNat H' d v := by
  rcases h with ⟨h1, h2⟩ | ⟨a, b, c, m, n, h1, h2, h3, h4⟩
  · exact .inl ⟨h1, h2.same s⟩
  · exact .inr ⟨a, b, c, m, n, h1, h2, h3, s _ _ h4⟩
theorem Nd.foldN_ok {n i : Nat} {d : Nd} (h : d.okAt n i) : d.foldN.okAt n i := by
  cases d with
  | put b e k => exact ⟨h.1, ⟨Ex.fold_ok h.2.1.1, Nat.le_trans (Ex.fold_h e) h.2.1.2⟩, h.2.2⟩
  | test c a b =>
    have hf := Cd.folds h.2.2.1
    simp only [Nd.foldN]
    cases e : c.fold with
    | inl x => exact h
    | inr d =>
      rw [e] at hf
      exact ⟨h.1, h.2.1, hf.2.2.2.2, Nat.le_trans hf.2.2.2.1 h.2.2.2⟩
  | _ => exact h
theorem Gok.fold {ns : List Nd} {f : Nat} (g : Gok ns f) : Gok (ns.map Nd.foldN) f := ⟨fun i d h => by
  rw [List.getElem?_map] at h
  cases e : ns[i]? with
  | none => rw [e] at h; cases h
  | some d' =>
    rw [e] at h
    obtain rfl : d'.foldN = d := Option.some.inj h
    rw [List.length_map]
    exact Nd.foldN_ok (g.at_ i d' e), by rw [List.length_map]; exact g.first, by rw [List.length_map]; exact g.few⟩
def foldWs (ns : List Nd) : List (Option Nat) := ns.map Nd.foldW
structure KAt (H : Hp) (v : V) (bs : List (Str × Int)) (ns : List Nd) (f : Nat) (ws : List (Option Nat)) (b n : Addr) : Prop where
  ex : ∃ a ub un, v = .ref a ∧ H a = some (.tup [.ref b, .ref n, .int (f : Nat)]) ∧ H b = some (.lst ub) ∧ Tr.Ats H (bs.map boxT) ub [] ∧ H n = some (.lst un) ∧ ∀ i : Nat, ws[i]? = some none → ∃ u, atI un (i : Nat) = some u ∧ (ns.getD i .back).tr.At H u []
end L2
namespace L2
open PySem
end L2
namespace L2
open PySem PySem.Spec PyProof.Rows
def rNeLs : R2 := fun x y H Q => ∃ t fs gs, (Tr.lst t).At H x fs ∧ (Tr.lst t).At H y gs ∧ Tr.hs t ≤ 60 ∧ Q (.bl false) H
theorem kop_neLs {X : Cx} (hu : X.A.units + 64 < cLine) : OpR X (compareOp .NotEq) rNeLs := by
  intro pins s σ H x y v u Q I rx ry h
  obtain ⟨t, fs, gs, h1, h2, hh, q⟩ := h
  simp only [Tr.At] at h1 h2
  obtain ⟨a, vs, _, rfl, e1, c1, _⟩ := h1
  obtain ⟨b, ws, _, rfl, e2, c2, _⟩ := h2
  cases rx
  cases ry
  obtain ⟨is1, q1, p1, _⟩ := I.list (SqL.of e1)
  obtain ⟨is2, q2, p2, _⟩ := I.list (SqL.of e2)
  have hl : is1.length = is2.length := by rw [← q1.length, ← q2.length, c1.len, c2.len]
  have := SeqAt.RcNeAt.lists (A := X.A) (s := s) (e := fun _ => true) p1.isList p2.isList (by simpa using hl) (by omega) (fun j h1 h2 => by
    have := Tr.eqAts I (A := X.A.in1) c1 c2 q1 q2 (by rw [in1_units]; omega) j (by simpa using h1) (by simpa using h2)
    simpa using this) X.prog X.w X.xe (EP X pins σ Q)
  refine this ⟨.bl false, H, I, ?_, q⟩
  rw [show ((List.range is1.toArray.size).all fun _ => true) = true by simp]
  rfl
theorem i_neLs {H : Hp} {Q : VK} {x y : V} {t : List Tr} {fs gs : List Addr} (h1 : (Tr.lst t).At H x fs) (h2 : (Tr.lst t).At H y gs) (hh : Tr.hs t ≤ 60) (h : Q (.bl false) H) : rNeLs x y H Q := ⟨t, fs, gs, h1, h2, hh, h⟩
end L2
namespace L2
open PySem PySem.Spec PyProof.Rows
noncomputable instance trDec : DecidableEq Tr := fun _ _ => Classical.propDecidable _
mutual
def Tr.In (h : Heap) : Tr → Value → Prop
  | .non, u => u = .none
  | .int z, u => ∃ t, u = .int z t
  | .str x, u => ∃ t, u = .str x t
  | .tup ts, u => ∃ a us, u = .ref a ∧ h.IsTuple a us ∧ Tr.Ins h ts us.toList
  | .lst _, _ => False
def Tr.Ins (h : Heap) : List Tr → List Value → Prop
  | [], us => us = []
  | t :: ts, us => ∃ u r, us = u :: r ∧ Tr.In h t u ∧ Tr.Ins h ts r
end
theorem Tr.Ins.len {h : Heap} : ∀ {ts : List Tr} {us : List Value}, Tr.Ins h ts us → us.length = ts.length
  | [], us, e => by simp only [Tr.Ins] at e; rw [e]; rfl
  | t :: ts, us, e => by
    simp only [Tr.Ins] at e
    obtain ⟨u, r, rfl, _, e⟩ := e
    simp [e.len]
theorem Tr.Ins.get {h : Heap} : ∀ {ts : List Tr} {us : List Value}, Tr.Ins h ts us → ∀ (j : Nat) (h1 : j < us.length) (h2 : j < ts.length), Tr.In h ts[j] us[j]
  | [], us, e, j, h1, h2 => absurd h2 (Nat.not_lt_zero _)
  | t :: ts, us, e, j, h1, h2 => by
    simp only [Tr.Ins] at e
    obtain ⟨u, r, rfl, e1, e⟩ := e
    cases j with
    | zero => exact e1
    | succ j => exact e.get j (by simpa using h1) (by simpa using h2)
mutual
theorem Tr.In.keep {h h' : Heap} {d : Addr} (k : ∀ a us, a ≠ d → h.IsTuple a us → h'.IsTuple a us) (nd : ∀ us, ¬ h.IsTuple d us) : ∀ {t : Tr} {u : Value}, Tr.In h t u → Tr.In h' t u
  | .non, u, e => e
  | .int z, u, e => e
  | .str x, u, e => e
  | .lst _, u, e => e
  | .tup ts, u, e => by
    simp only [Tr.In] at e ⊢
    obtain ⟨a, us, e1, e2, e3⟩ := e
    exact ⟨a, us, e1, k a us (fun z => nd us (z ▸ e2)) e2, Tr.Ins.keep k nd e3⟩
theorem Tr.Ins.keep {h h' : Heap} {d : Addr} (k : ∀ a us, a ≠ d → h.IsTuple a us → h'.IsTuple a us) (nd : ∀ us, ¬ h.IsTuple d us) : ∀ {ts : List Tr} {us : List Value}, Tr.Ins h ts us → Tr.Ins h' ts us
  | [], us, e => e
  | t :: ts, us, e => by
    simp only [Tr.Ins] at e ⊢
    obtain ⟨u, r, e1, e2, e3⟩ := e
    exact ⟨u, r, e1, e2.keep k nd, Tr.Ins.keep k nd e3⟩
end
theorem isTuple_inj {h : Heap} {a : Addr} {us vs : Array Value} (x : h.IsTuple a us) (y : h.IsTuple a vs) : us = vs := by
  obtain ⟨o, e, _, n, d⟩ := x
  obtain ⟨o', e', _, n', d'⟩ := y
  rw [e] at e'; cases e'
  rw [d] at d'
  injection d' with d1 _
mutual
theorem Tr.In.inj {h : Heap} : ∀ {t r : Tr} {u : Value}, Tr.In h t u → Tr.In h r u → t = r
  | .non, r, u, e, f => by
    simp only [Tr.In] at e
    subst e
    cases r <;> simp [Tr.In] at f ⊢
  | .int z, r, u, e, f => by
    simp only [Tr.In] at e
    obtain ⟨t, rfl⟩ := e
    cases r <;> simp [Tr.In] at f ⊢
    exact f
  | .str x, r, u, e, f => by
    simp only [Tr.In] at e
    obtain ⟨t, rfl⟩ := e
    cases r <;> simp [Tr.In] at f ⊢
    exact f
  | .lst _, r, u, e, f => e.elim
  | .tup ts, .tup rs, u, e, f => by
    simp only [Tr.In] at e f
    obtain ⟨a, us, rfl, e2, e3⟩ := e
    obtain ⟨b, vs, hb, f2, f3⟩ := f
    cases hb
    cases isTuple_inj e2 f2
    rw [Tr.Ins.inj e3 f3]
  | .tup ts, .non, u, e, f => by
    simp only [Tr.In] at e f
    obtain ⟨a, us, rfl, e2, e3⟩ := e
    cases f
  | .tup ts, .int _, u, e, f => by
    simp only [Tr.In] at e f
    obtain ⟨a, us, rfl, e2, e3⟩ := e
    obtain ⟨_, f⟩ := f
    cases f
  | .tup ts, .str _, u, e, f => by
    simp only [Tr.In] at e f
    obtain ⟨a, us, rfl, e2, e3⟩ := e
    obtain ⟨_, f⟩ := f
    cases f
  | .tup ts, .lst _, u, e, f => f.elim
theorem Tr.Ins.inj {h : Heap} : ∀ {ts rs : List Tr} {us : List Value}, Tr.Ins h ts us → Tr.Ins h rs us → ts = rs
  | [], rs, us, e, f => by
    simp only [Tr.Ins] at e
    subst e
    cases rs with
    | nil => rfl
    | cons r rs => simp [Tr.Ins] at f
  | t :: ts, rs, us, e, f => by
    simp only [Tr.Ins] at e
    obtain ⟨u, r, rfl, e1, e2⟩ := e
    cases rs with
    | nil => simp [Tr.Ins] at f
    | cons q qs =>
      simp only [Tr.Ins] at f
      obtain ⟨u', r', hh, f1, f2⟩ := f
      cases hh
      rw [e1.inj f1, Tr.Ins.inj e2 f2]
end
theorem at_no_lst {H : Hp} {ts : List Tr} {v : V} {h : (Tr.lst ts).At H v []} : False := by
  simp only [Tr.At] at h
  obtain ⟨a, vs, _, rfl, e1, c1, e⟩ := h
  simp at e
section
variable {X : Cx} {pins : List (Addr × Obj)} {σ : St} {H : Hp} {s : Shared}
mutual
theorem Tr.At.isIn (I : Inv X pins σ H s) : ∀ {t : Tr} {v : V} {u : Value}, t.At H v [] → RelV v u → Tr.In s.heap t u
  | .non, v, u, h, r => by
    obtain ⟨rfl, -⟩ := (by simpa only [Tr.At] using h)
    cases r
    exact rfl
  | .int z, v, u, h, r => by
    obtain ⟨rfl, -⟩ := (by simpa only [Tr.At] using h)
    obtain ⟨t, rfl⟩ := r
    exact ⟨t, rfl⟩
  | .str z, v, u, h, r => by
    obtain ⟨rfl, -⟩ := (by simpa only [Tr.At] using h)
    obtain ⟨t, rfl⟩ := r
    exact ⟨t, rfl⟩
  | .lst _, v, u, h, r => (at_no_lst (h := h)).elim
  | .tup ts, v, u, h, r => by
    simp only [Tr.At] at h
    obtain ⟨a, vs, rfl, e1, c1⟩ := h
    cases r
    obtain ⟨is1, q1, p1, _⟩ := I.tuple (SqT.of e1)
    simp only [Tr.In]
    exact ⟨a, is1.toArray, rfl, p1, by simpa using Tr.Ats.isIns I c1 q1⟩
theorem Tr.Ats.isIns (I : Inv X pins σ H s) : ∀ {ts : List Tr} {vs : List V} {us : List Value}, Tr.Ats H ts vs [] → Vals vs us → Tr.Ins s.heap ts us
  | [], vs, us, c, q => by
    simp only [Tr.Ats] at c
    obtain ⟨rfl, -⟩ := c
    cases q
    exact rfl
  | t :: ts, vs, us, c, q => by
    simp only [Tr.Ats] at c
    obtain ⟨v, vs, f, g, rfl, e, a1, b1⟩ := c
    have hf : f = [] ∧ g = [] := by simpa using e.symm
    obtain ⟨rfl, rfl⟩ := hf
    cases q with
    | cons r1 q1 =>
    simp only [Tr.Ins]
    exact ⟨_, _, rfl, a1.isIn I r1, b1.isIns I q1⟩
end
end
theorem all_range {n : Nat} {e : Nat → Bool} : (List.range n).all e = true ↔ ∀ j, j < n → e j = true := by simp [List.all_eq_true]
theorem trs_eq {ts rs : List Tr} : ((List.range (min ts.length rs.length)).all (fun j => decide (ts.getD j .non = rs.getD j .non)) && ts.length == rs.length) = decide (ts = rs) := by
  rw [Bool.eq_iff_iff, Bool.and_eq_true, all_range, decide_eq_true_iff, beq_iff_eq]
  constructor
  · rintro ⟨h1, h2⟩
    refine List.ext_getElem h2 fun j h3 h4 => ?_
    have := of_decide_eq_true (h1 j (by omega))
    simpa [h3, h4] using this
  · rintro rfl
    exact ⟨fun j _ => decide_eq_true rfl, rfl⟩
section
variable {s : Shared}
mutual
theorem Tr.In.eqAt : ∀ {t r : Tr} {A : Around} {u z : Value}, Tr.In s.heap t u → Tr.In s.heap r z → A.units + t.h + r.h < cLine → SeqAt.EqAt A s u z (decide (t = r))
  | .non, r, A, u, z, h1, h2, hu => by
    simp only [Tr.In] at h1
    subst h1
    cases r with
    | non =>
      simp only [Tr.In] at h2
      subst h2
      rw [decide_eq_true rfl]
      exact SeqAt.EqAt.same _
    | int i =>
      obtain ⟨t2, rfl⟩ := h2
      rw [decide_eq_false (by simp)]
      exact SeqAt.EqAt.none_int _ _
    | str i =>
      obtain ⟨t2, rfl⟩ := h2
      rw [decide_eq_false (by simp)]
      exact SeqAt.EqAt.none_str _ _
    | tup rs =>
      simp only [Tr.In] at h2
      obtain ⟨a, us, rfl, p, _⟩ := h2
      rw [decide_eq_false (by simp)]
      exact SeqAt.EqAt.none_tuple p (by omega)
    | lst rs => exact h2.elim
  | .int i, r, A, u, z, h1, h2, hu => by
    obtain ⟨t1, rfl⟩ := h1
    cases r with
    | non =>
      simp only [Tr.In] at h2
      subst h2
      rw [decide_eq_false (by simp)]
      exact SeqAt.EqAt.int_none _ _
    | int j =>
      obtain ⟨t2, rfl⟩ := h2
      have := SeqAt.EqAt.int_int (A := A) (s := s) i t1 j t2
      rw [show (i == j) = decide (Tr.int i = Tr.int j) from Bool.eq_iff_iff.mpr (by simp)] at this
      exact this
    | str j =>
      obtain ⟨t2, rfl⟩ := h2
      rw [decide_eq_false (by simp)]
      exact SeqAt.EqAt.int_str _ _ _ _
    | tup rs =>
      simp only [Tr.In] at h2
      obtain ⟨a, us, rfl, p, _⟩ := h2
      rw [decide_eq_false (by simp)]
      exact SeqAt.EqAt.int_tuple _ _ p (by omega)
    | lst rs => exact h2.elim
  | .str i, r, A, u, z, h1, h2, hu => by
    obtain ⟨t1, rfl⟩ := h1
    cases r with
    | non =>
      simp only [Tr.In] at h2
      subst h2
      rw [decide_eq_false (by simp)]
      exact SeqAt.EqAt.str_none _ _
    | int j =>
      obtain ⟨t2, rfl⟩ := h2
      rw [decide_eq_false (by simp)]
      exact SeqAt.EqAt.str_int _ _ _ _
    | str j =>
      obtain ⟨t2, rfl⟩ := h2
      have := SeqAt.EqAt.str_str (A := A) (s := s) i t1 j t2
      rw [show (i == j) = decide (Tr.str i = Tr.str j) from Bool.eq_iff_iff.mpr (by simp)] at this
      exact this
    | tup rs =>
      simp only [Tr.In] at h2
      obtain ⟨a, us, rfl, p, _⟩ := h2
      rw [decide_eq_false (by simp)]
      exact SeqAt.EqAt.str_tuple _ _ p (by omega)
    | lst rs => exact h2.elim
  | .lst _, r, A, u, z, h1, h2, hu => h1.elim
  | .tup ts, r, A, u, z, h1, h2, hu => by
    have h1' := h1
    simp only [Tr.In] at h1
    obtain ⟨a, us, rfl, p1, c1⟩ := h1
    cases r with
    | non =>
      simp only [Tr.In] at h2
      subst h2
      rw [decide_eq_false (by simp)]
      exact SeqAt.EqAt.tuple_none p1 (by omega)
    | int j =>
      obtain ⟨t2, rfl⟩ := h2
      rw [decide_eq_false (by simp)]
      exact SeqAt.EqAt.tuple_int _ _ p1 (by omega)
    | str j =>
      obtain ⟨t2, rfl⟩ := h2
      rw [decide_eq_false (by simp)]
      exact SeqAt.EqAt.tuple_str _ _ p1 (by omega)
    | lst rs => exact h2.elim
    | tup rs =>
      have h2' := h2
      simp only [Tr.In] at h2
      obtain ⟨b, vs, rfl, p2, c2⟩ := h2
      by_cases hab : a = b
      · subst hab
        rw [decide_eq_true (h1'.inj h2')]
        exact SeqAt.EqAt.same _
      refine SeqAt.EqAt.of_refs hab ?_
      simp only [Tr.h] at hu
      have l1 := c1.len
      have l2 := c2.len
      simp only [Array.length_toList] at l1 l2
      have := SeqAt.RcAt.tuples (A := A) (s := s) (e := fun j => decide (ts.getD j .non = rs.getD j .non)) p1 p2 (by omega) (fun j h1 h2 => by
        have := Tr.Ins.eqAts (A := A.in1) c1 c2 (by rw [in1_units]; omega) j (by simpa using h1) (by simpa using h2)
        simpa using this)
      rw [l1, l2, trs_eq] at this
      rw [show decide (Tr.tup ts = Tr.tup rs) = decide (ts = rs) from Bool.eq_iff_iff.mpr (by simp)]
      exact this
theorem Tr.Ins.eqAts : ∀ {ts rs : List Tr} {A : Around} {us zs : List Value}, Tr.Ins s.heap ts us → Tr.Ins s.heap rs zs → A.units + Tr.hs ts + Tr.hs rs < cLine →
    ∀ (j : Nat) (h1 : j < us.length) (h2 : j < zs.length), SeqAt.EqAt A s us[j] zs[j] (decide (ts.getD j .non = rs.getD j .non))
  | [], rs, A, us, zs, c1, c2, hu, j, h1, h2 => by
    simp only [Tr.Ins] at c1
    subst c1
    exact absurd h1 (by simp)
  | t :: ts, [], A, us, zs, c1, c2, hu, j, h1, h2 => by
    simp only [Tr.Ins] at c2
    subst c2
    exact absurd h2 (by simp)
  | t :: ts, r :: rs, A, us, zs, c1, c2, hu, j, h1, h2 => by
    simp only [Tr.Ins] at c1 c2
    obtain ⟨u, us, rfl, a1, b1⟩ := c1
    obtain ⟨z, zs, rfl, a2, b2⟩ := c2
    simp only [Tr.hs] at hu
    cases j with
    | zero =>
      have := a1.eqAt a2 (A := A) (by omega)
      simpa using this
    | succ j =>
      have := b1.eqAts b2 (A := A) (by omega) j (by simpa using h1) (by simpa using h2)
      simpa using this
end
end
mutual
def Tr.hash (P : Params) : Tr → Int
  | .non => PySem.W.hashW P .none
  | .int z => PySem.W.hashW P (.int z)
  | .str x => PySem.W.hashW P (.str x)
  | .tup ts => reduceHash (Builtin.Tuple.tupleHashOf (Tr.hashes P ts))
  | .lst _ => 0
def Tr.hashes (P : Params) : List Tr → List Int
  | [] => []
  | t :: ts => Tr.hash P t :: Tr.hashes P ts
end
section
variable {prog : Program} {w : World} {E : Value → Shared → Prop}
mutual
theorem Tr.In.pyHash : ∀ {t : Tr} {A : Around} {s : Shared} {u : Value} {Q : Int → Shared → Prop}, Tr.In s.heap t u → A.units + t.h < cLine → (∀ n, Q (t.hash w.params) { s with toks := n }) → wpAny (model prog w) A (pyHash u) Q E s
  | .non, A, s, u, Q, e, hu, h => by
    simp only [Tr.In] at e
    subst e
    exact PySem.W.pyHash_laid .none _ A s Q rfl .none (by simp only [PySem.W.WData.depth]; omega) h
  | .int z, A, s, u, Q, e, hu, h => by
    obtain ⟨t, rfl⟩ := e
    exact PySem.W.pyHash_laid (.int z) _ A s Q rfl (.int z t) (by simp only [PySem.W.WData.depth]; omega) h
  | .str z, A, s, u, Q, e, hu, h => by
    obtain ⟨t, rfl⟩ := e
    exact PySem.W.pyHash_laid (.str z) _ A s Q rfl (.str z t) (by simp only [PySem.W.WData.depth]; omega) h
  | .lst _, A, s, u, Q, e, hu, h => e.elim
  | .tup ts, A, s, u, Q, e, hu, h => by
    simp only [Tr.In] at e
    obtain ⟨a, us, rfl, ⟨o, p1, p2, n, p3⟩, c⟩ := e
    simp only [Tr.h] at hu
    refine PySem.W.pyHash_slot (T := "tuple") ⟨o, p1, p2⟩ F.slot_tuple_hash F.entry_tuple_hash (F.args_tuple_hash_1 _) (beq_builtin_none _) (.inr (by omega)) ?_
    show wpAny _ A.in1 (Builtin.Tuple.tupleItemsOf (.ref a) >>= _) _ _ s
    refine wpAny_bind (wpAny_tupleItemsOf p1 p3 (wpAny_bind ?_))
    rw [← Array.forIn_toList]
    refine Tr.Ins.pyHashes (b := #[]) c (by rw [in1_units]; omega) fun tk b hb => ?_
    have hb' : b.toList = Tr.hashes w.params ts := by simpa using hb
    show wpAny _ A.in1 (retInt (Builtin.Tuple.tupleHashOf b.toList)) _ _ _
    rw [hb']
    exact wpAny_bind (wpAny_mkInt (wpAny_pure ⟨_, _, rfl, h (_)⟩))
theorem Tr.Ins.pyHashes : ∀ {ts : List Tr} {A : Around} {s : Shared} {us : List Value} {b : Array Int} {Q : Array Int → Shared → Prop}, Tr.Ins s.heap ts us → A.units + Tr.hs ts < cLine →
    (∀ n b', b'.toList = b.toList ++ Tr.hashes w.params ts → Q b' { s with toks := n }) →
    wpAny (model prog w) A (forIn us b fun x r => do let h ← pyHash x; pure PUnit.unit; pure (ForInStep.yield (r.push h))) Q E s
  | [], A, s, us, b, Q, e, hu, h => by
    simp only [Tr.Ins] at e
    subst e
    exact wpAny_pure (h s.toks b (by simp [Tr.hashes]))
  | t :: ts, A, s, us, b, Q, e, hu, h => by
    simp only [Tr.Ins] at e
    obtain ⟨u, us, rfl, a1, b1⟩ := e
    simp only [Tr.hs] at hu
    rw [List.forIn_cons]
    refine wpAny_bind (wpAny_bind (a1.pyHash (by omega) fun tk => wpAny_bind (wpAny_pure (wpAny_pure ?_))))
    exact b1.pyHashes (s := { s with toks := tk }) (by omega) fun n b' hb => h n b' (by simp [hb, Tr.hashes])
end
end
end L2
namespace L2
open PySem PySem.Spec PyProof.Rows
section
variable {prog : Program} {w : World} {E : Value → Shared → Prop}
mutual
theorem Tr.In.quiet : ∀ {t : Tr} {A : Around} {s : Shared} {u : Value} {Q : Bool → Shared → Prop} {n : Nat}, Tr.In s.heap t u → t.h ≤ n → Q true s → wpAny (model prog w) A (eqIsQuiet n u) Q E s
  | .non, A, s, u, Q, n, e, hn, h => by
    simp only [Tr.In] at e
    subst e
    rw [eqIsQuiet_byValue n (v := .none) rfl]
    exact wpAny_pure h
  | .int z, A, s, u, Q, n, e, hn, h => by
    obtain ⟨t, rfl⟩ := e
    rw [eqIsQuiet_byValue n (v := .int z t) rfl]
    exact wpAny_pure h
  | .str z, A, s, u, Q, n, e, hn, h => by
    obtain ⟨t, rfl⟩ := e
    rw [eqIsQuiet_byValue n (v := .str z t) rfl]
    exact wpAny_pure h
  | .lst _, A, s, u, Q, n, e, hn, h => e.elim
  | .tup ts, A, s, u, Q, n, e, hn, h => by
    simp only [Tr.In] at e
    obtain ⟨a, us, rfl, ⟨o, p1, p2, m, p3⟩, c⟩ := e
    simp only [Tr.h] at hn
    obtain ⟨n, rfl⟩ : ∃ k, n = k + 1 := ⟨n - 1, by omega⟩
    have hT : s.TypeIs (.ref a) "tuple" := ⟨o, p1, p2⟩
    unfold eqIsQuiet
    refine wpAny_bind (wpAny_specialOf hT (F.slot_tuple_eq.lookup) ?_)
    show wpAny _ A (isInstance (.ref a) (.type "tuple") >>= _) _ _ s
    refine wpAny_bind (wpAny_isInstance hT (isSubtype_tuple_tuple) ?_)
    simp only [Bool.false_eq_true, Bool.not_true, if_false]
    refine wpAny_bind (wpAny_seqItems p1 p3 (wpAny_bind ?_))
    show wpAny _ _ (forIn us _ _) _ _ s
    rw [← Array.forIn_toList]
    refine wpAny_forIn_list _ (fun rest r s' => r.1 = none ∧ s' = s ∧ ∃ ts', Tr.Ins s.heap ts' rest ∧ ∀ t ∈ ts', ∃ k, ∃ hk : k < ts.length, t = ts[k]) _ ?_ ?_ _ _ ⟨rfl, rfl, ts, c, fun t ht => by
      obtain ⟨k, hk, e⟩ := List.mem_iff_getElem.mp ht
      exact ⟨k, hk, e.symm⟩⟩
    · rintro v rest r s' ⟨hr, rfl, ts', c', hm⟩
      cases ts' with
      | nil => simp [Tr.Ins] at c'
      | cons t ts' =>
        simp only [Tr.Ins] at c'
        obtain ⟨u', r', hh, a1, b1⟩ := c'
        cases hh
        obtain ⟨k, hk, rfl⟩ := hm t List.mem_cons_self
        refine wpAny_bind (Tr.Ins.quietAt (n := n) c k hk a1 (by omega) ?_)
        simp only [Bool.false_eq_true, Bool.not_true, if_false]
        exact wpAny_pure ⟨rfl, rfl, ts', b1, fun t' ht' => hm t' (List.mem_cons_of_mem _ ht')⟩
    · rintro ⟨r1, r2⟩ s' ⟨hr, rfl, _⟩
      simp only at hr
      subst hr
      exact wpAny_pure h
theorem Tr.Ins.quietAt : ∀ {ts : List Tr} {A : Around} {s : Shared} {us : List Value} {u : Value} {Q : Bool → Shared → Prop} {n : Nat}, Tr.Ins s.heap ts us → ∀ (k : Nat) (hk : k < ts.length), Tr.In s.heap ts[k] u → Tr.hs ts ≤ n → Q true s →
    wpAny (model prog w) A (eqIsQuiet n u) Q E s
  | [], A, s, us, u, Q, n, e, k, hk, a1, hn, h => absurd hk (Nat.not_lt_zero _)
  | t :: ts, A, s, us, u, Q, n, e, k, hk, a1, hn, h => by
    simp only [Tr.Ins] at e
    obtain ⟨u', us, rfl, a2, b2⟩ := e
    simp only [Tr.hs] at hn
    cases k with
    | zero => exact Tr.In.quiet (t := t) a1 (by omega) h
    | succ k => exact Tr.Ins.quietAt b2 k (by simpa using hk) a1 (by omega) h
end
end
structure Ents (P : Params) (h : Heap) (es : Array DictEntry) (ts : List Tr) : Prop where
  len : es.size = ts.length
  at_ : ∀ (j : Nat) (e : DictEntry), es[j]? = some e → ∃ t : Tr, ts[j]? = some t ∧ e.hash = t.hash P ∧ Tr.In h t e.key ∧ t.h ≤ 8
  nd : ts.Nodup
theorem Ents.of {P : Params} {h : Heap} {es : Array DictEntry} {ts : List Tr} (x : Ents P h es ts) {j : Nat} {t : Tr} (e : ts[j]? = some t) : ∃ en, es[j]? = some en ∧ en.hash = t.hash P ∧ Tr.In h t en.key ∧ t.h ≤ 8 := by
  have hj : j < es.size := by rw [x.len]; exact (List.getElem?_eq_some_iff.mp e).1
  obtain ⟨t', e', h2⟩ := x.at_ j es[j] (Array.getElem?_eq_getElem hj)
  rw [e] at e'
  cases e'
  exact ⟨_, Array.getElem?_eq_getElem hj, h2⟩
theorem Ents.one {P : Params} {h : Heap} {es : Array DictEntry} {ts : List Tr} (x : Ents P h es ts) {i j : Nat} {t : Tr} (e : ts[i]? = some t) (f : ts[j]? = some t) : i = j := by
  obtain ⟨h1, e⟩ := List.getElem?_eq_some_iff.mp e
  obtain ⟨h2, f⟩ := List.getElem?_eq_some_iff.mp f
  have pw := List.pairwise_iff_getElem.mp x.nd
  rcases Nat.lt_trichotomy i j with h | h | h
  · exact absurd (e.trans f.symm) (pw i j h1 h2 h)
  · exact h
  · exact absurd (f.trans e.symm) (pw j i h2 h1 h)
section
variable {prog : Program} {w : World} {E : Value → Shared → Prop} {A : Around} {s : Shared} {d : Addr} {o : Obj} {es : Array DictEntry} {ep : Nat} {ts : List Tr} {t : Tr} {u : Value}
theorem mem_places {f : Nat → Option Int} {n i : Nat} {h : Int} : i ∈ placesWithHash n f h ↔ i < n ∧ f i = some h := by simp [placesWithHash, List.mem_filter]
theorem places_nd {f : Nat → Option Int} {n : Nat} {h : Int} : (placesWithHash n f h).Nodup := List.Pairwise.filter _ List.nodup_range
theorem find_tr {Q : Option Nat → Shared → Prop} (ho : s.heap.get? d = some o) (hd : o.data = .dict es ep) (x : Ents w.params s.heap es ts) (hk : Tr.In s.heap t u) (h8 : t.h ≤ 8) (hu : A.units + 16 < cLine)
    (hnone : (∀ j : Nat, ts[j]? ≠ some t) → Q none s) (hsome : ∀ j : Nat, ts[j]? = some t → Q (some j) s) : wpAny (model prog w) A (dictFind d u (t.hash w.params)) Q E s := by
  have hin : ∀ j : Nat, ts[j]? = some t → j ∈ placesWithHash es.size (fun i => es[i]?.map (·.hash)) (t.hash w.params) := fun j hj => by
    obtain ⟨en, e1, e2, _⟩ := x.of hj
    exact mem_places.mpr ⟨(Array.getElem?_eq_some_iff.mp e1).1, by rw [e1]; exact congrArg some e2⟩
  have hex : ∀ i ∈ placesWithHash es.size (fun i => es[i]?.map (·.hash)) (t.hash w.params), ∃ en t', es[i]? = some en ∧ ts[i]? = some t' ∧ en.hash = t.hash w.params ∧ Tr.In s.heap t' en.key ∧ t'.h ≤ 8 := fun i hi => by
    obtain ⟨hi, h2⟩ := mem_places.mp hi
    have e1 := Array.getElem?_eq_getElem hi
    obtain ⟨t', e2, e3, e4, e5⟩ := x.at_ i _ e1
    rw [e1] at h2
    exact ⟨_, t', e1, e2, Option.some.inj h2, e4, e5⟩
  have hnd : (placesWithHash es.size (fun i => es[i]?.map (·.hash)) (t.hash w.params)).Nodup := places_nd
  generalize hP : placesWithHash es.size (fun i => es[i]?.map (·.hash)) (t.hash w.params) = ps at hin hex hnd
  have eqa : ∀ {t' : Tr} {z : Value}, Tr.In s.heap t' z → t'.h ≤ 8 → SeqAt.EqAt A s z u (decide (t' = t)) := fun a b => a.eqAt hk (by omega)
  have plain : wpAny (model prog w) A (dictWalkPlain d u (t.hash w.params) es ps) Q E s := by
    unfold dictWalkPlain
    refine wpAny_bind ?_
    refine wpAny_forIn_list _ (fun rest b s' => s' = s ∧ b = (none, ()) ∧ (∀ i ∈ rest, i ∈ ps) ∧ ∀ j : Nat, ts[j]? = some t → j ∈ rest) _ ?_ ?_ _ _ ⟨rfl, rfl, fun _ z => z, hin⟩
    · rintro i rest b s' ⟨rfl, rfl, hr, hj⟩
      obtain ⟨en, t', e1, e2, e3, e4, e5⟩ := hex i (hr i List.mem_cons_self)
      rw [e1]
      dsimp only
      rw [if_pos (by rw [e3]; exact beq_self_eq_true _)]
      refine wpAny_bind (wpAny_dictEpoch ho hd (wpAny_bind (eqa e4 e5 _ _ _ _ (wpAny_bind (wpAny_dictEpoch ho hd ?_)))))
      show wpAny _ A (if (ep != ep) = true then _ else _) _ E _
      rw [if_neg (by simp)]
      by_cases hkk : t' = t
      · subst hkk
        rw [decide_eq_true rfl]
        exact wpAny_bind (wpAny_rule (wpAny_pure (wpAny_pure (hsome i e2))))
      · rw [decide_eq_false hkk]
        refine wpAny_bind (wpAny_rule (wpAny_pure ⟨rfl, rfl, fun i hi => hr i (List.mem_cons_of_mem _ hi), fun j h2 => ?_⟩))
        rcases List.mem_cons.mp (hj j h2) with rfl | h3
        · rw [e2] at h2
          exact absurd (Option.some.inj h2) hkk
        · exact h3
    · rintro b s' ⟨rfl, rfl, _, hj⟩
      exact wpAny_pure (hnone fun j h2 => absurd (hj j h2) (by simp))
  have hany : ∀ a, u = .ref a → ¬ (es.any fun e => e.key == u && e.hash != t.hash w.params) = true := by
    rintro a rfl
    rw [← Array.any_toList, List.any_eq_true]
    rintro ⟨e, hin', hc⟩
    obtain ⟨j, hj, rfl⟩ := Array.mem_iff_getElem.mp (Array.mem_toList_iff.mp hin')
    obtain ⟨t', _, f2, f3, _⟩ := x.at_ j _ (Array.getElem?_eq_getElem hj)
    simp only [Bool.and_eq_true, beq_iff_eq, bne_iff_ne, ne_eq] at hc
    rw [hc.1] at f3
    exact hc.2 (by rw [f2, f3.inj hk])
  have hst : ∀ v ∈ ps.filterMap (fun i => es[i]?.map (·.key)), ∃ t', Tr.In s.heap t' v ∧ t'.h ≤ 8 := by
    intro v hv
    obtain ⟨i, hi, hv⟩ := List.mem_filterMap.mp hv
    obtain ⟨en, t', e1, _, _, e4, e5⟩ := hex i hi
    rw [e1] at hv
    cases hv
    exact ⟨t', e4, e5⟩
  have tell : ∀ {Q : Bool → Shared → Prop}, Q false s → wpAny (model prog w) A (tableMayTell u (ps.filterMap fun i => es[i]?.map (·.key))) Q E s := by
    intro Q q
    unfold tableMayTell
    split
    · exact wpAny_pure q
    · refine wpAny_bind (hk.quiet h8 ?_)
      simp only [Bool.false_eq_true, Bool.not_true, if_false]
      refine wpAny_bind (wpAny_forIn_list _ (fun rest r s' => s' = s ∧ r = (none, ()) ∧ ∀ v ∈ rest, ∃ t', Tr.In s.heap t' v ∧ t'.h ≤ 8) _ ?_ ?_ _ _ ⟨rfl, rfl, hst⟩)
      · rintro v rest r s' ⟨rfl, rfl, hr⟩
        obtain ⟨t', b1, b2⟩ := hr v List.mem_cons_self
        refine wpAny_bind (b1.quiet b2 ?_)
        simp only [Bool.false_eq_true, Bool.not_true, if_false]
        exact wpAny_pure ⟨rfl, rfl, fun z hz => hr z (List.mem_cons_of_mem _ hz)⟩
      · rintro r s' ⟨rfl, rfl, _⟩
        exact wpAny_pure q
  unfold dictFind
  try (with_reducible refine wpAny_holding ?_)
  refine wpAny_bind (wpAny_dictEntries ho (hd) ?_)
  dsimp only
  rw [hP]
  have gone : ∀ j : Nat, ts[j]? = some t → ∀ (i : Nat) t', ts[i]? = some t' → t' = t → i = j := fun j hj i t' hi e => x.one (e ▸ hi) hj
  generalize hS : ps.filterMap (fun i => es[i]?.map (·.key)) = st at tell
  clear hst
  split
  · rename_i y tk
    by_cases hx : (es.all fun e => isExactStrKey e.key) = true
    · rw [if_pos hx]
      have ht : t = .str y := hk.inj (r := .str y) ⟨tk, rfl⟩
      subst ht
      have hstr : ∀ (j : Nat) (hj : j < es.size), es[j].key.isStr y = decide (ts[j]? = some (.str y)) := fun j hj => by
        obtain ⟨t', f1, f2, f3, _⟩ := x.at_ j _ (Array.getElem?_eq_getElem hj)
        have hx' := Array.all_eq_true.mp hx j hj
        rw [f1]
        cases hq : es[j].key with
        | str z tz =>
          rw [hq] at f3
          obtain rfl : t' = .str z := f3.inj (r := .str z) ⟨tz, rfl⟩
          show (z == y) = _
          exact Bool.eq_iff_iff.mpr (by simp)
        | _ => rw [hq] at hx'; cases hx'
      unfold foundByValue
      cases hf : es.findIdx? (fun e => e.key.isStr y) with
      | none =>
        refine wpAny_pure (hnone fun j hj => ?_)
        obtain ⟨en, g1, _⟩ := x.of hj
        obtain ⟨hl, _⟩ := Array.getElem?_eq_some_iff.mp g1
        have := Array.findIdx?_eq_none_iff.mp hf es[j] (Array.getElem_mem hl)
        rw [hstr j hl, decide_eq_true hj] at this
        cases this
      | some i =>
        obtain ⟨hlt, hi, _⟩ := Array.findIdx?_eq_some_iff_getElem.mp hf
        rw [hstr i hlt] at hi
        have hi := of_decide_eq_true hi
        obtain ⟨t', f1, f2, f3, f4⟩ := x.at_ i _ (Array.getElem?_eq_getElem hlt)
        rw [hi] at f1
        cases f1
        simp only [Array.getElem?_eq_getElem hlt]
        refine wpAny_bind (wpAny_dictEpoch ho hd (wpAny_bind (eqa f3 f4 _ _ _ _ (wpAny_bind (wpAny_dictEpoch ho hd ?_)))))
        show wpAny _ A (if (ep != ep) = true then _ else _) _ E _
        rw [if_neg (by simp), decide_eq_true rfl]
        exact wpAny_bind (wpAny_rule (wpAny_pure (hsome i hi)))
    · rw [if_neg hx]
      by_cases hall : (Value.str y tk :: st).all carriedByValue = true
      · rw [if_pos hall]; exact plain
      · rw [if_neg hall]
        dsimp only
        by_cases hone : (st == [Value.str y tk]) = true
        · rw [if_pos hone]
          refine wpAny_bind ((wpAny_pure) ?_)
          rw [if_neg (by simp)]
          refine wpAny_bind (wpAny_forIn_list _ (fun rest b s' => s' = s ∧ rest.Nodup ∧ ∃ hit : Option Nat, b = (none, hit) ∧ (∀ i ∈ rest, i ∈ ps) ∧
           ((hit = none ∧ ∀ j : Nat, ts[j]? = some t → j ∈ rest) ∨ ∃ j : Nat, hit = some j ∧ ts[j]? = some t ∧ j ∉ rest)) _ ?_ ?_ _ _ ⟨rfl, hnd, none, rfl, fun _ z => z, .inl ⟨rfl, hin⟩⟩)
          · rintro i rest b s' ⟨rfl, hnd', hit, rfl, hr, hH⟩
            have hni : i ∉ rest := (List.nodup_cons.mp hnd').1
            have hnr : rest.Nodup := (List.nodup_cons.mp hnd').2
            have hr' : ∀ j ∈ rest, j ∈ ps := fun j hj => hr j (List.mem_cons_of_mem _ hj)
            obtain ⟨en, t', e1, e2, e3, e4, e5⟩ := hex i (hr i List.mem_cons_self)
            rw [e1]
            dsimp only
            rw [if_pos (by rw [e3]; exact beq_self_eq_true _)]
            refine wpAny_bind (wpAny_dictEpoch ho hd (wpAny_bind (eqa e4 e5 _ _ _ _ (wpAny_bind (wpAny_dictEpoch ho hd ?_)))))
            show wpAny _ A (if (ep != ep) = true then _ else _) _ E _
            rw [if_neg (by simp)]
            by_cases hkk : t' = t
            · subst hkk
              rw [decide_eq_true rfl]
              rcases hH with ⟨rfl, hj⟩ | ⟨j, rfl, hj, hjr⟩
              · rw [if_pos rfl]
                simp only [Bool.false_eq_true, Option.isSome_none, if_false]
                refine wpAny_bind ((wpAny_rule) ?_)
                split
                · exact wpAny_pure (wpAny_pure (hsome i e2))
                · exact wpAny_pure ⟨rfl, hnr, some i, rfl, hr', .inr ⟨i, rfl, e2, hni⟩⟩
              · exact absurd (x.one e2 hj ▸ List.mem_cons_self) hjr
            · rw [decide_eq_false hkk]
              rw [if_neg (by simp)]
              refine wpAny_bind ((wpAny_rule) ?_)
              rw [if_neg (by simp)]
              refine wpAny_pure ⟨rfl, hnr, hit, rfl, hr', ?_⟩
              rcases hH with ⟨rfl, hj⟩ | ⟨j, rfl, hj, hjr⟩
              · refine .inl ⟨rfl, fun j h2 => ?_⟩
                rcases List.mem_cons.mp (hj j h2) with rfl | h3
                · rw [e2] at h2
                  exact absurd (Option.some.inj h2) hkk
                · exact h3
              · exact .inr ⟨j, rfl, hj, fun z => hjr (List.mem_cons_of_mem _ z)⟩
          · rintro b s' ⟨rfl, _, hit, rfl, _, hH⟩
            rcases hH with ⟨rfl, hj⟩ | ⟨j, rfl, hj, _⟩
            · exact wpAny_pure (hnone fun j h2 => absurd (hj j h2) (by simp))
            · exact wpAny_pure (hsome j hj)
        · rw [if_neg hone]
          refine wpAny_bind (tell ?_)
          rw [if_neg (by simp)]
          refine wpAny_bind (wpAny_forIn_list _ (fun rest b s' => s' = s ∧ rest.Nodup ∧ ∃ hit : Option Nat, b = (none, hit) ∧ (∀ i ∈ rest, i ∈ ps) ∧
           ((hit = none ∧ ∀ j : Nat, ts[j]? = some t → j ∈ rest) ∨ ∃ j : Nat, hit = some j ∧ ts[j]? = some t ∧ j ∉ rest)) _ ?_ ?_ _ _ ⟨rfl, hnd, none, rfl, fun _ z => z, .inl ⟨rfl, hin⟩⟩)
          · rintro i rest b s' ⟨rfl, hnd', hit, rfl, hr, hH⟩
            have hni : i ∉ rest := (List.nodup_cons.mp hnd').1
            have hnr : rest.Nodup := (List.nodup_cons.mp hnd').2
            have hr' : ∀ j ∈ rest, j ∈ ps := fun j hj => hr j (List.mem_cons_of_mem _ hj)
            obtain ⟨en, t', e1, e2, e3, e4, e5⟩ := hex i (hr i List.mem_cons_self)
            rw [e1]
            dsimp only
            rw [if_pos (by rw [e3]; exact beq_self_eq_true _)]
            refine wpAny_bind (wpAny_dictEpoch ho hd (wpAny_bind (eqa e4 e5 _ _ _ _ (wpAny_bind (wpAny_dictEpoch ho hd ?_)))))
            show wpAny _ A (if (ep != ep) = true then _ else _) _ E _
            rw [if_neg (by simp)]
            by_cases hkk : t' = t
            · subst hkk
              rw [decide_eq_true rfl]
              rcases hH with ⟨rfl, hj⟩ | ⟨j, rfl, hj, hjr⟩
              · rw [if_pos rfl]
                simp only [Bool.false_eq_true, Option.isSome_none, if_false]
                refine wpAny_bind ((wpAny_rule) ?_)
                split
                · exact wpAny_pure (wpAny_pure (hsome i e2))
                · exact wpAny_pure ⟨rfl, hnr, some i, rfl, hr', .inr ⟨i, rfl, e2, hni⟩⟩
              · exact absurd (x.one e2 hj ▸ List.mem_cons_self) hjr
            · rw [decide_eq_false hkk]
              rw [if_neg (by simp)]
              refine wpAny_bind ((wpAny_rule) ?_)
              rw [if_neg (by simp)]
              refine wpAny_pure ⟨rfl, hnr, hit, rfl, hr', ?_⟩
              rcases hH with ⟨rfl, hj⟩ | ⟨j, rfl, hj, hjr⟩
              · refine .inl ⟨rfl, fun j h2 => ?_⟩
                rcases List.mem_cons.mp (hj j h2) with rfl | h3
                · rw [e2] at h2
                  exact absurd (Option.some.inj h2) hkk
                · exact h3
              · exact .inr ⟨j, rfl, hj, fun z => hjr (List.mem_cons_of_mem _ z)⟩
          · rintro b s' ⟨rfl, _, hit, rfl, _, hH⟩
            rcases hH with ⟨rfl, hj⟩ | ⟨j, rfl, hj, _⟩
            · exact wpAny_pure (hnone fun j h2 => absurd (hj j h2) (by simp))
            · exact wpAny_pure (hsome j hj)
  · rename_i hns
    by_cases hall : (u :: st).all carriedByValue = true
    · rw [if_pos hall]; exact plain
    · rw [if_neg hall]
      split
      · rename_i a
        rw [if_neg (hany a rfl)]
        by_cases hone : (st == [Value.ref a]) = true
        · rw [if_pos hone]
          refine wpAny_bind ((wpAny_pure) ?_)
          rw [if_neg (by simp)]
          refine wpAny_bind (wpAny_forIn_list _ (fun rest b s' => s' = s ∧ rest.Nodup ∧ ∃ hit : Option Nat, b = (none, hit) ∧ (∀ i ∈ rest, i ∈ ps) ∧
           ((hit = none ∧ ∀ j : Nat, ts[j]? = some t → j ∈ rest) ∨ ∃ j : Nat, hit = some j ∧ ts[j]? = some t ∧ j ∉ rest)) _ ?_ ?_ _ _ ⟨rfl, hnd, none, rfl, fun _ z => z, .inl ⟨rfl, hin⟩⟩)
          · rintro i rest b s' ⟨rfl, hnd', hit, rfl, hr, hH⟩
            have hni : i ∉ rest := (List.nodup_cons.mp hnd').1
            have hnr : rest.Nodup := (List.nodup_cons.mp hnd').2
            have hr' : ∀ j ∈ rest, j ∈ ps := fun j hj => hr j (List.mem_cons_of_mem _ hj)
            obtain ⟨en, t', e1, e2, e3, e4, e5⟩ := hex i (hr i List.mem_cons_self)
            rw [e1]
            dsimp only
            rw [if_pos (by rw [e3]; exact beq_self_eq_true _)]
            refine wpAny_bind (wpAny_dictEpoch ho hd (wpAny_bind (eqa e4 e5 _ _ _ _ (wpAny_bind (wpAny_dictEpoch ho hd ?_)))))
            show wpAny _ A (if (ep != ep) = true then _ else _) _ E _
            rw [if_neg (by simp)]
            by_cases hkk : t' = t
            · subst hkk
              rw [decide_eq_true rfl]
              rcases hH with ⟨rfl, hj⟩ | ⟨j, rfl, hj, hjr⟩
              · rw [if_pos rfl]
                simp only [Bool.false_eq_true, Option.isSome_none, if_false]
                refine wpAny_bind ((wpAny_rule) ?_)
                split
                · exact wpAny_pure (wpAny_pure (hsome i e2))
                · exact wpAny_pure ⟨rfl, hnr, some i, rfl, hr', .inr ⟨i, rfl, e2, hni⟩⟩
              · exact absurd (x.one e2 hj ▸ List.mem_cons_self) hjr
            · rw [decide_eq_false hkk]
              rw [if_neg (by simp)]
              refine wpAny_bind ((wpAny_rule) ?_)
              rw [if_neg (by simp)]
              refine wpAny_pure ⟨rfl, hnr, hit, rfl, hr', ?_⟩
              rcases hH with ⟨rfl, hj⟩ | ⟨j, rfl, hj, hjr⟩
              · refine .inl ⟨rfl, fun j h2 => ?_⟩
                rcases List.mem_cons.mp (hj j h2) with rfl | h3
                · rw [e2] at h2
                  exact absurd (Option.some.inj h2) hkk
                · exact h3
              · exact .inr ⟨j, rfl, hj, fun z => hjr (List.mem_cons_of_mem _ z)⟩
          · rintro b s' ⟨rfl, _, hit, rfl, _, hH⟩
            rcases hH with ⟨rfl, hj⟩ | ⟨j, rfl, hj, _⟩
            · exact wpAny_pure (hnone fun j h2 => absurd (hj j h2) (by simp))
            · exact wpAny_pure (hsome j hj)
        · rw [if_neg hone]
          refine wpAny_bind (tell ?_)
          rw [if_neg (by simp)]
          refine wpAny_bind (wpAny_forIn_list _ (fun rest b s' => s' = s ∧ rest.Nodup ∧ ∃ hit : Option Nat, b = (none, hit) ∧ (∀ i ∈ rest, i ∈ ps) ∧
           ((hit = none ∧ ∀ j : Nat, ts[j]? = some t → j ∈ rest) ∨ ∃ j : Nat, hit = some j ∧ ts[j]? = some t ∧ j ∉ rest)) _ ?_ ?_ _ _ ⟨rfl, hnd, none, rfl, fun _ z => z, .inl ⟨rfl, hin⟩⟩)
          · rintro i rest b s' ⟨rfl, hnd', hit, rfl, hr, hH⟩
            have hni : i ∉ rest := (List.nodup_cons.mp hnd').1
            have hnr : rest.Nodup := (List.nodup_cons.mp hnd').2
            have hr' : ∀ j ∈ rest, j ∈ ps := fun j hj => hr j (List.mem_cons_of_mem _ hj)
            obtain ⟨en, t', e1, e2, e3, e4, e5⟩ := hex i (hr i List.mem_cons_self)
            rw [e1]
            dsimp only
            rw [if_pos (by rw [e3]; exact beq_self_eq_true _)]
            refine wpAny_bind (wpAny_dictEpoch ho hd (wpAny_bind (eqa e4 e5 _ _ _ _ (wpAny_bind (wpAny_dictEpoch ho hd ?_)))))
            show wpAny _ A (if (ep != ep) = true then _ else _) _ E _
            rw [if_neg (by simp)]
            by_cases hkk : t' = t
            · subst hkk
              rw [decide_eq_true rfl]
              rcases hH with ⟨rfl, hj⟩ | ⟨j, rfl, hj, hjr⟩
              · rw [if_pos rfl]
                simp only [Bool.false_eq_true, Option.isSome_none, if_false]
                refine wpAny_bind ((wpAny_rule) ?_)
                split
                · exact wpAny_pure (wpAny_pure (hsome i e2))
                · exact wpAny_pure ⟨rfl, hnr, some i, rfl, hr', .inr ⟨i, rfl, e2, hni⟩⟩
              · exact absurd (x.one e2 hj ▸ List.mem_cons_self) hjr
            · rw [decide_eq_false hkk]
              rw [if_neg (by simp)]
              refine wpAny_bind ((wpAny_rule) ?_)
              rw [if_neg (by simp)]
              refine wpAny_pure ⟨rfl, hnr, hit, rfl, hr', ?_⟩
              rcases hH with ⟨rfl, hj⟩ | ⟨j, rfl, hj, hjr⟩
              · refine .inl ⟨rfl, fun j h2 => ?_⟩
                rcases List.mem_cons.mp (hj j h2) with rfl | h3
                · rw [e2] at h2
                  exact absurd (Option.some.inj h2) hkk
                · exact h3
              · exact .inr ⟨j, rfl, hj, fun z => hjr (List.mem_cons_of_mem _ z)⟩
          · rintro b s' ⟨rfl, _, hit, rfl, _, hH⟩
            rcases hH with ⟨rfl, hj⟩ | ⟨j, rfl, hj, _⟩
            · exact wpAny_pure (hnone fun j h2 => absurd (hj j h2) (by simp))
            · exact wpAny_pure (hsome j hj)
      · by_cases hone : (st == [u]) = true
        · rw [if_pos hone]
          refine wpAny_bind ((wpAny_pure) ?_)
          rw [if_neg (by simp)]
          refine wpAny_bind (wpAny_forIn_list _ (fun rest b s' => s' = s ∧ rest.Nodup ∧ ∃ hit : Option Nat, b = (none, hit) ∧ (∀ i ∈ rest, i ∈ ps) ∧
           ((hit = none ∧ ∀ j : Nat, ts[j]? = some t → j ∈ rest) ∨ ∃ j : Nat, hit = some j ∧ ts[j]? = some t ∧ j ∉ rest)) _ ?_ ?_ _ _ ⟨rfl, hnd, none, rfl, fun _ z => z, .inl ⟨rfl, hin⟩⟩)
          · rintro i rest b s' ⟨rfl, hnd', hit, rfl, hr, hH⟩
            have hni : i ∉ rest := (List.nodup_cons.mp hnd').1
            have hnr : rest.Nodup := (List.nodup_cons.mp hnd').2
            have hr' : ∀ j ∈ rest, j ∈ ps := fun j hj => hr j (List.mem_cons_of_mem _ hj)
            obtain ⟨en, t', e1, e2, e3, e4, e5⟩ := hex i (hr i List.mem_cons_self)
            rw [e1]
            dsimp only
            rw [if_pos (by rw [e3]; exact beq_self_eq_true _)]
            refine wpAny_bind (wpAny_dictEpoch ho hd (wpAny_bind (eqa e4 e5 _ _ _ _ (wpAny_bind (wpAny_dictEpoch ho hd ?_)))))
            show wpAny _ A (if (ep != ep) = true then _ else _) _ E _
            rw [if_neg (by simp)]
            by_cases hkk : t' = t
            · subst hkk
              rw [decide_eq_true rfl]
              rcases hH with ⟨rfl, hj⟩ | ⟨j, rfl, hj, hjr⟩
              · rw [if_pos rfl]
                simp only [Bool.false_eq_true, Option.isSome_none, if_false]
                refine wpAny_bind ((wpAny_rule) ?_)
                split
                · exact wpAny_pure (wpAny_pure (hsome i e2))
                · exact wpAny_pure ⟨rfl, hnr, some i, rfl, hr', .inr ⟨i, rfl, e2, hni⟩⟩
              · exact absurd (x.one e2 hj ▸ List.mem_cons_self) hjr
            · rw [decide_eq_false hkk]
              rw [if_neg (by simp)]
              refine wpAny_bind ((wpAny_rule) ?_)
              rw [if_neg (by simp)]
              refine wpAny_pure ⟨rfl, hnr, hit, rfl, hr', ?_⟩
              rcases hH with ⟨rfl, hj⟩ | ⟨j, rfl, hj, hjr⟩
              · refine .inl ⟨rfl, fun j h2 => ?_⟩
                rcases List.mem_cons.mp (hj j h2) with rfl | h3
                · rw [e2] at h2
                  exact absurd (Option.some.inj h2) hkk
                · exact h3
              · exact .inr ⟨j, rfl, hj, fun z => hjr (List.mem_cons_of_mem _ z)⟩
          · rintro b s' ⟨rfl, _, hit, rfl, _, hH⟩
            rcases hH with ⟨rfl, hj⟩ | ⟨j, rfl, hj, _⟩
            · exact wpAny_pure (hnone fun j h2 => absurd (hj j h2) (by simp))
            · exact wpAny_pure (hsome j hj)
        · rw [if_neg hone]
          refine wpAny_bind (tell ?_)
          rw [if_neg (by simp)]
          refine wpAny_bind (wpAny_forIn_list _ (fun rest b s' => s' = s ∧ rest.Nodup ∧ ∃ hit : Option Nat, b = (none, hit) ∧ (∀ i ∈ rest, i ∈ ps) ∧
           ((hit = none ∧ ∀ j : Nat, ts[j]? = some t → j ∈ rest) ∨ ∃ j : Nat, hit = some j ∧ ts[j]? = some t ∧ j ∉ rest)) _ ?_ ?_ _ _ ⟨rfl, hnd, none, rfl, fun _ z => z, .inl ⟨rfl, hin⟩⟩)
          · rintro i rest b s' ⟨rfl, hnd', hit, rfl, hr, hH⟩
            have hni : i ∉ rest := (List.nodup_cons.mp hnd').1
            have hnr : rest.Nodup := (List.nodup_cons.mp hnd').2
            have hr' : ∀ j ∈ rest, j ∈ ps := fun j hj => hr j (List.mem_cons_of_mem _ hj)
            obtain ⟨en, t', e1, e2, e3, e4, e5⟩ := hex i (hr i List.mem_cons_self)
            rw [e1]
            dsimp only
            rw [if_pos (by rw [e3]; exact beq_self_eq_true _)]
            refine wpAny_bind (wpAny_dictEpoch ho hd (wpAny_bind (eqa e4 e5 _ _ _ _ (wpAny_bind (wpAny_dictEpoch ho hd ?_)))))
            show wpAny _ A (if (ep != ep) = true then _ else _) _ E _
            rw [if_neg (by simp)]
            by_cases hkk : t' = t
            · subst hkk
              rw [decide_eq_true rfl]
              rcases hH with ⟨rfl, hj⟩ | ⟨j, rfl, hj, hjr⟩
              · rw [if_pos rfl]
                simp only [Bool.false_eq_true, Option.isSome_none, if_false]
                refine wpAny_bind ((wpAny_rule) ?_)
                split
                · exact wpAny_pure (wpAny_pure (hsome i e2))
                · exact wpAny_pure ⟨rfl, hnr, some i, rfl, hr', .inr ⟨i, rfl, e2, hni⟩⟩
              · exact absurd (x.one e2 hj ▸ List.mem_cons_self) hjr
            · rw [decide_eq_false hkk]
              rw [if_neg (by simp)]
              refine wpAny_bind ((wpAny_rule) ?_)
              rw [if_neg (by simp)]
              refine wpAny_pure ⟨rfl, hnr, hit, rfl, hr', ?_⟩
              rcases hH with ⟨rfl, hj⟩ | ⟨j, rfl, hj, hjr⟩
              · refine .inl ⟨rfl, fun j h2 => ?_⟩
                rcases List.mem_cons.mp (hj j h2) with rfl | h3
                · rw [e2] at h2
                  exact absurd (Option.some.inj h2) hkk
                · exact h3
              · exact .inr ⟨j, rfl, hj, fun z => hjr (List.mem_cons_of_mem _ z)⟩
          · rintro b s' ⟨rfl, _, hit, rfl, _, hH⟩
            rcases hH with ⟨rfl, hj⟩ | ⟨j, rfl, hj, _⟩
            · exact wpAny_pure (hnone fun j h2 => absurd (hj j h2) (by simp))
            · exact wpAny_pure (hsome j hj)
end
end L2
namespace L2
open PySem PySem.Spec PyProof.Rows
structure DtR (P : Params) (m : List (Tr × V × V)) (es : Array DictEntry) : Prop where
  len : es.size = m.length
  at_ : ∀ (j : Nat) (x : Tr × V × V), m[j]? = some x → ∃ e, es[j]? = some e ∧ e.hash = x.1.hash P ∧ RelV x.2.1 e.key ∧ RelV x.2.2 e.val
def DtP (P : Params) (a : Addr) (m : List (Tr × V × V)) : Heap → Prop := fun h => m.length ≤ sizeLine ∧ (a == sysModules) = false ∧ ∃ o es ep, h.get? a = some o ∧ o.ExactDict ∧ o.data = .dict es ep ∧ DtR P m es
abbrev DtO (P : Params) (a : Addr) (m : List (Tr × V × V)) : HO := .ext (DtP P a m)
theorem DtP.one {P : Params} {a : Addr} {m : List (Tr × V × V)} (h1 h2 : Heap) (x : DtP P a m h1) (k : ∀ o, h1.get? a = some o → h2.get? a = some o) : DtP P a m h2 := by
  obtain ⟨z, y, o, es, ep, e, r⟩ := x
  exact ⟨z, y, o, es, ep, k _ e, r⟩
theorem dto_ok {Pr : Program} {w : World} {H : Hp} {h : Heap} {P : Params} {a : Addr} {m : List (Tr × V × V)} (x : DtP P a m h) : ObjOk Pr w H h a (DtO P a m) := by
  refine ⟨x, ?_, DtP.one⟩
  obtain ⟨_, _, o, _, _, e, _⟩ := x
  exact ⟨o, e⟩
def DtAt (P : Params) (H : Hp) (a : Addr) (kvs : List (Tr × V)) : Prop := ∃ m : List (Tr × V × V), m.map (fun x => (x.1, x.2.2)) = kvs ∧ H a = some (DtO P a m) ∧ (∀ x ∈ m, x.1.At H x.2.1 [] ∧ x.1.h ≤ 8) ∧ (m.map (·.1)).Nodup
noncomputable def putM (m : List (Tr × V × V)) (t : Tr) (y v : V) : List (Tr × V × V) := if t ∈ m.map (·.1) then m.map (fun x => if x.1 = t then (x.1, x.2.1, v) else x) else m ++ [(t, y, v)]
theorem putM_kvs (m : List (Tr × V × V)) (t : Tr) (y v : V) : (putM m t y v).map (fun x => (x.1, x.2.2)) = putK (m.map fun x => (x.1, x.2.2)) t v := by
  have hany : ((m.map fun x => (x.1, x.2.2)).any fun kv => decide (kv.1 = t)) = decide (t ∈ m.map (·.1)) := by
    rw [Bool.eq_iff_iff, List.any_eq_true, decide_eq_true_iff, List.mem_map]
    constructor
    · rintro ⟨p, hp, e⟩
      obtain ⟨x, hx, rfl⟩ := List.mem_map.mp hp
      exact ⟨x, hx, of_decide_eq_true e⟩
    · rintro ⟨x, hx, e⟩
      exact ⟨_, List.mem_map_of_mem hx, decide_eq_true e⟩
  unfold putM putK
  rw [hany]
  by_cases h : t ∈ m.map (·.1)
  · rw [if_pos h, if_pos (decide_eq_true h), List.map_map, List.map_map]
    refine List.map_congr_left fun x _ => ?_
    simp only [Function.comp]
    split <;> rfl
  · rw [if_neg h, if_neg (by rw [decide_eq_false h]; exact Bool.false_ne_true), List.map_append]
    rfl
theorem putM_nd {m : List (Tr × V × V)} (t : Tr) (y v : V) (h : (m.map (·.1)).Nodup) : ((putM m t y v).map (·.1)).Nodup := by
  unfold putM
  by_cases ht : t ∈ m.map (·.1)
  · rw [if_pos ht, List.map_map]
    rw [show m.map ((·.1) ∘ fun x => if x.1 = t then (x.1, x.2.1, v) else x) = m.map (·.1) from List.map_congr_left fun x _ => by simp only [Function.comp]; split <;> rfl]
    exact h
  · rw [if_neg ht, List.map_append]
    exact nd_snoc h ht
theorem putM_all {m : List (Tr × V × V)} {t : Tr} {y v : V} {p : Tr → V → Prop} (h : ∀ x ∈ m, p x.1 x.2.1) (hy : p t y) : ∀ x ∈ putM m t y v, p x.1 x.2.1 := by
  intro x hx
  unfold putM at hx
  by_cases ht : t ∈ m.map (·.1)
  · rw [if_pos ht] at hx
    obtain ⟨z, hz, rfl⟩ := List.mem_map.mp hx
    split <;> exact h z hz
  · rw [if_neg ht] at hx
    rcases List.mem_append.mp hx with hx | hx
    · exact h x hx
    · rw [List.mem_singleton.mp hx]; exact hy
theorem putM_len (m : List (Tr × V × V)) (t : Tr) (y v : V) : (putM m t y v).length ≤ m.length + 1 := by
  unfold putM
  split <;> simp
theorem dt_same {P : Params} {H H' : Hp} {a : Addr} {kvs : List (Tr × V)} (x : DtAt P H a kvs) (s : Same H H') : DtAt P H' a kvs := by
  obtain ⟨m, e1, e2, e3, e4⟩ := x
  exact ⟨m, e1, s _ _ e2, fun x hx => ⟨(e3 x hx).1.mono (s.keep _), (e3 x hx).2⟩, e4⟩
def TK (H : Hp) (t : Tr) (y : V) : Prop := t.At H y [] ∧ t.h ≤ 8
theorem valV_get {m : List (Tr × V × V)} (hn : (m.map (·.1)).Nodup) {j : Nat} {x : Tr × V × V} (e : m[j]? = some x) : valV (m.map fun x => (x.1, x.2.2)) x.1 = some x.2.2 := by
  induction m generalizing j with
  | nil => simp at e
  | cons z m ih =>
    rw [List.map_cons, List.nodup_cons] at hn
    cases j with
    | zero =>
      obtain rfl : z = x := by simpa using e
      exact valV_pos rfl
    | succ j =>
      have e' : m[j]? = some x := by simpa using e
      rw [List.map_cons, valV_neg (fun q => hn.1 (by
        show z.1 ∈ _
        rw [show z.1 = x.1 from q]
        exact List.mem_map_of_mem (List.mem_of_getElem? e')))]
      exact ih hn.2 e'
theorem valV_none {m : List (Tr × V × V)} {t : Tr} (h : ∀ j : Nat, (m.map (·.1))[j]? ≠ some t) : valV (m.map fun x => (x.1, x.2.2)) t = none ∧ t ∉ m.map (·.1) := by
  have hn : t ∉ m.map (·.1) := fun z => by
    obtain ⟨j, hj, e⟩ := List.mem_iff_getElem.mp z
    exact h j (by rw [List.getElem?_eq_getElem hj, e])
  refine ⟨?_, hn⟩
  unfold valV
  rw [List.find?_eq_none.mpr]
  · rfl
  · intro p hp
    obtain ⟨x, hx, rfl⟩ := List.mem_map.mp hp
    simp only [decide_eq_true_iff]
    exact fun z => hn (z ▸ List.mem_map_of_mem hx)
section
variable {X : Cx} {pins : List (Addr × Obj)} {σ : St} {H : Hp} {s : Shared} {a : Addr} {t : Tr} {y v : V} {u r : Value} {A : Around} {E : Value → Shared → Prop} {kvs : List (Tr × V)} {m : List (Tr × V × V)}
theorem dt_ents (I : Inv X pins σ H s) (e2 : H a = some (DtO X.w.params a m)) (e3 : ∀ x ∈ m, x.1.At H x.2.1 [] ∧ x.1.h ≤ 8) (e4 : (m.map (·.1)).Nodup) :
    ∃ o es ep, s.heap.get? a = some o ∧ o.ExactDict ∧ o.data = .dict es ep ∧ DtR X.w.params m es ∧ Ents X.w.params s.heap es (m.map (·.1)) ∧ m.length ≤ sizeLine ∧ (a == sysModules) = false := by
  obtain ⟨⟨z1, z2, o, es, ep, q1, q2, q3, q4⟩, _⟩ := I.hok a _ e2
  refine ⟨o, es, ep, q1, q2, q3, q4, ⟨by rw [q4.len, List.length_map], fun j e he => ?_, e4⟩, z1, z2⟩
  have hj : j < m.length := by rw [← q4.len]; exact (Array.getElem?_eq_some_iff.mp he).1
  obtain ⟨e', f1, f2, f3, f4⟩ := q4.at_ j m[j] (List.getElem?_eq_getElem hj)
  rw [he] at f1
  cases f1
  have := e3 m[j] (List.getElem_mem hj)
  exact ⟨m[j].1, by rw [List.getElem?_map, List.getElem?_eq_getElem hj]; rfl, f2, this.1.isIn I f3, this.2⟩
theorem dt_get {Q : Option Value → Shared → Prop} (hu : A.units + 16 < cLine) (I : Inv X pins σ H s) (g : DtAt X.w.params H a kvs) (hk : TK H t y) (ry : RelV y u) (h : ∀ o s', Inv X pins σ H s' → RelO (valV kvs t) o → Q o s') :
    wpAny (model X.prog X.w) A (dictGet a u) Q E s := by
  obtain ⟨m, rfl, e2, e3, e4⟩ := g
  obtain ⟨o, es, ep, q1, q2, q3, q4, q5, _⟩ := dt_ents I e2 e3 e4
  have hin := hk.1.isIn I ry
  unfold dictGet
  try (with_reducible refine wpAny_holding ?_)
  refine wpAny_bind (hin.pyHash (by have := hk.2; omega) fun n => wpAny_bind (find_tr (s := { s with toks := n }) q1 q3 q5 hin hk.2 hu (fun hn => ?_) fun j hj => ?_))
  · refine wpAny_pure (h _ _ (I.tok _) ?_)
    rw [(valV_none hn).1]
    exact True.intro
  · rw [List.getElem?_map] at hj
    obtain ⟨x, hx, rfl⟩ := Option.map_eq_some_iff.mp hj
    obtain ⟨en, f1, f2, f3, f4⟩ := q4.at_ j x hx
    refine wpAny_bind (wpAny_dictEntries (s := { s with toks := n }) q1 q3 ?_)
    rw [f1]
    refine wpAny_pure (h _ _ (I.tok _) ?_)
    rw [valV_get e4 hx]
    exact f4
theorem dtr_snoc {P : Params} {es : Array DictEntry} {e : DictEntry} (x : DtR P m es) (h1 : e.hash = t.hash P) (h2 : RelV y e.key) (h3 : RelV v e.val) : DtR P (m ++ [(t, y, v)]) (es.push e) := by
  refine ⟨by simp [x.len], fun j z hz => ?_⟩
  by_cases hj : j < m.length
  · rw [List.getElem?_append_left hj] at hz
    obtain ⟨e', f1, f2⟩ := x.at_ j z hz
    exact ⟨e', by rw [Array.getElem?_push, if_neg (by rw [x.len]; omega)]; exact f1, f2⟩
  · rw [List.getElem?_append_right (by omega)] at hz
    have hj2 : j - m.length = 0 := by
      refine Nat.eq_zero_of_not_pos fun z => ?_
      rw [List.getElem?_eq_none (by simp; omega)] at hz
      cases hz
    rw [hj2] at hz
    cases hz
    exact ⟨e, by rw [Array.getElem?_push, if_pos (by rw [x.len]; omega)], h1, h2, h3⟩
theorem dtr_put {P : Params} {es : Array DictEntry} {j : Nat} {x : Tr × V × V} (R : DtR P m es) (hn : (m.map (·.1)).Nodup) (hx : m[j]? = some x) (h3 : RelV v r) :
    DtR P (m.map fun z => if z.1 = x.1 then (z.1, z.2.1, v) else z) (es.modify j fun e => { e with val := r }) := by
  refine ⟨by simp [R.len], fun i z hz => ?_⟩
  rw [List.getElem?_map] at hz
  obtain ⟨z0, hz0, rfl⟩ := Option.map_eq_some_iff.mp hz
  obtain ⟨e', f1, f2, f3, f4⟩ := R.at_ i z0 hz0
  have hi : i < es.size := (Array.getElem?_eq_some_iff.mp f1).1
  rw [Array.getElem?_modify, f1]
  by_cases hij : j = i
  · subst hij
    rw [hz0] at hx
    cases hx
    rw [if_pos rfl, if_pos rfl]
    exact ⟨_, rfl, f2, f3, h3⟩
  · rw [if_neg hij, if_neg]
    · exact ⟨_, rfl, f2, f3, f4⟩
    · intro e
      have pw := List.pairwise_iff_getElem.mp hn
      obtain ⟨l1, g1⟩ := List.getElem?_eq_some_iff.mp hx
      obtain ⟨l2, g2⟩ := List.getElem?_eq_some_iff.mp hz0
      rcases Nat.lt_trichotomy j i with h | h | h
      · exact pw j i (by simpa using l1) (by simpa using l2) h (by simp [g1, g2, e])
      · exact hij h
      · exact pw i j (by simpa using l2) (by simpa using l1) h (by simp [g1, g2, e])
theorem dt_set {Q : Unit → Shared → Prop} (hu : A.units + 16 < cLine) (I : Inv X pins σ H s) (e2 : H a = some (DtO X.w.params a m)) (e3 : ∀ x ∈ m, x.1.At H x.2.1 [] ∧ x.1.h ≤ 8) (e4 : (m.map (·.1)).Nodup) (hz : m.length < sizeLine)
    (hk : TK H t y) (ry : RelV y u) (rv : RelV v r) (h : ∀ s', Inv X pins σ (upd H a (DtO X.w.params a (putM m t y v))) s' → Q () s') :
    wpAny (model X.prog X.w) A (dictSet a u r) Q E s := by
  obtain ⟨o, es, ep, q1, q2, q3, q4, q5, z1, z2⟩ := dt_ents I e2 e3 e4
  have hin := hk.1.isIn I ry
  have hl : (putM m t y v).length ≤ sizeLine := by have := putM_len m t y v; omega
  unfold dictSet
  try (with_reducible refine wpAny_holding ?_)
  refine wpAny_bind (hin.pyHash (by have := hk.2; omega) fun n => ?_)
  unfold dictSetHashed
  try (with_reducible refine wpAny_holding ?_)
  refine wpAny_bind (find_tr (s := { s with toks := n }) q1 q3 q5 hin hk.2 hu (fun hn => ?_) fun j hj => ?_)
  · refine wpAny_bind (wpAny_rule (wpAny_updateDictKeys (s := { s with toks := n }) q1 q3 (h _ (d_write (I.tok n) (by rw [e2]; exact True.intro) (Heap.SameBut.update ..) ?_ (dto_ok ⟨hl, z2, _, _, ep + 1, Heap.get?_update_self _ q1 (Obj.isFreed_of_dict (Obj.data_mapDictKeys q3 _)), q2.mapDictKeys _, Obj.data_mapDictKeys q3 _, ?_⟩))) (by rw [q4.len]; omega)))
    · exact ⟨_, Heap.get?_update_self _ q1 (Obj.isFreed_of_dict (Obj.data_mapDictKeys q3 _))⟩
    · unfold putM
      rw [if_neg (valV_none hn).2]
      exact dtr_snoc q4 rfl ry rv
  · rw [List.getElem?_map] at hj
    obtain ⟨x, hx, rfl⟩ := Option.map_eq_some_iff.mp hj
    refine wpAny_bind (wpAny_rule (wpAny_bind (wpAny_updateDict (s := { s with toks := n }) q1 q3 (wpAny_point (h _ (d_write (I.tok n) (by rw [e2]; exact True.intro) (Heap.SameBut.update ..) ?_ (dto_ok ⟨hl, z2, _, _, ep, Heap.get?_update_self _ q1 (Obj.isFreed_of_dict (Obj.data_mapDict q3 _)), q2.mapDict _, Obj.data_mapDict q3 _, ?_⟩)))))))
    · exact ⟨_, Heap.get?_update_self _ q1 (Obj.isFreed_of_dict (Obj.data_mapDict q3 _))⟩
    · unfold putM
      rw [if_pos (List.mem_map_of_mem (List.mem_of_getElem? hx))]
      exact dtr_put q4 e4 hx rv
end
end L2
namespace L2
open PySem PySem.Spec PyProof.Rows
def RawD (h : Heap) (d : Addr) (es : Array DictEntry) (ep : Nat) : Prop := ∃ o, h.get? d = some o ∧ o.ExactDict ∧ o.data = .dict es ep
theorem RawD.ty {s : Shared} {d : Addr} {es : Array DictEntry} {ep : Nat} (x : RawD s.heap d es ep) : s.TypeIs (.ref d) "dict" := let ⟨o, e, c, _⟩ := x; ⟨o, e, c.1⟩
theorem RawD.keep {h h' : Heap} {d : Addr} {es : Array DictEntry} {ep : Nat} (x : RawD h d es ep) (k : ∀ o, h.get? d = some o → h'.get? d = some o) : RawD h' d es ep := let ⟨o, e, r⟩ := x; ⟨o, k o e, r⟩
theorem RawD.lt {h : Heap} {d : Addr} {es : Array DictEntry} {ep : Nat} (x : RawD h d es ep) : d < h.objs.size := let ⟨_, e, _⟩ := x; Heap.lt_size e
section
variable {prog : Program} {w : World} {A : Around} {E : Value → Shared → Prop} {s : Shared} {d it : Addr} {es : Array DictEntry} {ep i : Nat}
end
theorem vals_of : ∀ {xs : List V} {us : List Value}, xs.length = us.length → (∀ (j : Nat) x u, xs[j]? = some x → us[j]? = some u → RelV x u) → Vals xs us
  | [], [], _, _ => .nil
  | x :: xs, u :: us, hl, h => .cons (h 0 x u rfl rfl) (vals_of (by simpa using hl) fun j y z hy hz => h (j + 1) y z (by simpa using hy) (by simpa using hz))
  | [], _ :: _, hl, _ => by simp at hl
  | _ :: _, [], hl, _ => by simp at hl
section
variable {X : Cx} {pins : List (Addr × Obj)} {σ : St} {H : Hp} {s : Shared} {a : Addr} {t : Tr} {y v z : V} {u r : Value} {A : Around} {E : Value → Shared → Prop} {kvs : List (Tr × V)} {m : List (Tr × V × V)}
theorem dt_raw (I : Inv X pins σ H s) (g : DtAt X.w.params H a kvs) : ∃ es ep, RawD s.heap a es ep ∧ (a == sysModules) = false ∧ es.size = kvs.length ∧ kvs.length ≤ sizeLine := by
  obtain ⟨m, rfl, e2, e3, e4⟩ := g
  obtain ⟨o, es, ep, q1, q2, q3, q4, q5, z1, z2⟩ := dt_ents I e2 e3 e4
  exact ⟨es, ep, ⟨o, q1, q2, q3⟩, z2, by rw [q4.len, List.length_map], by rw [List.length_map]; exact z1⟩
theorem dt_getItem {Q : Value → Shared → Prop} (hu : A.units + 20 < cLine) (I : Inv X pins σ H s) (g : DtAt X.w.params H a kvs) (hk : TK H t y) (ry : RelV y u) (hv : valV kvs t = some v) (h : ∀ w' s', Inv X pins σ H s' → RelV v w' → Q w' s') :
    wpAny (model X.prog X.w) A (getItem (.ref a) u) Q E s := by
  obtain ⟨_, _, x, _, _, _⟩ := dt_raw I g
  have T := x.ty
  unfold getItem
  try (with_reducible refine wpAny_holding ?_)
  refine wpAny_bind (wpAny_sequenceKey T (by decide) (wpAny_bind (wpAny_callSpecial?_slot (name := Str.ofString "__getitem__") T slot_dict_getitem (wpAny_call_entry slot_dict_getitem T entry_dict_getitem ?_ (args_dict_getitem _ _)))))
  show wpAny _ A.in1 (dictGet a u >>= _) _ _ s
  refine wpAny_bind (dt_get (by rw [in1_units]; omega) I g hk ry fun o s' I' ro => ?_)
  rw [hv] at ro
  obtain ⟨w', rfl, rw'⟩ := ro.some_of
  exact wpAny_pure ⟨w', rfl, wpAny_pure (h w' s' I' rw')⟩
theorem dt_contains {Q : Bool → Shared → Prop} (hu : A.units + 20 < cLine) (I : Inv X pins σ H s) (g : DtAt X.w.params H a kvs) (hk : TK H t y) (ry : RelV y u) (h : ∀ s', Inv X pins σ H s' → Q (valV kvs t).isSome s') :
    wpAny (model X.prog X.w) A (contains (.ref a) u) Q E s := by
  obtain ⟨_, _, x, lo, _, _⟩ := dt_raw I g
  have T := x.ty
  unfold contains
  try (with_reducible refine wpAny_holding ?_)
  refine wpAny_bind (wpAny_specialOf T slot_dict_contains.lookup ?_)
  show wpAny _ A (if (some (Value.builtin "dict.__contains__") == some Value.none) = true then _ else _) _ E s
  rw [if_neg (by rw [beq_builtin_none]; simp)]
  refine wpAny_bind (wpAny_callSpecialUnlessNone?_slot (name := Str.ofString "__contains__") T slot_dict_contains (wpAny_call_entry slot_dict_contains T entry_dict_contains ?_ (args_dict_contains _ _)))
  show wpAny _ A.in1 (dictGet a u >>= _) _ _ s
  refine wpAny_bind (dt_get (by rw [in1_units]; omega) I g hk ry fun o s' I' ro => ?_)
  have h := h s' I'
  rw [ro.isSome_eq] at h
  cases o with
  | some w' => exact (show wpAny _ _ (ret (.bool true)) _ _ _ from wpAny_pure ⟨_, rfl, wpAny_truthy_bool h⟩)
  | none => exact (show wpAny _ _ (Builtin.Dict.pendingKey? a u >>= _) _ _ _ from wpAny_bind (wpAny_pendingKey_other lo (wpAny_pure ⟨_, rfl, wpAny_truthy_bool h⟩)))
theorem dt_in {Q : Value → Shared → Prop} (hu : A.units + 20 < cLine) (I : Inv X pins σ H s) (g : DtAt X.w.params H a kvs) (hk : TK H t y) (ry : RelV y u) (h : ∀ s', Inv X pins σ H s' → Q (.bool (valV kvs t).isSome) s') :
    wpAny (model X.prog X.w) A (compareOp .In u (.ref a)) Q E s :=
  (show wpAny _ _ (do return .bool (← contains (.ref a) u)) Q E s from wpAny_bind (dt_contains hu I g hk ry fun s' I' => wpAny_pure (h s' I')))
theorem dt_setItem {Q : Unit → Shared → Prop} (hu : A.units + 20 < cLine) (I : Inv X pins σ H s) (e2 : H a = some (DtO X.w.params a m)) (e3 : ∀ x ∈ m, x.1.At H x.2.1 [] ∧ x.1.h ≤ 8) (e4 : (m.map (·.1)).Nodup) (hz : m.length < sizeLine)
    (hk : TK H t y) (ry : RelV y u) (rv : RelV v r) (h : ∀ s', Inv X pins σ (upd H a (DtO X.w.params a (putM m t y v))) s' → Q () s') : wpAny (model X.prog X.w) A (setItem (.ref a) u r) Q E s := by
  obtain ⟨_, _, x, lo, _, _⟩ := dt_raw I ⟨m, rfl, e2, e3, e4⟩
  have T := x.ty
  unfold setItem
  try (with_reducible refine wpAny_holding ?_)
  refine wpAny_bind (wpAny_sequenceKey T (by decide) (wpAny_bind (wpAny_callSpecial?_slot (name := Str.ofString "__setitem__") T slot_dict_setitem (wpAny_call_entry slot_dict_setitem T entry_dict_setitem ?_ (args_dict_setitem _ _ _)))))
  show wpAny _ A.in1 (Builtin.Dict.notOrdered "__setitem__" ⟨[.ref a, u, r], []⟩ >>= _) _ _ s
  refine wpAny_bind (wpAny_notOrdered_dict T ?_)
  show wpAny _ A.in1 (dictSet a u r >>= _) _ _ s
  exact wpAny_bind (dt_set (by rw [in1_units]; omega) I e2 e3 e4 hz hk ry rv fun s' I' => wpAny_pure ⟨.none, rfl, wpAny_pure (h s' I')⟩)
theorem dt_getD {Q : Value → Shared → Prop} (hu : A.units + 20 < cLine) (I : Inv X pins σ H s) (g : DtAt X.w.params H a kvs) (hk : TK H t y) (ry : RelV y u) (rz : RelV z r) (h : ∀ w' s', Inv X pins σ H s' → RelV ((valV kvs t).getD z) w' → Q w' s') :
    wpAny (model X.prog X.w) A (call (.builtin "dict.get") [.ref a, u, r]) Q E s := by
  obtain ⟨_, _, x, lo, _, _⟩ := dt_raw I g
  refine wpAny_call_entry PySem.F.slot_dict_get x.ty PySem.F.entry_dict_get ?_ (PySem.F.args_dict_get_3 _ _ _)
  show wpAny _ A.in1 (dictGet a u >>= _) _ _ s
  refine wpAny_bind (dt_get (by rw [in1_units]; omega) I g hk ry fun o s' I' ro => ?_)
  have h := h (o.getD r) s' I' (ro.getD rz)
  cases o with
  | some w' => exact wpAny_pure ⟨w', rfl, h⟩
  | none => exact (show wpAny _ _ (Builtin.Dict.missed a u >>= _) _ _ _ from wpAny_bind (wpAny_missed_other lo (wpAny_pure ⟨r, rfl, h⟩)))
end
end L2
namespace L2
open PySem PySem.Spec PyProof.Rows
theorem tups_updE {H : Hp} {a : Addr} {φ : Heap → Prop} {o : HO} (h : H a = some (.ext φ)) : Tups H (upd H a o) := fun b ys e => by rw [upd_ne (ne_of e h (fun z => nomatch z))]; exact e
theorem tr_tups {H H' : Hp} {t : Tr} {v : V} (h : t.At H v []) (k : Tups H H') : t.At H' v [] := h.mono ⟨k, fun _ m => absurd m (by simp)⟩
theorem tr_tups_s {H H' : Hp} {ts : List Tr} {vs : List V} (h : Tr.Ats H ts vs []) (k : Tups H H') : Tr.Ats H' ts vs [] := h.mono ⟨k, fun _ m => absurd m (by simp)⟩
theorem TK.mono {H H' : Hp} {t : Tr} {v : V} (h : TK H t v) (k : Tups H H') : TK H' t v := ⟨tr_tups h.1 k, h.2⟩
theorem DtAt.ext {P : Params} {H : Hp} {a : Addr} {kvs : List (Tr × V)} (g : DtAt P H a kvs) : ∃ φ, H a = some (.ext φ) := let ⟨_, _, e, _⟩ := g; ⟨_, e⟩
theorem DtAt.mono {P : Params} {H H' : Hp} {a : Addr} {kvs : List (Tr × V)} (g : DtAt P H a kvs) (k : Tups H H') (e : H' a = H a) : DtAt P H' a kvs := by
  obtain ⟨m, e1, e2, e3, e4⟩ := g
  exact ⟨m, e1, e.trans e2, fun x hx => ⟨tr_tups (e3 x hx).1 k, (e3 x hx).2⟩, e4⟩
theorem dt_putM {P : Params} {H : Hp} {a : Addr} {m : List (Tr × V × V)} {t : Tr} {y v : V} (e2 : H a = some (DtO P a m)) (e3 : ∀ x ∈ m, x.1.At H x.2.1 [] ∧ x.1.h ≤ 8) (e4 : (m.map (·.1)).Nodup) (hk : TK H t y) :
    DtAt P (upd H a (DtO P a (putM m t y v))) a (putK (m.map fun x => (x.1, x.2.2)) t v) := by
  refine ⟨_, putM_kvs m t y v, upd_same, ?_, putM_nd t y v e4⟩
  exact putM_all (p := fun t y => t.At (upd H a (DtO P a (putM m _ _ _))) y [] ∧ t.h ≤ 8) (fun x hx => ⟨tr_tups (e3 x hx).1 (tups_updE e2), (e3 x hx).2⟩) ⟨tr_tups hk.1 (tups_updE e2), hk.2⟩
def tTNew (P : Params) : TE := fun _ H Q => ∀ p o, H p = none → DtAt P (upd H p o) p [] → Q (.ref p) (upd H p o)
def tTGet (P : Params) (td ty : TE) : TE := fun σ H Q => td σ H fun x H1 => ty σ H1 fun y H2 => ∃ a kvs t v, x = .ref a ∧ DtAt P H2 a kvs ∧ TK H2 t y ∧ valV kvs t = some v ∧ Q v H2
def tTIn (P : Params) (ty td : TE) : TE := fun σ H Q => ty σ H fun y H1 => td σ H1 fun x H2 => ∃ a kvs t, x = .ref a ∧ DtAt P H2 a kvs ∧ TK H2 t y ∧ Q (.bl (valV kvs t).isSome) H2
def tTNotIn (P : Params) (ty td : TE) : TE := fun σ H Q => ty σ H fun y H1 => td σ H1 fun x H2 => ∃ a kvs t, x = .ref a ∧ DtAt P H2 a kvs ∧ TK H2 t y ∧ Q (.bl (!(valV kvs t).isSome)) H2
def sTPut (P : Params) (td ty tv : TE) : TS := fun D σ H => tv σ H fun v H1 => td σ H1 fun x H2 => ty σ H2 fun y H3 => ∃ a kvs t, x = .ref a ∧ DtAt P H3 a kvs ∧ TK H3 t y ∧ kvs.length < sizeLine ∧ ∀ o, DtAt P (upd H3 a o) a (putK kvs t v) → D.nx σ (upd H3 a o)
def tTGet1 (P : Params) (td ty : TE) : TE := fun σ H Q => td σ H fun x H1 => ∃ a kvs, x = .ref a ∧ DtAt P H1 a kvs ∧ ty σ H1 fun y H2 => ∃ kvs' t, DtAt P H2 a kvs' ∧ TK H2 t y ∧ Q ((valV kvs' t).getD .non) H2
def tTGet2 (P : Params) (td ty tx : TE) : TE := fun σ H Q => td σ H fun x H1 => ∃ a kvs, x = .ref a ∧ DtAt P H1 a kvs ∧ ty σ H1 fun y H2 => tx σ H2 fun z H3 => ∃ kvs' t, DtAt P H3 a kvs' ∧ TK H3 t y ∧ Q ((valV kvs' t).getD z) H3
def tTSetD (P : Params) (td ty tx : TE) : TE := fun σ H Q => td σ H fun x H1 => ∃ a kvs, x = .ref a ∧ DtAt P H1 a kvs ∧ ty σ H1 fun y H2 => tx σ H2 fun z H3 => ∃ kvs' t, DtAt P H3 a kvs' ∧ TK H3 t y ∧ kvs'.length < sizeLine ∧
  (∀ v, valV kvs' t = some v → Q v H3) ∧ (valV kvs' t = none → ∀ o, DtAt P (upd H3 a o) a (kvs' ++ [(t, z)]) → Q z (upd H3 a o))
def rListT (P : Params) : List V → Hp → VK → Prop := fun xs H Q => ∃ a kvs, xs = [.ref a] ∧ DtAt P H a kvs ∧ ∀ p ks H', H p = none → Same H H' → H' p = some (.lst ks) → Tr.Ats H' (kvs.map (·.1)) ks [] → Q (.ref p) H'
section
variable {X : Cx} {o i e f value : Expr} {pos pos' apos cpos : Pos} {td ty tv tx : TE} {P : Params}
theorem dt_new0 (h : Heap) (P : Params) (hb : sysModules < h.objs.size) : DtP P h.objs.size [] (h.push { cls := .type "dict", data := .dict #[] }) :=
  ⟨Nat.zero_le _, beq_eq_false_iff_ne.mpr (Ne.symm (Nat.ne_of_lt hb)), _, #[], 0, Heap.get?_push_size _ rfl, ⟨rfl, rfl, rfl⟩, rfl, rfl, fun j x hx => by simp at hx⟩
theorem pe_tnew (P : Params) : PE X (.Dict [] [] pos) (tTNew P) := fun pins s σ H Q I h =>
  wpAny_Dict_empty ⟨.ref s.heap.objs.size, _, I.laid (a := s.heap.objs.size) (o := DtO P s.heap.objs.size []) (t' := s.toks) (fun _ _ q => Heap.get?_push_of_some _ q) (Nat.le_refl _) (dto_ok (dt_new0 s.heap P I.big)), rfl,
    h _ _ (I.hok.fresh (Nat.le_refl _)) ⟨[], rfl, upd_same, fun x hx => absurd hx (by simp), List.nodup_nil⟩⟩
theorem pe_tget (hP : X.w.params = P) (hu : X.A.units + 64 < cLine) (ho : PE X o td) (hi : PE X i ty) (hs : NoSl i) : PE X (.Subscript o i pos) (tTGet P td ty) := by
  subst hP
  intro pins s σ H Q I h
  refine subD_of PySem.F.slot_dict_getitem.lookup hs (thn (ho pins s σ H _ I h) fun u s1 ⟨x, H1, I1, rx, q1⟩ => thn (hi pins s1 σ H1 _ I1 q1) fun iv s2 ⟨y, H2, I2, ry, a, kvs, t, v, ex, g, hk, hv, q2⟩ => ?_)
  subst ex
  obtain rfl : u = Value.ref a := rx
  obtain ⟨_, _, x, _⟩ := dt_raw I2 g
  exact ⟨x.ty, dt_getItem (by omega) I2 g hk ry hv fun w' s3 I3 rw' => ⟨v, H2, I3, rw', q2⟩⟩
theorem pc_tin (hP : X.w.params = P) (hu : X.A.units + 64 < cLine) (hi : PE X i ty) (ho : PE X o td) : PC X .In i o (tTIn P ty td) := by
  subst hP
  intro pins s σ H Q I h
  refine thn (hi pins s σ H _ I h) fun iv s1 ⟨y, H1, I1, ry, q1⟩ => thn (ho pins s1 σ H1 _ I1 q1) fun u s2 ⟨x, H2, I2, rx, a, kvs, t, ex, g, hk, q2⟩ => ?_
  subst ex
  obtain rfl : u = Value.ref a := rx
  exact dt_in (by omega) I2 g hk ry fun s3 I3 => ⟨.bl _, H2, I3, rfl, q2⟩
theorem ps_tput (hP : X.w.params = P) (hu : X.A.units + 64 < cLine) (ho : PE X o td) (hi : PE X i ty) (hv : PE X value tv) (hs : swapsWith value (some (.Subscript o i pos')) pos.line X.env = pure false) :
    PS X (.Assign [.Subscript o i pos'] value pos) (sTPut P td ty tv) := by
  subst hP
  intro pins s σ H D I h
  refine wpAny_Assign_Subscript (thn (hv pins s σ H _ I h) fun r s1 ⟨v, H1, I1, rv, q1⟩ => thn (ho pins s1 σ H1 _ I1 q1) fun u s2 ⟨x, H2, I2, rx, q2⟩ => thn (hi pins s2 σ H2 _ I2 q2) fun iv s3 ⟨y, H3, I3, ry, a, kvs, t, ex, g, hk, hz, q3⟩ => ?_) hs
  subst ex
  obtain rfl : u = Value.ref a := rx
  obtain ⟨m, rfl, e2, e3, e4⟩ := g
  rw [List.length_map] at hz
  exact dt_setItem (by omega) I3 e2 e3 e4 hz hk ry rv fun s4 I4 => ⟨σ, _, I4, q3 _ (dt_putM e2 e3 e4 hk)⟩
theorem pe_tget2 (hP : X.w.params = P) (hu : X.A.units + 64 < cLine) (ho : PE X o td) (he : PE X e ty) (hf : PE X f tx) (m : M2 X o "get" apos e f cpos) : PE X (.Call (.Attribute o "get" apos) [e, f] [] cpos) (tTGet2 P td ty tx) := by
  subst hP
  intro pins s σ H Q I h
  refine wpAny_Call_method m.base m.few m.line PySem.F.plainAttrs_dict PySem.F.slot_dict_get PySem.F.type_dict_get (thn (ho pins s σ H _ I h) fun u s1 ⟨x, H1, I1, rx, a, kvs, ex, g1, q1⟩ => ?_)
  subst ex
  obtain rfl : u = Value.ref a := rx
  obtain ⟨es, ep, x, _⟩ := dt_raw I1 g1
  refine ⟨x.ty, (fun b q => by cases q; obtain ⟨ob, h1, h2, _⟩ := x; exact ⟨ob, h1, h2.2.1⟩), ?_⟩
  rw [m.trees]
  refine Calls.callWith_builtin rfl (Calls.evalArgs_plain (Calls.spliced_cons (thn (he pins s1 σ H1 _ I1 q1) fun iv s2 ⟨y, H2, I2, ry, q2⟩ => Calls.spliced_cons (thn (hf pins s2 σ H2 _ I2 q2) fun fv s3 ⟨z, H3, I3, rz, kvs', t, g, hk, q3⟩ => Calls.spliced_nil ?_))))
  exact dt_getD (by omega) I3 g hk ry rz fun w' s4 I4 rw' => ⟨_, H3, I4, rw', q3⟩
end
def rEqF : R2 := fun x y H Q => ∃ (t r : Tr), t.At H x [] ∧ r.At H y [] ∧ t.h ≤ 20 ∧ r.h ≤ 20 ∧ Q (.bl (decide (t = r))) H
def rNotInF (K : PySem.W.Frag) : R2 := fun x y H Q => ∃ (t : Tr) (ts : List Tr) (a : Addr) (vs : List V), t.At H x [] ∧ y = .ref a ∧ SqL K H a vs ∧ Tr.Ats H ts vs [] ∧ t.h ≤ 20 ∧ Tr.hs ts ≤ 20 ∧ Q (.bl (!decide (t ∈ ts))) H
def rSum (K : PySem.W.Frag) : List V → Hp → VK → Prop := fun xs H Q => ∃ (a : Addr) (ns : List Int), xs = [.ref a] ∧ SqL K H a (ns.map V.int) ∧ Q (.int ns.sum) H
section
variable {X : Cx}
theorem hs_mem {ts : List Tr} {t : Tr} (h : t ∈ ts) : t.h ≤ Tr.hs ts := by
  induction ts with
  | nil => cases h
  | cons x xs ih =>
    simp only [Tr.hs]
    rcases List.mem_cons.mp h with rfl | h
    · omega
    · have := ih h; omega
theorem ins_mem {h : Heap} {ts : List Tr} {us : List Value} (x : Tr.Ins h ts us) {z : Value} (hz : z ∈ us) : ∃ t ∈ ts, Tr.In h t z := by
  obtain ⟨j, hj, rfl⟩ := List.mem_iff_getElem.mp hz
  have hj' : j < ts.length := by rw [← x.len]; exact hj
  exact ⟨ts[j], List.getElem_mem hj', x.get j hj hj'⟩
theorem cl_sum (hc : X.calm = true) : CallR X (.builtin "sum") (rSum X.K) := by
  intro pins s σ H xs us Q I r h
  obtain ⟨a, ns, rfl, hS, q⟩ := h
  cases r with
  | cons r1 r2 =>
  cases r2
  cases r1
  obtain ⟨its, v1, p1, _⟩ := I.list hS
  have hi := intsAre_of v1
  obtain ⟨ys, e⟩ := hi.allInts.items
  have hn := nums_intItems (xs := ys)
  rw [← e, show its.toArray.toList = its from rfl, hi.numsOf] at hn
  refine sum_intListG (xs := ys) (I.ok.hd hc) (e ▸ p1.isList) fun h' tk t' hk => ⟨.int ns.sum, H, I.kept hk, ⟨t', ?_⟩, q⟩
  rw [preSum_eq, List.take_of_length_le (by simp), hn]
end
end L2
namespace L2
open PySem PySem.Spec PyProof.Rows
section
variable {P : Params} {σ : St} {H : Hp} {Q : VK} {td ty tx tv : TE} {nn bb cc : St → Hp → Prop} {rr : VK}
theorem i_tnew (h : ∀ p o, H p = none → DtAt P (upd H p o) p [] → Q (.ref p) (upd H p o)) : tTNew P σ H Q := h
theorem i_tget (h : td σ H fun x H1 => ty σ H1 fun y H2 => ∃ a kvs t v, x = .ref a ∧ DtAt P H2 a kvs ∧ TK H2 t y ∧ valV kvs t = some v ∧ Q v H2) : tTGet P td ty σ H Q := h
theorem i_tin (h : ty σ H fun y H1 => td σ H1 fun x H2 => ∃ a kvs t, x = .ref a ∧ DtAt P H2 a kvs ∧ TK H2 t y ∧ Q (.bl (valV kvs t).isSome) H2) : tTIn P ty td σ H Q := h
theorem i_tnotin (h : ty σ H fun y H1 => td σ H1 fun x H2 => ∃ a kvs t, x = .ref a ∧ DtAt P H2 a kvs ∧ TK H2 t y ∧ Q (.bl (!(valV kvs t).isSome)) H2) : tTNotIn P ty td σ H Q := h
theorem i_tput (h : tv σ H fun v H1 => td σ H1 fun x H2 => ty σ H2 fun y H3 => ∃ a kvs t, x = .ref a ∧ DtAt P H3 a kvs ∧ TK H3 t y ∧ kvs.length < sizeLine ∧ ∀ o, DtAt P (upd H3 a o) a (putK kvs t v) → nn σ (upd H3 a o)) : sTPut P td ty tv ⟨nn, rr, bb, cc⟩ σ H := h
theorem i_tget1 (h : td σ H fun x H1 => ∃ a kvs, x = .ref a ∧ DtAt P H1 a kvs ∧ ty σ H1 fun y H2 => ∃ kvs' t, DtAt P H2 a kvs' ∧ TK H2 t y ∧ Q ((valV kvs' t).getD .non) H2) : tTGet1 P td ty σ H Q := h
theorem i_tget2 (h : td σ H fun x H1 => ∃ a kvs, x = .ref a ∧ DtAt P H1 a kvs ∧ ty σ H1 fun y H2 => tx σ H2 fun z H3 => ∃ kvs' t, DtAt P H3 a kvs' ∧ TK H3 t y ∧ Q ((valV kvs' t).getD z) H3) : tTGet2 P td ty tx σ H Q := h
theorem i_tsetd (h : td σ H fun x H1 => ∃ a kvs, x = .ref a ∧ DtAt P H1 a kvs ∧ ty σ H1 fun y H2 => tx σ H2 fun z H3 => ∃ kvs' t, DtAt P H3 a kvs' ∧ TK H3 t y ∧ kvs'.length < sizeLine ∧
  (∀ v, valV kvs' t = some v → Q v H3) ∧ (valV kvs' t = none → ∀ o, DtAt P (upd H3 a o) a (kvs' ++ [(t, z)]) → Q z (upd H3 a o))) : tTSetD P td ty tx σ H Q := h
end
def rEqNil (K : PySem.W.Frag) : R2 := fun x y H Q => ∃ a b xs, x = .ref a ∧ y = .ref b ∧ SqL K H a xs ∧ SqL K H b [] ∧ Q (.bl xs.isEmpty) H
def rNeNil (K : PySem.W.Frag) : R2 := fun x y H Q => ∃ a b xs, x = .ref a ∧ y = .ref b ∧ SqL K H a xs ∧ SqL K H b [] ∧ Q (.bl (!xs.isEmpty)) H
section
variable {X : Cx}
theorem kop_eqNil (K : PySem.W.Frag) (hu : X.A.units + 64 < cLine) (hK : X.K = K := by rfl) : OpR X (compareOp .Eq) (rEqNil K) := by
  subst hK
  intro pins s σ H x y v u Q I rx ry h
  obtain ⟨a, b, xs, rfl, rfl, h1, h2, q⟩ := h
  cases rx
  cases ry
  obtain ⟨is1, q1, p1, _⟩ := I.list h1
  obtain ⟨is2, q2, p2, _⟩ := I.list h2
  cases q2
  cases q1 with
  | nil =>
    have := SeqAt.RcAt.lists (A := X.A) (s := s) (e := fun _ => true) p1.isList p2.isList rfl (by omega) (fun j h1 _ => absurd h1 (by simp))
    exact this X.prog X.w X.xe (EP X pins σ Q) ⟨.bl true, H, I, rfl, q⟩
  | cons r1 r2 =>
    have := SeqAt.RcAt.lists_lengths (A := X.A) (s := s) p1.isList p2.isList (by simp) (by omega)
    exact this X.prog X.w X.xe (EP X pins σ Q) ⟨.bl false, H, I, rfl, q⟩
theorem kop_neNil (K : PySem.W.Frag) (hu : X.A.units + 64 < cLine) (hK : X.K = K := by rfl) : OpR X (compareOp .NotEq) (rNeNil K) := by
  subst hK
  intro pins s σ H x y v u Q I rx ry h
  obtain ⟨a, b, xs, rfl, rfl, h1, h2, q⟩ := h
  cases rx
  cases ry
  obtain ⟨is1, q1, p1, _⟩ := I.list h1
  obtain ⟨is2, q2, p2, _⟩ := I.list h2
  cases q2
  cases q1 with
  | nil =>
    have := SeqAt.RcNeAt.lists (A := X.A) (s := s) (e := fun _ => true) p1.isList p2.isList rfl (by omega) (fun j h1 _ => absurd h1 (by simp))
    exact this X.prog X.w X.xe (EP X pins σ Q) ⟨.bl false, H, I, rfl, q⟩
  | cons r1 r2 =>
    have := SeqAt.RcNeAt.lists_lengths (A := X.A) (s := s) p1.isList p2.isList (by simp) (by omega)
    exact this X.prog X.w X.xe (EP X pins σ Q) ⟨.bl true, H, I, rfl, q⟩
theorem kcl_sum (K : PySem.W.Frag) (h : X.calm = true := by rfl) (hK : X.K = K := by rfl) : CallR X (.builtin "sum") (rSum K) := hK ▸ cl_sum h
end
section
variable {K : PySem.W.Frag} {H : Hp} {Q : VK}
theorem i_eqNil {a b : Addr} {xs : List V} (h1 : SqL K H a xs) (h2 : SqL K H b []) (h : Q (.bl xs.isEmpty) H) : rEqNil K (.ref a) (.ref b) H Q := ⟨a, b, xs, rfl, rfl, h1, h2, h⟩
theorem i_neNil {a b : Addr} {xs : List V} (h1 : SqL K H a xs) (h2 : SqL K H b []) (h : Q (.bl (!xs.isEmpty)) H) : rNeNil K (.ref a) (.ref b) H Q := ⟨a, b, xs, rfl, rfl, h1, h2, h⟩
theorem i_sum {a : Addr} {ns : List Int} (h1 : SqL K H a (ns.map V.int)) (h : Q (.int ns.sum) H) : rSum K [.ref a] H Q := ⟨a, ns, rfl, h1, h⟩
end
end L2
namespace L2
open PySem PySem.Spec PyProof.Rows
theorem i_neNil0 {K : PySem.W.Frag} {H : Hp} {Q : VK} {a b : Addr} (h1 : SqL K H a []) (h2 : SqL K H b []) (h : Q (.bl false) H) : rNeNil K (.ref a) (.ref b) H Q := i_neNil h1 h2 h
def Off (d l : Addr) (H H' : Hp) : Prop := ∀ b o, b ≠ d → b ≠ l → H b = some o → H' b = some o
structure Deck (H : Hp) (d l : Addr) (n : Nat) : Prop where
  ex : ∃ (ms : List Int) (z : Int), H d = some (.lst [.ref l, .int (n : Nat), .int z]) ∧ H l = some (.lst (ms.map V.int)) ∧ ms.length ≤ 100
theorem Deck.ne {H : Hp} {d l : Addr} {n : Nat} (k : Deck H d l n) : d ≠ l := by
  obtain ⟨ms, z, h1, h2, _⟩ := k.ex
  rintro rfl
  rw [h1] at h2
  injection h2 with h2
  injection h2 with h2
  cases ms with
  | nil => simp at h2
  | cons m ms => simp at h2
theorem Off.refl {d l : Addr} {H : Hp} : Off d l H H := fun _ _ _ _ e => e
theorem Off.trans {d l : Addr} {H H1 H2 : Hp} (a : Off d l H H1) (b : Off d l H1 H2) : Off d l H H2 := fun c o h1 h2 e => b c o h1 h2 (a c o h1 h2 e)
theorem Same.off {d l : Addr} {H H' : Hp} (s : Same H H') : Off d l H H' := fun b o _ _ e => s b o e
theorem Off.tups {d l : Addr} {H H' : Hp} {n : Nat} (f : Off d l H H') (k : Deck H d l n) : Tups H H' := fun b ys e => by
  obtain ⟨ms, z, h1, h2, _⟩ := k.ex
  exact f b _ (ne_of e h1 (fun z => nomatch z)) (ne_of e h2 (fun z => nomatch z)) e
theorem Deck.same {H H' : Hp} {d l : Addr} {n : Nat} (k : Deck H d l n) (s : Same H H') : Deck H' d l n := by
  obtain ⟨ms, z, h1, h2, h3⟩ := k.ex
  exact ⟨ms, z, s _ _ h1, s _ _ h2, h3⟩
theorem Deck.new {H : Hp} {d l p : Addr} {n : Nat} (k : Deck H d l n) (h : H p = none) : p ≠ d ∧ p ≠ l := by
  obtain ⟨ms, z, h1, h2, _⟩ := k.ex
  exact ⟨(ne_of_none h1 h).symm, (ne_of_none h2 h).symm⟩
theorem Off.free {d l p : Addr} {H H' : Hp} {n : Nat} (f : Off d l H H') (k : Deck H' d l n) (h : H' p = none) : H p = none := by
  obtain ⟨x1, x2⟩ := k.new h
  cases e : H p with
  | none => rfl
  | some o => rw [f p o x1 x2 e] at h; cases h
end L2
namespace L2
open PySem PySem.Spec PyProof.Rows
section
variable {X : Cx} {o e value : Expr} {f : Str} {pos pos' : Pos} {ta tv : TE}
theorem kpe_fld (K : PySem.W.Frag) (he : PE X e ta) (hb : attributeBase e f X.env (eval e X.env) = eval e X.env) (hK : X.K = K := by rfl) : PE X (.Attribute e f pos) (tFld K ta f) := hK ▸ pe_fld he hb
theorem kps_fld (K : PySem.W.Frag) (ha : PE X o ta) (hv : PE X value tv) (hs : swapsWith value (some (.Attribute o f pos')) pos.line X.env = pure false) (hK : X.K = K := by rfl) : PS X (.Assign [.Attribute o f pos'] value pos) (sFld K ta tv f) := hK ▸ ps_fld ha hv hs
structure ClsI (K : PySem.W.Frag) (C : Addr) : Prop where
  ha : PySem.W.findIn K (.ref C) "__class__" = some (some (.builtin "object.__class__"))
  hn : PySem.W.specialIn K (.builtin "object.__class__") "__get__" = some (some (.builtin "getset_descriptor.__get__"))
  htk : PySem.W.takesIn K (.builtin "object.__class__") = some true
  hm : PySem.W.mroIn K C (.type "object") = some true
def rIsiC (K : PySem.W.Frag) : List V → Hp → VK → Prop := fun xs H Q => ∃ a C dx fs M b, xs = [.ref a, .ref M] ∧ H a = some (.ins C dx fs) ∧ Cls K C ∧ ClsI K C ∧ PySem.W.kitOne K (.ref C) (.ref M) = some b ∧ Q (.bl b) H
end
section
variable {K : PySem.W.Frag} {σ : St} {H : Hp} {Q : VK} {ta tv : TE} {t : TA} {f m : Str} {C : Addr} {sp : Sp} {dvs : List V} {E : XK} {nn bb cc : St → Hp → Prop} {rr : VK}
theorem i_fld (h : ta σ H fun x H1 => ∃ a C dx fs v, x = .ref a ∧ H1 a = some (.ins C dx fs) ∧ Cls K C ∧ NoAttr K C f ∧ fs.lookup f = some v ∧ Q v H1) : tFld K ta f σ H Q := h
theorem i_sfld (h : tv σ H fun y H1 => ta σ H1 fun x H2 => ∃ a C dx fs, x = .ref a ∧ H2 a = some (.ins C dx fs) ∧ Cls K C ∧ NoAttr K C f ∧ fs.length < 1000 ∧ nn σ (upd H2 a (.ins C dx (putF f y fs)))) : sFld K ta tv f ⟨nn, rr, bb, cc⟩ σ H := h
theorem i_meth (h : ta σ H fun x H1 => ∃ a dx fs, x = .ref a ∧ H1 a = some (.ins C dx fs) ∧ fs.lookup m = none ∧ t σ H1 fun vs H2 => sp (x :: (vs ++ dvs)) H2 Q E) : tMeth C m sp dvs E ta t σ H Q := h
theorem i_make (h : t σ H fun vs H1 => ∀ x dx, H1 x = none → H1 dx = none → dx ≠ x → sp (.ref x :: (vs ++ dvs)) (upd (upd H1 dx (.own x)) x (.ins C dx [])) (fun v H2 => v = .non ∧ Q (.ref x) H2) E) : tMake C sp dvs E t σ H Q := h
end
theorem tups_updI {H : Hp} {a C dx : Addr} {fs : List (Str × V)} {o : HO} (h : H a = some (.ins C dx fs)) : Tups H (upd H a o) := fun b ys e => by rw [upd_ne (ne_of e h (fun z => nomatch z))]; exact e
end L2
namespace L2
open PySem PySem.Spec PyProof.Rows
inductive Tw where
  | sc (v : V)
  | tup (xs : List Tw)
  | lst (xs : List Tw)
def Scal : V → Prop
  | .non | .int _ | .str _ | .bl _ => True
  | _ => False
mutual
def Tw.At (H : Hp) : Tw → V → List Addr → Prop
  | .sc x, v, fs => v = x ∧ Scal x ∧ fs = []
  | .tup xs, v, fs => ∃ a vs, v = .ref a ∧ H a = some (.tup vs) ∧ Tw.Ats H xs vs fs
  | .lst xs, v, fs => ∃ a vs gs, v = .ref a ∧ H a = some (.lst vs) ∧ Tw.Ats H xs vs gs ∧ fs = a :: gs
def Tw.Ats (H : Hp) : List Tw → List V → List Addr → Prop
  | [], vs, fs => vs = [] ∧ fs = []
  | x :: xs, vs, fs => ∃ v ws f g, vs = v :: ws ∧ fs = f ++ g ∧ Tw.At H x v f ∧ Tw.Ats H xs ws g
end
mutual
theorem Tw.At.mono {H H' : Hp} : ∀ {x : Tw} {v : V} {fs : List Addr}, x.At H v fs → Keep fs H H' → x.At H' v fs
  | .sc _, _, _, h, _ => by simpa only [Tw.At] using h
  | .tup xs, v, fs, h, k => by
    simp only [Tw.At] at h ⊢
    obtain ⟨a, vs, e, g, r⟩ := h
    exact ⟨a, vs, e, k.1 _ _ g, Tw.Ats.mono r k⟩
  | .lst xs, v, fs, h, k => by
    simp only [Tw.At] at h ⊢
    obtain ⟨a, vs, gs, e, g, r, rfl⟩ := h
    exact ⟨a, vs, gs, e, k.2 _ (by simp) _ g, Tw.Ats.mono r (k.sub fun b m => by simp [m]), rfl⟩
theorem Tw.Ats.mono {H H' : Hp} : ∀ {xs : List Tw} {vs : List V} {fs : List Addr}, Tw.Ats H xs vs fs → Keep fs H H' → Tw.Ats H' xs vs fs
  | [], _, _, h, _ => by simpa only [Tw.Ats] using h
  | x :: xs, vs, fs, h, k => by
    simp only [Tw.Ats] at h ⊢
    obtain ⟨v, ws, f, g, e, rfl, a, b⟩ := h
    exact ⟨v, ws, f, g, e, rfl, Tw.At.mono a (k.sub fun c m => by simp [m]), Tw.Ats.mono b (k.sub fun c m => by simp [m])⟩
end
theorem Tw.At.same {H H' : Hp} {x : Tw} {v : V} {fs : List Addr} (h : x.At H v fs) (s : Same H H') : x.At H' v fs := h.mono (s.keep _)
theorem Tw.Ats.same {H H' : Hp} {xs : List Tw} {vs : List V} {fs : List Addr} (h : Tw.Ats H xs vs fs) (s : Same H H') : Tw.Ats H' xs vs fs := h.mono (s.keep _)
theorem Tw.Ats.len {H : Hp} : ∀ {xs : List Tw} {vs : List V} {fs : List Addr}, Tw.Ats H xs vs fs → vs.length = xs.length
  | [], vs, fs, h => by simp only [Tw.Ats] at h; rw [h.1]; rfl
  | x :: xs, vs, fs, h => by
    simp only [Tw.Ats] at h
    obtain ⟨v, ws, f, g, rfl, rfl, _, b⟩ := h
    simp [b.len]
theorem Tw.Ats.snoc {H : Hp} : ∀ {xs : List Tw} {vs : List V} {fs gs : List Addr} {x : Tw} {v : V}, Tw.Ats H xs vs fs → x.At H v gs → Tw.Ats H (xs ++ [x]) (vs ++ [v]) (fs ++ gs)
  | [], vs, fs, gs, x, v, h, a => by
    simp only [Tw.Ats] at h
    obtain ⟨rfl, rfl⟩ := h
    simp only [List.nil_append, Tw.Ats]
    exact ⟨v, [], gs, [], rfl, by simp, a, rfl, rfl⟩
  | y :: ys, vs, fs, gs, x, v, h, a => by
    simp only [Tw.Ats, List.cons_append] at h ⊢
    obtain ⟨w, ws, f, g, rfl, rfl, b, c⟩ := h
    exact ⟨w, ws ++ [v], f, g ++ gs, rfl, by simp, b, c.snoc a⟩
theorem Tw.Ats.get {H : Hp} : ∀ {xs : List Tw} {vs : List V} {fs : List Addr}, Tw.Ats H xs vs fs → ∀ (i : Nat) (v : V), vs[i]? = some v → ∃ x f, xs[i]? = some x ∧ x.At H v f ∧ ∀ a ∈ f, a ∈ fs
  | [], vs, fs, h, i, v, e => by simp only [Tw.Ats] at h; rw [h.1] at e; simp at e
  | x :: xs, vs, fs, h, i, v, e => by
    simp only [Tw.Ats] at h
    obtain ⟨w, ws, f, g, rfl, rfl, a, b⟩ := h
    cases i with
    | zero =>
      obtain rfl : w = v := by simpa using e
      exact ⟨x, f, rfl, a, fun c m => by simp [m]⟩
    | succ i =>
      obtain ⟨y, f', h1, h2, h3⟩ := b.get i v (by simpa using e)
      exact ⟨y, f', by simpa using h1, h2, fun c m => by simp [h3 c m]⟩
mutual
def Tw.h : Tw → Nat
  | .sc _ => 0
  | .tup xs => Tw.hs xs + 1
  | .lst xs => Tw.hs xs + 1
def Tw.hs : List Tw → Nat
  | [] => 0
  | x :: xs => max x.h (Tw.hs xs)
end
theorem scal_eq {A : Around} {s : Shared} {x : V} {u z : Value} (h : Scal x) (r1 : RelV x u) (r2 : RelV x z) : SeqAt.EqAt A s u z true := by
  cases x with
  | non => cases r1; cases r2; exact SeqAt.EqAt.same _
  | int i =>
    obtain ⟨t1, rfl⟩ := r1
    obtain ⟨t2, rfl⟩ := r2
    have := SeqAt.EqAt.int_int (A := A) (s := s) i t1 i t2
    simpa using this
  | str i =>
    obtain ⟨t1, rfl⟩ := r1
    obtain ⟨t2, rfl⟩ := r2
    have := SeqAt.EqAt.str_str (A := A) (s := s) i t1 i t2
    simpa using this
  | bl b =>
    cases (show u = Value.bool b from r1)
    cases (show z = Value.bool b from r2)
    exact SeqAt.EqAt.same _
  | _ => exact h.elim
section
variable {X : Cx} {pins : List (Addr × Obj)} {σ : St} {H : Hp} {s : Shared}
mutual
theorem Tw.eqAt (I : Inv X pins σ H s) : ∀ {t : Tw} {A : Around} {v w : V} {fs gs : List Addr} {u z : Value}, t.At H v fs → t.At H w gs → RelV v u → RelV w z → A.units + t.h < cLine → SeqAt.EqAt A s u z true
  | .sc x, A, v, w, fs, gs, u, z, h1, h2, r1, r2, hu => by
    simp only [Tw.At] at h1 h2
    obtain ⟨rfl, sc, -⟩ := h1
    obtain ⟨rfl, -, -⟩ := h2
    exact scal_eq sc r1 r2
  | .tup xs, A, v, w, fs, gs, u, z, h1, h2, r1, r2, hu => by
    simp only [Tw.At] at h1 h2
    obtain ⟨a, vs, rfl, e1, c1⟩ := h1
    obtain ⟨b, ws, rfl, e2, c2⟩ := h2
    cases r1
    cases r2
    by_cases hab : a = b
    · subst hab
      exact SeqAt.EqAt.same _
    refine SeqAt.EqAt.of_refs hab ?_
    obtain ⟨is1, q1, p1, _⟩ := I.tuple (SqT.of e1)
    obtain ⟨is2, q2, p2, _⟩ := I.tuple (SqT.of e2)
    simp only [Tw.h] at hu
    have hl : is1.length = is2.length := by rw [← q1.length, ← q2.length, c1.len, c2.len]
    have := SeqAt.RcAt.tuples (A := A) (s := s) (e := fun _ => true) p1 p2 (by omega) (fun j h1 h2 => by
      have := Tw.eqAts I (A := A.in1) c1 c2 q1 q2 (by rw [in1_units]; omega) j (by simpa using h1) (by simpa using h2)
      simpa using this)
    simpa [hl, all_tt] using this
  | .lst xs, A, v, w, fs, gs, u, z, h1, h2, r1, r2, hu => by
    simp only [Tw.At] at h1 h2
    obtain ⟨a, vs, _, rfl, e1, c1, _⟩ := h1
    obtain ⟨b, ws, _, rfl, e2, c2, _⟩ := h2
    cases r1
    cases r2
    by_cases hab : a = b
    · subst hab
      exact SeqAt.EqAt.same _
    refine SeqAt.EqAt.of_refs hab ?_
    obtain ⟨is1, q1, p1, _⟩ := I.list (SqL.of e1)
    obtain ⟨is2, q2, p2, _⟩ := I.list (SqL.of e2)
    simp only [Tw.h] at hu
    have hl : is1.length = is2.length := by rw [← q1.length, ← q2.length, c1.len, c2.len]
    have := SeqAt.RcAt.lists (A := A) (s := s) (e := fun _ => true) p1.isList p2.isList (by simpa using hl) (by omega) (fun j h1 h2 => by
      have := Tw.eqAts I (A := A.in1) c1 c2 q1 q2 (by rw [in1_units]; omega) j (by simpa using h1) (by simpa using h2)
      simpa using this)
    simpa [all_tt] using this
theorem Tw.eqAts (I : Inv X pins σ H s) : ∀ {ts : List Tw} {A : Around} {vs ws : List V} {fs gs : List Addr} {us zs : List Value}, Tw.Ats H ts vs fs → Tw.Ats H ts ws gs → Vals vs us → Vals ws zs → A.units + Tw.hs ts < cLine →
    ∀ (j : Nat) (h1 : j < us.length) (h2 : j < zs.length), SeqAt.EqAt A s us[j] zs[j] true
  | [], A, vs, ws, fs, gs, us, zs, c1, c2, q1, q2, hu, j, h1, h2 => by
    simp only [Tw.Ats] at c1
    obtain ⟨rfl, -⟩ := c1
    cases q1
    exact absurd h1 (by simp)
  | t :: ts, A, vs, ws, fs, gs, us, zs, c1, c2, q1, q2, hu, j, h1, h2 => by
    simp only [Tw.Ats] at c1 c2
    obtain ⟨v, vs, f, g, rfl, rfl, a1, b1⟩ := c1
    obtain ⟨w, ws, f', g', rfl, rfl, a2, b2⟩ := c2
    cases q1 with
    | cons r1 q1 =>
    cases q2 with
    | cons r2 q2 =>
    simp only [Tw.hs] at hu
    cases j with
    | zero => exact Tw.eqAt I a1 a2 r1 r2 (by omega)
    | succ j => exact Tw.eqAts I b1 b2 q1 q2 (by omega) j (by simpa using h1) (by simpa using h2)
end
def rEqW : R2 := fun x y H Q => ∃ t fs gs, (Tw.tup t).At H x fs ∧ (Tw.tup t).At H y gs ∧ Tw.hs t ≤ 50 ∧ Q (.bl true) H
def rNeW : R2 := fun x y H Q => ∃ t fs gs, (Tw.tup t).At H x fs ∧ (Tw.tup t).At H y gs ∧ Tw.hs t ≤ 50 ∧ Q (.bl false) H
theorem tw_rc (I : Inv X pins σ H s) {A : Around} {t : List Tw} {x y : V} {v u : Value} {fs gs : List Addr} (rx : RelV x v) (ry : RelV y u) (h1 : (Tw.tup t).At H x fs) (h2 : (Tw.tup t).At H y gs) (hu : A.units + Tw.hs t + 4 < cLine) : SeqAt.RcAt A s v u true ∧ SeqAt.RcNeAt A s v u false := by
  simp only [Tw.At] at h1 h2
  obtain ⟨a, vs, rfl, e1, c1⟩ := h1
  obtain ⟨b, ws, rfl, e2, c2⟩ := h2
  cases rx
  cases ry
  obtain ⟨is1, q1, p1, _⟩ := I.tuple (SqT.of e1)
  obtain ⟨is2, q2, p2, _⟩ := I.tuple (SqT.of e2)
  have hl : is1.length = is2.length := by rw [← q1.length, ← q2.length, c1.len, c2.len]
  have hh : ∀ (j : Nat) (h1 : j < is1.toArray.size) (h2 : j < is2.toArray.size), SeqAt.EqAt A.in1 s is1.toArray[j] is2.toArray[j] ((fun _ => true) j) := fun j h1 h2 => by
    have := Tw.eqAts I (A := A.in1) c1 c2 q1 q2 (by rw [in1_units]; omega) j (by simpa using h1) (by simpa using h2)
    simpa using this
  have k1 := SeqAt.RcAt.tuples (A := A) (s := s) (e := fun _ => true) p1 p2 (by omega) hh
  have k2 := SeqAt.RcNeAt.tuples (A := A) (s := s) (e := fun _ => true) p1 p2 (by omega) hh
  rw [show ((List.range (min is1.toArray.size is2.toArray.size)).all (fun _ => true) && is1.toArray.size == is2.toArray.size) = true by simp [hl]] at k1 k2
  exact ⟨k1, k2⟩
theorem kop_eqW (hu : X.A.units + 64 < cLine) : OpR X (compareOp .Eq) rEqW := by
  intro pins s σ H x y v u Q I rx ry h
  obtain ⟨t, fs, gs, h1, h2, hh, q⟩ := h
  exact (tw_rc I rx ry h1 h2 (A := X.A) (by omega)).1 X.prog X.w X.xe (EP X pins σ Q) ⟨.bl true, H, I, rfl, q⟩
theorem kop_neW (hu : X.A.units + 64 < cLine) : OpR X (compareOp .NotEq) rNeW := by
  intro pins s σ H x y v u Q I rx ry h
  obtain ⟨t, fs, gs, h1, h2, hh, q⟩ := h
  exact (tw_rc I rx ry h1 h2 (A := X.A) (by omega)).2 X.prog X.w X.xe (EP X pins σ Q) ⟨.bl false, H, I, rfl, q⟩
theorem i_eqW {H : Hp} {Q : VK} {x y : V} {t : List Tw} {fs gs : List Addr} (h1 : (Tw.tup t).At H x fs) (h2 : (Tw.tup t).At H y gs) (hh : Tw.hs t ≤ 50) (h : Q (.bl true) H) : rEqW x y H Q := ⟨t, fs, gs, h1, h2, hh, h⟩
theorem i_neW {H : Hp} {Q : VK} {x y : V} {t : List Tw} {fs gs : List Addr} (h1 : (Tw.tup t).At H x fs) (h2 : (Tw.tup t).At H y gs) (hh : Tw.hs t ≤ 50) (h : Q (.bl false) H) : rNeW x y H Q := ⟨t, fs, gs, h1, h2, hh, h⟩
end
end L2
namespace L2
open PySem PySem.Spec PyProof.Rows
def rInsert0 : V → List V → Hp → VK → Prop := fun x vs H Q => ∃ l xs y, x = .ref l ∧ vs = [.int 0, y] ∧ H l = some (.lst xs) ∧ xs.length < sizeLine ∧ Q .non (upd H l (.lst (y :: xs)))
def rInF (K : PySem.W.Frag) : R2 := fun x y H Q => ∃ (t : Tr) (ts : List Tr) (a : Addr) (vs : List V), t.At H x [] ∧ y = .ref a ∧ SqL K H a vs ∧ Tr.Ats H ts vs [] ∧ t.h ≤ 20 ∧ Tr.hs ts ≤ 20 ∧ Q (.bl (decide (t ∈ ts))) H
def rIndexF (K : PySem.W.Frag) : V → List V → Hp → VK → Prop := fun x us H Q => ∃ (t : Tr) (ts : List Tr) (a : Addr) (vs : List V) (y : V) (j : Nat), x = .ref a ∧ us = [y] ∧ t.At H y [] ∧ SqL K H a vs ∧ Tr.Ats H ts vs [] ∧ t.h ≤ 20 ∧ Tr.hs ts ≤ 20 ∧ ts[j]? = some t ∧ (∀ m, m < j → ts[m]? ≠ some t) ∧ j < 1000000 ∧ Q (.int (j : Nat)) H
def rMaxL (K : PySem.W.Frag) : List V → Hp → VK → Prop := fun xs H Q => ∃ (a : Addr) (ns : List Int), xs = [.ref a] ∧ SqL K H a (ns.map V.int) ∧ 0 < ns.length ∧ ∀ M, M ∈ ns → (∀ a ∈ ns, a ≤ M) → Q (.int M) H
def rRange1 : List V → Hp → VK → Prop := fun xs H Q => ∃ n : Nat, xs = [.int (n : Nat)] ∧ n ≤ 1000000 ∧ New H (.rng 0 (n : Nat)) Q
def rListR : List V → Hp → VK → Prop := fun xs H Q => ∃ (a : Addr) (n : Nat), xs = [.ref a] ∧ H a = some (.rng 0 (n : Nat)) ∧ n ≤ 1000000 ∧ New H (.lst (natsV (List.range n))) Q
section
variable {X : Cx}
theorem kop_inF (K : PySem.W.Frag) (hu : X.A.units + 64 < cLine) (hK : X.K = K := by rfl) : OpR X (compareOp .In) (rInF K) := by
  classical
  subst hK
  intro pins s σ H x y v u Q I rx ry h
  obtain ⟨t, ts, a, vs, h1, rfl, h2, h3, l1, l2, q⟩ := h
  cases ry
  obtain ⟨its, v1, p1, _⟩ := I.list h2
  have hin := h1.isIn I rx
  have his := h3.isIns I v1
  refine SeqAt.in_listAt (fun z => decide (∃ r, Tr.In s.heap r z ∧ r = t)) p1.isList (fun z hz => ?_) ?_
  · obtain ⟨r, hr, hz'⟩ := ins_mem his (by simpa using hz)
    have := hz'.eqAt hin (A := X.A.in1) (by have := hs_mem hr; rw [in1_units]; omega)
    rw [show decide (∃ q, Tr.In s.heap q z ∧ q = t) = decide (r = t) from Bool.eq_iff_iff.mpr (by
      simp only [decide_eq_true_iff]
      exact ⟨fun ⟨q, a, b⟩ => (hz'.inj a).trans b, fun e => ⟨r, hz', e⟩⟩)]
    exact this
  · refine ⟨.bl (decide (t ∈ ts)), H, I, ?_, q⟩
    rw [show its.toArray.any (fun z => decide (∃ r, Tr.In s.heap r z ∧ r = t)) = decide (t ∈ ts) from ?_]
    · rfl
    rw [← Array.any_toList, Bool.eq_iff_iff, List.any_eq_true, decide_eq_true_iff]
    constructor
    · rintro ⟨z, hz, e⟩
      obtain ⟨r, hr, rfl⟩ := of_decide_eq_true e
      obtain ⟨r', hm, hr'⟩ := ins_mem his (by simpa using hz)
      exact hr'.inj hr ▸ hm
    · intro hm
      obtain ⟨j, hj, rfl⟩ := List.mem_iff_getElem.mp hm
      have hj' : j < its.length := by rw [his.len]; exact hj
      exact ⟨its[j], by simp, decide_eq_true ⟨_, his.get j hj' hj, rfl⟩⟩
theorem kmt_indexF (K : PySem.W.Frag) (hu : X.A.units + 64 < cLine) (hK : X.K = K := by rfl) : MtR X "list.index" (rIndexF K) := by
  classical
  subst hK
  intro pins s σ H x xs v us Q I rx rv h
  obtain ⟨t, ts, a, vs, y, j, rfl, rfl, h1, h2, h3, l1, l2, hj, hno, hjb, q⟩ := h
  cases rx
  obtain ⟨u, rfl, ru⟩ := rv.one
  obtain ⟨its, v1, p1, _⟩ := I.list h2
  have hin := h1.isIn I ru
  have his := h3.isIns I v1
  obtain ⟨⟨cls, dd, dt, sl⟩, ho, hc, n, hd⟩ := p1.isList
  simp only at hc hd
  subst hc hd
  have hj1 : j < ts.length := (List.getElem?_eq_some_iff.mp hj).1
  have hj2 : j < its.toArray.size := by rw [List.size_toArray, his.len]; exact hj1
  have hv : ∀ (m : Nat) (h1 : m < its.length) (h2 : m < ts.length), decide (∃ r, Tr.In s.heap r its[m] ∧ r = t) = decide (ts[m] = t) := fun m h1 h2 => Bool.eq_iff_iff.mpr (by
    simp only [decide_eq_true_iff]
    exact ⟨fun ⟨q, a, b⟩ => ((his.get m h1 h2).inj a).trans b, fun e => ⟨_, his.get m h1 h2, e⟩⟩)
  refine call_meets F.slot_list_index ⟨_, ho, rfl⟩ F.entry_list_index (F.args_list_index_2 _ _) (SeqAt.list_indexAt a its.toArray n dd sl _ (fun z => decide (∃ r, Tr.In s.heap r z ∧ r = t)) j hj2 (by omega) ?_ ?_) ⟨ho, fun z hz => ?_, ⟨.int (j : Nat), H, I.tok _, ⟨_, rfl⟩, q⟩⟩
  · have := hv j (by simpa using hj2) hj1
    simp only [List.getElem_toArray]
    rw [this]
    obtain ⟨_, e⟩ := List.getElem?_eq_some_iff.mp hj
    exact decide_eq_true e
  · intro m hm hmj
    have := hv m (by simpa using hm) (by omega)
    simp only [List.getElem_toArray]
    rw [this]
    exact decide_eq_false fun e => hno m hmj (by rw [List.getElem?_eq_getElem (by omega), e])
  · obtain ⟨r, hr, hz'⟩ := ins_mem his (by simpa using hz)
    have := hz'.eqAt hin (A := X.A.in1) (by have := hs_mem hr; rw [in1_units]; omega)
    rw [show decide (∃ q, Tr.In s.heap q z ∧ q = t) = decide (r = t) from Bool.eq_iff_iff.mpr (by
      simp only [decide_eq_true_iff]
      exact ⟨fun ⟨q, a, b⟩ => (hz'.inj a).trans b, fun e => ⟨r, hz', e⟩⟩)]
    exact this
theorem cl_maxL (hc : X.calm = true) : CallR X (.builtin "max") (rMaxL X.K) := by
  intro pins s σ H xs us Q I r h
  obtain ⟨a, ns, rfl, hS, hpos, q⟩ := h
  cases r with
  | cons r1 r2 =>
  cases r2
  cases r1
  obtain ⟨its, v1, p1, _⟩ := I.list hS
  have hi := intsAre_of v1
  obtain ⟨ys, e⟩ := hi.allInts.items
  have hn := nums_intItems (xs := ys)
  rw [← e, show its.toArray.toList = its from rfl, hi.numsOf] at hn
  have hl : ns.length = ys.size := by rw [hn]; simp
  refine max_intList (xs := ys) (I.ok.hd hc) (e ▸ p1.isList) (by omega) fun v h' tk hv hk => ?_
  obtain ⟨t, rfl⟩ := intItems_at hv
  obtain ⟨h1, h2⟩ := argBest_gt (numAt ys) (ys.size - 1)
  refine ⟨.int _, H, I.kept hk, ⟨t, rfl⟩, q _ ?_ fun b hb => ?_⟩
  · rw [hn, numAt_eq]
    exact getD_mem (by rw [List.length_map, Array.length_toList]; omega)
  · rw [hn] at hb
    obtain ⟨j, hj, rfl⟩ := mem_getD hb
    rw [List.length_map, Array.length_toList] at hj
    rw [← numAt_eq]
    exact h2 j (by omega)
theorem kcl_maxL (K : PySem.W.Frag) (h : X.calm = true := by rfl) (hK : X.K = K := by rfl) : CallR X (.builtin "max") (rMaxL K) := hK ▸ cl_maxL h
theorem cl_range1 : CallR X (.type "range") rRange1 := by
  intro pins s σ H xs us Q I r h
  obtain ⟨n, rfl, hn, q⟩ := h
  cases r with
  | cons r1 r2 =>
  cases r2
  obtain ⟨t, rfl⟩ := r1
  refine call_range_1 ⟨.ref s.heap.objs.size, upd H s.heap.objs.size (.rng 0 (n : Nat)), I.laid (fun b o e => Heap.get?_push_of_some _ e) (Nat.le_refl _) ⟨_, _, _, Heap.get?_push_size _ rfl⟩, rfl, New.to q _ I.fresh⟩
theorem cl_listR (hc : X.calm = true) : CallR X (.type "list") rListR := by
  intro pins s σ H xs us Q I r h
  obtain ⟨a, n, rfl, e, hn, q⟩ := h
  cases r with
  | cons r1 r2 =>
  cases r2
  cases r1
  obtain ⟨t, u, v, hg⟩ := I.hok a _ e
  refine call_list_range (n := n) (I.ok.hd hc) hg (small_one (by omega) (by omega) (by omega) (by omega)) (by rw [rangeSize_one]; split <;> omega) (by omega) fun h' tk acc c hk hS hacc => ⟨.ref s.heap.objs.size, _, I.laid (a := s.heap.objs.size) (t' := tk) hk (Nat.le_refl _) ?_, rfl, New.to q _ I.fresh⟩
  refine ⟨le_line (by simp [natsV]; omega), acc.toList, c, ?_, by simpa using hS⟩
  refine vals_of (by simp [natsV, hacc.1]) fun j x1 x2 hx1 hx2 => ?_
  have hj : j < n := by
    have := (List.getElem?_eq_some_iff.mp hx1).1
    simpa [natsV] using this
  obtain ⟨t2, rfl⟩ := hacc.2 j x2 (by rw [← Array.getElem?_toList]; exact hx2)
  have : x1 = .int (j : Nat) := by simpa [natsV, hj] using hx1.symm
  subst this
  exact ⟨t2, by simp⟩
end
theorem for_enum {K : PySem.W.Frag} {a : Addr} {xs : List V} {g : TG} {tb : TS} {D : Ends} {σ : St} {H : Hp} (Pv : Nat → St → Hp → Prop) (h0 : Pv 0 σ H) (hl : ∀ i σ H, i ≤ xs.length → Pv i σ H → SqL K H a xs)
    (hs : ∀ i x σ H q H2, xs[i]? = some x → Pv i σ H → Same H H2 → H2 q = some (.tup [.int (i : Nat), x]) → g (.ref q) σ H2 fun σ1 H1 => tb { D with nx := Pv (i + 1), ct := Pv (i + 1), bk := D.nx } σ1 H1)
    (hd : ∀ σ H, Pv xs.length σ H → D.nx σ H) : ForEnd (Ite K a) g tb D σ H := by
  refine ⟨fun i m σ H => m = xs.length - i ∧ i ≤ xs.length ∧ Pv i σ H, ⟨xs.length, by simp, Nat.zero_le _, h0⟩, ?_⟩
  rintro i m σ' H' ⟨rfl, hi, p⟩
  have hq := hl i σ' H' hi p
  by_cases hlt : i < xs.length
  · refine .inr ⟨⟨xs, xs[i], hq, by simp [hlt]⟩, Pv (i + 1), fun σ2 H2 p' => ⟨xs.length - (i + 1), by omega, rfl, hlt, p'⟩, fun v H2 y => ?_⟩
    obtain ⟨q, x, rfl, hn, sm, hT, hx⟩ := y
    exact hs i x σ' H' q H2 (hx xs hq) p sm hT
  · have e : i = xs.length := by omega
    subst e
    exact .inl ⟨⟨xs, hq, Nat.le_refl _⟩, hd σ' H' p⟩
section
variable {K : PySem.W.Frag} {H : Hp} {Q : VK}
theorem i_inF {x : V} {a : Addr} {t : Tr} {ts : List Tr} {vs : List V} (h1 : t.At H x []) (h2 : SqL K H a vs) (h3 : Tr.Ats H ts vs []) (l1 : t.h ≤ 20) (l2 : Tr.hs ts ≤ 20) (h : Q (.bl (decide (t ∈ ts))) H) : rInF K x (.ref a) H Q := ⟨t, ts, a, vs, h1, rfl, h2, h3, l1, l2, h⟩
theorem i_maxL {a : Addr} {ns : List Int} (h1 : SqL K H a (ns.map V.int)) (h2 : 0 < ns.length) (h : ∀ M, M ∈ ns → (∀ a ∈ ns, a ≤ M) → Q (.int M) H) : rMaxL K [.ref a] H Q := ⟨a, ns, rfl, h1, h2, h⟩
theorem i_range1 {n : Nat} (hn : n ≤ 1000000) (h : New H (.rng 0 (n : Nat)) Q) : rRange1 [.int (n : Nat)] H Q := ⟨n, rfl, hn, h⟩
theorem i_listR {a : Addr} {n : Nat} (e : H a = some (.rng 0 (n : Nat))) (hn : n ≤ 1000000) (h : New H (.lst (natsV (List.range n))) Q) : rListR [.ref a] H Q := ⟨a, n, rfl, e, hn, h⟩
end
end L2
namespace L2
open PySem PySem.Spec PyProof.Rows
theorem i_dispIx {K : PySem.W.Frag} {σ : St} {H : Hp} {Q : VK} {i : Nat} {a : Addr} {xs : List V} {k : Key} {y : V} (e : σ[i]? = some (some (.ref a))) (h1 : H a = some (.lst xs)) (h2 : xs[0]? = some (kV k)) (h : New H (.dK [(k, y)]) Q) : tDisp [(tOp (rIxL K) (tVar i) (tC (.int 0)), tC y)] σ H Q := fun p hp => by
  refine ⟨.ref a, e, ?_⟩
  refine i_ixL (SqL.of (show upd H p (.dK []) a = _ by rw [upd_ne (ne_of_none h1 hp)]; exact h1)) (atI_nat (j := 0) h2) ?_
  exact ⟨upd_same, [(k, y)], rfl, by simp, by rw [upd_upd]; exact New.to h p hp⟩
end L2
local macro_rules | `(tactic| walk_at "read") => `(tactic| simp only [L2.tSeq, L2.tAsg, L2.tOp, L2.tUn, L2.rU, L2.tVar, L2.tC, L2.rPlus, L2.rTimes, L2.rI, L2.rI0, L2.tRet, L2.tRetN, L2.gName, L2.tIfS, L2.tTest, L2.rEq, L2.rNe, L2.scal, L2.tNot, L2.tAnd, L2.tOr, L2.tAndV, L2.tOrV, L2.tNotV, L2.tIf, L2.tNext, L2.tDrop,
  L2.tCons, L2.tNil, L2.tCall, L2.tCB, L2.tChain, L2.rStr, L2.tFmt, L2.tJoin, L2.iRng1, L2.iRng2, L2.tFor_def, L2.iList, L2.iTup, L2.iStr, L2.tLst, L2.tTup, L2.tBM, L2.tBM0, L2.tyV, L2.rJoin, L2.rFind, L2.rUpper, L2.rIx, L2.rIxL, L2.rIxT, L2.rIxS, L2.tSl, L2.tNoPart, L2.tPart, L2.rSlL, L2.TruV, L2.LenV, L2.tLC_def, L2.cxOf_K, L2.cxC_K, L2.tNoIf, L2.cSt, L2.capV,
  L2.start, List.map_cons, List.map_nil, List.length_cons, List.length_nil, List.replicate, List.cons_append, List.nil_append, List.append_nil, List.getElem?_cons_zero, List.getElem?_cons_succ, List.set_cons_zero, List.set_cons_succ, Option.some.injEq, Nat.reduceSub, Nat.reduceAdd,
  L2.ex_self_and, L2.ex_some_and, L2.ex_int, L2.ex_str, L2.ex_bl, L2.ex_ref, exists_and_left, exists_eq_left', exists_eq_left, L2.V.int.injEq, L2.V.str.injEq, L2.V.bl.injEq, L2.V.ref.injEq, L2.V.ty.injEq, List.cons.injEq, and_true, true_and, reduceCtorEq, false_and, and_false, exists_false, or_false, false_or, exists_const, Bool.not_true, Bool.not_false, if_true, if_false, ite_true, ite_false, Bool.false_eq_true])
local macro_rules | `(tactic| walk_at "side") => `(tactic| first | exact ⟨by decide, by decide, by decide⟩ | exact ⟨by decide, by decide⟩ | exact .inr (.inr ⟨by decide, by decide⟩) | exact .inr (.inl ⟨by decide, by decide⟩) | decide | omega | exact L2.le_line (by simp only [List.length_cons, List.length_nil]; omega))
local macro_rules | `(tactic| walk_at "step") => `(tactic| first
  | with_reducible refine L2.i_seq ?_ | with_reducible refine L2.i_asg ?_ | ((with_reducible refine L2.i_name ?_); dsimp only [List.set_cons_zero, List.set_cons_succ]) | ((with_reducible refine' L2.i_var ?k ?_); (case k => rfl)) | with_reducible refine L2.i_c ?_ | with_reducible refine L2.i_op ?_
  | with_reducible refine L2.i_un ?_ | with_reducible refine L2.i_rU ?_ | with_reducible refine L2.i_rI0 ?_ | ((with_reducible refine L2.i_rI ?k ?_); (case k => walk_at "side")) | with_reducible refine L2.i_plusI ?_ | ((with_reducible refine L2.i_timesI ?k ?_); (case k => walk_at "side"))
  | with_reducible refine L2.i_eqI ?_ | with_reducible refine L2.i_eqS ?_ | with_reducible refine L2.i_eqB ?_ | with_reducible refine L2.i_neI ?_ | with_reducible refine L2.i_neS ?_ | with_reducible refine L2.i_neB ?_
  | with_reducible refine L2.i_test ?_ | with_reducible refine L2.i_bl ?_ | with_reducible refine L2.i_ifS ?_ | with_reducible refine L2.i_if ?_ | with_reducible refine L2.i_ret ?_ | with_reducible refine L2.i_retN ?_ | with_reducible refine L2.i_next ?_ | with_reducible refine L2.i_drop ?_ | with_reducible refine L2.i_break ?_ | with_reducible refine L2.i_cont ?_
  | with_reducible refine L2.i_cons ?_ | with_reducible refine L2.i_nil ?_ | with_reducible refine L2.i_cb ?_ | (with_reducible refine L2.i_call ?_) | with_reducible refine L2.i_lst ?_ | with_reducible refine L2.i_tup ?_ | with_reducible refine L2.i_not ?_ | with_reducible refine L2.i_noIf ?_ | with_reducible refine L2.i_and ?_ | with_reducible refine L2.i_or ?_
  | with_reducible refine L2.i_andV ?_ | with_reducible refine L2.i_orV ?_ | with_reducible refine L2.i_notV ?_ | with_reducible refine L2.i_strS ?_ | with_reducible refine L2.i_for ?_ | with_reducible refine L2.i_lc ?_ | with_reducible refine L2.i_rng1 ?_ | with_reducible refine L2.i_iList ?_ | with_reducible refine L2.i_iTup ?_ | with_reducible refine L2.i_iStr ?_ | with_reducible refine L2.i_iSeq ?_ | with_reducible refine L2.i_joinC ?_ | with_reducible refine L2.i_fmt ?_ | with_reducible refine L2.i_fmS ?_ | with_reducible refine L2.i_fmI ?_
  | with_reducible refine L2.i_rng ?_ | with_reducible refine L2.i_ref ?_ | with_reducible refine L2.i_sx ?_ | with_reducible refine L2.i_bm ?_ | with_reducible refine L2.i_bm0 ?_ | with_reducible refine L2.i_tyS ?_ | with_reducible refine L2.i_sl ?_ | with_reducible refine L2.i_nopart ?_ | with_reducible refine L2.i_part ?_ | with_reducible refine L2.i_ix1 ?_
  | with_reducible refine L2.i_itT ?_ | with_reducible refine L2.i_itF ?_ | with_reducible refine L2.i_itnT ?_ | with_reducible refine L2.i_itnF ?_ | with_reducible refine L2.i_truB ?_ | with_reducible refine L2.i_chain ?_ | with_reducible refine L2.i_intB ?_ | with_reducible refine L2.i_isB ?_ | with_reducible refine L2.i_gnil ?_ | with_reducible refine L2.i_gcons ?_ | with_reducible refine L2.i_find ?_ | with_reducible refine L2.i_isiS ?_ | with_reducible refine L2.i_isiB ?_ | with_reducible refine L2.i_isiI ?_ | with_reducible refine L2.i_isiIB ?_ | with_reducible refine L2.i_tru ?_ | with_reducible refine L2.i_intI ?_ | with_reducible refine L2.i_inS ?_ | with_reducible refine L2.i_isN ?_ | with_reducible refine L2.i_notN ?_ | with_reducible refine L2.i_enum ?_ | with_reducible refine L2.i_lref ?_ | with_reducible refine L2.i_min2 ?_ | with_reducible refine L2.i_dget ?_ | with_reducible refine L2.i_gsub ?_ | with_reducible refine L2.i_tB ?_ | with_reducible refine L2.i_din ?_ | with_reducible refine L2.i_dnotin ?_ | with_reducible refine L2.i_dput ?_ | with_reducible refine L2.i_dnew ?_ | with_reducible refine L2.i_isTT ?_ | with_reducible refine L2.i_isTF ?_ | with_reducible refine L2.i_isFT ?_ | with_reducible refine L2.i_isFF ?_ | with_reducible refine L2.i_isCr ?_ | with_reducible refine L2.i_zip ?_ | with_reducible refine L2.i_tnew ?_ | with_reducible refine L2.i_tget ?_ | with_reducible refine L2.i_tin ?_ | with_reducible refine L2.i_tnotin ?_ | with_reducible refine L2.i_tput ?_ | with_reducible refine L2.i_tget1 ?_ | with_reducible refine L2.i_tget2 ?_ | with_reducible refine L2.i_tsetd ?_ | with_reducible refine L2.i_fld ?_ | with_reducible refine L2.i_sfld ?_ | with_reducible refine L2.i_meth ?_ | with_reducible refine L2.i_make ?_
  | ((with_reducible refine L2.i_szA ?k ?_); (case k => walk_at "side")) | ((with_reducible refine L2.i_rgA ?k ?l ?_); (case k => walk_at "side"); (case l => walk_at "side")))
local macro_rules | `(tactic| walk_at "run") => `(tactic| (repeat walk_at "step"))
local macro_rules | `(tactic| walk_at "go") => `(tactic| (simp only [L2.start, List.map_cons, List.map_nil, List.length_cons, List.length_nil, List.replicate, List.cons_append, List.nil_append, Nat.reduceSub, Nat.reduceAdd, L2.nox_K, L2.wish_K, L2.cxOf_K, L2.cxC_K]; walk_at "run"))
namespace K51
open PySem L2
def top (i : Nat) : Stmt := PySem.Challenge.pw_callmill_k51_tables_of_tables.main.body.getD i (.Pass ⟨0, 0, 0, 0⟩)
abbrev s_standings : Stmt := top 6
abbrev s_table_of : Stmt := top 8
abbrev s_rows_at : Stmt := top 9
abbrev s_table_paper : Stmt := top 10
abbrev s_room_with : Stmt := top 11
abbrev s_places_by : Stmt := top 12
abbrev s_place_of : Stmt := top 13
abbrev s_TableMachine___init__ : Stmt := inClass (top 14) 0
abbrev s_TableMachine_begin : Stmt := inClass (top 14) 1
abbrev s_TableMachine_step : Stmt := inClass (top 14) 2
abbrev s_TableMachine_over : Stmt := inClass (top 14) 3
abbrev s_TableMachine_values : Stmt := inClass (top 14) 4
abbrev s_law_deck : Stmt := top 16
abbrev s_law_take : Stmt := top 17
abbrev s_law_said : Stmt := top 18
abbrev s_law_events : Stmt := top 19
abbrev s_law_table : Stmt := top 20
abbrev s_law_copied : Stmt := top 21
abbrev s_law_place : Stmt := top 22
abbrev s_law_due : Stmt := top 24
abbrev s_law_lists : Stmt := top 25
abbrev s_law_plain : Stmt := top 26
abbrev s_law_right : Stmt := top 27
abbrev s_law : Stmt := top 28
theorem sc_standings : FnScope ["machine", "events", "found", "known", "place", "event", "standing"] ["machine", "events"] (defScope s_standings) := ⟨rfl, rfl, rfl, by decide +kernel, rfl, by decide +kernel, by decide +kernel⟩
theorem sc_table_of : FnScope ["machine", "events", "found", "numbers", "rooms"] ["machine", "events"] (defScope s_table_of) := ⟨rfl, rfl, rfl, by decide +kernel, rfl, by decide +kernel, by decide +kernel⟩
theorem sc_rows_at : FnScope ["machine", "standing", "events", "numbers", "rows", "event", "told"] ["machine", "standing", "events", "numbers"] (defScope s_rows_at) := ⟨rfl, rfl, rfl, by decide +kernel, rfl, by decide +kernel, by decide +kernel⟩
theorem sc_table_paper : FnScope ["machine", "events"] ["machine", "events"] (defScope s_table_paper) := ⟨rfl, rfl, rfl, by decide +kernel, rfl, by decide +kernel, by decide +kernel⟩
theorem sc_room_with : FnScope ["room", "numbers"] ["room", "numbers"] (defScope s_room_with) := ⟨rfl, rfl, rfl, by decide +kernel, rfl, by decide +kernel, by decide +kernel⟩
theorem sc_places_by : FnScope ["events", "places", "place", "event"] ["events"] (defScope s_places_by) := ⟨rfl, rfl, rfl, by decide +kernel, rfl, by decide +kernel, by decide +kernel⟩
theorem sc_place_of : FnScope ["places", "event"] ["places", "event"] (defScope s_place_of) := ⟨rfl, rfl, rfl, by decide +kernel, rfl, by decide +kernel, by decide +kernel⟩
theorem sc_TableMachine___init__ : FnScope ["self", "table", "same"] ["self", "table"] (defScope s_TableMachine___init__) := ⟨rfl, rfl, rfl, by decide +kernel, rfl, by decide +kernel, by decide +kernel⟩
theorem sc_TableMachine_begin : FnScope ["self"] ["self"] (defScope s_TableMachine_begin) := ⟨rfl, rfl, rfl, by decide +kernel, rfl, by decide +kernel, by decide +kernel⟩
theorem sc_TableMachine_step : FnScope ["self", "standing", "event", "row"] ["self", "standing", "event"] (defScope s_TableMachine_step) := ⟨rfl, rfl, rfl, by decide +kernel, rfl, by decide +kernel, by decide +kernel⟩
theorem sc_TableMachine_over : FnScope ["self", "standing"] ["self", "standing"] (defScope s_TableMachine_over) := ⟨rfl, rfl, rfl, by decide +kernel, rfl, by decide +kernel, by decide +kernel⟩
theorem sc_law_deck : FnScope ["script"] ["script"] (defScope s_law_deck) := ⟨rfl, rfl, rfl, by decide +kernel, rfl, by decide +kernel, by decide +kernel⟩
theorem sc_law_take : FnScope ["deck", "many", "at", "place", "found", "number"] ["deck", "many"] (defScope s_law_take) := ⟨rfl, rfl, rfl, by decide +kernel, rfl, by decide +kernel, by decide +kernel⟩
theorem sc_law_said : FnScope ["deck", "texts"] ["deck"] (defScope s_law_said) := ⟨rfl, rfl, rfl, by decide +kernel, rfl, by decide +kernel, by decide +kernel⟩
theorem sc_law_events : FnScope ["deck", "keys", "words"] ["deck"] (defScope s_law_events) := ⟨rfl, rfl, rfl, by decide +kernel, rfl, by decide +kernel, by decide +kernel⟩
theorem sc_law_table : FnScope ["deck", "events", "saying", "many", "rooms", "room"] ["deck"] (defScope s_law_table) := ⟨rfl, rfl, rfl, by decide +kernel, rfl, by decide +kernel, by decide +kernel⟩
theorem sc_law_copied : FnScope ["table", "rooms"] ["table"] (defScope s_law_copied) := ⟨rfl, rfl, rfl, by decide +kernel, rfl, by decide +kernel, by decide +kernel⟩
theorem sc_law_place : FnScope ["events", "event", "some"] ["events", "event"] (defScope s_law_place) := ⟨rfl, rfl, rfl, by decide +kernel, rfl, by decide +kernel, by decide +kernel⟩
theorem sc_law_due : FnScope ["table", "events", "places", "found", "at", "place", "there", "rooms", "room", "over", "rows"] ["table", "events"] (defScope s_law_due) := ⟨rfl, rfl, rfl, by decide +kernel, rfl, by decide +kernel, by decide +kernel⟩
theorem sc_law_lists : FnScope ["table", "lists", "over", "rows"] ["table"] (defScope s_law_lists) := ⟨rfl, rfl, rfl, by decide +kernel, rfl, by decide +kernel, by decide +kernel⟩
theorem sc_law_plain : FnScope ["table", "over", "rows"] ["table"] (defScope s_law_plain) := ⟨rfl, rfl, rfl, by decide +kernel, rfl, by decide +kernel, by decide +kernel⟩
theorem sc_law_right : FnScope ["machine", "table", "events", "due", "found", "handed", "told", "paper", "lists", "sizes", "some"] ["machine", "table", "events"] (defScope s_law_right) := ⟨rfl, rfl, rfl, by decide +kernel, rfl, by decide +kernel, by decide +kernel⟩
theorem sc_law : FnScope ["script", "deck", "table", "machine"] ["script"] (defScope s_law) := ⟨rfl, rfl, rfl, by decide +kernel, rfl, by decide +kernel, by decide +kernel⟩
structure Adr where
  a_standings : Addr
  fd_standings : FuncData
  a_table_of : Addr
  fd_table_of : FuncData
  a_rows_at : Addr
  fd_rows_at : FuncData
  a_table_paper : Addr
  fd_table_paper : FuncData
  a_room_with : Addr
  fd_room_with : FuncData
  a_places_by : Addr
  fd_places_by : FuncData
  a_place_of : Addr
  fd_place_of : FuncData
  a_TableMachine___init__ : Addr
  fd_TableMachine___init__ : FuncData
  a_TableMachine_begin : Addr
  fd_TableMachine_begin : FuncData
  a_TableMachine_step : Addr
  fd_TableMachine_step : FuncData
  a_TableMachine_over : Addr
  fd_TableMachine_over : FuncData
  a_TableMachine_values : Addr
  fd_TableMachine_values : FuncData
  a__law_deck : Addr
  fd__law_deck : FuncData
  a__law_take : Addr
  fd__law_take : FuncData
  a__law_said : Addr
  fd__law_said : FuncData
  a__law_events : Addr
  fd__law_events : FuncData
  a__law_table : Addr
  fd__law_table : FuncData
  a__law_copied : Addr
  fd__law_copied : FuncData
  a__law_place : Addr
  fd__law_place : FuncData
  a__law_due : Addr
  fd__law_due : FuncData
  a__law_lists : Addr
  fd__law_lists : FuncData
  a__law_plain : Addr
  fd__law_plain : FuncData
  a__law_right : Addr
  fd__law_right : FuncData
  a_law : Addr
  fd_law : FuncData
  c_MillError : Addr
  c_TooMany : Addr
  c_Machine : Addr
  c_TableMachine : Addr
  u_MOST_STANDINGS : Value
structure Txt (K : PySem.W.Frag) (mg : Str → Option Value) (t : Adr) : Prop where
  F_standings : Fun K "standings" "standings" s_standings t.a_standings t.fd_standings
  m_standings : mg "standings" = some (.ref t.a_standings)
  b_standings : Binds K t.fd_standings ["machine", "events"] []
  F_table_of : Fun K "table_of" "table_of" s_table_of t.a_table_of t.fd_table_of
  m_table_of : mg "table_of" = some (.ref t.a_table_of)
  b_table_of : Binds K t.fd_table_of ["machine", "events"] []
  F_rows_at : Fun K "rows_at" "rows_at" s_rows_at t.a_rows_at t.fd_rows_at
  m_rows_at : mg "rows_at" = some (.ref t.a_rows_at)
  b_rows_at : Binds K t.fd_rows_at ["machine", "standing", "events", "numbers"] []
  F_table_paper : Fun K "table_paper" "table_paper" s_table_paper t.a_table_paper t.fd_table_paper
  m_table_paper : mg "table_paper" = some (.ref t.a_table_paper)
  b_table_paper : Binds K t.fd_table_paper ["machine", "events"] []
  F_room_with : Fun K "room_with" "room_with" s_room_with t.a_room_with t.fd_room_with
  m_room_with : mg "room_with" = some (.ref t.a_room_with)
  b_room_with : Binds K t.fd_room_with ["room", "numbers"] []
  F_places_by : Fun K "places_by" "places_by" s_places_by t.a_places_by t.fd_places_by
  m_places_by : mg "places_by" = some (.ref t.a_places_by)
  b_places_by : Binds K t.fd_places_by ["events"] []
  F_place_of : Fun K "place_of" "place_of" s_place_of t.a_place_of t.fd_place_of
  m_place_of : mg "place_of" = some (.ref t.a_place_of)
  b_place_of : Binds K t.fd_place_of ["places", "event"] []
  F_TableMachine___init__ : Fun K "__init__" "TableMachine.__init__" s_TableMachine___init__ t.a_TableMachine___init__ t.fd_TableMachine___init__
  b_TableMachine___init__ : Binds K t.fd_TableMachine___init__ ["self", "table"] []
  F_TableMachine_begin : Fun K "begin" "TableMachine.begin" s_TableMachine_begin t.a_TableMachine_begin t.fd_TableMachine_begin
  M_TableMachine_begin : Meth K t.c_TableMachine "begin" t.a_TableMachine_begin
  b_TableMachine_begin : Binds K t.fd_TableMachine_begin ["self"] []
  F_TableMachine_step : Fun K "step" "TableMachine.step" s_TableMachine_step t.a_TableMachine_step t.fd_TableMachine_step
  M_TableMachine_step : Meth K t.c_TableMachine "step" t.a_TableMachine_step
  b_TableMachine_step : Binds K t.fd_TableMachine_step ["self", "standing", "event"] []
  F_TableMachine_over : Fun K "over" "TableMachine.over" s_TableMachine_over t.a_TableMachine_over t.fd_TableMachine_over
  M_TableMachine_over : Meth K t.c_TableMachine "over" t.a_TableMachine_over
  b_TableMachine_over : Binds K t.fd_TableMachine_over ["self", "standing"] []
  F_TableMachine_values : Fun K "values" "TableMachine.values" s_TableMachine_values t.a_TableMachine_values t.fd_TableMachine_values
  M_TableMachine_values : Meth K t.c_TableMachine "values" t.a_TableMachine_values
  b_TableMachine_values : Binds K t.fd_TableMachine_values ["self", "standing"] []
  F__law_deck : Fun K "_law_deck" "_law_deck" s_law_deck t.a__law_deck t.fd__law_deck
  m__law_deck : mg "_law_deck" = some (.ref t.a__law_deck)
  b__law_deck : Binds K t.fd__law_deck ["script"] []
  F__law_take : Fun K "_law_take" "_law_take" s_law_take t.a__law_take t.fd__law_take
  m__law_take : mg "_law_take" = some (.ref t.a__law_take)
  b__law_take : Binds K t.fd__law_take ["deck", "many"] []
  F__law_said : Fun K "_law_said" "_law_said" s_law_said t.a__law_said t.fd__law_said
  m__law_said : mg "_law_said" = some (.ref t.a__law_said)
  b__law_said : Binds K t.fd__law_said ["deck"] []
  F__law_events : Fun K "_law_events" "_law_events" s_law_events t.a__law_events t.fd__law_events
  m__law_events : mg "_law_events" = some (.ref t.a__law_events)
  b__law_events : Binds K t.fd__law_events ["deck"] []
  F__law_table : Fun K "_law_table" "_law_table" s_law_table t.a__law_table t.fd__law_table
  m__law_table : mg "_law_table" = some (.ref t.a__law_table)
  b__law_table : Binds K t.fd__law_table ["deck"] []
  F__law_copied : Fun K "_law_copied" "_law_copied" s_law_copied t.a__law_copied t.fd__law_copied
  m__law_copied : mg "_law_copied" = some (.ref t.a__law_copied)
  b__law_copied : Binds K t.fd__law_copied ["table"] []
  F__law_place : Fun K "_law_place" "_law_place" s_law_place t.a__law_place t.fd__law_place
  m__law_place : mg "_law_place" = some (.ref t.a__law_place)
  b__law_place : Binds K t.fd__law_place ["events", "event"] []
  F__law_due : Fun K "_law_due" "_law_due" s_law_due t.a__law_due t.fd__law_due
  m__law_due : mg "_law_due" = some (.ref t.a__law_due)
  b__law_due : Binds K t.fd__law_due ["table", "events"] []
  F__law_lists : Fun K "_law_lists" "_law_lists" s_law_lists t.a__law_lists t.fd__law_lists
  m__law_lists : mg "_law_lists" = some (.ref t.a__law_lists)
  b__law_lists : Binds K t.fd__law_lists ["table"] []
  F__law_plain : Fun K "_law_plain" "_law_plain" s_law_plain t.a__law_plain t.fd__law_plain
  m__law_plain : mg "_law_plain" = some (.ref t.a__law_plain)
  b__law_plain : Binds K t.fd__law_plain ["table"] []
  F__law_right : Fun K "_law_right" "_law_right" s_law_right t.a__law_right t.fd__law_right
  m__law_right : mg "_law_right" = some (.ref t.a__law_right)
  b__law_right : Binds K t.fd__law_right ["machine", "table", "events"] []
  F_law : Fun K "law" "law" s_law t.a_law t.fd_law
  m_law : mg "law" = some (.ref t.a_law)
  b_law : Binds K t.fd_law ["script"] []
  m_MillError : mg "MillError" = some (.ref t.c_MillError)
  m_TooMany : mg "TooMany" = some (.ref t.c_TooMany)
  m_Machine : mg "Machine" = some (.ref t.c_Machine)
  m_TableMachine : mg "TableMachine" = some (.ref t.c_TableMachine)
  cl_TableMachine : Cls K t.c_TableMachine
  mk_TableMachine : Mk K t.c_TableMachine t.a_TableMachine___init__
  n_TableMachine_places : NoAttr K t.c_TableMachine "places"
  n_TableMachine_rooms : NoAttr K t.c_TableMachine "rooms"
  n_TableMachine_saying : NoAttr K t.c_TableMachine "saying"
  z_bool : mg "bool" = none
  z_dict : mg "dict" = none
  z_enumerate : mg "enumerate" = none
  z_isinstance : mg "isinstance" = none
  z_len : mg "len" = none
  z_list : mg "list" = none
  z_max : mg "max" = none
  z_range : mg "range" = none
  z_sum : mg "sum" = none
  z_tuple : mg "tuple" = none
  m_MOST_STANDINGS : mg "MOST_STANDINGS" = some t.u_MOST_STANDINGS
  r_MOST_STANDINGS : RelV (.int 2000) t.u_MOST_STANDINGS
section
variable {P : Program} {w : World} {K : PySem.W.Frag} {mg : Str → Option Value} {base : Heap} {t : Adr}
def sp_deck (K : PySem.W.Frag) : Sp := fun vs H Q _ => ∃ (a : Addr) (ns : List Int), vs = [.ref a] ∧ SqL K H a (ns.map V.int) ∧ ns.length ≤ 63 ∧ ∀ d l H', H d = none → H l = none → Same H H' → Deck H' d l 0 → Q (.ref d) H'
theorem ok_law_deck (T : Txt K mg t) : FnOk P w K mg base CX0 1 t.a__law_deck t.fd__law_deck ["script"] (sp_deck K) := by
  refine T.F__law_deck.ok sc_law_deck (fun vs H Q E h => ?_) (fun cdv A outer s H vs Q E hr h => ?_)
  · obtain ⟨a, ns, rfl, _⟩ := h
    rfl
  · obtain ⟨a, ns, rfl, hS, hl, q⟩ := h
    refine ⟨_, (@pss_one _ _ _ (@ps_ret _ _ _ _ (@pe_lstN _ _ _ _ (@pa_cons _ _ _ _ _ (pe_lc (Nt := ["cell"]) (Nf := []) (caps := []) rfl (comp_ok (sc := defScope s_law_deck) rfl rfl (by decide +kernel) (by decide +kernel) (by decide +kernel) rfl (by decide +kernel)) (kpi_list K (@pe_slice _ _ _ _ _ _ _ _ _ _ (ksl_list K) (pv 0) (@po_none _) (@po_some _ _ _ (@pe_int _ _ _ _)))) (fun _ _ _ _ _ => (pg_name (i := 0) (show (["cell"] : List Str).Nodup by decide +kernel) rfl (by first | exact Or.inl rfl | exact Or.inr rfl))) (fun _ _ _ _ _ => (@pts_nil _)) (fun _ _ _ _ _ => (@pe_op _ _ _ _ _ _ _ _ op_fdiv (pv 0) (@pe_int _ _ _ _)))) (@pa_cons _ _ _ _ _ (@pe_int _ _ _ _) (@pa_cons _ _ _ _ _ (@pe_op _ _ _ _ _ _ _ _ op_mod (@pe_callB _ _ _ _ _ _ _ _ _ (kcl_sum K) (by rfl) T.z_sum bb_sum (@pa_cons _ _ _ _ _ (@pe_slice _ _ _ _ _ _ _ _ _ _ (ksl_list K) (pv 0) (@po_none _) (@po_some _ _ _ (@pe_int _ _ _ _))) (@pa_nil _) (by rfl)) (by decide) (by decide) (by rfl) (by rfl)) (@pe_int _ _ _ _)) (@pa_nil _) (by rfl)) (by rfl)) (by rfl))))), ?_⟩
    walk_at "go"
    refine i_slL hS ?_
    intro p1 H1 f1 s1 e1
    rw [show cutV (ns.map V.int) none (some 63) = (ns.take 63).map V.int from cut_to (k := 63)] at e1
    have hls : (ns.take 63).length ≤ 63 := by simp; omega
    generalize ns.take 63 = ls at e1 hls
    refine ⟨p1, rfl, ⟨_, SqL.of e1⟩, cc_list (xs := ls.map V.int) (le_line (by simp; omega)) (fun i acc H' => H' = H1 ∧ i ≤ ls.length ∧ acc = (ls.take i).map (fun z => V.int (z / 2))) ⟨rfl, Nat.zero_le _, rfl⟩ (fun i acc H' ⟨e0, hi, e⟩ => ⟨by rw [e]; simp only [List.length_map, List.length_take]; omega, e0 ▸ SqL.of e1⟩) ?_ ?_⟩
    · rintro i x acc H' hx ⟨rfl, hi, rfl⟩
      obtain ⟨z, hz, rfl⟩ : ∃ z, ls[i]? = some z ∧ x = V.int z := by
        rw [List.getElem?_map] at hx
        obtain ⟨z, hz, rfl⟩ := Option.map_eq_some_iff.mp hx
        exact ⟨z, hz, rfl⟩
      walk_at "run"
      refine ⟨rfl, (List.getElem?_eq_some_iff.mp hz).1, ?_⟩
      rw [List.take_add_one, hz]
      simp
    · rintro acc H' ⟨rfl, _, rfl⟩
      intro p2 H2 f2 s2 e2
      walk_at "run"
      refine i_slL ((s1.trans s2).seq hS) ?_
      intro p3 H3 f3 s3 e3
      rw [show cutV (ns.map V.int) none (some 1) = (ns.take 1).map V.int from cut_to (k := 1)] at e3
      walk_at "run"
      refine i_sum (SqL.of e3) ?_
      walk_at "run"
      intro p4 H4 f4 s4 e4
      have s14 := s1.trans (s2.trans (s3.trans s4))
      refine q p4 p2 H4 ((s1.trans (s2.trans s3)).free f4) (s1.free f2) s14 ⟨ls.map (· / 2), _, e4, ?_, by simp; omega⟩
      have := (s3.trans s4) _ _ e2
      rw [this, List.length_map, List.take_length, List.map_map]
      rfl
def sp_take (K : PySem.W.Frag) : Sp := fun vs H Q _ => ∃ (d l : Addr) (n m : Nat), vs = [.ref d, .int (m : Nat)] ∧ Deck H d l n ∧ 0 < m ∧ m ≤ 1000 ∧ n ≤ 100000 ∧ ∀ (r : Nat) H', r < m → Off d l H H' → Deck H' d l (n + 1) → Q (.int (r : Nat)) H'
theorem mod_nat (x : Int) {m : Nat} (h : 0 < m) : ∃ r : Nat, r < m ∧ x % (m : Int) = (r : Nat) := ⟨(x % (m : Int)).toNat, by
  have h1 := Int.emod_nonneg x (show (m : Int) ≠ 0 by omega)
  have h2 := Int.emod_lt_of_pos x (show (0 : Int) < (m : Int) by omega)
  omega, by
  have h1 := Int.emod_nonneg x (show (m : Int) ≠ 0 by omega)
  omega⟩
theorem cb {i j : Int} (h1 : -1000000000000000000 < i) (h2 : i < 1000000000000000000) : CBig i j := .inr (.inl ⟨by omega, by omega⟩)
theorem off_upd {H : Hp} {d l : Addr} {o : HO} : Off d l H (upd H d o) := fun b u h1 _ e => by rw [upd_ne h1]; exact e
theorem ok_law_take (T : Txt K mg t) : FnOk P w K mg base CX0 1 t.a__law_take t.fd__law_take ["deck", "many"] (sp_take K) := by
  refine T.F__law_take.ok sc_law_take (fun vs H Q E h => ?_) (fun cdv A outer s H vs Q E hr h => ?_)
  · obtain ⟨d, l, n, m, rfl, _⟩ := h
    rfl
  · obtain ⟨d, l, n, m, rfl, k, hm, hm2, hn, q⟩ := h
    refine ⟨_, (@pss_cons _ _ _ _ _ (@ps_set _ _ 2 _ _ _ _ sc_law_take.nd rfl (by first | exact Or.inl rfl | exact Or.inr rfl) (@pe_ix _ _ _ _ _ _ _ (kix_list K) (pv 0) (@pe_int _ _ _ _) (fun _ _ => rfl)) (by rfl) (by first | exact Or.inl rfl | exact Or.inr rfl))
      (@pss_cons _ _ _ _ _ (@ps_asg _ _ _ _ _ _ (@pe_op _ _ _ _ _ _ _ _ op_plus (pv 2) (@pe_int _ _ _ _)) (pg_sub (pv 0) (@pe_int _ _ _ _) set_list) (by rfl) (by rfl) (by rfl))
      (@pss_cons _ _ _ _ _ (@ps_if _ _ _ _ _ _ _ _ (@pt_cmpR _ _ _ _ _ _ _ _ (kop_eqNil K (by exact hr.units)) (@pe_ix _ _ _ _ _ _ _ (kix_list K) (pv 0) (@pe_int _ _ _ _) (fun _ _ => rfl)) (@pe_lstN _ _ _ _ (@pa_nil _)) (nomark _)) (@pss_one _ _ _ (@ps_ret _ _ _ _ (@pe_op _ _ _ _ _ _ _ _ op_mod (@pe_op _ _ _ _ _ _ _ _ op_plus (@pe_op _ _ _ _ _ _ _ _ op_times (@pe_op _ _ _ _ _ _ _ _ op_times (pv 2) (pv 2)) (@pe_int _ _ _ _)) (@pe_op _ _ _ _ _ _ _ _ op_fdiv (pv 2) (@pe_int _ _ _ _))) (pv 1)))) (@pss_nil _))
      (@pss_cons _ _ _ _ _ (@ps_set _ _ 3 _ _ _ _ sc_law_take.nd rfl (by first | exact Or.inl rfl | exact Or.inr rfl) (@pe_op _ _ _ _ _ _ _ _ op_mod (pv 2) (@pe_callB _ _ _ _ _ _ _ _ _ (kcl_len K) (by rfl) T.z_len bb_len (@pa_cons _ _ _ _ _ (@pe_ix _ _ _ _ _ _ _ (kix_list K) (pv 0) (@pe_int _ _ _ _) (fun _ _ => rfl)) (@pa_nil _) (by rfl)) (by decide) (by decide) (by rfl) (by rfl))) (by rfl) (by first | exact Or.inl rfl | exact Or.inr rfl))
      (@pss_cons _ _ _ _ _ (@ps_if _ _ _ _ _ _ _ _ (@pt_cmpR _ _ _ _ _ _ _ _ op_eq (@pe_ix _ _ _ _ _ _ _ (kix_list K) (pv 0) (@pe_int _ _ _ _) (fun _ _ => rfl)) (@pe_int _ _ _ _) (nomark _)) (@pss_cons _ _ _ _ _ (@ps_set _ _ 4 _ _ _ _ sc_law_take.nd rfl (by first | exact Or.inl rfl | exact Or.inr rfl) (@pe_op _ _ _ _ _ _ _ _ op_mod (@pe_ix _ _ _ _ _ _ _ (kix_list K) (@pe_ix _ _ _ _ _ _ _ (kix_list K) (pv 0) (@pe_int _ _ _ _) (fun _ _ => rfl)) (pv 3) (fun _ _ => rfl)) (pv 1)) (by rfl) (by first | exact Or.inl rfl | exact Or.inr rfl))
        (@pss_cons _ _ _ _ _ (@ps_asg _ _ _ _ _ _ (@pe_op _ _ _ _ _ _ _ _ op_fdiv (@pe_ix _ _ _ _ _ _ _ (kix_list K) (@pe_ix _ _ _ _ _ _ _ (kix_list K) (pv 0) (@pe_int _ _ _ _) (fun _ _ => rfl)) (pv 3) (fun _ _ => rfl)) (pv 1)) (pg_sub (@pe_ix _ _ _ _ _ _ _ (kix_list K) (pv 0) (@pe_int _ _ _ _) (fun _ _ => rfl)) (pv 3) set_list) (by rfl) (by rfl) (by rfl))
        (@pss_one _ _ _ (@ps_ret _ _ _ _ (pv 4))))) (@pss_nil _))
      (@pss_cons _ _ _ _ _ (@ps_set _ _ 5 _ _ _ _ sc_law_take.nd rfl (by first | exact Or.inl rfl | exact Or.inr rfl) (@pe_op _ _ _ _ _ _ _ _ op_mod (@pe_op _ _ _ _ _ _ _ _ op_times (@pe_op _ _ _ _ _ _ _ _ op_plus (@pe_op _ _ _ _ _ _ _ _ op_mod (@pe_ix _ _ _ _ _ _ _ (kix_list K) (@pe_ix _ _ _ _ _ _ _ (kix_list K) (pv 0) (@pe_int _ _ _ _) (fun _ _ => rfl)) (pv 3) (fun _ _ => rfl)) (@pe_int _ _ _ _)) (@pe_op _ _ _ _ _ _ _ _ op_times (@pe_int _ _ _ _) (@pe_op _ _ _ _ _ _ _ _ op_plus (pv 2) (@pe_int _ _ _ _)))) (@pe_int _ _ _ _)) (@pe_int _ _ _ _)) (by rfl) (by first | exact Or.inl rfl | exact Or.inr rfl))
      (@pss_cons _ _ _ _ _ (@ps_set _ _ 5 _ _ _ _ sc_law_take.nd rfl (by first | exact Or.inl rfl | exact Or.inr rfl) (@pe_op _ _ _ _ _ _ _ _ op_mod (@pe_op _ _ _ _ _ _ _ _ op_times (pv 5) (pv 5)) (@pe_int _ _ _ _)) (by rfl) (by first | exact Or.inl rfl | exact Or.inr rfl))
      (@pss_one _ _ _ (@ps_ret _ _ _ _ (@pe_op _ _ _ _ _ _ _ _ op_mod (@pe_op _ _ _ _ _ _ _ _ op_fdiv (@pe_op _ _ _ _ _ _ _ _ op_mod (@pe_op _ _ _ _ _ _ _ _ op_times (pv 5) (@pe_int _ _ _ _)) (@pe_int _ _ _ _)) (@pe_int _ _ _ _)) (pv 1))))))))))), ?_⟩
    have hne := k.ne
    obtain ⟨ms, z, h1, h2, h3⟩ := k.ex
    walk_at "go"
    refine i_ixL (SqL.of h1) (atI_nat (j := 1) rfl) ?_
    walk_at "run"
    refine i_setL h1 (j := 1) rfl ?_
    have h2' : upd H d (.lst ([V.ref l, V.int (n : Nat), V.int z].set 1 (V.int ((n : Int) + 1)))) l = some (.lst (ms.map V.int)) := by rw [upd_ne (Ne.symm hne)]; exact h2
    have hD : Deck (upd H d (.lst ([V.ref l, V.int (n : Nat), V.int z].set 1 (V.int ((n : Int) + 1))))) d l (n + 1) := ⟨ms, z, upd_same, h2', h3⟩
    have oD : Off d l H (upd H d (.lst ([V.ref l, V.int (n : Nat), V.int z].set 1 (V.int ((n : Int) + 1))))) := off_upd
    have h1' : upd H d (.lst ([V.ref l, V.int (n : Nat), V.int z].set 1 (V.int ((n : Int) + 1)))) d = some (.lst [V.ref l, V.int ((n : Int) + 1), V.int z]) := upd_same
    generalize upd H d (.lst ([V.ref l, V.int (n : Nat), V.int z].set 1 (V.int ((n : Int) + 1)))) = H1 at h2' hD oD h1'
    walk_at "run"
    refine i_ixL (SqL.of h1') (atI_nat (j := 0) rfl) ?_
    walk_at "run"
    intro p2 H2 f2 s2 e2
    refine i_eqNil (SqL.of (s2 _ _ h2')) (SqL.of e2) ?_
    walk_at "run"
    cases hms : ms with
    | nil =>
      refine i_itT ?_
      walk_at "run"
      refine i_timesI (cb (by omega) (by omega)) ?_
      walk_at "run"
      obtain ⟨r, hr, e⟩ := mod_nat (((n : Int) * n * 7 + n / 3)) hm
      rw [e]
      exact q r H2 hr (oD.trans s2.off) (hD.same s2)
    | cons m0 mr =>
      refine i_itF ?_
      have hlen : 0 < ms.length := by rw [hms]; simp
      walk_at "run"
      refine i_ixL (SqL.of (s2 _ _ h1')) (atI_nat (j := 0) rfl) ?_
      walk_at "run"
      refine i_lenL (SqL.of (s2 _ _ h2')) ?_
      rw [List.length_map]
      walk_at "run"
      obtain ⟨p, hp, ep⟩ := mod_nat (n : Int) hlen
      rw [ep]
      have hat : atI (ms.map V.int) (p : Nat) = some (.int ms[p]) := atI_nat (by simp [hp])
      refine i_ixL (SqL.of (s2 _ _ h1')) (atI_nat (j := 2) rfl) ?_
      walk_at "run"
      refine ite2 (fun hc => ?_) (fun hc => ?_)
      · walk_at "run"
        refine i_ixL (SqL.of (s2 _ _ h1')) (atI_nat (j := 0) rfl) ?_
        walk_at "run"
        refine i_ixL (SqL.of (s2 _ _ h2')) hat ?_
        walk_at "run"
        obtain ⟨r, hr, e⟩ := mod_nat ms[p] hm
        rw [e]
        refine i_ixL (SqL.of (s2 _ _ h1')) (atI_nat (j := 0) rfl) ?_
        walk_at "run"
        refine i_ixL (SqL.of (s2 _ _ h2')) hat ?_
        walk_at "run"
        refine i_rI (show CDiv _ _ from ⟨by omega, by omega⟩) ?_
        walk_at "run"
        refine i_ixL (SqL.of (s2 _ _ h1')) (atI_nat (j := 0) rfl) ?_
        walk_at "run"
        refine i_setL (s2 _ _ h2') (j := p) (by unfold ixN; rw [if_pos (by omega), if_pos (by simp; omega)]; simp) ?_
        walk_at "run"
        refine q r _ hr ?_ ⟨ms.set p (ms[p] / (m : Nat)), z, ?_, ?_, by simpa using h3⟩
        · intro b o b1 b2 e
          rw [upd_ne b2]
          exact s2 _ _ (oD b o b1 b2 e)
        · rw [upd_ne hne]
          exact s2 _ _ h1'
        · rw [upd_same, List.map_set]
      · walk_at "run"
        refine i_ixL (SqL.of (s2 _ _ h1')) (atI_nat (j := 0) rfl) ?_
        walk_at "run"
        refine i_ixL (SqL.of (s2 _ _ h2')) hat ?_
        walk_at "run"
        have b1 := Int.emod_nonneg ((ms[p] % 2147483629 + 62233 * ((n : Int) + 1)) * 48271) (show (2147483629 : Int) ≠ 0 by decide)
        have b2 := Int.emod_lt_of_pos ((ms[p] % 2147483629 + 62233 * ((n : Int) + 1)) * 48271) (show (0 : Int) < 2147483629 by decide)
        refine i_timesI (cb (by omega) (by omega)) ?_
        walk_at "run"
        generalize ((ms[p] % 2147483629 + 62233 * ((n : Int) + 1)) * 48271) % 2147483629 = y
        obtain ⟨r, hr, e⟩ := mod_nat (y * y % 2147483587 * 69621 % 2147483579 / 8) hm
        rw [e]
        exact q r H2 hr (oD.trans s2.off) (hD.same s2)
inductive Ev where
  | quiet
  | key (k : Nat)
  | word (w : Str)
def Ev.kind : Ev → Str
  | .quiet => "quiet"
  | .key _ => "key"
  | .word _ => "word"
def Ev.tr : Ev → Tr
  | .quiet => .tup [.str "quiet"]
  | .key k => .tup [.str "key", .int (k : Nat)]
  | .word w => .tup [.str "word", .str w]
theorem Ev.tr_inj {a b : Ev} (h : a.tr = b.tr) : a = b := by
  cases a <;> cases b <;> simp [Ev.tr] at h ⊢ <;> first | exact h | omega | (exact h.2) | skip
theorem Ev.tr_h (a : Ev) : a.tr.h ≤ 1 := by cases a <;> simp [Ev.tr, Tr.h, Tr.hs]
theorem ats_get0 {H : Hp} {xs : List Tr} {vs : List V} (h : Tr.Ats H xs vs []) {i : Nat} {v : V} (e : vs[i]? = some v) : ∃ x, xs[i]? = some x ∧ x.At H v [] := by
  obtain ⟨x, f, h1, h2, h3⟩ := h.get i v e
  have : f = [] := List.eq_nil_iff_forall_not_mem.mpr fun a m => by simpa using h3 a m
  subst this
  exact ⟨x, h1, h2⟩
theorem ev_at {H : Hp} {e : Ev} {v : V} (h : e.tr.At H v []) : ∃ a xs, v = .ref a ∧ H a = some (.tup (V.str e.kind :: xs)) := by
  cases e with
  | quiet =>
    obtain ⟨a, vs, rfl, e2, h⟩ := at_tup0.mp h
    obtain ⟨u, w1, rfl, a1, h⟩ := ats_cons0.mp h
    cases at_str0.mp a1
    exact ⟨a, _, rfl, e2⟩
  | key k =>
    obtain ⟨a, vs, rfl, e2, h⟩ := at_tup0.mp h
    obtain ⟨u, w1, rfl, a1, h⟩ := ats_cons0.mp h
    cases at_str0.mp a1
    exact ⟨a, _, rfl, e2⟩
  | word w =>
    obtain ⟨a, vs, rfl, e2, h⟩ := at_tup0.mp h
    obtain ⟨u, w1, rfl, a1, h⟩ := ats_cons0.mp h
    cases at_str0.mp a1
    exact ⟨a, _, rfl, e2⟩
noncomputable def plc : List Ev → Nat → List (Tr × V) → List (Tr × V)
  | [], _, kvs => kvs
  | e :: es, n, kvs => plc es (n + 1) (putK (putK kvs e.tr (.int (n : Nat))) (.str e.kind) (.int (n : Nat)))
theorem plc_snoc : ∀ (es : List Ev) (n : Nat) (kvs : List (Tr × V)) (e : Ev), plc (es ++ [e]) n kvs = putK (putK (plc es n kvs) e.tr (.int ((n + es.length : Nat) : Int))) (.str e.kind) (.int ((n + es.length : Nat) : Int))
  | [], n, kvs, e => rfl
  | x :: xs, n, kvs, e => by
    show plc (xs ++ [e]) (n + 1) _ = _
    rw [plc_snoc xs (n + 1), show n + 1 + xs.length = n + (x :: xs).length by simp; omega]
    rfl
theorem plc_len : ∀ (es : List Ev) (n : Nat) (kvs : List (Tr × V)), (plc es n kvs).length ≤ kvs.length + 2 * es.length
  | [], n, kvs => Nat.le_refl _
  | x :: xs, n, kvs => by
    refine Nat.le_trans (plc_len xs (n + 1) _) ?_
    have h1 := length_putK kvs x.tr (.int (n : Nat))
    have h2 := length_putK (putK kvs x.tr (.int (n : Nat))) (.str x.kind) (.int (n : Nat))
    simp only [List.length_cons]
    omega
def sp_places (K : PySem.W.Frag) (P : Params) : Sp := fun vs H Q _ => ∃ (a : Addr) (us : List V) (es : List Ev), vs = [.ref a] ∧ H a = some (.lst us) ∧ Tr.Ats H (es.map Ev.tr) us [] ∧ es.length ≤ 1000 ∧ ∀ d H', H d = none → Same H H' → DtAt P H' d (plc es 0 []) → Q (.ref d) H'
theorem ok_places_by (T : Txt K mg t) : FnOk P w K mg base CX0 1 t.a_places_by t.fd_places_by ["events"] (sp_places K w.params) := by
  refine T.F_places_by.ok sc_places_by (fun vs H Q E h => ?_) (fun cdv A outer s H vs Q E hr h => ?_)
  · obtain ⟨a, us, es, rfl, _⟩ := h
    rfl
  · obtain ⟨a, us, es, rfl, ha, hu, hl, q⟩ := h
    refine ⟨_, (@pss_cons _ _ _ _ _ (@ps_set _ _ 1 _ _ _ _ sc_places_by.nd rfl (by first | exact Or.inl rfl | exact Or.inr rfl) (pe_tnew w.params) (by rfl) (by first | exact Or.inl rfl | exact Or.inr rfl))
      (@pss_cons _ _ _ _ _ (@ps_for _ _ _ _ _ _ _ _ PassesOwn.never rfl (pi_enum K rfl T.z_enumerate (@pa_cons _ _ _ _ _ (pv 0) (@pa_nil _) (by rfl))) (kpg_tup K (n := 2) rfl (pgs_cons (pg_name (i := 2) sc_places_by.nd rfl (by first | exact Or.inl rfl | exact Or.inr rfl)) (pgs_cons (pg_name (i := 3) sc_places_by.nd rfl (by first | exact Or.inl rfl | exact Or.inr rfl)) (@pgs_nil _)))) (@pss_cons _ _ _ _ _ (ps_tput (P := w.params) rfl (by exact hr.units) (pv 1) (pv 3) (pv 2) rfl)
        (@pss_one _ _ _ (ps_tput (P := w.params) rfl (by exact hr.units) (pv 1) (@pe_ix _ _ _ _ _ _ _ (kix_tup K) (pv 3) (@pe_int _ _ _ _) (fun _ _ => rfl)) (pv 2) rfl))) (by intro _; rfl))
      (@pss_one _ _ _ (@ps_ret _ _ _ _ (pv 1))))), ?_⟩
    have ul : us.length = es.length := by rw [hu.len, List.length_map]
    walk_at "go"
    intro d o1 f1 d1
    have s1 : Same H (upd H d o1) := Same.new f1
    generalize upd H d o1 = H1 at d1 s1
    walk_at "run"
    refine ⟨⟨_, SqL.of (s1 _ _ ha)⟩, for_enum (K := K) (a := a) (xs := us) (fun i σ H' => i ≤ es.length ∧ Same H H' ∧ DtAt w.params H' d (plc (es.take i) 0 []) ∧ ∃ x y, σ = [some (.ref a), some (.ref d), x, y]) ⟨Nat.zero_le _, s1, d1, _, _, rfl⟩ (fun i σ H' _ ⟨_, s', _⟩ => SqL.of (s' _ _ ha)) ?_ ?_⟩
    · rintro i x σ H2 p H3 hi ⟨hil, s2, hd, x0, y0, rfl⟩ s3 e3
      obtain ⟨tx, hx1, hx2⟩ := ats_get0 (hu.same (s2.trans s3)) hi
      rw [List.getElem?_map] at hx1
      obtain ⟨e, he, rfl⟩ := Option.map_eq_some_iff.mp hx1
      obtain ⟨b, xs, rfl, hb⟩ := ev_at hx2
      have hi' : i < es.length := (List.getElem?_eq_some_iff.mp he).1
      have htk : es.take (i + 1) = es.take i ++ [e] := by rw [List.take_add_one, he]; rfl
      have hlt : (es.take i).length = i := by simp; omega
      have hlen := plc_len (es.take i) 0 []
      refine i_asgT (SqT.of e3) rfl ?_
      walk_at "run"
      have hd3 := dt_same hd s3
      have hth := e.tr_h
      refine ⟨d, _, e.tr, rfl, hd3, ⟨hx2, by omega⟩, Nat.lt_of_lt_of_le (show _ < 1000000 by simp only [List.length_nil] at hlen; omega) (le_line (Nat.le_refl _)), fun o2 d2 => ?_⟩
      obtain ⟨φ, hφ⟩ := hd3.ext
      have t2 : Tups H3 (upd H3 d o2) := tups_updE hφ
      have s4 : Same H (upd H3 d o2) := (s2.trans s3).updNew f1
      generalize upd H3 d o2 = H4 at d2 t2 s4
      walk_at "run"
      refine i_ixT (SqT.of (t2 _ _ hb)) (atI_nat (j := 0) rfl) ?_
      have hl2 := length_putK (plc (es.take i) 0 []) e.tr (.int (i : Nat))
      refine ⟨d, _, .str e.kind, rfl, d2, ⟨str_at0, by simp [Tr.h]⟩, Nat.lt_of_lt_of_le (show _ < 1000000 by simp only [List.length_nil] at hlen; omega) (le_line (Nat.le_refl _)), fun o3 d3 => ?_⟩
      refine ⟨hi', s4.updNew f1, ?_, _, _, rfl⟩
      rw [htk, plc_snoc, hlt, Nat.zero_add]
      exact d3
    · rintro σ H2 ⟨_, s2, hd, x0, y0, rfl⟩
      rw [ul, List.take_length] at hd
      walk_at "run"
      exact q d H2 f1 s2 hd
noncomputable def plOf (es : List Ev) (e : Ev) : Option V := (valV (plc es 0 []) e.tr).orElse fun _ => some ((valV (plc es 0 []) (.str e.kind)).getD (.int 0))
def sp_place (K : PySem.W.Frag) (P : Params) : Sp := fun vs H Q _ => ∃ (d : Addr) (v : V) (es : List Ev) (e : Ev), vs = [.ref d, v] ∧ DtAt P H d (plc es 0 []) ∧ e.tr.At H v [] ∧ ∀ y, plOf es e = some y → Q y H
theorem ok_place_of (T : Txt K mg t) : FnOk P w K mg base CX0 1 t.a_place_of t.fd_place_of ["places", "event"] (sp_place K w.params) := by
  refine T.F_place_of.ok sc_place_of (fun vs H Q E h => ?_) (fun cdv A outer s H vs Q E hr h => ?_)
  · obtain ⟨d, v, es, e, rfl, _⟩ := h
    rfl
  · obtain ⟨d, v, es, e, rfl, hd, hv, q⟩ := h
    refine ⟨_, (@pss_cons _ _ _ _ _ (@ps_if _ _ _ _ _ _ _ _ (pt_cmp (pc_tin (P := w.params) rfl (by exact hr.units) (pv 1) (pv 0))) (@pss_one _ _ _ (@ps_ret _ _ _ _ (pe_tget (P := w.params) rfl (by exact hr.units) (pv 0) (pv 1) (fun _ _ => rfl)))) (@pss_nil _))
      (@pss_one _ _ _ (@ps_ret _ _ _ _ (pe_tget2 (P := w.params) rfl (by exact hr.units) (pv 0) (@pe_ix _ _ _ _ _ _ _ (kix_tup K) (pv 1) (@pe_int _ _ _ _) (fun _ _ => rfl)) (@pe_int _ _ _ _) ⟨by rfl, by rfl, by rfl, by rfl⟩)))), ?_⟩
    have hth := e.tr_h
    obtain ⟨b, xs, rfl, hb⟩ := ev_at hv
    walk_at "go"
    refine ⟨d, _, e.tr, rfl, hd, ⟨hv, by omega⟩, ?_⟩
    walk_at "run"
    cases hx : valV (plc es 0 []) e.tr with
    | some y =>
      refine i_itT ?_
      walk_at "run"
      refine ⟨d, _, e.tr, y, rfl, hd, ⟨hv, by omega⟩, hx, q y ?_⟩
      unfold plOf
      rw [hx]
      rfl
    | none =>
      refine i_itF ?_
      walk_at "run"
      refine ⟨d, _, rfl, hd, ?_⟩
      walk_at "run"
      refine i_ixT (SqT.of hb) (atI_nat (j := 0) rfl) ?_
      walk_at "run"
      refine ⟨_, .str e.kind, hd, ⟨str_at0, by simp [Tr.h]⟩, q _ ?_⟩
      unfold plOf
      rw [hx]
      rfl
abbrev Row := List Str × Nat
abbrev Room_ := Bool × List Row
def strW (s : Str) : Tw := .sc (.str s)
def rowW (r : Row) : Tw := .tup [.lst (r.1.map strW), .sc (.int (r.2 : Nat))]
def roomW (r : Room_) : Tw := .tup [.sc (.bl r.1), .lst (r.2.map rowW)]
theorem strs_w {H : Hp} : ∀ {ss : List Str} {vs : List V} {fs : List Addr}, Tw.Ats H (ss.map strW) vs fs ↔ vs = strsV ss ∧ fs = []
  | [], vs, fs => by simp [Tw.Ats, strsV]
  | s :: ss, vs, fs => by
    simp only [List.map_cons, Tw.Ats, strW, Tw.At]
    constructor
    · rintro ⟨v, ws, f, g, rfl, rfl, ⟨rfl, _, rfl⟩, h⟩
      obtain ⟨rfl, rfl⟩ := strs_w.mp h
      exact ⟨rfl, rfl⟩
    · rintro ⟨rfl, rfl⟩
      exact ⟨_, _, [], [], rfl, rfl, ⟨rfl, True.intro, rfl⟩, strs_w.mpr ⟨rfl, rfl⟩⟩
theorem row_w {H : Hp} {r : Row} {v : V} {fs : List Addr} : (rowW r).At H v fs ↔ ∃ k sl, v = .ref k ∧ H k = some (.tup [.ref sl, .int (r.2 : Nat)]) ∧ H sl = some (.lst (strsV r.1)) ∧ fs = [sl] := by
  simp only [rowW, Tw.At, Tw.Ats]
  constructor
  · rintro ⟨a, vs, rfl, e, v, ws, f, g, rfl, rfl, ⟨sl, us, gs, rfl, e2, h, rfl⟩, v', ws', f', g', rfl, rfl, ⟨rfl, _, rfl⟩, rfl, rfl⟩
    obtain ⟨rfl, rfl⟩ := strs_w.mp h
    exact ⟨a, sl, rfl, e, e2, rfl⟩
  · rintro ⟨k, sl, rfl, e, e2, rfl⟩
    exact ⟨k, _, rfl, e, _, _, [sl], [], rfl, rfl, ⟨sl, _, [], rfl, e2, strs_w.mpr ⟨rfl, rfl⟩, rfl⟩, _, _, [], [], rfl, rfl, ⟨rfl, True.intro, rfl⟩, rfl, rfl⟩
theorem room_w {H : Hp} {r : Room_} {v : V} {fs : List Addr} : (roomW r).At H v fs ↔ ∃ q g ps gs, v = .ref q ∧ H q = some (.tup [.bl r.1, .ref g]) ∧ H g = some (.lst ps) ∧ Tw.Ats H (r.2.map rowW) ps gs ∧ fs = g :: gs := by
  simp only [roomW, Tw.At, Tw.Ats]
  constructor
  · rintro ⟨a, vs, rfl, e, v, ws, f, g, rfl, rfl, ⟨rfl, _, rfl⟩, v', ws', f', g', rfl, rfl, ⟨sl, us, gs, rfl, e2, h, rfl⟩, rfl, rfl⟩
    exact ⟨a, sl, us, gs, rfl, e, e2, h, by simp⟩
  · rintro ⟨q, g, ps, gs, rfl, e, e2, h, rfl⟩
    exact ⟨q, _, rfl, e, _, _, [], g :: gs, rfl, rfl, ⟨rfl, True.intro, rfl⟩, _, _, g :: gs, [], rfl, by simp, ⟨g, ps, gs, rfl, e2, h, rfl⟩, rfl, rfl⟩
def sp_room (K : PySem.W.Frag) : Sp := fun vs H Q _ => ∃ (v : V) (n : Addr) (m : Nat) (r : Room_) (fs : List Addr), vs = [v, .ref n] ∧ (roomW r).At H v fs ∧ H n = some (.lst (natsV (List.range m))) ∧ (∀ x ∈ r.2, x.2 < m) ∧ r.2.length ≤ 1000 ∧ (∀ x ∈ r.2, x.1.length ≤ 1000) ∧
  ∀ v' fs' H', Same H H' → (roomW r).At H' v' fs' → (∀ a ∈ fs', H a = none) → Q v' H'
theorem ok_room_with (T : Txt K mg t) : FnOk P w K mg base CX0 1 t.a_room_with t.fd_room_with ["room", "numbers"] (sp_room K) := by
  refine T.F_room_with.ok sc_room_with (fun vs H Q E h => ?_) (fun cdv A outer s H vs Q E hr h => ?_)
  · obtain ⟨v, n, m, r, fs, rfl, _⟩ := h
    rfl
  · obtain ⟨v, n, m, r, fs, rfl, hv, hn, hm, hl, hsl, q⟩ := h
    refine ⟨_, (@pss_one _ _ _ (@ps_ret _ _ _ _ (@pe_tupN _ _ _ _ _ (@pa_cons _ _ _ _ _ (@pe_ix _ _ _ _ _ _ _ (kix_tup K) (pv 0) (@pe_int _ _ _ _) (fun _ _ => rfl)) (@pa_cons _ _ _ _ _ (pe_lc (Nt := ["said", "way"]) (Nf := ["numbers"]) (caps := [1]) rfl (comp_ok (sc := defScope s_room_with) rfl rfl (by decide +kernel) (by decide +kernel) (by decide +kernel) rfl (by decide +kernel)) (kpi_list K (@pe_ix _ _ _ _ _ _ _ (kix_tup K) (pv 0) (@pe_int _ _ _ _) (fun _ _ => rfl))) (fun _ _ _ _ _ => (kpg_tup K (n := 2) rfl (pgs_cons (pg_name (i := 0) (show (["said", "way", "numbers"] : List Str).Nodup by decide +kernel) rfl (by first | exact Or.inl rfl | exact Or.inr rfl)) (pgs_cons (pg_name (i := 1) (show (["said", "way", "numbers"] : List Str).Nodup by decide +kernel) rfl (by first | exact Or.inl rfl | exact Or.inr rfl)) (@pgs_nil _))))) (fun _ _ _ _ _ => (@pts_nil _)) (fun _ _ _ _ _ => (@pe_tupN _ _ _ _ _ (@pa_cons _ _ _ _ _ (@pe_callTy _ _ _ _ _ _ _ _ _ (kcl_list K) (by rfl) T.z_list bb_list (@pa_cons _ _ _ _ _ (pv 0) (@pa_nil _) (by rfl)) (by decide) (by decide) (by rfl) (by rfl)) (@pa_cons _ _ _ _ _ (@pe_ix _ _ _ _ _ _ _ (kix_list K) (pv 2) (pv 1) (fun _ _ => rfl)) (@pa_nil _) (by rfl)) (by rfl))))) (@pa_nil _) (by rfl)) (by rfl))))), ?_⟩
    obtain ⟨b, g, ps, gs, rfl, hb, hg, hps, rfl⟩ := room_w.mp hv
    have pl : ps.length = r.2.length := by rw [hps.len, List.length_map]
    walk_at "go"
    refine i_ixT (SqT.of hb) (atI_nat (j := 0) rfl) ?_
    walk_at "run"
    refine i_ixT (SqT.of hb) (atI_nat (j := 1) rfl) ?_
    walk_at "run"
    refine ⟨⟨_, SqL.of hg⟩, cc_pairs (xs := ps) (le_line (by omega)) (fun i acc H' => i ≤ r.2.length ∧ acc.length = i ∧ Same H H' ∧ ∃ fs', Tw.Ats H' ((r.2.take i).map rowW) acc fs' ∧ ∀ a ∈ fs', H a = none) ⟨Nat.zero_le _, rfl, Same.refl _, [], by simp [Tw.Ats], by simp⟩ (fun i acc H' ⟨_, e, s', _⟩ => ⟨by omega, SqL.of (s' _ _ hg)⟩) ?_ ?_⟩
    · rintro i x acc H' hx ⟨hi, ea, s', fs', hat, hfr⟩
      obtain ⟨tx, fx, hx1, hx2, _⟩ := (hps.same s').get i x hx
      rw [List.getElem?_map] at hx1
      obtain ⟨w0, hw, rfl⟩ := Option.map_eq_some_iff.mp hx1
      obtain ⟨k, sl, rfl, hk, hsl', rfl⟩ := row_w.mp hx2
      have hi' : i < r.2.length := (List.getElem?_eq_some_iff.mp hw).1
      have hwm := hm w0 (List.mem_of_getElem? hw)
      refine ⟨k, _, _, rfl, SqT.of hk, ?_⟩
      walk_at "run"
      refine i_listL (SqL.of hsl') ?_
      intro p1 H1 f1 s1 e1
      walk_at "run"
      refine i_ixL (SqL.of ((s'.trans s1) _ _ hn)) (atI_nats (by simpa using hwm)) ?_
      rw [show (List.range m).getD w0.2 0 = w0.2 by simp [hwm]]
      walk_at "run"
      intro p2 H2 f2 s2 e2
      refine ⟨hi', by simp [ea], s'.trans (s1.trans s2), fs' ++ [p1], ?_, ?_⟩
      · rw [List.take_add_one, hw, List.map_append]
        exact (hat.same (s1.trans s2)).snoc (row_w.mpr ⟨p2, p1, rfl, e2, s2 _ _ e1, rfl⟩)
      · intro a ha
        rcases List.mem_append.mp ha with ha | ha
        · exact hfr a ha
        · rw [List.mem_singleton.mp ha]; exact s'.free f1
    · rintro acc H' ⟨_, ea, s', fs', hat, hfr⟩ p1 H1 f1 s1 e1
      rw [pl, List.take_length] at hat
      walk_at "run"
      intro p2 H2 f2 s2 e2
      refine q _ (p1 :: fs') H2 (s'.trans (s1.trans s2)) (room_w.mpr ⟨p2, p1, acc, fs', rfl, e2, s2 _ _ e1, hat.same (s1.trans s2), rfl⟩) ?_
      intro a ha
      rcases List.mem_cons.mp ha with rfl | ha
      · exact s'.free f1
      · exact hfr a ha
def mf (d s c : Addr) : List (Str × V) := putF "rooms" (.ref c) (putF "saying" (.ref s) (putF "places" (.ref d) []))
theorem mf_places (d s c : Addr) : (mf d s c).lookup ("places" : Str) = some (.ref d) := by
  unfold mf
  rw [lookup_putF, if_neg (by decide +kernel), lookup_putF, if_neg (by decide +kernel), lookup_putF, if_pos rfl]
theorem mf_saying (d s c : Addr) : (mf d s c).lookup ("saying" : Str) = some (.ref s) := by
  unfold mf
  rw [lookup_putF, if_neg (by decide +kernel), lookup_putF, if_pos rfl]
theorem mf_rooms (d s c : Addr) : (mf d s c).lookup ("rooms" : Str) = some (.ref c) := by
  unfold mf
  rw [lookup_putF, if_pos rfl]
theorem mf_no (d s c : Addr) {m : Str} (h1 : ¬ m = "rooms") (h2 : ¬ m = "saying") (h3 : ¬ m = "places") : (mf d s c).lookup m = none := by
  unfold mf
  rw [lookup_putF, if_neg h1, lookup_putF, if_neg h2, lookup_putF, if_neg h3]
  all_goals rfl
structure MAt (P : Params) (C : Addr) (H : Hp) (p d s c : Addr) (es : List Ev) (sy : List Str) (rs : List Room_) (gs : List Addr) : Prop where
  ex : ∃ dx rvs, H p = some (.ins C dx (mf d s c)) ∧ DtAt P H d (plc es 0 []) ∧ H s = some (.lst (strsV sy)) ∧ H c = some (.lst rvs) ∧ Tw.Ats H (rs.map roomW) rvs gs
structure TabAt (H : Hp) (v : V) (a b c : Addr) (es : List Ev) (sy : List Str) (rs : List Room_) (gs : List Addr) : Prop where
  ex : ∃ t us rvs, v = .ref t ∧ H t = some (.tup [.ref a, .ref b, .ref c]) ∧ H a = some (.lst us) ∧ Tr.Ats H (es.map Ev.tr) us [] ∧ H b = some (.lst (strsV sy)) ∧ H c = some (.lst rvs) ∧ Tw.Ats H (rs.map roomW) rvs gs
structure TabOk (es : List Ev) (sy : List Str) (rs : List Room_) : Prop where
  ne : es.length ≤ 100
  ns : sy.length ≤ 100
  nr : rs.length ≤ 100
  ok : ∀ r ∈ rs, r.2.length = es.length ∧ ∀ x ∈ r.2, x.2 < rs.length ∧ x.1.length ≤ 100
def sp_init (K : PySem.W.Frag) (P : Params) (C : Addr) : Sp := fun vs H Q _ => ∃ (p dx : Addr) (v : V) (a b c : Addr) (es : List Ev) (sy : List Str) (rs : List Room_) (gs : List Addr), vs = [.ref p, v] ∧ H p = some (.ins C dx []) ∧ TabAt H v a b c es sy rs gs ∧ TabOk es sy rs ∧
  ∀ d s c' gs' H', MAt P C H' p d s c' es sy rs gs' → H d = none → H s = none → H c' = none → (∀ x ∈ gs', H x = none) → (∀ x o, H x = some o → x ≠ p → H' x = some o) → Q .non H'
theorem ok_TableMachine___init__ (T : Txt K mg t) : FnOk P w K mg base CX0 2 t.a_TableMachine___init__ t.fd_TableMachine___init__ ["self", "table"] (sp_init K w.params t.c_TableMachine) := by
  have G_places_by := ok_places_by (P := P) (w := w) (base := base) T
  have G_room_with := ok_room_with (P := P) (w := w) (base := base) T
  refine T.F_TableMachine___init__.ok sc_TableMachine___init__ (fun vs H Q E h => ?_) (fun cdv A outer s H vs Q E hr h => ?_)
  · obtain ⟨p, dx, v, a, b, c, es, sy, rs, gs, rfl, _⟩ := h
    rfl
  · obtain ⟨p, dx, v, a, b, c, es, sy, rs, gs, rfl, hp, hT, ok, q⟩ := h
    refine ⟨_, (@pss_cons _ _ _ _ _ (kps_fld K (pv 0) (@pe_call _ _ _ _ _ _ _ _ _ _ _ _ _ _ _ _ G_places_by (hr.mono (by omega)) rfl T.m_places_by T.F_places_by.kp T.b_places_by .nil pass0 (@pa_cons _ _ _ _ _ (@pe_ix _ _ _ _ _ _ _ (kix_tup K) (pv 1) (@pe_int _ _ _ _) (fun _ _ => rfl)) (@pa_nil _) (by rfl)) (by decide) (by rfl) (by rfl)) rfl)
      (@pss_cons _ _ _ _ _ (kps_fld K (pv 0) (@pe_callTy _ _ _ _ _ _ _ _ _ (kcl_list K) (by rfl) T.z_list bb_list (@pa_cons _ _ _ _ _ (@pe_ix _ _ _ _ _ _ _ (kix_tup K) (pv 1) (@pe_int _ _ _ _) (fun _ _ => rfl)) (@pa_nil _) (by rfl)) (by decide) (by decide) (by rfl) (by rfl)) rfl)
      (@pss_cons _ _ _ _ _ (@ps_set _ _ 2 _ _ _ _ sc_TableMachine___init__.nd rfl (by first | exact Or.inl rfl | exact Or.inr rfl) (@pe_callTy _ _ _ _ _ _ _ _ _ (cl_listR rfl) (by rfl) T.z_list bb_list (@pa_cons _ _ _ _ _ (@pe_callTy _ _ _ _ _ _ _ _ _ cl_range1 (by rfl) T.z_range bb_range (@pa_cons _ _ _ _ _ (@pe_callB _ _ _ _ _ _ _ _ _ (kcl_len K) (by rfl) T.z_len bb_len (@pa_cons _ _ _ _ _ (@pe_ix _ _ _ _ _ _ _ (kix_tup K) (pv 1) (@pe_int _ _ _ _) (fun _ _ => rfl)) (@pa_nil _) (by rfl)) (by decide) (by decide) (by rfl) (by rfl)) (@pa_nil _) (by rfl)) (by decide) (by decide) (by rfl) (by rfl)) (@pa_nil _) (by rfl)) (by decide) (by decide) (by rfl) (by rfl)) (by rfl) (by first | exact Or.inl rfl | exact Or.inr rfl))
      (@pss_one _ _ _ (kps_fld K (pv 0) (pe_lc (Nt := ["room"]) (Nf := ["same"]) (caps := [2]) rfl (comp_ok (sc := defScope s_TableMachine___init__) rfl rfl (by decide +kernel) (by decide +kernel) (by decide +kernel) rfl (by decide +kernel)) (kpi_list K (@pe_ix _ _ _ _ _ _ _ (kix_tup K) (pv 1) (@pe_int _ _ _ _) (fun _ _ => rfl))) (fun _ _ _ _ _ => (pg_name (i := 0) (show (["room", "same"] : List Str).Nodup by decide +kernel) rfl (by first | exact Or.inl rfl | exact Or.inr rfl))) (fun _ _ _ _ _ => (@pts_nil _)) (fun _ _ _ _ _ => (@pe_call _ _ _ _ _ _ _ _ _ _ _ _ _ _ _ _ G_room_with (hr.mono (by omega)) rfl T.m_room_with T.F_room_with.kp T.b_room_with .nil pass0 (@pa_cons _ _ _ _ _ (pv 0) (@pa_cons _ _ _ _ _ (pv 1) (@pa_nil _) (by rfl)) (by rfl)) (by decide) (by rfl) (by rfl)))) rfl))))), ?_⟩
    obtain ⟨tt, us, rvs, rfl, h1, h2, h3, h4, h5, h6⟩ := hT.ex
    have rl : rvs.length = rs.length := by rw [h6.len, List.length_map]
    have o1 := ok.ne
    have o2 := ok.ns
    have o3 := ok.nr
    walk_at "go"
    refine i_ixT (SqT.of h1) (atI_nat (j := 0) rfl) ?_
    walk_at "run"
    refine ⟨a, us, es, rfl, h2, h3, by omega, fun d H1 f1 s1 d1 => ?_⟩
    walk_at "run"
    refine ⟨p, _, dx, _, rfl, s1 _ _ hp, T.cl_TableMachine, T.n_TableMachine_places, by decide, ?_⟩
    have np : ∀ {x : Addr} {o : HO}, H x = some o → (∀ C dx fs, o ≠ .ins C dx fs) → x ≠ p := fun e z => ne_of e hp (z _ _ _)
    have kP2 : ∀ x o, x ≠ p → H x = some o → upd H1 p (.ins t.c_TableMachine dx (putF "places" (.ref d) [])) x = some o := fun x o z e => by rw [upd_ne z]; exact s1 _ _ e
    have e2 : upd H1 p (.ins t.c_TableMachine dx (putF "places" (.ref d) [])) p = some (.ins t.c_TableMachine dx (putF "places" (.ref d) [])) := upd_same
    have hdp : d ≠ p := (ne_of_none hp f1).symm
    have d2 : DtAt w.params (upd H1 p (.ins t.c_TableMachine dx (putF "places" (.ref d) []))) d (plc es 0 []) := d1.mono (tups_updI (s1 _ _ hp)) (upd_ne hdp)
    generalize upd H1 p (.ins t.c_TableMachine dx (putF "places" (.ref d) [])) = H2 at kP2 e2 d2
    walk_at "run"
    refine i_ixT (SqT.of (kP2 _ _ (np h1 (fun _ _ _ z => nomatch z)) h1)) (atI_nat (j := 1) rfl) ?_
    walk_at "run"
    refine i_listL (SqL.of (kP2 _ _ (np h4 (fun _ _ _ z => nomatch z)) h4)) ?_
    intro ps H3 f3 s3 e3
    walk_at "run"
    have hsp : ps ≠ p := (ne_of_none e2 f3).symm
    refine ⟨p, _, dx, _, rfl, s3 _ _ e2, T.cl_TableMachine, T.n_TableMachine_saying, (by have h1 := length_putF "places" (V.ref d) []; rw [List.length_nil] at h1; omega), ?_⟩
    have kP4 : ∀ x o, x ≠ p → H2 x = some o → upd H3 p (.ins t.c_TableMachine dx (putF "saying" (.ref ps) (putF "places" (.ref d) []))) x = some o := fun x o z e => by rw [upd_ne z]; exact s3 _ _ e
    have e4 : upd H3 p (.ins t.c_TableMachine dx (putF "saying" (.ref ps) (putF "places" (.ref d) []))) p = some (.ins t.c_TableMachine dx (putF "saying" (.ref ps) (putF "places" (.ref d) []))) := upd_same
    have e34 : upd H3 p (.ins t.c_TableMachine dx (putF "saying" (.ref ps) (putF "places" (.ref d) []))) ps = some (.lst (strsV sy)) := by rw [upd_ne hsp]; exact e3
    have d4 : DtAt w.params (upd H3 p (.ins t.c_TableMachine dx (putF "saying" (.ref ps) (putF "places" (.ref d) [])))) d (plc es 0 []) := (dt_same d2 s3).mono (tups_updI (s3 _ _ e2)) (upd_ne hdp)
    have t4 : Tups H2 (upd H3 p (.ins t.c_TableMachine dx (putF "saying" (.ref ps) (putF "places" (.ref d) [])))) := s3.tups.trans (tups_updI (s3 _ _ e2))
    generalize upd H3 p (.ins t.c_TableMachine dx (putF "saying" (.ref ps) (putF "places" (.ref d) []))) = H4 at kP4 e4 e34 d4 t4
    have kP : ∀ x o, x ≠ p → H x = some o → H4 x = some o := fun x o z e => kP4 x o z (kP2 x o z e)
    have h14 := kP _ _ (np h1 (fun _ _ _ z => nomatch z)) h1
    have h54 := kP _ _ (np h5 (fun _ _ _ z => nomatch z)) h5
    have k4 : Keep gs H H4 := ⟨fun b ys e => kP _ _ (np e (fun _ _ _ z => nomatch z)) e, fun a _ xs e => kP _ _ (np e (fun _ _ _ z => nomatch z)) e⟩
    have h64 := h6.mono k4
    walk_at "run"
    refine i_ixT (SqT.of h14) (atI_nat (j := 2) rfl) ?_
    walk_at "run"
    refine i_lenL (SqL.of h54) ?_
    rw [rl]
    walk_at "run"
    refine i_range1 (by omega) ?_
    intro pg H5 f5 s5 e5
    walk_at "run"
    refine i_listR e5 (by omega) ?_
    intro pn H6 f6 s6 e6
    walk_at "run"
    have s46 := s5.trans s6
    refine i_ixT (SqT.of (s46 _ _ h14)) (atI_nat (j := 2) rfl) ?_
    walk_at "run"
    refine ⟨⟨_, SqL.of (s46 _ _ h54)⟩, cc_list (xs := rvs) (le_line (by omega)) (fun i acc H' => i ≤ rs.length ∧ acc.length = i ∧ Same H6 H' ∧ ∃ fs', Tw.Ats H' ((rs.take i).map roomW) acc fs' ∧ ∀ a ∈ fs', H6 a = none) ⟨Nat.zero_le _, rfl, Same.refl _, [], by simp [Tw.Ats], by simp⟩ (fun i acc H' ⟨_, e, s', _⟩ => ⟨by omega, SqL.of ((s46.trans s') _ _ h54)⟩) ?_ ?_⟩
    · rintro i x acc H' hx ⟨hi, ea, s', fs', hat, hfr⟩
      obtain ⟨tx, fx, hx1, hx2, _⟩ := (h64.same (s46.trans s')).get i x hx
      rw [List.getElem?_map] at hx1
      obtain ⟨w0, hw, rfl⟩ := Option.map_eq_some_iff.mp hx1
      have hi' : i < rs.length := (List.getElem?_eq_some_iff.mp hw).1
      obtain ⟨k1, k2⟩ := ok.ok w0 (List.mem_of_getElem? hw)
      walk_at "run"
      refine ⟨x, pn, rs.length, w0, fx, rfl, hx2, s' _ _ e6, fun z hz => (k2 z hz).1, by omega, fun z hz => by have := (k2 z hz).2; omega, fun v' fs2 H7 s7 hv7 hf7 => ?_⟩
      refine ⟨hi', by simp [ea], s'.trans s7, fs' ++ fs2, ?_, ?_⟩
      · rw [List.take_add_one, hw, List.map_append]
        exact (hat.same s7).snoc hv7
      · intro a ha
        rcases List.mem_append.mp ha with ha | ha
        · exact hfr a ha
        · exact s'.free (hf7 a ha)
    · rintro acc H' ⟨_, ea, s', fs', hat, hfr⟩ pc H8 f8 s8 e8
      rw [rl, List.take_length] at hat
      walk_at "run"
      have s48 := s46.trans (s'.trans s8)
      have e48 := s48 _ _ e4
      have hcp : pc ≠ p := (ne_of_none e4 ((s46.trans s').free f8)).symm
      refine ⟨p, _, dx, _, rfl, e48, T.cl_TableMachine, T.n_TableMachine_rooms, (by have h1 := length_putF "places" (V.ref d) []; have h2 := length_putF "saying" (V.ref ps) (putF "places" (V.ref d) []); rw [List.length_nil] at h1; omega), ?_⟩
      walk_at "run"
      have tF : Tups H8 (upd H8 p (.ins t.c_TableMachine dx (mf d ps pc))) := tups_updI e48
      have frH : ∀ {x : Addr}, H4 x = none → x ≠ p → H x = none := fun {x} z zp => by
        cases e : H x with
        | none => rfl
        | some o => rw [kP x o zp e] at z; cases z
      have nfs : ∀ x ∈ fs', x ≠ p := fun x hx z => by
        have := s46.free (hfr x hx)
        rw [z, e4] at this
        cases this
      refine q d ps pc fs' _ ⟨dx, acc, upd_same, (dt_same d4 s48).mono tF (upd_ne hdp), by rw [upd_ne hsp]; exact s48 _ _ e34, by rw [upd_ne hcp]; exact e8, (hat.same s8).mono ⟨tF, fun a ha xs e => by rw [upd_ne (nfs a ha)]; exact e⟩⟩ f1 ?_ (frH ((s46.trans s').free f8) hcp) (fun x hx => frH (s46.free (hfr x hx)) (nfs x hx)) fun x o e z => by rw [upd_ne z]; exact s48 _ _ (kP x o z e)
      cases e : H ps with
      | none => rfl
      | some o => rw [kP2 ps o hsp e] at f3; cases f3
def sp_begin (K : PySem.W.Frag) (P : Params) (C : Addr) : Sp := fun vs H Q _ => ∃ (p d s c : Addr) (es : List Ev) (sy : List Str) (rs : List Room_) (gs : List Addr), vs = [.ref p] ∧ MAt P C H p d s c es sy rs gs ∧
  ∀ k l H', H l = none → Same H H' → H' k = some (.tup [.ref l, .int 0]) → H' l = some (.lst (strsV sy)) → Q (.ref k) H'
theorem ok_TableMachine_begin (T : Txt K mg t) : FnOk P w K mg base CX0 1 t.a_TableMachine_begin t.fd_TableMachine_begin ["self"] (sp_begin K w.params t.c_TableMachine) := by
  refine T.F_TableMachine_begin.ok sc_TableMachine_begin (fun vs H Q E h => ?_) (fun cdv A outer s H vs Q E hr h => ?_)
  · obtain ⟨p, d, s', c, es, sy, rs, gs, rfl, _⟩ := h
    rfl
  · obtain ⟨p, d, s', c, es, sy, rs, gs, rfl, hM, q⟩ := h
    refine ⟨_, (@pss_one _ _ _ (@ps_ret _ _ _ _ (@pe_tupN _ _ _ _ _ (@pa_cons _ _ _ _ _ (@pe_callTy _ _ _ _ _ _ _ _ _ (kcl_list K) (by rfl) T.z_list bb_list (@pa_cons _ _ _ _ _ (kpe_fld K (pv 0) rfl) (@pa_nil _) (by rfl)) (by decide) (by decide) (by rfl) (by rfl)) (@pa_cons _ _ _ _ _ (@pe_int _ _ _ _) (@pa_nil _) (by rfl)) (by rfl))))), ?_⟩
    obtain ⟨dx, rvs, h1, h2, h3, h4, h5⟩ := hM.ex
    walk_at "go"
    refine ⟨p, _, dx, _, _, rfl, h1, T.cl_TableMachine, T.n_TableMachine_saying, mf_saying _ _ _, ?_⟩
    walk_at "run"
    refine i_listL (SqL.of h3) ?_
    intro l H1 f1 s1 e1
    walk_at "run"
    intro k H2 f2 s2 e2
    exact q k l H2 f1 (s1.trans s2) e2 (s2 _ _ e1)
def sp_step (K : PySem.W.Frag) (P : Params) (C : Addr) : Sp := fun vs H Q _ => ∃ (p d s c : Addr) (es : List Ev) (sy : List Str) (rs : List Room_) (gs : List Addr) (n j : Nat) (v : V) (e : Ev) (r : Room_) (x : Row), vs = [.ref p, .int (n : Nat), v] ∧ MAt P C H p d s c es sy rs gs ∧ e.tr.At H v [] ∧
  plOf es e = some (.int (j : Nat)) ∧ rs[n]? = some r ∧ r.2[j]? = some x ∧ ∀ k l H', H l = none → Same H H' → H' k = some (.tup [.ref l, .int (x.2 : Nat)]) → H' l = some (.lst (strsV x.1)) → Q (.ref k) H'
theorem ok_TableMachine_step (T : Txt K mg t) : FnOk P w K mg base CX0 2 t.a_TableMachine_step t.fd_TableMachine_step ["self", "standing", "event"] (sp_step K w.params t.c_TableMachine) := by
  have G_place_of := ok_place_of (P := P) (w := w) (base := base) T
  refine T.F_TableMachine_step.ok sc_TableMachine_step (fun vs H Q E h => ?_) (fun cdv A outer s H vs Q E hr h => ?_)
  · obtain ⟨p, d, s', c, es, sy, rs, gs, n, j, v, e, r, x, rfl, _⟩ := h
    rfl
  · obtain ⟨p, d, s', c, es, sy, rs, gs, n, j, v, e, r, x, rfl, hM, hv, hj, hr1, hx, q⟩ := h
    refine ⟨_, (@pss_cons _ _ _ _ _ (@ps_set _ _ 3 _ _ _ _ sc_TableMachine_step.nd rfl (by first | exact Or.inl rfl | exact Or.inr rfl) (@pe_ix _ _ _ _ _ _ _ (kix_list K) (@pe_ix _ _ _ _ _ _ _ (kix_tup K) (@pe_ix _ _ _ _ _ _ _ (kix_list K) (kpe_fld K (pv 0) rfl) (pv 1) (fun _ _ => rfl)) (@pe_int _ _ _ _) (fun _ _ => rfl)) (@pe_call _ _ _ _ _ _ _ _ _ _ _ _ _ _ _ _ G_place_of (hr.mono (by omega)) rfl T.m_place_of T.F_place_of.kp T.b_place_of .nil pass0 (@pa_cons _ _ _ _ _ (kpe_fld K (pv 0) rfl) (@pa_cons _ _ _ _ _ (pv 2) (@pa_nil _) (by rfl)) (by rfl)) (by decide) (by rfl) (by rfl)) (fun _ _ => rfl)) (by rfl) (by first | exact Or.inl rfl | exact Or.inr rfl))
      (@pss_one _ _ _ (@ps_ret _ _ _ _ (@pe_tupN _ _ _ _ _ (@pa_cons _ _ _ _ _ (@pe_callTy _ _ _ _ _ _ _ _ _ (kcl_list K) (by rfl) T.z_list bb_list (@pa_cons _ _ _ _ _ (@pe_ix _ _ _ _ _ _ _ (kix_tup K) (pv 3) (@pe_int _ _ _ _) (fun _ _ => rfl)) (@pa_nil _) (by rfl)) (by decide) (by decide) (by rfl) (by rfl)) (@pa_cons _ _ _ _ _ (@pe_ix _ _ _ _ _ _ _ (kix_tup K) (pv 3) (@pe_int _ _ _ _) (fun _ _ => rfl)) (@pa_nil _) (by rfl)) (by rfl)))))), ?_⟩
    obtain ⟨dx, rvs, h1, h2, h3, h4, h5⟩ := hM.ex
    have hn : n < rvs.length := by
      rw [h5.len, List.length_map]
      exact (List.getElem?_eq_some_iff.mp hr1).1
    obtain ⟨tx, fx, hx1, hx2, _⟩ := h5.get n rvs[n] (List.getElem?_eq_getElem hn)
    rw [List.getElem?_map, hr1] at hx1
    cases hx1
    obtain ⟨q1, g, ps, gs1, hq0, hq1, hg, hps, rfl⟩ := room_w.mp hx2
    have hjl : j < ps.length := by
      rw [hps.len, List.length_map]
      exact (List.getElem?_eq_some_iff.mp hx).1
    obtain ⟨tx, fx, hx1, hx3, _⟩ := hps.get j ps[j] (List.getElem?_eq_getElem hjl)
    rw [List.getElem?_map, hx] at hx1
    cases hx1
    obtain ⟨k0, sl, hk0, hk1, hsl, rfl⟩ := row_w.mp hx3
    walk_at "go"
    refine ⟨p, _, dx, _, _, rfl, h1, T.cl_TableMachine, T.n_TableMachine_rooms, mf_rooms _ _ _, ?_⟩
    walk_at "run"
    refine i_ixL (SqL.of h4) (atI_nat (j := n) (v := .ref q1) (by rw [List.getElem?_eq_getElem hn, hq0])) ?_
    walk_at "run"
    refine i_ixT (SqT.of hq1) (atI_nat (j := 1) rfl) ?_
    walk_at "run"
    refine ⟨p, _, dx, _, _, rfl, h1, T.cl_TableMachine, T.n_TableMachine_places, mf_places _ _ _, ?_⟩
    walk_at "run"
    refine ⟨d, v, es, e, rfl, h2, hv, fun y hy => ?_⟩
    rw [hj] at hy
    cases hy
    refine i_ixL (SqL.of hg) (atI_nat (j := j) (v := .ref k0) (by rw [List.getElem?_eq_getElem hjl, hk0])) ?_
    walk_at "run"
    refine i_ixT (SqT.of hk1) (atI_nat (j := 0) rfl) ?_
    walk_at "run"
    refine i_listL (SqL.of hsl) ?_
    intro l H1 f1 s1 e1
    walk_at "run"
    refine i_ixT (SqT.of (s1 _ _ hk1)) (atI_nat (j := 1) rfl) ?_
    walk_at "run"
    intro k H2 f2 s2 e2
    exact q k l H2 f1 (s1.trans s2) e2 (s2 _ _ e1)
def sp_over (K : PySem.W.Frag) (P : Params) (C : Addr) : Sp := fun vs H Q _ => ∃ (p d s c : Addr) (es : List Ev) (sy : List Str) (rs : List Room_) (gs : List Addr) (n : Nat) (r : Room_), vs = [.ref p, .int (n : Nat)] ∧ MAt P C H p d s c es sy rs gs ∧ rs[n]? = some r ∧ Q (.bl r.1) H
theorem ok_TableMachine_over (T : Txt K mg t) : FnOk P w K mg base CX0 1 t.a_TableMachine_over t.fd_TableMachine_over ["self", "standing"] (sp_over K w.params t.c_TableMachine) := by
  refine T.F_TableMachine_over.ok sc_TableMachine_over (fun vs H Q E h => ?_) (fun cdv A outer s H vs Q E hr h => ?_)
  · obtain ⟨p, d, s', c, es, sy, rs, gs, n, r, rfl, _⟩ := h
    rfl
  · obtain ⟨p, d, s', c, es, sy, rs, gs, n, r, rfl, hM, hr1, q⟩ := h
    refine ⟨_, (@pss_one _ _ _ (@ps_ret _ _ _ _ (@pe_ix _ _ _ _ _ _ _ (kix_tup K) (@pe_ix _ _ _ _ _ _ _ (kix_list K) (kpe_fld K (pv 0) rfl) (pv 1) (fun _ _ => rfl)) (@pe_int _ _ _ _) (fun _ _ => rfl)))), ?_⟩
    obtain ⟨dx, rvs, h1, h2, h3, h4, h5⟩ := hM.ex
    have hn : n < rvs.length := by
      rw [h5.len, List.length_map]
      exact (List.getElem?_eq_some_iff.mp hr1).1
    obtain ⟨tx, fx, hx1, hx2, _⟩ := h5.get n rvs[n] (List.getElem?_eq_getElem hn)
    rw [List.getElem?_map, hr1] at hx1
    cases hx1
    obtain ⟨q1, g, ps, gs1, hq0, hq1, hg, hps, rfl⟩ := room_w.mp hx2
    walk_at "go"
    refine ⟨p, _, dx, _, _, rfl, h1, T.cl_TableMachine, T.n_TableMachine_rooms, mf_rooms _ _ _, ?_⟩
    walk_at "run"
    refine i_ixL (SqL.of h4) (atI_nat (j := n) (v := .ref q1) (by rw [List.getElem?_eq_getElem hn, hq0])) ?_
    walk_at "run"
    exact i_ixT (SqT.of hq1) (atI_nat (j := 0) rfl) q
def sp_values : Sp := fun vs H Q _ => ∃ (u v : V), vs = [u, v] ∧ ∀ k H', Same H H' → H' k = some (.tup []) → Q (.ref k) H'
theorem at6 {r : Nat} (h : r < 6) : ∃ m : Nat, m ≤ 3 ∧ atI [V.int 0, .int 0, .int 1, .int 1, .int 2, .int 3] (r : Nat) = some (.int (m : Nat)) := by
  have : r = 0 ∨ r = 1 ∨ r = 2 ∨ r = 3 ∨ r = 4 ∨ r = 5 := by omega
  rcases this with rfl | rfl | rfl | rfl | rfl | rfl
  · exact ⟨0, by decide, atI_nat rfl⟩
  · exact ⟨0, by decide, atI_nat rfl⟩
  · exact ⟨1, by decide, atI_nat rfl⟩
  · exact ⟨1, by decide, atI_nat rfl⟩
  · exact ⟨2, by decide, atI_nat rfl⟩
  · exact ⟨3, by decide, atI_nat rfl⟩
theorem at5 {r : Nat} {a b c d e : Str} (h : r < 5) : ∃ s : Str, atI [V.str a, .str b, .str c, .str d, .str e] (r : Nat) = some (.str s) := by
  have : r = 0 ∨ r = 1 ∨ r = 2 ∨ r = 3 ∨ r = 4 := by omega
  rcases this with rfl | rfl | rfl | rfl | rfl
  · exact ⟨_, atI_nat rfl⟩
  · exact ⟨_, atI_nat rfl⟩
  · exact ⟨_, atI_nat rfl⟩
  · exact ⟨_, atI_nat rfl⟩
  · exact ⟨_, atI_nat rfl⟩
def sp_said (K : PySem.W.Frag) : Sp := fun vs H Q _ => ∃ (d l : Addr) (n : Nat), vs = [.ref d] ∧ Deck H d l n ∧ n ≤ 90000 ∧ ∀ p ss H' n', H p = none → H' p = some (.lst (strsV ss)) → ss.length ≤ 3 → Off d l H H' → n' ≤ n + 10 → Deck H' d l n' → Q (.ref p) H'
theorem ok_law_said (T : Txt K mg t) : FnOk P w K mg base CX0 2 t.a__law_said t.fd__law_said ["deck"] (sp_said K) := by
  have G__law_take := ok_law_take (P := P) (w := w) (base := base) T
  refine T.F__law_said.ok sc_law_said (fun vs H Q E h => ?_) (fun cdv A outer s H vs Q E hr h => ?_)
  · obtain ⟨d, l, n, rfl, _⟩ := h
    rfl
  · obtain ⟨d, l, n, rfl, k, hn, q⟩ := h
    refine ⟨_, (@pss_cons _ _ _ _ _ (@ps_set _ _ 1 _ _ _ _ sc_law_said.nd rfl (by first | exact Or.inl rfl | exact Or.inr rfl) (@pe_lstN _ _ _ _ (@pa_cons _ _ _ _ _ (@pe_str _ _ _ _) (@pa_cons _ _ _ _ _ (@pe_str _ _ _ _) (@pa_cons _ _ _ _ _ (@pe_str _ _ _ _) (@pa_cons _ _ _ _ _ (@pe_str _ _ _ _) (@pa_cons _ _ _ _ _ (@pe_str _ _ _ _) (@pa_nil _) (by rfl)) (by rfl)) (by rfl)) (by rfl)) (by rfl))) (by rfl) (by first | exact Or.inl rfl | exact Or.inr rfl))
      (@pss_one _ _ _ (@ps_ret _ _ _ _ (pe_lc (Nt := ["k"]) (Nf := ["texts", "deck"]) (caps := [1, 0]) rfl (comp_ok (sc := defScope s_law_said) rfl rfl (by decide +kernel) (by decide +kernel) (by decide +kernel) rfl (by decide +kernel)) (pi_range1 rfl T.z_range (@pa_cons _ _ _ _ _ (@pe_ix _ _ _ _ _ _ _ (kix_list K) (@pe_lstN _ _ _ _ (@pa_cons _ _ _ _ _ (@pe_int _ _ _ _) (@pa_cons _ _ _ _ _ (@pe_int _ _ _ _) (@pa_cons _ _ _ _ _ (@pe_int _ _ _ _) (@pa_cons _ _ _ _ _ (@pe_int _ _ _ _) (@pa_cons _ _ _ _ _ (@pe_int _ _ _ _) (@pa_cons _ _ _ _ _ (@pe_int _ _ _ _) (@pa_nil _) (by rfl)) (by rfl)) (by rfl)) (by rfl)) (by rfl)) (by rfl))) (@pe_call _ _ _ _ _ _ _ _ _ _ _ _ _ _ _ _ G__law_take (hr.mono (by omega)) rfl T.m__law_take T.F__law_take.kp T.b__law_take .nil pass0 (@pa_cons _ _ _ _ _ (pv 0) (@pa_cons _ _ _ _ _ (@pe_int _ _ _ _) (@pa_nil _) (by rfl)) (by rfl)) (by decide) (by rfl) (by rfl)) (fun _ _ => rfl)) (@pa_nil _) (by rfl))) (fun _ _ _ _ _ => (pg_name (i := 0) (show (["k", "texts", "deck"] : List Str).Nodup by decide +kernel) rfl (by first | exact Or.inl rfl | exact Or.inr rfl))) (fun _ _ _ _ _ => (@pts_nil _)) (fun _ _ _ _ _ => (@pe_ix _ _ _ _ _ _ _ (kix_list K) (pv 1) (@pe_call _ _ _ _ _ _ _ _ _ _ _ _ _ _ _ _ G__law_take (hr.mono (by omega)) rfl T.m__law_take T.F__law_take.kp T.b__law_take .nil pass0 (@pa_cons _ _ _ _ _ (pv 2) (@pa_cons _ _ _ _ _ (@pe_int _ _ _ _) (@pa_nil _) (by rfl)) (by rfl)) (by decide) (by rfl) (by rfl)) (fun _ _ => rfl))))))), ?_⟩
    walk_at "go"
    intro p1 H1 f1 s1 e1
    walk_at "run"
    intro p2 H2 f2 s2 e2
    walk_at "run"
    have k2 := k.same (s1.trans s2)
    obtain ⟨z1, z2⟩ := (k.same s1).new f2
    obtain ⟨y1, y2⟩ := k.new f1
    refine ⟨d, l, n, 6, rfl, k2, by decide, by decide, by omega, fun r H3 hr o3 k3 => ?_⟩
    obtain ⟨m, hm, em⟩ := at6 hr
    refine i_ixL (SqL.of (o3 _ _ z1 z2 e2)) em ?_
    walk_at "run"
    rw [Int.toNat_natCast]
    have e13 := o3 _ _ y1 y2 (s2 _ _ e1)
    refine cc_range (n := m) (le_line (by omega)) (fun i acc H' => i ≤ m ∧ ∃ ss : List Str, acc = strsV ss ∧ ss.length = i ∧ Off d l H3 H' ∧ Deck H' d l (n + 1 + i)) ⟨Nat.zero_le _, [], rfl, rfl, Off.refl, k3⟩ (fun i acc H' ⟨_, ss, e, e', _⟩ => by rw [e]; simp [strsV]; omega) ?_ ?_
    · rintro i acc H' hi ⟨hi2, ss, rfl, es, o', k'⟩
      walk_at "run"
      refine ⟨d, l, _, 5, rfl, k', by decide, by decide, by omega, fun r2 H4 hr2 o4 k4 => ?_⟩
      have e14 := o4 _ _ y1 y2 (o' _ _ y1 y2 e13)
      obtain ⟨s0, hs0⟩ := at5 (a := "a") (b := "yes") (c := "no") (d := "3:a") (e := "0:yes") hr2
      refine i_ixL (SqL.of e14) hs0 ?_
      walk_at "run"
      exact ⟨hi, ss ++ [s0], by simp [strsV], by simp [es], o'.trans o4, k4⟩
    · rintro acc H' ⟨_, ss, rfl, es, o', k'⟩ p4 H4 f4 s4 e4
      have oA : Off d l H H' := ((s1.trans s2).off.trans o3).trans o'
      exact q p4 ss H4 _ (oA.free k' f4) e4 (by omega) (oA.trans s4.off) (by omega) (k'.same s4)
noncomputable instance evDec : DecidableEq Ev := fun _ _ => Classical.propDecidable _
theorem ev_str (e : Ev) (k : Str) : ¬ e.tr = Tr.str k := by cases e <;> simp [Ev.tr]
theorem plc_val (es : List Ev) (e : Ev) (t : Tr) : valV (plc (es ++ [e]) 0 []) t = if t = .str e.kind then some (.int (es.length : Nat)) else if t = e.tr then some (.int (es.length : Nat)) else valV (plc es 0 []) t := by
  rw [plc_snoc, valV_put, valV_put, Nat.zero_add]
theorem plc_ev {es : List Ev} (hn : es.Nodup) (e : Ev) : ∀ i, i ≤ es.length → (∃ j : Nat, (es.take i)[j]? = some e ∧ valV (plc (es.take i) 0 []) e.tr = some (.int (j : Nat))) ∨ (e ∉ es.take i ∧ valV (plc (es.take i) 0 []) e.tr = none) := by
  intro i
  induction i with
  | zero => intro _; exact .inr ⟨by simp, rfl⟩
  | succ i ih =>
    intro hi
    have he : es[i]? = some es[i] := List.getElem?_eq_getElem (by omega)
    have htk : es.take (i + 1) = es.take i ++ [es[i]] := by rw [List.take_add_one, he]; rfl
    have hl : (es.take i).length = i := by simp; omega
    rw [htk, plc_val, if_neg (ev_str e _), hl]
    by_cases h : e.tr = es[i].tr
    · have h' := Ev.tr_inj h
      rw [if_pos h]
      refine .inl ⟨i, ?_, rfl⟩
      rw [List.getElem?_append_right (by omega), hl, Nat.sub_self, h']
      rfl
    · rw [if_neg h]
      rcases ih (by omega) with ⟨j, h1, h2⟩ | ⟨h1, h2⟩
      · refine .inl ⟨j, ?_, h2⟩
        rw [List.getElem?_append_left (List.getElem?_eq_some_iff.mp h1).1]
        exact h1
      · refine .inr ⟨fun z => ?_, h2⟩
        rcases List.mem_append.mp z with z | z
        · exact h1 z
        · exact h (by rw [List.mem_singleton.mp z])
theorem plc_kind {es : List Ev} (k : Str) : ∀ i, i ≤ es.length → (∃ (j : Nat) (x : Ev), j < i ∧ es[j]? = some x ∧ x.kind = k ∧ (∀ (m : Nat) (y : Ev), j < m → m < i → es[m]? = some y → y.kind ≠ k) ∧ valV (plc (es.take i) 0 []) (.str k) = some (.int (j : Nat))) ∨ ((∀ (m : Nat) (y : Ev), m < i → es[m]? = some y → y.kind ≠ k) ∧ valV (plc (es.take i) 0 []) (.str k) = none) := by
  intro i
  induction i with
  | zero => intro _; exact .inr ⟨fun m y h => absurd h (Nat.not_lt_zero _), rfl⟩
  | succ i ih =>
    intro hi
    have he : es[i]? = some es[i] := List.getElem?_eq_getElem (by omega)
    have htk : es.take (i + 1) = es.take i ++ [es[i]] := by rw [List.take_add_one, he]; rfl
    have hl : (es.take i).length = i := by simp; omega
    rw [htk, plc_val, hl]
    by_cases h : k = es[i].kind
    · rw [if_pos (by rw [h])]
      exact .inl ⟨i, es[i], by omega, he, h.symm, fun m y h1 h2 => absurd h1 (by omega), rfl⟩
    · rw [if_neg (by simpa using h), if_neg (fun z => ev_str _ _ z.symm)]
      rcases ih (by omega) with ⟨j, x, h0, h1, h2, h3, h4⟩ | ⟨h1, h2⟩
      · refine .inl ⟨j, x, by omega, h1, h2, fun m y a b c => ?_, h4⟩
        by_cases hm : m = i
        · subst hm
          rw [he] at c
          cases c
          exact fun z => h z.symm
        · exact h3 m y a (by omega) c
      · refine .inr ⟨fun m y b c => ?_, h2⟩
        by_cases hm : m = i
        · subst hm
          rw [he] at c
          cases c
          exact fun z => h z.symm
        · exact h1 m y (by omega) c
def LawPl (es : List Ev) (e : Ev) (j : Nat) : Prop := (e ∈ es ∧ es[j]? = some e) ∨ (e ∉ es ∧ ((∃ x, es[j]? = some x ∧ x.kind = e.kind ∧ ∀ (m : Nat) (y : Ev), j < m → es[m]? = some y → y.kind ≠ e.kind) ∨ (j = 0 ∧ ∀ (m : Nat) (y : Ev), es[m]? = some y → y.kind ≠ e.kind)))
theorem nd_at {es : List Ev} (hn : es.Nodup) {i j : Nat} {e : Ev} (h1 : es[i]? = some e) (h2 : es[j]? = some e) : i = j := by
  obtain ⟨l1, e1⟩ := List.getElem?_eq_some_iff.mp h1
  obtain ⟨l2, e2⟩ := List.getElem?_eq_some_iff.mp h2
  have pw := List.pairwise_iff_getElem.mp hn
  rcases Nat.lt_trichotomy i j with h | h | h
  · exact absurd (e1.trans e2.symm) (pw i j l1 l2 h)
  · exact h
  · exact absurd (e2.trans e1.symm) (pw j i l2 l1 h)
theorem pl_same {es : List Ev} (hn : es.Nodup) {e : Ev} {j : Nat} (h : LawPl es e j) : plOf es e = some (.int (j : Nat)) := by
  have a := plc_ev hn e es.length (Nat.le_refl _)
  have b := plc_kind (es := es) e.kind es.length (Nat.le_refl _)
  rw [List.take_length] at a b
  unfold plOf
  rcases h with ⟨h1, h2⟩ | ⟨h1, h2⟩
  · rcases a with ⟨i, a1, a2⟩ | ⟨a1, _⟩
    · rw [a2, nd_at hn h2 a1]
      rfl
    · exact absurd h1 a1
  · rcases a with ⟨i, a1, _⟩ | ⟨_, a2⟩
    · exact absurd (List.mem_of_getElem? a1) h1
    · rw [a2]
      rcases h2 with ⟨x, k1, k2, k3⟩ | ⟨rfl, k3⟩
      · rcases b with ⟨i, y, b0, b1, b2, b3, b4⟩ | ⟨b1, _⟩
        · rw [b4]
          have : i = j := by
            rcases Nat.lt_trichotomy i j with h | h | h
            · exact absurd k2 (b3 j x h (List.getElem?_eq_some_iff.mp k1).1 k1)
            · exact h
            · exact absurd b2 (k3 i y h b1)
          rw [this]
          rfl
        · exact absurd k2 (b1 j x (List.getElem?_eq_some_iff.mp k1).1 k1)
      · rcases b with ⟨i, y, b0, b1, b2, b3, b4⟩ | ⟨_, b4⟩
        · exact absurd b2 (k3 i y b1)
        · rw [b4]
          rfl
theorem ev_mem {es : List Ev} {e : Ev} : e.tr ∈ es.map Ev.tr ↔ e ∈ es := by
  rw [List.mem_map]
  constructor
  · rintro ⟨x, hx, h⟩
    exact Ev.tr_inj h ▸ hx
  · intro h; exact ⟨e, h, rfl⟩
theorem evs_h (es : List Ev) : Tr.hs (es.map Ev.tr) ≤ 1 := by
  induction es with
  | nil => simp [Tr.hs]
  | cons e es ih =>
    have := e.tr_h
    simp only [List.map_cons, Tr.hs]
    omega
def sp_lplace (K : PySem.W.Frag) : Sp := fun vs H Q _ => ∃ (a : Addr) (us : List V) (v : V) (es : List Ev) (e : Ev), vs = [.ref a, v] ∧ H a = some (.lst us) ∧ Tr.Ats H (es.map Ev.tr) us [] ∧ e.tr.At H v [] ∧ es.Nodup ∧ es.length ≤ 100 ∧ ∀ (j : Nat) H', LawPl es e j → Same H H' → Q (.int (j : Nat)) H'
theorem ok_law_place (T : Txt K mg t) : FnOk P w K mg base CX0 1 t.a__law_place t.fd__law_place ["events", "event"] (sp_lplace K) := by
  refine T.F__law_place.ok sc_law_place (fun vs H Q E h => ?_) (fun cdv A outer s H vs Q E hr h => ?_)
  · obtain ⟨a, us, v, es, e, rfl, _⟩ := h
    rfl
  · obtain ⟨a, us, v, es, e, rfl, ha, hu, hv, hn, hl, q⟩ := h
    refine ⟨_, (@pss_cons _ _ _ _ _ (@ps_if _ _ _ _ _ _ _ _ (@pt_cmpR _ _ _ _ _ _ _ _ (kop_inF K (by exact hr.units)) (pv 1) (pv 0) (by with_unfolding_all rfl)) (@pss_one _ _ _ (@ps_ret _ _ _ _ (@kpe_bm _ K _ _ _ _ _ _ _ _ _ _ _ PySem.F.plainAttrs_list PySem.F.slot_list_index PySem.F.type_list_index (kmt_indexF K (by exact hr.units)) (pv 0) (@pa_cons _ _ _ _ _ (pv 1) (@pa_nil _) (by rfl)) (by rfl) (by rfl) (by rfl) (by rfl) (by rfl) (by rfl)))) (@pss_nil _))
      (@pss_cons _ _ _ _ _ (ps_lc (i := 2) (Nt := ["place"]) (Nf := ["event", "events"]) (caps := [1, 0]) rfl (comp_ok (sc := defScope s_law_place) rfl rfl (by decide +kernel) (by decide +kernel) (by decide +kernel) rfl (by decide +kernel)) (pi_range1 rfl T.z_range (@pa_cons _ _ _ _ _ (@pe_callB _ _ _ _ _ _ _ _ _ (kcl_len K) (by rfl) T.z_len bb_len (@pa_cons _ _ _ _ _ (pv 0) (@pa_nil _) (by rfl)) (by decide) (by decide) (by rfl) (by rfl)) (@pa_nil _) (by rfl))) (fun _ _ _ _ _ => (pg_name (i := 0) (show (["place", "event", "events"] : List Str).Nodup by decide +kernel) rfl (by first | exact Or.inl rfl | exact Or.inr rfl))) (fun _ _ _ _ _ => (@pts_one _ _ _ (@pt_cmpR _ _ _ _ _ _ _ _ op_eq (@pe_ix _ _ _ _ _ _ _ (kix_tup K) (@pe_ix _ _ _ _ _ _ _ (kix_list K) (pv 2) (pv 0) (fun _ _ => rfl)) (@pe_int _ _ _ _) (fun _ _ => rfl)) (@pe_ix _ _ _ _ _ _ _ (kix_tup K) (pv 1) (@pe_int _ _ _ _) (fun _ _ => rfl)) (nomark _)))) (fun _ _ _ _ _ => (pv 0)) sc_law_place.nd rfl (by first | exact Or.inl rfl | exact Or.inr rfl) rfl)
      (@pss_one _ _ _ (@ps_ret _ _ _ _ (@pe_callB _ _ _ _ _ _ _ _ _ (kcl_maxL K) (by rfl) T.z_max bb_max (@pa_cons _ _ _ _ _ (@pe_op _ _ _ _ _ _ _ _ op_plus (@pe_lstN _ _ _ _ (@pa_cons _ _ _ _ _ (@pe_int _ _ _ _) (@pa_nil _) (by rfl))) (pv 2)) (@pa_nil _) (by rfl)) (by decide) (by decide) (by rfl) (by rfl)))))), ?_⟩
    have ul : us.length = es.length := by rw [hu.len, List.length_map]
    have eh := e.tr_h
    have esh := evs_h es
    obtain ⟨b, xs, rfl, hb⟩ := ev_at hv
    walk_at "go"
    refine i_inF hv (SqL.of ha) hu (by omega) (by omega) ?_
    walk_at "run"
    by_cases hm : e.tr ∈ es.map Ev.tr
    · refine i_itDT hm ?_
      walk_at "run"
      refine i_tyL (SqL.of ha) ?_
      walk_at "run"
      obtain ⟨j, hj, hje⟩ := List.mem_iff_getElem.mp (ev_mem.mp hm)
      have hj2 : es[j]? = some e := by rw [List.getElem?_eq_getElem hj, hje]
      refine ⟨e.tr, es.map Ev.tr, a, us, _, j, rfl, rfl, hv, SqL.of ha, hu, by omega, by omega, by rw [List.getElem?_map, hj2]; rfl, fun m hmj z => ?_, by omega, ?_⟩
      · rw [List.getElem?_map] at z
        obtain ⟨y, hy, hye⟩ := Option.map_eq_some_iff.mp z
        have := nd_at hn hj2 (by rw [hy, Ev.tr_inj hye])
        omega
      · exact q j H (.inl ⟨ev_mem.mp hm, hj2⟩) (Same.refl _)
    · refine i_itDF hm ?_
      have hm' : e ∉ es := fun z => hm (ev_mem.mpr z)
      walk_at "run"
      refine i_lenL (SqL.of ha) ?_
      rw [ul]
      walk_at "run"
      rw [Int.toNat_natCast]
      refine cc_range (n := es.length) (le_line (by omega)) (fun i acc H' => H' = H ∧ i ≤ es.length ∧ ∃ ns : List Nat, acc = natsV ns ∧ ns.length ≤ i ∧ ∀ k, k ∈ ns ↔ k < i ∧ ∃ x, es[k]? = some x ∧ x.kind = e.kind) ⟨rfl, Nat.zero_le _, [], rfl, Nat.le_refl _, fun k => by simp⟩ (fun i acc H' ⟨_, _, ns, e1, e2, _⟩ => by rw [e1, natsV_len]; exact e2) ?_ ?_
      · rintro i acc H' hi ⟨rfl, hi2, ns, rfl, hns, hk⟩
        rw [Int.zero_add]
        have hiu : i < us.length := by omega
        obtain ⟨tx, hx1, hx2⟩ := ats_get0 hu (List.getElem?_eq_getElem hiu)
        rw [List.getElem?_map] at hx1
        obtain ⟨y, hy, rfl⟩ := Option.map_eq_some_iff.mp hx1
        obtain ⟨c, ys, hc0, hc⟩ := ev_at hx2
        walk_at "run"
        refine i_ixL (SqL.of ha) (atI_nat (j := i) (v := .ref c) (by rw [List.getElem?_eq_getElem hiu, hc0])) ?_
        walk_at "run"
        refine i_ixT (SqT.of hc) (atI_nat (j := 0) rfl) ?_
        walk_at "run"
        refine i_ixT (SqT.of hb) (atI_nat (j := 0) rfl) ?_
        walk_at "run"
        refine ite2 (fun hc2 => ?_) (fun hc2 => ?_)
        · have hyk := of_decide_eq_true hc2
          walk_at "run"
          refine ⟨rfl, hi, ns ++ [i], by simp [natsV], by simp; omega, fun k => ?_⟩
          rw [List.mem_append, List.mem_singleton, hk]
          constructor
          · rintro (⟨h1, h2⟩ | rfl)
            · exact ⟨by omega, h2⟩
            · exact ⟨by omega, y, hy, hyk⟩
          · rintro ⟨h1, h2⟩
            by_cases hki : k = i
            · exact .inr hki
            · exact .inl ⟨by omega, h2⟩
        · have hyk : ¬ y.kind = e.kind := fun z => hc2 (decide_eq_true z)
          refine ⟨rfl, hi, ns, rfl, by omega, fun k => ?_⟩
          rw [hk]
          constructor
          · rintro ⟨h1, h2⟩
            exact ⟨by omega, h2⟩
          · rintro ⟨h1, x, h2, h3⟩
            refine ⟨?_, x, h2, h3⟩
            by_cases hki : k = i
            · subst hki
              rw [hy] at h2
              cases h2
              exact absurd h3 hyk
            · omega
      · rintro acc H' ⟨rfl, _, ns, rfl, hns, hk⟩ p1 H1 f1 s1 e1
        walk_at "run"
        intro p2 H2 f2 s2 e2
        walk_at "run"
        refine i_plusL e2 (s2 _ _ e1) (le_line (by rw [natsV_len]; simp; omega)) ?_
        intro p3 H3 f3 s3 e3
        walk_at "run"
        have e3' : H3 p3 = some (.lst ((0 :: ns.map fun (k : Nat) => (k : Int)).map V.int)) := by
          rw [e3]
          simp [natsV]
        refine i_maxL (SqL.of e3') (by simp) fun M hM hmax => ?_
        have s03 := s1.trans (s2.trans s3)
        rcases List.mem_cons.mp hM with rfl | hM
        · refine q 0 H3 (.inr ⟨hm', ?_⟩) s03
          by_cases h0 : ∃ x, es[0]? = some x ∧ x.kind = e.kind
          · obtain ⟨x, hx, hxk⟩ := h0
            refine .inl ⟨x, hx, hxk, fun m y hm1 hy hyk => ?_⟩
            have := hmax (m : Int) (List.mem_cons_of_mem _ (List.mem_map.mpr ⟨m, (hk m).mpr ⟨(List.getElem?_eq_some_iff.mp hy).1, y, hy, hyk⟩, rfl⟩))
            omega
          · refine .inr ⟨rfl, fun m y hy hyk => ?_⟩
            have := hmax (m : Int) (List.mem_cons_of_mem _ (List.mem_map.mpr ⟨m, (hk m).mpr ⟨(List.getElem?_eq_some_iff.mp hy).1, y, hy, hyk⟩, rfl⟩))
            obtain rfl : m = 0 := by omega
            exact h0 ⟨y, hy, hyk⟩
        · obtain ⟨k, hkm, rfl⟩ := List.mem_map.mp hM
          obtain ⟨h1, x, hx, hxk⟩ := (hk k).mp hkm
          refine q k H3 (.inr ⟨hm', .inl ⟨x, hx, hxk, fun m y hm1 hy hyk => ?_⟩⟩) s03
          have := hmax (m : Int) (List.mem_cons_of_mem _ (List.mem_map.mpr ⟨m, (hk m).mpr ⟨(List.getElem?_eq_some_iff.mp hy).1, y, hy, hyk⟩, rfl⟩))
          omega
def ws4 : List Str := ["a", "no", "quiet", "yes"]
theorem ws4_nd : ws4.Nodup := by unfold ws4; decide +kernel
def sp_events (K : PySem.W.Frag) : Sp := fun vs H Q _ => ∃ (d l : Addr) (n : Nat), vs = [.ref d] ∧ Deck H d l n ∧ n ≤ 90000 ∧ ∀ (es : List Ev) p us H' n', H p = none → H' p = some (.lst us) → Tr.Ats H' (es.map Ev.tr) us [] → es.Nodup → es.length ≤ 15 → 0 < es.length → Off d l H H' → n' ≤ n + 14 → Deck H' d l n' → Q (.ref p) H'
theorem es_nd {ks : List Nat} {ws : List Str} (h1 : ks.Nodup) (h2 : ws.Nodup) : ([Ev.quiet] ++ ks.map Ev.key ++ ws.map Ev.word).Nodup := by
  have i1 : (ks.map Ev.key).Nodup := List.Pairwise.map _ (fun a b hab z => hab (by injection z)) h1
  have i2 : (ws.map Ev.word).Nodup := List.Pairwise.map _ (fun a b hab z => hab (by injection z)) h2
  unfold List.Nodup at *
  rw [List.pairwise_append, List.pairwise_append]
  refine ⟨⟨by simp, i1, ?_⟩, i2, ?_⟩
  · intro a ha b hb z
    obtain ⟨k, _, rfl⟩ := List.mem_map.mp hb
    rw [List.mem_singleton.mp ha] at z
    cases z
  · intro a ha b hb z
    obtain ⟨k, _, rfl⟩ := List.mem_map.mp hb
    rcases List.mem_append.mp ha with ha | ha
    · rw [List.mem_singleton.mp ha] at z
      cases z
    · obtain ⟨k', _, rfl⟩ := List.mem_map.mp ha
      cases z
theorem ok_law_events (T : Txt K mg t) : FnOk P w K mg base CX0 2 t.a__law_events t.fd__law_events ["deck"] (sp_events K) := by
  have G__law_take := ok_law_take (P := P) (w := w) (base := base) T
  refine T.F__law_events.ok sc_law_events (fun vs H Q E h => ?_) (fun cdv A outer s H vs Q E hr h => ?_)
  · obtain ⟨d, l, n, rfl, _⟩ := h
    rfl
  · obtain ⟨d, l, n, rfl, k, hn, q⟩ := h
    refine ⟨_, (@pss_cons _ _ _ _ _ (ps_lc (i := 1) (Nt := ["key"]) (Nf := ["deck"]) (caps := [0]) rfl (comp_ok (sc := defScope s_law_events) rfl rfl (by decide +kernel) (by decide +kernel) (by decide +kernel) rfl (by decide +kernel)) (pi_range1 rfl T.z_range (@pa_cons _ _ _ _ _ (@pe_int _ _ _ _) (@pa_nil _) (by rfl))) (fun _ _ _ _ _ => (pg_name (i := 0) (show (["key", "deck"] : List Str).Nodup by decide +kernel) rfl (by first | exact Or.inl rfl | exact Or.inr rfl))) (fun _ _ _ _ _ => (@pts_one _ _ _ (@pt_cmpR _ _ _ _ _ _ _ _ op_eq (@pe_call _ _ _ _ _ _ _ _ _ _ _ _ _ _ _ _ G__law_take (hr.mono (by omega)) rfl T.m__law_take T.F__law_take.kp T.b__law_take .nil pass0 (@pa_cons _ _ _ _ _ (pv 1) (@pa_cons _ _ _ _ _ (@pe_int _ _ _ _) (@pa_nil _) (by rfl)) (by rfl)) (by decide) (by rfl) (by rfl)) (@pe_int _ _ _ _) (nomark _)))) (fun _ _ _ _ _ => (pv 0)) sc_law_events.nd rfl (by first | exact Or.inl rfl | exact Or.inr rfl) rfl)
      (@pss_cons _ _ _ _ _ (ps_lc (i := 2) (Nt := ["word"]) (Nf := ["deck"]) (caps := [0]) rfl (comp_ok (sc := defScope s_law_events) rfl rfl (by decide +kernel) (by decide +kernel) (by decide +kernel) rfl (by decide +kernel)) (kpi_list K (@pe_lstN _ _ _ _ (@pa_cons _ _ _ _ _ (@pe_str _ _ _ _) (@pa_cons _ _ _ _ _ (@pe_str _ _ _ _) (@pa_cons _ _ _ _ _ (@pe_str _ _ _ _) (@pa_cons _ _ _ _ _ (@pe_str _ _ _ _) (@pa_nil _) (by rfl)) (by rfl)) (by rfl)) (by rfl)))) (fun _ _ _ _ _ => (pg_name (i := 0) (show (["word", "deck"] : List Str).Nodup by decide +kernel) rfl (by first | exact Or.inl rfl | exact Or.inr rfl))) (fun _ _ _ _ _ => (@pts_one _ _ _ (@pt_cmpR _ _ _ _ _ _ _ _ op_eq (@pe_call _ _ _ _ _ _ _ _ _ _ _ _ _ _ _ _ G__law_take (hr.mono (by omega)) rfl T.m__law_take T.F__law_take.kp T.b__law_take .nil pass0 (@pa_cons _ _ _ _ _ (pv 1) (@pa_cons _ _ _ _ _ (@pe_int _ _ _ _) (@pa_nil _) (by rfl)) (by rfl)) (by decide) (by rfl) (by rfl)) (@pe_int _ _ _ _) (nomark _)))) (fun _ _ _ _ _ => (pv 0)) sc_law_events.nd rfl (by first | exact Or.inl rfl | exact Or.inr rfl) rfl)
      (@pss_one _ _ _ (@ps_ret _ _ _ _ (@pe_op _ _ _ _ _ _ _ _ op_plus (@pe_op _ _ _ _ _ _ _ _ op_plus (@pe_lstN _ _ _ _ (@pa_cons _ _ _ _ _ (@pe_tupN _ _ _ _ _ (@pa_cons _ _ _ _ _ (@pe_str _ _ _ _) (@pa_nil _) (by rfl))) (@pa_nil _) (by rfl))) (pe_lc (Nt := ["key"]) (Nf := []) (caps := []) rfl (comp_ok (sc := defScope s_law_events) rfl rfl (by decide +kernel) (by decide +kernel) (by decide +kernel) rfl (by decide +kernel)) (kpi_list K (pv 1)) (fun _ _ _ _ _ => (pg_name (i := 0) (show (["key"] : List Str).Nodup by decide +kernel) rfl (by first | exact Or.inl rfl | exact Or.inr rfl))) (fun _ _ _ _ _ => (@pts_nil _)) (fun _ _ _ _ _ => (@pe_tupN _ _ _ _ _ (@pa_cons _ _ _ _ _ (@pe_str _ _ _ _) (@pa_cons _ _ _ _ _ (pv 0) (@pa_nil _) (by rfl)) (by rfl)))))) (pe_lc (Nt := ["word"]) (Nf := []) (caps := []) rfl (comp_ok (sc := defScope s_law_events) rfl rfl (by decide +kernel) (by decide +kernel) (by decide +kernel) rfl (by decide +kernel)) (kpi_list K (pv 2)) (fun _ _ _ _ _ => (pg_name (i := 0) (show (["word"] : List Str).Nodup by decide +kernel) rfl (by first | exact Or.inl rfl | exact Or.inr rfl))) (fun _ _ _ _ _ => (@pts_nil _)) (fun _ _ _ _ _ => (@pe_tupN _ _ _ _ _ (@pa_cons _ _ _ _ _ (@pe_str _ _ _ _) (@pa_cons _ _ _ _ _ (pv 0) (@pa_nil _) (by rfl)) (by rfl)))))))))), ?_⟩
    walk_at "go"
    refine cc_range (n := 10) (le_line (by decide)) (fun i acc H' => i ≤ 10 ∧ ∃ ks : List Nat, acc = natsV ks ∧ ks.Sublist (List.range i) ∧ Off d l H H' ∧ Deck H' d l (n + i)) ⟨by decide, [], rfl, by simp, Off.refl, k⟩ (fun i acc H' ⟨_, ks, e, e2, _⟩ => by rw [e, natsV_len]; simpa using e2.length_le) ?_ ?_
    · rintro i acc H' hi ⟨hi2, ks, rfl, hks, o', k'⟩
      rw [Int.zero_add]
      walk_at "run"
      refine ⟨d, l, n + i, 4, rfl, k', by decide, by decide, by omega, fun r H1 hr o1 k1 => ?_⟩
      walk_at "run"
      refine ite2 (fun h0 => ?_) (fun h0 => ?_)
      · walk_at "run"
        refine ⟨hi, ks ++ [i], by simp [natsV], ?_, o'.trans o1, k1⟩
        rw [List.range_succ]
        exact hks.append (List.Sublist.refl _)
      · refine ⟨hi, ks, rfl, ?_, o'.trans o1, k1⟩
        rw [List.range_succ]
        exact hks.trans (List.sublist_append_left _ _)
    · rintro acc H' ⟨_, ks, rfl, hks, o', k'⟩ pk H1 f1 s1 e1
      walk_at "run"
      intro pl H2 f2 s2 e2
      have k2 := k'.same (s1.trans s2)
      obtain ⟨z1, z2⟩ := (k'.same s1).new f2
      obtain ⟨y1, y2⟩ := k'.new f1
      have e2' : H2 pl = some (.lst (strsV ws4)) := e2
      refine ⟨pl, rfl, ⟨_, SqL.of e2'⟩, cc_list (xs := strsV ws4) (le_line (by decide)) (fun i acc H' => i ≤ 4 ∧ ∃ ws : List Str, acc = strsV ws ∧ ws.Sublist (ws4.take i) ∧ Off d l H2 H' ∧ Deck H' d l (n + 10 + i)) ⟨by decide, [], rfl, by simp, Off.refl, k2⟩ (fun i acc H' ⟨hi, ws, e, e2, o2, _⟩ => ⟨by rw [e]; have := e2.length_le; simp only [strsV, List.length_map, List.length_take] at this ⊢; omega, SqL.of (o2 _ _ z1 z2 e2')⟩) ?_ ?_⟩
      · rintro i x acc H' hx ⟨hi2, ws, rfl, hws, o2, k3⟩
        obtain ⟨s0, hs0, rfl⟩ : ∃ s0, ws4[i]? = some s0 ∧ x = .str s0 := by
          unfold strsV at hx
          rw [List.getElem?_map] at hx
          obtain ⟨s0, h1, h2⟩ := Option.map_eq_some_iff.mp hx
          exact ⟨s0, h1, h2.symm⟩
        have hi : i < 4 := (List.getElem?_eq_some_iff.mp hs0).1
        have htk : ws4.take (i + 1) = ws4.take i ++ [s0] := by rw [List.take_add_one, hs0]; rfl
        walk_at "run"
        refine ⟨d, l, n + 10 + i, 3, rfl, k3, by decide, by decide, by omega, fun r H3 hr o3 k4 => ?_⟩
        walk_at "run"
        refine ite2 (fun h0 => ?_) (fun h0 => ?_)
        · walk_at "run"
          refine ⟨hi, ws ++ [s0], by simp [strsV], ?_, o2.trans o3, k4⟩
          rw [htk]
          exact hws.append (List.Sublist.refl _)
        · refine ⟨hi, ws, rfl, ?_, o2.trans o3, k4⟩
          rw [htk]
          exact hws.trans (List.sublist_append_left _ _)
      · rintro acc H3 ⟨_, ws, rfl, hws, o2, k3⟩ pw H4 f4 s4 e4
        have hws' : ws.Sublist ws4 := hws.trans (List.take_sublist _ _)
        have kl : ks.length ≤ 10 := by simpa using hks.length_le
        have wl : ws.length ≤ 4 := hws'.length_le
        have e14 := s4 _ _ (o2 _ _ y1 y2 (s2 _ _ e1))
        walk_at "run"
        intro p5 H5 f5 s5 e5
        walk_at "run"
        intro p6 H6 f6 s6 e6
        walk_at "run"
        have s46 := s5.trans s6
        refine ⟨⟨_, SqL.of (s46 _ _ e14)⟩, cc_list (xs := natsV ks) (le_line (by rw [natsV_len]; omega)) (fun i acc H' => i ≤ ks.length ∧ acc.length = i ∧ Same H6 H' ∧ Tr.Ats H' (((ks.take i).map Ev.key).map Ev.tr) acc []) ⟨Nat.zero_le _, rfl, Same.refl _, ats_nil0.mpr rfl⟩ (fun i acc H' ⟨_, e, s', _⟩ => ⟨by omega, SqL.of ((s46.trans s') _ _ e14)⟩) ?_ ?_⟩
        · rintro i x acc H' hx ⟨hi, ea, s', hat⟩
          obtain ⟨k0, hk0, rfl⟩ : ∃ k0 : Nat, ks[i]? = some k0 ∧ x = .int (k0 : Nat) := by
            unfold natsV at hx
            rw [List.getElem?_map] at hx
            obtain ⟨s0, h1, h2⟩ := Option.map_eq_some_iff.mp hx
            exact ⟨s0, h1, h2.symm⟩
          walk_at "run"
          intro p7 H7 f7 s7 e7
          refine ⟨(List.getElem?_eq_some_iff.mp hk0).1, by simp [ea], s'.trans s7, ?_⟩
          rw [List.take_add_one, hk0, show ks.take i ++ (some k0).toList = ks.take i ++ [k0] from rfl, List.map_append, List.map_append]
          exact ats_app0.mpr ⟨_, _, rfl, hat.same s7, ats_cons0.mpr ⟨_, _, rfl, tup2_at e7 str_at0 int_at, ats_nil0.mpr rfl⟩⟩
        · rintro acc H' ⟨_, ea, s', hat⟩ p8 H8 f8 s8 e8
          rw [natsV_len, List.take_length] at hat
          have al : acc.length ≤ 10 := by rw [ea, natsV_len]; exact kl
          walk_at "run"
          refine i_plusL ((s'.trans s8) _ _ e6) e8 (le_line (by simp; omega)) ?_
          intro p9 H9 f9 s9 e9
          walk_at "run"
          have s49 := s46.trans (s'.trans (s8.trans s9))
          refine ⟨⟨_, SqL.of (s49 _ _ e4)⟩, cc_list (xs := strsV ws) (le_line (by simp [strsV]; omega)) (fun i acc H' => i ≤ ws.length ∧ acc.length = i ∧ Same H9 H' ∧ Tr.Ats H' (((ws.take i).map Ev.word).map Ev.tr) acc []) ⟨Nat.zero_le _, rfl, Same.refl _, ats_nil0.mpr rfl⟩ (fun i acc H' ⟨_, e, s', _⟩ => ⟨by omega, SqL.of ((s49.trans s') _ _ e4)⟩) ?_ ?_⟩
          · rintro i x acc H' hx ⟨hi, ea, s', hat⟩
            obtain ⟨k0, hk0, rfl⟩ : ∃ k0, ws[i]? = some k0 ∧ x = .str k0 := by
              unfold strsV at hx
              rw [List.getElem?_map] at hx
              obtain ⟨s0, h1, h2⟩ := Option.map_eq_some_iff.mp hx
              exact ⟨s0, h1, h2.symm⟩
            walk_at "run"
            intro p7 H7 f7 s7 e7
            refine ⟨(List.getElem?_eq_some_iff.mp hk0).1, by simp [ea], s'.trans s7, ?_⟩
            rw [List.take_add_one, hk0, show ws.take i ++ (some k0).toList = ws.take i ++ [k0] from rfl, List.map_append, List.map_append]
            exact ats_app0.mpr ⟨_, _, rfl, hat.same s7, ats_cons0.mpr ⟨_, _, rfl, tup2_at e7 str_at0 str_at0, ats_nil0.mpr rfl⟩⟩
          · rintro acc2 H10 ⟨_, ea2, s10, hat2⟩ p11 H11 f11 s11 e11
            rw [show (strsV ws).length = ws.length by simp [strsV], List.take_length] at hat2
            have al2 : acc2.length ≤ 4 := by rw [ea2]; simp [strsV]; omega
            walk_at "run"
            have s911 := s10.trans s11
            refine i_plusL (s911 _ _ e9) e11 (le_line (by simp; omega)) ?_
            intro p12 H12 f12 s12 e12
            have oA : Off d l H H3 := (o'.trans (s1.trans s2).off).trans o2
            have s412 := s4.trans (s49.trans (s911.trans s12))
            refine q ([Ev.quiet] ++ ks.map Ev.key ++ ws.map Ev.word) p12 _ H12 (n + 10 + 4) ?_ e12 ?_ (es_nd (hks.nodup List.nodup_range) (hws'.nodup ws4_nd)) (by simp; omega) (by simp) (oA.trans s412.off) (by omega) ?_
            · exact oA.free k3 (s4.free (s49.free (s911.free f12)))
            · rw [List.map_append, List.map_append]
              refine ats_app0.mpr ⟨_, _, rfl, ats_app0.mpr ⟨_, _, rfl, ats_cons0.mpr ⟨_, _, rfl, ?_, ats_nil0.mpr rfl⟩, hat.same (s8.trans (s9.trans (s911.trans s12)))⟩, hat2.same (s11.trans s12)⟩
              exact at_tup0.mpr ⟨p5, _, rfl, (s6.trans (s'.trans (s8.trans (s9.trans (s911.trans s12))))) _ _ e5, ats_cons0.mpr ⟨_, _, rfl, str_at0, ats_nil0.mpr rfl⟩⟩
            · have := k3.same s412
              exact this
theorem off_keep {d l : Addr} {H H' : Hp} {n : Nat} {gs : List Addr} (o : Off d l H H') (k : Deck H d l n) (h : ∀ x ∈ gs, x ≠ d ∧ x ≠ l) : Keep gs H H' := ⟨o.tups k, fun a ha xs e => o a _ (h a ha).1 (h a ha).2 e⟩
def RowsOk (es : List Ev) (m : Nat) (rows : List Row) : Prop := rows.length = es.length ∧ ∀ x ∈ rows, x.2 < m ∧ x.1.length ≤ 100
def sp_table (K : PySem.W.Frag) : Sp := fun vs H Q _ => ∃ (d l : Addr) (n : Nat), vs = [.ref d] ∧ Deck H d l n ∧ n ≤ 80000 ∧ ∀ v a b c es sy rs gs H' n', TabAt H' v a b c es sy rs gs → TabOk es sy rs → es.Nodup → 0 < es.length → 0 < rs.length → (∀ x ∈ a :: b :: c :: gs, H x = none) → Off d l H H' → n' ≤ n + 4000 → Deck H' d l n' → Q v H'
theorem ok_law_table (T : Txt K mg t) : FnOk P w K mg base CX0 3 t.a__law_table t.fd__law_table ["deck"] (sp_table K) := by
  have G__law_events := ok_law_events (P := P) (w := w) (base := base) T
  have G__law_said := ok_law_said (P := P) (w := w) (base := base) T
  have G__law_take := ok_law_take (P := P) (w := w) (base := base) T
  refine T.F__law_table.ok sc_law_table (fun vs H Q E h => ?_) (fun cdv A outer s H vs Q E hr h => ?_)
  · obtain ⟨d, l, n, rfl, _⟩ := h
    rfl
  · obtain ⟨d, l, n, rfl, k, hn, q⟩ := h
    refine ⟨_, (@pss_cons _ _ _ _ _ (@ps_set _ _ 1 _ _ _ _ sc_law_table.nd rfl (by first | exact Or.inl rfl | exact Or.inr rfl) (@pe_call _ _ _ _ _ _ _ _ _ _ _ _ _ _ _ _ G__law_events (hr.mono (by omega)) rfl T.m__law_events T.F__law_events.kp T.b__law_events .nil pass0 (@pa_cons _ _ _ _ _ (pv 0) (@pa_nil _) (by rfl)) (by decide) (by rfl) (by rfl)) (by rfl) (by first | exact Or.inl rfl | exact Or.inr rfl))
      (@pss_cons _ _ _ _ _ (@ps_set _ _ 2 _ _ _ _ sc_law_table.nd rfl (by first | exact Or.inl rfl | exact Or.inr rfl) (@pe_call _ _ _ _ _ _ _ _ _ _ _ _ _ _ _ _ G__law_said (hr.mono (by omega)) rfl T.m__law_said T.F__law_said.kp T.b__law_said .nil pass0 (@pa_cons _ _ _ _ _ (pv 0) (@pa_nil _) (by rfl)) (by decide) (by rfl) (by rfl)) (by rfl) (by first | exact Or.inl rfl | exact Or.inr rfl))
      (@pss_cons _ _ _ _ _ (@ps_set _ _ 3 _ _ _ _ sc_law_table.nd rfl (by first | exact Or.inl rfl | exact Or.inr rfl) (@pe_op _ _ _ _ _ _ _ _ op_plus (@pe_int _ _ _ _) (@pe_call _ _ _ _ _ _ _ _ _ _ _ _ _ _ _ _ G__law_take (hr.mono (by omega)) rfl T.m__law_take T.F__law_take.kp T.b__law_take .nil pass0 (@pa_cons _ _ _ _ _ (pv 0) (@pa_cons _ _ _ _ _ (@pe_int _ _ _ _) (@pa_nil _) (by rfl)) (by rfl)) (by decide) (by rfl) (by rfl))) (by rfl) (by first | exact Or.inl rfl | exact Or.inr rfl))
      (@pss_cons _ _ _ _ _ (@ps_set _ _ 4 _ _ _ _ sc_law_table.nd rfl (by first | exact Or.inl rfl | exact Or.inr rfl) (@pe_lstN _ _ _ _ (@pa_nil _)) (by rfl) (by first | exact Or.inl rfl | exact Or.inr rfl))
      (@pss_cons _ _ _ _ _ (@ps_for _ _ _ _ _ _ _ _ PassesOwn.never rfl (pi_range1 rfl T.z_range (@pa_cons _ _ _ _ _ (pv 3) (@pa_nil _) (by rfl))) (pg_name (i := 5) sc_law_table.nd rfl (by first | exact Or.inl rfl | exact Or.inr rfl)) (@pss_one _ _ _ (@ps_if _ _ _ _ _ _ _ _ (@pt_cmpR _ _ _ _ _ _ _ _ op_eq (@pe_call _ _ _ _ _ _ _ _ _ _ _ _ _ _ _ _ G__law_take (hr.mono (by omega)) rfl T.m__law_take T.F__law_take.kp T.b__law_take .nil pass0 (@pa_cons _ _ _ _ _ (pv 0) (@pa_cons _ _ _ _ _ (@pe_int _ _ _ _) (@pa_nil _) (by rfl)) (by rfl)) (by decide) (by rfl) (by rfl)) (@pe_int _ _ _ _) (nomark _)) (@pss_one _ _ _ (@ps_expr _ _ _ _ (@kpe_bm _ K _ _ _ _ _ _ _ _ _ _ _ PySem.F.plainAttrs_list PySem.F.slot_list_append PySem.F.type_list_append mt_append (pv 4) (@pa_cons _ _ _ _ _ (@pe_tupN _ _ _ _ _ (@pa_cons _ _ _ _ _ (@pe_bl _ _ _ _) (@pa_cons _ _ _ _ _ (pe_lc (Nt := ["event"]) (Nf := ["room"]) (caps := [5]) rfl (comp_ok (sc := defScope s_law_table) rfl rfl (by decide +kernel) (by decide +kernel) (by decide +kernel) rfl (by decide +kernel)) (kpi_list K (pv 1)) (fun _ _ _ _ _ => (pg_name (i := 0) (show (["event", "room"] : List Str).Nodup by decide +kernel) rfl (by first | exact Or.inl rfl | exact Or.inr rfl))) (fun _ _ _ _ _ => (@pts_nil _)) (fun _ _ _ _ _ => (@pe_tupN _ _ _ _ _ (@pa_cons _ _ _ _ _ (@pe_lstN _ _ _ _ (@pa_nil _)) (@pa_cons _ _ _ _ _ (pv 1) (@pa_nil _) (by rfl)) (by rfl))))) (@pa_nil _) (by rfl)) (by rfl))) (@pa_nil _) (by rfl)) (by rfl) (by rfl) (by rfl) (by rfl) (by rfl) (by rfl)) (by rfl))) (@pss_one _ _ _ (@ps_expr _ _ _ _ (@kpe_bm _ K _ _ _ _ _ _ _ _ _ _ _ PySem.F.plainAttrs_list PySem.F.slot_list_append PySem.F.type_list_append mt_append (pv 4) (@pa_cons _ _ _ _ _ (@pe_tupN _ _ _ _ _ (@pa_cons _ _ _ _ _ (@pe_bl _ _ _ _) (@pa_cons _ _ _ _ _ (pe_lc (Nt := ["event"]) (Nf := ["deck", "many"]) (caps := [0, 3]) rfl (comp_ok (sc := defScope s_law_table) rfl rfl (by decide +kernel) (by decide +kernel) (by decide +kernel) rfl (by decide +kernel)) (kpi_list K (pv 1)) (fun _ _ _ _ _ => (pg_name (i := 0) (show (["event", "deck", "many"] : List Str).Nodup by decide +kernel) rfl (by first | exact Or.inl rfl | exact Or.inr rfl))) (fun _ _ _ _ _ => (@pts_nil _)) (fun _ _ _ _ _ => (@pe_tupN _ _ _ _ _ (@pa_cons _ _ _ _ _ (@pe_call _ _ _ _ _ _ _ _ _ _ _ _ _ _ _ _ G__law_said (hr.mono (by omega)) rfl T.m__law_said T.F__law_said.kp T.b__law_said .nil pass0 (@pa_cons _ _ _ _ _ (pv 1) (@pa_nil _) (by rfl)) (by decide) (by rfl) (by rfl)) (@pa_cons _ _ _ _ _ (@pe_call _ _ _ _ _ _ _ _ _ _ _ _ _ _ _ _ G__law_take (hr.mono (by omega)) rfl T.m__law_take T.F__law_take.kp T.b__law_take .nil pass0 (@pa_cons _ _ _ _ _ (pv 1) (@pa_cons _ _ _ _ _ (pv 2) (@pa_nil _) (by rfl)) (by rfl)) (by decide) (by rfl) (by rfl)) (@pa_nil _) (by rfl)) (by rfl))))) (@pa_nil _) (by rfl)) (by rfl))) (@pa_nil _) (by rfl)) (by rfl) (by rfl) (by rfl) (by rfl) (by rfl) (by rfl)) (by rfl))))) (by intro _; rfl))
      (@pss_one _ _ _ (@ps_ret _ _ _ _ (@pe_tupN _ _ _ _ _ (@pa_cons _ _ _ _ _ (pv 1) (@pa_cons _ _ _ _ _ (pv 2) (@pa_cons _ _ _ _ _ (pv 4) (@pa_nil _) (by rfl)) (by rfl)) (by rfl)))))))))), ?_⟩
    walk_at "go"
    refine ⟨d, l, n, rfl, k, by omega, fun es pe us H1 n1 f1 e1 hu hnd hel hep o1 hn1 k1 => ?_⟩
    walk_at "run"
    refine ⟨d, l, n1, rfl, k1, by omega, fun pb sy H2 n2 f2 e2 hsy o2 hn2 k2 => ?_⟩
    walk_at "run"
    refine ⟨d, l, n2, 12, rfl, k2, by decide, by decide, by omega, fun r H3 hr o3 k3 => ?_⟩
    walk_at "run"
    intro pc H4 f4 s4 e4
    walk_at "run"
    rw [show (1 + (r : Int)).toNat = r + 1 by omega]
    obtain ⟨pe1, pe2⟩ := k.new f1
    obtain ⟨pb1, pb2⟩ := k1.new f2
    obtain ⟨pc1, pc2⟩ := k3.new f4
    have o14 : Off d l H1 H4 := o2.trans (o3.trans s4.off)
    have e14 := o14 _ _ pe1 pe2 e1
    have hu4 := tr_tups_s hu (o14.tups k1)
    have e24 := (o3.trans s4.off) _ _ pb1 pb2 e2
    have k4 := k3.same s4
    have ul : us.length = es.length := by rw [hu.len, List.length_map]
    have hcpe : pe ≠ pc := fun z => by rw [z] at e1; have := o2.trans o3 |>.free k3 f4; rw [e1] at this; cases this
    have hcpb : pb ≠ pc := fun z => by rw [z] at e2; have := o3.free k3 f4; rw [e2] at this; cases this
    refine for_range (lo := 0) (n := r + 1) (fun i σ H' => i ≤ r + 1 ∧ ∃ (rs : List Room_) (acc : List V) (gs : List Addr) (m : Nat), H' pc = some (.lst acc) ∧ Tw.Ats H' (rs.map roomW) acc gs ∧ rs.length = i ∧ (∀ q ∈ rs, RowsOk es (r + 1) q.2) ∧ (∀ x ∈ gs, H4 x = none) ∧ (∀ x o, x ≠ d → x ≠ l → x ≠ pc → H4 x = some o → H' x = some o) ∧ Deck H' d l m ∧ m ≤ n2 + 1 + i * 200 ∧ ∃ y, σ = [some (.ref d), some (.ref pe), some (.ref pb), some (.int (1 + (r : Int))), some (.ref pc), y]) ⟨Nat.zero_le _, [], [], [], _, e4, by simp [Tw.Ats], rfl, by simp, by simp, fun x o _ _ _ e => e, k4, by omega, _, rfl⟩ ?_ ?_
    · rintro i σ H5 hi ⟨hi2, rs, acc, gs, m, hc5, hat5, hrl, hro, hgs, kp5, k5, hm5, y, rfl⟩
      rw [Int.zero_add]
      walk_at "run"
      refine ⟨d, l, m, 6, rfl, k5, by decide, by decide, by omega, fun r6 H6 hr6 o6 k6 => ?_⟩
      walk_at "run"
      have hc6 := o6 _ _ pc1 pc2 hc5
      have gsn : ∀ x ∈ gs, x ≠ d ∧ x ≠ l := fun x hx => k4.new (hgs x hx)
      have gsc : ∀ x ∈ gs, x ≠ pc := fun x hx z => by have := hgs x hx; rw [z, e4] at this; cases this
      have hat6 := hat5.mono (off_keep o6 k5 gsn)
      have kp6 : ∀ x o, x ≠ d → x ≠ l → x ≠ pc → H4 x = some o → H6 x = some o := fun x o a b c e => o6 x o a b (kp5 x o a b c e)
      have e16 := kp6 _ _ pe1 pe2 hcpe e14
      have al : acc.length = i := by rw [hat5.len, List.length_map, hrl]
      have fr6 : ∀ {x : Addr}, H6 x = none → H4 x = none := fun {x} z => by
        obtain ⟨z1, z2⟩ := k6.new z
        have z3 : x ≠ pc := fun q => by rw [q, hc6] at z; cases z
        cases e : H4 x with
        | none => rfl
        | some o => rw [kp6 x o z1 z2 z3 e] at z; cases z
      have fin : ∀ (b : Bool) (rows : List Row) (v : V) (fs2 : List Addr) (He : Hp) (m' : Nat), (roomW (b, rows)).At He v fs2 → (∀ x ∈ fs2, H6 x = none) → Off d l H6 He → Deck He d l m' → m' ≤ m + 200 → RowsOk es (r + 1) rows →
          He pc = some (.lst acc) ∧ (i + 1 ≤ r + 1 ∧ ∃ (rs : List Room_) (acc2 : List V) (gs : List Addr) (m : Nat), upd He pc (.lst (acc ++ [v])) pc = some (.lst acc2) ∧ Tw.Ats (upd He pc (.lst (acc ++ [v]))) (rs.map roomW) acc2 gs ∧ rs.length = i + 1 ∧ (∀ q ∈ rs, RowsOk es (r + 1) q.2) ∧ (∀ x ∈ gs, H4 x = none) ∧ (∀ x o, x ≠ d → x ≠ l → x ≠ pc → H4 x = some o → upd He pc (.lst (acc ++ [v])) x = some o) ∧ Deck (upd He pc (.lst (acc ++ [v]))) d l m ∧ m ≤ n2 + 1 + (i + 1) * 200) := by
        intro b rows v fs2 He m' hv hf oE kE hm' hro'
        have hcE := oE _ _ pc1 pc2 hc6
        have fsc : ∀ x ∈ fs2, x ≠ pc := fun x hx z => by have := hf x hx; rw [z, hc6] at this; cases this
        have tE : Tups He (upd He pc (.lst (acc ++ [v]))) := Tups.upd hcE
        refine ⟨hcE, hi, rs ++ [(b, rows)], acc ++ [v], gs ++ fs2, m', upd_same, ?_, by simp [hrl], ?_, ?_, fun x o a b c e => by rw [upd_ne c]; exact oE x o a b (kp6 x o a b c e), ?_, by omega⟩
        · rw [List.map_append]
          refine Tw.Ats.snoc ((hat6.mono (off_keep oE k6 gsn)).mono ⟨tE, fun a ha xs e => by rw [upd_ne (gsc a ha)]; exact e⟩) (hv.mono ⟨tE, fun a ha xs e => by rw [upd_ne (fsc a ha)]; exact e⟩)
        · intro q hq
          rcases List.mem_append.mp hq with hq | hq
          · exact hro q hq
          · rw [List.mem_singleton.mp hq]; exact hro'
        · intro x hx
          rcases List.mem_append.mp hx with hx | hx
          · exact hgs x hx
          · exact fr6 (hf x hx)
        · obtain ⟨ms, z, g1, g2, g3⟩ := kE.ex
          exact ⟨ms, z, by rw [upd_ne pc1.symm]; exact g1, by rw [upd_ne pc2.symm]; exact g2, g3⟩
      refine ite2 (fun h0 => ?_) (fun h0 => ?_)
      · walk_at "run"
        refine i_tyL (SqL.of hc6) ?_
        walk_at "run"
        refine ⟨⟨_, SqL.of e16⟩, cc_list (xs := us) (le_line (by omega)) (fun j acc H' => j ≤ es.length ∧ acc.length = j ∧ Same H6 H' ∧ ∃ fs, Tw.Ats H' ((List.replicate j (([], i) : Row)).map rowW) acc fs ∧ ∀ x ∈ fs, H6 x = none) ⟨Nat.zero_le _, rfl, Same.refl _, [], by simp [Tw.Ats], by simp⟩ (fun j acc H' ⟨_, e, s', _⟩ => ⟨by omega, SqL.of (s' _ _ e16)⟩) ?_ ?_⟩
        · rintro j x acc3 H' hx ⟨hj, ea, s', fs, hat, hfs⟩
          have hj' : j < us.length := (List.getElem?_eq_some_iff.mp hx).1
          walk_at "run"
          intro p7 H7 f7 s7 e7
          walk_at "run"
          intro p8 H8 f8 s8 e8
          refine ⟨by omega, by simp [ea], s'.trans (s7.trans s8), fs ++ [p7], ?_, ?_⟩
          · rw [List.replicate_succ', List.map_append]
            exact (hat.same (s7.trans s8)).snoc (row_w.mpr ⟨p8, p7, rfl, e8, s8 _ _ e7, rfl⟩)
          · intro x hx
            rcases List.mem_append.mp hx with hx | hx
            · exact hfs x hx
            · rw [List.mem_singleton.mp hx]; exact s'.free f7
        · rintro acc3 H7 ⟨_, ea, s7, fs, hat, hfs⟩ p8 H8 f8 s8 e8
          rw [ul] at hat
          walk_at "run"
          intro p9 H9 f9 s9 e9
          walk_at "run"
          have s69 := s7.trans (s8.trans s9)
          obtain ⟨g1, g2⟩ := fin true (List.replicate es.length ([], i)) (.ref p9) (p8 :: fs) H9 (m + 1) (room_w.mpr ⟨p9, p8, acc3, fs, rfl, e9, s9 _ _ e8, hat.same (s8.trans s9), rfl⟩) (fun x hx => by
            rcases List.mem_cons.mp hx with rfl | hx
            · exact s7.free f8
            · exact hfs x hx) s69.off (k6.same s69) (by omega) ⟨by simp, fun x hx => by
            rw [(List.mem_replicate.mp hx).2]
            exact ⟨hi, by simp⟩⟩
          refine i_append g1 (Nat.lt_of_lt_of_le (show acc.length < 1000000 by omega) (le_line (Nat.le_refl _))) ?_
          obtain ⟨x1, rs2, a2, gs2, m2, x2, x3, x4, x5, x6, x7, x8, x9⟩ := g2
          exact ⟨x1, rs2, a2, gs2, m2, x2, x3, x4, x5, x6, x7, x8, x9, _, rfl⟩
      · walk_at "run"
        refine i_tyL (SqL.of hc6) ?_
        walk_at "run"
        refine ⟨⟨_, SqL.of e16⟩, cc_list (xs := us) (le_line (by omega)) (fun j acc H' => j ≤ es.length ∧ acc.length = j ∧ Off d l H6 H' ∧ ∃ (rows : List Row) (fs : List Addr) (m' : Nat), rows.length = j ∧ (∀ x ∈ rows, x.2 < r + 1 ∧ x.1.length ≤ 100) ∧ Tw.Ats H' (rows.map rowW) acc fs ∧ (∀ x ∈ fs, H6 x = none) ∧ Deck H' d l m' ∧ m' ≤ m + 1 + j * 11) ⟨Nat.zero_le _, rfl, Off.refl, [], [], m + 1, rfl, by simp, by simp [Tw.Ats], by simp, k6, by omega⟩ (fun j acc H' ⟨_, e, o', _⟩ => ⟨by omega, SqL.of (o' _ _ pe1 pe2 e16)⟩) ?_ ?_⟩
        · rintro j x acc3 H' hx ⟨hj, ea, o', rows, fs, m', hrw, hok, hat, hfs, k', hm'⟩
          have hj' : j < us.length := (List.getElem?_eq_some_iff.mp hx).1
          walk_at "run"
          refine ⟨d, l, m', rfl, k', by omega, fun p7 ss H7 n7 f7 e7 hss o7 hn7 k7 => ?_⟩
          walk_at "run"
          rw [show (1 + (r : Int)) = ((r + 1 : Nat) : Int) by omega]
          refine ⟨d, l, n7, r + 1, rfl, k7, by omega, by omega, by omega, fun w8 H8 hw8 o8 k8 => ?_⟩
          walk_at "run"
          intro p9 H9 f9 s9 e9
          obtain ⟨z1, z2⟩ := k'.new f7
          have fsn : ∀ x ∈ fs, x ≠ d ∧ x ≠ l := fun x hx => k6.new (hfs x hx)
          refine ⟨by omega, by simp [ea], o'.trans (o7.trans (o8.trans s9.off)), rows ++ [(ss, w8)], fs ++ [p7], n7 + 1, by simp [hrw], ?_, ?_, ?_, k8.same s9, by omega⟩
          · intro x hx
            rcases List.mem_append.mp hx with hx | hx
            · exact hok x hx
            · rw [List.mem_singleton.mp hx]; exact ⟨hw8, (show ss.length ≤ 100 by omega)⟩
          · rw [List.map_append]
            refine Tw.Ats.snoc (hat.mono ((off_keep o7 k' fsn).trans ((off_keep o8 k7 fsn).trans (s9.keep _)))) (row_w.mpr ⟨p9, p7, rfl, e9, s9 _ _ (o8 _ _ z1 z2 e7), rfl⟩)
          · intro x hx
            rcases List.mem_append.mp hx with hx | hx
            · exact hfs x hx
            · rw [List.mem_singleton.mp hx]; exact o'.free k' f7
        · rintro acc3 H7 ⟨_, ea, o7, rows, fs, m', hrw, hok, hat, hfs, k7, hm'⟩ p8 H8 f8 s8 e8
          walk_at "run"
          intro p9 H9 f9 s9 e9
          walk_at "run"
          obtain ⟨g1, g2⟩ := fin false rows (.ref p9) (p8 :: fs) H9 m' (room_w.mpr ⟨p9, p8, acc3, fs, rfl, e9, s9 _ _ e8, hat.same (s8.trans s9), rfl⟩) (fun x hx => by
            rcases List.mem_cons.mp hx with rfl | hx
            · exact o7.free k7 f8
            · exact hfs x hx) (o7.trans (s8.trans s9).off) (k7.same (s8.trans s9)) (by omega) ⟨by omega, hok⟩
          refine i_append g1 (Nat.lt_of_lt_of_le (show acc.length < 1000000 by omega) (le_line (Nat.le_refl _))) ?_
          obtain ⟨x1, rs2, a2, gs2, m2, x2, x3, x4, x5, x6, x7, x8, x9⟩ := g2
          exact ⟨x1, rs2, a2, gs2, m2, x2, x3, x4, x5, x6, x7, x8, x9, _, rfl⟩
    · rintro σ H5 ⟨hi2, rs, acc, gs, m, hc5, hat5, hrl, hro, hgs, kp5, k5, hm5, y, rfl⟩
      walk_at "run"
      intro pt H6 f6 s6 e6
      have kpA : ∀ x o, x ≠ d → x ≠ l → x ≠ pc → H4 x = some o → H6 x = some o := fun x o a b c e => s6 _ _ (kp5 x o a b c e)
      have t46 : Tups H4 H6 := fun b ys e => by
        obtain ⟨ms, z, g1, g2, _⟩ := k4.ex
        exact kpA b _ (ne_of e g1 (fun z => nomatch z)) (ne_of e g2 (fun z => nomatch z)) (ne_of e e4 (fun z => nomatch z)) e
      have hH4 : ∀ {x : Addr}, H4 x = none → H x = none := fun {x} z => (o1.trans o14).free k4 z
      refine q _ pe pb pc es sy rs gs H6 m ⟨pt, us, acc, rfl, e6, kpA _ _ pe1 pe2 hcpe e14, tr_tups_s hu4 t46, kpA _ _ pb1 pb2 hcpb e24, s6 _ _ hc5, hat5.same s6⟩ ⟨by omega, by omega, by omega, fun r0 hr0 => ⟨(hro r0 hr0).1, fun x hx => by have := (hro r0 hr0).2 x hx; omega⟩⟩ hnd hep (by omega) ?_ ?_ (by omega) (k5.same s6)
      · intro x hx
        rcases List.mem_cons.mp hx with rfl | hx
        · exact f1
        · rcases List.mem_cons.mp hx with rfl | hx
          · exact o1.free k1 f2
          · rcases List.mem_cons.mp hx with rfl | hx
            · exact (o1.trans (o2.trans o3)).free k3 f4
            · exact hH4 (hgs x hx)
      · intro x o a b e
        have e44 := (o1.trans o14) x o a b e
        refine kpA x o a b (fun z => ?_) e44
        have := (o1.trans (o2.trans o3)).free k3 f4
        rw [← z, e] at this
        cases this
def sp_copied (K : PySem.W.Frag) : Sp := fun vs H Q _ => ∃ v a b c es sy rs gs, vs = [v] ∧ TabAt H v a b c es sy rs gs ∧ TabOk es sy rs ∧ ∀ v' a' b' c' gs' H', TabAt H' v' a' b' c' es sy rs gs' → (∀ x ∈ a' :: b' :: c' :: gs', H x = none) → Same H H' → Q v' H'
theorem ok_law_copied (T : Txt K mg t) : FnOk P w K mg base CX0 1 t.a__law_copied t.fd__law_copied ["table"] (sp_copied K) := by
  refine T.F__law_copied.ok sc_law_copied (fun vs H Q E h => ?_) (fun cdv A outer s H vs Q E hr h => ?_)
  · obtain ⟨v, a, b, c, es, sy, rs, gs, rfl, _⟩ := h
    rfl
  · obtain ⟨v, a, b, c, es, sy, rs, gs, rfl, hT, ok, q⟩ := h
    refine ⟨_, (@pss_cons _ _ _ _ _ (ps_lc (i := 1) (Nt := ["over", "rows"]) (Nf := []) (caps := []) rfl (comp_ok (sc := defScope s_law_copied) rfl rfl (by decide +kernel) (by decide +kernel) (by decide +kernel) rfl (by decide +kernel)) (kpi_list K (@pe_ix _ _ _ _ _ _ _ (kix_tup K) (pv 0) (@pe_int _ _ _ _) (fun _ _ => rfl))) (fun _ _ _ _ _ => (kpg_tup K (n := 2) rfl (pgs_cons (pg_name (i := 0) (show (["over", "rows"] : List Str).Nodup by decide +kernel) rfl (by first | exact Or.inl rfl | exact Or.inr rfl)) (pgs_cons (pg_name (i := 1) (show (["over", "rows"] : List Str).Nodup by decide +kernel) rfl (by first | exact Or.inl rfl | exact Or.inr rfl)) (@pgs_nil _))))) (fun _ _ _ _ _ => (@pts_nil _)) (fun _ _ _ _ _ => (@pe_tupN _ _ _ _ _ (@pa_cons _ _ _ _ _ (pv 0) (@pa_cons _ _ _ _ _ (pe_lc (Nt := ["said", "there"]) (Nf := []) (caps := []) rfl (comp_ok rfl rfl (by decide +kernel) (by decide +kernel) (fun y hy h => absurd h ((show ∀ y ∈ _, y.2 ≠ NameKind.free by decide +kernel) y hy)) rfl (by decide +kernel)) (kpi_list K (pv 1)) (fun _ _ _ _ _ => (kpg_tup K (n := 2) rfl (pgs_cons (pg_name (i := 0) (show (["said", "there"] : List Str).Nodup by decide +kernel) rfl (by first | exact Or.inl rfl | exact Or.inr rfl)) (pgs_cons (pg_name (i := 1) (show (["said", "there"] : List Str).Nodup by decide +kernel) rfl (by first | exact Or.inl rfl | exact Or.inr rfl)) (@pgs_nil _))))) (fun _ _ _ _ _ => (@pts_nil _)) (fun _ _ _ _ _ => (@pe_tupN _ _ _ _ _ (@pa_cons _ _ _ _ _ (@pe_callTy _ _ _ _ _ _ _ _ _ (kcl_list K) (by rfl) T.z_list bb_list (@pa_cons _ _ _ _ _ (pv 0) (@pa_nil _) (by rfl)) (by decide) (by decide) (by rfl) (by rfl)) (@pa_cons _ _ _ _ _ (pv 1) (@pa_nil _) (by rfl)) (by rfl))))) (@pa_nil _) (by rfl)) (by rfl)))) sc_law_copied.nd rfl (by first | exact Or.inl rfl | exact Or.inr rfl) rfl)
      (@pss_one _ _ _ (@ps_ret _ _ _ _ (@pe_tupN _ _ _ _ _ (@pa_cons _ _ _ _ _ (@pe_callTy _ _ _ _ _ _ _ _ _ (kcl_list K) (by rfl) T.z_list bb_list (@pa_cons _ _ _ _ _ (@pe_ix _ _ _ _ _ _ _ (kix_tup K) (pv 0) (@pe_int _ _ _ _) (fun _ _ => rfl)) (@pa_nil _) (by rfl)) (by decide) (by decide) (by rfl) (by rfl)) (@pa_cons _ _ _ _ _ (@pe_callTy _ _ _ _ _ _ _ _ _ (kcl_list K) (by rfl) T.z_list bb_list (@pa_cons _ _ _ _ _ (@pe_ix _ _ _ _ _ _ _ (kix_tup K) (pv 0) (@pe_int _ _ _ _) (fun _ _ => rfl)) (@pa_nil _) (by rfl)) (by decide) (by decide) (by rfl) (by rfl)) (@pa_cons _ _ _ _ _ (pv 1) (@pa_nil _) (by rfl)) (by rfl)) (by rfl)))))), ?_⟩
    obtain ⟨tt, us, rvs, rfl, h1, h2, h3, h4, h5, h6⟩ := hT.ex
    walk_at "go"
    refine i_ixT (SqT.of h1) (atI_nat (j := 2) rfl) ?_
    walk_at "run"
    have rl : rvs.length = rs.length := by rw [h6.len, List.length_map]
    have o1 := ok.ne
    have o2 := ok.ns
    have o3 := ok.nr
    refine ⟨⟨_, SqL.of h5⟩, cc_pairs (xs := rvs) (le_line (by omega)) (fun i acc H' => i ≤ rs.length ∧ acc.length = i ∧ Same H H' ∧ ∃ fs', Tw.Ats H' ((rs.take i).map roomW) acc fs' ∧ ∀ a ∈ fs', H a = none) ⟨Nat.zero_le _, rfl, Same.refl _, [], by simp [Tw.Ats], by simp⟩ (fun i acc H' ⟨_, e, s', _⟩ => ⟨by omega, SqL.of (s' _ _ h5)⟩) ?_ ?_⟩
    · rintro i x acc H1 hx ⟨hi, ea, s1, fs', hat, hfr⟩
      obtain ⟨tx, fx, hx1, hx2, _⟩ := (h6.same s1).get i x hx
      rw [List.getElem?_map] at hx1
      obtain ⟨r, hr1, rfl⟩ := Option.map_eq_some_iff.mp hx1
      obtain ⟨q0, g, ps, gs0, rfl, hb, hg, hps, rfl⟩ := room_w.mp hx2
      have hi' : i < rs.length := (List.getElem?_eq_some_iff.mp hr1).1
      obtain ⟨k1, k2⟩ := ok.ok r (List.mem_of_getElem? hr1)
      have pl : ps.length = r.2.length := by rw [hps.len, List.length_map]
      refine ⟨q0, _, _, rfl, SqT.of hb, ?_⟩
      walk_at "run"
      refine ⟨⟨_, SqL.of hg⟩, cc_pairs (xs := ps) (le_line (by omega)) (fun j acc H' => j ≤ r.2.length ∧ acc.length = j ∧ Same H1 H' ∧ ∃ fs', Tw.Ats H' ((r.2.take j).map rowW) acc fs' ∧ ∀ a ∈ fs', H1 a = none) ⟨Nat.zero_le _, rfl, Same.refl _, [], by simp [Tw.Ats], by simp⟩ (fun j acc H' ⟨_, e, s', _⟩ => ⟨by omega, SqL.of (s' _ _ hg)⟩) ?_ ?_⟩
      · rintro j y acc2 H2 hy ⟨hj, ea2, s2, fs2, hat2, hfr2⟩
        obtain ⟨ty, fy, hy1, hy2, _⟩ := (hps.same s2).get j y hy
        rw [List.getElem?_map] at hy1
        obtain ⟨w0, hw, rfl⟩ := Option.map_eq_some_iff.mp hy1
        obtain ⟨k, sl, rfl, hk, hsl, rfl⟩ := row_w.mp hy2
        refine ⟨k, _, _, rfl, SqT.of hk, ?_⟩
        walk_at "run"
        refine i_listL (SqL.of hsl) ?_
        intro p1 H3 f3 s3 e3
        walk_at "run"
        intro p2 H4 f4 s4 e4
        refine ⟨(List.getElem?_eq_some_iff.mp hw).1, by simp [ea2], s2.trans (s3.trans s4), fs2 ++ [p1], ?_, ?_⟩
        · rw [List.take_add_one, hw, List.map_append]
          exact (hat2.same (s3.trans s4)).snoc (row_w.mpr ⟨p2, p1, rfl, e4, s4 _ _ e3, rfl⟩)
        · intro a ha
          rcases List.mem_append.mp ha with ha | ha
          · exact hfr2 a ha
          · rw [List.mem_singleton.mp ha]; exact s2.free f3
      · rintro acc2 H2 ⟨_, ea2, s2, fs2, hat2, hfr2⟩ p1 H3 f3 s3 e3
        rw [pl, List.take_length] at hat2
        walk_at "run"
        intro p2 H4 f4 s4 e4
        have s14 := s2.trans (s3.trans s4)
        refine ⟨hi', by simp [ea], s1.trans s14, fs' ++ (p1 :: fs2), ?_, ?_⟩
        · rw [List.take_add_one, hr1, List.map_append]
          exact (hat.same s14).snoc (room_w.mpr ⟨p2, p1, acc2, fs2, rfl, e4, s4 _ _ e3, hat2.same (s3.trans s4), rfl⟩)
        · intro a ha
          rcases List.mem_append.mp ha with ha | ha
          · exact hfr a ha
          · rcases List.mem_cons.mp ha with rfl | ha
            · exact s1.free (s2.free f3)
            · exact s1.free (hfr2 a ha)
    · rintro acc H1 ⟨_, ea, s1, fs', hat, hfr⟩ pc H2 f2 s2 e2
      rw [rl, List.take_length] at hat
      have s02 := s1.trans s2
      walk_at "run"
      refine i_ixT (SqT.of (s02 _ _ h1)) (atI_nat (j := 0) rfl) ?_
      walk_at "run"
      refine i_listL (SqL.of (s02 _ _ h2)) ?_
      intro pa H3 f3 s3 e3
      walk_at "run"
      have s03 := s02.trans s3
      refine i_ixT (SqT.of (s03 _ _ h1)) (atI_nat (j := 1) rfl) ?_
      walk_at "run"
      refine i_listL (SqL.of (s03 _ _ h4)) ?_
      intro pb H4 f4 s4 e4
      walk_at "run"
      intro pt H5 f5 s5 e5
      have s05 := s03.trans (s4.trans s5)
      refine q _ pa pb pc fs' H5 ⟨pt, us, acc, rfl, e5, (s4.trans s5) _ _ e3, h3.same s05, s5 _ _ e4, (s3.trans (s4.trans s5)) _ _ e2, hat.same (s2.trans (s3.trans (s4.trans s5)))⟩ ?_ s05
      intro x hx
      rcases List.mem_cons.mp hx with rfl | hx
      · exact s02.free f3
      · rcases List.mem_cons.mp hx with rfl | hx
        · exact s03.free f4
        · rcases List.mem_cons.mp hx with rfl | hx
          · exact s1.free f2
          · exact hfr x hx
structure Rest (S : Addr → Prop) (H H' : Hp) : Prop where
  k : ∀ x o, ¬ S x → H x = some o → H' x = some o
  l : ∀ x, S x → ∃ vs, H x = some (.lst vs)
theorem Rest.tups {S : Addr → Prop} {H H' : Hp} (r : Rest S H H') : Tups H H' := fun b ys e => r.k b _ (fun z => by
  obtain ⟨vs, h⟩ := r.l b z
  rw [e] at h
  cases h) e
theorem Rest.keep {S : Addr → Prop} {H H' : Hp} (r : Rest S H H') {gs : List Addr} (h : ∀ x ∈ gs, ¬ S x) : Keep gs H H' := ⟨r.tups, fun a ha xs e => r.k a _ (h a ha) e⟩
theorem Rest.of {H H' : Hp} (s : Same H H') : Rest (fun _ => False) H H' := ⟨fun x o _ e => s x o e, fun x h => h.elim⟩
theorem Rest.off {d l : Addr} {H H' : Hp} {n : Nat} (o : Off d l H H') (k : Deck H d l n) : Rest (fun x => x = d ∨ x = l) H H' := by
  obtain ⟨ms, z, h1, h2, _⟩ := k.ex
  refine ⟨fun x u hx e => o x u (fun z => hx (.inl z)) (fun z => hx (.inr z)) e, fun x hx => ?_⟩
  rcases hx with rfl | rfl
  · exact ⟨_, h1⟩
  · exact ⟨_, h2⟩
theorem MAt.rest {P : Params} {C p d s c : Addr} {S : Addr → Prop} {H H' : Hp} {es : List Ev} {sy : List Str} {rs : List Room_} {gs : List Addr} (m : MAt P C H p d s c es sy rs gs) (r : Rest S H H') (hn : ∀ x ∈ s :: c :: gs, ¬ S x) : MAt P C H' p d s c es sy rs gs := by
  obtain ⟨dx, rvs, h1, h2, h3, h4, h5⟩ := m.ex
  obtain ⟨φ, hφ⟩ := h2.ext
  have nl : ∀ {x : Addr} {o : HO}, H x = some o → (∀ vs, o ≠ .lst vs) → ¬ S x := fun {x o} e n z => by
    obtain ⟨vs, h⟩ := r.l x z
    rw [e] at h
    injection h with h
    exact n _ h
  refine ⟨dx, rvs, r.k _ _ (nl h1 fun _ z => nomatch z) h1, h2.mono r.tups ?_, r.k _ _ (hn _ (by simp)) h3, r.k _ _ (hn _ (by simp)) h4, h5.mono (r.keep fun x hx => hn x (by simp [hx]))⟩
  rw [hφ]
  exact r.k _ _ (nl hφ fun _ z => nomatch z) hφ
theorem TabAt.rest {S : Addr → Prop} {H H' : Hp} {v : V} {a b c : Addr} {es : List Ev} {sy : List Str} {rs : List Room_} {gs : List Addr} (m : TabAt H v a b c es sy rs gs) (r : Rest S H H') (hn : ∀ x ∈ a :: b :: c :: gs, ¬ S x) : TabAt H' v a b c es sy rs gs := by
  obtain ⟨tt, us, rvs, rfl, h1, h2, h3, h4, h5, h6⟩ := m.ex
  exact ⟨tt, us, rvs, rfl, r.tups _ _ h1, r.k _ _ (hn _ (by simp)) h2, tr_tups_s h3 r.tups, r.k _ _ (hn _ (by simp)) h4, r.k _ _ (hn _ (by simp)) h5, h6.mono (r.keep fun x hx => hn x (by simp [hx]))⟩
theorem TabAt.same {H H' : Hp} {v : V} {a b c : Addr} {es : List Ev} {sy : List Str} {rs : List Room_} {gs : List Addr} (m : TabAt H v a b c es sy rs gs) (s : Same H H') : TabAt H' v a b c es sy rs gs := m.rest (.of s) fun _ _ z => z
theorem MAt.same {P : Params} {C p d s c : Addr} {H H' : Hp} {es : List Ev} {sy : List Str} {rs : List Room_} {gs : List Addr} (m : MAt P C H p d s c es sy rs gs) (s' : Same H H') : MAt P C H' p d s c es sy rs gs := m.rest (.of s') fun _ _ z => z
mutual
theorem tw_lst {H : Hp} : ∀ {x : Tw} {v : V} {fs : List Addr}, x.At H v fs → ∀ a ∈ fs, ∃ vs, H a = some (.lst vs)
  | .sc _, v, fs, h, a, m => by simp only [Tw.At] at h; rw [h.2.2] at m; cases m
  | .tup xs, v, fs, h, a, m => by
    simp only [Tw.At] at h
    obtain ⟨b, vs, _, _, r⟩ := h
    exact tws_lst r a m
  | .lst xs, v, fs, h, a, m => by
    simp only [Tw.At] at h
    obtain ⟨b, vs, gs, _, g, r, rfl⟩ := h
    rcases List.mem_cons.mp m with rfl | m
    · exact ⟨_, g⟩
    · exact tws_lst r a m
theorem tws_lst {H : Hp} : ∀ {xs : List Tw} {vs : List V} {fs : List Addr}, Tw.Ats H xs vs fs → ∀ a ∈ fs, ∃ vs, H a = some (.lst vs)
  | [], vs, fs, h, a, m => by simp only [Tw.Ats] at h; rw [h.2] at m; cases m
  | x :: xs, vs, fs, h, a, m => by
    simp only [Tw.Ats] at h
    obtain ⟨v, ws, f, g, _, rfl, h1, h2⟩ := h
    rcases List.mem_append.mp m with m | m
    · exact tw_lst h1 a m
    · exact tws_lst h2 a m
end
theorem TabAt.lst {H : Hp} {v : V} {a b c : Addr} {es : List Ev} {sy : List Str} {rs : List Room_} {gs : List Addr} (m : TabAt H v a b c es sy rs gs) : ∀ x ∈ a :: b :: c :: gs, ∃ vs, H x = some (.lst vs) := by
  obtain ⟨tt, us, rvs, rfl, h1, h2, h3, h4, h5, h6⟩ := m.ex
  intro x hx
  rcases List.mem_cons.mp hx with rfl | hx
  · exact ⟨_, h2⟩
  rcases List.mem_cons.mp hx with rfl | hx
  · exact ⟨_, h4⟩
  rcases List.mem_cons.mp hx with rfl | hx
  · exact ⟨_, h5⟩
  exact tws_lst h6 x hx
theorem MAt.lst {P : Params} {C p d s c : Addr} {H : Hp} {es : List Ev} {sy : List Str} {rs : List Room_} {gs : List Addr} (m : MAt P C H p d s c es sy rs gs) : ∀ x ∈ s :: c :: gs, ∃ vs, H x = some (.lst vs) := by
  obtain ⟨dx, rvs, h1, h2, h3, h4, h5⟩ := m.ex
  intro x hx
  rcases List.mem_cons.mp hx with rfl | hx
  · exact ⟨_, h3⟩
  rcases List.mem_cons.mp hx with rfl | hx
  · exact ⟨_, h4⟩
  exact tws_lst h5 x hx
def Ev.tw : Ev → Tw
  | .quiet => .tup [strW "quiet"]
  | .key k => .tup [strW "key", .sc (.int (k : Nat))]
  | .word w => .tup [strW "word", strW w]
theorem sc_w {H : Hp} {x : V} (h : Scal x) : (Tw.sc x).At H x [] := by rw [Tw.At]; exact ⟨rfl, h, rfl⟩
theorem ev_tw {H : Hp} {e : Ev} {v : V} (h : e.tr.At H v []) : e.tw.At H v [] := by
  cases e with
  | quiet =>
    obtain ⟨a, vs, rfl, e2, q1⟩ := at_tup0.mp h
    obtain ⟨u1, w1, rfl, a1, q2⟩ := ats_cons0.mp q1
    cases at_str0.mp a1
    cases ats_nil0.mp q2
    simp only [Ev.tw, Tw.At, Tw.Ats]
    exact ⟨a, _, rfl, e2, _, _, [], [], rfl, rfl, sc_w trivial, rfl, rfl⟩
  | key k =>
    obtain ⟨a, vs, rfl, e2, q1⟩ := at_tup0.mp h
    obtain ⟨u1, w1, rfl, a1, q2⟩ := ats_cons0.mp q1
    cases at_str0.mp a1
    obtain ⟨u2, w2, rfl, a2, q3⟩ := ats_cons0.mp q2
    cases at_int0.mp a2
    cases ats_nil0.mp q3
    simp only [Ev.tw, Tw.At, Tw.Ats]
    exact ⟨a, _, rfl, e2, _, _, [], [], rfl, rfl, sc_w trivial, _, _, [], [], rfl, rfl, ⟨rfl, trivial, rfl⟩, rfl, rfl⟩
  | word w =>
    obtain ⟨a, vs, rfl, e2, q1⟩ := at_tup0.mp h
    obtain ⟨u1, w1, rfl, a1, q2⟩ := ats_cons0.mp q1
    cases at_str0.mp a1
    obtain ⟨u2, w2, rfl, a2, q3⟩ := ats_cons0.mp q2
    cases at_str0.mp a2
    cases ats_nil0.mp q3
    simp only [Ev.tw, Tw.At, Tw.Ats]
    exact ⟨a, _, rfl, e2, _, _, [], [], rfl, rfl, sc_w trivial, _, _, [], [], rfl, rfl, sc_w trivial, rfl, rfl⟩
theorem evs_tw {H : Hp} : ∀ {es : List Ev} {vs : List V}, Tr.Ats H (es.map Ev.tr) vs [] → Tw.Ats H (es.map Ev.tw) vs []
  | [], vs, h => by
    cases ats_nil0.mp h
    simp [Tw.Ats]
  | e :: es, vs, h => by
    obtain ⟨u, w1, rfl, a1, h⟩ := ats_cons0.mp h
    simp only [List.map_cons, Tw.Ats]
    exact ⟨_, _, [], [], rfl, rfl, ev_tw a1, evs_tw h⟩
def tabL (es : List Ev) (sy : List Str) (rs : List Room_) : List Tw := [.lst (es.map Ev.tw), .lst (sy.map strW), .lst (rs.map roomW)]
theorem TabAt.tw {H : Hp} {v : V} {a b c : Addr} {es : List Ev} {sy : List Str} {rs : List Room_} {gs : List Addr} (m : TabAt H v a b c es sy rs gs) : (Tw.tup (tabL es sy rs)).At H v ([a] ++ ([b] ++ ((c :: gs) ++ []))) := by
  obtain ⟨tt, us, rvs, rfl, h1, h2, h3, h4, h5, h6⟩ := m.ex
  simp only [tabL, Tw.At, Tw.Ats]
  exact ⟨tt, _, rfl, h1, _, _, [a], _, rfl, rfl, ⟨a, us, [], rfl, h2, evs_tw h3, rfl⟩, _, _, [b], _, rfl, rfl, ⟨b, _, [], rfl, h4, strs_w.mpr ⟨rfl, rfl⟩, rfl⟩, _, _, c :: gs, [], rfl, rfl, ⟨c, rvs, gs, rfl, h5, h6, rfl⟩, rfl, rfl⟩
theorem hsW_all {xs : List Tw} {n : Nat} (h : ∀ x ∈ xs, x.h ≤ n) : Tw.hs xs ≤ n := by
  induction xs with
  | nil => simp [Tw.hs]
  | cons x xs ih =>
    simp only [Tw.hs]
    have := h x (by simp)
    have := ih fun y hy => h y (by simp [hy])
    omega
theorem strs_hW (ss : List Str) : Tw.hs (ss.map strW) ≤ 0 := hsW_all fun x hx => by
  obtain ⟨s, _, rfl⟩ := List.mem_map.mp hx
  simp [strW, Tw.h]
theorem tabL_h (es : List Ev) (sy : List Str) (rs : List Room_) : Tw.hs (tabL es sy rs) ≤ 50 := by
  have h1 : Tw.hs (es.map Ev.tw) ≤ 1 := hsW_all fun x hx => by
    obtain ⟨e, _, rfl⟩ := List.mem_map.mp hx
    cases e <;> simp [Ev.tw, Tw.h, Tw.hs, strW]
  have h2 := strs_hW sy
  have h3 : Tw.hs (rs.map roomW) ≤ 4 := hsW_all fun x hx => by
    obtain ⟨r, _, rfl⟩ := List.mem_map.mp hx
    have : Tw.hs (r.2.map rowW) ≤ 2 := hsW_all fun x hx => by
      obtain ⟨r, _, rfl⟩ := List.mem_map.mp hx
      have := strs_hW r.1
      simp only [rowW, Tw.h, Tw.hs]
      omega
    simp only [roomW, Tw.h, Tw.hs]
    omega
  simp only [tabL, Tw.h, Tw.hs]
  omega
theorem mk_same {H : Hp} {x dx : Addr} {o o' : HO} (nx : H x = none) (nd : H dx = none) : Same H (upd (upd H dx o) x o') := fun y u e => by
  rw [upd_ne (ne_of_none e nx), upd_ne (ne_of_none e nd)]
  exact e
theorem pl_lt {es : List Ev} {e : Ev} {j : Nat} (h : LawPl es e j) (h0 : 0 < es.length) : j < es.length := by
  rcases h with ⟨_, h⟩ | ⟨_, ⟨x, h, _⟩ | ⟨rfl, _⟩⟩
  · exact (List.getElem?_eq_some_iff.mp h).1
  · exact (List.getElem?_eq_some_iff.mp h).1
  · exact h0
theorem TabAt.row {H : Hp} {v : V} {a b c : Addr} {es : List Ev} {sy : List Str} {rs : List Room_} {gs : List Addr} (m : TabAt H v a b c es sy rs gs) (ok : TabOk es sy rs) {i : Nat} (hi : i < rs.length) : ∃ tt us rvs q g ps, ∃ r : Room_, v = .ref tt ∧ H tt = some (.tup [.ref a, .ref b, .ref c]) ∧ H a = some (.lst us) ∧ Tr.Ats H (es.map Ev.tr) us [] ∧ H b = some (.lst (strsV sy)) ∧ H c = some (.lst rvs) ∧ rvs[i]? = some (.ref q) ∧ rs[i]? = some r ∧ H q = some (.tup [.bl r.1, .ref g]) ∧ H g = some (.lst ps) ∧ ∀ j, j < es.length → ∃ k sl, ∃ x : Row, ps[j]? = some (.ref k) ∧ r.2[j]? = some x ∧ H k = some (.tup [.ref sl, .int (x.2 : Nat)]) ∧ H sl = some (.lst (strsV x.1)) ∧ x.2 < rs.length ∧ x.1.length ≤ 100 := by
  obtain ⟨tt, us, rvs, rfl, h1, h2, h3, h4, h5, h6⟩ := m.ex
  have rl : rvs.length = rs.length := by rw [h6.len, List.length_map]
  obtain ⟨tx, fx, hy1, hy2, hsub⟩ := h6.get i rvs[i] (List.getElem?_eq_getElem (by omega))
  rw [List.getElem?_map] at hy1
  obtain ⟨r, hr, rfl⟩ := Option.map_eq_some_iff.mp hy1
  obtain ⟨q, g, ps, gs1, e0, e1, e2, e3, rfl⟩ := room_w.mp hy2
  obtain ⟨o1, o2⟩ := ok.ok r (List.mem_of_getElem? hr)
  have pl : ps.length = es.length := by rw [e3.len, List.length_map, o1]
  refine ⟨tt, us, rvs, q, g, ps, r, rfl, h1, h2, h3, h4, h5, by rw [List.getElem?_eq_getElem (by omega), e0], hr, e1, e2, fun j hj => ?_⟩
  obtain ⟨ty, fy, hz1, hz2, hsub2⟩ := e3.get j ps[j] (List.getElem?_eq_getElem (by omega))
  rw [List.getElem?_map] at hz1
  obtain ⟨x, hxr, rfl⟩ := Option.map_eq_some_iff.mp hz1
  obtain ⟨k, sl, f0, f1, f2, rfl⟩ := row_w.mp hz2
  exact ⟨k, sl, x, by rw [List.getElem?_eq_getElem (by omega), f0], hxr, f1, f2, o2 x (List.mem_of_getElem? hxr)⟩
def Pls (es ets : List Ev) (js : List Nat) : Prop := js.length = ets.length ∧ ∀ (i : Nat) (e : Ev), ets[i]? = some e → ∃ j : Nat, js[i]? = some j ∧ plOf es e = some (.int (j : Nat)) ∧ j < es.length
theorem Pls.lt {es ets : List Ev} {js : List Nat} (h : Pls es ets js) : ∀ j ∈ js, j < es.length := fun j hj => by
  obtain ⟨i, hi, rfl⟩ := List.mem_iff_getElem.mp hj
  have hi' : i < ets.length := by rw [← h.1]; exact hi
  obtain ⟨j', h1, _, h3⟩ := h.2 i ets[i] (List.getElem?_eq_getElem hi')
  rw [List.getElem?_eq_getElem hi] at h1
  cases h1
  exact h3
def roomOf (rs : List Room_) (r : Nat) : Room_ := rs.getD r (false, [])
def rowOf (rs : List Room_) (r j : Nat) : Row := (roomOf rs r).2.getD j ([], 0)
def nxR (rs : List Room_) (js : List Nat) (r : Nat) : List Nat := js.map fun j => (rowOf rs r j).2
def rowR (rs : List Room_) (js : List Nat) : List Nat := bfs (nxR rs js) (rs.length + 1) 0 [0]
theorem roomOf_at {rs : List Room_} {r : Nat} (h : r < rs.length) : rs[r]? = some (roomOf rs r) := by
  unfold roomOf
  rw [List.getD_eq_getElem?_getD, List.getElem?_eq_getElem h]
  rfl
theorem rowOf_at {es : List Ev} {sy : List Str} {rs : List Room_} (ok : TabOk es sy rs) {r j : Nat} (h : r < rs.length) (hj : j < es.length) : (roomOf rs r).2[j]? = some (rowOf rs r j) ∧ (rowOf rs r j).2 < rs.length ∧ (rowOf rs r j).1.length ≤ 100 := by
  obtain ⟨o1, o2⟩ := ok.ok (roomOf rs r) (List.mem_of_getElem? (roomOf_at h))
  have e : (roomOf rs r).2[j]? = some (rowOf rs r j) := by
    unfold rowOf
    rw [List.getD_eq_getElem?_getD, List.getElem?_eq_getElem (by omega)]
    rfl
  exact ⟨e, o2 _ (List.mem_of_getElem? e)⟩
theorem nxR_lt {es : List Ev} {sy : List Str} {rs : List Room_} {js : List Nat} (ok : TabOk es sy rs) (hj : ∀ j ∈ js, j < es.length) : ∀ k, k < rs.length → ∀ x ∈ nxR rs js k, x < rs.length := fun k hk x hx => by
  obtain ⟨j, hjm, rfl⟩ := List.mem_map.mp hx
  exact (rowOf_at ok hk (hj j hjm)).2.1
theorem bf_0 {rs : List Room_} {js : List Nat} (h : 0 < rs.length) : Bf (nxR rs js) rs.length 0 [0] := ⟨by simp, fun k hk => by rw [List.mem_singleton.mp hk]; exact h, Nat.zero_le _, fun i k hi => absurd hi (Nat.not_lt_zero _)⟩
theorem bf_R {es : List Ev} {sy : List Str} {rs : List Room_} {js : List Nat} (ok : TabOk es sy rs) (hj : ∀ j ∈ js, j < es.length) (h : 0 < rs.length) : Bf (nxR rs js) rs.length (rowR rs js).length (rowR rs js) := Bf.end_ (nxR_lt ok hj) _ _ _ (bf_0 h) (by omega)
theorem row_few {n : Nat} {row ks : List Nat} (hn : row.Nodup) (hl : ∀ k ∈ row, k < n) (hk : ∀ k ∈ ks, k < n) : (addAll row ks).length ≤ n := by
  obtain ⟨_, h2, h3, _⟩ := addAll_ok hn hl ks hk
  exact pigeon n _ h2 h3
theorem i_setInI {H : Hp} {d : Addr} {row : List Nat} {k : Nat} {p : Bool → Prop} (h1 : SetI H d row) (h : p (decide (k ∈ row))) : ∃ a o, V.ref d = .ref a ∧ DGet H a (.int (k : Nat)) o ∧ ∃ c, V.bl o.isSome = .bl c ∧ p c := by
  obtain ⟨kvs, e, _, hv⟩ := h1
  exact ⟨d, _, rfl, .inl ⟨_, Sum.inl (k : Int), .inl e, rfl, rfl⟩, _, rfl, by rw [hv]; exact h⟩
theorem natsV_get {ks : List Nat} {j : Nat} {v : V} (h : (natsV ks)[j]? = some v) : ∃ k, ks[j]? = some k ∧ v = .int (k : Nat) := by
  simp only [natsV, List.getElem?_map] at h
  obtain ⟨k, h1, h2⟩ := Option.map_eq_some_iff.mp h
  exact ⟨k, h1, h2.symm⟩
def stW (rs : List Room_) (r : Nat) : Tw := .tup [.sc (.int (r : Nat)), .sc (.bl (roomOf rs r).1)]
theorem st_w {H : Hp} {rs : List Room_} {r : Nat} {v : V} {fs : List Addr} : (stW rs r).At H v fs ↔ ∃ k, v = .ref k ∧ H k = some (.tup [.int (r : Nat), .bl (roomOf rs r).1]) ∧ fs = [] := by
  simp only [stW, Tw.At, Tw.Ats]
  constructor
  · rintro ⟨a, vs, rfl, e, v, ws, f, g, rfl, rfl, ⟨rfl, _, rfl⟩, v', ws', f', g', rfl, rfl, ⟨rfl, _, rfl⟩, rfl, rfl⟩
    exact ⟨a, rfl, e, rfl⟩
  · rintro ⟨k, rfl, e, rfl⟩
    exact ⟨k, _, rfl, e, _, _, [], [], rfl, rfl, ⟨rfl, True.intro, rfl⟩, _, _, [], [], rfl, rfl, ⟨rfl, True.intro, rfl⟩, rfl, rfl⟩
def sp_standings (K : PySem.W.Frag) (P : Params) (C : Addr) : Sp := fun vs H Q _ => ∃ (p d s c ev : Addr) (us : List V) (es ets : List Ev) (sy : List Str) (rs : List Room_) (gs : List Addr) (js : List Nat), vs = [.ref p, .ref ev] ∧ MAt P C H p d s c es sy rs gs ∧ TabOk es sy rs ∧ 0 < rs.length ∧ H ev = some (.lst us) ∧ Tr.Ats H (ets.map Ev.tr) us [] ∧ ets.length ≤ 100 ∧ Pls es ets js ∧
  ∀ pf ws H', H pf = none → Same H H' → H' pf = some (.lst ws) → Tw.Ats H' ((rowR rs js).map (stW rs)) ws [] → Q (.ref pf) H'
theorem ok_standings (T : Txt K mg t) : FnOk P w K mg base CX0 3 t.a_standings t.fd_standings ["machine", "events"] (sp_standings K w.params t.c_TableMachine) := by
  have G_TableMachine_begin := ok_TableMachine_begin (P := P) (w := w) (base := base) T
  have G_TableMachine_over := ok_TableMachine_over (P := P) (w := w) (base := base) T
  have G_TableMachine_step := ok_TableMachine_step (P := P) (w := w) (base := base) T
  refine T.F_standings.ok sc_standings (fun vs H Q E h => ?_) (fun cdv A outer s H vs Q E hr h => ?_)
  · obtain ⟨p, d, s', c, ev, us, es, ets, sy, rs, gs, js, rfl, _⟩ := h
    rfl
  · obtain ⟨p, d, s', c, ev, us, es, ets, sy, rs, gs, js, rfl, hM, ok, hrs, hev, hus, hel, hp, q⟩ := h
    refine ⟨_, (@pss_cons _ _ _ _ _ (@ps_set _ _ 2 _ _ _ _ sc_standings.nd rfl (by first | exact Or.inl rfl | exact Or.inr rfl) (@pe_lstN _ _ _ _ (@pa_cons _ _ _ _ _ (@pe_ix _ _ _ _ _ _ _ (kix_tup K) (pe_meth0 (pv 0) T.cl_TableMachine T.M_TableMachine_begin G_TableMachine_begin (hr.mono (by omega)) T.b_TableMachine_begin .nil pass0) (@pe_int _ _ _ _) (fun _ _ => rfl)) (@pa_nil _) (by rfl))) (by rfl) (by first | exact Or.inl rfl | exact Or.inr rfl))
      (@pss_cons _ _ _ _ _ (@ps_set _ _ 3 _ _ _ _ sc_standings.nd rfl (by first | exact Or.inl rfl | exact Or.inr rfl) (@pe_disp _ _ _ _ _ (@pps_cons _ _ _ _ _ _ _ _ _ (@pe_ix _ _ _ _ _ _ _ (kix_list K) (pv 2) (@pe_int _ _ _ _) (fun _ _ => rfl)) (@pe_bl _ _ _ _) (@pps_nil _ _)) rfl rfl (by simp) (by decide)) (by rfl) (by first | exact Or.inl rfl | exact Or.inr rfl))
      (@pss_cons _ _ _ _ _ (@ps_set _ _ 4 _ _ _ _ sc_standings.nd rfl (by first | exact Or.inl rfl | exact Or.inr rfl) (@pe_int _ _ _ _) (by rfl) (by first | exact Or.inl rfl | exact Or.inr rfl))
      (@pss_cons _ _ _ _ _ (@ps_while _ _ _ _ _ _ PassesOwn.never (@pt_cmpR _ _ _ _ _ _ _ _ op_lt (pv 4) (@pe_callB _ _ _ _ _ _ _ _ _ (kcl_len K) (by rfl) T.z_len bb_len (@pa_cons _ _ _ _ _ (pv 2) (@pa_nil _) (by rfl)) (by decide) (by decide) (by rfl) (by rfl)) (nomark _)) (@pss_cons _ _ _ _ _ (@ps_for _ _ _ _ _ _ _ _ PassesOwn.never rfl (kpi_list K (pv 1)) (pg_name (i := 5) sc_standings.nd rfl (by first | exact Or.inl rfl | exact Or.inr rfl)) (@pss_cons _ _ _ _ _ (@ps_set _ _ 6 _ _ _ _ sc_standings.nd rfl (by first | exact Or.inl rfl | exact Or.inr rfl) (@pe_ix _ _ _ _ _ _ _ (kix_tup K) (pe_meth (pv 0) T.cl_TableMachine T.M_TableMachine_step G_TableMachine_step (hr.mono (by omega)) T.b_TableMachine_step .nil pass0 (@pa_cons _ _ _ _ _ (@pe_ix _ _ _ _ _ _ _ (kix_list K) (pv 2) (pv 4) (fun _ _ => rfl)) (@pa_cons _ _ _ _ _ (pv 5) (@pa_nil _) (by rfl)) (by rfl))) (@pe_int _ _ _ _) (fun _ _ => rfl)) (by rfl) (by first | exact Or.inl rfl | exact Or.inr rfl))
          (@pss_cons _ _ _ _ _ (@ps_if _ _ _ _ _ _ _ _ (pt_cmp (pc_din (by exact hu_of hr) (pv 6) (pv 3))) (@pss_one _ _ _ (@ps_continue _ _)) (@pss_nil _))
          (@pss_cons _ _ _ _ _ (@ps_if _ _ _ _ _ _ _ _ (@pt_cmpR _ _ _ _ _ _ _ _ op_eq (@pe_callB _ _ _ _ _ _ _ _ _ (kcl_len K) (by rfl) T.z_len bb_len (@pa_cons _ _ _ _ _ (pv 2) (@pa_nil _) (by rfl)) (by decide) (by decide) (by rfl) (by rfl)) (pe_glob (by rfl) T.m_MOST_STANDINGS (by exact T.r_MOST_STANDINGS)) (nomark _)) (@pss_one _ _ _ ps_never) (@pss_nil _))
          (@pss_cons _ _ _ _ _ (ps_dput (by exact hu_of hr) (pv 3) (pv 6) (@pe_bl _ _ _ _) rfl)
          (@pss_one _ _ _ (@ps_expr _ _ _ _ (@kpe_bm _ K _ _ _ _ _ _ _ _ _ _ _ PySem.F.plainAttrs_list PySem.F.slot_list_append PySem.F.type_list_append mt_append (pv 2) (@pa_cons _ _ _ _ _ (pv 6) (@pa_nil _) (by rfl)) (by rfl) (by rfl) (by rfl) (by rfl) (by rfl) (by rfl)) (by rfl))))))) (by intro _; rfl))
        (@pss_one _ _ _ (@ps_aug _ _ 4 _ _ _ _ _ _ sc_standings.nd rfl (by first | exact Or.inl rfl | exact Or.inr rfl) (@pe_int _ _ _ _) ip_add (by first | exact Or.inl rfl | exact Or.inr rfl)))))
      (@pss_one _ _ _ (@ps_ret _ _ _ _ (pe_lc (Nt := ["standing"]) (Nf := ["machine"]) (caps := [0]) rfl (comp_ok (sc := defScope s_standings) rfl rfl (by decide +kernel) (by decide +kernel) (by decide +kernel) rfl (by decide +kernel)) (kpi_list K (pv 2)) (fun _ _ _ _ _ => (pg_name (i := 0) (show (["standing", "machine"] : List Str).Nodup by decide +kernel) rfl (by first | exact Or.inl rfl | exact Or.inr rfl))) (fun _ _ _ _ _ => (@pts_nil _)) (fun _ _ _ _ _ => (@pe_tupN _ _ _ _ _ (@pa_cons _ _ _ _ _ (pv 0) (@pa_cons _ _ _ _ _ (pe_meth (pv 1) T.cl_TableMachine T.M_TableMachine_over G_TableMachine_over (hr.mono (by omega)) T.b_TableMachine_over .nil pass0 (@pa_cons _ _ _ _ _ (pv 0) (@pa_nil _) (by rfl))) (@pa_nil _) (by rfl)) (by rfl))))))))))), ?_⟩
    have ul : us.length = ets.length := by rw [hus.len, List.length_map]
    have hx := nxR_lt ok hp.lt
    have o3 := ok.nr
    have jl := hp.1
    have sl : (1000000 : Nat) ≤ sizeLine := le_line (Nat.le_refl _)
    obtain ⟨dx, rvs, g1, _⟩ := hM.ex
    walk_at "go"
    refine ⟨p, dx, _, rfl, g1, mf_no _ _ _ (by decide +kernel) (by decide +kernel) (by decide +kernel), ?_⟩
    walk_at "run"
    refine ⟨p, d, s', c, es, sy, rs, gs, rfl, hM, fun kb lb H1 fb s1 e1 _ => ?_⟩
    walk_at "run"
    refine i_ixT (SqT.of e1) (atI_nat (j := 1) rfl) ?_
    walk_at "run"
    intro pf H2 f2 s2 e2
    walk_at "run"
    refine i_dispIx (k := Sum.inl (0 : Int)) rfl e2 rfl ?_
    intro pk H3 f3 s3 e3
    walk_at "run"
    have s02 := s1.trans s2
    have s03 := s02.trans s3
    have fpf : H pf = none := s1.free f2
    have fk : H pk = none := s02.free f3
    have hne : pf ≠ pk := ne_of_none e2 f3
    refine i_while (fun m σ H' => Same H H' ∧ ∃ (pl : Nat) (row : List Nat) (y z : Option V), σ = [some (.ref p), some (.ref ev), some (.ref pf), some (.ref pk), some (.int (pl : Nat)), y, z] ∧ m = rs.length + 1 - pl ∧ Bf (nxR rs js) rs.length pl row ∧ bfs (nxR rs js) (rs.length + 1 - pl) pl row = rowR rs js ∧ H' pf = some (.lst (natsV row)) ∧ SetI H' pk row) (rs.length + 1) ⟨s03, 0, [0], _, _, rfl, rfl, bf_0 hrs, rfl, s3 _ _ e2, setI_one (k := 0) e3⟩ ?_
    rintro m σ H4 ⟨s4, pl, row, y, z, rfl, rfl, hb, hrow, hpf, hpk⟩
    have hbl := hb.le
    have hbf := hb.few
    walk_at "run"
    refine i_lenL (SqL.of hpf) ?_
    walk_at "run"
    rw [natsV_len]
    refine ite2 (fun hc => ?_) (fun hc => ?_)
    · have hpl : pl < row.length := by have := of_decide_eq_true hc; omega
      have ep : row[pl]? = some row[pl] := List.getElem?_eq_getElem hpl
      have hkn : row[pl] < rs.length := hb.lt _ (List.getElem_mem hpl)
      have hbfs : bfs (nxR rs js) (rs.length + 1 - (pl + 1)) (pl + 1) (addAll row (nxR rs js row[pl])) = rowR rs js := by rw [← hrow, show rs.length + 1 - pl = (rs.length + 1 - (pl + 1)) + 1 by omega, bfs_go ep]
      have nl : (nxR rs js row[pl]).length = ets.length := by simp [nxR, jl]
      refine ⟨fun σ' H' => Same H H' ∧ ∃ (y z : Option V), σ' = [some (.ref p), some (.ref ev), some (.ref pf), some (.ref pk), some (.int ((pl + 1 : Nat) : Int)), y, z] ∧ H' pf = some (.lst (natsV (addAll row (nxR rs js row[pl])))) ∧ SetI H' pk (addAll row (nxR rs js row[pl])), fun σ' H' ⟨s', y, z, e, h1, h2⟩ => ⟨rs.length + 1 - (pl + 1), by omega, s', pl + 1, addAll row (nxR rs js row[pl]), y, z, e, rfl, hb.step ep (hx _ hkn), hbfs, h1, h2⟩, ?_⟩
      walk_at "run"
      refine ⟨⟨_, SqL.of (s4 _ _ hev)⟩, for_list (K := K) (a := ev) (xs := us) (fun j σ H' => Same H H' ∧ j ≤ ets.length ∧ H' pf = some (.lst (natsV (addAll row ((nxR rs js row[pl]).take j)))) ∧ SetI H' pk (addAll row ((nxR rs js row[pl]).take j)) ∧ ∃ y z, σ = [some (.ref p), some (.ref ev), some (.ref pf), some (.ref pk), some (.int (pl : Nat)), y, z]) ⟨s4, Nat.zero_le _, hpf, hpk, _, _, rfl⟩ (fun j σ H' _ ⟨s', _⟩ => SqL.of (s' _ _ hev)) ?_ ?_⟩
      · rintro j v σ H5 hj ⟨s5, hjl, hf5, hk5, y, z, rfl⟩
        obtain ⟨tx, hx1, hx2⟩ := ats_get0 (hus.same s5) hj
        rw [List.getElem?_map] at hx1
        obtain ⟨e, he, rfl⟩ := Option.map_eq_some_iff.mp hx1
        obtain ⟨jj, k1, k2, k3⟩ := hp.2 j e he
        obtain ⟨r1, r2, r3⟩ := rowOf_at ok hkn k3
        have hj' : j < ets.length := (List.getElem?_eq_some_iff.mp he).1
        have hk : (nxR rs js row[pl])[j]? = some (rowOf rs row[pl] jj).2 := by unfold nxR; rw [List.getElem?_map, k1]; rfl
        have hall : ∀ x ∈ (nxR rs js row[pl]).take j, x < rs.length := fun x hx' => hx _ hkn x (List.mem_of_mem_take hx')
        have hfw := row_few hb.nd hb.lt hall
        have htk : (nxR rs js row[pl]).take (j + 1) = (nxR rs js row[pl]).take j ++ [(rowOf rs row[pl] jj).2] := by rw [List.take_add_one, hk]; rfl
        have hgl : (addAll row ((nxR rs js row[pl]).take j))[pl]? = some row[pl] := by
          obtain ⟨⟨tl, h1⟩, _⟩ := addAll_ok hb.nd hb.lt _ hall
          rw [h1, List.getElem?_append_left hpl, ep]
        walk_at "run"
        have M5 := hM.same s5
        obtain ⟨dx5, rvs5, g5, _⟩ := M5.ex
        refine ⟨p, dx5, _, rfl, g5, mf_no _ _ _ (by decide +kernel) (by decide +kernel) (by decide +kernel), ?_⟩
        walk_at "run"
        refine i_ixL (SqL.of hf5) (atI_nat (j := pl) (v := .int (row[pl] : Nat)) (by simp only [natsV, List.getElem?_map, hgl]; rfl)) ?_
        walk_at "run"
        refine ⟨p, d, s', c, es, sy, rs, gs, row[pl], jj, v, e, roomOf rs row[pl], rowOf rs row[pl] jj, rfl, M5, hx2, k2, roomOf_at hkn, r1, fun kb lb H6 f6 s6 e6 _ => ?_⟩
        refine i_ixT (SqT.of e6) (atI_nat (j := 1) rfl) ?_
        walk_at "run"
        have hf6 := s6 _ _ hf5
        have hk6 := hk5.mono s6
        have s06 := s5.trans s6
        refine i_setInI hk6 ?_
        generalize (rowOf rs row[pl] jj).2 = k at htk r2
        by_cases hm : k ∈ addAll row ((nxR rs js row[pl]).take j)
        · rw [decide_eq_true hm]
          walk_at "run"
          refine ⟨s06, hj', ?_, ?_, _, _, rfl⟩
          · rw [htk, addAll_snoc, if_pos hm]; exact hf6
          · rw [htk, addAll_snoc, if_pos hm]; exact hk6
        · rw [decide_eq_false hm]
          walk_at "run"
          refine i_lenL (SqL.of hf6) ?_
          walk_at "run"
          rw [natsV_len]
          refine ite2 (fun hc => ?_) (fun hc => ?_)
          · exfalso
            have := of_decide_eq_true hc
            omega
          walk_at "run"
          obtain ⟨H7, hput, hset, o7, rfl⟩ := hk6.put (k := k) (v := .bl true) (by omega)
          refine ⟨pk, _, rfl, hput, ?_⟩
          walk_at "run"
          have hf7 : upd H6 pk (.dK o7) pf = some (.lst (natsV (addAll row ((nxR rs js row[pl]).take j)))) := by rw [upd_ne hne]; exact hf6
          refine i_tyL (SqL.of hf7) ?_
          walk_at "run"
          refine i_append hf7 (Nat.lt_of_lt_of_le (show (natsV (addAll row ((nxR rs js row[pl]).take j))).length < 1000000 by rw [natsV_len]; omega) sl) ?_
          refine ⟨(s06.updNew fk).updNew fpf, hj', ?_, ?_, _, _, rfl⟩
          · rw [upd_same, natsV_snoc, htk, addAll_snoc, if_neg hm]
          · rw [htk, addAll_snoc, if_neg hm]
            obtain ⟨kvs, h1, h2⟩ := hset
            exact ⟨kvs, by rw [upd_ne (Ne.symm hne)]; exact h1, h2⟩
      · rintro σ H5 ⟨s5, hjl, hf5, hk5, y, z, rfl⟩
        rw [ul, ← nl, List.take_length] at hf5 hk5
        refine i_aug1 rfl ?_
        exact ⟨s5, _, _, rfl, hf5, hk5⟩
    · have hpl : row.length ≤ pl := by
        refine Nat.le_of_not_lt fun z => hc ?_
        exact decide_eq_true (by omega)
      walk_at "run"
      rw [bfs_stop hpl] at hrow
      rw [hrow] at hpf
      have hbR := bf_R ok hp.lt hrs
      have hrl := hbR.few
      refine ⟨⟨_, SqL.of hpf⟩, cc_list (xs := natsV (rowR rs js)) (le_line (by rw [natsV_len]; omega)) (fun i acc H' => Same H4 H' ∧ i ≤ (rowR rs js).length ∧ acc.length = i ∧ Tw.Ats H' (((rowR rs js).take i).map (stW rs)) acc []) ⟨Same.refl _, Nat.zero_le _, rfl, by simp [Tw.Ats]⟩ (fun i acc H' ⟨s', _, e, _⟩ => ⟨by omega, SqL.of (s' _ _ hpf)⟩) ?_ ?_⟩
      · rintro i x acc H5 hx ⟨s5, hi, ea, hat⟩
        obtain ⟨k, hk, rfl⟩ := natsV_get hx
        have hi' : i < (rowR rs js).length := (List.getElem?_eq_some_iff.mp hk).1
        have hkl := hbR.lt k (List.mem_of_getElem? hk)
        walk_at "run"
        have M5 := hM.same (s4.trans s5)
        obtain ⟨dx5, rvs5, g5, _⟩ := M5.ex
        refine ⟨p, dx5, _, rfl, g5, mf_no _ _ _ (by decide +kernel) (by decide +kernel) (by decide +kernel), ?_⟩
        walk_at "run"
        refine ⟨p, d, s', c, es, sy, rs, gs, k, roomOf rs k, rfl, M5, roomOf_at hkl, ?_⟩
        walk_at "run"
        intro p6 H6 f6 s6 e6
        refine ⟨s5.trans s6, hi', by simp [ea], ?_⟩
        rw [List.take_add_one, hk, List.map_append]
        exact Tw.Ats.snoc (gs := []) (hat.same s6) (st_w.mpr ⟨p6, rfl, e6, rfl⟩)
      · rintro acc H5 ⟨s5, _, _, hat⟩ p6 H6 f6 s6 e6
        rw [natsV_len, List.take_length] at hat
        exact q p6 acc H6 ((s4.trans s5).free f6) ((s4.trans s5).trans s6) e6 (hat.same s6)
theorem nd_snoc {fs : List Addr} {p : Addr} (h : fs.Nodup) (hp : p ∉ fs) : (fs ++ [p]).Nodup := by
  rw [List.nodup_append]
  exact ⟨h, by simp, fun a ha b hb => by rw [List.mem_singleton.mp hb]; exact fun z => hp (z ▸ ha)⟩
theorem tws_new {H : Hp} {xs : List Tw} {vs : List V} {fs : List Addr} (h : Tw.Ats H xs vs fs) {p : Addr} (f : H p = none) : p ∉ fs := fun hp => by
  obtain ⟨us, e⟩ := tws_lst h p hp
  rw [f] at e
  cases e
def rowsR (rs : List Room_) (js : List Nat) (f : Nat → Nat) (k : Nat) : List Row := js.map fun j => ((rowOf rs k j).1, f (rowOf rs k j).2)
def sp_rowsat (K : PySem.W.Frag) (P : Params) (C : Addr) : Sp := fun vs H Q _ => ∃ (p d s c ev nd : Addr) (us : List V) (es ets : List Ev) (sy : List Str) (rs : List Room_) (gs : List Addr) (js : List Nat) (k : Nat) (kvs : List (Key × V)) (f : Nat → Nat), vs = [.ref p, .int (k : Nat), .ref ev, .ref nd] ∧ MAt P C H p d s c es sy rs gs ∧ TabOk es sy rs ∧ k < rs.length ∧ H ev = some (.lst us) ∧ Tr.Ats H (ets.map Ev.tr) us [] ∧ ets.length ≤ 100 ∧ Pls es ets js ∧ H nd = some (.dK kvs) ∧ (∀ j ∈ js, valV kvs (Sum.inl ((rowOf rs k j).2 : Int)) = some (.int (f (rowOf rs k j).2 : Nat))) ∧
  ∀ pr ps gs' H', Same H H' → H' pr = some (.lst ps) → Tw.Ats H' ((rowsR rs js f k).map rowW) ps gs' → (∀ x ∈ pr :: gs', H x = none) → (pr :: gs').Nodup → Q (.ref pr) H'
theorem ok_rows_at (T : Txt K mg t) : FnOk P w K mg base CX0 3 t.a_rows_at t.fd_rows_at ["machine", "standing", "events", "numbers"] (sp_rowsat K w.params t.c_TableMachine) := by
  have G_TableMachine_step := ok_TableMachine_step (P := P) (w := w) (base := base) T
  refine T.F_rows_at.ok sc_rows_at (fun vs H Q E h => ?_) (fun cdv A outer s H vs Q E hr h => ?_)
  · obtain ⟨p, d, s', c, ev, nd, us, es, ets, sy, rs, gs, js, k, kvs, f, rfl, _⟩ := h
    rfl
  · obtain ⟨p, d, s', c, ev, nd, us, es, ets, sy, rs, gs, js, k, kvs, f, rfl, hM, ok, hk, hev, hus, hel, hp, hnd, hkv, q⟩ := h
    refine ⟨_, (@pss_cons _ _ _ _ _ (@ps_set _ _ 4 _ _ _ _ sc_rows_at.nd rfl (by first | exact Or.inl rfl | exact Or.inr rfl) (@pe_lstN _ _ _ _ (@pa_nil _)) (by rfl) (by first | exact Or.inl rfl | exact Or.inr rfl))
      (@pss_cons _ _ _ _ _ (@ps_for _ _ _ _ _ _ _ _ PassesOwn.never rfl (kpi_list K (pv 2)) (pg_name (i := 5) sc_rows_at.nd rfl (by first | exact Or.inl rfl | exact Or.inr rfl)) (@pss_cons _ _ _ _ _ (@ps_set _ _ 6 _ _ _ _ sc_rows_at.nd rfl (by first | exact Or.inl rfl | exact Or.inr rfl) (pe_meth (pv 0) T.cl_TableMachine T.M_TableMachine_step G_TableMachine_step (hr.mono (by omega)) T.b_TableMachine_step .nil pass0 (@pa_cons _ _ _ _ _ (pv 1) (@pa_cons _ _ _ _ _ (pv 5) (@pa_nil _) (by rfl)) (by rfl))) (by rfl) (by first | exact Or.inl rfl | exact Or.inr rfl))
        (@pss_one _ _ _ (@ps_expr _ _ _ _ (@kpe_bm _ K _ _ _ _ _ _ _ _ _ _ _ PySem.F.plainAttrs_list PySem.F.slot_list_append PySem.F.type_list_append mt_append (pv 4) (@pa_cons _ _ _ _ _ (@pe_tupN _ _ _ _ _ (@pa_cons _ _ _ _ _ (@pe_callTy _ _ _ _ _ _ _ _ _ (kcl_list K) (by rfl) T.z_list bb_list (@pa_cons _ _ _ _ _ (@pe_ix _ _ _ _ _ _ _ (kix_tup K) (pv 6) (@pe_int _ _ _ _) (fun _ _ => rfl)) (@pa_nil _) (by rfl)) (by decide) (by decide) (by rfl) (by rfl)) (@pa_cons _ _ _ _ _ (@pe_dget _ _ _ _ _ _ (by exact hu_of hr) (pv 3) (@pe_ix _ _ _ _ _ _ _ (kix_tup K) (pv 6) (@pe_int _ _ _ _) (fun _ _ => rfl)) (fun _ _ => rfl)) (@pa_nil _) (by rfl)) (by rfl))) (@pa_nil _) (by rfl)) (by rfl) (by rfl) (by rfl) (by rfl) (by rfl) (by rfl)) (by rfl)))) (by intro _; rfl))
      (@pss_one _ _ _ (@ps_ret _ _ _ _ (pv 4))))), ?_⟩
    have ul : us.length = ets.length := by rw [hus.len, List.length_map]
    have jl := hp.1
    have sl : (1000000 : Nat) ≤ sizeLine := le_line (Nat.le_refl _)
    walk_at "go"
    intro pr H1 f1 s1 e1
    walk_at "run"
    refine ⟨⟨_, SqL.of (s1 _ _ hev)⟩, for_list (K := K) (a := ev) (xs := us) (fun i σ H' => Same H H' ∧ i ≤ ets.length ∧ (∃ acc gs', H' pr = some (.lst acc) ∧ acc.length = i ∧ Tw.Ats H' (((rowsR rs js f k).take i).map rowW) acc gs' ∧ (∀ x ∈ gs', H x = none) ∧ (pr :: gs').Nodup) ∧ ∃ y z, σ = [some (.ref p), some (.int (k : Nat)), some (.ref ev), some (.ref nd), some (.ref pr), y, z]) ⟨s1, Nat.zero_le _, ⟨[], [], e1, rfl, by simp [Tw.Ats], by simp, by simp⟩, _, _, rfl⟩ (fun i σ H' _ ⟨s', _⟩ => SqL.of (s' _ _ hev)) ?_ ?_⟩
    · rintro i v σ H5 hi ⟨s5, hil, ⟨acc, gs', h1, h2, h3, h4, h5⟩, y, z, rfl⟩
      obtain ⟨tx, hx1, hx2⟩ := ats_get0 (hus.same s5) hi
      rw [List.getElem?_map] at hx1
      obtain ⟨e, he, rfl⟩ := Option.map_eq_some_iff.mp hx1
      obtain ⟨jj, k1, k2, k3⟩ := hp.2 i e he
      obtain ⟨r1, r2, r3⟩ := rowOf_at ok hk k3
      have hi' : i < ets.length := (List.getElem?_eq_some_iff.mp he).1
      have hrw : (rowsR rs js f k)[i]? = some ((rowOf rs k jj).1, f (rowOf rs k jj).2) := by unfold rowsR; rw [List.getElem?_map, k1]; rfl
      walk_at "run"
      have M5 := hM.same s5
      obtain ⟨dx5, rvs5, g5, _⟩ := M5.ex
      refine ⟨p, dx5, _, rfl, g5, mf_no _ _ _ (by decide +kernel) (by decide +kernel) (by decide +kernel), ?_⟩
      walk_at "run"
      refine ⟨p, d, s', c, es, sy, rs, gs, k, jj, v, e, roomOf rs k, rowOf rs k jj, rfl, M5, hx2, k2, roomOf_at hk, r1, fun kb lb H6 f6 s6 e6 e6' => ?_⟩
      walk_at "run"
      refine i_tyL (SqL.of (s6 _ _ h1)) ?_
      walk_at "run"
      refine i_ixT (SqT.of e6) (atI_nat (j := 0) rfl) ?_
      walk_at "run"
      refine i_listL (SqL.of e6') ?_
      intro p7 H7 f7 s7 e7
      walk_at "run"
      refine i_ixT (SqT.of (s7 _ _ e6)) (atI_nat (j := 1) rfl) ?_
      walk_at "run"
      have s57 := s6.trans s7
      refine ⟨nd, _, rfl, .inl ⟨kvs, Sum.inl _, .inl ((s5.trans s57) _ _ hnd), rfl, (hkv jj (List.mem_of_getElem? k1)).symm⟩, ?_⟩
      walk_at "run"
      intro p8 H8 f8 s8 e8
      walk_at "run"
      have s58 := s57.trans s8
      have h18 := s58 _ _ h1
      refine i_append h18 (by omega) ?_
      have hne : p7 ≠ pr := (ne_of_none (s6 _ _ h1) f7).symm
      have hpn : pr ∉ gs' := (List.nodup_cons.mp h5).1
      have hA : Tw.Ats H8 (((rowsR rs js f k).take (i + 1)).map rowW) (acc ++ [.ref p8]) (gs' ++ [p7]) := by
        rw [List.take_add_one, hrw, List.map_append]
        exact (h3.same s58).snoc (row_w.mpr ⟨p8, p7, rfl, e8, s8 _ _ e7, rfl⟩)
      have hnm : pr ∉ gs' ++ [p7] := fun z => (List.mem_append.mp z).elim hpn fun z => hne (List.mem_singleton.mp z).symm
      refine ⟨(s5.trans s58).updNew (f1), hi', ⟨_, gs' ++ [p7], upd_same, by simp [h2], hA.mono (Keep.upd h18 hnm), fun x hx => ?_, ?_⟩, _, _, rfl⟩
      · rcases List.mem_append.mp hx with hx | hx
        · exact h4 x hx
        · rw [List.mem_singleton.mp hx]; exact (s5.trans s6).free f7
      · rw [List.nodup_cons]
        exact ⟨hnm, nd_snoc (List.nodup_cons.mp h5).2 (tws_new (h3.same s6) f7)⟩
    · rintro σ H5 ⟨s5, _, ⟨acc, gs', h1, h2, h3, h4, h5⟩, y, z, rfl⟩
      rw [ul, List.take_of_length_le (by simp [rowsR]; omega)] at h3
      walk_at "run"
      exact q pr acc gs' H5 s5 h1 h3 (fun x hx => by
        rcases List.mem_cons.mp hx with rfl | hx
        · exact f1
        · exact h4 x hx) h5
def outR (rs : List Room_) (js : List Nat) : List Room_ := (rowR rs js).map fun r => ((roomOf rs r).1, rowsR rs js (fun x => (rowR rs js).idxOf x) r)
theorem outR_ok {es ets : List Ev} {sy : List Str} {rs : List Room_} {js : List Nat} (ok : TabOk es sy rs) (hp : Pls es ets js) (hrs : 0 < rs.length) (hel : ets.length ≤ 100) : TabOk ets sy (outR rs js) := by
  have hb := bf_R ok hp.lt hrs
  have hf := hb.few
  have := ok.nr
  refine ⟨hel, ok.ns, by simp [outR]; omega, fun r hr => ?_⟩
  obtain ⟨k, hk, rfl⟩ := List.mem_map.mp hr
  refine ⟨by simp [rowsR, hp.1], fun x hx => ?_⟩
  obtain ⟨j, hj, rfl⟩ := List.mem_map.mp hx
  obtain ⟨i, hi, rfl⟩ := List.mem_iff_getElem.mp hk
  have hm : (rowOf rs (rowR rs js)[i] j).2 ∈ rowR rs js := hb.cl i _ hi (List.getElem?_eq_getElem hi) _ (List.mem_map.mpr ⟨j, hj, rfl⟩)
  refine ⟨?_, (rowOf_at ok (hb.lt _ hk) (hp.lt j hj)).2.2⟩
  simp only [outR, List.length_map]
  exact List.idxOf_lt_length_of_mem hm
def sp_tableof (K : PySem.W.Frag) (P : Params) (C : Addr) : Sp := fun vs H Q _ => ∃ (p d s c ev : Addr) (us : List V) (es ets : List Ev) (sy : List Str) (rs : List Room_) (gs : List Addr) (js : List Nat), vs = [.ref p, .ref ev] ∧ MAt P C H p d s c es sy rs gs ∧ TabOk es sy rs ∧ 0 < rs.length ∧ H ev = some (.lst us) ∧ Tr.Ats H (ets.map Ev.tr) us [] ∧ ets.length ≤ 100 ∧ Pls es ets js ∧
  ∀ v a' b' c' gs' H', Same H H' → TabAt H' v a' b' c' ets sy (outR rs js) gs' → (∀ x ∈ a' :: b' :: c' :: gs', H x = none) → (a' :: b' :: c' :: gs').Nodup → Q v H'
theorem nd_app {fs gs : List Addr} (h1 : fs.Nodup) (h2 : gs.Nodup) (h : ∀ x ∈ gs, x ∉ fs) : (fs ++ gs).Nodup := by
  rw [List.nodup_append]
  exact ⟨h1, h2, fun a ha b hb z => h b hb (z ▸ ha)⟩
theorem ok_table_of (T : Txt K mg t) : FnOk P w K mg base CX0 4 t.a_table_of t.fd_table_of ["machine", "events"] (sp_tableof K w.params t.c_TableMachine) := by
  have G_TableMachine_begin := ok_TableMachine_begin (P := P) (w := w) (base := base) T
  have G_rows_at := ok_rows_at (P := P) (w := w) (base := base) T
  have G_standings := ok_standings (P := P) (w := w) (base := base) T
  refine T.F_table_of.ok sc_table_of (fun vs H Q E h => ?_) (fun cdv A outer s H vs Q E hr h => ?_)
  · obtain ⟨p, d, s', c, ev, us, es, ets, sy, rs, gs, js, rfl, _⟩ := h
    rfl
  · obtain ⟨p, d, s', c, ev, us, es, ets, sy, rs, gs, js, rfl, hM, ok, hrs, hev, hus, hel, hp, q⟩ := h
    refine ⟨_, (@pss_cons _ _ _ _ _ (@ps_set _ _ 2 _ _ _ _ sc_table_of.nd rfl (by first | exact Or.inl rfl | exact Or.inr rfl) (@pe_call _ _ _ _ _ _ _ _ _ _ _ _ _ _ _ _ G_standings (hr.mono (by omega)) rfl T.m_standings T.F_standings.kp T.b_standings .nil pass0 (@pa_cons _ _ _ _ _ (pv 0) (@pa_cons _ _ _ _ _ (pv 1) (@pa_nil _) (by rfl)) (by rfl)) (by decide) (by rfl) (by rfl)) (by rfl) (by first | exact Or.inl rfl | exact Or.inr rfl))
      (@pss_cons _ _ _ _ _ (@ps_set _ _ 3 _ _ _ _ sc_table_of.nd rfl (by first | exact Or.inl rfl | exact Or.inr rfl) (@pe_callTy _ _ _ _ _ _ _ _ _ (kcl_dict K) (by rfl) T.z_dict bb_dict (@pa_cons _ _ _ _ _ (pe_lc (Nt := ["number", "each"]) (Nf := []) (caps := []) rfl (comp_ok (sc := defScope s_table_of) rfl rfl (by decide +kernel) (by decide +kernel) (by decide +kernel) rfl (by decide +kernel)) (pi_enum K rfl T.z_enumerate (@pa_cons _ _ _ _ _ (pv 2) (@pa_nil _) (by rfl))) (fun _ _ _ _ _ => (kpg_tup K (n := 2) rfl (pgs_cons (pg_name (i := 0) (show (["number", "each"] : List Str).Nodup by decide +kernel) rfl (by first | exact Or.inl rfl | exact Or.inr rfl)) (pgs_cons (pg_name (i := 1) (show (["number", "each"] : List Str).Nodup by decide +kernel) rfl (by first | exact Or.inl rfl | exact Or.inr rfl)) (@pgs_nil _))))) (fun _ _ _ _ _ => (@pts_nil _)) (fun _ _ _ _ _ => (@pe_tupN _ _ _ _ _ (@pa_cons _ _ _ _ _ (@pe_ix _ _ _ _ _ _ _ (kix_tup K) (pv 1) (@pe_int _ _ _ _) (fun _ _ => rfl)) (@pa_cons _ _ _ _ _ (pv 0) (@pa_nil _) (by rfl)) (by rfl))))) (@pa_nil _) (by rfl)) (by decide) (by decide) (by rfl) (by rfl)) (by rfl) (by first | exact Or.inl rfl | exact Or.inr rfl))
      (@pss_cons _ _ _ _ _ (ps_lc (i := 4) (Nt := ["standing", "ended"]) (Nf := ["machine", "events", "numbers"]) (caps := [0, 1, 3]) rfl (comp_ok (sc := defScope s_table_of) rfl rfl (by decide +kernel) (by decide +kernel) (by decide +kernel) rfl (by decide +kernel)) (kpi_list K (pv 2)) (fun _ _ _ _ _ => (kpg_tup K (n := 2) rfl (pgs_cons (pg_name (i := 0) (show (["standing", "ended", "machine", "events", "numbers"] : List Str).Nodup by decide +kernel) rfl (by first | exact Or.inl rfl | exact Or.inr rfl)) (pgs_cons (pg_name (i := 1) (show (["standing", "ended", "machine", "events", "numbers"] : List Str).Nodup by decide +kernel) rfl (by first | exact Or.inl rfl | exact Or.inr rfl)) (@pgs_nil _))))) (fun _ _ _ _ _ => (@pts_nil _)) (fun _ _ _ _ _ => (@pe_tupN _ _ _ _ _ (@pa_cons _ _ _ _ _ (pv 1) (@pa_cons _ _ _ _ _ (@pe_call _ _ _ _ _ _ _ _ _ _ _ _ _ _ _ _ G_rows_at (hr.mono (by omega)) rfl T.m_rows_at T.F_rows_at.kp T.b_rows_at .nil pass0 (@pa_cons _ _ _ _ _ (pv 2) (@pa_cons _ _ _ _ _ (pv 0) (@pa_cons _ _ _ _ _ (pv 3) (@pa_cons _ _ _ _ _ (pv 4) (@pa_nil _) (by rfl)) (by rfl)) (by rfl)) (by rfl)) (by decide) (by rfl) (by rfl)) (@pa_nil _) (by rfl)) (by rfl)))) sc_table_of.nd rfl (by first | exact Or.inl rfl | exact Or.inr rfl) rfl)
      (@pss_one _ _ _ (@ps_ret _ _ _ _ (@pe_tupN _ _ _ _ _ (@pa_cons _ _ _ _ _ (@pe_callTy _ _ _ _ _ _ _ _ _ (kcl_list K) (by rfl) T.z_list bb_list (@pa_cons _ _ _ _ _ (pv 1) (@pa_nil _) (by rfl)) (by decide) (by decide) (by rfl) (by rfl)) (@pa_cons _ _ _ _ _ (@pe_callTy _ _ _ _ _ _ _ _ _ (kcl_list K) (by rfl) T.z_list bb_list (@pa_cons _ _ _ _ _ (@pe_ix _ _ _ _ _ _ _ (kix_tup K) (pe_meth0 (pv 0) T.cl_TableMachine T.M_TableMachine_begin G_TableMachine_begin (hr.mono (by omega)) T.b_TableMachine_begin .nil pass0) (@pe_int _ _ _ _) (fun _ _ => rfl)) (@pa_nil _) (by rfl)) (by decide) (by decide) (by rfl) (by rfl)) (@pa_cons _ _ _ _ _ (pv 4) (@pa_nil _) (by rfl)) (by rfl)) (by rfl)))))))), ?_⟩
    have hb := bf_R ok hp.lt hrs
    have hf := hb.few
    have o3 := ok.nr
    walk_at "go"
    refine ⟨p, d, s', c, ev, us, es, ets, sy, rs, gs, js, rfl, hM, ok, hrs, hev, hus, hel, hp, fun pf ws H1 f1 s1 e1 hw => ?_⟩
    have wl : ws.length = (rowR rs js).length := by rw [hw.len, List.length_map]
    walk_at "run"
    refine ⟨⟨_, SqL.of e1⟩, cc_enum (xs := ws) (le_line (by omega)) (fun i acc H' => Same H1 H' ∧ i ≤ (rowR rs js).length ∧ acc.length = i ∧ PrK H' acc (placeKv ((rowR rs js).take i))) ⟨Same.refl _, Nat.zero_le _, rfl, .nil⟩ (fun i acc H' ⟨s', _, e, _⟩ => ⟨by omega, SqL.of (s' _ _ e1)⟩) ?_ ?_⟩
    · rintro i x acc H' H3 hx ⟨s2, hi, ha, hpk⟩ s3
      obtain ⟨tx, fx, hx1, hx2, _⟩ := (hw.same (s2.trans s3)).get i x hx
      rw [List.getElem?_map] at hx1
      obtain ⟨k, hk, rfl⟩ := Option.map_eq_some_iff.mp hx1
      obtain ⟨kk, rfl, hkk, _⟩ := st_w.mp hx2
      have hi' : i < (rowR rs js).length := (List.getElem?_eq_some_iff.mp hk).1
      walk_at "run"
      refine i_ixT (SqT.of hkk) (atI_nat (j := 0) rfl) ?_
      walk_at "run"
      intro p4 H4 f4 s4 e4
      refine ⟨s2.trans (s3.trans s4), hi', by simp [ha], ?_⟩
      rw [List.take_add_one, hk, show (rowR rs js).take i ++ (some k).toList = (rowR rs js).take i ++ [k] from rfl, placeKv_snoc, List.length_take, Nat.min_eq_left hi]
      exact (hpk.mono (s3.trans s4).tups).snoc (k := Sum.inl (k : Int)) e4
    · rintro acc H3 ⟨s3, _, _, hpk⟩ pl H4 f4 s4 e4
      rw [wl, List.take_length] at hpk
      walk_at "run"
      refine i_dictP (SqL.of e4) (hpk.mono s4.tups) ?_
      intro pd H5 f5 s5 e5
      walk_at "run"
      have s15 := s3.trans (s4.trans s5)
      have s05 := s1.trans s15
      have e15 := s15 _ _ e1
      refine ⟨⟨_, SqL.of e15⟩, cc_pairs (xs := ws) (le_line (by omega)) (fun i acc H' => i ≤ (rowR rs js).length ∧ acc.length = i ∧ Same H5 H' ∧ ∃ fs', Tw.Ats H' (((outR rs js).take i).map roomW) acc fs' ∧ (∀ a ∈ fs', H5 a = none) ∧ fs'.Nodup) ⟨Nat.zero_le _, rfl, Same.refl _, [], by simp [Tw.Ats], by simp, by simp⟩ (fun i acc H' ⟨_, e, s', _⟩ => ⟨by omega, SqL.of (s' _ _ e15)⟩) ?_ ?_⟩
      · rintro i x acc H6 hx ⟨hi, ea, s6, fs', hat, hfr, hnd⟩
        obtain ⟨tx, fx, hx1, hx2, _⟩ := (hw.same (s15.trans s6)).get i x hx
        rw [List.getElem?_map] at hx1
        obtain ⟨k, hk, rfl⟩ := Option.map_eq_some_iff.mp hx1
        obtain ⟨kk, rfl, hkk, _⟩ := st_w.mp hx2
        have hi' : i < (rowR rs js).length := (List.getElem?_eq_some_iff.mp hk).1
        have s06 := s05.trans s6
        refine ⟨kk, _, _, rfl, SqT.of hkk, ?_⟩
        walk_at "run"
        refine ⟨p, d, s', c, ev, pd, us, es, ets, sy, rs, gs, js, k, _, (fun x => (rowR rs js).idxOf x), rfl, hM.same s06, ok, hb.lt k (List.mem_of_getElem? hk), s06 _ _ hev, hus.same s06, hel, hp, s6 _ _ e5, fun j hj => ?_, fun pr ps gs' H7 s7 e7 h7 fr7 nd7 => ?_⟩
        · rw [place_pos hb.nd, if_pos (hb.cl i k hi' hk _ (List.mem_map.mpr ⟨j, hj, rfl⟩))]
        walk_at "run"
        intro p8 H8 f8 s8 e8
        have ho : (outR rs js)[i]? = some ((roomOf rs k).1, rowsR rs js (fun x => (rowR rs js).idxOf x) k) := by unfold outR; rw [List.getElem?_map, hk]; rfl
        refine ⟨hi', by simp [ea], s6.trans (s7.trans s8), fs' ++ (pr :: gs'), ?_, ?_, ?_⟩
        · rw [List.take_add_one, ho, List.map_append]
          exact (hat.same (s7.trans s8)).snoc (room_w.mpr ⟨p8, pr, ps, gs', rfl, e8, s8 _ _ e7, h7.same s8, rfl⟩)
        · intro a ha
          rcases List.mem_append.mp ha with ha | ha
          · exact hfr a ha
          · exact s6.free (fr7 a ha)
        · exact nd_app hnd nd7 fun x hx => tws_new hat (fr7 x hx)
      · rintro acc H6 ⟨_, ea, s6, fs', hat, hfr, hnd⟩ pc H7 f7 s7 e7
        rw [wl, List.take_of_length_le (by simp [outR])] at hat
        walk_at "run"
        have s07 := s05.trans (s6.trans s7)
        refine i_listL (SqL.of (s07 _ _ hev)) ?_
        intro pa H8 f8 s8 e8
        walk_at "run"
        have s08 := s07.trans s8
        have M8 := hM.same s08
        obtain ⟨dx8, rvs8, g8, _⟩ := M8.ex
        refine ⟨p, dx8, _, rfl, g8, mf_no _ _ _ (by decide +kernel) (by decide +kernel) (by decide +kernel), ?_⟩
        walk_at "run"
        refine ⟨p, d, s', c, es, sy, rs, gs, rfl, M8, fun kb lb H9 fb s9 e9 e9' => ?_⟩
        walk_at "run"
        refine i_ixT (SqT.of e9) (atI_nat (j := 0) rfl) ?_
        walk_at "run"
        refine i_listL (SqL.of e9') ?_
        intro pb H10 f10 s10 e10
        walk_at "run"
        intro pt H11 f11 s11 e11
        have s011 := s08.trans (s9.trans (s10.trans s11))
        have s811 := s9.trans (s10.trans s11)
        have s711 := s8.trans s811
        refine q _ pa pb pc fs' H11 s011 ⟨pt, us, acc, rfl, e11, s811 _ _ e8, hus.same s011, s11 _ _ e10, s711 _ _ e7, hat.same (s7.trans s711)⟩ ?_ ?_
        · intro x hx
          rcases List.mem_cons.mp hx with rfl | hx
          · exact s07.free f8
          · rcases List.mem_cons.mp hx with rfl | hx
            · exact (s08.trans s9).free f10
            · rcases List.mem_cons.mp hx with rfl | hx
              · exact (s05.trans s6).free f7
              · exact s05.free (hfr x hx)
        · have h1 : pc ∉ fs' := tws_new hat f7
          have h2 : pa ∉ fs' := tws_new (hat.same s7) f8
          have h3 : pb ∉ fs' := tws_new (hat.same (s7.trans (s8.trans s9))) f10
          have h4 : pc ≠ pa := ne_of_none e7 f8
          have h5 : pc ≠ pb := ne_of_none ((s8.trans s9) _ _ e7) f10
          have h6 : pa ≠ pb := ne_of_none (s9 _ _ e8) f10
          simp only [List.nodup_cons, List.mem_cons, not_or]
          exact ⟨⟨h6, Ne.symm h4, h2⟩, ⟨Ne.symm h5, h3⟩, h1, hnd⟩
def papT (row : List Nat) (i : Nat) : List Tr := (List.range i).map fun k => Tr.tup [.int (row.getD k 0 : Nat), .int (k : Nat)]
theorem papT_succ (row : List Nat) (i : Nat) : papT row (i + 1) = papT row i ++ [Tr.tup [.int (row.getD i 0 : Nat), .int (i : Nat)]] := by
  unfold papT
  rw [List.range_succ, List.map_append]
  rfl
theorem pair_at {H : Hp} {p : Addr} {a b : Int} (e : H p = some (.tup [.int a, .int b])) : (Tr.tup [.int a, .int b]).At H (.ref p) [] := at_tup0.mpr ⟨p, _, rfl, e, ats_cons0.mpr ⟨_, _, rfl, at_int0.mpr rfl, ats_cons0.mpr ⟨_, _, rfl, at_int0.mpr rfl, ats_nil0.mpr rfl⟩⟩⟩
def sp_tpaper (K : PySem.W.Frag) (P : Params) (C : Addr) : Sp := fun vs H Q _ => ∃ (p d s c ev : Addr) (us : List V) (es ets : List Ev) (sy : List Str) (rs : List Room_) (gs : List Addr) (js : List Nat), vs = [.ref p, .ref ev] ∧ MAt P C H p d s c es sy rs gs ∧ TabOk es sy rs ∧ 0 < rs.length ∧ H ev = some (.lst us) ∧ Tr.Ats H (ets.map Ev.tr) us [] ∧ ets.length ≤ 100 ∧ Pls es ets js ∧
  ∀ pp vs H', Same H H' → H' pp = some (.lst vs) → Tr.Ats H' (papT (rowR rs js) (rowR rs js).length) vs [] → Q (.ref pp) H'
theorem ok_table_paper (T : Txt K mg t) : FnOk P w K mg base CX0 4 t.a_table_paper t.fd_table_paper ["machine", "events"] (sp_tpaper K w.params t.c_TableMachine) := by
  have G_standings := ok_standings (P := P) (w := w) (base := base) T
  refine T.F_table_paper.ok sc_table_paper (fun vs H Q E h => ?_) (fun cdv A outer s H vs Q E hr h => ?_)
  · obtain ⟨p, d, s', c, ev, us, es, ets, sy, rs, gs, js, rfl, _⟩ := h
    rfl
  · obtain ⟨p, d, s', c, ev, us, es, ets, sy, rs, gs, js, rfl, hM, ok, hrs, hev, hus, hel, hp, q⟩ := h
    refine ⟨_, (@pss_one _ _ _ (@ps_ret _ _ _ _ (pe_lc (Nt := ["number", "each"]) (Nf := []) (caps := []) rfl (comp_ok (sc := defScope s_table_paper) rfl rfl (by decide +kernel) (by decide +kernel) (by decide +kernel) rfl (by decide +kernel)) (pi_enum K rfl T.z_enumerate (@pa_cons _ _ _ _ _ (@pe_call _ _ _ _ _ _ _ _ _ _ _ _ _ _ _ _ G_standings (hr.mono (by omega)) rfl T.m_standings T.F_standings.kp T.b_standings .nil pass0 (@pa_cons _ _ _ _ _ (pv 0) (@pa_cons _ _ _ _ _ (pv 1) (@pa_nil _) (by rfl)) (by rfl)) (by decide) (by rfl) (by rfl)) (@pa_nil _) (by rfl))) (fun _ _ _ _ _ => (kpg_tup K (n := 2) rfl (pgs_cons (pg_name (i := 0) (show (["number", "each"] : List Str).Nodup by decide +kernel) rfl (by first | exact Or.inl rfl | exact Or.inr rfl)) (pgs_cons (pg_name (i := 1) (show (["number", "each"] : List Str).Nodup by decide +kernel) rfl (by first | exact Or.inl rfl | exact Or.inr rfl)) (@pgs_nil _))))) (fun _ _ _ _ _ => (@pts_nil _)) (fun _ _ _ _ _ => (@pe_tupN _ _ _ _ _ (@pa_cons _ _ _ _ _ (@pe_ix _ _ _ _ _ _ _ (kix_tup K) (pv 1) (@pe_int _ _ _ _) (fun _ _ => rfl)) (@pa_cons _ _ _ _ _ (pv 0) (@pa_nil _) (by rfl)) (by rfl))))))), ?_⟩
    have hb := bf_R ok hp.lt hrs
    have hf := hb.few
    have o3 := ok.nr
    walk_at "go"
    refine ⟨p, d, s', c, ev, us, es, ets, sy, rs, gs, js, rfl, hM, ok, hrs, hev, hus, hel, hp, fun pf ws H1 f1 s1 e1 hw => ?_⟩
    have wl : ws.length = (rowR rs js).length := by rw [hw.len, List.length_map]
    walk_at "run"
    refine ⟨⟨_, SqL.of e1⟩, cc_enum (xs := ws) (le_line (by omega)) (fun i acc H' => Same H1 H' ∧ i ≤ (rowR rs js).length ∧ acc.length = i ∧ Tr.Ats H' (papT (rowR rs js) i) acc []) ⟨Same.refl _, Nat.zero_le _, rfl, ats_nil0.mpr rfl⟩ (fun i acc H' ⟨s', _, e, _⟩ => ⟨by omega, SqL.of (s' _ _ e1)⟩) ?_ ?_⟩
    · rintro i x acc H' H3 hx ⟨s2, hi, ha, hpk⟩ s3
      obtain ⟨tx, fx, hx1, hx2, _⟩ := (hw.same (s2.trans s3)).get i x hx
      rw [List.getElem?_map] at hx1
      obtain ⟨k, hk, rfl⟩ := Option.map_eq_some_iff.mp hx1
      obtain ⟨kk, rfl, hkk, _⟩ := st_w.mp hx2
      have hi' : i < (rowR rs js).length := (List.getElem?_eq_some_iff.mp hk).1
      walk_at "run"
      refine i_ixT (SqT.of hkk) (atI_nat (j := 0) rfl) ?_
      walk_at "run"
      intro p4 H4 f4 s4 e4
      refine ⟨s2.trans (s3.trans s4), hi', by simp [ha], ?_⟩
      rw [papT_succ, show (rowR rs js).getD i 0 = k by rw [List.getD_eq_getElem?_getD, hk]; rfl]
      exact Tr.Ats.snoc (hpk.same (s3.trans s4)) (pair_at e4)
    · rintro acc H3 ⟨s3, _, _, hpk⟩ pl H4 f4 s4 e4
      rw [wl] at hpk
      exact q pl acc H4 (s1.trans (s3.trans s4)) e4 (hpk.same s4)
theorem TabAt.rowR {H : Hp} {v : V} {a b c : Addr} {es : List Ev} {sy : List Str} {rs : List Room_} {gs : List Addr} (m : TabAt H v a b c es sy rs gs) (ok : TabOk es sy rs) {i : Nat} (hi : i < rs.length) : ∃ tt us rvs q g ps, v = .ref tt ∧ H tt = some (.tup [.ref a, .ref b, .ref c]) ∧ H a = some (.lst us) ∧ Tr.Ats H (es.map Ev.tr) us [] ∧ H b = some (.lst (strsV sy)) ∧ H c = some (.lst rvs) ∧ rvs[i]? = some (.ref q) ∧ H q = some (.tup [.bl (roomOf rs i).1, .ref g]) ∧ H g = some (.lst ps) ∧ ∀ j, j < es.length → ∃ k sl, ps[j]? = some (.ref k) ∧ H k = some (.tup [.ref sl, .int ((rowOf rs i j).2 : Nat)]) ∧ H sl = some (.lst (strsV (rowOf rs i j).1)) := by
  obtain ⟨tt, us, rvs, q, g, ps, r, rfl, w1, w2, w3, w4, w5, w6, w7, w8, w9, wj⟩ := m.row ok hi
  have e := roomOf_at hi
  rw [w7] at e
  cases e
  refine ⟨tt, us, rvs, q, g, ps, rfl, w1, w2, w3, w4, w5, w6, w8, w9, fun j hj => ?_⟩
  obtain ⟨k, sl, x, j1, j2, j3, j4, _⟩ := wj j hj
  have e2 := (rowOf_at ok hi hj).1
  rw [j2] at e2
  cases e2
  exact ⟨k, sl, j1, j3, j4⟩
theorem mem_nats {ks : List Nat} {k : Nat} : ((k : Nat) : Int) ∈ ks.map (fun (k : Nat) => (k : Int)) ↔ k ∈ ks := by
  rw [List.mem_map]
  constructor
  · rintro ⟨m, hm, e⟩
    have : m = k := by omega
    exact this ▸ hm
  · intro h; exact ⟨k, h, rfl⟩
theorem idx_first {row : List Nat} (hn : row.Nodup) {k : Nat} (h : k ∈ row) : (row.map fun (k : Nat) => (k : Int))[row.idxOf k]? = some (k : Int) ∧ ∀ m, m < row.idxOf k → (row.map fun (k : Nat) => (k : Int))[m]? ≠ some (k : Int) := by
  refine ⟨by rw [List.getElem?_map, idx_get h]; rfl, fun m hm z => ?_⟩
  rw [List.getElem?_map] at z
  obtain ⟨x, h1, h2⟩ := Option.map_eq_some_iff.mp z
  have : x = k := by omega
  subst this
  have := idx_of hn h1
  omega
def sp_due (K : PySem.W.Frag) : Sp := fun vs H Q _ => ∃ (v : V) (ev a b c : Addr) (us : List V) (es ets : List Ev) (sy : List Str) (rs : List Room_) (gs : List Addr), vs = [v, .ref ev] ∧ TabAt H v a b c es sy rs gs ∧ TabOk es sy rs ∧ es.Nodup ∧ 0 < es.length ∧ 0 < rs.length ∧ H ev = some (.lst us) ∧ Tr.Ats H (ets.map Ev.tr) us [] ∧ ets.length ≤ 100 ∧
  ∀ js pl pt pf a' b' c' gs' H', Pls es ets js → Same H H' → H' pl = some (.lst [.ref pt, .ref pf]) → TabAt H' (.ref pt) a' b' c' ets sy (outR rs js) gs' → H' pf = some (.lst (natsV (rowR rs js))) → Q (.ref pl) H'
theorem ok_law_due (T : Txt K mg t) : FnOk P w K mg base CX0 2 t.a__law_due t.fd__law_due ["table", "events"] (sp_due K) := by
  have G__law_place := ok_law_place (P := P) (w := w) (base := base) T
  refine T.F__law_due.ok sc_law_due (fun vs H Q E h => ?_) (fun cdv A outer s H vs Q E hr h => ?_)
  · obtain ⟨v, ev, a, b, c, us, es, ets, sy, rs, gs, rfl, _⟩ := h
    rfl
  · obtain ⟨v, ev, a, b, c, us, es, ets, sy, rs, gs, rfl, hT, ok, hnd, hes, hrs, hev, hus, hel, q⟩ := h
    refine ⟨_, (@pss_cons _ _ _ _ _ (ps_lc (i := 2) (Nt := ["event"]) (Nf := ["table"]) (caps := [0]) rfl (comp_ok (sc := defScope s_law_due) rfl rfl (by decide +kernel) (by decide +kernel) (by decide +kernel) rfl (by decide +kernel)) (kpi_list K (pv 1)) (fun _ _ _ _ _ => (pg_name (i := 0) (show (["event", "table"] : List Str).Nodup by decide +kernel) rfl (by first | exact Or.inl rfl | exact Or.inr rfl))) (fun _ _ _ _ _ => (@pts_nil _)) (fun _ _ _ _ _ => (@pe_call _ _ _ _ _ _ _ _ _ _ _ _ _ _ _ _ G__law_place (hr.mono (by omega)) rfl T.m__law_place T.F__law_place.kp T.b__law_place .nil pass0 (@pa_cons _ _ _ _ _ (@pe_ix _ _ _ _ _ _ _ (kix_tup K) (pv 1) (@pe_int _ _ _ _) (fun _ _ => rfl)) (@pa_cons _ _ _ _ _ (pv 0) (@pa_nil _) (by rfl)) (by rfl)) (by decide) (by rfl) (by rfl))) sc_law_due.nd rfl (by first | exact Or.inl rfl | exact Or.inr rfl) rfl)
      (@pss_cons _ _ _ _ _ (@ps_set _ _ 3 _ _ _ _ sc_law_due.nd rfl (by first | exact Or.inl rfl | exact Or.inr rfl) (@pe_lstN _ _ _ _ (@pa_cons _ _ _ _ _ (@pe_int _ _ _ _) (@pa_nil _) (by rfl))) (by rfl) (by first | exact Or.inl rfl | exact Or.inr rfl))
      (@pss_cons _ _ _ _ _ (@ps_set _ _ 4 _ _ _ _ sc_law_due.nd rfl (by first | exact Or.inl rfl | exact Or.inr rfl) (@pe_int _ _ _ _) (by rfl) (by first | exact Or.inl rfl | exact Or.inr rfl))
      (@pss_cons _ _ _ _ _ (@ps_while _ _ _ _ _ _ PassesOwn.never (@pt_cmpR _ _ _ _ _ _ _ _ op_lt (pv 4) (@pe_callB _ _ _ _ _ _ _ _ _ (kcl_len K) (by rfl) T.z_len bb_len (@pa_cons _ _ _ _ _ (pv 3) (@pa_nil _) (by rfl)) (by decide) (by decide) (by rfl) (by rfl)) (nomark _)) (@pss_cons _ _ _ _ _ (@ps_for _ _ _ _ _ _ _ _ PassesOwn.never rfl (kpi_list K (pv 2)) (pg_name (i := 5) sc_law_due.nd rfl (by first | exact Or.inl rfl | exact Or.inr rfl)) (@pss_cons _ _ _ _ _ (@ps_set _ _ 6 _ _ _ _ sc_law_due.nd rfl (by first | exact Or.inl rfl | exact Or.inr rfl) (@pe_ix _ _ _ _ _ _ _ (kix_tup K) (@pe_ix _ _ _ _ _ _ _ (kix_list K) (@pe_ix _ _ _ _ _ _ _ (kix_tup K) (@pe_ix _ _ _ _ _ _ _ (kix_list K) (@pe_ix _ _ _ _ _ _ _ (kix_tup K) (pv 0) (@pe_int _ _ _ _) (fun _ _ => rfl)) (@pe_ix _ _ _ _ _ _ _ (kix_list K) (pv 3) (pv 4) (fun _ _ => rfl)) (fun _ _ => rfl)) (@pe_int _ _ _ _) (fun _ _ => rfl)) (pv 5) (fun _ _ => rfl)) (@pe_int _ _ _ _) (fun _ _ => rfl)) (by rfl) (by first | exact Or.inl rfl | exact Or.inr rfl))
          (@pss_one _ _ _ (@ps_if _ _ _ _ _ _ _ _ (@pt_cmpR _ _ _ _ _ _ _ _ (kop_notIn K) (pv 6) (pv 3) (by with_unfolding_all rfl)) (@pss_one _ _ _ (@ps_expr _ _ _ _ (@kpe_bm _ K _ _ _ _ _ _ _ _ _ _ _ PySem.F.plainAttrs_list PySem.F.slot_list_append PySem.F.type_list_append mt_append (pv 3) (@pa_cons _ _ _ _ _ (pv 6) (@pa_nil _) (by rfl)) (by rfl) (by rfl) (by rfl) (by rfl) (by rfl) (by rfl)) (by rfl))) (@pss_nil _)))) (by intro _; rfl))
        (@pss_one _ _ _ (@ps_set _ _ 4 _ _ _ _ sc_law_due.nd rfl (by first | exact Or.inl rfl | exact Or.inr rfl) (@pe_op _ _ _ _ _ _ _ _ op_plus (pv 4) (@pe_int _ _ _ _)) (by rfl) (by first | exact Or.inl rfl | exact Or.inr rfl)))))
      (@pss_cons _ _ _ _ _ (@ps_set _ _ 7 _ _ _ _ sc_law_due.nd rfl (by first | exact Or.inl rfl | exact Or.inr rfl) (@pe_lstN _ _ _ _ (@pa_nil _)) (by rfl) (by first | exact Or.inl rfl | exact Or.inr rfl))
      (@pss_cons _ _ _ _ _ (@ps_for _ _ _ _ _ _ _ _ PassesOwn.never rfl (kpi_list K (pv 3)) (pg_name (i := 8) sc_law_due.nd rfl (by first | exact Or.inl rfl | exact Or.inr rfl)) (@pss_cons _ _ _ _ _ (@ps_asg _ _ _ _ _ _ (@pe_ix _ _ _ _ _ _ _ (kix_list K) (@pe_ix _ _ _ _ _ _ _ (kix_tup K) (pv 0) (@pe_int _ _ _ _) (fun _ _ => rfl)) (pv 8) (fun _ _ => rfl)) (kpg_tup K (n := 2) rfl (pgs_cons (pg_name (i := 9) sc_law_due.nd rfl (by first | exact Or.inl rfl | exact Or.inr rfl)) (pgs_cons (pg_name (i := 10) sc_law_due.nd rfl (by first | exact Or.inl rfl | exact Or.inr rfl)) (@pgs_nil _)))) (by rfl) (by rfl) (by rfl))
        (@pss_one _ _ _ (@ps_expr _ _ _ _ (@kpe_bm _ K _ _ _ _ _ _ _ _ _ _ _ PySem.F.plainAttrs_list PySem.F.slot_list_append PySem.F.type_list_append mt_append (pv 7) (@pa_cons _ _ _ _ _ (@pe_tupN _ _ _ _ _ (@pa_cons _ _ _ _ _ (pv 9) (@pa_cons _ _ _ _ _ (pe_lc (Nt := ["place"]) (Nf := ["found", "rows"]) (caps := [3, 10]) rfl (comp_ok (sc := defScope s_law_due) rfl rfl (by decide +kernel) (by decide +kernel) (by decide +kernel) rfl (by decide +kernel)) (kpi_list K (pv 2)) (fun _ _ _ _ _ => (pg_name (i := 0) (show (["place", "found", "rows"] : List Str).Nodup by decide +kernel) rfl (by first | exact Or.inl rfl | exact Or.inr rfl))) (fun _ _ _ _ _ => (@pts_nil _)) (fun _ _ _ _ _ => (@pe_tupN _ _ _ _ _ (@pa_cons _ _ _ _ _ (@pe_callTy _ _ _ _ _ _ _ _ _ (kcl_list K) (by rfl) T.z_list bb_list (@pa_cons _ _ _ _ _ (@pe_ix _ _ _ _ _ _ _ (kix_tup K) (@pe_ix _ _ _ _ _ _ _ (kix_list K) (pv 2) (pv 0) (fun _ _ => rfl)) (@pe_int _ _ _ _) (fun _ _ => rfl)) (@pa_nil _) (by rfl)) (by decide) (by decide) (by rfl) (by rfl)) (@pa_cons _ _ _ _ _ (@kpe_bm _ K _ _ _ _ _ _ _ _ _ _ _ PySem.F.plainAttrs_list PySem.F.slot_list_index PySem.F.type_list_index (kmt_indexI K) (pv 1) (@pa_cons _ _ _ _ _ (@pe_ix _ _ _ _ _ _ _ (kix_tup K) (@pe_ix _ _ _ _ _ _ _ (kix_list K) (pv 2) (pv 0) (fun _ _ => rfl)) (@pe_int _ _ _ _) (fun _ _ => rfl)) (@pa_nil _) (by rfl)) (by rfl) (by rfl) (by rfl) (by rfl) (by rfl) (by rfl)) (@pa_nil _) (by rfl)) (by rfl))))) (@pa_nil _) (by rfl)) (by rfl))) (@pa_nil _) (by rfl)) (by rfl) (by rfl) (by rfl) (by rfl) (by rfl) (by rfl)) (by rfl)))) (by intro _; rfl))
      (@pss_one _ _ _ (@ps_ret _ _ _ _ (@pe_lstN _ _ _ _ (@pa_cons _ _ _ _ _ (@pe_tupN _ _ _ _ _ (@pa_cons _ _ _ _ _ (@pe_callTy _ _ _ _ _ _ _ _ _ (kcl_list K) (by rfl) T.z_list bb_list (@pa_cons _ _ _ _ _ (pv 1) (@pa_nil _) (by rfl)) (by decide) (by decide) (by rfl) (by rfl)) (@pa_cons _ _ _ _ _ (@pe_callTy _ _ _ _ _ _ _ _ _ (kcl_list K) (by rfl) T.z_list bb_list (@pa_cons _ _ _ _ _ (@pe_ix _ _ _ _ _ _ _ (kix_tup K) (pv 0) (@pe_int _ _ _ _) (fun _ _ => rfl)) (@pa_nil _) (by rfl)) (by decide) (by decide) (by rfl) (by rfl)) (@pa_cons _ _ _ _ _ (pv 7) (@pa_nil _) (by rfl)) (by rfl)) (by rfl))) (@pa_cons _ _ _ _ _ (pv 3) (@pa_nil _) (by rfl)) (by rfl))))))))))), ?_⟩
    have ul : us.length = ets.length := by rw [hus.len, List.length_map]
    have o1 := ok.ne
    have o3 := ok.nr
    have sl : (1000000 : Nat) ≤ sizeLine := le_line (Nat.le_refl _)
    obtain ⟨tt, tus, rvs, rfl, t1, t2, t3, t4, t5, t6⟩ := hT.ex
    walk_at "go"
    refine ⟨⟨_, SqL.of hev⟩, cc_list (xs := us) (le_line (by omega)) (fun i acc H' => i ≤ ets.length ∧ Same H H' ∧ ∃ js : List Nat, acc = natsV js ∧ js.length = i ∧ ∀ (m : Nat) (e : Ev) (j : Nat), ets[m]? = some e → js[m]? = some j → LawPl es e j) ⟨Nat.zero_le _, Same.refl _, [], rfl, rfl, fun m e j _ h => by simp at h⟩ (fun i acc H' ⟨_, s', js, e, el, _⟩ => ⟨by rw [e, natsV_len, el]; exact Nat.le_refl _, SqL.of (s' _ _ hev)⟩) ?_ ?_⟩
    · rintro i x acc H1 hx ⟨hi, s1, js, rfl, hjl, hjs⟩
      obtain ⟨tx, hx1, hx2⟩ := ats_get0 (hus.same s1) hx
      rw [List.getElem?_map] at hx1
      obtain ⟨e, he, rfl⟩ := Option.map_eq_some_iff.mp hx1
      have hi' : i < ets.length := (List.getElem?_eq_some_iff.mp he).1
      walk_at "run"
      refine i_ixT (SqT.of (s1 _ _ t1)) (atI_nat (j := 0) rfl) ?_
      walk_at "run"
      refine ⟨a, tus, x, es, e, rfl, s1 _ _ t2, t3.same s1, hx2, hnd, by omega, fun j H2 hj s2 => ?_⟩
      refine ⟨hi', s1.trans s2, js ++ [j], natsV_snoc _ _, by simp [hjl], fun m e' j' h1 h2 => ?_⟩
      by_cases hm : m < i
      · rw [List.getElem?_append_left (by omega)] at h2
        exact hjs m e' j' h1 h2
      · have hm2 : m = i := by
          have := (List.getElem?_eq_some_iff.mp h2).1
          simp at this
          omega
        subst hm2
        rw [List.getElem?_append_right (by omega), hjl, Nat.sub_self] at h2
        cases h2
        rw [he] at h1
        cases h1
        exact hj
    · rintro acc H1 ⟨_, s1, js, rfl, hjl, hjs⟩ pp H2 f2 s2 e2
      rw [ul] at hjl
      have hp : Pls es ets js := ⟨hjl, fun i e he => by
        have hi : i < js.length := by rw [hjl]; exact (List.getElem?_eq_some_iff.mp he).1
        have := hjs i e js[i] he (List.getElem?_eq_getElem hi)
        exact ⟨js[i], List.getElem?_eq_getElem hi, pl_same hnd this, pl_lt this hes⟩⟩
      have hx := nxR_lt ok hp.lt
      have hbR := bf_R ok hp.lt hrs
      have hrl := hbR.few
      have s02 := s1.trans s2
      walk_at "run"
      intro pf H3 f3 s3 e3
      walk_at "run"
      refine i_while (fun m σ H' => Same H2 H' ∧ ∃ (pl : Nat) (row : List Nat) (y z : Option V), σ = [some (.ref tt), some (.ref ev), some (.ref pp), some (.ref pf), some (.int (pl : Nat)), y, z, none, none, none, none] ∧ m = rs.length + 1 - pl ∧ Bf (nxR rs js) rs.length pl row ∧ bfs (nxR rs js) (rs.length + 1 - pl) pl row = rowR rs js ∧ H' pf = some (.lst (natsV row))) (rs.length + 1) ⟨s3, 0, [0], _, _, rfl, rfl, bf_0 hrs, rfl, e3⟩ ?_
      rintro m σ H4 ⟨s4, pl, row, y, z, rfl, rfl, hb, hrow, hpf⟩
      have hbl := hb.le
      have hbf := hb.few
      walk_at "run"
      refine i_lenL (SqL.of hpf) ?_
      walk_at "run"
      rw [natsV_len]
      refine ite2 (fun hc => ?_) (fun hc => ?_)
      · have hpl : pl < row.length := by have := of_decide_eq_true hc; omega
        have ep : row[pl]? = some row[pl] := List.getElem?_eq_getElem hpl
        have hkn : row[pl] < rs.length := hb.lt _ (List.getElem_mem hpl)
        have hbfs : bfs (nxR rs js) (rs.length + 1 - (pl + 1)) (pl + 1) (addAll row (nxR rs js row[pl])) = rowR rs js := by rw [← hrow, show rs.length + 1 - pl = (rs.length + 1 - (pl + 1)) + 1 by omega, bfs_go ep]
        have nl : (nxR rs js row[pl]).length = js.length := by simp [nxR]
        refine ⟨fun σ' H' => Same H2 H' ∧ ∃ (y z : Option V), σ' = [some (.ref tt), some (.ref ev), some (.ref pp), some (.ref pf), some (.int ((pl : Int) + 1)), y, z, none, none, none, none] ∧ H' pf = some (.lst (natsV (addAll row (nxR rs js row[pl])))), fun σ' H' ⟨s', y, z, e, h1⟩ => ⟨rs.length + 1 - (pl + 1), by omega, s', pl + 1, addAll row (nxR rs js row[pl]), y, z, e, rfl, hb.step ep (hx _ hkn), hbfs, h1⟩, ?_⟩
        walk_at "run"
        refine ⟨⟨_, SqL.of (s4 _ _ e2)⟩, for_list (K := K) (a := pp) (xs := natsV js) (fun j σ H' => Same H2 H' ∧ j ≤ js.length ∧ H' pf = some (.lst (natsV (addAll row ((nxR rs js row[pl]).take j)))) ∧ ∃ y z, σ = [some (.ref tt), some (.ref ev), some (.ref pp), some (.ref pf), some (.int (pl : Nat)), y, z, none, none, none, none]) ⟨s4, Nat.zero_le _, hpf, _, _, rfl⟩ (fun j σ H' _ ⟨s', _⟩ => SqL.of (s' _ _ e2)) ?_ ?_⟩
        · rintro j v σ H5 hj ⟨s5, hjl', hf5, y, z, rfl⟩
          obtain ⟨jj, k1, rfl⟩ := natsV_get hj
          have hj' : j < js.length := (List.getElem?_eq_some_iff.mp k1).1
          have k3 := hp.lt jj (List.mem_of_getElem? k1)
          have s05 := s02.trans s5
          have hk : (nxR rs js row[pl])[j]? = some (rowOf rs row[pl] jj).2 := by unfold nxR; rw [List.getElem?_map, k1]; rfl
          have hall : ∀ x ∈ (nxR rs js row[pl]).take j, x < rs.length := fun x hx' => hx _ hkn x (List.mem_of_mem_take hx')
          have hfw := row_few hb.nd hb.lt hall
          have htk : (nxR rs js row[pl]).take (j + 1) = (nxR rs js row[pl]).take j ++ [(rowOf rs row[pl] jj).2] := by rw [List.take_add_one, hk]; rfl
          have hgl : (addAll row ((nxR rs js row[pl]).take j))[pl]? = some row[pl] := by
            obtain ⟨⟨tl, h1⟩, _⟩ := addAll_ok hb.nd hb.lt _ hall
            rw [h1, List.getElem?_append_left hpl, ep]
          obtain ⟨tt2, us2, rvs2, q0, g0, ps0, htt, w1, w2, w3, w4, w5, w6, w8, w9, wj⟩ := (hT.same s05).rowR ok hkn
          cases htt
          obtain ⟨k0, sl0, j1, j3, j4⟩ := wj jj k3
          walk_at "run"
          refine i_ixT (SqT.of w1) (atI_nat (j := 2) rfl) ?_
          walk_at "run"
          refine i_ixL (SqL.of hf5) (atI_nat (j := pl) (v := .int (row[pl] : Nat)) (by simp only [natsV, List.getElem?_map, hgl]; rfl)) ?_
          walk_at "run"
          refine i_ixL (SqL.of w5) (atI_nat (j := row[pl]) w6) ?_
          walk_at "run"
          refine i_ixT (SqT.of w8) (atI_nat (j := 1) rfl) ?_
          walk_at "run"
          refine i_ixL (SqL.of w9) (atI_nat (j := jj) j1) ?_
          walk_at "run"
          refine i_ixT (SqT.of j3) (atI_nat (j := 1) rfl) ?_
          walk_at "run"
          have hq : SqL K H5 pf (((addAll row ((nxR rs js row[pl]).take j)).map fun (k : Nat) => (k : Int)).map V.int) := by
            rw [← natsV_int]
            exact SqL.of hf5
          refine i_notInI hq ?_
          walk_at "run"
          generalize (rowOf rs row[pl] jj).2 = k at htk
          by_cases hm : k ∈ addAll row ((nxR rs js row[pl]).take j)
          · refine i_itNF (mem_nats.mpr hm) ?_
            walk_at "run"
            refine ⟨s5, hj', ?_, _, _, rfl⟩
            rw [htk, addAll_snoc, if_pos hm]; exact hf5
          · refine i_itNT (fun z => hm (mem_nats.mp z)) ?_
            walk_at "run"
            refine i_tyL (SqL.of hf5) ?_
            walk_at "run"
            refine i_append hf5 (Nat.lt_of_lt_of_le (show (natsV (addAll row ((nxR rs js row[pl]).take j))).length < 1000000 by rw [natsV_len]; omega) sl) ?_
            refine ⟨s5.updNew f3, hj', ?_, _, _, rfl⟩
            rw [upd_same, natsV_snoc, htk, addAll_snoc, if_neg hm]
        · rintro σ H5 ⟨s5, hjl', hf5, y, z, rfl⟩
          rw [natsV_len, ← nl, List.take_length] at hf5
          walk_at "run"
          exact ⟨s5, _, _, rfl, hf5⟩
      · have hpl : row.length ≤ pl := by
          refine Nat.le_of_not_lt fun z => hc ?_
          exact decide_eq_true (by omega)
        rw [bfs_stop hpl] at hrow
        rw [hrow] at hpf
        walk_at "run"
        intro pr H5 f5 s5 e5
        walk_at "run"
        have hpf5 := s5 _ _ hpf
        refine ⟨⟨_, SqL.of hpf5⟩, for_list (K := K) (a := pf) (xs := natsV (rowR rs js)) (fun i σ H' => Same H4 H' ∧ i ≤ (rowR rs js).length ∧ (∃ acc fs', H' pr = some (.lst acc) ∧ acc.length = i ∧ Tw.Ats H' (((outR rs js).take i).map roomW) acc fs' ∧ pr ∉ fs') ∧ ∃ y1 y2 y3, σ = [some (.ref tt), some (.ref ev), some (.ref pp), some (.ref pf), some (.int (pl : Nat)), y, z, some (.ref pr), y1, y2, y3]) ⟨s5, Nat.zero_le _, ⟨[], [], e5, rfl, by simp [Tw.Ats], by simp⟩, _, _, _, rfl⟩ (fun i σ H' _ ⟨s', _⟩ => SqL.of (s' _ _ hpf)) ?_ ?_⟩
        · rintro i v σ H6 hi ⟨s6, hil, ⟨acc, fs', h1, h2, h3, h4⟩, y1, y2, y3, rfl⟩
          obtain ⟨k, hk, rfl⟩ := natsV_get hi
          have hi' : i < (rowR rs js).length := (List.getElem?_eq_some_iff.mp hk).1
          have hkn := hbR.lt k (List.mem_of_getElem? hk)
          have s26 := s4.trans s6
          have hT6 := hT.same (s02.trans s26)
          obtain ⟨tt2, us2, rvs2, q0, g0, ps0, htt, w1, w2, w3, w4, w5, w6, w8, w9, wj⟩ := hT6.rowR ok hkn
          cases htt
          have ho : (outR rs js)[i]? = some ((roomOf rs k).1, rowsR rs js (fun x => (rowR rs js).idxOf x) k) := by unfold outR; rw [List.getElem?_map, hk]; rfl
          walk_at "run"
          refine i_ixT (SqT.of w1) (atI_nat (j := 2) rfl) ?_
          walk_at "run"
          refine i_ixL (SqL.of w5) (atI_nat (j := k) w6) ?_
          refine i_asgT (SqT.of w8) rfl ?_
          walk_at "run"
          refine i_tyL (SqL.of h1) ?_
          walk_at "run"
          have e26 := s26 _ _ e2
          refine ⟨⟨_, SqL.of e26⟩, cc_list (xs := natsV js) (le_line (by rw [natsV_len]; omega)) (fun m acc2 H' => Same H6 H' ∧ m ≤ js.length ∧ acc2.length = m ∧ ∃ gs', Tw.Ats H' (((rowsR rs js (fun x => (rowR rs js).idxOf x) k).take m).map rowW) acc2 gs' ∧ ∀ x ∈ gs', H6 x = none) ⟨Same.refl _, Nat.zero_le _, rfl, [], by simp [Tw.Ats], by simp⟩ (fun m acc2 H' ⟨s', _, e, _⟩ => ⟨by omega, SqL.of (s' _ _ e26)⟩) ?_ ?_⟩
          · rintro m x acc2 H7 hm ⟨s7, hml, ha2, gs', hat, hfr⟩
            obtain ⟨jj, k1, rfl⟩ := natsV_get hm
            have hm' : m < js.length := (List.getElem?_eq_some_iff.mp k1).1
            have k3 := hp.lt jj (List.mem_of_getElem? k1)
            obtain ⟨k0, sl0, j1, j3, j4⟩ := wj jj k3
            have hmem : (rowOf rs k jj).2 ∈ rowR rs js := hbR.cl i k hi' hk _ (List.mem_map.mpr ⟨jj, List.mem_of_getElem? k1, rfl⟩)
            have hrw : (rowsR rs js (fun x => (rowR rs js).idxOf x) k)[m]? = some ((rowOf rs k jj).1, (rowR rs js).idxOf (rowOf rs k jj).2) := by unfold rowsR; rw [List.getElem?_map, k1]; rfl
            walk_at "run"
            refine i_ixL (SqL.of (s7 _ _ w9)) (atI_nat (j := jj) j1) ?_
            walk_at "run"
            refine i_ixT (SqT.of (s7 _ _ j3)) (atI_nat (j := 0) rfl) ?_
            walk_at "run"
            refine i_listL (SqL.of (s7 _ _ j4)) ?_
            intro p8 H8 f8 s8 e8
            walk_at "run"
            have s78 := s7.trans s8
            have hq : SqL K H8 pf (((rowR rs js).map fun (k : Nat) => (k : Int)).map V.int) := by
              rw [← natsV_int]
              exact SqL.of (s78 _ _ (s6 _ _ hpf))
            refine i_tyL hq ?_
            walk_at "run"
            refine i_ixL (SqL.of (s78 _ _ w9)) (atI_nat (j := jj) j1) ?_
            walk_at "run"
            refine i_ixT (SqT.of (s78 _ _ j3)) (atI_nat (j := 1) rfl) ?_
            walk_at "run"
            obtain ⟨ix1, ix2⟩ := idx_first hbR.nd hmem
            refine i_indexI hq ix1 ix2 ?_
            walk_at "run"
            intro p9 H9 f9 s9 e9
            refine ⟨s78.trans s9, hm', by simp [ha2], gs' ++ [p8], ?_, ?_⟩
            · rw [List.take_add_one, hrw, List.map_append]
              exact (hat.same (s8.trans s9)).snoc (row_w.mpr ⟨p9, p8, rfl, e9, s9 _ _ e8, rfl⟩)
            · intro x hx
              rcases List.mem_append.mp hx with hx | hx
              · exact hfr x hx
              · rw [List.mem_singleton.mp hx]; exact s7.free f8
          · rintro acc2 H7 ⟨s7, _, ha2, gs', hat, hfr⟩ p8 H8 f8 s8 e8
            rw [natsV_len, List.take_of_length_le (by simp [rowsR])] at hat
            walk_at "run"
            intro p9 H9 f9 s9 e9
            walk_at "run"
            have s69 := s7.trans (s8.trans s9)
            have h19 := s69 _ _ h1
            refine i_append h19 (by omega) ?_
            have hpn : pr ∉ fs' ++ (p8 :: gs') := fun z => by
              rcases List.mem_append.mp z with z | z
              · exact h4 z
              · have : H6 pr = none := by
                  rcases List.mem_cons.mp z with z | z
                  · rw [z]; exact s7.free f8
                  · exact hfr _ z
                rw [h1] at this
                cases this
            have hA : Tw.Ats H9 (((outR rs js).take (i + 1)).map roomW) (acc ++ [.ref p9]) (fs' ++ (p8 :: gs')) := by
              rw [List.take_add_one, ho, List.map_append]
              exact (h3.same s69).snoc (room_w.mpr ⟨p9, p8, acc2, gs', rfl, e9, s9 _ _ e8, hat.same (s8.trans s9), rfl⟩)
            exact ⟨(s6.trans s69).updNew f5, hi', ⟨_, _, upd_same, by simp [h2], hA.mono (Keep.upd h19 hpn), hpn⟩, _, _, _, rfl⟩
        · rintro σ H6 ⟨s6, _, ⟨acc, fs', h1, h2, h3, h4⟩, y1, y2, y3, rfl⟩
          rw [natsV_len, List.take_of_length_le (by simp [outR])] at h3
          walk_at "run"
          have s06 := s02.trans (s4.trans s6)
          refine i_listL (SqL.of (s06 _ _ hev)) ?_
          intro pa H7 f7 s7 e7
          walk_at "run"
          refine i_ixT (SqT.of ((s06.trans s7) _ _ t1)) (atI_nat (j := 1) rfl) ?_
          walk_at "run"
          refine i_listL (SqL.of ((s06.trans s7) _ _ t4)) ?_
          intro pb H8 f8 s8 e8
          walk_at "run"
          intro pt H9 f9 s9 e9
          walk_at "run"
          intro pz H10 f10 s10 e10
          have s610 := s7.trans (s8.trans (s9.trans s10))
          have s010 := s06.trans s610
          exact q js pz pt pf pa pb pr fs' H10 hp s010 e10 ⟨pt, us, acc, rfl, s10 _ _ e9, (s8.trans (s9.trans s10)) _ _ e7, hus.same s010, (s9.trans s10) _ _ e8, s610 _ _ h1, h3.same s610⟩ ((s6.trans s610) _ _ hpf)
theorem rows_fs {H : Hp} : ∀ {rw : List Row} {ps : List V} {gs : List Addr}, Tw.Ats H (rw.map rowW) ps gs → gs.length = rw.length ∧ ∀ (j : Nat) (x : V), ps[j]? = some x → ∃ k sl, ∃ z : Nat, x = .ref k ∧ H k = some (.tup [.ref sl, .int (z : Nat)]) ∧ gs[j]? = some sl
  | [], ps, gs, h => by
    simp only [List.map_nil, Tw.Ats] at h
    obtain ⟨rfl, rfl⟩ := h
    exact ⟨rfl, fun j x e => by simp at e⟩
  | r :: rw, ps, gs, h => by
    simp only [List.map_cons, Tw.Ats] at h
    obtain ⟨v, ws, f, g, rfl, rfl, h1, h2⟩ := h
    obtain ⟨k, sl, rfl, e1, e2, rfl⟩ := row_w.mp h1
    obtain ⟨i1, i2⟩ := rows_fs h2
    refine ⟨by simp [i1], fun j x e => ?_⟩
    cases j with
    | zero =>
      obtain rfl : V.ref k = x := by simpa using e
      exact ⟨k, sl, r.2, rfl, e1, rfl⟩
    | succ j => exact i2 j x (by simpa using e)
theorem rooms_len {H : Hp} : ∀ {rs : List Room_} {rvs : List V} {gs : List Addr}, Tw.Ats H (rs.map roomW) rvs gs → (∀ r ∈ rs, r.2.length ≤ 100) → gs.length ≤ rs.length * 101
  | [], ps, gs, h, _ => by
    simp only [List.map_nil, Tw.Ats] at h
    rw [h.2]
    simp
  | r :: rw, ps, gs, h, hr => by
    simp only [List.map_cons, Tw.Ats] at h
    obtain ⟨v, ws, f, g, rfl, rfl, h1, h2⟩ := h
    obtain ⟨q, g0, ps, gs0, rfl, e1, e2, e3, rfl⟩ := room_w.mp h1
    have i1 := rooms_len h2 fun x hx => hr x (by simp [hx])
    have i2 := (rows_fs e3).1
    have := hr r (by simp)
    simp only [List.length_append, List.length_cons]
    omega
def sp_lists (K : PySem.W.Frag) : Sp := fun vs H Q _ => ∃ (v : V) (a b c : Addr) (es : List Ev) (sy : List Str) (rs : List Room_) (gs : List Addr), vs = [v] ∧ TabAt H v a b c es sy rs gs ∧ TabOk es sy rs ∧
  ∀ pl H', H pl = none → Same H H' → H' pl = some (.lst ((a :: b :: c :: gs).map V.ref)) → Q (.ref pl) H'
theorem ok_law_lists (T : Txt K mg t) : FnOk P w K mg base CX0 1 t.a__law_lists t.fd__law_lists ["table"] (sp_lists K) := by
  refine T.F__law_lists.ok sc_law_lists (fun vs H Q E h => ?_) (fun cdv A outer s H vs Q E hr h => ?_)
  · obtain ⟨v, a, b, c, es, sy, rs, gs, rfl, _⟩ := h
    rfl
  · obtain ⟨v, a, b, c, es, sy, rs, gs, rfl, hT, ok, q⟩ := h
    refine ⟨_, (@pss_cons _ _ _ _ _ (@ps_set _ _ 1 _ _ _ _ sc_law_lists.nd rfl (by first | exact Or.inl rfl | exact Or.inr rfl) (@pe_lstN _ _ _ _ (@pa_cons _ _ _ _ _ (@pe_ix _ _ _ _ _ _ _ (kix_tup K) (pv 0) (@pe_int _ _ _ _) (fun _ _ => rfl)) (@pa_cons _ _ _ _ _ (@pe_ix _ _ _ _ _ _ _ (kix_tup K) (pv 0) (@pe_int _ _ _ _) (fun _ _ => rfl)) (@pa_cons _ _ _ _ _ (@pe_ix _ _ _ _ _ _ _ (kix_tup K) (pv 0) (@pe_int _ _ _ _) (fun _ _ => rfl)) (@pa_nil _) (by rfl)) (by rfl)) (by rfl))) (by rfl) (by first | exact Or.inl rfl | exact Or.inr rfl))
      (@pss_cons _ _ _ _ _ (@ps_for _ _ _ _ _ _ _ _ PassesOwn.never rfl (kpi_list K (@pe_ix _ _ _ _ _ _ _ (kix_tup K) (pv 0) (@pe_int _ _ _ _) (fun _ _ => rfl))) (kpg_tup K (n := 2) rfl (pgs_cons (pg_name (i := 2) sc_law_lists.nd rfl (by first | exact Or.inl rfl | exact Or.inr rfl)) (pgs_cons (pg_name (i := 3) sc_law_lists.nd rfl (by first | exact Or.inl rfl | exact Or.inr rfl)) (@pgs_nil _)))) (@pss_cons _ _ _ _ _ (@ps_expr _ _ _ _ (@kpe_bm _ K _ _ _ _ _ _ _ _ _ _ _ PySem.F.plainAttrs_list PySem.F.slot_list_append PySem.F.type_list_append mt_append (pv 1) (@pa_cons _ _ _ _ _ (pv 3) (@pa_nil _) (by rfl)) (by rfl) (by rfl) (by rfl) (by rfl) (by rfl) (by rfl)) (by rfl))
        (@pss_one _ _ _ (@ps_set _ _ 1 _ _ _ _ sc_law_lists.nd rfl (by first | exact Or.inl rfl | exact Or.inr rfl) (@pe_op _ _ _ _ _ _ _ _ op_plus (pv 1) (pe_lc (Nt := ["said", "there"]) (Nf := []) (caps := []) rfl (comp_ok (sc := defScope s_law_lists) rfl rfl (by decide +kernel) (by decide +kernel) (by decide +kernel) rfl (by decide +kernel)) (kpi_list K (pv 3)) (fun _ _ _ _ _ => (kpg_tup K (n := 2) rfl (pgs_cons (pg_name (i := 0) (show (["said", "there"] : List Str).Nodup by decide +kernel) rfl (by first | exact Or.inl rfl | exact Or.inr rfl)) (pgs_cons (pg_name (i := 1) (show (["said", "there"] : List Str).Nodup by decide +kernel) rfl (by first | exact Or.inl rfl | exact Or.inr rfl)) (@pgs_nil _))))) (fun _ _ _ _ _ => (@pts_nil _)) (fun _ _ _ _ _ => (pv 0)))) (by rfl) (by first | exact Or.inl rfl | exact Or.inr rfl)))) (by intro _; rfl))
      (@pss_one _ _ _ (@ps_ret _ _ _ _ (pv 1))))), ?_⟩
    obtain ⟨tt, tus, rvs, rfl, t1, t2, t3, t4, t5, t6⟩ := hT.ex
    have rl : rvs.length = rs.length := by rw [t6.len, List.length_map]
    have o1 := ok.ne
    have o3 := ok.nr
    have gl := rooms_len t6 fun r hr => by have := (ok.ok r hr).1; omega
    have gl2 : gs.length ≤ 100 * 101 := Nat.le_trans gl (Nat.mul_le_mul_right _ o3)
    have sl : (1000000 : Nat) ≤ sizeLine := le_line (Nat.le_refl _)
    walk_at "go"
    refine i_ixT (SqT.of t1) (atI_nat (j := 0) rfl) ?_
    walk_at "run"
    refine i_ixT (SqT.of t1) (atI_nat (j := 1) rfl) ?_
    walk_at "run"
    refine i_ixT (SqT.of t1) (atI_nat (j := 2) rfl) ?_
    walk_at "run"
    intro p1 H1 f1 s1 e1
    walk_at "run"
    refine i_ixT (SqT.of (s1 _ _ t1)) (atI_nat (j := 2) rfl) ?_
    walk_at "run"
    refine ⟨⟨_, SqL.of (s1 _ _ t5)⟩, for_list (K := K) (a := c) (xs := rvs) (fun i σ H' => Same H H' ∧ i ≤ rs.length ∧ ∃ pl y z, σ = [some (.ref tt), some (.ref pl), y, z] ∧ H pl = none ∧ ∃ g1 g2, gs = g1 ++ g2 ∧ Tw.Ats H ((rs.drop i).map roomW) (rvs.drop i) g2 ∧ H' pl = some (.lst ((a :: b :: c :: g1).map V.ref))) ⟨s1, Nat.zero_le _, p1, _, _, rfl, f1, [], gs, rfl, t6, e1⟩ (fun i σ H' _ ⟨s', _⟩ => SqL.of (s' _ _ t5)) ?_ ?_⟩
    · rintro i x σ H2 hi ⟨s2, hil, pl, y, z, rfl, fpl, g1, g2, hg, hd, hpl⟩
      have hi' : i < rvs.length := (List.getElem?_eq_some_iff.mp hi).1
      have hi2 : i < rs.length := by omega
      rw [List.drop_eq_getElem_cons hi2, List.drop_eq_getElem_cons hi'] at hd
      simp only [List.map_cons, Tw.Ats] at hd
      obtain ⟨v, ws, f, g, hvw, rfl, hd1, hd2⟩ := hd
      obtain ⟨rfl, rfl⟩ := List.cons.inj hvw
      obtain ⟨q0, g0, ps, gs0, hq0, hq1, hg0, hps, rfl⟩ := room_w.mp hd1
      obtain rfl : x = .ref q0 := by
        rw [List.getElem?_eq_getElem hi'] at hi
        rw [← hq0]
        exact (Option.some.inj hi).symm
      obtain ⟨r1, r2⟩ := rows_fs hps
      have rr := (ok.ok rs[i] (List.getElem_mem hi2)).1
      have pl2 : ps.length = rs[i].2.length := by rw [hps.len, List.length_map]
      have hgl : g1.length ≤ 100 * 101 := by
        have := congrArg List.length hg
        simp only [List.length_append] at this
        omega
      refine i_asgT (SqT.of (s2 _ _ hq1)) rfl ?_
      walk_at "run"
      refine i_tyL (SqL.of hpl) ?_
      walk_at "run"
      refine i_append hpl (by simp only [List.length_map, List.length_cons]; omega) ?_
      walk_at "run"
      have s3 : Same H (upd H2 pl (.lst ((a :: b :: c :: g1).map V.ref ++ [.ref g0]))) := s2.updNew fpl
      have hpl3 : upd H2 pl (.lst ((a :: b :: c :: g1).map V.ref ++ [.ref g0])) pl = some (.lst ((a :: b :: c :: (g1 ++ [g0])).map V.ref)) := by rw [upd_same]; simp
      generalize upd H2 pl (.lst ((a :: b :: c :: g1).map V.ref ++ [.ref g0])) = H3 at s3 hpl3
      refine ⟨⟨_, SqL.of (s3 _ _ hg0)⟩, cc_pairs (xs := ps) (le_line (by omega)) (fun j acc H' => j ≤ gs0.length ∧ H' = H3 ∧ acc = (gs0.take j).map V.ref) ⟨Nat.zero_le _, rfl, rfl⟩ (fun j acc H' ⟨hj, e, e2⟩ => ⟨by rw [e2]; simp; omega, e ▸ SqL.of (s3 _ _ hg0)⟩) ?_ ?_⟩
      · rintro j x acc H' hx ⟨hj, rfl, rfl⟩
        obtain ⟨k, sl', z, rfl, hk, hsl⟩ := r2 j x hx
        refine ⟨k, _, _, rfl, SqT.of (s3 _ _ hk), ?_⟩
        walk_at "run"
        refine ⟨(List.getElem?_eq_some_iff.mp hsl).1, rfl, ?_⟩
        rw [List.take_add_one, hsl]
        simp
      · rintro acc H' ⟨_, rfl, rfl⟩
        rw [pl2, ← r1, List.take_length]
        intro p4 H4 f4 s4 e4
        walk_at "run"
        refine i_plusL (s4 _ _ hpl3) e4 (by simp only [List.length_map, List.length_cons, List.length_append, List.length_nil]; omega) ?_
        intro p5 H5 f5 s5 e5
        walk_at "run"
        refine ⟨s3.trans (s4.trans s5), hi2, p5, _, _, rfl, (s3.trans s4).free f5, g1 ++ g0 :: gs0, g, by simp [hg], hd2, ?_⟩
        rw [e5]
        simp
    · rintro σ H2 ⟨s2, hil, pl, y, z, rfl, fpl, g1, g2, hg, hd, hpl⟩
      rw [List.drop_of_length_le (by omega)] at hd
      simp only [List.map_nil, Tw.Ats] at hd
      rw [hd.2, List.append_nil] at hg
      walk_at "run"
      exact q pl H2 fpl s2 (hg ▸ hpl)
def sp_plain (K : PySem.W.Frag) : Sp := fun vs H Q _ => ∃ (v : V) (a b c : Addr) (es : List Ev) (sy : List Str) (rs : List Room_) (gs : List Addr), vs = [v] ∧ TabAt H v a b c es sy rs gs ∧ TabOk es sy rs ∧ ∀ H', Same H H' → Q (.bl true) H'
theorem ok_law_plain (T : Txt K mg t) : FnOk P w K mg base CX0 1 t.a__law_plain t.fd__law_plain ["table"] (sp_plain K) := by
  refine T.F__law_plain.ok sc_law_plain (fun vs H Q E h => ?_) (fun cdv A outer s H vs Q E hr h => ?_)
  · obtain ⟨v, a, b, c, es, sy, rs, gs, rfl, _⟩ := h
    rfl
  · obtain ⟨v, a, b, c, es, sy, rs, gs, rfl, hT, ok, q⟩ := h
    refine ⟨_, (@pss_cons _ _ _ _ _ (@ps_for _ _ _ _ _ _ _ _ PassesOwn.never rfl (kpi_list K (@pe_ix _ _ _ _ _ _ _ (kix_tup K) (pv 0) (@pe_int _ _ _ _) (fun _ _ => rfl))) (kpg_tup K (n := 2) rfl (pgs_cons (pg_name (i := 1) sc_law_plain.nd rfl (by first | exact Or.inl rfl | exact Or.inr rfl)) (pgs_cons (pg_name (i := 2) sc_law_plain.nd rfl (by first | exact Or.inl rfl | exact Or.inr rfl)) (@pgs_nil _)))) (@pss_cons _ _ _ _ _ (@ps_if _ _ _ _ _ _ _ _ (@PW.pt _ _ _ (@pw_or _ _ _ _ _ _ _ (@pt_not _ _ _ _ (kpt_tru K (@pe_callB _ _ _ _ _ _ _ _ _ (kcl_isi K) (by rfl) T.z_isinstance bb_isinstance (@pa_cons _ _ _ _ _ (pv 1) (@pa_cons _ _ _ _ _ (pe_bltn (v := .ty "bool") (by rfl) T.z_bool bb_bool rfl) (@pa_nil _) (by rfl)) (by rfl)) (by decide) (by decide) (by rfl) (by rfl)) (fun _ => rfl))) (@pw_or1 _ _ _ _ (@pt_not _ _ _ _ (kpt_tru K (@pe_callB _ _ _ _ _ _ _ _ _ (kcl_isi K) (by rfl) T.z_isinstance bb_isinstance (@pa_cons _ _ _ _ _ (pv 2) (@pa_cons _ _ _ _ _ (pe_bltn (v := .ty "list") (by rfl) T.z_list bb_list rfl) (@pa_nil _) (by rfl)) (by rfl)) (by decide) (by decide) (by rfl) (by rfl)) (fun _ => rfl)))))) (@pss_one _ _ _ (@ps_ret _ _ _ _ (@pe_bl _ _ _ _))) (@pss_nil _))
        (@pss_one _ _ _ (@ps_if _ _ _ _ _ _ _ _ (@pt_cmpR _ _ _ _ _ _ _ _ (kop_neNil K (by exact hr.units)) (pe_lc (Nt := ["said", "there"]) (Nf := []) (caps := []) rfl (comp_ok (sc := defScope s_law_plain) rfl rfl (by decide +kernel) (by decide +kernel) (by decide +kernel) rfl (by decide +kernel)) (kpi_list K (pv 2)) (fun _ _ _ _ _ => (kpg_tup K (n := 2) rfl (pgs_cons (pg_name (i := 0) (show (["said", "there"] : List Str).Nodup by decide +kernel) rfl (by first | exact Or.inl rfl | exact Or.inr rfl)) (pgs_cons (pg_name (i := 1) (show (["said", "there"] : List Str).Nodup by decide +kernel) rfl (by first | exact Or.inl rfl | exact Or.inr rfl)) (@pgs_nil _))))) (fun _ _ _ _ _ => (@pts_one _ _ _ (kpt_tru K (@pe_callB _ _ _ _ _ _ _ _ _ (kcl_isi K) (by rfl) T.z_isinstance bb_isinstance (@pa_cons _ _ _ _ _ (pv 1) (@pa_cons _ _ _ _ _ (pe_bltn (v := .ty "bool") (by rfl) T.z_bool bb_bool rfl) (@pa_nil _) (by rfl)) (by rfl)) (by decide) (by decide) (by rfl) (by rfl)) (fun _ => rfl)))) (fun _ _ _ _ _ => (pv 1))) (@pe_lstN _ _ _ _ (@pa_nil _)) (nomark _)) (@pss_one _ _ _ (@ps_ret _ _ _ _ (@pe_bl _ _ _ _))) (@pss_nil _)))) (by intro _; rfl))
      (@pss_one _ _ _ (@ps_ret _ _ _ _ (@pe_bl _ _ _ _)))), ?_⟩
    obtain ⟨tt, tus, rvs, rfl, t1, t2, t3, t4, t5, t6⟩ := hT.ex
    have o1 := ok.ne
    walk_at "go"
    refine i_ixT (SqT.of t1) (atI_nat (j := 2) rfl) ?_
    walk_at "run"
    refine ⟨⟨_, SqL.of t5⟩, for_list (K := K) (a := c) (xs := rvs) (fun i σ H' => Same H H' ∧ ∃ y z, σ = [some (.ref tt), y, z]) ⟨Same.refl _, _, _, rfl⟩ (fun i σ H' _ ⟨s', _⟩ => SqL.of (s' _ _ t5)) ?_ ?_⟩
    · rintro i x σ H2 hi ⟨s2, y, z, rfl⟩
      obtain ⟨tx, fx, hx1, hx2, _⟩ := (t6.same s2).get i x hi
      rw [List.getElem?_map] at hx1
      obtain ⟨r, hr, rfl⟩ := Option.map_eq_some_iff.mp hx1
      obtain ⟨q0, g0, ps, gs0, rfl, hq1, hg0, hps, rfl⟩ := room_w.mp hx2
      obtain ⟨r1, r2⟩ := rows_fs hps
      have rr := (ok.ok r (List.mem_of_getElem? hr)).1
      have pl2 : ps.length = r.2.length := by rw [hps.len, List.length_map]
      refine i_asgT (SqT.of hq1) rfl ?_
      walk_at "run"
      refine i_isiL hg0 ?_
      walk_at "run"
      refine ⟨⟨_, SqL.of hg0⟩, cc_pairs (xs := ps) (le_line (by omega)) (fun j acc H' => H' = H2 ∧ acc = []) ⟨rfl, rfl⟩ (fun j acc H' ⟨e, e2⟩ => ⟨by rw [e2]; simp, e ▸ SqL.of hg0⟩) ?_ ?_⟩
      · rintro j x acc H' hx ⟨rfl, rfl⟩
        obtain ⟨k, sl', z, rfl, hk, hsl⟩ := r2 j x hx
        refine ⟨k, _, _, rfl, SqT.of hk, ?_⟩
        walk_at "run"
        exact ⟨rfl, rfl⟩
      · rintro acc H' ⟨rfl, rfl⟩ p4 H4 f4 s4 e4
        walk_at "run"
        intro p5 H5 f5 s5 e5
        refine i_neNil0 (SqL.of (s5 _ _ e4)) (SqL.of e5) ?_
        walk_at "run"
        exact ⟨s2.trans (s4.trans s5), _, _, rfl⟩
    · rintro σ H2 ⟨s2, y, z, rfl⟩
      walk_at "run"
      exact q H2 s2
theorem tws_mem {H : Hp} : ∀ {xs : List Tw} {vs : List V} {fs : List Addr}, Tw.Ats H xs vs fs → ∀ y ∈ fs, ∃ x ∈ xs, ∃ v f, x.At H v f ∧ y ∈ f
  | [], vs, fs, h, y, m => by simp only [Tw.Ats] at h; rw [h.2] at m; cases m
  | x :: xs, vs, fs, h, y, m => by
    simp only [Tw.Ats] at h
    obtain ⟨v, ws, f, g, _, rfl, h1, h2⟩ := h
    rcases List.mem_append.mp m with m | m
    · exact ⟨x, by simp, v, f, h1, m⟩
    · obtain ⟨x', hx, r⟩ := tws_mem h2 y m
      exact ⟨x', by simp [hx], r⟩
theorem TabAt.few {H : Hp} {v : V} {a b c : Addr} {es : List Ev} {sy : List Str} {rs : List Room_} {gs : List Addr} (m : TabAt H v a b c es sy rs gs) (ok : TabOk es sy rs) : ∀ x ∈ a :: b :: c :: gs, ∃ vs, H x = some (.lst vs) ∧ vs.length ≤ 100 := by
  obtain ⟨tt, us, rvs, rfl, h1, h2, h3, h4, h5, h6⟩ := m.ex
  intro x hx
  rcases List.mem_cons.mp hx with rfl | hx
  · exact ⟨_, h2, by rw [h3.len, List.length_map]; exact ok.ne⟩
  rcases List.mem_cons.mp hx with rfl | hx
  · exact ⟨_, h4, by simp only [strsV, List.length_map]; exact ok.ns⟩
  rcases List.mem_cons.mp hx with rfl | hx
  · exact ⟨_, h5, by rw [h6.len, List.length_map]; exact ok.nr⟩
  obtain ⟨tx, htx, v, f, h7, hxf⟩ := tws_mem h6 x hx
  obtain ⟨r, hr, rfl⟩ := List.mem_map.mp htx
  obtain ⟨q0, g0, ps, gs0, rfl, hq1, hg0, hps, rfl⟩ := room_w.mp h7
  obtain ⟨o1, o2⟩ := ok.ok r hr
  rcases List.mem_cons.mp hxf with rfl | hxf
  · exact ⟨_, hg0, by rw [hps.len, List.length_map, o1]; exact ok.ne⟩
  obtain ⟨ty, hty, v, f, h8, hxf⟩ := tws_mem hps x hxf
  obtain ⟨w, hw, rfl⟩ := List.mem_map.mp hty
  obtain ⟨k, sl, rfl, hk, hsl, rfl⟩ := row_w.mp h8
  rw [List.mem_singleton.mp hxf]
  exact ⟨_, hsl, by simp only [strsV, List.length_map]; exact (o2 w hw).2⟩
theorem ats_nats {H : Hp} : ∀ ks : List Nat, Tr.Ats H (ks.map fun k => Tr.int (k : Nat)) (natsV ks) []
  | [] => ats_nil0.mpr rfl
  | k :: ks => ats_cons0.mpr ⟨_, _, rfl, at_int0.mpr rfl, ats_nats ks⟩
theorem lst_tr {H : Hp} {p : Addr} {vs : List V} {ts : List Tr} (h : H p = some (.lst vs)) (h2 : Tr.Ats H ts vs []) : (Tr.lst ts).At H (.ref p) [p] := by
  rw [Tr.At]
  exact ⟨p, vs, [], rfl, h, h2, rfl⟩
theorem nats_h (ks : List Nat) : Tr.hs (ks.map fun k => Tr.int (k : Nat)) ≤ 60 := by
  have : Tr.hs (ks.map fun k => Tr.int (k : Nat)) = 0 := by
    induction ks with
    | nil => simp [Tr.hs]
    | cons k ks ih => simp [Tr.hs, Tr.h, ih]
  omega
theorem pap_h (row : List Nat) (i : Nat) : Tr.hs (papT row i) ≤ 60 := by
  have : Tr.hs (papT row i) ≤ 1 := by
    induction i with
    | zero => simp [papT, Tr.hs]
    | succ i ih =>
      rw [papT_succ]
      have : ∀ xs ys : List Tr, Tr.hs xs ≤ 1 → Tr.hs ys ≤ 1 → Tr.hs (xs ++ ys) ≤ 1 := fun xs ys h1 h2 => by
        induction xs with
        | nil => simpa using h2
        | cons x xs ih => simp only [List.cons_append, Tr.hs] at h1 ⊢; have := ih (by omega); omega
      exact this _ _ ih (by simp [Tr.hs, Tr.h])
  omega
def Grown (H : Hp) (fs : List Addr) (cont : Addr → List V) (i : Nat) : Prop := ∀ (n : Nat) (x : Addr), fs[n]? = some x → H x = some (.lst (if n < i then cont x ++ [.int 0] else cont x))
theorem Grown.step {H : Hp} {fs : List Addr} {cont : Addr → List V} {i : Nat} {x : Addr} (h : Grown H fs cont i) (hn : fs.Nodup) (e : fs[i]? = some x) : Grown (upd H x (.lst (cont x ++ [.int 0]))) fs cont (i + 1) := fun n y hy => by
  by_cases hni : n = i
  · subst hni
    rw [e] at hy
    cases hy
    rw [upd_same, if_pos (by omega)]
  · have hyx : y ≠ x := fun z => by
      subst z
      obtain ⟨l1, e1⟩ := List.getElem?_eq_some_iff.mp e
      obtain ⟨l2, e2⟩ := List.getElem?_eq_some_iff.mp hy
      have pw := List.pairwise_iff_getElem.mp hn
      rcases Nat.lt_trichotomy n i with h | h | h
      · exact pw n i l2 l1 h (e2.trans e1.symm)
      · exact hni h
      · exact pw i n l1 l2 h (e1.trans e2.symm)
    rw [upd_ne hyx, h n y hy]
    by_cases h1 : n < i
    · rw [if_pos h1, if_pos (by omega)]
    · rw [if_neg h1, if_neg (by omega)]
theorem Grown.same {H H' : Hp} {fs : List Addr} {cont : Addr → List V} {i : Nat} (h : Grown H fs cont i) (s : Same H H') : Grown H' fs cont i := fun n x e => s _ _ (h n x e)
def sp_right (K : PySem.W.Frag) (P : Params) (C : Addr) : Sp := fun vs H Q _ => ∃ (p d s c1 : Addr) (gs1 : List Addr) (v : V) (ev a b c : Addr) (us : List V) (es ets : List Ev) (sy : List Str) (rs : List Room_) (gs : List Addr), vs = [.ref p, v, .ref ev] ∧ MAt P C H p d s c1 es sy rs gs1 ∧ TabAt H v a b c es sy rs gs ∧ TabOk es sy rs ∧ es.Nodup ∧ 0 < es.length ∧ 0 < rs.length ∧ H ev = some (.lst us) ∧ Tr.Ats H (ets.map Ev.tr) us [] ∧ ets.length ≤ 100 ∧ ∀ H', Same H H' → Q (.bl true) H'
theorem ok_law_right (T : Txt K mg t) : FnOk P w K mg base CX0 5 t.a__law_right t.fd__law_right ["machine", "table", "events"] (sp_right K w.params t.c_TableMachine) := by
  have G__law_due := ok_law_due (P := P) (w := w) (base := base) T
  have G__law_lists := ok_law_lists (P := P) (w := w) (base := base) T
  have G__law_plain := ok_law_plain (P := P) (w := w) (base := base) T
  have G_table_of := ok_table_of (P := P) (w := w) (base := base) T
  have G_table_paper := ok_table_paper (P := P) (w := w) (base := base) T
  refine T.F__law_right.ok sc_law_right (fun vs H Q E h => ?_) (fun cdv A outer s H vs Q E hr h => ?_)
  · obtain ⟨p, d, s', c1, gs1, v, ev, a, b, c, us, es, ets, sy, rs, gs, rfl, _⟩ := h
    rfl
  · obtain ⟨p, d, s', c1, gs1, v, ev, a, b, c, us, es, ets, sy, rs, gs, rfl, hM, hT, ok, hnd, hes, hrs, hev, hus, hel, q⟩ := h
    refine ⟨_, (@pss_cons _ _ _ _ _ (@ps_asg _ _ _ _ _ _ (@pe_call _ _ _ _ _ _ _ _ _ _ _ _ _ _ _ _ G__law_due (hr.mono (by omega)) rfl T.m__law_due T.F__law_due.kp T.b__law_due .nil pass0 (@pa_cons _ _ _ _ _ (pv 1) (@pa_cons _ _ _ _ _ (pv 2) (@pa_nil _) (by rfl)) (by rfl)) (by decide) (by rfl) (by rfl)) (kpg_lst K (n := 2) rfl (pgs_cons (pg_name (i := 3) sc_law_right.nd rfl (by first | exact Or.inl rfl | exact Or.inr rfl)) (pgs_cons (pg_name (i := 4) sc_law_right.nd rfl (by first | exact Or.inl rfl | exact Or.inr rfl)) (@pgs_nil _)))) (by rfl) (by rfl) (by rfl))
      (@pss_cons _ _ _ _ _ (@ps_set _ _ 5 _ _ _ _ sc_law_right.nd rfl (by first | exact Or.inl rfl | exact Or.inr rfl) (@pe_callTy _ _ _ _ _ _ _ _ _ (kcl_list K) (by rfl) T.z_list bb_list (@pa_cons _ _ _ _ _ (pv 2) (@pa_nil _) (by rfl)) (by decide) (by decide) (by rfl) (by rfl)) (by rfl) (by first | exact Or.inl rfl | exact Or.inr rfl))
      (@pss_cons _ _ _ _ _ (@ps_set _ _ 6 _ _ _ _ sc_law_right.nd rfl (by first | exact Or.inl rfl | exact Or.inr rfl) (@pe_call _ _ _ _ _ _ _ _ _ _ _ _ _ _ _ _ G_table_of (hr.mono (by omega)) rfl T.m_table_of T.F_table_of.kp T.b_table_of .nil pass0 (@pa_cons _ _ _ _ _ (pv 0) (@pa_cons _ _ _ _ _ (pv 5) (@pa_nil _) (by rfl)) (by rfl)) (by decide) (by rfl) (by rfl)) (by rfl) (by first | exact Or.inl rfl | exact Or.inr rfl))
      (@pss_cons _ _ _ _ _ (@ps_if _ _ _ _ _ _ _ _ (@PW.pt _ _ _ (@pw_or _ _ _ _ _ _ _ (@pt_not _ _ _ _ (kpt_tru K (@pe_callB _ _ _ _ _ _ _ _ _ (kcl_isi K) (by rfl) T.z_isinstance bb_isinstance (@pa_cons _ _ _ _ _ (pv 6) (@pa_cons _ _ _ _ _ (pe_bltn (v := .ty "tuple") (by rfl) T.z_tuple bb_tuple rfl) (@pa_nil _) (by rfl)) (by rfl)) (by decide) (by decide) (by rfl) (by rfl)) (fun _ => rfl))) (@pw_or _ _ _ _ _ _ _ (@pt_cmpR _ _ _ _ _ _ _ _ (kop_neW (by exact hr.units)) (pv 6) (pv 3) (nomark _)) (@pw_or _ _ _ _ _ _ _ (@pt_not _ _ _ _ (kpt_tru K (@pe_call _ _ _ _ _ _ _ _ _ _ _ _ _ _ _ _ G__law_plain (hr.mono (by omega)) rfl T.m__law_plain T.F__law_plain.kp T.b__law_plain .nil pass0 (@pa_cons _ _ _ _ _ (pv 6) (@pa_nil _) (by rfl)) (by decide) (by rfl) (by rfl)) (fun _ => rfl))) (@pw_or1 _ _ _ _ (@pt_cmpR _ _ _ _ _ _ _ _ (kop_neLs (by exact hr.units)) (pv 5) (pv 2) (nomark _))))))) (@pss_one _ _ _ (@ps_ret _ _ _ _ (@pe_bl _ _ _ _))) (@pss_nil _))
      (@pss_cons _ _ _ _ _ (@ps_set _ _ 7 _ _ _ _ sc_law_right.nd rfl (by first | exact Or.inl rfl | exact Or.inr rfl) (@pe_call _ _ _ _ _ _ _ _ _ _ _ _ _ _ _ _ G_table_paper (hr.mono (by omega)) rfl T.m_table_paper T.F_table_paper.kp T.b_table_paper .nil pass0 (@pa_cons _ _ _ _ _ (pv 0) (@pa_cons _ _ _ _ _ (pv 5) (@pa_nil _) (by rfl)) (by rfl)) (by decide) (by rfl) (by rfl)) (by rfl) (by first | exact Or.inl rfl | exact Or.inr rfl))
      (@pss_cons _ _ _ _ _ (@ps_if _ _ _ _ _ _ _ _ (@PW.pt _ _ _ (@pw_or _ _ _ _ _ _ _ (@pt_not _ _ _ _ (kpt_tru K (@pe_callB _ _ _ _ _ _ _ _ _ (kcl_isi K) (by rfl) T.z_isinstance bb_isinstance (@pa_cons _ _ _ _ _ (pv 7) (@pa_cons _ _ _ _ _ (pe_bltn (v := .ty "list") (by rfl) T.z_list bb_list rfl) (@pa_nil _) (by rfl)) (by rfl)) (by decide) (by decide) (by rfl) (by rfl)) (fun _ => rfl))) (@pw_or _ _ _ _ _ _ _ (@pt_cmpR _ _ _ _ _ _ _ _ (kop_neLs (by exact hr.units)) (pv 7) (pe_lc (Nt := ["k", "room"]) (Nf := []) (caps := []) rfl (comp_ok (sc := defScope s_law_right) rfl rfl (by decide +kernel) (by decide +kernel) (by decide +kernel) rfl (by decide +kernel)) (pi_enum K rfl T.z_enumerate (@pa_cons _ _ _ _ _ (pv 4) (@pa_nil _) (by rfl))) (fun _ _ _ _ _ => (kpg_tup K (n := 2) rfl (pgs_cons (pg_name (i := 0) (show (["k", "room"] : List Str).Nodup by decide +kernel) rfl (by first | exact Or.inl rfl | exact Or.inr rfl)) (pgs_cons (pg_name (i := 1) (show (["k", "room"] : List Str).Nodup by decide +kernel) rfl (by first | exact Or.inl rfl | exact Or.inr rfl)) (@pgs_nil _))))) (fun _ _ _ _ _ => (@pts_nil _)) (fun _ _ _ _ _ => (@pe_tupN _ _ _ _ _ (@pa_cons _ _ _ _ _ (pv 1) (@pa_cons _ _ _ _ _ (pv 0) (@pa_nil _) (by rfl)) (by rfl))))) (nomark _)) (@pw_or1 _ _ _ _ (@pt_cmpR _ _ _ _ _ _ _ _ (kop_neLs (by exact hr.units)) (pv 5) (pv 2) (nomark _)))))) (@pss_one _ _ _ (@ps_ret _ _ _ _ (@pe_bl _ _ _ _))) (@pss_nil _))
      (@pss_cons _ _ _ _ _ (@ps_set _ _ 8 _ _ _ _ sc_law_right.nd rfl (by first | exact Or.inl rfl | exact Or.inr rfl) (@pe_call _ _ _ _ _ _ _ _ _ _ _ _ _ _ _ _ G__law_lists (hr.mono (by omega)) rfl T.m__law_lists T.F__law_lists.kp T.b__law_lists .nil pass0 (@pa_cons _ _ _ _ _ (pv 6) (@pa_nil _) (by rfl)) (by decide) (by rfl) (by rfl)) (by rfl) (by first | exact Or.inl rfl | exact Or.inr rfl))
      (@pss_cons _ _ _ _ _ (ps_lc (i := 9) (Nt := ["some"]) (Nf := []) (caps := []) rfl (comp_ok (sc := defScope s_law_right) rfl rfl (by decide +kernel) (by decide +kernel) (by decide +kernel) rfl (by decide +kernel)) (kpi_list K (pv 8)) (fun _ _ _ _ _ => (pg_name (i := 0) (show (["some"] : List Str).Nodup by decide +kernel) rfl (by first | exact Or.inl rfl | exact Or.inr rfl))) (fun _ _ _ _ _ => (@pts_nil _)) (fun _ _ _ _ _ => (@pe_callB _ _ _ _ _ _ _ _ _ (kcl_len K) (by rfl) T.z_len bb_len (@pa_cons _ _ _ _ _ (pv 0) (@pa_nil _) (by rfl)) (by decide) (by decide) (by rfl) (by rfl))) sc_law_right.nd rfl (by first | exact Or.inl rfl | exact Or.inr rfl) rfl)
      (@pss_cons _ _ _ _ _ (@ps_for _ _ _ _ _ _ _ _ PassesOwn.never rfl (kpi_list K (pv 8)) (pg_name (i := 10) sc_law_right.nd rfl (by first | exact Or.inl rfl | exact Or.inr rfl)) (@pss_one _ _ _ (@ps_expr _ _ _ _ (@kpe_bm _ K _ _ _ _ _ _ _ _ _ _ _ PySem.F.plainAttrs_list PySem.F.slot_list_append PySem.F.type_list_append mt_append (pv 10) (@pa_cons _ _ _ _ _ (@pe_int _ _ _ _) (@pa_nil _) (by rfl)) (by rfl) (by rfl) (by rfl) (by rfl) (by rfl) (by rfl)) (by rfl))) (by intro _; rfl))
      (@pss_cons _ _ _ _ _ (@ps_if _ _ _ _ _ _ _ _ (@pt_cmpR _ _ _ _ _ _ _ _ (kop_neLs (by exact hr.units)) (pe_lc (Nt := ["some"]) (Nf := []) (caps := []) rfl (comp_ok (sc := defScope s_law_right) rfl rfl (by decide +kernel) (by decide +kernel) (by decide +kernel) rfl (by decide +kernel)) (kpi_list K (pv 8)) (fun _ _ _ _ _ => (pg_name (i := 0) (show (["some"] : List Str).Nodup by decide +kernel) rfl (by first | exact Or.inl rfl | exact Or.inr rfl))) (fun _ _ _ _ _ => (@pts_nil _)) (fun _ _ _ _ _ => (@pe_callB _ _ _ _ _ _ _ _ _ (kcl_len K) (by rfl) T.z_len bb_len (@pa_cons _ _ _ _ _ (pv 0) (@pa_nil _) (by rfl)) (by decide) (by decide) (by rfl) (by rfl)))) (pe_lc (Nt := ["size"]) (Nf := []) (caps := []) rfl (comp_ok (sc := defScope s_law_right) rfl rfl (by decide +kernel) (by decide +kernel) (by decide +kernel) rfl (by decide +kernel)) (kpi_list K (pv 9)) (fun _ _ _ _ _ => (pg_name (i := 0) (show (["size"] : List Str).Nodup by decide +kernel) rfl (by first | exact Or.inl rfl | exact Or.inr rfl))) (fun _ _ _ _ _ => (@pts_nil _)) (fun _ _ _ _ _ => (@pe_op _ _ _ _ _ _ _ _ op_plus (pv 0) (@pe_int _ _ _ _)))) (nomark _)) (@pss_one _ _ _ (@ps_ret _ _ _ _ (@pe_bl _ _ _ _))) (@pss_nil _))
      (@pss_one _ _ _ (@ps_ret _ _ _ _ (@pe_cmpR _ _ _ _ _ _ _ _ (kop_eqW (by exact hr.units)) (@pe_call _ _ _ _ _ _ _ _ _ _ _ _ _ _ _ _ G_table_of (hr.mono (by omega)) rfl T.m_table_of T.F_table_of.kp T.b_table_of .nil pass0 (@pa_cons _ _ _ _ _ (pv 0) (@pa_cons _ _ _ _ _ (pv 5) (@pa_nil _) (by rfl)) (by rfl)) (by decide) (by rfl) (by rfl)) (pv 3) (nomark _)))))))))))))), ?_⟩
    have sl : (1000000 : Nat) ≤ sizeLine := le_line (Nat.le_refl _)
    have evh := Nat.le_trans (evs_h ets) (show 1 ≤ 60 by decide)
    walk_at "go"
    refine ⟨v, ev, a, b, c, us, es, ets, sy, rs, gs, rfl, hT, ok, hnd, hes, hrs, hev, hus, hel, fun js pl pt pf a' b' c' gs' H1 hp s1 e1 hD hpf => ?_⟩
    refine i_asgL (SqL.of e1) rfl ?_
    walk_at "run"
    have ok' := outR_ok ok hp hrs hel
    have hbR := bf_R ok hp.lt hrs
    have hrl := hbR.few
    have o3 := ok.nr
    refine i_listL (SqL.of (s1 _ _ hev)) ?_
    intro ph H2 f2 s2 e2
    walk_at "run"
    have s02 := s1.trans s2
    refine ⟨p, d, s', c1, ph, us, es, ets, sy, rs, gs1, js, rfl, hM.same s02, ok, hrs, e2, hus.same s02, hel, hp, fun v3 a3 b3 c3 gs3 H3 s3 hT3 fr3 nd3 => ?_⟩
    have s03 := s02.trans s3
    have hD3 := hD.same (s2.trans s3)
    obtain ⟨t3, us3, rvs3, rfl, x1, _⟩ := hT3.ex
    walk_at "run"
    refine i_isiT x1 ?_
    walk_at "run"
    refine i_neW hT3.tw hD3.tw (tabL_h _ _ _) ?_
    walk_at "run"
    refine ⟨_, a3, b3, c3, ets, sy, outR rs js, gs3, rfl, hT3, ok', fun H4 s4 => ?_⟩
    walk_at "run"
    have s24 := s3.trans s4
    have s04 := s03.trans s4
    refine i_neLs (lst_tr (s24 _ _ e2) (hus.same s04)) (lst_tr (s04 _ _ hev) (hus.same s04)) evh ?_
    walk_at "run"
    refine ⟨p, d, s', c1, ph, us, es, ets, sy, rs, gs1, js, rfl, hM.same s04, ok, hrs, s24 _ _ e2, hus.same s04, hel, hp, fun pp pvs H5 s5 e5 hpp => ?_⟩
    walk_at "run"
    refine i_isiL e5 ?_
    walk_at "run"
    have s25 := s24.trans s5
    have s05 := s04.trans s5
    have hpf5 := (s2.trans s25) _ _ hpf
    refine ⟨⟨_, SqL.of hpf5⟩, cc_enum (xs := natsV (rowR rs js)) (le_line (by rw [natsV_len]; omega)) (fun i acc H' => Same H5 H' ∧ i ≤ (rowR rs js).length ∧ acc.length = i ∧ Tr.Ats H' (papT (rowR rs js) i) acc []) ⟨Same.refl _, Nat.zero_le _, rfl, ats_nil0.mpr rfl⟩ (fun i acc H' ⟨s', _, e, _⟩ => ⟨by omega, SqL.of (s' _ _ hpf5)⟩) ?_ ?_⟩
    · rintro i x acc H' H6 hx ⟨s6, hi, ha, hpk⟩ s7
      obtain ⟨k, hk, rfl⟩ := natsV_get hx
      have hi' : i < (rowR rs js).length := (List.getElem?_eq_some_iff.mp hk).1
      walk_at "run"
      intro p4 H8 f8 s8 e8
      refine ⟨s6.trans (s7.trans s8), hi', by simp [ha], ?_⟩
      rw [papT_succ, show (rowR rs js).getD i 0 = k by rw [List.getD_eq_getElem?_getD, hk]; rfl]
      exact Tr.Ats.snoc (hpk.same (s7.trans s8)) (pair_at e8)
    · rintro acc H6 ⟨s6, _, _, hpk⟩ pq H7 f7 s7 e7
      rw [natsV_len] at hpk
      have s57 := s6.trans s7
      refine i_neLs (lst_tr (s57 _ _ e5) (hpp.same s57)) (lst_tr e7 (hpk.same s7)) (pap_h _ _) ?_
      walk_at "run"
      have s27 := s25.trans s57
      have s07 := s05.trans s57
      refine i_neLs (lst_tr (s27 _ _ e2) (hus.same s07)) (lst_tr (s07 _ _ hev) (hus.same s07)) evh ?_
      walk_at "run"
      have s37 := s4.trans (s5.trans s57)
      have hT7 := hT3.same s37
      refine ⟨_, a3, b3, c3, ets, sy, outR rs js, gs3, rfl, hT7, ok', fun ql H8 f8 s8 e8 => ?_⟩
      walk_at "run"
      have hT8 := hT7.same s8
      have few8 := hT8.few ok'
      obtain ⟨_, _, rvs8, _, _, _, _, _, _, t68⟩ := hT8.ex
      have gl := rooms_len t68 fun r hr => by have := (ok'.ok r hr).1; omega
      have gl2 : gs3.length ≤ 100 * 101 := Nat.le_trans gl (Nat.mul_le_mul_right _ ok'.nr)
      have lst7 := hT7.lst
      have fsl : (a3 :: b3 :: c3 :: gs3).length ≤ 20000 := by simp only [List.length_cons]; omega
      generalize hfs : a3 :: b3 :: c3 :: gs3 = fs at e8 few8 fr3 nd3 fsl lst7
      have hql : ql ∉ fs := fun z => by
        obtain ⟨vs, e⟩ := lst7 ql z
        rw [f8] at e
        cases e
      obtain ⟨cont, hc⟩ : ∃ cont : Addr → List V, ∀ x ∈ fs, H8 x = some (.lst (cont x)) ∧ (cont x).length ≤ 100 := by
        refine ⟨fun x => match H8 x with | some (.lst vs) => vs | _ => [], fun x hx => ?_⟩
        obtain ⟨vs, e, l⟩ := few8 x hx
        show H8 x = some (.lst (match H8 x with | some (.lst vs) => vs | _ => [])) ∧ (match H8 x with | some (.lst vs) => vs | _ => []).length ≤ 100
        rw [e]
        exact ⟨rfl, l⟩
      have G8 : Grown H8 fs cont 0 := fun n x e => by
        rw [if_neg (Nat.not_lt_zero _)]
        exact (hc x (List.mem_of_getElem? e)).1
      have rget : ∀ {n : Nat} {x : V}, (fs.map V.ref)[n]? = some x → ∃ y, fs[n]? = some y ∧ x = .ref y := fun {n x} e => by
        rw [List.getElem?_map] at e
        obtain ⟨y, h1, h2⟩ := Option.map_eq_some_iff.mp e
        exact ⟨y, h1, h2.symm⟩
      refine ⟨⟨_, SqL.of e8⟩, cc_list (xs := fs.map V.ref) (le_line (by rw [List.length_map]; omega)) (fun i acc H' => H' = H8 ∧ i ≤ fs.length ∧ acc = natsV ((fs.map fun x => (cont x).length).take i)) ⟨rfl, Nat.zero_le _, rfl⟩ (fun i acc H' ⟨e, hi, ea⟩ => ⟨by rw [ea, natsV_len, List.length_take]; omega, e ▸ SqL.of e8⟩) ?_ ?_⟩
      · rintro i x acc H' hx ⟨rfl, hi, rfl⟩
        obtain ⟨y, hy, rfl⟩ := rget hx
        walk_at "run"
        refine i_lenL (SqL.of (hc y (List.mem_of_getElem? hy)).1) ?_
        refine ⟨rfl, (List.getElem?_eq_some_iff.mp hy).1, ?_⟩
        rw [natsV_snoc, List.take_add_one, List.getElem?_map, hy]
        rfl
      · rintro acc H' ⟨rfl, _, rfl⟩ pz H9 f9 s9 e9
        rw [List.length_map, List.take_of_length_le (by simp)] at e9
        walk_at "run"
        have s39 := s37.trans (s8.trans s9)
        have s29 := s27.trans (s8.trans s9)
        have hpz : pz ∉ fs := fun z => by
          have := (hc pz z).1
          rw [f9] at this
          cases this
        refine ⟨⟨_, SqL.of (s9 _ _ e8)⟩, for_list (K := K) (a := ql) (xs := fs.map V.ref) (fun i σ H' => i ≤ fs.length ∧ Same H2 H' ∧ Grown H' fs cont i ∧ H' ql = some (.lst (fs.map V.ref)) ∧ H' pz = some (.lst (natsV (fs.map fun x => (cont x).length))) ∧ ∃ y, σ = [some (.ref p), some v, some (.ref ev), some (.ref pt), some (.ref pf), some (.ref ph), some (.ref t3), some (.ref pp), some (.ref ql), some (.ref pz), y]) ⟨Nat.zero_le _, s29, G8.same s9, s9 _ _ e8, e9, _, rfl⟩ (fun i σ H' _ ⟨_, _, _, h, _⟩ => SqL.of h) ?_ ?_⟩
        · rintro i x σ H10 hi ⟨hil, s10, G10, e10, z10, y, rfl⟩
          obtain ⟨x, hx, rfl⟩ := rget hi
          have hxm := List.mem_of_getElem? hx
          have hcx := (hc x hxm).2
          have hx10 := G10 i x hx
          rw [if_neg (by omega)] at hx10
          walk_at "run"
          refine i_tyL (SqL.of hx10) ?_
          walk_at "run"
          refine i_append hx10 (by omega) ?_
          refine ⟨(List.getElem?_eq_some_iff.mp hx).1, s10.updNew (fr3 x hxm), G10.step nd3 hx, ?_, ?_, _, rfl⟩
          · rw [upd_ne (fun (z : ql = x) => hql (by rw [z]; exact hxm))]; exact e10
          · rw [upd_ne (fun (z : pz = x) => hpz (by rw [z]; exact hxm))]; exact z10
        · rintro σ H10 ⟨_, s10, G10, e10, z10, y, rfl⟩
          rw [List.length_map] at G10
          walk_at "run"
          refine ⟨⟨_, SqL.of e10⟩, cc_list (xs := fs.map V.ref) (le_line (by rw [List.length_map]; omega)) (fun i acc H' => H' = H10 ∧ i ≤ fs.length ∧ acc = natsV ((fs.map fun x => (cont x).length + 1).take i)) ⟨rfl, Nat.zero_le _, rfl⟩ (fun i acc H' ⟨e, hi, ea⟩ => ⟨by rw [ea, natsV_len, List.length_take]; omega, e ▸ SqL.of e10⟩) ?_ ?_⟩
          · rintro i x acc H' hx ⟨rfl, hi, rfl⟩
            obtain ⟨y, hy, rfl⟩ := rget hx
            have hi2 := (List.getElem?_eq_some_iff.mp hy).1
            have hy10 := G10 i y hy
            rw [if_pos hi2] at hy10
            walk_at "run"
            refine i_lenL (SqL.of hy10) ?_
            refine ⟨rfl, hi2, ?_⟩
            rw [natsV_snoc, List.take_add_one, List.getElem?_map, hy]
            simp
          · rintro acc H' ⟨rfl, _, rfl⟩ py H11 f11 s11 e11
            rw [List.length_map, List.take_of_length_le (by simp)] at e11
            walk_at "run"
            have z11 := s11 _ _ z10
            refine ⟨⟨_, SqL.of z11⟩, cc_list (xs := natsV (fs.map fun x => (cont x).length)) (le_line (by rw [natsV_len, List.length_map]; omega)) (fun i acc H' => H' = H11 ∧ i ≤ fs.length ∧ acc = natsV ((fs.map fun x => (cont x).length + 1).take i)) ⟨rfl, Nat.zero_le _, rfl⟩ (fun i acc H' ⟨e, hi, ea⟩ => ⟨by rw [ea, natsV_len, List.length_take]; omega, e ▸ SqL.of z11⟩) ?_ ?_⟩
            · rintro i x acc H' hx ⟨rfl, hi, rfl⟩
              obtain ⟨k, hk, rfl⟩ := natsV_get hx
              rw [List.getElem?_map] at hk
              obtain ⟨y, hy, rfl⟩ := Option.map_eq_some_iff.mp hk
              walk_at "run"
              refine ⟨rfl, (List.getElem?_eq_some_iff.mp hy).1, ?_⟩
              rw [List.take_add_one, List.getElem?_map, hy]
              simp [natsV]
            · rintro acc H' ⟨rfl, _, rfl⟩ px H12 f12 s12 e12
              rw [natsV_len, List.length_map, List.take_of_length_le (by simp)] at e12
              refine i_neLs (lst_tr (s12 _ _ e11) (ats_nats _)) (lst_tr e12 (ats_nats _)) (nats_h _) ?_
              walk_at "run"
              have s212 := s10.trans (s11.trans s12)
              have s012 := s02.trans s212
              refine ⟨p, d, s', c1, ph, us, es, ets, sy, rs, gs1, js, rfl, hM.same s012, ok, hrs, s212 _ _ e2, hus.same s012, hel, hp, fun v13 a13 b13 c13 gs13 H13 s13 hT13 _ _ => ?_⟩
              walk_at "run"
              exact i_eqW hT13.tw (hD.same (s2.trans (s212.trans s13))).tw (tabL_h _ _ _) (q H13 (s012.trans s13))
def sp_law (K : PySem.W.Frag) : Sp := fun vs H Q _ => ∃ (a : Addr) (ns : List Int), vs = [.ref a] ∧ SqL K H a (ns.map V.int) ∧ ns.length ≤ 63 ∧ ∀ H', Q (.bl true) H'
theorem ok_law (T : Txt K mg t) : FnOk P w K mg base CX0 6 t.a_law t.fd_law ["script"] (sp_law K) := by
  have G_TableMachine___init__ := ok_TableMachine___init__ (P := P) (w := w) (base := base) T
  have G_TableMachine_begin := ok_TableMachine_begin (P := P) (w := w) (base := base) T
  have G__law_copied := ok_law_copied (P := P) (w := w) (base := base) T
  have G__law_deck := ok_law_deck (P := P) (w := w) (base := base) T
  have G__law_events := ok_law_events (P := P) (w := w) (base := base) T
  have G__law_right := ok_law_right (P := P) (w := w) (base := base) T
  have G__law_table := ok_law_table (P := P) (w := w) (base := base) T
  refine T.F_law.ok sc_law (fun vs H Q E h => ?_) (fun cdv A outer s H vs Q E hr h => ?_)
  · obtain ⟨a, ns, rfl, _⟩ := h
    rfl
  · obtain ⟨a0, ns, rfl, hS, hl, q⟩ := h
    refine ⟨_, (@pss_cons _ _ _ _ _ (@ps_set _ _ 1 _ _ _ _ sc_law.nd rfl (by first | exact Or.inl rfl | exact Or.inr rfl) (@pe_call _ _ _ _ _ _ _ _ _ _ _ _ _ _ _ _ G__law_deck (hr.mono (by omega)) rfl T.m__law_deck T.F__law_deck.kp T.b__law_deck .nil pass0 (@pa_cons _ _ _ _ _ (pv 0) (@pa_nil _) (by rfl)) (by decide) (by rfl) (by rfl)) (by rfl) (by first | exact Or.inl rfl | exact Or.inr rfl))
      (@pss_cons _ _ _ _ _ (@ps_set _ _ 2 _ _ _ _ sc_law.nd rfl (by first | exact Or.inl rfl | exact Or.inr rfl) (@pe_call _ _ _ _ _ _ _ _ _ _ _ _ _ _ _ _ G__law_table (hr.mono (by omega)) rfl T.m__law_table T.F__law_table.kp T.b__law_table .nil pass0 (@pa_cons _ _ _ _ _ (pv 1) (@pa_nil _) (by rfl)) (by decide) (by rfl) (by rfl)) (by rfl) (by first | exact Or.inl rfl | exact Or.inr rfl))
      (@pss_cons _ _ _ _ _ (@ps_set _ _ 3 _ _ _ _ sc_law.nd rfl (by first | exact Or.inl rfl | exact Or.inr rfl) (pe_make T.mk_TableMachine G_TableMachine___init__ (hr.mono (by omega)) rfl T.m_TableMachine T.b_TableMachine___init__ .nil pass0 (@pa_cons _ _ _ _ _ (@pe_call _ _ _ _ _ _ _ _ _ _ _ _ _ _ _ _ G__law_copied (hr.mono (by omega)) rfl T.m__law_copied T.F__law_copied.kp T.b__law_copied .nil pass0 (@pa_cons _ _ _ _ _ (pv 2) (@pa_nil _) (by rfl)) (by decide) (by rfl) (by rfl)) (@pa_nil _) (by rfl))) (by rfl) (by first | exact Or.inl rfl | exact Or.inr rfl))
      (@pss_cons _ _ _ _ _ (@ps_if _ _ _ _ _ _ _ _ (@PW.pt _ _ _ (@pw_or _ _ _ _ _ _ _ (@pt_not _ _ _ _ (kpt_tru K (@pe_call _ _ _ _ _ _ _ _ _ _ _ _ _ _ _ _ G__law_right (hr.mono (by omega)) rfl T.m__law_right T.F__law_right.kp T.b__law_right .nil pass0 (@pa_cons _ _ _ _ _ (pv 3) (@pa_cons _ _ _ _ _ (pv 2) (@pa_cons _ _ _ _ _ (@pe_ix _ _ _ _ _ _ _ (kix_tup K) (pv 2) (@pe_int _ _ _ _) (fun _ _ => rfl)) (@pa_nil _) (by rfl)) (by rfl)) (by rfl)) (by decide) (by rfl) (by rfl)) (fun _ => rfl))) (@pw_or1 _ _ _ _ (@pt_not _ _ _ _ (kpt_tru K (@pe_call _ _ _ _ _ _ _ _ _ _ _ _ _ _ _ _ G__law_right (hr.mono (by omega)) rfl T.m__law_right T.F__law_right.kp T.b__law_right .nil pass0 (@pa_cons _ _ _ _ _ (pv 3) (@pa_cons _ _ _ _ _ (pv 2) (@pa_cons _ _ _ _ _ (@pe_call _ _ _ _ _ _ _ _ _ _ _ _ _ _ _ _ G__law_events (hr.mono (by omega)) rfl T.m__law_events T.F__law_events.kp T.b__law_events .nil pass0 (@pa_cons _ _ _ _ _ (pv 1) (@pa_nil _) (by rfl)) (by decide) (by rfl) (by rfl)) (@pa_nil _) (by rfl)) (by rfl)) (by rfl)) (by decide) (by rfl) (by rfl)) (fun _ => rfl)))))) (@pss_one _ _ _ (@ps_ret _ _ _ _ (@pe_bl _ _ _ _))) (@pss_nil _))
      (@pss_cons _ _ _ _ _ (@ps_if _ _ _ _ _ _ _ _ (@pt_not _ _ _ _ (kpt_tru K (@pe_call _ _ _ _ _ _ _ _ _ _ _ _ _ _ _ _ G__law_right (hr.mono (by omega)) rfl T.m__law_right T.F__law_right.kp T.b__law_right .nil pass0 (@pa_cons _ _ _ _ _ (pv 3) (@pa_cons _ _ _ _ _ (pv 2) (@pa_cons _ _ _ _ _ (@pe_lstN _ _ _ _ (@pa_cons _ _ _ _ _ (@pe_tupN _ _ _ _ _ (@pa_cons _ _ _ _ _ (@pe_str _ _ _ _) (@pa_nil _) (by rfl))) (@pa_nil _) (by rfl))) (@pa_nil _) (by rfl)) (by rfl)) (by rfl)) (by decide) (by rfl) (by rfl)) (fun _ => rfl))) (@pss_one _ _ _ (@ps_ret _ _ _ _ (@pe_bl _ _ _ _))) (@pss_nil _))
      (@pss_one _ _ _ (@ps_ret _ _ _ _ (@pe_cmpR _ _ _ _ _ _ _ _ (kop_eqW (by exact hr.units)) (pe_meth0 (pv 3) T.cl_TableMachine T.M_TableMachine_begin G_TableMachine_begin (hr.mono (by omega)) T.b_TableMachine_begin .nil pass0) (@pe_tupN _ _ _ _ _ (@pa_cons _ _ _ _ _ (@pe_ix _ _ _ _ _ _ _ (kix_tup K) (pv 2) (@pe_int _ _ _ _) (fun _ _ => rfl)) (@pa_cons _ _ _ _ _ (@pe_int _ _ _ _) (@pa_nil _) (by rfl)) (by rfl))) (nomark _))))))))), ?_⟩
    walk_at "go"
    refine ⟨a0, ns, rfl, hS, hl, fun d0 l0 H1 fd fl s1 k1 => ?_⟩
    walk_at "run"
    refine ⟨d0, l0, 0, rfl, k1, by omega, fun v a b c es sy rs gs H2 n2 hT2 ok nd hes hrs fr2 o2 hn2 k2 => ?_⟩
    obtain ⟨tt, us, rvs, rfl, t1, t2, t3, t4, t5, t6⟩ := hT2.ex
    walk_at "run"
    refine ⟨_, a, b, c, es, sy, rs, gs, rfl, hT2, ok, fun v' a' b' c' gs' H3 hT3 fr3 s3 => ?_⟩
    walk_at "run"
    intro p dx np ndx nex
    have s3x := mk_same (o := .own p) (o' := .ins t.c_TableMachine dx []) np ndx
    refine ⟨p, dx, v', a', b', c', es, sy, rs, gs', rfl, upd_same, hT3.same s3x, ok, fun d s c1 gs1 H4 m4 fd4 fs4 fc4 fg4 k4 => ⟨rfl, ?_⟩⟩
    have s34 : Same H3 H4 := fun y o e => k4 y o (s3x y o e) (ne_of_none e np)
    have s24 := s3.trans s34
    have hT4 := hT2.same s24
    have k24 := k2.same s24
    have n1 : ∀ x ∈ s :: c1 :: gs1, x ≠ d0 ∧ x ≠ l0 := fun x hx => (k2.same s3).new (by
      rcases List.mem_cons.mp hx with rfl | hx
      · exact s3x.free fs4
      rcases List.mem_cons.mp hx with rfl | hx
      · exact s3x.free fc4
      · exact s3x.free (fg4 x hx))
    have n2' : ∀ x ∈ a :: b :: c :: gs, x ≠ d0 ∧ x ≠ l0 := fun x hx => k1.new (fr2 x hx)
    walk_at "run"
    refine i_ixT (SqT.of (s24 _ _ t1)) (atI_nat (j := 0) rfl) ?_
    walk_at "run"
    refine ⟨p, d, s, c1, gs1, _, a, a, b, c, us, es, es, sy, rs, gs, rfl, m4, hT4, ok, nd, hes, hrs, s24 _ _ t2, t3.same s24, ok.ne, fun H5 s5 => ?_⟩
    walk_at "run"
    refine ⟨d0, l0, n2, rfl, k24.same s5, by omega, fun es6 p6 us6 H6 n6 f6 e6 hu6 nd6 hl6 h06 o6 hn6 k6 => ?_⟩
    have r6 := Rest.off o6 (k24.same s5)
    have m6 := (m4.same s5).rest r6 fun x hx z => z.elim (n1 x hx).1 (n1 x hx).2
    have hT6 := (hT4.same s5).rest r6 fun x hx z => z.elim (n2' x hx).1 (n2' x hx).2
    walk_at "run"
    refine ⟨p, d, s, c1, gs1, _, p6, a, b, c, us6, es, es6, sy, rs, gs, rfl, m6, hT6, ok, nd, hes, hrs, e6, hu6, by omega, fun H7 s7 => ?_⟩
    walk_at "run"
    intro p8 H8 f8 s8 e8
    walk_at "run"
    intro p9 H9 f9 s9 e9
    have s69 := s7.trans (s8.trans s9)
    walk_at "run"
    refine ⟨p, d, s, c1, gs1, _, p9, a, b, c, [.ref p8], es, [.quiet], sy, rs, gs, rfl, m6.same s69, hT6.same s69, ok, nd, hes, hrs, e9, ats_cons0.mpr ⟨_, _, rfl, at_tup0.mpr ⟨p8, _, rfl, s9 _ _ e8, ats_cons0.mpr ⟨_, _, rfl, at_str0.mpr rfl, ats_nil0.mpr rfl⟩⟩, ats_nil0.mpr rfl⟩, by simp, fun H10 s10 => ?_⟩
    have s610 := s69.trans s10
    have m10 := m6.same s610
    have hT10 := hT6.same s610
    walk_at "run"
    obtain ⟨dxa, rva, ga, _⟩ := m10.ex
    refine ⟨p, dxa, _, rfl, ga, mf_no _ _ _ (by decide +kernel) (by decide +kernel) (by decide +kernel), ?_⟩
    walk_at "run"
    refine ⟨p, d, s, c1, es, sy, rs, gs1, rfl, m10, fun k16 l16 H16 f16 s16 e16 e16' => ?_⟩
    walk_at "run"
    obtain ⟨tt2, us2, rvs2, htt, w1, w2, w3, w4, _⟩ := (hT10.same s16).ex
    cases htt
    refine i_ixT (SqT.of w1) (atI_nat (j := 1) rfl) ?_
    walk_at "run"
    intro p17 H17 f17 s17 e17
    have tw : ∀ {Hx : Hp} {kk ll : Addr}, Hx kk = some (.tup [.ref ll, .int ((0 : Nat) : Int)]) → Hx ll = some (.lst (strsV sy)) → (Tw.tup [.lst (sy.map strW), .sc (.int ((0 : Nat) : Int))]).At Hx (.ref kk) [ll] := fun {Hx kk ll} a b => row_w (r := (sy, 0)) |>.mpr ⟨kk, ll, rfl, a, b, rfl⟩
    have hh : Tw.hs [.lst (sy.map strW), .sc (.int ((0 : Nat) : Int))] ≤ 50 := by
      have := strs_hW sy
      simp only [Tw.hs, Tw.h]
      omega
    refine i_eqW (tw (s17 _ _ e16) (s17 _ _ e16')) (tw e17 (s17 _ _ w4)) hh ?_
    exact q H17
end
theorem all_mk {l : PySem.W.OpenLaw} {w : World} {K : PySem.W.Frag} {h : Heap} {mg : Str → Option Value} {fa : Addr} (X : K.In h) (G : h.Ns mainGlobals mg) (hfa : mg "law" = some (.ref fa))
    {C_MillError : Addr} (aC_MillError : PySem.W.nsIn K mainGlobals "MillError" = some (some (.ref C_MillError)))
    {C_TooMany : Addr} (aC_TooMany : PySem.W.nsIn K mainGlobals "TooMany" = some (some (.ref C_TooMany)))
    {C_Machine : Addr} (aC_Machine : PySem.W.nsIn K mainGlobals "Machine" = some (some (.ref C_Machine)))
    {C_TableMachine : Addr} (aC_TableMachine : PySem.W.nsIn K mainGlobals "TableMachine" = some (some (.ref C_TableMachine)))
    (pg_TableMachine : PySem.W.plainGet K C_TableMachine Str.empty = true) (hd_TableMachine : PySem.W.hasDictIn K C_TableMachine = true) (po_TableMachine : PySem.W.plainOver K C_TableMachine = true) (sa_TableMachine : PySem.W.findIn K (.ref C_TableMachine) "__setattr__" = some (some (.builtin "object.__setattr__"))) (mk_TableMachine : PySem.W.makesIn K C_TableMachine = true) (kc_TableMachine : PySem.W.keepIn K (.ref C_TableMachine) = true)
    (nF_TableMachine_places : PySem.W.findIn K (.ref C_TableMachine) "places" = some none)
    (nF_TableMachine_rooms : PySem.W.findIn K (.ref C_TableMachine) "rooms" = some none)
    (nF_TableMachine_saying : PySem.W.findIn K (.ref C_TableMachine) "saying" = some none)
    {f0 : Addr} {od0 an0 : Option Addr} {sl0 : Array (Option Value)} {oc0 kV0 dc0 pm0 cd0 ct0 : Value}
    {f1 : Addr} {od1 an1 : Option Addr} {sl1 : Array (Option Value)} {oc1 kV1 dc1 pm1 cd1 ct1 : Value}
    {f2 : Addr} {od2 an2 : Option Addr} {sl2 : Array (Option Value)} {oc2 kV2 dc2 pm2 cd2 ct2 : Value}
    {f3 : Addr} {od3 an3 : Option Addr} {sl3 : Array (Option Value)} {oc3 kV3 dc3 pm3 cd3 ct3 : Value}
    {f4 : Addr} {od4 an4 : Option Addr} {sl4 : Array (Option Value)} {oc4 kV4 dc4 pm4 cd4 ct4 : Value}
    {f5 : Addr} {od5 an5 : Option Addr} {sl5 : Array (Option Value)} {oc5 kV5 dc5 pm5 cd5 ct5 : Value}
    {f6 : Addr} {od6 an6 : Option Addr} {sl6 : Array (Option Value)} {oc6 kV6 dc6 pm6 cd6 ct6 : Value}
    {f7 : Addr} {od7 an7 : Option Addr} {sl7 : Array (Option Value)} {oc7 kV7 dc7 pm7 cd7 ct7 : Value}
    {f8 : Addr} {od8 an8 : Option Addr} {sl8 : Array (Option Value)} {oc8 kV8 dc8 pm8 cd8 ct8 : Value}
    {f9 : Addr} {od9 an9 : Option Addr} {sl9 : Array (Option Value)} {oc9 kV9 dc9 pm9 cd9 ct9 : Value}
    {f10 : Addr} {od10 an10 : Option Addr} {sl10 : Array (Option Value)} {oc10 kV10 dc10 pm10 cd10 ct10 : Value}
    {f11 : Addr} {od11 an11 : Option Addr} {sl11 : Array (Option Value)} {oc11 kV11 dc11 pm11 cd11 ct11 : Value}
    {f12 : Addr} {od12 an12 : Option Addr} {sl12 : Array (Option Value)} {oc12 kV12 dc12 pm12 cd12 ct12 : Value}
    {f13 : Addr} {od13 an13 : Option Addr} {sl13 : Array (Option Value)} {oc13 kV13 dc13 pm13 cd13 ct13 : Value}
    {f14 : Addr} {od14 an14 : Option Addr} {sl14 : Array (Option Value)} {oc14 kV14 dc14 pm14 cd14 ct14 : Value}
    {f15 : Addr} {od15 an15 : Option Addr} {sl15 : Array (Option Value)} {oc15 kV15 dc15 pm15 cd15 ct15 : Value}
    {f16 : Addr} {od16 an16 : Option Addr} {sl16 : Array (Option Value)} {oc16 kV16 dc16 pm16 cd16 ct16 : Value}
    {f17 : Addr} {od17 an17 : Option Addr} {sl17 : Array (Option Value)} {oc17 kV17 dc17 pm17 cd17 ct17 : Value}
    {f18 : Addr} {od18 an18 : Option Addr} {sl18 : Array (Option Value)} {oc18 kV18 dc18 pm18 cd18 ct18 : Value}
    {f19 : Addr} {od19 an19 : Option Addr} {sl19 : Array (Option Value)} {oc19 kV19 dc19 pm19 cd19 ct19 : Value}
    {f20 : Addr} {od20 an20 : Option Addr} {sl20 : Array (Option Value)} {oc20 kV20 dc20 pm20 cd20 ct20 : Value}
    {f21 : Addr} {od21 an21 : Option Addr} {sl21 : Array (Option Value)} {oc21 kV21 dc21 pm21 cd21 ct21 : Value}
    {f22 : Addr} {od22 an22 : Option Addr} {sl22 : Array (Option Value)} {oc22 kV22 dc22 pm22 cd22 ct22 : Value}
    {f23 : Addr} {od23 an23 : Option Addr} {sl23 : Array (Option Value)} {oc23 kV23 dc23 pm23 cd23 ct23 : Value}
    (a0 : PySem.W.nsIn K mainGlobals "standings" = some (some (.ref f0))) (l0 : K.lookup f0 = some ⟨oc0, od0, .func (PySem.W.fnOf "standings" "standings" (defArgs s_standings) (defBody s_standings) (defScope s_standings) .none kV0 dc0 pm0 an0 cd0 ct0), sl0⟩) (c0 : PySem.W.codeIn K cd0 "standings" = true) (k0 : PySem.W.keepIn K (.ref f0) = true)
    (a1 : PySem.W.nsIn K mainGlobals "table_of" = some (some (.ref f1))) (l1 : K.lookup f1 = some ⟨oc1, od1, .func (PySem.W.fnOf "table_of" "table_of" (defArgs s_table_of) (defBody s_table_of) (defScope s_table_of) .none kV1 dc1 pm1 an1 cd1 ct1), sl1⟩) (c1 : PySem.W.codeIn K cd1 "table_of" = true) (k1 : PySem.W.keepIn K (.ref f1) = true)
    (a2 : PySem.W.nsIn K mainGlobals "rows_at" = some (some (.ref f2))) (l2 : K.lookup f2 = some ⟨oc2, od2, .func (PySem.W.fnOf "rows_at" "rows_at" (defArgs s_rows_at) (defBody s_rows_at) (defScope s_rows_at) .none kV2 dc2 pm2 an2 cd2 ct2), sl2⟩) (c2 : PySem.W.codeIn K cd2 "rows_at" = true) (k2 : PySem.W.keepIn K (.ref f2) = true)
    (a3 : PySem.W.nsIn K mainGlobals "table_paper" = some (some (.ref f3))) (l3 : K.lookup f3 = some ⟨oc3, od3, .func (PySem.W.fnOf "table_paper" "table_paper" (defArgs s_table_paper) (defBody s_table_paper) (defScope s_table_paper) .none kV3 dc3 pm3 an3 cd3 ct3), sl3⟩) (c3 : PySem.W.codeIn K cd3 "table_paper" = true) (k3 : PySem.W.keepIn K (.ref f3) = true)
    (a4 : PySem.W.nsIn K mainGlobals "room_with" = some (some (.ref f4))) (l4 : K.lookup f4 = some ⟨oc4, od4, .func (PySem.W.fnOf "room_with" "room_with" (defArgs s_room_with) (defBody s_room_with) (defScope s_room_with) .none kV4 dc4 pm4 an4 cd4 ct4), sl4⟩) (c4 : PySem.W.codeIn K cd4 "room_with" = true) (k4 : PySem.W.keepIn K (.ref f4) = true)
    (a5 : PySem.W.nsIn K mainGlobals "places_by" = some (some (.ref f5))) (l5 : K.lookup f5 = some ⟨oc5, od5, .func (PySem.W.fnOf "places_by" "places_by" (defArgs s_places_by) (defBody s_places_by) (defScope s_places_by) .none kV5 dc5 pm5 an5 cd5 ct5), sl5⟩) (c5 : PySem.W.codeIn K cd5 "places_by" = true) (k5 : PySem.W.keepIn K (.ref f5) = true)
    (a6 : PySem.W.nsIn K mainGlobals "place_of" = some (some (.ref f6))) (l6 : K.lookup f6 = some ⟨oc6, od6, .func (PySem.W.fnOf "place_of" "place_of" (defArgs s_place_of) (defBody s_place_of) (defScope s_place_of) .none kV6 dc6 pm6 an6 cd6 ct6), sl6⟩) (c6 : PySem.W.codeIn K cd6 "place_of" = true) (k6 : PySem.W.keepIn K (.ref f6) = true)
    (a7 : PySem.W.findIn K (.ref C_TableMachine) "__init__" = some (some (.ref f7))) (i7 : PySem.W.isFn K (.ref f7) = true) (l7 : K.lookup f7 = some ⟨oc7, od7, .func (PySem.W.fnOf "__init__" "TableMachine.__init__" (defArgs s_TableMachine___init__) (defBody s_TableMachine___init__) (defScope s_TableMachine___init__) .none kV7 dc7 pm7 an7 cd7 ct7), sl7⟩) (c7 : PySem.W.codeIn K cd7 "TableMachine.__init__" = true) (k7 : PySem.W.keepIn K (.ref f7) = true)
    (a8 : PySem.W.findIn K (.ref C_TableMachine) "begin" = some (some (.ref f8))) (i8 : PySem.W.isFn K (.ref f8) = true) (l8 : K.lookup f8 = some ⟨oc8, od8, .func (PySem.W.fnOf "begin" "TableMachine.begin" (defArgs s_TableMachine_begin) (defBody s_TableMachine_begin) (defScope s_TableMachine_begin) .none kV8 dc8 pm8 an8 cd8 ct8), sl8⟩) (c8 : PySem.W.codeIn K cd8 "TableMachine.begin" = true) (k8 : PySem.W.keepIn K (.ref f8) = true)
    (a9 : PySem.W.findIn K (.ref C_TableMachine) "step" = some (some (.ref f9))) (i9 : PySem.W.isFn K (.ref f9) = true) (l9 : K.lookup f9 = some ⟨oc9, od9, .func (PySem.W.fnOf "step" "TableMachine.step" (defArgs s_TableMachine_step) (defBody s_TableMachine_step) (defScope s_TableMachine_step) .none kV9 dc9 pm9 an9 cd9 ct9), sl9⟩) (c9 : PySem.W.codeIn K cd9 "TableMachine.step" = true) (k9 : PySem.W.keepIn K (.ref f9) = true)
    (a10 : PySem.W.findIn K (.ref C_TableMachine) "over" = some (some (.ref f10))) (i10 : PySem.W.isFn K (.ref f10) = true) (l10 : K.lookup f10 = some ⟨oc10, od10, .func (PySem.W.fnOf "over" "TableMachine.over" (defArgs s_TableMachine_over) (defBody s_TableMachine_over) (defScope s_TableMachine_over) .none kV10 dc10 pm10 an10 cd10 ct10), sl10⟩) (c10 : PySem.W.codeIn K cd10 "TableMachine.over" = true) (k10 : PySem.W.keepIn K (.ref f10) = true)
    (a11 : PySem.W.findIn K (.ref C_TableMachine) "values" = some (some (.ref f11))) (i11 : PySem.W.isFn K (.ref f11) = true) (l11 : K.lookup f11 = some ⟨oc11, od11, .func (PySem.W.fnOf "values" "TableMachine.values" (defArgs s_TableMachine_values) (defBody s_TableMachine_values) (defScope s_TableMachine_values) .none kV11 dc11 pm11 an11 cd11 ct11), sl11⟩) (c11 : PySem.W.codeIn K cd11 "TableMachine.values" = true) (k11 : PySem.W.keepIn K (.ref f11) = true)
    (a12 : PySem.W.nsIn K mainGlobals "_law_deck" = some (some (.ref f12))) (l12 : K.lookup f12 = some ⟨oc12, od12, .func (PySem.W.fnOf "_law_deck" "_law_deck" (defArgs s_law_deck) (defBody s_law_deck) (defScope s_law_deck) .none kV12 dc12 pm12 an12 cd12 ct12), sl12⟩) (c12 : PySem.W.codeIn K cd12 "_law_deck" = true) (k12 : PySem.W.keepIn K (.ref f12) = true)
    (a13 : PySem.W.nsIn K mainGlobals "_law_take" = some (some (.ref f13))) (l13 : K.lookup f13 = some ⟨oc13, od13, .func (PySem.W.fnOf "_law_take" "_law_take" (defArgs s_law_take) (defBody s_law_take) (defScope s_law_take) .none kV13 dc13 pm13 an13 cd13 ct13), sl13⟩) (c13 : PySem.W.codeIn K cd13 "_law_take" = true) (k13 : PySem.W.keepIn K (.ref f13) = true)
    (a14 : PySem.W.nsIn K mainGlobals "_law_said" = some (some (.ref f14))) (l14 : K.lookup f14 = some ⟨oc14, od14, .func (PySem.W.fnOf "_law_said" "_law_said" (defArgs s_law_said) (defBody s_law_said) (defScope s_law_said) .none kV14 dc14 pm14 an14 cd14 ct14), sl14⟩) (c14 : PySem.W.codeIn K cd14 "_law_said" = true) (k14 : PySem.W.keepIn K (.ref f14) = true)
    (a15 : PySem.W.nsIn K mainGlobals "_law_events" = some (some (.ref f15))) (l15 : K.lookup f15 = some ⟨oc15, od15, .func (PySem.W.fnOf "_law_events" "_law_events" (defArgs s_law_events) (defBody s_law_events) (defScope s_law_events) .none kV15 dc15 pm15 an15 cd15 ct15), sl15⟩) (c15 : PySem.W.codeIn K cd15 "_law_events" = true) (k15 : PySem.W.keepIn K (.ref f15) = true)
    (a16 : PySem.W.nsIn K mainGlobals "_law_table" = some (some (.ref f16))) (l16 : K.lookup f16 = some ⟨oc16, od16, .func (PySem.W.fnOf "_law_table" "_law_table" (defArgs s_law_table) (defBody s_law_table) (defScope s_law_table) .none kV16 dc16 pm16 an16 cd16 ct16), sl16⟩) (c16 : PySem.W.codeIn K cd16 "_law_table" = true) (k16 : PySem.W.keepIn K (.ref f16) = true)
    (a17 : PySem.W.nsIn K mainGlobals "_law_copied" = some (some (.ref f17))) (l17 : K.lookup f17 = some ⟨oc17, od17, .func (PySem.W.fnOf "_law_copied" "_law_copied" (defArgs s_law_copied) (defBody s_law_copied) (defScope s_law_copied) .none kV17 dc17 pm17 an17 cd17 ct17), sl17⟩) (c17 : PySem.W.codeIn K cd17 "_law_copied" = true) (k17 : PySem.W.keepIn K (.ref f17) = true)
    (a18 : PySem.W.nsIn K mainGlobals "_law_place" = some (some (.ref f18))) (l18 : K.lookup f18 = some ⟨oc18, od18, .func (PySem.W.fnOf "_law_place" "_law_place" (defArgs s_law_place) (defBody s_law_place) (defScope s_law_place) .none kV18 dc18 pm18 an18 cd18 ct18), sl18⟩) (c18 : PySem.W.codeIn K cd18 "_law_place" = true) (k18 : PySem.W.keepIn K (.ref f18) = true)
    (a19 : PySem.W.nsIn K mainGlobals "_law_due" = some (some (.ref f19))) (l19 : K.lookup f19 = some ⟨oc19, od19, .func (PySem.W.fnOf "_law_due" "_law_due" (defArgs s_law_due) (defBody s_law_due) (defScope s_law_due) .none kV19 dc19 pm19 an19 cd19 ct19), sl19⟩) (c19 : PySem.W.codeIn K cd19 "_law_due" = true) (k19 : PySem.W.keepIn K (.ref f19) = true)
    (a20 : PySem.W.nsIn K mainGlobals "_law_lists" = some (some (.ref f20))) (l20 : K.lookup f20 = some ⟨oc20, od20, .func (PySem.W.fnOf "_law_lists" "_law_lists" (defArgs s_law_lists) (defBody s_law_lists) (defScope s_law_lists) .none kV20 dc20 pm20 an20 cd20 ct20), sl20⟩) (c20 : PySem.W.codeIn K cd20 "_law_lists" = true) (k20 : PySem.W.keepIn K (.ref f20) = true)
    (a21 : PySem.W.nsIn K mainGlobals "_law_plain" = some (some (.ref f21))) (l21 : K.lookup f21 = some ⟨oc21, od21, .func (PySem.W.fnOf "_law_plain" "_law_plain" (defArgs s_law_plain) (defBody s_law_plain) (defScope s_law_plain) .none kV21 dc21 pm21 an21 cd21 ct21), sl21⟩) (c21 : PySem.W.codeIn K cd21 "_law_plain" = true) (k21 : PySem.W.keepIn K (.ref f21) = true)
    (a22 : PySem.W.nsIn K mainGlobals "_law_right" = some (some (.ref f22))) (l22 : K.lookup f22 = some ⟨oc22, od22, .func (PySem.W.fnOf "_law_right" "_law_right" (defArgs s_law_right) (defBody s_law_right) (defScope s_law_right) .none kV22 dc22 pm22 an22 cd22 ct22), sl22⟩) (c22 : PySem.W.codeIn K cd22 "_law_right" = true) (k22 : PySem.W.keepIn K (.ref f22) = true)
    (a23 : PySem.W.nsIn K mainGlobals "law" = some (some (.ref f23))) (l23 : K.lookup f23 = some ⟨oc23, od23, .func (PySem.W.fnOf "law" "law" (defArgs s_law) (defBody s_law) (defScope s_law) .none kV23 dc23 pm23 an23 cd23 ct23), sl23⟩) (c23 : PySem.W.codeIn K cd23 "law" = true) (k23 : PySem.W.keepIn K (.ref f23) = true)
    (z_bool : PySem.W.nsIn K mainGlobals "bool" = some none)
    (z_dict : PySem.W.nsIn K mainGlobals "dict" = some none)
    (z_enumerate : PySem.W.nsIn K mainGlobals "enumerate" = some none)
    (z_isinstance : PySem.W.nsIn K mainGlobals "isinstance" = some none)
    (z_len : PySem.W.nsIn K mainGlobals "len" = some none)
    (z_list : PySem.W.nsIn K mainGlobals "list" = some none)
    (z_max : PySem.W.nsIn K mainGlobals "max" = some none)
    (z_range : PySem.W.nsIn K mainGlobals "range" = some none)
    (z_sum : PySem.W.nsIn K mainGlobals "sum" = some none)
    (z_tuple : PySem.W.nsIn K mainGlobals "tuple" = some none)
    {u_MOST_STANDINGS : Value} (m_MOST_STANDINGS : PySem.W.nsIn K mainGlobals "MOST_STANDINGS" = some (some u_MOST_STANDINGS))
    (r_MOST_STANDINGS : RelV (.int 2000) u_MOST_STANDINGS)
    : ∃ fd : FuncData, (∀ (s : Shared) (v : Value), BindsTo s fd ⟨[v], []⟩ [("script", v)]) ∧ ∀ base : Heap, K.In base → base.Ns mainGlobals mg → FnOk l.prog w K mg base CX0 6 fa fd ["script"] (sp_law K) := by
  have e := hfa.symm.trans (PySem.W.mg_of X G a23)
  cases e
  have F0 := fun_mk (st := s_standings) l0 c0 k0
  have b0 := F0.binds (ps := ["machine", "events"]) fun _ _ _ _ _ _ us hl => match us, hl with | [_, _], _ => rfl
  have F1 := fun_mk (st := s_table_of) l1 c1 k1
  have b1 := F1.binds (ps := ["machine", "events"]) fun _ _ _ _ _ _ us hl => match us, hl with | [_, _], _ => rfl
  have F2 := fun_mk (st := s_rows_at) l2 c2 k2
  have b2 := F2.binds (ps := ["machine", "standing", "events", "numbers"]) fun _ _ _ _ _ _ us hl => match us, hl with | [_, _, _, _], _ => rfl
  have F3 := fun_mk (st := s_table_paper) l3 c3 k3
  have b3 := F3.binds (ps := ["machine", "events"]) fun _ _ _ _ _ _ us hl => match us, hl with | [_, _], _ => rfl
  have F4 := fun_mk (st := s_room_with) l4 c4 k4
  have b4 := F4.binds (ps := ["room", "numbers"]) fun _ _ _ _ _ _ us hl => match us, hl with | [_, _], _ => rfl
  have F5 := fun_mk (st := s_places_by) l5 c5 k5
  have b5 := F5.binds (ps := ["events"]) fun _ _ _ _ _ _ us hl => match us, hl with | [_], _ => rfl
  have F6 := fun_mk (st := s_place_of) l6 c6 k6
  have b6 := F6.binds (ps := ["places", "event"]) fun _ _ _ _ _ _ us hl => match us, hl with | [_, _], _ => rfl
  have F7 := fun_mk (st := s_TableMachine___init__) l7 c7 k7
  have b7 := F7.binds (ps := ["self", "table"]) fun _ _ _ _ _ _ us hl => match us, hl with | [_, _], _ => rfl
  have F8 := fun_mk (st := s_TableMachine_begin) l8 c8 k8
  have b8 := F8.binds (ps := ["self"]) fun _ _ _ _ _ _ us hl => match us, hl with | [_], _ => rfl
  have F9 := fun_mk (st := s_TableMachine_step) l9 c9 k9
  have b9 := F9.binds (ps := ["self", "standing", "event"]) fun _ _ _ _ _ _ us hl => match us, hl with | [_, _, _], _ => rfl
  have F10 := fun_mk (st := s_TableMachine_over) l10 c10 k10
  have b10 := F10.binds (ps := ["self", "standing"]) fun _ _ _ _ _ _ us hl => match us, hl with | [_, _], _ => rfl
  have F11 := fun_mk (st := s_TableMachine_values) l11 c11 k11
  have b11 := F11.binds (ps := ["self", "standing"]) fun _ _ _ _ _ _ us hl => match us, hl with | [_, _], _ => rfl
  have F12 := fun_mk (st := s_law_deck) l12 c12 k12
  have b12 := F12.binds (ps := ["script"]) fun _ _ _ _ _ _ us hl => match us, hl with | [_], _ => rfl
  have F13 := fun_mk (st := s_law_take) l13 c13 k13
  have b13 := F13.binds (ps := ["deck", "many"]) fun _ _ _ _ _ _ us hl => match us, hl with | [_, _], _ => rfl
  have F14 := fun_mk (st := s_law_said) l14 c14 k14
  have b14 := F14.binds (ps := ["deck"]) fun _ _ _ _ _ _ us hl => match us, hl with | [_], _ => rfl
  have F15 := fun_mk (st := s_law_events) l15 c15 k15
  have b15 := F15.binds (ps := ["deck"]) fun _ _ _ _ _ _ us hl => match us, hl with | [_], _ => rfl
  have F16 := fun_mk (st := s_law_table) l16 c16 k16
  have b16 := F16.binds (ps := ["deck"]) fun _ _ _ _ _ _ us hl => match us, hl with | [_], _ => rfl
  have F17 := fun_mk (st := s_law_copied) l17 c17 k17
  have b17 := F17.binds (ps := ["table"]) fun _ _ _ _ _ _ us hl => match us, hl with | [_], _ => rfl
  have F18 := fun_mk (st := s_law_place) l18 c18 k18
  have b18 := F18.binds (ps := ["events", "event"]) fun _ _ _ _ _ _ us hl => match us, hl with | [_, _], _ => rfl
  have F19 := fun_mk (st := s_law_due) l19 c19 k19
  have b19 := F19.binds (ps := ["table", "events"]) fun _ _ _ _ _ _ us hl => match us, hl with | [_, _], _ => rfl
  have F20 := fun_mk (st := s_law_lists) l20 c20 k20
  have b20 := F20.binds (ps := ["table"]) fun _ _ _ _ _ _ us hl => match us, hl with | [_], _ => rfl
  have F21 := fun_mk (st := s_law_plain) l21 c21 k21
  have b21 := F21.binds (ps := ["table"]) fun _ _ _ _ _ _ us hl => match us, hl with | [_], _ => rfl
  have F22 := fun_mk (st := s_law_right) l22 c22 k22
  have b22 := F22.binds (ps := ["machine", "table", "events"]) fun _ _ _ _ _ _ us hl => match us, hl with | [_, _, _], _ => rfl
  have F23 := fun_mk (st := s_law) l23 c23 k23
  have b23 := F23.binds (ps := ["script"]) fun _ _ _ _ _ _ us hl => match us, hl with | [_], _ => rfl
  have TT : Txt K mg ⟨_, _, _, _, _, _, _, _, _, _, _, _, _, _, _, _, _, _, _, _, _, _, _, _, _, _, _, _, _, _, _, _, _, _, _, _, _, _, _, _, _, _, _, _, _, _, _, _, C_MillError, C_TooMany, C_Machine, C_TableMachine, u_MOST_STANDINGS⟩ := ⟨F0, PySem.W.mg_of X G a0, b0, F1, PySem.W.mg_of X G a1, b1, F2, PySem.W.mg_of X G a2, b2, F3, PySem.W.mg_of X G a3, b3, F4, PySem.W.mg_of X G a4, b4, F5, PySem.W.mg_of X G a5, b5, F6, PySem.W.mg_of X G a6, b6, F7, b7, F8, ⟨a8, i8, k8⟩, b8, F9, ⟨a9, i9, k9⟩, b9, F10, ⟨a10, i10, k10⟩, b10, F11, ⟨a11, i11, k11⟩, b11, F12, PySem.W.mg_of X G a12, b12, F13, PySem.W.mg_of X G a13, b13, F14, PySem.W.mg_of X G a14, b14, F15, PySem.W.mg_of X G a15, b15, F16, PySem.W.mg_of X G a16, b16, F17, PySem.W.mg_of X G a17, b17, F18, PySem.W.mg_of X G a18, b18, F19, PySem.W.mg_of X G a19, b19, F20, PySem.W.mg_of X G a20, b20, F21, PySem.W.mg_of X G a21, b21, F22, PySem.W.mg_of X G a22, b22, F23, PySem.W.mg_of X G a23, b23, PySem.W.mg_of X G aC_MillError, PySem.W.mg_of X G aC_TooMany, PySem.W.mg_of X G aC_Machine, PySem.W.mg_of X G aC_TableMachine, ⟨pg_TableMachine, hd_TableMachine, po_TableMachine, sa_TableMachine⟩, ⟨mk_TableMachine, a7, i7, kc_TableMachine⟩, nF_TableMachine_places, nF_TableMachine_rooms, nF_TableMachine_saying, PySem.W.mg_none_of X G z_bool, PySem.W.mg_none_of X G z_dict, PySem.W.mg_none_of X G z_enumerate, PySem.W.mg_none_of X G z_isinstance, PySem.W.mg_none_of X G z_len, PySem.W.mg_none_of X G z_list, PySem.W.mg_none_of X G z_max, PySem.W.mg_none_of X G z_range, PySem.W.mg_none_of X G z_sum, PySem.W.mg_none_of X G z_tuple, PySem.W.mg_of X G m_MOST_STANDINGS, r_MOST_STANDINGS⟩
  exact ⟨_, fun s v => .of_eq rfl, fun base _ _ => ok_law TT⟩
theorem walk {l : PySem.W.OpenLaw} {q : Program} {loose : List Str} {XP : (Str → Option Value) → Heap → Prop} {YP : World → Heap → Prop} {d : DefRec} {K : Params → PySem.W.Frag} (hn : l.most = some 63) (hdf : d.params.defaults = [])
    (hY : ∀ (w : World) (h : Heap), YP w h → (K w.params).In h)
    (F : ∀ (w : World) (mg : Str → Option Value) (fa : Addr) (h : Heap), (K w.params).In h → h.Ns mainGlobals mg → mg d.name = some (.ref fa) →
      ∃ fd : FuncData, (∀ (s : Shared) (u : Value), BindsTo s fd ⟨[u], []⟩ [("script", u)]) ∧ ∀ base : Heap, (K w.params).In base → base.Ns mainGlobals mg → FnOk l.prog w (K w.params) mg base CX0 6 fa fd ["script"] (sp_law (K w.params))) :
    PySem.W.WalkO q loose XP YP l.row.toRowW d [] (fun f vs => PySem.call f vs) :=
  L2.walk_of (n := 63) (k := 6) (x := "script") (CX := fun _ => CX0) (sp := fun w => sp_law (K w.params)) hn (by decide) hdf ⟨rfl, by decide, by decide⟩ hY F (fun _ _ a ns hl _ hS => ⟨a, ns, rfl, hS, hl, fun _ => rfl⟩) fun _ _ _ _ _ z => z
end K51
open PySem PySem.W PyProof.Rows
set_option maxRecDepth 100000 in
set_option maxHeartbeats 0 in
theorem PySem.Challenge.cw_callmill_k51_tables_of_tables_holds : PySem.Challenge.rw_callmill_k51_tables_of_tables.Holds := by
  w_on; o_law; k_head; (case hw => w_witness2)
  k_fill
  refine K51.walk (l := PySem.Challenge.rw_callmill_k51_tables_of_tables) rfl rfl (fun w h Y => PySem.W.kIn_of Y) ?F
  case F =>
    intro w mg fa h KX G hmg
    refine' K51.all_mk KX G hmg ?aC_MillError ?aC_TooMany ?aC_Machine ?aC_TableMachine ?pg_TableMachine ?hd_TableMachine ?po_TableMachine ?sa_TableMachine ?mk_TableMachine ?kc_TableMachine ?nF_TableMachine_places ?nF_TableMachine_rooms ?nF_TableMachine_saying ?a0 ?l0 ?c0 ?k0 ?a1 ?l1 ?c1 ?k1 ?a2 ?l2 ?c2 ?k2 ?a3 ?l3 ?c3 ?k3 ?a4 ?l4 ?c4 ?k4 ?a5 ?l5 ?c5 ?k5 ?a6 ?l6 ?c6 ?k6 ?a7 ?i7 ?l7 ?c7 ?k7 ?a8 ?i8 ?l8 ?c8 ?k8 ?a9 ?i9 ?l9 ?c9 ?k9 ?a10 ?i10 ?l10 ?c10 ?k10 ?a11 ?i11 ?l11 ?c11 ?k11 ?a12 ?l12 ?c12 ?k12 ?a13 ?l13 ?c13 ?k13 ?a14 ?l14 ?c14 ?k14 ?a15 ?l15 ?c15 ?k15 ?a16 ?l16 ?c16 ?k16 ?a17 ?l17 ?c17 ?k17 ?a18 ?l18 ?c18 ?k18 ?a19 ?l19 ?c19 ?k19 ?a20 ?l20 ?c20 ?k20 ?a21 ?l21 ?c21 ?k21 ?a22 ?l22 ?c22 ?k22 ?a23 ?l23 ?c23 ?k23 ?z_bool ?z_dict ?z_enumerate ?z_isinstance ?z_len ?z_list ?z_max ?z_range ?z_sum ?z_tuple ?m_MOST_STANDINGS ?r_MOST_STANDINGS
    (case aC_MillError => k_is)
    (case aC_TooMany => k_is)
    (case aC_Machine => k_is)
    (case aC_TableMachine => k_is)
    (case pg_TableMachine => k_is)
    (case hd_TableMachine => k_is)
    (case po_TableMachine => k_is)
    (case sa_TableMachine => k_is)
    (case mk_TableMachine => k_is)
    (case kc_TableMachine => k_is)
    (case nF_TableMachine_places => k_is)
    (case nF_TableMachine_rooms => k_is)
    (case nF_TableMachine_saying => k_is)
    (case a0 => k_is)
    (case l0 => k_is)
    (case c0 => k_is)
    (case k0 => k_is)
    (case a1 => k_is)
    (case l1 => k_is)
    (case c1 => k_is)
    (case k1 => k_is)
    (case a2 => k_is)
    (case l2 => k_is)
    (case c2 => k_is)
    (case k2 => k_is)
    (case a3 => k_is)
    (case l3 => k_is)
    (case c3 => k_is)
    (case k3 => k_is)
    (case a4 => k_is)
    (case l4 => k_is)
    (case c4 => k_is)
    (case k4 => k_is)
    (case a5 => k_is)
    (case l5 => k_is)
    (case c5 => k_is)
    (case k5 => k_is)
    (case a6 => k_is)
    (case l6 => k_is)
    (case c6 => k_is)
    (case k6 => k_is)
    (case a7 => k_is)
    (case i7 => k_is)
    (case l7 => k_is)
    (case c7 => k_is)
    (case k7 => k_is)
    (case a8 => k_is)
    (case i8 => k_is)
    (case l8 => k_is)
    (case c8 => k_is)
    (case k8 => k_is)
    (case a9 => k_is)
    (case i9 => k_is)
    (case l9 => k_is)
    (case c9 => k_is)
    (case k9 => k_is)
    (case a10 => k_is)
    (case i10 => k_is)
    (case l10 => k_is)
    (case c10 => k_is)
    (case k10 => k_is)
    (case a11 => k_is)
    (case i11 => k_is)
    (case l11 => k_is)
    (case c11 => k_is)
    (case k11 => k_is)
    (case a12 => k_is)
    (case l12 => k_is)
    (case c12 => k_is)
    (case k12 => k_is)
    (case a13 => k_is)
    (case l13 => k_is)
    (case c13 => k_is)
    (case k13 => k_is)
    (case a14 => k_is)
    (case l14 => k_is)
    (case c14 => k_is)
    (case k14 => k_is)
    (case a15 => k_is)
    (case l15 => k_is)
    (case c15 => k_is)
    (case k15 => k_is)
    (case a16 => k_is)
    (case l16 => k_is)
    (case c16 => k_is)
    (case k16 => k_is)
    (case a17 => k_is)
    (case l17 => k_is)
    (case c17 => k_is)
    (case k17 => k_is)
    (case a18 => k_is)
    (case l18 => k_is)
    (case c18 => k_is)
    (case k18 => k_is)
    (case a19 => k_is)
    (case l19 => k_is)
    (case c19 => k_is)
    (case k19 => k_is)
    (case a20 => k_is)
    (case l20 => k_is)
    (case c20 => k_is)
    (case k20 => k_is)
    (case a21 => k_is)
    (case l21 => k_is)
    (case c21 => k_is)
    (case k21 => k_is)
    (case a22 => k_is)
    (case l22 => k_is)
    (case c22 => k_is)
    (case k22 => k_is)
    (case a23 => k_is)
    (case l23 => k_is)
    (case c23 => k_is)
    (case k23 => k_is)
    (case z_bool => k_is)
    (case z_dict => k_is)
    (case z_enumerate => k_is)
    (case z_isinstance => k_is)
    (case z_len => k_is)
    (case z_list => k_is)
    (case z_max => k_is)
    (case z_range => k_is)
    (case z_sum => k_is)
    (case z_tuple => k_is)
    (case m_MOST_STANDINGS => k_is)
    (case r_MOST_STANDINGS => exact ⟨_, rfl⟩)
