import PyProof.Rows.All
import Wide.All
import OpenK.AllK
import Wide.FinOn
import Lean
import PyProof.EqAt
import PyProof.EqKinds
import PyProof.TupleCall
import PyProof.NeKinds
import PyProof.DictUpdate
import PyProof.AttrMissHeap
import KE.KDictOf
import PyProof.TupleIter
import PyProof.WalksEnum
import PyProof.EnumMake
import PyProof.Rows.EnumRows
import PyProof.Rows.MaxTwoN
import PyProof.ZipIter
import PyProof.IsRules
import PyProof.DictRoadsH
import Wide.Seal
import PyProof.MeetsDict
import PyProof.DictIter
import PyProof.DictWalks
import KE.KDictList
import PyProof.Rows.SumAny
import PyProof.ListRange
import PyProof.AutoSeq1
import PyProof.WalkInts
import PyProof.SeqI3
import KE.KTextTable
import PyProof.MeetsStr
import PyProof.StrCalls5
import PyProof.Rows.TupDisplay
import PyProof.Rows.TupAdd
import PyProof.Rows.StrNews2
import PyProof.StrBlockI
import PyProof.DictTruth
import PyProof.Rows.SortShell
import PyProof.DictValues
import PyProof.ConsumeS
import PyProof.Draws
import PyProof.Rows.SetFrom
import PyProof.FactsAll.set_1
import KE.KDictSum
import PyProof.Rows.SortStr
import PyProof.Rows.SortWalk
import PyProof.Rows.TmSorted
import PyProof.Rows.CallKwBuiltin
import PySem.Challenge.RW_callmill_k63_events_of_both
set_option Elab.async false
set_option linter.all false
set_option maxRecDepth 100000
set_option maxHeartbeats 4000000
namespace L2
open PySem PySem.Spec PyProof.Rows
abbrev Key := Sum Int Str
def keyIs : Key → Value → Bool
  | .inl k, v => Value.isInt k v
  | .inr x, v => Value.isStrOf x v
def keyH (w : World) : Key → Int
  | .inl k => hashInt k
  | .inr x => hashStr w x
theorem keyIs_shape : ∀ {k : Key} {v : Value}, keyIs k v = true → (∃ i t, k = Sum.inl i ∧ v = Value.int i t) ∨ (∃ x t, k = Sum.inr x ∧ v = Value.str x t)
  | .inl i, v, h => by
    obtain ⟨t, e⟩ := Value.isInt_shape (k := i) (v := v) h
    exact .inl ⟨i, t, rfl, e⟩
  | .inr x, v, h => by
    obtain ⟨t, e⟩ := Value.isStrOf_shape (x := x) (v := v) h
    exact .inr ⟨x, t, rfl, e⟩
theorem keyIs_int (i : Int) (t : Tok) : keyIs (.inl i) (.int i t) = true := by simp [keyIs, Value.isInt]
theorem keyIs_str (x : Str) (t : Tok) : keyIs (.inr x) (.str x t) = true := by simp [keyIs, Value.isStrOf]
theorem key_ll (a b : Int) : decide ((Sum.inl a : Key) = Sum.inl b) = (a == b) := by
  by_cases e : a = b
  · subst e; simp
  · have h : ¬ (Sum.inl a : Key) = Sum.inl b := fun q => e (Sum.inl.inj q)
    rw [decide_eq_false h]
    exact (beq_eq_false_iff_ne.mpr e).symm
theorem key_rr (a b : Str) : decide ((Sum.inr a : Key) = Sum.inr b) = decide (a = b) := by
  by_cases e : a = b
  · subst e; simp
  · have h : ¬ (Sum.inr a : Key) = Sum.inr b := fun q => e (Sum.inr.inj q)
    rw [decide_eq_false h, decide_eq_false e]
theorem key_lr (a : Int) (b : Str) : decide ((Sum.inl a : Key) = Sum.inr b) = false := decide_eq_false (fun q => nomatch q)
theorem key_rl (a : Str) (b : Int) : decide ((Sum.inr a : Key) = Sum.inl b) = false := decide_eq_false (fun q => nomatch q)
def mixKind (prog : Program) (w : World) : PySem.KeyKind prog w Key where
  is := keyIs
  hash := keyH w
  inj := fun v a b ha hb => by
    rcases keyIs_shape ha with ⟨i, t, rfl, rfl⟩ | ⟨x, t, rfl, rfl⟩
    · rcases keyIs_shape hb with ⟨j, u, rfl, e⟩ | ⟨y, u, rfl, e⟩
      · injection e with e1 _; rw [e1]
      · exact nomatch e
    · rcases keyIs_shape hb with ⟨j, u, rfl, e⟩ | ⟨y, u, rfl, e⟩
      · exact nomatch e
      · injection e with e1 _; rw [e1]
  byValue := fun k v h => by
    rcases keyIs_shape h with ⟨i, t, rfl, rfl⟩ | ⟨x, t, rfl, rfl⟩ <;> rfl
  pyHash := fun hv h => by
    rcases keyIs_shape hv with ⟨i, t, rfl, rfl⟩ | ⟨x, t, rfl, rfl⟩
    · exact wpAny_pyHash_int h
    · exact wpAny_pyHash_str h
  eqBool := fun hu hv h => by
    rcases keyIs_shape hu with ⟨i, t, rfl, rfl⟩ | ⟨x, t, rfl, rfl⟩
    · rcases keyIs_shape hv with ⟨j, u, rfl, rfl⟩ | ⟨y, u, rfl, rfl⟩
      · rw [key_ll] at h; exact wpAny_eqBool_int h
      · rw [key_lr] at h; exact SeqAt.EqAt.int_str i t y u _ _ _ _ h
    · rcases keyIs_shape hv with ⟨j, u, rfl, rfl⟩ | ⟨y, u, rfl, rfl⟩
      · rw [key_rl] at h; exact SeqAt.EqAt.str_int x t j u _ _ _ _ h
      · rw [key_rr] at h; exact wpAny_eqBool_str h
  «strs» := fun k x t v h => by
    rcases keyIs_shape h with ⟨i, u, rfl, e⟩ | ⟨y, u, rfl, e⟩
    · exact nomatch e
    · injection e with e1 _
      subst e1
      cases v <;> rfl
theorem mixKind_int (prog : Program) (w : World) (i : Int) (t : Tok) : (mixKind prog w).is (.inl i) (.int i t) = true := keyIs_int i t
theorem mixKind_str (prog : Program) (w : World) (x : Str) (t : Tok) : (mixKind prog w).is (.inr x) (.str x t) = true := keyIs_str x t
end L2
namespace L2
open PySem PySem.Spec PyProof.Rows
inductive V where
  | non | bl (b : Bool) | int (i : Int) | str (x : Str) | byt (b : Array UInt8) | flt (b : UInt64) | ref (a : Addr) | ty (n : String)
  deriving DecidableEq
def RelV : V → Value → Prop
  | .non, u => u = Value.none
  | .bl b, u => u = Value.bool b
  | .int i, u => ∃ t, u = Value.int i t
  | .str x, u => ∃ t, u = Value.str x t
  | .byt b, u => ∃ t, u = Value.bytes b t
  | .flt b, u => ∃ t, u = Value.float b t
  | .ref a, u => u = Value.ref a
  | .ty n, u => u = Value.type n
abbrev Vals : List V → List Value → Prop := Paired RelV
theorem Vals.length {xs : List V} {us : List Value} (r : Vals xs us) : xs.length = us.length := Paired.length r
theorem Vals.get : ∀ {xs : List V} {us : List Value} {i : Nat} {x : V}, Vals xs us → xs[i]? = some x → ∃ u, us[i]? = some u ∧ RelV x u
  | _, _, _, _, .nil, e => by simp at e
  | _, _, 0, _, .cons r _, e => by simp at e; subst e; exact ⟨_, rfl, r⟩
  | _, _, i + 1, x, .cons _ t, e => by
    obtain ⟨u, h1, h2⟩ := Vals.get (i := i) (x := x) t (by simpa using e)
    exact ⟨u, by simpa using h1, h2⟩
theorem Vals.set {x : V} {u : Value} (r : RelV x u) : ∀ {xs : List V} {us : List Value} (i : Nat), Vals xs us → Vals (xs.set i x) (us.set i u)
  | _, _, _, .nil => .nil
  | _, _, 0, .cons _ t => .cons r t
  | _, _, i + 1, .cons q t => .cons q (Vals.set r i t)
theorem Vals.append : ∀ {xs ys : List V} {us ws : List Value}, Vals xs us → Vals ys ws → Vals (xs ++ ys) (us ++ ws)
  | _, _, _, _, .nil, s => s
  | _, _, _, _, .cons r t, s => .cons r (Vals.append t s)
theorem Vals.take : ∀ {xs : List V} {us : List Value} (n : Nat), Vals xs us → Vals (xs.take n) (us.take n)
  | _, _, 0, _ => .nil
  | _, _, _ + 1, .nil => .nil
  | _, _, n + 1, .cons r t => .cons r (Vals.take n t)
theorem Vals.drop : ∀ {xs : List V} {us : List Value} (n : Nat), Vals xs us → Vals (xs.drop n) (us.drop n)
  | _, _, 0, r => r
  | _, _, _ + 1, .nil => .nil
  | _, _, n + 1, .cons _ t => Vals.drop n t
def RelO : Option V → Option Value → Prop
  | some v, some u => RelV v u
  | none, none => True
  | _, _ => False
def KV {κ : Type} : List (κ × V) → List (κ × Value) → Prop := Paired fun (p : κ × V) (q : κ × Value) => p.1 = q.1 ∧ RelV p.2 q.2
def kV : Key → V
  | .inl i => .int i
  | .inr x => .str x
inductive HO where
  | lst (xs : List V)
  | tup (xs : List V)
  | dK (kvs : List (Key × V)) | dT (kvs : List (List Key × V))
  | set (S : Int → Bool) (n : Nat)
  | ins (C dx : Addr) (fs : List (Str × V))
  | own (x : Addr)
  | xd (fs : List (Str × V))
  | met (f x : Addr)
  | rng (lo hi : Int)
  | frz (o : Obj) (u : HO)
  | tbl (ps : Array Value)
  | ext (φ : Heap → Prop)
abbrev Hp := Addr → Option HO
def upd (H : Hp) (a : Addr) (o : HO) : Hp := fun b => if b = a then some o else H b
theorem upd_same {H : Hp} {a : Addr} {o : HO} : upd H a o a = some o := by unfold upd; rw [if_pos rfl]
theorem upd_ne {H : Hp} {a b : Addr} {o : HO} (h : b ≠ a) : upd H a o b = H b := by unfold upd; rw [if_neg h]
theorem ne_of {H : Hp} {a b : Addr} {o u : HO} (h : H a = some o) (h' : H b = some u) (d : o ≠ u) : a ≠ b := by
  intro e; subst e; rw [h] at h'; exact d (Option.some.inj h')
theorem ne_of_none {H : Hp} {a b : Addr} {o : HO} (h : H a = some o) (h' : H b = none) : a ≠ b := by
  intro e; subst e; rw [h] at h'; cases h'
section
variable (P : Program) (w : World)
def ObjOk (H : Hp) (h : Heap) (a : Addr) : HO → Prop
  | .lst xs => xs.length ≤ sizeLine ∧ ∃ (its : List Value) (n : Nat), Vals xs its ∧ h.get? a = some { cls := .type "list", data := .seq its.toArray n }
  | .tup xs => xs.length ≤ sizeLine ∧ ∃ its : List Value, Vals xs its ∧ IsTup h a its.toArray
  | .dK kvs => kvs.length ≤ sizeLine ∧ (a == sysModules) = false ∧ ∃ vs, KV kvs vs ∧ h.DictOf (mixKind P w) a vs
  | .dT kvs => kvs.length ≤ sizeLine ∧ (a == sysModules) = false ∧ ∃ xs : List (List Key × Addr × Value),
      Paired (fun (p : List Key × V) (q : List Key × Addr × Value) => p.1 = q.1 ∧ H q.2.1 = some (.tup (p.1.map kV)) ∧ RelV p.2 q.2.2) kvs xs ∧
      ∃ o es ep, h.get? a = some o ∧ o.ExactDict ∧ o.data = .dict es ep ∧ es.toList = xs.map (entryOfKey (tupleKind (mixKind P w))) ∧ (xs.map (·.1)).Nodup
  | .set S n => h.SetOf (intKind P w) a S n
  | .ins C dx fs => H dx = some (.own a) ∧ fs.length ≤ 1000 ∧ dx ≠ a ∧ h.get? a = some (PySem.W.instObj C dx) ∧
      ∃ mA, h.Ns1 dx mA ∧ (∀ f, RelO (fs.lookup f) (mA f)) ∧ PySem.Within mA (fs.map (·.1))
  | .own _ => ∃ o, h.get? a = some o
  | .xd fs => ∃ mA, h.Ns1 a mA ∧ ∀ f, RelO (fs.lookup f) (mA f)
  | .rng lo hi => ∃ t u v, h.get? a = some { cls := .type "range", data := .fields #[.int lo t, .int hi u, .int 1 v] }
  | .frz o u => h.get? a = some o ∧ ObjOk H h a u
  | .tbl ps => h.get? a = some { cls := .none, data := .fields ps }
  | .met f x => h.get? a = some (PySem.W.methodObj (.ref f) (.ref x))
  | .ext φ => φ h ∧ (∃ o, h.get? a = some o) ∧ ∀ h1 h2 : Heap, φ h1 → (∀ o, h1.get? a = some o → h2.get? a = some o) → φ h2
def HOk (H : Hp) (h : Heap) : Prop := ∀ a o, H a = some o → ObjOk P w H h a o
end
section
variable {P : Program} {w : World} {H H' : Hp} {h h' : Heap} {a : Addr} {o : HO}
theorem ObjOk.lt (x : ObjOk P w H h a o) : a < h.objs.size := by
  cases o with
  | lst xs => obtain ⟨_, _, _, _, e⟩ := x; exact Heap.lt_size e
  | tup xs => obtain ⟨_, _, _, p⟩ := x; exact p.lt
  | dK kvs => obtain ⟨_, _, _, _, o, _, _, e, _⟩ := x; exact Heap.lt_size e
  | dT kvs => obtain ⟨_, _, _, _, o, _, _, e, _⟩ := x; exact Heap.lt_size e
  | set S n => obtain ⟨o, _, _, _, e, _⟩ := x; exact Heap.lt_size e
  | ins C dx fs => obtain ⟨_, _, _, e, _⟩ := x; exact Heap.lt_size e
  | own y => obtain ⟨_, e⟩ := x; exact Heap.lt_size e
  | xd fs => obtain ⟨_, ⟨_, _, _, e, _⟩, _⟩ := x; exact Heap.lt_size e
  | rng lo hi => obtain ⟨_, _, _, e⟩ := x; exact Heap.lt_size e
  | frz ob u => obtain ⟨e, _⟩ := x; exact Heap.lt_size e
  | tbl ps => exact Heap.lt_size (show h.get? a = some _ from x)
  | met f y => exact Heap.lt_size (show h.get? a = some _ from x)
  | ext φ => obtain ⟨_, ⟨_, e⟩, _⟩ := x; exact Heap.lt_size e
theorem Paired.mapP {α β : Type} {F G : α → β → Prop} : ∀ {l₁ : List α} {l₂ : List β}, Paired F l₁ l₂ → (∀ a b, F a b → G a b) → Paired G l₁ l₂
  | _, _, .nil, _ => .nil
  | _, _, .cons r t, f => .cons (f _ _ r) (Paired.mapP t f)
theorem ObjOk.stay (x : ObjOk P w H h a o) (k : ∀ b u, (b = a ∨ H b = some (.own a)) → h.get? b = some u → h'.get? b = some u)
    (ho : ∀ b, H b = some (.own a) → H' b = some (.own a)) (ht : ∀ b xs, H b = some (.tup xs) → H' b = some (.tup xs)) : ObjOk P w H' h' a o := by
  induction o with
  | lst xs => obtain ⟨z, its, n, r, e⟩ := x; exact ⟨z, its, n, r, k _ _ (.inl rfl) e⟩
  | tup xs => obtain ⟨z, its, r, ob, e, c⟩ := x; exact ⟨z, its, r, ob, k _ _ (.inl rfl) e, c⟩
  | dK kvs => obtain ⟨z, y, vs, r, ob, es, ep, e, c⟩ := x; exact ⟨z, y, vs, r, ob, es, ep, k _ _ (.inl rfl) e, c⟩
  | dT kvs =>
    obtain ⟨z, y, xs, r, ob, es, ep, e, c⟩ := x
    exact ⟨z, y, xs, Paired.mapP r fun p q z => ⟨z.1, ht _ _ z.2.1, z.2.2⟩, ob, es, ep, k _ _ (.inl rfl) e, c⟩
  | set S n => obtain ⟨ob, es, ep, t, e, c⟩ := x; exact ⟨ob, es, ep, t, k _ _ (.inl rfl) e, c⟩
  | ins C dx fs =>
    obtain ⟨d, z, ne, e, mA, ⟨od, es, ep, e2, c⟩, r⟩ := x
    exact ⟨ho _ d, z, ne, k _ _ (.inl rfl) e, mA, ⟨od, es, ep, k _ _ (.inr d) e2, c⟩, r⟩
  | own y => obtain ⟨ob, e⟩ := x; exact ⟨ob, k _ _ (.inl rfl) e⟩
  | xd fs => obtain ⟨mA, ⟨od, es, ep, e, c⟩, r⟩ := x; exact ⟨mA, ⟨od, es, ep, k _ _ (.inl rfl) e, c⟩, r⟩
  | rng lo hi => obtain ⟨t, u, v, e⟩ := x; exact ⟨t, u, v, k _ _ (.inl rfl) e⟩
  | frz ob u ih => obtain ⟨e, q⟩ := x; exact ⟨k _ _ (.inl rfl) e, ih q⟩
  | tbl ps =>
    have e : h.get? a = some { cls := .none, data := .fields ps } := x
    show h'.get? a = some { cls := .none, data := .fields ps }
    exact k a _ (.inl rfl) e
  | met f y =>
    have e : h.get? a = some (PySem.W.methodObj (.ref f) (.ref y)) := x
    show h'.get? a = some (PySem.W.methodObj (.ref f) (.ref y))
    exact k a _ (.inl rfl) e
  | ext φ => obtain ⟨p, ⟨o, e⟩, st⟩ := x; exact ⟨st _ _ p fun o q => k _ _ (.inl rfl) q, ⟨o, k _ _ (.inl rfl) e⟩, st⟩
theorem HOk.lt (x : HOk P w H h) (e : H a = some o) : a < h.objs.size := (x a o e).lt
theorem HOk.fresh (x : HOk P w H h) (e : h.objs.size ≤ a) : H a = none := by
  cases q : H a with
  | none => rfl
  | some u => exact absurd (Nat.lt_of_lt_of_le (x.lt q) e) (Nat.lt_irrefl _)
theorem HOk.kept (x : HOk P w H h) (k : ∀ b u, h.get? b = some u → h'.get? b = some u) : HOk P w H h' := fun a o e =>
  (x a o e).stay (fun b u _ q => k b u q) (fun _ q => q) fun _ _ q => q
theorem HOk.laid (x : HOk P w H h) (k : ∀ b u, h.get? b = some u → h'.get? b = some u) (hp : h.objs.size ≤ a) (new : ObjOk P w (upd H a o) h' a o) : HOk P w (upd H a o) h' := fun b u e => by
  have hn := x.fresh hp
  by_cases hb : b = a
  · subst hb; rw [upd_same] at e; cases e; exact new
  · rw [upd_ne hb] at e
    exact (x b u e).stay (fun c v _ q => k c v q) (fun c q => by rw [upd_ne (ne_of_none q hn)]; exact q) fun c xs q => by rw [upd_ne (ne_of_none q hn)]; exact q
end
def Rd (H : Hp) (a : Addr) (u : HO) : Prop := H a = some u ∨ ∃ o, H a = some (.frz o u)
theorem Rd.ok {P : Program} {w : World} {H : Hp} {h : Heap} {a : Addr} {u : HO} (r : Rd H a u) (x : HOk P w H h) : ObjOk P w H h a u := by
  rcases r with r | ⟨o, r⟩
  · exact x a u r
  · obtain ⟨_, q⟩ := x a _ r
    exact q
def Mut : Option HO → Prop
  | some (.lst _) => True
  | some (.dK _) => True
  | some (.dT _) => True
  | some (.set _ _) => True
  | some (.ins _ _ _) => True
  | some (.ext _) => True
  | _ => False
section
variable {P : Program} {w : World} {H : Hp} {h h' : Heap} {x e : Addr} {o' : HO}
theorem HOk.write (ok : HOk P w H h) (mu : Mut (H x)) (he : e = x ∨ H e = some (.own x)) (k : ∀ b u, b ≠ e → h.get? b = some u → h'.get? b = some u) (heo : ∃ u, h'.get? e = some u)
    (new : ObjOk P w (upd H x o') h' x o') : HOk P w (upd H x o') h' := fun b u q => by
  have nown : ∀ c y, H c = some (.own y) → c ≠ x := fun c y r z => by subst z; rw [r] at mu; exact mu
  have ntup : ∀ c xs, H c = some (.tup xs) → c ≠ x := fun c xs r z => by subst z; rw [r] at mu; exact mu
  by_cases hb : b = x
  · subst hb; rw [upd_same] at q; cases q; exact new
  · rw [upd_ne hb] at q
    by_cases hbe : b = e
    · have q' : H b = some (.own x) := by
        rcases he with z | z
        · exact absurd (hbe.trans z) hb
        · rw [hbe]; exact z
      rw [q] at q'; cases q'
      obtain ⟨v, hv⟩ := heo
      exact ⟨v, by rw [hbe]; exact hv⟩
    · refine (ok b u q).stay (fun c v hc r => k c v ?_ r) (fun c r => by rw [upd_ne (nown c b r)]; exact r) fun c xs r => by rw [upd_ne (ntup c xs r)]; exact r
      rcases hc with rfl | hc
      · exact hbe
      · rintro rfl
        rcases he with z | z
        · exact nown c b hc z
        · rw [hc] at z; cases z; exact hb rfl
end
structure Un (fs ex : List Addr) (H H' : Hp) (h h' : Heap) : Prop where
  keep : ∀ b o, h.get? b = some o → H b = none → b ∉ fs → b ∉ ex → h'.get? b = some o
  slot : ∀ b o, h.get? b = some o → H b = none → b ∈ fs → b ∉ ex → ∃ sl, h'.get? b = some { o with slots := sl }
  free : ∀ b o, h.get? b = some o → H b = none → b ∉ ex → H' b = none
  there : ∀ b o, h.get? b = some o → b ∉ ex → ∃ o', h'.get? b = some o'
  tups : ∀ b xs, H b = some (.tup xs) → H' b = some (.tup xs)
  frzs : ∀ b o u, H b = some (.frz o u) → H' b = some (.frz o u)
  tbls : ∀ b ps, H b = some (.tbl ps) → ∃ more, H' b = some (.tbl (ps ++ more))
section
variable {fs fs' ex ex' : List Addr} {H H1 H2 : Hp} {h h1 h2 h' : Heap} {a x e : Addr} {o : HO}
theorem Un.any (u : Un fs ex H H1 h h1) {b : Addr} {ob : Obj} (q : h.get? b = some ob) (n : H b = none) (hx : b ∉ ex) : ∃ sl, h1.get? b = some { ob with slots := sl } := by
  by_cases hb : b ∈ fs
  · exact u.slot b ob q n hb hx
  · exact ⟨ob.slots, u.keep b ob q n hb hx⟩
theorem Un.kept (k : ∀ b u, h.get? b = some u → h'.get? b = some u) : Un fs ex H H h h' :=
  ⟨fun b ob q _ _ _ => k b ob q, fun b ob q _ _ _ => ⟨ob.slots, k b ob q⟩, fun _ _ _ n _ => n, fun b ob q _ => ⟨ob, k b ob q⟩, fun _ _ q => q, fun _ _ _ q => q, fun _ ps q => ⟨#[], by rw [q]; simp⟩⟩
theorem Un.refl : Un fs ex H H h h := Un.kept fun _ _ q => q
theorem Un.laid (k : ∀ b u, h.get? b = some u → h'.get? b = some u) (hp : h.objs.size ≤ a) (hn : H a = none) : Un fs ex H (upd H a o) h h' where
  keep := fun b u q _ _ _ => k b u q
  slot := fun b u q _ _ _ => ⟨u.slots, k b u q⟩
  free := fun b u q n _ => by rw [upd_ne (Nat.ne_of_lt (Nat.lt_of_lt_of_le (Heap.lt_size q) hp))]; exact n
  there := fun b u q _ => ⟨u, k b u q⟩
  tups := fun b xs q => by rw [upd_ne (ne_of_none q hn)]; exact q
  frzs := fun b u xs q => by rw [upd_ne (ne_of_none q hn)]; exact q
  tbls := fun b ps q => ⟨#[], by rw [upd_ne (ne_of_none q hn), q]; simp⟩
theorem Un.write (mu : Mut (H x)) (he : e = x ∨ H e = some (.own x)) (k : ∀ b u, b ≠ e → h.get? b = some u → h'.get? b = some u) (heo : ∃ u, h'.get? e = some u) : Un fs ex H (upd H x o) h h' := by
  have hx : ∀ b, H b = none → b ≠ x := fun b n z => by subst z; rw [n] at mu; exact mu
  have hb : ∀ b, H b = none → b ≠ e := fun b n z => by
    subst z
    rcases he with r | r
    · exact hx b n r
    · rw [n] at r; cases r
  have hm : ∀ b u, H b = some u → ¬ Mut (some u) → b ≠ x := fun b u q nm z => by subst z; rw [q] at mu; exact nm mu
  refine ⟨fun b u q n _ _ => k b u (hb b n) q, fun b u q n _ _ => ⟨u.slots, k b u (hb b n) q⟩, fun b u q n _ => by rw [upd_ne (hx b n)]; exact n, fun b u q _ => ?_,
    fun b xs q => by rw [upd_ne (hm b _ q fun z => z)]; exact q, fun b u xs q => by rw [upd_ne (hm b _ q fun z => z)]; exact q, fun b ps q => ⟨#[], by rw [upd_ne (hm b _ q fun z => z), q]; simp⟩⟩
  by_cases hbe : b = e
  · subst hbe; exact heo
  · exact ⟨u, k b u hbe q⟩
end
def trk (h : Heap) (H : Hp) : List Addr := (List.range h.objs.size).filter fun a => (H a).isSome
def hidT (h : Heap) (H : Hp) : Heap := PySem.W.hideAll h (trk h H)
theorem hidT_size (h : Heap) (H : Hp) : (hidT h H).objs.size = h.objs.size := PySem.W.hideAll_size _ _
theorem hidT_get {h : Heap} {H : Hp} {b : Addr} {o : Obj} (e : h.get? b = some o) (n : H b = none) : (hidT h H).get? b = some o :=
  PySem.W.hideAll_get _ e fun hm => by
    have q : (H b).isSome = true := (List.mem_filter.mp hm).2
    rw [n] at q; simp at q
theorem of_hidT {h : Heap} {H : Hp} {b : Addr} {o : Obj} (e : (hidT h H).get? b = some o) : h.get? b = some o ∧ H b = none := by
  have e' : h.get? b = some o := PySem.W.of_hideAll (trk h H) e
  refine ⟨e', ?_⟩
  cases q : H b with
  | none => rfl
  | some x =>
    have hm : b ∈ trk h H := List.mem_filter.mpr ⟨List.mem_range.mpr (Heap.lt_size e'), by simp [q]⟩
    have z : (hidT h H).get? b = none := PySem.W.hideAll_none (trk h H) hm
    rw [z] at e; cases e
def allNews (g h : Heap) (L : Addr) : List (Addr × Obj) := (List.range h.objs.size).filterMap fun a => if a = L ∨ (g.get? a).isSome = true then none else (h.get? a).map fun o => (a, o)
def rest (g h : Heap) (L d : Addr) : List (Addr × Obj) := (allNews g h L).filter fun p => decide (p.1 ≠ d)
end L2
namespace L2
open PySem PySem.Spec PyProof.Rows
structure Mod (K : PySem.W.Frag) (mg : Str → Option Value) (base : Heap) : Prop where
  kin : K.In base
  glob : base.Ns mainGlobals mg
  blt : ∃ mb, base.Ns builtinsNs mb ∧ ∀ x : Str, x ≠ "__name__" → mb x = bootBuiltins x
  nolimit : base.NoLimit
structure Cx where
  prog : Program
  w : World
  K : PySem.W.Frag
  mg : Str → Option Value
  base : Heap
  A : Around
  N : List Str
  s₀ : Shared
  H₀ : Hp
  env : Env
  outer : List Env
  stack : List Env
  ex : List Addr
  fn : Str → Bool
  calm : Bool
  pn : List (Addr × Obj)
  xe : Value → Shared → Prop
def frs (l : List Env) : List Addr := l.filterMap (·.frame)
abbrev Cx.fs (X : Cx) : List Addr := frs X.outer
def Vis (sc : Scope) (x : Str) : Prop := sc.names.lookup x = some .local ∨ sc.names.lookup x = some .cell ∨ sc.names.lookup x = some .free
def Loc (sc : Scope) (x : Str) : Prop := sc.names.lookup x = some .local ∨ sc.names.lookup x = some .cell
def Look (env : Env) (h : Heap) (m : Str → Option Value) (x : Str) (u : Value) : Prop :=
  (env.kindOf x = some .local ∧ m x = some u) ∨ ((env.kindOf x = some .cell ∨ env.kindOf x = some .free) ∧ ∃ c, env.cells.lookup x = some c ∧ h.IsCell c (some u))
structure Cx.Ok (X : Cx) : Prop where
  mod : Mod X.K X.mg X.base
  kind : X.env.scope.kind = .function
  glob : X.env.globals = mainGlobals
  blt : X.env.builtins = builtinsNs
  above : X.s₀.heap.objs.size ≤ X.env.locals
  inj : ∀ x y c, X.env.cells.lookup x = some c → X.env.cells.lookup y = some c → x = y
  has : ∀ x, (X.env.kindOf x = some .cell ∨ X.env.kindOf x = some .free) → ∃ c, X.env.cells.lookup x = some c
  cab : ∀ x c, X.fn x = true → X.env.cells.lookup x = some c → X.s₀.heap.objs.size ≤ c
  hd : X.calm = true → X.A.handled = none
  frames : X.A.frames = some X.stack
  stk : X.stack = X.outer ∨ (X.stack = X.env :: X.outer ∧ X.env.frame = some X.env.locals)
  exf : ∀ b ∈ X.ex, b ≠ X.env.locals ∧ ∀ x c, X.env.cells.lookup x = some c → c ≠ b
  bs : ∀ b o, X.base.get? b = some o → X.s₀.heap.get? b = some o ∧ X.H₀ b = none
  bsz : X.base.objs.size ≤ X.s₀.heap.objs.size
  noex : ∀ b o, X.base.get? b = some o → b ∉ X.ex
  exfs : ∀ b ∈ X.ex, b ∉ X.fs
  funs : X.s₀.heap.FunFrames X.base X.outer
  frf : ∀ b ∈ X.fs, X.H₀ b = none
structure Inv (X : Cx) (pins : List (Addr × Obj)) (σ : List (Option V)) (H : Hp) (s : Shared) : Prop where
  ok : X.Ok
  os : s.os = X.s₀.os
  bare : AllBare s.gens
  base : Un X.fs X.ex X.H₀ H X.s₀.heap s.heap
  loc : ∃ m, s.heap.Ns X.env.locals m ∧ ∀ (i : Nat) (x : Str) (v : V), X.N[i]? = some x → σ[i]? = some (some v) → Vis X.env.scope x → ∃ u, RelV v u ∧ Look X.env s.heap m x u
  cell : ∀ x c, X.env.cells.lookup x = some c → ∃ v, s.heap.IsCell c v
  free : H X.env.locals = none
  freeC : ∀ x c, X.env.cells.lookup x = some c → H c = none
  pin : ∀ p ∈ X.pn ++ pins, s.heap.get? p.1 = some p.2 ∧ H p.1 = none ∧ p.1 ≠ X.env.locals ∧ p.1 ∉ X.fs ∧ ∀ v, p.2.data ≠ .cell v
  hok : HOk X.prog X.w H s.heap
  len : σ.length = X.N.length
section
variable {X : Cx} {pins : List (Addr × Obj)} {σ : List (Option V)} {H H' : Hp} {s : Shared} {h' : Heap}
theorem Cx.Ok.nofr (ok : X.Ok) {b : Addr} {o : Obj} (e : X.base.get? b = some o) : b ∉ X.fs := fun hb => by
  have := (ok.funs.mem hb).1
  rw [e] at this; cases this
theorem Inv.bs (I : Inv X pins σ H s) : ∀ b o, X.base.get? b = some o → s.heap.get? b = some o ∧ H b = none := fun b o e =>
  ⟨I.base.keep b o (I.ok.bs b o e).1 (I.ok.bs b o e).2 (I.ok.nofr e) (I.ok.noex b o e), I.base.free b o (I.ok.bs b o e).1 (I.ok.bs b o e).2 (I.ok.noex b o e)⟩
theorem Inv.bk (I : Inv X pins σ H s) : ∀ b o, X.base.get? b = some o → s.heap.get? b = some o := fun b o e => (I.bs b o e).1
theorem Inv.mod (I : Inv X pins σ H s) : Mod X.K X.mg X.base := I.ok.mod
theorem Inv.kIn (I : Inv X pins σ H s) : X.K.In s.heap := I.ok.mod.kin.keeps I.bk
theorem Inv.lt (I : Inv X pins σ H s) : X.env.locals < s.heap.objs.size := let ⟨_, hn, _⟩ := I.loc; hn.lt
theorem Inv.sz (I : Inv X pins σ H s) : X.s₀.heap.objs.size ≤ s.heap.objs.size := Nat.le_trans I.ok.above (Nat.le_of_lt I.lt)
theorem Inv.nofs (I : Inv X pins σ H s) {a : Addr} (h : s.heap.objs.size ≤ a) : a ∉ X.fs := fun hb => by
  obtain ⟨_, o, ho, _⟩ := I.ok.funs.mem hb
  exact absurd (Nat.lt_of_lt_of_le (Heap.lt_size ho) (Nat.le_trans I.sz h)) (Nat.lt_irrefl _)
theorem Inv.cne (I : Inv X pins σ H s) : ∀ x c, X.env.cells.lookup x = some c → c ≠ X.env.locals := fun x c e z => by
  obtain ⟨v, o, ho, hd⟩ := I.cell x c e
  obtain ⟨m, ⟨o', es, ep, ho', hd', _⟩, _⟩ := I.loc
  rw [z, ho'] at ho; cases ho; rw [hd'] at hd; cases hd
theorem Inv.funs (I : Inv X pins σ H s) : s.heap.FunFrames X.base X.outer := by
  have all : ∀ (l : List Env), (∀ b ∈ frs l, b ∈ X.fs) → X.s₀.heap.FunFrames X.base l → s.heap.FunFrames X.base l := by
    intro l
    induction l with
    | nil => intro _ _; trivial
    | cons env r ih =>
      intro hs hl
      obtain ⟨hk, ⟨L, o, hf, hn, ho, hd⟩, hr⟩ := hl
      have hL : L ∈ X.fs := hs L (by unfold frs; rw [List.filterMap_cons, hf]; exact List.mem_cons_self)
      obtain ⟨sl, e⟩ := I.base.slot L o ho (I.ok.frf L hL) hL fun z => I.ok.exfs L z hL
      exact ⟨hk, ⟨L, _, hf, hn, e, hd⟩, ih (fun b hb => hs b (by unfold frs; rw [List.filterMap_cons, hf]; exact List.mem_cons_of_mem _ hb)) hr⟩
  exact all X.outer (fun _ hb => hb) I.ok.funs
theorem Inv.stack (I : Inv X pins σ H s) : s.heap.FunFrames X.base X.stack := by
  rcases I.ok.stk with e | ⟨e, hf⟩
  · rw [e]; exact I.funs
  · rw [e]
    obtain ⟨m, hn, _⟩ := I.loc
    refine .cons (by rw [I.ok.kind]; decide) hf hn ?_ I.funs
    exact Heap.get?_none_of_le (Nat.le_trans I.ok.bsz I.ok.above)
theorem Inv.stkSub (I : Inv X pins σ H s) : ∀ b ∈ frs X.stack, b ∈ X.env.locals :: X.fs := fun b hb => by
  rcases I.ok.stk with e | ⟨e, hf⟩
  · rw [e] at hb; exact List.mem_cons_of_mem _ hb
  · rw [e] at hb
    unfold frs at hb
    rw [List.filterMap_cons, hf] at hb
    exact hb
theorem Inv.stkFree (I : Inv X pins σ H s) : ∀ b ∈ frs X.stack, H b = none := fun b hb => by
  rcases List.mem_cons.mp (I.stkSub b hb) with e | hb
  · rw [e]; exact I.free
  · obtain ⟨_, o, ho, _⟩ := I.ok.funs.mem hb
    exact I.base.free b o ho (I.ok.frf b hb) fun z => I.ok.exfs b z hb
theorem Inv.step {g' : Array GenState} {t' : Nat} {d' : Drawn} {ch : List Addr} (I : Inv X pins σ H s)
    (hch : ∀ b ∈ ch, (b ∈ X.ex ∨ X.s₀.heap.objs.size ≤ b) ∧ b ≠ X.env.locals ∧ (∀ x c, X.env.cells.lookup x = some c → c ≠ b) ∧ ∀ p ∈ X.pn ++ pins, p.1 ≠ b)
    (keep : ∀ b o, b ≠ X.env.locals → b ∉ X.fs → b ∉ ch → s.heap.get? b = some o → H b = none → h'.get? b = some o)
    (slot : ∀ b o, b ≠ X.env.locals → b ∈ X.fs → b ∉ ch → s.heap.get? b = some o → H b = none → ∃ sl, h'.get? b = some { o with slots := sl }) (free : ∀ b o, b ∉ ch → s.heap.get? b = some o → H b = none → H' b = none)
    (there : ∀ b o, b ∉ ch → s.heap.get? b = some o → ∃ o', h'.get? b = some o')
    (tups : ∀ b xs, H b = some (.tup xs) → H' b = some (.tup xs)) (frzs : ∀ b o u, H b = some (.frz o u) → H' b = some (.frz o u)) (tbls : ∀ b ps, H b = some (.tbl ps) → ∃ more, H' b = some (.tbl (ps ++ more)))
    (ns : ∀ m, s.heap.Ns X.env.locals m → h'.Ns X.env.locals m) (hok : HOk X.prog X.w H' h') (hg : AllBare g') :
    Inv X pins σ H' { s with heap := h', gens := g', drawn := d', toks := t' } := by
  have neL : ∀ b o, X.s₀.heap.get? b = some o → b ≠ X.env.locals := fun b o e => Nat.ne_of_lt (Nat.lt_of_lt_of_le (Heap.lt_size e) I.ok.above)
  have neC : ∀ b o, X.s₀.heap.get? b = some o → b ∉ X.ex → b ∉ ch := fun b o e hx hb => by
    rcases (hch b hb).1 with z | z
    · exact hx z
    · exact absurd (Nat.lt_of_lt_of_le (Heap.lt_size e) z) (Nat.lt_irrefl _)
  have cellK : ∀ x c, X.env.cells.lookup x = some c → ∀ v, s.heap.IsCell c v → h'.IsCell c v := fun x c e v ⟨o, ho, hd⟩ => by
    have nch : c ∉ ch := fun z => (hch c z).2.2.1 x c e rfl
    by_cases hc : c ∈ X.fs
    · obtain ⟨sl, q⟩ := slot c o (I.cne x c e) hc nch ho (I.freeC x c e)
      exact ⟨_, q, hd⟩
    · exact ⟨o, keep c o (I.cne x c e) hc nch ho (I.freeC x c e), hd⟩
  refine ⟨I.ok, I.os, hg, ⟨fun b o e n hb hx => ?_, fun b o e n hb hx => ?_, fun b o e n hx => ?_, fun b o e hx => ?_, fun b xs e => tups b xs (I.base.tups b xs e), fun b o xs e => frzs b o xs (I.base.frzs b o xs e), fun b ps e => ?_⟩, ?_, fun x c e => ?_, ?_, fun x c e => ?_, fun p hp => ?_, hok, I.len⟩
  · exact keep b o (neL b o e) hb (neC b o e hx) (I.base.keep b o e n hb hx) (I.base.free b o e n hx)
  · obtain ⟨sl, e1⟩ := I.base.slot b o e n hb hx
    obtain ⟨sl', e2⟩ := slot b _ (neL b o e) hb (neC b o e hx) e1 (I.base.free b o e n hx)
    exact ⟨sl', e2⟩
  · obtain ⟨o', e1⟩ := I.base.there b o e hx
    exact free b o' (neC b o e hx) e1 (I.base.free b o e n hx)
  · obtain ⟨o', e1⟩ := I.base.there b o e hx
    exact there b o' (neC b o e hx) e1
  · obtain ⟨m1, e1⟩ := I.base.tbls b ps e
    obtain ⟨m2, e2⟩ := tbls b _ e1
    exact ⟨m1 ++ m2, by rw [e2, Array.append_assoc]⟩
  · obtain ⟨m, hn, hl⟩ := I.loc
    refine ⟨m, ns m hn, fun i x v e1 e2 e3 => ?_⟩
    obtain ⟨u, r, l⟩ := hl i x v e1 e2 e3
    refine ⟨u, r, ?_⟩
    rcases l with l | ⟨k, c, e, z⟩
    · exact .inl l
    · exact .inr ⟨k, c, e, cellK x c e _ z⟩
  · obtain ⟨v, z⟩ := I.cell x c e
    exact ⟨v, cellK x c e v z⟩
  · obtain ⟨m, ⟨o, _, _, ho, _⟩, _⟩ := I.loc
    exact free _ o (fun z => (hch _ z).2.1 rfl) ho I.free
  · obtain ⟨v, o, ho, hd⟩ := I.cell x c e
    exact free c o (fun z => (hch c z).2.2.1 x c e rfl) ho (I.freeC x c e)
  · obtain ⟨e, n, ne, nf, d⟩ := I.pin p hp
    have nch : p.1 ∉ ch := fun z => (hch p.1 z).2.2.2 p hp rfl
    exact ⟨keep p.1 p.2 ne nf nch e n, free p.1 p.2 nch e n, ne, nf, d⟩
theorem Inv.un {t' : Nat} (I : Inv X pins σ H s) (u : Un X.fs [] H H' s.heap h') (hok : HOk X.prog X.w H' h') : Inv X pins σ H' { s with heap := h', toks := t' } := by
  obtain ⟨m, ⟨o, es, ep, ho, r⟩, _⟩ := id I.loc
  obtain ⟨sl, hL⟩ := u.any ho I.free (by simp)
  exact I.step (g' := s.gens) (d' := s.drawn) (ch := []) (fun _ z => nomatch z) (fun b o _ hb _ e n => u.keep b o e n hb (by simp)) (fun b o _ hb _ e n => u.slot b o e n hb (by simp)) (fun b o _ e n => u.free b o e n (by simp)) (fun b o _ e => u.there b o e (by simp)) u.tups u.frzs u.tbls (fun m' hm => by
    obtain ⟨o', es', ep', ho', r'⟩ := hm
    rw [ho] at ho'; cases ho'
    exact ⟨_, es', ep', hL, r'⟩) hok I.bare
theorem Inv.call {g' : Array GenState} {t' : Nat} {d' : Drawn} {ch : List Addr} (I : Inv X pins σ H s) (u : Un (frs X.stack) ch H H' s.heap h') (hok : HOk X.prog X.w H' h') (hg : AllBare g')
    (hch : ∀ b ∈ ch, (b ∈ X.ex ∨ X.s₀.heap.objs.size ≤ b) ∧ b ≠ X.env.locals ∧ (∀ x c, X.env.cells.lookup x = some c → c ≠ b) ∧ ∀ p ∈ X.pn ++ pins, p.1 ≠ b) :
    Inv X pins σ H' { s with heap := h', gens := g', drawn := d', toks := t' } := by
  obtain ⟨m, ⟨o, es, ep, ho, r⟩, _⟩ := id I.loc
  obtain ⟨sl, hL⟩ := u.any ho I.free fun z => (hch _ z).2.1 rfl
  exact I.step (ch := ch) hch (fun b o hL hb hc e n => u.keep b o e n (fun z => (List.mem_cons.mp (I.stkSub b z)).elim hL hb) hc) (fun b o _ _ hc e n => u.any e n hc) (fun b o hc e n => u.free b o e n hc) (fun b o hc e => u.there b o e hc) u.tups u.frzs u.tbls (fun m' hm => by
    obtain ⟨o', es', ep', ho', r'⟩ := hm
    rw [ho] at ho'; cases ho'
    exact ⟨_, es', ep', hL, r'⟩) hok hg
theorem Inv.turned {t' : Nat} {it : Addr} (I : Inv X pins σ H s) (k : ∀ b o, b ≠ it → s.heap.get? b = some o → h'.get? b = some o) (hn : H it = none) (hL : it ≠ X.env.locals)
    (h1 : it ∈ X.ex ∨ X.s₀.heap.objs.size ≤ it) (h2 : ∀ x c, X.env.cells.lookup x = some c → c ≠ it) (h3 : ∀ p ∈ X.pn ++ pins, p.1 ≠ it) : Inv X pins σ H { s with heap := h', toks := t' } := by
  have nit : ∀ b u, H b = some u → b ≠ it := fun b u e z => by rw [z, hn] at e; cases e
  refine I.step (g' := s.gens) (d' := s.drawn) (ch := [it]) (fun b hb => ?_) (fun b o _ _ hc e _ => k b o (fun z => hc (by simp [z])) e) (fun b o _ _ hc e _ => ⟨o.slots, k b o (fun z => hc (by simp [z])) e⟩) (fun _ _ _ _ n => n)
    (fun b o hc e => ⟨o, k b o (fun z => hc (by simp [z])) e⟩) (fun _ _ e => e) (fun _ _ _ e => e) (fun b ps e => ⟨#[], by rw [e]; simp⟩) (fun m hm => ?_) (fun b u e => ?_) I.bare
  · have e : b = it := by simpa using hb
    subst e
    exact ⟨h1, hL, h2, h3⟩
  · obtain ⟨o, es, ep, ho, r⟩ := hm
    exact ⟨o, es, ep, k _ o (Ne.symm hL) ho, r⟩
  · refine (I.hok b u e).stay (fun c v hc q => k c v ?_ q) (fun _ q => q) fun _ _ q => q
    rcases hc with z | z
    · rw [z]; exact nit b u e
    · exact nit c _ z
theorem Inv.tok (I : Inv X pins σ H s) (t : Nat) : Inv X pins σ H { s with toks := t } := I.un (h' := s.heap) (t' := t) Un.refl I.hok
theorem Inv.kept {t' : Nat} (I : Inv X pins σ H s) (k : ∀ b u, s.heap.get? b = some u → h'.get? b = some u) : Inv X pins σ H { s with heap := h', toks := t' } := I.un (Un.kept k) (I.hok.kept k)
theorem Inv.laid {a : Addr} {o : HO} {t' : Nat} (I : Inv X pins σ H s) (k : ∀ b u, s.heap.get? b = some u → h'.get? b = some u) (hp : s.heap.objs.size ≤ a) (new : ObjOk X.prog X.w (upd H a o) h' a o) :
    Inv X pins σ (upd H a o) { s with heap := h', toks := t' } := I.un (Un.laid k hp (I.hok.fresh hp)) (I.hok.laid k hp new)
theorem Inv.write {x e : Addr} {o : HO} {t' : Nat} (I : Inv X pins σ H s) (mu : Mut (H x)) (he : e = x ∨ H e = some (.own x)) (k : ∀ b u, b ≠ e → s.heap.get? b = some u → h'.get? b = some u) (heo : ∃ u, h'.get? e = some u)
    (new : ObjOk X.prog X.w (upd H x o) h' x o) : Inv X pins σ (upd H x o) { s with heap := h', toks := t' } := I.un (Un.write mu he k heo) (I.hok.write mu he k heo new)
theorem Inv.pins_of {pins' : List (Addr × Obj)} (I : Inv X pins σ H s) (h : ∀ p ∈ pins', s.heap.get? p.1 = some p.2 ∧ H p.1 = none ∧ p.1 ≠ X.env.locals ∧ p.1 ∉ X.fs ∧ ∀ v, p.2.data ≠ .cell v) : Inv X pins' σ H s :=
  ⟨I.ok, I.os, I.bare, I.base, I.loc, I.cell, I.free, I.freeC, fun p hp => (List.mem_append.mp hp).elim (fun z => I.pin p (List.mem_append_left _ z)) (h p), I.hok, I.len⟩
theorem nodup_ix {N : List Str} (hN : N.Nodup) {i j : Nat} {x : Str} (a : N[i]? = some x) (b : N[j]? = some x) : i = j := by
  obtain ⟨h1, e1⟩ := List.getElem?_eq_some_iff.mp a
  obtain ⟨h2, e2⟩ := List.getElem?_eq_some_iff.mp b
  exact (List.getElem_inj hN).mp (e1.trans e2.symm)
theorem store_ok2 {M : Model} {A : Around} {E : Value → Shared → Prop} {i : Nat} {x : Str} {v : V} {u : Value} {Q : Unit → Shared → Prop} (I : Inv X pins σ H s) (hN : X.N.Nodup) (hi : X.N[i]? = some x) (hx : Loc X.env.scope x) (r : RelV v u)
    (h : ∀ s', Inv X pins (σ.set i (some v)) H s' → (∃ a, Heap.SameBut a s.heap s'.heap ∧ (a = X.env.locals ∨ X.env.cells.lookup x = some a)) → Q () s') (hf : X.fn x = true ∨ X.env.scope.names.lookup x = some .local := by first | exact .inl rfl | exact .inr rfl | assumption) : wpAny M A (storeName X.env x u) Q E s := by
  obtain ⟨m, hn, hl⟩ := id I.loc
  have hcls : (X.env.scope.kind == .class || (X.env.scope.kind == .module && X.env.locals != X.env.globals)) = false := by rw [I.ok.kind]; rfl
  have hiσ : i < σ.length := by rw [I.len]; exact (List.getElem?_eq_some_iff.mp hi).1
  have cne := I.cne
  have tracked : ∀ {a : Addr} {h' : Heap}, (∃ o, s.heap.get? a = some o ∧ H a = none) → Heap.SameBut a s.heap h' → HOk X.prog X.w H h' := fun {a h'} ha hs b ob e => by
    obtain ⟨_, _, hfree⟩ := ha
    refine (I.hok b ob e).stay (fun c w' hc q => (hs.2 c ?_).trans q) (fun _ q => q) fun _ _ q => q
    rintro rfl
    rcases hc with rfl | hc
    · rw [hfree] at e; cases e
    · rw [hfree] at hc; cases hc
  rcases hx with hk | hk
  · refine wpAny_storeName_local hk hn (fun h' hn' hs => ?_) hcls
    obtain ⟨oL, _, _, hoL, _⟩ := id hn
    refine h _ ⟨I.ok, I.os, I.bare, ⟨fun b o e n hb hx => ?_, fun b o e n hb hx => ?_, I.base.free, fun b o e hx => ?_, I.base.tups, I.base.frzs, I.base.tbls⟩, ⟨_, hn', fun j y v' e1 e2 e3 => ?_⟩, fun y c e => ?_, I.free, I.freeC, fun p hp => ?_, tracked ⟨oL, hoL, I.free⟩ hs, by simpa using I.len⟩ ⟨_, hs, .inl rfl⟩
    · exact (hs.2 b (Nat.ne_of_lt (Nat.lt_of_lt_of_le (Heap.lt_size e) I.ok.above))).trans (I.base.keep b o e n hb hx)
    · obtain ⟨sl, e1⟩ := I.base.slot b o e n hb hx
      exact ⟨sl, (hs.2 b (Nat.ne_of_lt (Nat.lt_of_lt_of_le (Heap.lt_size e) I.ok.above))).trans e1⟩
    · obtain ⟨o', e1⟩ := I.base.there b o e hx
      exact ⟨o', (hs.2 b (Nat.ne_of_lt (Nat.lt_of_lt_of_le (Heap.lt_size e) I.ok.above))).trans e1⟩
    · by_cases hj : j = i
      · subst hj
        rw [hi] at e1; cases e1
        rw [List.getElem?_set_self hiσ] at e2
        cases e2
        exact ⟨u, r, .inl ⟨hk, by simp⟩⟩
      · rw [List.getElem?_set_ne (Ne.symm hj)] at e2
        obtain ⟨u', r', q⟩ := hl j y v' e1 e2 e3
        refine ⟨u', r', ?_⟩
        rcases q with ⟨k, e⟩ | ⟨k, c, e, z⟩
        · refine .inl ⟨k, ?_⟩
          have : y ≠ x := fun e => hj (nodup_ix hN e1 (e ▸ hi))
          simp [this, e]
        · exact .inr ⟨k, c, e, z.sameBut hs (cne y c e)⟩
    · obtain ⟨w', z⟩ := I.cell y c e
      exact ⟨w', z.sameBut hs (cne y c e)⟩
    · obtain ⟨e, n, ne, nf, d⟩ := I.pin p hp
      exact ⟨(hs.2 p.1 ne).trans e, n, ne, nf, d⟩
  · have hfn : X.fn x = true := by
      rcases hf with z | z
      · exact z
      · rw [z] at hk; cases hk
    obtain ⟨c, hc⟩ := I.ok.has x (.inl hk)
    obtain ⟨w', z⟩ := I.cell x c hc
    refine wpAny_storeName_cell I.ok.kind hk hc z (fun h' hc' hs => ?_)
    obtain ⟨oc, hoc, hocd⟩ := id z
    refine h { s with heap := h' } ⟨I.ok, I.os, I.bare, ⟨fun b o e n hb hx => ?_, fun b o e n hb hx => ?_, I.base.free, fun b o e hx => ?_, I.base.tups, I.base.frzs, I.base.tbls⟩, ⟨m, hn.sameBut hs (Ne.symm (cne x c hc)), fun j y v' e1 e2 e3 => ?_⟩, fun y c' e => ?_, I.free, I.freeC, fun p hp => ?_, tracked ⟨oc, hoc, I.freeC x c hc⟩ hs, by simpa using I.len⟩ ⟨c, hs, .inr hc⟩
    · exact (hs.2 b (Nat.ne_of_lt (Nat.lt_of_lt_of_le (Heap.lt_size e) (I.ok.cab x c hfn hc)))).trans (I.base.keep b o e n hb hx)
    · obtain ⟨sl, e1⟩ := I.base.slot b o e n hb hx
      exact ⟨sl, (hs.2 b (Nat.ne_of_lt (Nat.lt_of_lt_of_le (Heap.lt_size e) (I.ok.cab x c hfn hc)))).trans e1⟩
    · obtain ⟨o', e1⟩ := I.base.there b o e hx
      exact ⟨o', (hs.2 b (Nat.ne_of_lt (Nat.lt_of_lt_of_le (Heap.lt_size e) (I.ok.cab x c hfn hc)))).trans e1⟩
    · by_cases hj : j = i
      · subst hj
        rw [hi] at e1; cases e1
        rw [List.getElem?_set_self hiσ] at e2
        cases e2
        exact ⟨u, r, .inr ⟨.inl hk, c, hc, hc'⟩⟩
      · rw [List.getElem?_set_ne (Ne.symm hj)] at e2
        obtain ⟨u', r', q⟩ := hl j y v' e1 e2 e3
        refine ⟨u', r', ?_⟩
        rcases q with q | ⟨k, c', e, z'⟩
        · exact .inl q
        · refine .inr ⟨k, c', e, z'.sameBut hs ?_⟩
          rintro rfl
          exact hj (nodup_ix hN e1 (I.ok.inj _ _ _ e hc ▸ hi))
    · by_cases hcc : c' = c
      · subst hcc; exact ⟨_, hc'⟩
      · obtain ⟨w2, z2⟩ := I.cell y c' e
        exact ⟨w2, z2.sameBut hs hcc⟩
    · obtain ⟨e, n, ne, nf, d⟩ := I.pin p hp
      refine ⟨(hs.2 p.1 ?_).trans e, n, ne, nf, d⟩
      intro q
      rw [q, hoc] at e
      have q' : oc = p.2 := Option.some.inj e
      exact d w' (by rw [← q']; exact hocd)
theorem store_ok {M : Model} {A : Around} {E : Value → Shared → Prop} {i : Nat} {x : Str} {v : V} {u : Value} {Q : Unit → Shared → Prop} (I : Inv X pins σ H s) (hN : X.N.Nodup) (hi : X.N[i]? = some x) (hx : Loc X.env.scope x) (r : RelV v u)
    (h : ∀ s', Inv X pins (σ.set i (some v)) H s' → Q () s') (hf : X.fn x = true ∨ X.env.scope.names.lookup x = some .local := by first | exact .inl rfl | exact .inr rfl | assumption) : wpAny M A (storeName X.env x u) Q E s :=
  store_ok2 I hN hi hx r (fun s' I' _ => h s' I') hf
theorem Inv.call' {s' : Shared} {ch : List Addr} (I : Inv X pins σ H s) (ho : s'.os = s.os) (u : Un (frs X.stack) ch H H' s.heap s'.heap) (hok : HOk X.prog X.w H' s'.heap) (hg : AllBare s'.gens)
    (hch : ∀ b ∈ ch, (b ∈ X.ex ∨ X.s₀.heap.objs.size ≤ b) ∧ b ≠ X.env.locals ∧ (∀ x c, X.env.cells.lookup x = some c → c ≠ b) ∧ ∀ p ∈ X.pn ++ pins, p.1 ≠ b) : Inv X pins σ H' s' := by
  obtain ⟨h', g', d', t', o'⟩ := s'
  have e : o' = s.os := ho
  subst e
  exact I.call (g' := g') (t' := t') (d' := d') u hok hg hch
end
abbrev XK := Value → Option Addr → Hp → Prop
abbrev St := List (Option V)
abbrev VK := V → Hp → Prop
abbrev TE := St → Hp → VK → Prop
abbrev TT := St → Hp → (Bool → Hp → Prop) → Prop
abbrev TA := St → Hp → (List V → Hp → Prop) → Prop
structure Ends where
  nx : St → Hp → Prop
  rt : VK
  bk : St → Hp → Prop := fun _ _ => False
  ct : St → Hp → Prop := fun _ _ => False
abbrev TS := Ends → St → Hp → Prop
def EP (X : Cx) (pins : List (Addr × Obj)) (σ : St) (Q : VK) (u : Value) (s' : Shared) : Prop := ∃ v H', Inv X pins σ H' s' ∧ RelV v u ∧ Q v H'
def TP (X : Cx) (pins : List (Addr × Obj)) (σ : St) (Q : Bool → Hp → Prop) (b : Bool) (s' : Shared) : Prop := ∃ H', Inv X pins σ H' s' ∧ Q b H'
def AP (X : Cx) (pins : List (Addr × Obj)) (σ : St) (Q : List V → Hp → Prop) (us : List Value) (s' : Shared) : Prop := ∃ vs H', Inv X pins σ H' s' ∧ Vals vs us ∧ Q vs H'
def SP (X : Cx) (pins : List (Addr × Obj)) (D : Ends) (f : Flow) (s' : Shared) : Prop :=
  match f with
  | .next => ∃ σ' H', Inv X pins σ' H' s' ∧ D.nx σ' H'
  | .brk => ∃ σ' H', Inv X pins σ' H' s' ∧ D.bk σ' H'
  | .cont => ∃ σ' H', Inv X pins σ' H' s' ∧ D.ct σ' H'
  | .ret u => ∃ v σ' H', Inv X pins σ' H' s' ∧ RelV v u ∧ D.rt v H'
def PE (X : Cx) (e : Expr) (t : TE) : Prop :=
  ∀ (pins : List (Addr × Obj)) (s : Shared) (σ : St) (H : Hp) (Q : VK), Inv X pins σ H s → t σ H Q → wpAny (model X.prog X.w) X.A (eval e X.env) (EP X pins σ Q) X.xe s
def PT (X : Cx) (e : Expr) (t : TT) : Prop :=
  ∀ (pins : List (Addr × Obj)) (s : Shared) (σ : St) (H : Hp) (Q : Bool → Hp → Prop), Inv X pins σ H s → t σ H Q → wpAny (model X.prog X.w) X.A (isTrue e X.env (eval e X.env)) (TP X pins σ Q) X.xe s
def PW (X : Cx) (e : Expr) (t : TT) : Prop :=
  ∀ (whole : Sem Value) (pins : List (Addr × Obj)) (s : Shared) (σ : St) (H : Hp) (Q : Bool → Hp → Prop), Inv X pins σ H s → t σ H Q → wpAny (model X.prog X.w) X.A (isTrue e X.env whole) (TP X pins σ Q) X.xe s
theorem PW.pt {X : Cx} {e : Expr} {t : TT} (h : PW X e t) : PT X e t := h _
def PA (X : Cx) (es : List Expr) (t : TA) : Prop :=
  ∀ (pos : Pos) (pins : List (Addr × Obj)) (s : Shared) (σ : St) (H : Hp) (Q : List V → Hp → Prop), Inv X pins σ H s → t σ H Q → wpAny (model X.prog X.w) X.A (spliced (backTo pos (starEach es X.env))) (AP X pins σ Q) X.xe s
def PS (X : Cx) (st : Stmt) (t : TS) : Prop :=
  ∀ (pins : List (Addr × Obj)) (s : Shared) (σ : St) (H : Hp) (D : Ends), Inv X pins σ H s → t D σ H → wpAny (model X.prog X.w) X.A (exec st X.env) (SP X pins D) X.xe s
def PSs (X : Cx) (st : List Stmt) (t : TS) : Prop :=
  ∀ (pins : List (Addr × Obj)) (s : Shared) (σ : St) (H : Hp) (D : Ends), Inv X pins σ H s → t D σ H → wpAny (model X.prog X.w) X.A (execs st X.env) (SP X pins D) X.xe s
theorem thn {α : Type} {t : Sem α} {Q Q' : α → Shared → Prop} {M : Model} {A : Around} {E : Value → Shared → Prop} {s : Shared} (h : wpAny M A t Q E s) (hQ : ∀ a s, Q a s → Q' a s) : wpAny M A t Q' E s := wpAny_mono h hQ fun _ _ x => x
end L2
namespace L2
open PySem PySem.Spec PyProof.Rows
section
variable {X : Cx}
def tVar (i : Nat) : TE := fun σ H Q => ∃ v, σ[i]? = some (some v) ∧ Q v H
def tC (v : V) : TE := fun _ H Q => Q v H
theorem pe_var {i : Nat} {x : Str} {pos : Pos} (hN : X.N[i]? = some x) (hv : Vis X.env.scope x) (hd : (x == ("__debug__" : Str)) = false := by decide) (hcd : (x == ("__classdict__" : Str)) = false := by decide) : PE X (.Name x pos) (tVar i) := by
  intro pins s σ H Q I h
  obtain ⟨v, e, h⟩ := h
  obtain ⟨m, hn, hl⟩ := I.loc
  obtain ⟨u, r, l⟩ := hl i x v hN e hv
  have fin : EP X pins σ Q u s := ⟨v, H, I, r, h⟩
  rcases l with ⟨hk, hm⟩ | ⟨hk, c, hc, hcell⟩
  · exact wpAny_Name (wpAny_loadName_local I.ok.kind hk hn hm fin) hd
  · rcases hk with hk | hk
    · exact wpAny_Name (wpAny_loadName_cell I.ok.kind hk hc hcell fin) hd
    · exact wpAny_Name (wpAny_loadName_free I.ok.kind hk hc hcell fin hcd) hd
theorem pe_int {i j pos} : PE X (.Constant (.int i) j pos) (tC (.int i)) := fun _ _ _ H _ I h => wpAny_Constant_int ⟨.int i, H, I.tok _, ⟨_, rfl⟩, h⟩
theorem pe_bl {b j pos} : PE X (.Constant (.bool b) j pos) (tC (.bl b)) := fun _ _ _ H _ I h => Constant_bool ⟨.bl b, H, I, rfl, h⟩
theorem pe_str {x j pos} : PE X (.Constant (.str x) j pos) (tC (.str x)) := fun _ _ _ H _ I h => Calls.Constant_str ⟨.str x, H, I.tok _, ⟨_, rfl⟩, h⟩
def Gl (X : Cx) (x : Str) : Prop := X.env.kindOf x = some .globalImplicit
theorem ld_glob {E : Value → Shared → Prop} {pins : List (Addr × Obj)} {s : Shared} {σ : St} {H : Hp} {x : Str} {u : Value} {pos : Pos} {Q : Value → Shared → Prop} (I : Inv X pins σ H s) (hg : Gl X x) (hm : X.mg x = some u) (h : Q u s)
    (hd : (x == ("__debug__" : Str)) = false := by decide) : wpAny (model X.prog X.w) X.A (eval (.Name x pos) X.env) Q E s :=
  Calls.Name_function_global I.ok.kind hg (Calls.loadGlobal_global (by rw [I.ok.glob]; exact I.mod.glob.keeps I.bk) hm h) hd
theorem ld_blt {E : Value → Shared → Prop} {pins : List (Addr × Obj)} {s : Shared} {σ : St} {H : Hp} {x : Str} {u : Value} {pos : Pos} {Q : Value → Shared → Prop} (I : Inv X pins σ H s) (hg : Gl X x) (hm : X.mg x = none) (hv : bootBuiltins x = some u) (h : Q u s)
    (hn : x ≠ "__name__" := by decide) (hd : (x == ("__debug__" : Str)) = false := by decide) : wpAny (model X.prog X.w) X.A (eval (.Name x pos) X.env) Q E s := by
  obtain ⟨mb, h1, h2⟩ := I.mod.blt
  exact Calls.Name_function_global I.ok.kind hg (Calls.loadGlobal_builtin (by rw [I.ok.glob]; exact I.mod.glob.keeps I.bk) hm (by rw [I.ok.blt]; exact h1.keeps I.bk) ((h2 x hn).trans hv) h) hd
theorem pe_glob {x : Str} {v : V} {u : Value} {pos : Pos} (hg : Gl X x) (hm : X.mg x = some u) (r : RelV v u) (hd : (x == ("__debug__" : Str)) = false := by decide) : PE X (.Name x pos) (tC v) :=
  fun _ _ _ H _ I h => ld_glob I hg hm ⟨v, H, I, r, h⟩ hd
theorem pe_bltn {x : Str} {v : V} {u : Value} {pos : Pos} (hg : Gl X x) (hm : X.mg x = none) (hv : bootBuiltins x = some u) (r : RelV v u) (hn : x ≠ "__name__" := by decide) (hd : (x == ("__debug__" : Str)) = false := by decide) : PE X (.Name x pos) (tC v) :=
  fun _ _ _ H _ I h => ld_blt I hg hm hv ⟨v, H, I, r, h⟩ hn hd
variable {a b : Expr} {ta tb : TE} {pos : Pos}
def PC (X : Cx) (op : CmpOp) (a b : Expr) (t : TE) : Prop :=
  ∀ (pins : List (Addr × Obj)) (s : Shared) (σ : St) (H : Hp) (Q : VK), Inv X pins σ H s → t σ H Q →
    wpAny (model X.prog X.w) X.A (eval a X.env) (fun v s₁ => wpAny (model X.prog X.w) X.A (eval b X.env) (fun u s₂ => wpAny (model X.prog X.w) X.A (compareOp op v u) (EP X pins σ Q) X.xe s₂) X.xe s₁) X.xe s
theorem nobehind (b : Expr) {op : CmpOp} (h : op ≠ .In) (h2 : op ≠ .NotIn) : behindInMarks op b = false := by
  have e1 : (op == CmpOp.In) = false := by cases op <;> first | rfl | exact absurd rfl h
  have e2 : (op == CmpOp.NotIn) = false := by cases op <;> first | rfl | exact absurd rfl h2
  cases b <;> simp [behindInMarks, e1, e2]
def tB (t : TE) : TT := fun σ H Q => t σ H fun x H1 => ∃ c, x = .bl c ∧ Q c H1
theorem pt_cmp {op : CmpOp} {t : TE} (h : PC X op a b t) (h1 : behindInMarks op b = false := by first | exact nobehind _ (by decide) (by decide) | rfl) : PT X (.Compare a [op] [b] pos) (tB t) := by
  intro pins s σ H Q I hw
  refine wpAny_isTrue_Compare1 (thn (h pins s σ H _ I hw) fun v s1 h1 => thn h1 fun u s2 h2 => thn h2 fun c s3 ⟨x, H1, I1, r1, q1⟩ => ?_) h1
  obtain ⟨d, rfl, q⟩ := q1
  cases r1
  exact wpAny_truthy_bool ⟨H1, I1, q⟩
variable {tA tB' : TT} {rest : List Expr}
def tAnd (t u : TT) : TT := fun σ H Q => t σ H fun c H1 => if c = true then u σ H1 Q else Q false H1
def tOr (t u : TT) : TT := fun σ H Q => t σ H fun c H1 => if c = true then Q true H1 else u σ H1 Q
def tNot (t : TT) : TT := fun σ H Q => t σ H fun c H1 => Q (!c) H1
theorem pw_and1 (ha : PT X a tA) : PW X (.BoolOp .And [a] pos) tA := by
  intro wh pins s σ H Q I h
  refine isTrue_and (thn (ha pins s σ H Q I h) fun c s1 e => ?_)
  cases c with
  | true => exact isTrue_and_nil e
  | false => exact e
theorem pw_or1 (ha : PT X a tA) : PW X (.BoolOp .Or [a] pos) tA := by
  intro wh pins s σ H Q I h
  refine isTrue_or (thn (ha pins s σ H Q I h) fun c s1 e => ?_)
  cases c with
  | false => exact isTrue_or_nil e
  | true => exact e
theorem pw_and (ha : PT X a tA) (hb : PW X (.BoolOp .And (b :: rest) pos) tB') : PW X (.BoolOp .And (a :: b :: rest) pos) (tAnd tA tB') := by
  intro wh pins s σ H Q I h
  refine isTrue_and (thn (ha pins s σ H _ I h) fun c s1 ⟨H1, I1, q1⟩ => ?_)
  cases c with
  | true => exact hb wh pins s1 σ H1 Q I1 q1
  | false => exact ⟨H1, I1, q1⟩
theorem pw_or (ha : PT X a tA) (hb : PW X (.BoolOp .Or (b :: rest) pos) tB') : PW X (.BoolOp .Or (a :: b :: rest) pos) (tOr tA tB') := by
  intro wh pins s σ H Q I h
  refine isTrue_or (thn (ha pins s σ H _ I h) fun c s1 ⟨H1, I1, q1⟩ => ?_)
  cases c with
  | true => exact ⟨H1, I1, q1⟩
  | false => exact hb wh pins s1 σ H1 Q I1 q1
theorem pt_not (ha : PT X a tA) : PT X (.UnaryOp .Not a pos) (tNot tA) := by
  intro pins s σ H Q I h
  exact isTrue_not (ha pins s σ H (fun c H1 => Q (!c) H1) I h)
def tAndV (ta tb : TE) : TE := fun σ H Q => ta σ H fun x H1 => ∃ c, x = .bl c ∧ if c = true then tb σ H1 Q else Q (.bl false) H1
theorem pe_one {op} {t : TE} (h : PE X a t) : PE X (.BoolOp op [a] pos) t := fun pins s σ H Q I hw => BoolOp_one (h pins s σ H Q I hw)
theorem pe_and (ha : PE X a ta) (hb : PE X (.BoolOp .And (b :: rest) pos) tb) : PE X (.BoolOp .And (a :: b :: rest) pos) (tAndV ta tb) := by
  intro pins s σ H Q I h
  refine BoolOp_and (thn (ha pins s σ H _ I h) fun v s1 ⟨x, H1, I1, r1, q1⟩ => ?_)
  obtain ⟨c, rfl, q1⟩ := q1
  cases r1
  refine wpAny_truthy_bool ?_
  cases c with
  | true => exact hb pins s1 σ H1 Q I1 q1
  | false => exact ⟨.bl false, H1, I1, rfl, q1⟩
end
end L2
namespace L2
open PySem PySem.Spec PyProof.Rows
def SqL (K : PySem.W.Frag) (H : Hp) (a : Addr) (xs : List V) : Prop :=
  Rd H a (.lst xs) ∨
    ∃ (o : Obj) (its : Array Value) (n : Nat), K.lookup a = some o ∧ o.cls = .type "list" ∧ o.dict = none ∧ o.data = .seq its n ∧ its.size ≤ sizeLine ∧ Vals xs its.toList
def SqT (K : PySem.W.Frag) (H : Hp) (a : Addr) (xs : List V) : Prop :=
  Rd H a (.tup xs) ∨
    ∃ (o : Obj) (its : Array Value) (n : Nat), K.lookup a = some o ∧ o.cls = .type "tuple" ∧ o.data = .seq its n ∧ its.size ≤ sizeLine ∧ Vals xs its.toList
def absV : Value → Option V
  | .none => some .non
  | .bool b => some (.bl b)
  | .int i _ => some (.int i)
  | .str x _ => some (.str x)
  | .bytes b _ => some (.byt b)
  | .float b _ => some (.flt b)
  | .ref a => some (.ref a)
  | .type n => some (.ty n)
  | _ => none
theorem RelV.abs {x : V} {u : Value} (r : RelV x u) : absV u = some x := by
  cases x with
  | non => cases r; rfl
  | bl _ => cases r; rfl
  | int _ => obtain ⟨t, rfl⟩ := r; rfl
  | str _ => obtain ⟨t, rfl⟩ := r; rfl
  | byt _ => obtain ⟨t, rfl⟩ := r; rfl
  | flt _ => obtain ⟨t, rfl⟩ := r; rfl
  | ref _ => cases r; rfl
  | ty _ => cases r; rfl
theorem RelV.inj {x y : V} {u : Value} (r : RelV x u) (q : RelV y u) : x = y := Option.some.inj (r.abs.symm.trans q.abs)
theorem Vals.inj : ∀ {xs ys : List V} {us : List Value}, Vals xs us → Vals ys us → xs = ys
  | _, _, _, .nil, .nil => rfl
  | _, _, _, .cons r t, .cons r' t' => by rw [r.inj r', Vals.inj t t']
section
variable {X : Cx} {pins : List (Addr × Obj)} {σ : St} {H : Hp} {s : Shared} {a : Addr} {xs ys : List V}
theorem SqL.of {K : PySem.W.Frag} (h : H a = some (.lst xs)) : SqL K H a xs := .inl (.inl h)
theorem SqT.of {K : PySem.W.Frag} (h : H a = some (.tup xs)) : SqT K H a xs := .inl (.inl h)
theorem Inv.list (I : Inv X pins σ H s) (h : SqL X.K H a xs) : ∃ its : List Value, Vals xs its ∧ PlainL s.heap a its.toArray ∧ xs.length ≤ sizeLine := by
  rcases h with h | ⟨o, its, n, hk, hc, hd, hs, hz, r⟩
  · obtain ⟨z, its, n, r, e⟩ := h.ok I.hok
    exact ⟨its, r, ⟨_, n, e, rfl, rfl, rfl⟩, z⟩
  · refine ⟨its.toList, r, ⟨o, n, I.kIn a o hk, hc, hd, by simpa using hs⟩, ?_⟩
    have e := r.length
    simp only [Array.length_toList] at e
    omega
theorem Inv.tuple (I : Inv X pins σ H s) (h : SqT X.K H a xs) : ∃ its : List Value, Vals xs its ∧ IsTup s.heap a its.toArray ∧ xs.length ≤ sizeLine := by
  rcases h with h | ⟨o, its, n, hk, hc, hs, hz, r⟩
  · obtain ⟨z, its, r, p⟩ := h.ok I.hok
    exact ⟨its, r, p, z⟩
  · refine ⟨its.toList, r, ⟨o, I.kIn a o hk, hc, n, by simpa using hs⟩, ?_⟩
    have e := r.length
    simp only [Array.length_toList] at e
    omega
theorem Inv.list_inj (I : Inv X pins σ H s) (h : SqL X.K H a xs) (h' : SqL X.K H a ys) : xs = ys := by
  obtain ⟨its, r, ⟨o, n, e, _, _, d⟩, _⟩ := I.list h
  obtain ⟨its', r', ⟨o', n', e', _, _, d'⟩, _⟩ := I.list h'
  rw [e] at e'; cases e'
  rw [d] at d'
  injection d' with d1 _
  have : its = its' := by simpa using congrArg Array.toList d1
  subst this
  exact r.inj r'
end
abbrev Cx.wish (X : Cx) (E : Value → Shared → Prop) : Cx := { X with xe := E }
abbrev Cx.nox (X : Cx) : Cx := X.wish fun _ _ => False
theorem Cx.Ok.wish {X : Cx} (ok : X.Ok) (E : Value → Shared → Prop) : (X.wish E).Ok :=
  ⟨ok.mod, ok.kind, ok.glob, ok.blt, ok.above, ok.inj, ok.has, ok.cab, ok.hd, ok.frames, ok.stk, ok.exf, ok.bs, ok.bsz, ok.noex, ok.exfs, ok.funs, ok.frf⟩
theorem Cx.Ok.unwish {X : Cx} {E : Value → Shared → Prop} (ok : (X.wish E).Ok) : X.Ok :=
  ⟨ok.mod, ok.kind, ok.glob, ok.blt, ok.above, ok.inj, ok.has, ok.cab, ok.hd, ok.frames, ok.stk, ok.exf, ok.bs, ok.bsz, ok.noex, ok.exfs, ok.funs, ok.frf⟩
section
variable {X : Cx} {pins : List (Addr × Obj)} {σ : St} {H : Hp} {s : Shared} {E : Value → Shared → Prop}
theorem Inv.wish (I : Inv X pins σ H s) (E : Value → Shared → Prop) : Inv (X.wish E) pins σ H s := ⟨I.ok.wish E, I.os, I.bare, I.base, I.loc, I.cell, I.free, I.freeC, I.pin, I.hok, I.len⟩
theorem Inv.unwish (I : Inv (X.wish E) pins σ H s) : Inv X pins σ H s := ⟨I.ok.unwish, I.os, I.bare, I.base, I.loc, I.cell, I.free, I.freeC, I.pin, I.hok, I.len⟩
theorem SP.unwish {D : Ends} {f : Flow} {s' : Shared} (h : SP (X.wish E) pins D f s') : SP X pins D f s' := by
  cases f with
  | next => obtain ⟨σ', H', I, q⟩ := h; exact ⟨σ', H', I.unwish, q⟩
  | brk => obtain ⟨σ', H', I, q⟩ := h; exact ⟨σ', H', I.unwish, q⟩
  | cont => obtain ⟨σ', H', I, q⟩ := h; exact ⟨σ', H', I.unwish, q⟩
  | ret u => obtain ⟨v, σ', H', I, r, q⟩ := h; exact ⟨v, σ', H', I.unwish, r, q⟩
theorem PSs.nox {st : List Stmt} {t : TS} (h : PSs X.nox st t) : PSs X st t := fun pins s σ H D I hw =>
  wpAny_mono (h pins s σ H D (I.wish _) hw) (fun _ _ q => q.unwish) fun _ _ z => False.elim z
end
section
variable {X : Cx} {st : Stmt} {rest : List Stmt} {t u : TS} {e : Expr} {te : TE} {pos : Pos}
def tNext : TS := fun D σ H => D.nx σ H
def tSeq (t u : TS) : TS := fun D σ H => t { D with nx := u D } σ H
theorem pss_nil : PSs X [] tNext := fun _ _ σ H _ I h => wpAny_execs_nil ⟨σ, H, I, h⟩
theorem pss_cons (h1 : PS X st t) (h2 : PSs X rest u) : PSs X (st :: rest) (tSeq t u) := by
  intro pins s σ H D I h
  refine wpAny_execs_cons (thn (h1 pins s σ H { D with nx := u D } I h) fun f s1 q => ?_)
  cases f with
  | next =>
    obtain ⟨σ', H', I', q⟩ := q
    exact h2 pins s1 σ' H' D I' q
  | ret v => exact q
  | brk => exact q
  | cont => exact q
theorem pss_one (h1 : PS X st t) : PSs X [st] t := by
  intro pins s σ H D I h
  refine wpAny_execs_cons (thn (h1 pins s σ H D I h) fun f s1 q => ?_)
  cases f with
  | next => exact wpAny_execs_nil q
  | ret v => exact q
  | brk => exact q
  | cont => exact q
theorem Inv.quiet {pins : List (Addr × Obj)} {σ : St} {H : Hp} {s : Shared} (I : Inv X pins σ H s) : interactive X.env = false := by simp [interactive, I.ok.kind]
def tDrop (te : TE) : TS := fun D σ H => te σ H fun _ H1 => D.nx σ H1
theorem ps_expr (he : PE X e te) (hs : swapsWith e none pos.line X.env = pure false := by rfl) : PS X (.Expr e pos) (tDrop te) := by
  intro pins s σ H D I h
  exact wpAny_Expr_any (thn (he pins s σ H _ I h) fun v s1 ⟨x, H1, I1, r1, q1⟩ => ⟨σ, H1, I1, q1⟩) I.quiet hs
def tRet (te : TE) : TS := fun D σ H => te σ H D.rt
theorem ps_ret (he : PE X e te) : PS X (.Return (some e) pos) (tRet te) := by
  intro pins s σ H D I h
  exact wpAny_Return_some (thn (he pins s σ H _ I h) fun v s1 ⟨x, H1, I1, r1, q1⟩ => ⟨x, σ, H1, I1, r1, q1⟩)
def tIfS (c : TT) (t u : TS) : TS := fun D σ H => c σ H fun b H1 => if b = true then t D σ H1 else u D σ H1
theorem ps_if {c : Expr} {a b : List Stmt} {tc : TT} (hc : PT X c tc) (ha : PSs X a t) (hb : PSs X b u) : PS X (.If c a b pos) (tIfS tc t u) := by
  intro pins s σ H D I h
  refine wpAny_If (thn (hc pins s σ H _ I h) fun d s1 ⟨H1, I1, q1⟩ => ?_)
  cases d with
  | true => exact ha pins s1 σ H1 D I1 q1
  | false => exact hb pins s1 σ H1 D I1 q1
end
abbrev TG := V → St → Hp → (St → Hp → Prop) → Prop
abbrev TGs := List V → St → Hp → (St → Hp → Prop) → Prop
def PG (X : Cx) (target : Expr) (t : TG) : Prop :=
  ∀ (pins : List (Addr × Obj)) (s : Shared) (σ : St) (H : Hp) (v : V) (u : Value) (Q : St → Hp → Prop), Inv X pins σ H s → RelV v u → t v σ H Q →
    wpAny (model X.prog X.w) X.A (assign target X.env u) (fun _ s' => ∃ σ' H', Inv X pins σ' H' s' ∧ Q σ' H') X.xe s
def PGs (X : Cx) (ts : List Expr) (t : TGs) : Prop :=
  ∀ (pins : List (Addr × Obj)) (s : Shared) (σ : St) (H : Hp) (vs : List V) (us : List Value) (Q : St → Hp → Prop), Inv X pins σ H s → Vals vs us → t vs σ H Q →
    wpAny (model X.prog X.w) X.A (assignInOrder ((assignEach ts X.env).map (·.2)) us) (fun _ s' => ∃ σ' H', Inv X pins σ' H' s' ∧ Q σ' H') X.xe s
abbrev TSet := V → V → V → Hp → (Hp → Prop) → Prop
def PSet (X : Cx) (t : TSet) : Prop :=
  ∀ (pins : List (Addr × Obj)) (s : Shared) (σ : St) (H : Hp) (o i v : V) (ov iv u : Value) (Q : Hp → Prop), Inv X pins σ H s → RelV o ov → RelV i iv → RelV v u → t o i v H Q →
    wpAny (model X.prog X.w) X.A (setItem ov iv u) (fun _ s' => ∃ H', Inv X pins σ H' s' ∧ Q H') X.xe s
section
variable {X : Cx} {pos : Pos}
def gName (i : Nat) : TG := fun v σ H Q => Q (σ.set i (some v)) H
theorem pg_name {i : Nat} {x : Str} (hN : X.N.Nodup) (hi : X.N[i]? = some x) (hx : Loc X.env.scope x) (hf : X.fn x = true ∨ X.env.scope.names.lookup x = some .local := by first | exact .inl rfl | exact .inr rfl | assumption) : PG X (.Name x pos) (gName i) := by
  intro pins s σ H v u Q I r h
  exact wpAny_assign_Name (store_ok I hN hi hx r (fun s' I' => ⟨_, H, I', h⟩) hf)
def gNil : TGs := fun vs σ H Q => vs = [] ∧ Q σ H
def gCons (t : TG) (u : TGs) : TGs := fun vs σ H Q => ∃ v r, vs = v :: r ∧ t v σ H fun σ' H' => u r σ' H' Q
theorem pgs_nil : PGs X [] gNil := by
  intro pins s σ H vs us Q I r h
  obtain ⟨e, h⟩ := h
  subst e
  cases r
  exact assignInOrder_nil ⟨σ, H, I, h⟩
theorem pgs_cons {e : Expr} {es : List Expr} {t : TG} {u : TGs} (h1 : PG X e t) (h2 : PGs X es u)
    (hs : (assignEach (e :: es) X.env).map (·.2) = assign e X.env :: (assignEach es X.env).map (·.2) := by rfl) : PGs X (e :: es) (gCons t u) := by
  intro pins s σ H vs us Q I r h
  obtain ⟨v, vr, e1, h⟩ := h
  subst e1
  cases r with
  | cons r rr =>
    rw [hs]
    refine assignInOrder_cons (thn (h1 pins s σ H _ _ _ I r h) fun _ s1 ⟨σ1, H1, I1, q1⟩ => ?_)
    exact h2 pins s1 σ1 H1 _ _ Q I1 rr q1
def gTup (K : PySem.W.Frag) (n : Nat) (t : TGs) : TG := fun v σ H Q => ∃ a xs, v = .ref a ∧ SqT K H a xs ∧ xs.length = n ∧ t xs σ H Q
theorem pg_tup {es : List Expr} {k : Nat} {t : TGs} {n : Nat} (hc : X.calm = true) (h : PGs X es t)
    (hn : (assignEach es X.env).length = n := by rfl) (hst : (assignEach es X.env).findIdx? (·.1) = none := by rfl) : PG X (.Tuple es k pos) (gTup X.K n t) := by
  intro pins s σ H v u Q I r hw
  obtain ⟨a, xs, e1, hq, hl, hw⟩ := hw
  subst e1
  cases r
  obtain ⟨its, rv, ht, hz⟩ := I.tuple hq
  refine assign_Tuple_tuple (I.ok.hd hc) ht (by simp [hn, ← hl, rv.length]) hst fun h' hx => ?_
  have I1 : Inv X pins σ H { s with heap := h' } := I.kept (t' := s.toks) fun b o e => hx b o (Nat.ne_of_lt (Heap.lt_size e)) e
  exact h pins _ σ H xs _ Q I1 (by simpa using rv) hw
def gSub (to ti : TE) (t : TSet) : TG := fun v σ H Q => to σ H fun o H1 => ti σ H1 fun i H2 => t o i v H2 fun H3 => Q σ H3
theorem pg_sub {o i : Expr} {to ti : TE} {t : TSet} (ho : PE X o to) (hi : PE X i ti) (hs : PSet X t)
    (ha : ∀ v, assign (.Subscript o i pos) X.env v = (do
      let ov ← holding [v] (eval o X.env)
      let iv ← holding [v, ov] (eval i X.env)
      standAt pos
      holding [v, ov, iv] (setItem ov iv v)
      release [v, ov, iv] []) := by intro _; rfl) : PG X (.Subscript o i pos) (gSub to ti t) := by
  intro pins s σ H v u Q I r h
  rw [ha]
  refine wpAny_bind (wpAny_holding (thn (ho pins s σ H _ I h) fun ov s1 ⟨x, H1, I1, r1, q1⟩ => ?_))
  refine wpAny_bind (wpAny_holding (thn (hi pins s1 σ H1 _ I1 q1) fun iv s2 ⟨y, H2, I2, r2, q2⟩ => ?_))
  refine wpAny_bind (wpAny_standAt (wpAny_bind (wpAny_holding (thn (hs pins s2 σ H2 x y v ov iv u _ I2 r1 r2 r q2) fun _ s3 ⟨H3, I3, q3⟩ => ?_))))
  exact wpAny_release ⟨σ, H3, I3, q3⟩
def tAsg (te : TE) (g : TG) : TS := fun D σ H => te σ H fun x H1 => g x σ H1 D.nx
theorem ps_asg {tg e : Expr} {te : TE} {g : TG} (he : PE X e te) (hg : PG X tg g) (hs : swapsWithSole [tg] e pos.line X.env = pure false := by rfl) (hw : swappedStores [tg] e X.env = pure none := by rfl)
    (h1 : (assignEach [tg] X.env).map (·.2) = [assign tg X.env] := by rfl) : PS X (.Assign [tg] e pos) (tAsg te g) := by
  intro pins s σ H D I h
  refine wpAny_Assign_stores (thn (he pins s σ H _ I h) fun v s1 ⟨x, H1, I1, r1, q1⟩ => ?_) hs hw
  rw [h1]
  exact thn (hg pins s1 σ H1 x v _ I1 r1 q1) fun _ s2 q => q
theorem ps_set {i : Nat} {x : Str} {e : Expr} {te : TE} {pos' : Pos} (hN : X.N.Nodup) (hi : X.N[i]? = some x) (hx : Loc X.env.scope x) (he : PE X e te) (hs : swapsWith e (some (.Name x pos')) pos.line X.env = pure false := by rfl) (hf : X.fn x = true ∨ X.env.scope.names.lookup x = some .local := by first | exact .inl rfl | exact .inr rfl | assumption) :
    PS X (.Assign [.Name x pos'] e pos) (tAsg te (gName i)) := by
  intro pins s σ H D I h
  refine wpAny_Assign_Name (thn (he pins s σ H _ I h) fun v s1 ⟨y, H1, I1, r1, q1⟩ => ?_) hs
  exact store_ok I1 hN hi hx r1 (fun s2 I2 => ⟨_, H1, I2, q1⟩) hf
end
section
variable {X : Cx} {pos : Pos}
def tWhile (c : TT) (tb : TS) : TS := fun D σ H => ∃ W : Nat → St → Hp → Prop, (∃ m, W m σ H) ∧ ∀ m σ H, W m σ H →
  c σ H fun b H1 => if b = true then ∃ N : St → Hp → Prop, (∀ σ' H', N σ' H' → ∃ m', m' < m ∧ W m' σ' H') ∧ tb { D with nx := N, ct := N, bk := D.nx } σ H1 else D.nx σ H1
theorem ps_while {c : Expr} {body : List Stmt} {tc : TT} {tb : TS} (hp : PassesOwn (model X.prog X.w) X.A X.env X.xe) (hc : PT X c tc) (hb : PSs X body tb) : PS X (.While c body [] pos) (tWhile tc tb) := by
  intro pins s σ H D I h
  obtain ⟨W, ⟨m0, w0⟩, turn⟩ := h
  refine wpAny_While (codeAny_whileLoop (fun n s' => ∃ σ' H', Inv X pins σ' H' s' ∧ W n σ' H') ?_ m0 ⟨σ, H, I, w0⟩)
  rintro n s1 ⟨σ1, H1, I1, w1⟩
  refine wpAny_passesOwn hp (thn (hc pins s1 σ1 H1 _ I1 (turn n σ1 H1 w1)) fun b s2 ⟨H2, I2, q2⟩ => ?_)
  cases b with
  | true =>
    obtain ⟨N, hN, q2⟩ := q2
    rw [if_pos rfl]
    refine wpAny_passesOwn hp (thn (hb pins s2 σ1 H2 _ I2 q2) fun f s3 q3 => ?_)
    cases f with
    | next =>
      obtain ⟨σ3, H3, I3, n3⟩ := q3
      obtain ⟨m', hm, w3⟩ := hN σ3 H3 n3
      exact ⟨m', hm, σ3, H3, I3, w3⟩
    | cont =>
      obtain ⟨σ3, H3, I3, n3⟩ := q3
      obtain ⟨m', hm, w3⟩ := hN σ3 H3 n3
      exact ⟨m', hm, σ3, H3, I3, w3⟩
    | brk => exact q3
    | ret v => exact q3
  | false =>
    rw [if_neg Bool.false_ne_true]
    exact wpAny_execs_nil ⟨σ1, H2, I2, q2⟩
end
structure It where
  go : Nat → Hp → Prop
  yld : Nat → Hp → V → Hp → Prop
  stop : Nat → Hp → Prop
def FpOk (X : Cx) (pins : List (Addr × Obj)) (H : Hp) (b : Addr) : Prop :=
  H b = none ∧ b ≠ X.env.locals ∧ b ∉ X.fs ∧ (b ∈ X.ex ∨ X.s₀.heap.objs.size ≤ b) ∧ (∀ x c, X.env.cells.lookup x = some c → c ≠ b) ∧ ∀ p ∈ X.pn ++ pins, p.1 ≠ b
theorem Inv.fpOk {X : Cx} {pins : List (Addr × Obj)} {σ : St} {H H' : Hp} {s : Shared} {b : Addr} (I : Inv X pins σ H s) (hb : s.heap.objs.size ≤ b) (hn : H' b = none) : FpOk X pins H' b := by
  refine ⟨hn, Nat.ne_of_gt (Nat.lt_of_lt_of_le I.lt hb), I.nofs hb, .inr (Nat.le_trans I.sz hb), fun x c e z => ?_, fun p hp z => ?_⟩
  · obtain ⟨v, q⟩ := I.cell x c e
    exact absurd (Nat.lt_of_lt_of_le q.lt (by rw [z]; exact hb)) (Nat.lt_irrefl _)
  · exact absurd (Nat.lt_of_lt_of_le (Heap.lt_size (I.pin p hp).1) (by rw [z]; exact hb)) (Nat.lt_irrefl _)
structure Turn (P : Program) (w : World) (K : PySem.W.Frag) (tg : Expr) (J : It) (fp : List Addr) (it : Addr) (tn : Nat → Heap → Prop) : Prop where
  mem : it ∈ fp
  obj : ∀ i h, tn i h → ∀ b ∈ fp, ∃ o, h.get? b = some o ∧ ∀ v, o.data ≠ .cell v
  keep : ∀ i h h', tn i h → (∀ b ∈ fp, ∀ o, h.get? b = some o → h'.get? b = some o) → tn i h'
  item : ∀ (X : Cx), X.prog = P → X.w = w → X.K = K → X.calm = true → ∀ (i : Nat) (pins : List (Addr × Obj)) (s : Shared) (σ : St) (H : Hp) (E : Value → Shared → Prop), Inv X pins σ H s → (∀ b ∈ fp, FpOk X pins H b) → tn i s.heap → J.go i H →
    wpAny (model P w) X.A (pyNext (.ref it)) (fun r s1 => ∃ u, r = some u ∧
      wpAny (model P w) X.A (letOwnedTupleGo tg (.ref it) u) (fun _ s2 => ∃ x H', Inv X pins σ H' s2 ∧ RelV x u ∧ J.yld i H x H' ∧ tn (i + 1) s2.heap ∧ ∀ b ∈ fp, H' b = none) E s1) E s
  done : ∀ (X : Cx), X.prog = P → X.w = w → X.K = K → X.calm = true → ∀ (i : Nat) (pins : List (Addr × Obj)) (s : Shared) (σ : St) (H : Hp) (E : Value → Shared → Prop), Inv X pins σ H s → (∀ b ∈ fp, FpOk X pins H b) → tn i s.heap → J.stop i H →
    wpAny (model P w) X.A (pyNext (.ref it)) (fun r s1 => r = none ∧ Inv X pins σ H s1) E s
  self : ∀ (A : Around) (i : Nat) (s : Shared) (Q : Value → Shared → Prop) (E : Value → Shared → Prop), tn i s.heap → Q (.ref it) s → wpAny (model P w) A (pyIter (.ref it)) Q E s
abbrev TI := St → Hp → (It → Hp → Prop) → Prop
def PIE (X : Cx) (pins : List (Addr × Obj)) (σ : St) (tg : Expr) (R : It → Hp → Prop) (itv : Value) (s2 : Shared) : Prop :=
  ∃ (it : Addr) (fp : List Addr) (tn : Nat → Heap → Prop) (J : It) (H' : Hp), itv = .ref it ∧ Inv X pins σ H' s2 ∧ Turn X.prog X.w X.K tg J fp it tn ∧ tn 0 s2.heap ∧ (∀ b ∈ fp, FpOk X pins H' b) ∧ R J H'
def PI (X : Cx) (tg iter : Expr) (wi : TI) : Prop :=
  ∀ (pins : List (Addr × Obj)) (s : Shared) (σ : St) (H : Hp) (R : It → Hp → Prop), Inv X pins σ H s → wi σ H R →
    wpAny (model X.prog X.w) X.A (eval iter X.env) (fun v s1 => wpAny (model X.prog X.w) X.A (pyIter v) (PIE X pins σ tg R) X.xe s1) X.xe s
theorem go_of {M : Model} {A : Around} {E : Value → Shared → Prop} {s : Shared} {tg : Expr} {it : Addr} {u : Value} {o : Obj} {n : String} {vs : Array Value} {Q : Unit → Shared → Prop} (ho : s.heap.get? it = some o) (hc : o.cls = .type n) (hd : o.data = .fields vs)
    (hn : ["enumerate", "zip", "dict_itemiterator", "dict_reverseitemiterator", "odict_iterator", "itertools.zip_longest", "itertools.pairwise"].contains n = false) (hQ : Q () s) : wpAny M A (letOwnedTupleGo tg (.ref it) u) Q E s := by
  unfold letOwnedTupleGo
  cases tg <;> first
    | exact wpAny_pure hQ
    | (cases u <;> first
        | exact wpAny_pure hQ
        | (refine wpAny_bind (wpAny_load ho ?_)
           rw [hc, hd]
           show wpAny M A (if (["enumerate", "zip", "dict_itemiterator", "dict_reverseitemiterator", "odict_iterator", "itertools.zip_longest", "itertools.pairwise"].contains n && vs[0]? == some (rawInt _)) = true then _ else _) Q E s
           rw [if_neg (by intro h; rw [hn, Bool.false_and] at h; cases h)]
           exact wpAny_pure hQ))
def Itl (K : PySem.W.Frag) (a : Addr) : It :=
  ⟨fun i H => ∃ xs x, SqL K H a xs ∧ xs[i]? = some x, fun i H x H' => H' = H ∧ ∀ xs, SqL K H a xs → xs[i]? = some x, fun i H => ∃ xs, SqL K H a xs ∧ xs.length ≤ i⟩
def Itr (lo : Int) (n : Nat) : It := ⟨fun i _ => i < n, fun i H x H' => H' = H ∧ x = .int (lo + i), fun i _ => n ≤ i⟩
theorem turn_list {P : Program} {w : World} {K : PySem.W.Frag} {tg : Expr} (a it : Addr) : Turn P w K tg (Itl K a) [it] it (fun i h => h.IsListIter it a i) where
  mem := by simp
  obj := fun i h st b hb => by
    have e : b = it := by simpa using hb
    subst e
    obtain ⟨o, e, c, d⟩ := st
    exact ⟨o, e, fun v z => by rw [d] at z; cases z⟩
  keep := fun i h h' st k => st.at fun o e => k it (by simp) o e
  item := by
    intro X hP hw hK hc i pins s σ H E I hf st hg
    subst hP hw hK
    obtain ⟨xs, x, hq, hx⟩ := hg
    obtain ⟨its, rv, p, hz⟩ := I.list hq
    obtain ⟨u, hu, ru⟩ := rv.get hx
    obtain ⟨f0, f1, f2, f3, f4, f5⟩ := hf it (by simp)
    refine wpAny_pyNext_list_item st p.isList (x := u) (by simpa using hu) fun h' st' sb => ?_
    have I1 : Inv X pins σ H { s with heap := h' } := I.turned (t' := s.toks) (fun b o hb e => (sb.2 b hb).trans e) f0 f1 f3 f4 f5
    obtain ⟨o, e, c, d⟩ := id st'
    exact ⟨u, rfl, go_of (s := { s with heap := h' }) e c d (by decide) ⟨x, H, I1, ru, ⟨rfl, fun ys hy => by rw [I.list_inj hy hq]; exact hx⟩, st', fun b hb => (hf b hb).1⟩⟩
  done := by
    intro X hP hw hK hc i pins s σ H E I hf st hg
    subst hP hw hK
    obtain ⟨xs, hq, hx⟩ := hg
    obtain ⟨its, rv, p, hz⟩ := I.list hq
    obtain ⟨f0, f1, f2, f3, f4, f5⟩ := hf it (by simp)
    have hl := rv.length
    exact wpAny_pyNext_list_end (I.ok.hd hc) st p.isList (by simp; omega) fun h' eb => ⟨rfl, I.turned (t' := s.toks) (fun b o hb e => eb b o hb e) f0 f1 f3 f4 f5⟩
  self := fun _ _ _ _ _ st h => wpAny_pyIter_listiter st h
theorem turn_range {P : Program} {w : World} {K : PySem.W.Frag} {tg : Expr} (it : Addr) (lo : Int) (n : Nat) : Turn P w K tg (Itr lo n) [it] it (fun i h => IsRangeIter h it (lo + (i : Nat) * 1) ((n : Int) - (i : Nat)) 1) where
  mem := by simp
  obj := fun i h st b hb => by
    have e : b = it := by simpa using hb
    subst e
    exact ⟨_, st, fun v z => by
      have z' : Data.fields _ = Data.cell v := z
      cases z'⟩
  keep := fun i h h' st k => k it (by simp) _ st
  item := by
    intro X hP hw hK hc i pins s σ H E I hf st hg
    subst hP hw hK
    obtain ⟨f0, f1, f2, f3, f4, f5⟩ := hf it (by simp)
    have W := Walks.range (prog := X.prog) (w := X.w) (I.ok.hd hc) it lo 1 n
    refine W.item i s _ _ hg st fun v h' tk hv st' kk => ?_
    obtain ⟨t, rfl⟩ := hv
    have I1 : Inv X pins σ H { s with heap := h', toks := tk } := I.turned (fun b o hb e => kk b o (by simpa using hb) e) f0 f1 f3 f4 f5
    refine ⟨_, rfl, go_of (s := { s with heap := h', toks := tk }) (n := "range_iterator") st' rfl rfl (by decide) ⟨.int (lo + i), H, I1, ⟨t, ?_⟩, ⟨rfl, rfl⟩, st', fun b hb => (hf b hb).1⟩⟩
    rw [Int.mul_one]
  done := by
    intro X hP hw hK hc i pins s σ H E I hf st hg
    subst hP hw hK
    obtain ⟨f0, f1, f2, f3, f4, f5⟩ := hf it (by simp)
    exact wpAny_pyNext_range_end (I.ok.hd hc) st (by have : n ≤ i := hg; omega) fun h' eb => ⟨rfl, I.turned (t' := s.toks) (fun b o hb e => eb b o hb e) f0 f1 f3 f4 f5⟩
  self := fun _ _ _ _ _ st h => wpAny_pyIter_rangeiter st h
end L2
namespace L2
open PySem PySem.Spec PyProof.Rows
section
variable {X : Cx} {tg : Expr}
def iList (K : PySem.W.Frag) (tl : TE) : TI := fun σ H R => tl σ H fun x H1 => ∃ a, x = .ref a ∧ (∃ xs, SqL K H1 a xs) ∧ R (Itl K a) H1
theorem pi_list {l : Expr} {tl : TE} (hl : PE X l tl) : PI X tg l (iList X.K tl) := by
  intro pins s σ H R I h
  refine thn (hl pins s σ H _ I h) fun v s1 ⟨x, H1, I1, r1, q1⟩ => ?_
  obtain ⟨a, e, ⟨xs, hq⟩, q⟩ := q1
  subst e
  cases r1
  obtain ⟨its, rv, p, hz⟩ := I1.list hq
  refine wpAny_pyIter_list p.isList ?_
  refine ⟨s1.heap.objs.size, [s1.heap.objs.size], _, _, H1, rfl, I1.kept (t' := s1.toks) fun b o e => Heap.get?_push_of_some _ e, turn_list a _, ⟨_, Heap.get?_push_size _ rfl, rfl, rfl⟩, fun b hb => ?_, q⟩
  have e : b = s1.heap.objs.size := by simpa using hb
  subst e
  exact I1.fpOk (Nat.le_refl _) (I1.hok.fresh (Nat.le_refl _))
theorem range_it {pins : List (Addr × Obj)} {σ : St} {H : Hp} {s : Shared} {R : It → Hp → Prop} {E : Value → Shared → Prop} {lo hi : Int} {t u v : Tok} {tk : Nat} (I : Inv X pins σ H s) (h1 : -(2 ^ 62) ≤ lo) (h2 : lo < 2 ^ 62) (h3 : -(2 ^ 62) ≤ hi) (h4 : hi < 2 ^ 62)
    (q : R (Itr lo (hi - lo).toNat) H) : wpAny (model X.prog X.w) X.A (pyIter (.ref s.heap.objs.size)) (PIE X pins σ tg R) E { s with heap := s.heap.push { cls := .type "range", data := .fields #[.int lo t, .int hi u, .int 1 v] }, toks := tk } := by
  refine wpAny_pyIter_range (IsRange.new ..) (small_one h1 h2 h3 h4) ?_
  have I1 : Inv X pins σ H { s with heap := s.heap.push { cls := .type "range", data := .fields #[.int lo t, .int hi u, .int 1 v] }, toks := tk } := I.kept fun b o e => Heap.get?_push_of_some _ e
  refine ⟨(s.heap.push { cls := .type "range", data := .fields #[.int lo t, .int hi u, .int 1 v] }).objs.size, [(s.heap.push { cls := .type "range", data := .fields #[.int lo t, .int hi u, .int 1 v] }).objs.size], _, _, H, rfl,
    I1.kept (t' := tk) fun b o e => Heap.get?_push_of_some _ e, turn_range _ lo (hi - lo).toNat, ?_, fun b hb => ?_, q⟩
  · have e1 : lo + ((0 : Nat) : Int) * 1 = lo := by simp
    have e2 : (((hi - lo).toNat : Nat) : Int) - ((0 : Nat) : Int) = Builtin.Range.rangeSize lo hi 1 := by rw [rangeSize_one]; split <;> omega
    show IsRangeIter _ _ (lo + ((0 : Nat) : Int) * 1) ((((hi - lo).toNat : Nat) : Int) - ((0 : Nat) : Int)) 1
    rw [e1, e2]
    exact Heap.get?_push_size _ rfl
  · have e : b = (s.heap.push { cls := .type "range", data := .fields #[.int lo t, .int hi u, .int 1 v] }).objs.size := by simpa using hb
    subst e
    exact I1.fpOk (Nat.le_refl _) (I1.hok.fresh (Nat.le_refl _))
def iRng1 (ta : TA) : TI := fun σ H R => ta σ H fun vs H1 => ∃ j : Int, vs = [.int j] ∧ -(2 ^ 62) ≤ j ∧ j < 2 ^ 62 ∧ R (Itr 0 j.toNat) H1
theorem pi_range1 {a : Expr} {ta : TA} {p pos : Pos} (hg : Gl X "range") (hm : X.mg "range" = none) (ha : PA X [a] ta) (hs : starEach [a] X.env = [(false, eval a X.env)] := by rfl) : PI X tg (.Call (.Name "range" p) [a] [] pos) (iRng1 ta) := by
  intro pins s σ H R I h
  refine Call_ (ld_blt I hg hm boot_range (PyProof.Rows.callWith_type1 (thn (ha pos pins s σ H _ I h) fun us s1 ⟨vs, H1, I1, r1, q1⟩ => ?_) hs rfl))
  obtain ⟨j, e, q1, q2, q⟩ := q1
  subst e
  cases r1 with
  | cons r rr =>
    cases rr
    obtain ⟨t, rfl⟩ := r
    exact call_range_1 (range_it I1 (by omega) (by omega) q1 q2 (by simpa using q))
def tFor (wi : TI) (g : TG) (tb : TS) : TS := fun D σ H => wi σ H fun J H1 => ∃ W : Nat → Nat → St → Hp → Prop, (∃ m, W 0 m σ H1) ∧ ∀ i m σ H, W i m σ H →
  (J.stop i H ∧ D.nx σ H) ∨ (J.go i H ∧ ∃ N : St → Hp → Prop, (∀ σ' H', N σ' H' → ∃ m', m' < m ∧ W (i + 1) m' σ' H') ∧ ∀ x H', J.yld i H x H' → g x σ H' fun σ2 H2 => tb { D with nx := N, ct := N, bk := D.nx } σ2 H2)
def pinsAt (fp : List Addr) (h : Heap) : List (Addr × Obj) := fp.filterMap fun b => (h.get? b).map fun o => (b, o)
theorem mem_pinsAt {fp : List Addr} {h : Heap} {b : Addr} {o : Obj} (hb : b ∈ fp) (e : h.get? b = some o) : (b, o) ∈ pinsAt fp h := List.mem_filterMap.mpr ⟨b, hb, by rw [e]; rfl⟩
theorem of_pinsAt {fp : List Addr} {h : Heap} {p : Addr × Obj} (hp : p ∈ pinsAt fp h) : p.1 ∈ fp ∧ h.get? p.1 = some p.2 := by
  obtain ⟨b, hb, e⟩ := List.mem_filterMap.mp hp
  cases q : h.get? b with
  | none => rw [q] at e; cases e
  | some o =>
    rw [q] at e
    have e' : (b, o) = p := Option.some.inj e
    subst e'
    exact ⟨hb, q⟩
theorem Inv.pinned {pins : List (Addr × Obj)} {σ : St} {H : Hp} {s : Shared} {fp : List Addr} (I : Inv X pins σ H s) (hf : ∀ b ∈ fp, FpOk X pins H b) (ho : ∀ b ∈ fp, ∃ o, s.heap.get? b = some o ∧ ∀ v, o.data ≠ .cell v) : Inv X (pins ++ pinsAt fp s.heap) σ H s :=
  I.pins_of fun p hp => (List.mem_append.mp hp).elim (fun z => I.pin p (List.mem_append_right _ z)) fun z => by
    obtain ⟨hb, e⟩ := of_pinsAt z
    obtain ⟨f0, f1, f2, _⟩ := hf p.1 hb
    obtain ⟨o, e', d⟩ := ho p.1 hb
    rw [e] at e'; cases e'
    exact ⟨e, f0, f1, f2, d⟩
theorem Inv.unpinned {pins pl : List (Addr × Obj)} {σ : St} {H : Hp} {s : Shared} (I : Inv X (pins ++ pl) σ H s) : Inv X pins σ H s := I.pins_of fun p hp => I.pin p (List.mem_append_right _ (List.mem_append_left _ hp))
theorem ps_for {iter : Expr} {body : List Stmt} {wi : TI} {g : TG} {tb : TS} {pos : Pos} (hp : PassesOwn (model X.prog X.w) X.A X.env X.xe) (hc : X.calm = true) (hi : PI X tg iter wi) (hg : PG X tg g) (hb : PSs X body tb)
    (hs : ∀ x, foldedSetIterable iter X.env x = pure x := by intro _; rfl) : PS X (.For tg iter body [] pos) (tFor wi g tb) := by
  intro pins s σ H D I h
  refine wpAny_For (thn (hi pins s σ H _ I h) fun v s1 h1 => thn h1 fun itv s2 h2 => ?_) hs
  obtain ⟨it, fp, tn, J, H2, e, I2, T, st2, f2, W, ⟨m0, w0⟩, turn⟩ := h2
  subst e
  have stat : ∀ {H' : Hp}, (∀ b ∈ fp, H' b = none) → ∀ b ∈ fp, FpOk X pins H' b := fun hn b hb => ⟨hn b hb, (f2 b hb).2⟩
  refine codeAny_forLoop_any (fun n s' => ∃ i σ' H', Inv X pins σ' H' s' ∧ tn i s'.heap ∧ (∀ b ∈ fp, H' b = none) ∧ W i n σ' H') ?_ m0 ⟨0, σ, H2, I2, st2, fun b hb => (f2 b hb).1, w0⟩
  rintro n s3 ⟨i, σ3, H3, I3, st3, fr3, w3⟩
  rcases turn i n σ3 H3 w3 with ⟨stop, qn⟩ | ⟨go, N, hN, step⟩
  · refine wpAny_passesOwn hp (thn (T.done X rfl rfl rfl hc i pins s3 σ3 H3 X.xe I3 (stat fr3) st3 stop) fun r s4 ⟨hr, I4⟩ => ?_)
    subst hr
    exact wpAny_execs_nil ⟨σ3, H3, I4, qn⟩
  · refine wpAny_passesOwn hp (thn (T.item X rfl rfl rfl hc i pins s3 σ3 H3 X.xe I3 (stat fr3) st3 go) fun r s4 ⟨u, hr, h4⟩ => ?_)
    subst hr
    refine wpAny_passesOwn hp (thn h4 fun _ s5 ⟨x, H5, I5, r5, y5, st5, fr5⟩ => ?_)
    have I5' := I5.pinned (stat fr5) (T.obj _ _ st5)
    refine wpAny_passesOwn hp (thn (hg _ s5 σ3 H5 x u _ I5' r5 (step x H5 y5)) fun _ s6 ⟨σ6, H6, I6, q6⟩ => ?_)
    refine wpAny_passesOwn hp (thn (hb _ s6 σ6 H6 _ I6 q6) fun f s7 q7 => ?_)
    have again : ∀ {σ7 : St} {H7 : Hp}, Inv X (pins ++ pinsAt fp s5.heap) σ7 H7 s7 → N σ7 H7 → ∃ m, m < n ∧ ∃ i σ' H', Inv X pins σ' H' s7 ∧ tn i s7.heap ∧ (∀ b ∈ fp, H' b = none) ∧ W i m σ' H' := fun {σ7 H7} I7 n7 => by
      obtain ⟨m', hm, w7⟩ := hN σ7 H7 n7
      refine ⟨m', hm, i + 1, σ7, H7, I7.unpinned, T.keep _ _ _ st5 fun b hb o e => (I7.pin (b, o) (List.mem_append_right _ (List.mem_append_right _ (mem_pinsAt hb e)))).1, fun b hb => ?_, w7⟩
      obtain ⟨o, e, d⟩ := T.obj _ _ st5 b hb
      exact (I7.pin (b, o) (List.mem_append_right _ (List.mem_append_right _ (mem_pinsAt hb e)))).2.1
    cases f with
    | next => obtain ⟨σ7, H7, I7, n7⟩ := q7; exact again I7 n7
    | cont => obtain ⟨σ7, H7, I7, n7⟩ := q7; exact again I7 n7
    | brk => obtain ⟨σ7, H7, I7, q7⟩ := q7; exact ⟨σ7, H7, I7.unpinned, q7⟩
    | ret v => obtain ⟨x7, σ7, H7, I7, r7, q7⟩ := q7; exact ⟨x7, σ7, H7, I7.unpinned, r7, q7⟩
end
theorem for_list {K : PySem.W.Frag} {a : Addr} {xs : List V} {g : TG} {tb : TS} {D : Ends} {σ : St} {H : Hp} (Pv : Nat → St → Hp → Prop) (h0 : Pv 0 σ H) (hl : ∀ i σ H, i ≤ xs.length → Pv i σ H → SqL K H a xs)
    (hs : ∀ i x σ H, xs[i]? = some x → Pv i σ H → g x σ H fun σ2 H2 => tb { D with nx := Pv (i + 1), ct := Pv (i + 1), bk := D.nx } σ2 H2) (hd : ∀ σ H, Pv xs.length σ H → D.nx σ H) :
    ∃ W : Nat → Nat → St → Hp → Prop, (∃ m, W 0 m σ H) ∧ ∀ i m σ H, W i m σ H →
      ((Itl K a).stop i H ∧ D.nx σ H) ∨ ((Itl K a).go i H ∧ ∃ N : St → Hp → Prop, (∀ σ' H', N σ' H' → ∃ m', m' < m ∧ W (i + 1) m' σ' H') ∧ ∀ x H', (Itl K a).yld i H x H' → g x σ H' fun σ2 H2 => tb { D with nx := N, ct := N, bk := D.nx } σ2 H2) := by
  refine ⟨fun i m σ H => m = xs.length - i ∧ i ≤ xs.length ∧ Pv i σ H, ⟨xs.length, by simp, Nat.zero_le _, h0⟩, ?_⟩
  rintro i m σ H ⟨rfl, hi, p⟩
  have q := hl i σ H hi p
  by_cases hlt : i < xs.length
  · refine .inr ⟨⟨xs, xs[i], q, by simp [hlt]⟩, Pv (i + 1), fun σ' H' p' => ⟨xs.length - (i + 1), by omega, rfl, hlt, p'⟩, fun x H' y => ?_⟩
    obtain ⟨e, y⟩ := y
    subst e
    exact hs i x σ _ (y xs q) p
  · have e : i = xs.length := by omega
    subst e
    exact .inl ⟨⟨xs, q, Nat.le_refl _⟩, hd σ H p⟩
theorem for_range {lo : Int} {n : Nat} {g : TG} {tb : TS} {D : Ends} {σ : St} {H : Hp} (Pv : Nat → St → Hp → Prop) (h0 : Pv 0 σ H)
    (hs : ∀ i σ H, i < n → Pv i σ H → g (.int (lo + i)) σ H fun σ2 H2 => tb { D with nx := Pv (i + 1), ct := Pv (i + 1), bk := D.nx } σ2 H2) (hd : ∀ σ H, Pv n σ H → D.nx σ H) :
    ∃ W : Nat → Nat → St → Hp → Prop, (∃ m, W 0 m σ H) ∧ ∀ i m σ H, W i m σ H →
      ((Itr lo n).stop i H ∧ D.nx σ H) ∨ ((Itr lo n).go i H ∧ ∃ N : St → Hp → Prop, (∀ σ' H', N σ' H' → ∃ m', m' < m ∧ W (i + 1) m' σ' H') ∧ ∀ x H', (Itr lo n).yld i H x H' → g x σ H' fun σ2 H2 => tb { D with nx := N, ct := N, bk := D.nx } σ2 H2) := by
  refine ⟨fun i m σ H => m = n - i ∧ i ≤ n ∧ Pv i σ H, ⟨n, by simp, Nat.zero_le _, h0⟩, ?_⟩
  rintro i m σ H ⟨rfl, hi, p⟩
  by_cases hlt : i < n
  · refine .inr ⟨hlt, Pv (i + 1), fun σ' H' p' => ⟨n - (i + 1), by omega, rfl, hlt, p'⟩, fun x H' y => ?_⟩
    obtain ⟨e, y⟩ := y
    subst e y
    exact hs i σ _ hlt p
  · have e : i = n := by omega
    subst e
    exact .inl ⟨Nat.le_refl _, hd σ H p⟩
end L2
namespace L2
open PySem PySem.Spec PyProof.Rows
abbrev R2 := V → V → Hp → VK → Prop
def OpR (X : Cx) (f : Value → Value → Sem Value) (r : R2) : Prop :=
  ∀ (pins : List (Addr × Obj)) (s : Shared) (σ : St) (H : Hp) (x y : V) (v u : Value) (Q : VK), Inv X pins σ H s → RelV x v → RelV y u → r x y H Q →
    wpAny (model X.prog X.w) X.A (f v u) (EP X pins σ Q) X.xe s
def UnR (X : Cx) (f : Value → Sem Value) (r : V → Hp → VK → Prop) : Prop :=
  ∀ (pins : List (Addr × Obj)) (s : Shared) (σ : St) (H : Hp) (x : V) (v : Value) (Q : VK), Inv X pins σ H s → RelV x v → r x H Q →
    wpAny (model X.prog X.w) X.A (f v) (EP X pins σ Q) X.xe s
def CallR (X : Cx) (f : Value) (r : List V → Hp → VK → Prop) : Prop :=
  ∀ (pins : List (Addr × Obj)) (s : Shared) (σ : St) (H : Hp) (xs : List V) (us : List Value) (Q : VK), Inv X pins σ H s → Vals xs us → r xs H Q →
    wpAny (model X.prog X.w) X.A (call f us) (EP X pins σ Q) X.xe s
def TruR (X : Cx) (r : V → Hp → (Bool → Hp → Prop) → Prop) : Prop :=
  ∀ (pins : List (Addr × Obj)) (s : Shared) (σ : St) (H : Hp) (x : V) (v : Value) (Q : Bool → Hp → Prop), Inv X pins σ H s → RelV x v → r x H Q →
    wpAny (model X.prog X.w) X.A (truthy v) (TP X pins σ Q) X.xe s
def tOp (r : R2) (ta tb : TE) : TE := fun σ H Q => ta σ H fun x H1 => tb σ H1 fun y H2 => r x y H2 Q
def tUn (r : V → Hp → VK → Prop) (ta : TE) : TE := fun σ H Q => ta σ H fun x H1 => r x H1 Q
def rI (C : Int → Int → Prop) (g : Int → Int → V) : R2 := fun x y H Q => ∃ i j, x = .int i ∧ y = .int j ∧ C i j ∧ Q (g i j) H
def rI0 (g : Int → Int → V) : R2 := fun x y H Q => ∃ i j, x = .int i ∧ y = .int j ∧ Q (g i j) H
def rU (g : Int → V) : V → Hp → VK → Prop := fun x H Q => ∃ i, x = .int i ∧ Q (g i) H
section
variable {X : Cx} {a b c : Expr} {ta tb tc : TE} {pos : Pos}
theorem binT (ha : PE X a ta) (hb : PE X b tb) {pins : List (Addr × Obj)} {s : Shared} {σ : St} {H : Hp} {R : V → V → Hp → Prop} (I : Inv X pins σ H s)
    (h : ta σ H fun x H1 => tb σ H1 fun y H2 => R x y H2) {Q : Value → Shared → Prop} {f : Value → Value → Sem Value}
    (hf : ∀ v u s2 x y H2, Inv X pins σ H2 s2 → RelV x v → RelV y u → R x y H2 → wpAny (model X.prog X.w) X.A (f v u) Q X.xe s2) :
    wpAny (model X.prog X.w) X.A (eval a X.env) (fun v s₁ => wpAny (model X.prog X.w) X.A (eval b X.env) (fun u s₂ => wpAny (model X.prog X.w) X.A (f v u) Q X.xe s₂) X.xe s₁) X.xe s := by
  refine thn (ha pins s σ H _ I h) fun v s1 ⟨x, H1, I1, r1, q1⟩ => ?_
  refine thn (hb pins s1 σ H1 _ I1 q1) fun u s2 ⟨y, H2, I2, r2, q2⟩ => ?_
  exact hf v u s2 x y H2 I2 r1 r2 q2
theorem pe_op {op : Operator} {r : R2} (ho : OpR X (binaryOp op) r) (ha : PE X a ta) (hb : PE X b tb) : PE X (.BinOp a op b pos) (tOp r ta tb) := by
  intro pins s σ H Q I h
  exact wpAny_BinOp (binT ha hb I h fun v u s2 x y H2 I2 rx ry q => ho pins s2 σ H2 x y v u Q I2 rx ry q)
theorem pe_un {op : UnaryOp} {r : V → Hp → VK → Prop} (ho : UnR X (unaryOp op) r) (ha : PE X a ta) : PE X (.UnaryOp op a pos) (tUn r ta) := by
  intro pins s σ H Q I h
  exact UnaryOp_ (thn (ha pins s σ H _ I h) fun v s1 ⟨x, H1, I1, r1, q1⟩ => ho pins s1 σ H1 x v Q I1 r1 q1)
theorem opI {f : Value → Value → Sem Value} {C : Int → Int → Prop} {g : Int → Int → Int}
    (rule : ∀ (i j : Int) (t u : Tok) (s : Shared) (Q : Value → Shared → Prop) (E : Value → Shared → Prop), C i j → Q (.int (g i j) s.toks) { s with toks := s.toks + 1 } → wpAny (model X.prog X.w) X.A (f (.int i t) (.int j u)) Q E s) :
    OpR X f (rI C fun i j => .int (g i j)) := by
  intro pins s σ H x y v u Q I rx ry h
  obtain ⟨i, j, rfl, rfl, hc, q⟩ := h
  obtain ⟨t, rfl⟩ := rx
  obtain ⟨t', rfl⟩ := ry
  exact rule i j t t' s _ _ hc ⟨.int (g i j), H, I.tok _, ⟨_, rfl⟩, q⟩
theorem opI0 {f : Value → Value → Sem Value} {g : Int → Int → Int}
    (rule : ∀ (i j : Int) (t u : Tok) (s : Shared) (Q : Value → Shared → Prop) (E : Value → Shared → Prop), Q (.int (g i j) s.toks) { s with toks := s.toks + 1 } → wpAny (model X.prog X.w) X.A (f (.int i t) (.int j u)) Q E s) :
    OpR X f (rI0 fun i j => .int (g i j)) := by
  intro pins s σ H x y v u Q I rx ry h
  obtain ⟨i, j, rfl, rfl, q⟩ := h
  obtain ⟨t, rfl⟩ := rx
  obtain ⟨t', rfl⟩ := ry
  exact rule i j t t' s _ _ ⟨.int (g i j), H, I.tok _, ⟨_, rfl⟩, q⟩
theorem opB0 {f : Value → Value → Sem Value} {g : Int → Int → Bool}
    (rule : ∀ (i j : Int) (t u : Tok) (s : Shared) (Q : Value → Shared → Prop) (E : Value → Shared → Prop), Q (.bool (g i j)) s → wpAny (model X.prog X.w) X.A (f (.int i t) (.int j u)) Q E s) :
    OpR X f (rI0 fun i j => .bl (g i j)) := by
  intro pins s σ H x y v u Q I rx ry h
  obtain ⟨i, j, rfl, rfl, q⟩ := h
  obtain ⟨t, rfl⟩ := rx
  obtain ⟨t', rfl⟩ := ry
  exact rule i j t t' s _ _ ⟨.bl (g i j), H, I, rfl, q⟩
def CDiv (i j : Int) : Prop := 0 < j ∧ j < 1073741824
def CMul (i j : Int) : Prop := (-(2 ^ 64) < i ∧ i < 2 ^ 64) ∨ (-(2 ^ 64) < j ∧ j < 2 ^ 64)
theorem CMul.ok {i j : Int} (h : CMul i j) : IntMulOk i j := by
  rcases h with ⟨h1, h2⟩ | ⟨h1, h2⟩
  · exact .of_left (intBits_le_64 h1 h2)
  · exact .of_right (intBits_le_64 h1 h2)
theorem op_add : OpR X (binaryOp .Add) (rI0 fun i j => .int (i + j)) := opI0 fun _ _ _ _ _ _ _ q => add_int q
theorem op_sub : OpR X (binaryOp .Sub) (rI0 fun i j => .int (i - j)) := opI0 fun _ _ _ _ _ _ _ q => sub_int q
theorem op_fdiv : OpR X (binaryOp .FloorDiv) (rI CDiv fun i j => .int (i / j)) := opI fun i j _ _ _ _ _ hc q => by
  have h1 : (0 : Int) < j := hc.1
  have h2 : j < 1073741824 := hc.2
  exact floordiv_int (by omega) (by rw [Int.fdiv_eq_ediv_of_nonneg i (by omega)]; exact q) (.inl (PyProof.noPylong_small (by omega)))
theorem op_mod : OpR X (binaryOp .Mod) (rI (fun _ j => 0 < j) fun i j => .int (i % j)) := opI fun i j _ _ _ _ _ hc q => by
  have h1 : (0 : Int) < j := hc
  exact mod_int' (by omega) (by rw [Int.fmod_eq_emod_of_nonneg i (by omega)]; exact q)
theorem unI {f : Value → Sem Value} {g : Int → Int}
    (rule : ∀ (i : Int) (t : Tok) (s : Shared) (Q : Value → Shared → Prop) (E : Value → Shared → Prop), Q (.int (g i) s.toks) { s with toks := s.toks + 1 } → wpAny (model X.prog X.w) X.A (f (.int i t)) Q E s) :
    UnR X f (rU fun i => .int (g i)) := by
  intro pins s σ H x v Q I rx h
  obtain ⟨i, rfl, q⟩ := h
  obtain ⟨t, rfl⟩ := rx
  exact rule i t s _ _ ⟨.int (g i), H, I.tok _, ⟨_, rfl⟩, q⟩
theorem un_neg : UnR X (unaryOp .USub) (rU fun i => .int (-i)) := unI fun _ _ _ _ _ q => neg_int q
end
def scal : V → V → Bool
  | .non, .non => true | .non, .int _ => true | .int _, .non => true | .non, .bl _ => true | .bl _, .non => true | .non, .str _ => true | .str _, .non => true
  | .int _, .int _ => true | .bl _, .bl _ => true | .str _, .str _ => true | .byt _, .byt _ => true
  | .int _, .str _ => true | .str _, .int _ => true | .bl _, .str _ => true | .str _, .bl _ => true
  | _, _ => false
def rEq : R2 := fun x y H Q => scal x y = true ∧ Q (.bl (decide (x = y))) H
theorem dec_int {i j : Int} : decide (V.int i = V.int j) = (i == j) := by
  rw [Bool.eq_iff_iff]
  simp
theorem dec_bl {i j : Bool} : decide (V.bl i = V.bl j) = (i == j) := by
  rw [Bool.eq_iff_iff]
  simp
theorem dec_str {i j : Str} : decide (V.str i = V.str j) = (i == j) := by
  rw [Bool.eq_iff_iff]
  simp
theorem dec_byt {i j : Array UInt8} : decide (V.byt i = V.byt j) = (i.toList == j.toList) := by
  rw [Bool.eq_iff_iff]
  cases i
  cases j
  simp
section
variable {X : Cx} {a b c : Expr} {ta tb tc : TE} {pos : Pos}
theorem fin_bl {pins : List (Addr × Obj)} {σ : St} {H : Hp} {s : Shared} {Q : VK} {k k' : Bool} (I : Inv X pins σ H s) (q : Q (.bl k) H) (e : k = k') : EP X pins σ Q (.bool k') s := by
  subst e
  exact ⟨.bl k, H, I, rfl, q⟩
theorem op_eq : OpR X (compareOp .Eq) rEq := by
  intro pins s σ H x y v u Q I rx ry h
  obtain ⟨hs, q⟩ := h
  cases x with
  | non =>
    cases rx
    cases y with
    | non => cases ry; exact PySem.EqNone.eq_none_none (fin_bl I q (by simp))
    | bl j => cases ry; exact PySem.EqNone.eq_none_bool (fin_bl I q (by simp))
    | int j => obtain ⟨t', rfl⟩ := ry; exact PySem.EqNone.eq_none_int (fin_bl I q (by simp))
    | str j => obtain ⟨t', rfl⟩ := ry; exact PySem.EqNone.eq_none_str (fin_bl I q (by simp))
    | _ => exact absurd (show false = true from hs) Bool.false_ne_true
  | bl i =>
    cases rx
    cases y with
    | non => cases ry; exact PySem.EqNone.eq_bool_none (fin_bl I q (by simp))
    | bl j => cases ry; exact eq_bool (fin_bl I q dec_bl)
    | str j => obtain ⟨t', rfl⟩ := ry; exact PySem.EqMixed.eq_bool_str (fin_bl I q (by simp))
    | _ => exact absurd (show false = true from hs) Bool.false_ne_true
  | int i =>
    obtain ⟨t, rfl⟩ := rx
    cases y with
    | non => cases ry; exact PySem.EqNone.eq_int_none (fin_bl I q (by simp))
    | int j => obtain ⟨t', rfl⟩ := ry; exact eq_int (fin_bl I q dec_int)
    | str j => obtain ⟨t', rfl⟩ := ry; exact PySem.EqMixed.eq_int_str (fin_bl I q (by simp))
    | _ => exact absurd (show false = true from hs) Bool.false_ne_true
  | str i =>
    obtain ⟨t, rfl⟩ := rx
    cases y with
    | non => cases ry; exact PySem.EqNone.eq_str_none (fin_bl I q (by simp))
    | bl j => cases ry; exact PySem.EqMixed.eq_str_bool (fin_bl I q (by simp))
    | int j => obtain ⟨t', rfl⟩ := ry; exact PySem.EqMixed.eq_str_int (fin_bl I q (by simp))
    | str j => obtain ⟨t', rfl⟩ := ry; exact eq_str (fin_bl I q dec_str)
    | _ => exact absurd (show false = true from hs) Bool.false_ne_true
  | byt i =>
    obtain ⟨t, rfl⟩ := rx
    cases y with
    | byt j => obtain ⟨t', rfl⟩ := ry; exact PySem.W.eq_bytes (fin_bl I q dec_byt)
    | _ => exact absurd (show false = true from hs) Bool.false_ne_true
  | _ => cases y <;> exact absurd (show false = true from hs) Bool.false_ne_true
theorem op_gt : OpR X (compareOp .Gt) (rI0 fun i j => .bl (decide (j < i))) := opB0 fun _ _ _ _ _ _ _ q => gt_int q
theorem nomark (b : Expr) {op : CmpOp} (h : op ≠ .In := by decide) (h2 : op ≠ .NotIn := by decide) : behindInMarks op b = false := by
  have e1 : (op == CmpOp.In) = false := by cases op <;> first | rfl | exact absurd rfl h
  have e2 : (op == CmpOp.NotIn) = false := by cases op <;> first | rfl | exact absurd rfl h2
  cases b <;> simp [behindInMarks, e1, e2]
theorem pe_cmpR {op : CmpOp} {r : R2} (ho : OpR X (compareOp op) r) (ha : PE X a ta) (hb : PE X b tb) (hm : behindInMarks op b = false) : PE X (.Compare a [op] [b] pos) (tOp r ta tb) := by
  intro pins s σ H Q I h
  exact wpAny_Compare1 (binT ha hb I h fun v u s2 x y H2 I2 rx ry q => ho pins s2 σ H2 x y v u Q I2 rx ry q) hm
def tTest (t : TE) : TT := fun σ H Q => t σ H fun x H' => ∃ k, x = .bl k ∧ Q k H'
theorem pt_cmpR {op : CmpOp} {r : R2} (ho : OpR X (compareOp op) r) (ha : PE X a ta) (hb : PE X b tb) (hm : behindInMarks op b = false) : PT X (.Compare a [op] [b] pos) (tTest (tOp r ta tb)) := by
  intro pins s σ H Q I h
  refine wpAny_isTrue_Compare1 (thn (ha pins s σ H _ I h) fun v s1 ⟨x, H1, I1, r1, q1⟩ => thn (hb pins s1 σ H1 _ I1 q1) fun u s2 ⟨y, H2, I2, r2, q2⟩ =>
    thn (ho pins s2 σ H2 x y v u _ I2 r1 r2 q2) fun c s3 ⟨z, H3, I3, r3, k, e, q3⟩ => ?_) hm
  subst e
  cases r3
  exact wpAny_truthy_bool ⟨H3, I3, q3⟩
def TruV (K : PySem.W.Frag) (x : V) (H : Hp) (k : Bool) : Prop :=
  match x with
  | .non => k = false
  | .bl b => k = b
  | .int i => k = (i != 0)
  | .str y => y.length ≤ sizeLine ∧ k = ((y.length : Int) != 0)
  | .byt y => y.size ≤ sizeLine ∧ k = ((y.size : Int) != 0)
  | .ref p => (∃ xs, SqL K H p xs ∧ k = !xs.isEmpty) ∨ (∃ xs, SqT K H p xs ∧ k = !xs.isEmpty) ∨ ∃ kvs, H p = some (.dK kvs) ∧ k = !kvs.isEmpty
  | _ => False
theorem isEmpty_kv {κ : Type} {kvs : List (κ × V)} {vs : List (κ × Value)} (r : KV kvs vs) : (!vs.isEmpty) = !kvs.isEmpty := by
  cases r <;> rfl
theorem isEmpty_of {xs : List V} {its : List Value} (r : Vals xs its) : (!its.toArray.isEmpty) = !xs.isEmpty := by
  cases r <;> simp
theorem line63 : (sizeLine : Nat) < 2 ^ 63 := by rw [sizeLine_eq]; decide
theorem tru_ok : TruR X (fun x H Q => ∃ k, TruV X.K x H k ∧ Q k H) := by
  intro pins s σ H x v Q I rx h
  obtain ⟨k, e, q⟩ := h
  have hl := line63
  have hs : sizeLine = 16777216 := sizeLine_eq
  cases x with
  | non =>
    cases rx
    have e' : k = false := e
    subst e'
    exact truthy_none ⟨H, I, q⟩
  | bl b =>
    cases rx
    have e' : k = b := e
    subst e'
    exact wpAny_truthy_bool ⟨H, I, q⟩
  | int i =>
    obtain ⟨t, rfl⟩ := rx
    have e' : k = (i != 0) := e
    subst e'
    exact PySem.P.truthy_int ⟨H, I, q⟩
  | str y =>
    obtain ⟨t, rfl⟩ := rx
    obtain ⟨hy, e'⟩ : y.length ≤ sizeLine ∧ k = ((y.length : Int) != 0) := e
    subst e'
    exact PySem.P.truthy_str (by omega) ⟨H, I.tok _, q⟩
  | byt y =>
    obtain ⟨t, rfl⟩ := rx
    obtain ⟨hy, e'⟩ : y.size ≤ sizeLine ∧ k = ((y.size : Int) != 0) := e
    subst e'
    exact PySem.W.truthy_bytes (by omega) ⟨H, I.tok _, q⟩
  | ref p =>
    cases rx
    have e' : (∃ xs, SqL X.K H p xs ∧ k = !xs.isEmpty) ∨ (∃ xs, SqT X.K H p xs ∧ k = !xs.isEmpty) ∨ ∃ kvs, H p = some (.dK kvs) ∧ k = !kvs.isEmpty := e
    rcases e' with ⟨xs, hx, e'⟩ | ⟨xs, hx, e'⟩ | ⟨kvs, hx, e'⟩
    · subst e'
      obtain ⟨its, r, pl, hz⟩ := I.list hx
      have hlen := r.length
      exact wpAny_truthy_list pl.isList (by simp only [List.size_toArray]; omega) ⟨H, I.tok _, by rw [isEmpty_of r]; exact q⟩
    · subst e'
      obtain ⟨its, r, pl, hz⟩ := I.tuple hx
      have hlen := r.length
      exact truthy_tuple pl (by simp only [List.size_toArray]; omega) ⟨H, I.tok _, by rw [isEmpty_of r]; exact q⟩
    · subst e'
      obtain ⟨hz, hS, vs, r, m⟩ : kvs.length ≤ sizeLine ∧ (p == sysModules) = false ∧ ∃ vs, KV kvs vs ∧ s.heap.DictOf (mixKind X.prog X.w) p vs := I.hok p _ hx
      have hlen : kvs.length = vs.length := Paired.length r
      exact wpAny_truthy_dict hS m (by omega) ⟨H, I.tok _, by rw [isEmpty_kv r]; exact q⟩
  | _ => exact (show False from e).elim
theorem pt_truth (ha : PE X a ta) (he : ∀ whole, isTrue a X.env whole = (do let v ← whole; standAt a.pos; holding [v] (truthy v))) :
    PT X a (fun σ H Q => ta σ H fun x H' => ∃ k, TruV X.K x H' k ∧ Q k H') := by
  intro pins s σ H Q I h
  exact isTrue_plain (thn (ha pins s σ H _ I h) fun v s1 ⟨x, H1, I1, r1, q1⟩ => tru_ok pins s1 σ H1 x v Q I1 r1 q1) (he _)
theorem op_add_str : OpR X (binaryOp .Add) (fun x y H Q => ∃ i j, x = .str i ∧ y = .str j ∧ i.length + j.length ≤ sizeLine ∧ Q (.str (i ++ j)) H) := by
  intro pins s σ H x y v u Q I rx ry h
  obtain ⟨i, j, rfl, rfl, hz, q⟩ := h
  obtain ⟨t, rfl⟩ := rx
  obtain ⟨t', rfl⟩ := ry
  exact add_str (fun t' tk => ⟨.str (i ++ j), H, I.tok _, ⟨_, rfl⟩, q⟩) hz
theorem vals1 {x : V} {us : List Value} (r : Vals [x] us) : ∃ u, us = [u] ∧ RelV x u := by
  cases r with
  | cons r1 r2 => cases r2; exact ⟨_, rfl, r1⟩
theorem vals2 {x y : V} {us : List Value} (r : Vals [x, y] us) : ∃ u w', us = [u, w'] ∧ RelV x u ∧ RelV y w' := by
  cases r with
  | cons r1 r2 =>
    cases r2 with
    | cons r3 r4 => cases r4; exact ⟨_, _, rfl, r1, r3⟩
def LenV (K : PySem.W.Frag) (x : V) (H : Hp) (n : Nat) : Prop :=
  match x with
  | .str y => y.length ≤ sizeLine ∧ n = y.length
  | .byt y => y.size ≤ sizeLine ∧ n = y.size
  | .ref p => (∃ xs, SqL K H p xs ∧ n = xs.length) ∨ ∃ xs, SqT K H p xs ∧ n = xs.length
  | _ => False
theorem call_len : CallR X (.builtin "len") (fun xs H Q => ∃ x n, xs = [x] ∧ LenV X.K x H n ∧ Q (.int n) H) := by
  intro pins s σ H xs us Q I r h
  obtain ⟨x, n, rfl, e, q⟩ := h
  obtain ⟨u, rfl, rx⟩ := vals1 r
  have hl := line63
  have hs : sizeLine = 16777216 := sizeLine_eq
  cases x with
  | str y =>
    obtain ⟨t, rfl⟩ := rx
    obtain ⟨hy, e'⟩ : y.length ≤ sizeLine ∧ n = y.length := e
    subst e'
    exact len_str (by omega) ⟨.int _, H, I.tok _, ⟨_, rfl⟩, q⟩
  | byt y =>
    obtain ⟨t, rfl⟩ := rx
    obtain ⟨hy, e'⟩ : y.size ≤ sizeLine ∧ n = y.size := e
    subst e'
    exact PySem.W.len_bytes (by omega) ⟨.int _, H, I.tok _, ⟨_, rfl⟩, q⟩
  | ref p =>
    cases rx
    have e' : (∃ xs, SqL X.K H p xs ∧ n = xs.length) ∨ ∃ xs, SqT X.K H p xs ∧ n = xs.length := e
    rcases e' with ⟨xs, hx, e'⟩ | ⟨xs, hx, e'⟩
    · subst e'
      obtain ⟨its, r', pl, hz⟩ := I.list hx
      have hlen := r'.length
      exact Calls.call_len_list pl.isList (by simp only [List.size_toArray]; omega) ⟨.int xs.length, H, I.tok _, ⟨_, by simp only [List.size_toArray]; rw [hlen]⟩, q⟩
    · subst e'
      obtain ⟨its, r', pl, hz⟩ := I.tuple hx
      have hlen := r'.length
      exact len_tuple pl (by simp only [List.size_toArray]; omega) ⟨.int xs.length, H, I.tok _, ⟨_, by simp only [List.size_toArray]; rw [hlen]⟩, q⟩
  | _ => exact (show False from e).elim
end
end L2
namespace L2
open PySem PySem.Spec PyProof.Rows
structure ObjM (h : Heap) (x dx C : Addr) (mA : Str → Option Value) : Prop where
  obj : h.get? x = some (PySem.W.instObj C dx)
  ns : h.Ns1 dx mA
  ne : dx ≠ x
theorem lookIn_ns {h : Heap} {dx : Addr} {mA : Str → Option Value} (n : h.Ns1 dx mA) : ∃ od, h.get? dx = some od ∧ ∀ name, PySem.W.lookIn name od = some (mA name) := by
  obtain ⟨o, es, ep, ho, hd, hk, _, hm⟩ := n
  refine ⟨o, ho, fun name => ?_⟩
  have e := hm name
  unfold nsFind findBy at e
  rw [← Array.find?_toList] at e
  unfold PySem.W.lookIn
  rw [hd]
  dsimp only
  split
  · rename_i y q
    rw [q] at e
    exact congrArg some e
  · rename_i q
    rw [q] at e
    have a : es.toList.any (·.refKey) = false := by
      rw [List.any_eq_false]
      intro y hy
      obtain ⟨z, t, hkey⟩ := hk y (Array.mem_toList_iff.mp hy)
      simp [DictEntry.refKey, hkey]
    have a' : ¬ es.toList.any (·.refKey) = true := by rw [a]; exact Bool.false_ne_true
    rw [if_neg a']
    exact congrArg some e
theorem ObjM.look {h : Heap} {x dx C : Addr} {mA : Str → Option Value} (I : ObjM h x dx C mA) : ∃ od, PySem.W.InstAt h x (PySem.W.instObj C dx) C (some od) ∧ ∀ name, PySem.W.lookIn name od = some (mA name) :=
  let ⟨od, ho, hl⟩ := lookIn_ns I.ns
  ⟨od, ⟨I.obj, rfl, rfl, ho⟩, hl⟩
section
variable {prog : Program} {w : World} {A : Around} {E : Value → Shared → Prop} {s : Shared} {K : PySem.W.Frag} {x dx C f : Addr} {mA : Str → Option Value} {name : Str} {v : Value}
end
def putF (f : Str) (v : V) : List (Str × V) → List (Str × V)
  | [] => [(f, v)]
  | (g, x) :: r => if g = f then (g, v) :: r else (g, x) :: putF f v r
section
variable {P : Program} {w : World} {H H' : Hp} {h h' : Heap} {a C dx : Addr} {fs fs' : List (Str × V)}
theorem ins_get (hok : HOk P w H h) (e : H a = some (.ins C dx fs)) : ∃ mA, ObjM h a dx C mA ∧ (∀ f, RelO (fs.lookup f) (mA f)) ∧ PySem.Within mA (fs.map (·.1)) ∧ fs.length ≤ 1000 ∧ H dx = some (.own a) := by
  obtain ⟨d, z, ne, ob, mA, n, r, q⟩ := (show ObjOk P w H h a (.ins C dx fs) from hok a _ e)
  exact ⟨mA, ⟨ob, n, ne⟩, r, q, z, d⟩
end
structure Cls (K : PySem.W.Frag) (C : Addr) : Prop where
  pg : PySem.W.plainGet K C Str.empty = true
  hd : PySem.W.hasDictIn K C = true
  po : PySem.W.plainOver K C = true
  sa : PySem.W.findIn K (.ref C) "__setattr__" = some (some (.builtin "object.__setattr__"))
theorem Cls.get {K : PySem.W.Frag} {C : Addr} (c : Cls K C) (f : Str) : PySem.W.plainGet K C f = true := c.pg
section
variable {X : Cx} {pins : List (Addr × Obj)} {σ : St} {H : Hp} {s : Shared} {a C dx : Addr} {fs : List (Str × V)} {f : Str} {v : V} {A : Around} {E : Value → Shared → Prop}
end
section
variable {X : Cx} {o e value : Expr} {f : Str} {pos pos' tpos : Pos} {ta tv : TE}
end
section
variable {X : Cx} {pins : List (Addr × Obj)} {σ : St} {H : Hp} {s : Shared} {A : Around} {E : Value → Shared → Prop} {Q : Value → Shared → Prop} {c : Value} {b : Bool}
inductive TyOf (K : PySem.W.Frag) (H : Hp) : V → Value → Prop where
  | non : TyOf K H .non (.type "NoneType")
  | bl (x : Bool) : TyOf K H (.bl x) (.type "bool")
  | int (i : Int) : TyOf K H (.int i) (.type "int")
  | str (x : Str) : TyOf K H (.str x) (.type "str")
  | flt (x : UInt64) : TyOf K H (.flt x) (.type "float")
  | lst {a : Addr} {xs : List V} (e : H a = some (.lst xs)) : TyOf K H (.ref a) (.type "list")
  | frz {a : Addr} {o : Obj} {xs : List V} (e : H a = some (.frz o (.lst xs))) : TyOf K H (.ref a) (.type "list")
  | tup {a : Addr} {xs : List V} (e : H a = some (.tup xs)) : TyOf K H (.ref a) (.type "tuple")
  | dK {a : Addr} {kvs : List (Key × V)} (e : H a = some (.dK kvs)) : TyOf K H (.ref a) (.type "dict")
  | dT {a : Addr} {kvs : List (List Key × V)} (e : H a = some (.dT kvs)) : TyOf K H (.ref a) (.type "dict")
  | ins {a C dx : Addr} {fs : List (Str × V)} (e : H a = some (.ins C dx fs)) (cl : Cls K C) (ha : PySem.W.findIn K (.ref C) "__class__" = some (some (.builtin "object.__class__")))
      (hn : PySem.W.specialIn K (.builtin "object.__class__") "__get__" = some (some (.builtin "getset_descriptor.__get__"))) (htk : PySem.W.takesIn K (.builtin "object.__class__") = some true)
      (hm : PySem.W.mroIn K C (.type "object") = some true) : TyOf K H (.ref a) (.ref C)
theorem isinst_ok {x : V} {u t : Value} (I : Inv X pins σ H s) (rx : RelV x u) (ty : TyOf X.K H x t) (e : PySem.W.kitOne X.K t c = some b) (h : ∀ tk, Q (.bool b) { s with toks := tk }) :
    wpAny (model X.prog X.w) A (call (.builtin "isinstance") [u, c]) Q E s := by
  cases ty with
  | non => cases (show u = Value.none from rx); exact PySem.W.kia_one PySem.W.kitx_none I.kIn True.intro e (fun z => nomatch z) h
  | bl y => cases (show u = Value.bool y from rx); exact PySem.W.kia_one PySem.W.kitx_bool I.kIn True.intro e (fun z => nomatch z) h
  | int i => obtain ⟨t, q⟩ := (show ∃ t, u = Value.int i t from rx); cases q; exact PySem.W.kia_one PySem.W.kitx_int I.kIn True.intro e (fun z => nomatch z) h
  | str y => obtain ⟨t, q⟩ := (show ∃ t, u = Value.str y t from rx); cases q; exact PySem.W.kia_one PySem.W.kitx_str I.kIn True.intro e (fun z => nomatch z) h
  | flt y => obtain ⟨t, q⟩ := (show ∃ t, u = Value.float y t from rx); cases q; exact PySem.W.kia_one PySem.W.kitx_float I.kIn True.intro e (fun z => nomatch z) h
  | @lst a xs ea =>
    cases (show u = Value.ref a from rx)
    obtain ⟨_, _, n, _, h1⟩ := (show ObjOk X.prog X.w H s.heap a (.lst xs) from I.hok a _ ea)
    exact PySem.W.kia_one PySem.W.kitx_list I.kIn ⟨_, h1, rfl⟩ e (fun z => nomatch z) h
  | @frz a ob xs ea =>
    cases (show u = Value.ref a from rx)
    obtain ⟨_, _, _, n, _, h1⟩ := (show ObjOk X.prog X.w H s.heap a (.frz ob (.lst xs)) from I.hok a _ ea)
    exact PySem.W.kia_one PySem.W.kitx_list I.kIn ⟨_, h1, rfl⟩ e (fun z => nomatch z) h
  | @tup a xs ea =>
    cases (show u = Value.ref a from rx)
    obtain ⟨_, _, _, p⟩ := (show ObjOk X.prog X.w H s.heap a (.tup xs) from I.hok a _ ea)
    obtain ⟨o, h1, h2, _⟩ := p
    exact PySem.W.kia_one PySem.W.kitx_tuple I.kIn ⟨o, h1, h2⟩ e (fun z => nomatch z) h
  | @dK a kvs ea =>
    cases (show u = Value.ref a from rx)
    obtain ⟨_, _, vs, _, p⟩ := (show ObjOk X.prog X.w H s.heap a (.dK kvs) from I.hok a _ ea)
    obtain ⟨o, es, ep, h1, h2, _⟩ := p
    exact PySem.W.kia_one PySem.W.kitx_dict I.kIn ⟨o, h1, h2.1⟩ e (fun z => nomatch z) h
  | @dT a kvs ea =>
    cases (show u = Value.ref a from rx)
    obtain ⟨_, _, xs, _, o, es, ep, h1, h2, _⟩ := (show ObjOk X.prog X.w H s.heap a (.dT kvs) from I.hok a _ ea)
    exact PySem.W.kia_one PySem.W.kitx_dict I.kIn ⟨o, h1, h2.1⟩ e (fun z => nomatch z) h
  | @ins a C dx fs ea cl ha hn htk hm =>
    cases (show u = Value.ref a from rx)
    obtain ⟨mA, O, _⟩ := ins_get I.hok ea
    obtain ⟨od, J, _⟩ := O.look
    exact PySem.W.kia_one (PySem.W.kitx_own (cl.get _) cl.hd ha hn htk hm) I.kIn J e (fun z => nomatch z) h
end
end L2
namespace L2
open PySem PySem.Spec PyProof.Rows
structure Room (k : Nat) (A : Around) : Prop where
  hd : A.handled = none
  dp : A.depth + 3 * k + 5 < recursionLimit
  un : A.units + 16 * k + 200 < cLine
theorem Room.mono {j k : Nat} {A : Around} (r : Room k A) (h : j ≤ k) : Room j A := ⟨r.hd, by have := r.dp; omega, by have := r.un; omega⟩
theorem Room.deeper {k : Nat} {A : Around} (r : Room (k + 1) A) (env : Env) : Room k (A.deeper env) :=
  ⟨r.hd, by have := r.dp; show A.depth + 1 + 3 * k + 5 < _; omega, by have := r.un; show A.units + 3 + 16 * k + 200 < _; omega⟩
theorem Room.depth {k : Nat} {A : Around} (r : Room k A) : A.depth < recursionLimit := by have := r.dp; omega
theorem Room.units {k : Nat} {A : Around} (r : Room k A) : A.units + 64 < cLine := by have := r.un; omega
def tNil : TA := fun _ H Q => Q [] H
def tCons (ta : TE) (tr : TA) : TA := fun σ H Q => ta σ H fun x H1 => tr σ H1 fun xs H2 => Q (x :: xs) H2
section
variable {X : Cx} {e : Expr} {es : List Expr} {te : TE} {t : TA} {pos : Pos}
theorem pa_nil : PA X [] tNil := fun _ _ _ _ H Q I h => Calls.spliced_nil ⟨[], H, I, .nil, h⟩
theorem pa_cons (ha : PE X e te) (hr : PA X es t) (hs : starEach (e :: es) X.env = (false, eval e X.env) :: starEach es X.env := by rfl) : PA X (e :: es) (tCons te t) := by
  intro pos pins s σ H Q I h
  rw [hs]
  show wpAny _ _ (spliced ((false, eval e X.env) :: backTo pos (starEach es X.env))) _ _ s
  refine Calls.spliced_cons (thn (ha pins s σ H _ I h) fun u s1 ⟨x, H1, I1, r1, q1⟩ => ?_)
  exact thn (hr pos pins s1 σ H1 _ I1 q1) fun us s2 ⟨xs, H2, I2, r2, q2⟩ => ⟨x :: xs, H2, I2, .cons r1 r2, q2⟩
end
abbrev Sp := List V → Hp → VK → XK → Prop
abbrev CXT := List Env → Hp → Shared → XK → Value → Shared → Prop
structure Env0 (P : Program) (w : World) (K : PySem.W.Frag) (mg : Str → Option Value) (base : Heap) (A : Around) (outer : List Env) (s : Shared) (H : Hp) : Prop where
  frames : A.frames = some outer
  mod : Mod K mg base
  bs : ∀ b o, base.get? b = some o → s.heap.get? b = some o ∧ H b = none
  bsz : base.objs.size ≤ s.heap.objs.size
  funs : s.heap.FunFrames base outer
  frf : ∀ b ∈ frs outer, H b = none
  hok : HOk P w H s.heap
  bare : AllBare s.gens
def CE (outer : List Env) (P : Program) (w : World) (H : Hp) (s : Shared) (Q : VK) (u : Value) (s' : Shared) : Prop :=
  ∃ v H', s'.os = s.os ∧ AllBare s'.gens ∧ Un (frs outer) [] H H' s.heap s'.heap ∧ HOk P w H' s'.heap ∧ RelV v u ∧ Q v H'
def CR (CX : CXT) (outer : List Env) (P : Program) (w : World) (H : Hp) (s : Shared) (Q : VK) (E : XK) (r : Result) (s' : Shared) : Prop :=
  match r with
  | .ok (.ret u) => CE outer P w H s Q u s'
  | .ok _ => False
  | .error e => CX outer H s E e s'
structure FnOk (P : Program) (w : World) (K : PySem.W.Frag) (mg : Str → Option Value) (base : Heap) (CX : CXT) (k : Nat) (f : Addr) (fd : FuncData) (ps : List Str) (sp : Sp) : Prop where
  len : ∀ vs H Q E, sp vs H Q E → vs.length = ps.length
  run : ∀ (A : Around) (outer : List Env) (s : Shared) (H : Hp) (args : Args) (us : List Value) (vs : List V) (Q : VK) (E : XK), Room k A → Env0 P w K mg base A outer s H → BindsTo s fd args (ps.zip us) → Vals vs us → sp vs H Q E →
    codeAny (model P w) A (.call (.ref f) args) (CR CX outer P w H s Q E) s
section
variable {X : Cx} {pins : List (Addr × Obj)} {σ : St} {H : Hp} {s s' : Shared}
theorem Inv.env0 (I : Inv X pins σ H s) : Env0 X.prog X.w X.K X.mg X.base X.A X.stack s H :=
  ⟨I.ok.frames, I.ok.mod, I.bs, Nat.le_trans I.ok.bsz I.sz, I.stack, I.stkFree, I.hok, I.bare⟩
theorem Inv.after {Q : VK} {u : Value} (I : Inv X pins σ H s) (h : CE X.stack X.prog X.w H s Q u s') : EP X pins σ Q u s' := by
  obtain ⟨v, H', os, bare, un, hok, r, q⟩ := h
  obtain ⟨hh, g, d, t, os'⟩ := s'
  obtain rfl : os' = s.os := os
  exact ⟨v, H', I.call (h' := hh) (g' := g) (d' := d) (t' := t) (ch := []) un hok bare (fun b z => absurd z (by simp)), r, q⟩
end
def tCall (sp : Sp) (dvs : List V) (E : XK) (t : TA) : TE := fun σ H Q => t σ H fun vs H1 => sp (vs ++ dvs) H1 Q E
def Binds (K : PySem.W.Frag) (fd : FuncData) (ps : List Str) (ds : List Value) : Prop :=
  ∀ (s : Shared) (us : List Value), K.In s.heap → (us ++ ds).length = ps.length → BindsTo s fd ⟨us, []⟩ (ps.zip (us ++ ds))
theorem Binds.all {K : PySem.W.Frag} {fd : FuncData} {ps : List Str} (h : ∀ us : List Value, us.length = ps.length → bindArgs fd ⟨us, []⟩ = pure (ps.zip us)) : Binds K fd ps [] := fun s us _ hl => by
  rw [List.append_nil] at hl ⊢
  exact .of_eq (h us hl)
def Passes (CX : CXT) (X : Cx) (E : XK) : Prop := ∀ (pins : List (Addr × Obj)) (σ : St) (H : Hp) (s : Shared) (e : Value) (s' : Shared), Inv X pins σ H s → CX X.stack H s E e s' → X.xe e s'
section
variable {X : Cx} {CX : CXT} {k : Nat} {f C : Addr} {fd : FuncData} {ps : List Str} {sp : Sp} {dvs : List V} {ds : List Value} {E : XK} {x m : Str} {p pos apos : Pos} {e o : Expr} {es : List Expr} {ta : TE} {t : TA}
theorem run_fn {pins : List (Addr × Obj)} {σ : St} {H : Hp} {s : Shared} {Q : VK} {us : List Value} {vs : List V} (F : FnOk X.prog X.w X.K X.mg X.base CX k f fd ps sp) (hr : Room k X.A) (hb : Binds X.K fd ps ds) (hd : Vals dvs ds) (hx : Passes CX X E)
    (I : Inv X pins σ H s) (r : Vals vs us) (h : sp (vs ++ dvs) H Q E) : wpAny (model X.prog X.w) X.A (call (.ref f) us) (EP X pins σ Q) X.xe s := by
  have r2 : Vals (vs ++ dvs) (us ++ ds) := r.append hd
  have hl : (us ++ ds).length = ps.length := by rw [← r2.length]; exact F.len _ _ _ _ h
  refine wpAny_call (codeAny_mono (F.run X.A X.stack s H ⟨us, []⟩ (us ++ ds) (vs ++ dvs) Q E hr I.env0 (hb s us I.kIn hl) r2 h) fun r s' hq => ?_)
  cases r with
  | error e => exact hx pins σ H s e s' I hq
  | ok fl =>
    cases fl with
    | ret u => exact I.after hq
    | next => exact False.elim hq
    | brk => exact False.elim hq
    | cont => exact False.elim hq
theorem pe_call (F : FnOk X.prog X.w X.K X.mg X.base CX k f fd ps sp) (hr : Room k X.A) (hg : Gl X x) (hm : X.mg x = some (.ref f)) (hk : PySem.W.keepIn X.K (.ref f) = true) (hb : Binds X.K fd ps ds) (hd : Vals dvs ds) (hx : Passes CX X E)
    (ha : PA X (e :: es) t) (hdb : (x == ("__debug__" : Str)) = false := by decide) (he : starEach (e :: es) X.env = (false, eval e X.env) :: starEach es X.env := by rfl) (hpl : (backTo pos (starEach es X.env)).any (·.1) = false := by rfl) :
    PE X (.Call (.Name x p) (e :: es) [] pos) (tCall sp dvs E t) := by
  intro pins s σ H Q I h
  refine wpAny_Call_Name_kw (ld_glob I hg hm ?_ hdb)
  refine PySem.W.callWith_K (h₀ := X.base) I.ok.mod.kin hk (thn (ha pos pins s σ H _ I h) fun us s1 ⟨vs, H1, I1, r, q⟩ => ⟨I1.kIn, ?_⟩) he hpl
  exact run_fn F hr hb hd hx I1 r q
theorem pe_call0 (F : FnOk X.prog X.w X.K X.mg X.base CX k f fd ps sp) (hr : Room k X.A) (hg : Gl X x) (hm : X.mg x = some (.ref f)) (hk : PySem.W.keepIn X.K (.ref f) = true) (hb : Binds X.K fd ps ds) (hd : Vals dvs ds) (hx : Passes CX X E)
    (hdb : (x == ("__debug__" : Str)) = false := by decide) : PE X (.Call (.Name x p) [] [] pos) (tCall sp dvs E tNil) := by
  intro pins s σ H Q I h
  refine wpAny_Call_Name_kw (ld_glob I hg hm ?_ hdb)
  exact PySem.W.callWith_K0 I.kIn hk (run_fn (us := []) F hr hb hd hx I .nil h)
end
section
variable {X : Cx} {CX : CXT} {k : Nat} {f C : Addr} {fd : FuncData} {ps ks : List Str} {sp : Sp} {E : XK} {x m : Str} {p pos apos kpos : Pos} {e o : Expr} {es : List Expr} {kws : List Keyword} {te ta : TE} {t tk : TA} {nm : Option Str}
variable {g : List Value → List Value → List Value} {gV : List V → List V → List V}
end
structure FnScope (N P : List Str) (sc : Scope) : Prop where
  kind : sc.kind = .function
  co : sc.isCoroutine = false
  gen : sc.isGenerator = false
  nd : N.Nodup
  pre : N.take P.length = P
  par : ∀ x ∈ P, sc.names.lookup x = some .local ∨ sc.names.lookup x = some .cell
  nofree : ∀ y ∈ sc.names, y.2 ≠ .free
theorem bindL_out {kindOf : Str → Option NameKind} {x : Str} : ∀ {binds : List (Str × Value)} {m : Str → Option Value}, (∀ v, (x, v) ∉ binds) → bindL kindOf binds m x = m x
  | [], _, _ => rfl
  | (n, v) :: r, m, h => by
    unfold bindL
    rw [bindL_out fun w hw => h w (List.mem_cons_of_mem _ hw)]
    split
    · have : x ≠ n := by rintro rfl; exact h v List.mem_cons_self
      simp [this]
    · rfl
theorem bindC_out {kindOf : Str → Option NameKind} {x : Str} : ∀ {binds : List (Str × Value)} {m : Str → Option Value}, (∀ v, (x, v) ∉ binds) → bindC kindOf binds m x = m x
  | [], _, _ => rfl
  | (n, v) :: r, m, h => by
    unfold bindC
    rw [bindC_out fun w hw => h w (List.mem_cons_of_mem _ hw)]
    split
    · rfl
    · have : x ≠ n := by rintro rfl; exact h v List.mem_cons_self
      simp [this]
theorem bindL_get {kindOf : Str → Option NameKind} {x : Str} {v : Value} : ∀ {P : List Str} {vs : List Value} {i : Nat} {m : Str → Option Value}, P.Nodup → P[i]? = some x → vs[i]? = some v → kindOf x = some .local →
    bindL kindOf (P.zip vs) m x = some v
  | [], _, _, _, _, h, _, _ => by simp at h
  | _ :: _, [], _, _, _, _, h, _ => by simp at h
  | p :: P, w :: vs, 0, m, nd, h1, h2, hk => by
    simp at h1 h2; subst h1; subst h2
    show bindL kindOf ((p, w) :: P.zip vs) m p = _
    unfold bindL
    rw [bindL_out fun v hv => (List.nodup_cons.mp nd).1 (List.of_mem_zip hv).1, if_pos hk]
    simp
  | p :: P, w :: vs, i + 1, m, nd, h1, h2, hk => by
    show bindL kindOf ((p, w) :: P.zip vs) m x = _
    unfold bindL
    exact bindL_get (i := i) (List.nodup_cons.mp nd).2 (by simpa using h1) (by simpa using h2) hk
theorem bindC_get {kindOf : Str → Option NameKind} {x : Str} {v : Value} : ∀ {P : List Str} {vs : List Value} {i : Nat} {m : Str → Option Value}, P.Nodup → P[i]? = some x → vs[i]? = some v → kindOf x ≠ some .local →
    bindC kindOf (P.zip vs) m x = some v
  | [], _, _, _, _, h, _, _ => by simp at h
  | _ :: _, [], _, _, _, _, h, _ => by simp at h
  | p :: P, w :: vs, 0, m, nd, h1, h2, hk => by
    simp at h1 h2; subst h1; subst h2
    show bindC kindOf ((p, w) :: P.zip vs) m p = _
    unfold bindC
    rw [bindC_out fun v hv => (List.nodup_cons.mp nd).1 (List.of_mem_zip hv).1, if_neg hk]
    simp
  | p :: P, w :: vs, i + 1, m, nd, h1, h2, hk => by
    show bindC kindOf ((p, w) :: P.zip vs) m x = _
    unfold bindC
    exact bindC_get (i := i) (List.nodup_cons.mp nd).2 (by simpa using h1) (by simpa using h2) hk
def start (N : List Str) (vs : List V) : St := vs.map some ++ List.replicate (N.length - vs.length) none
def cxOf (CX : CXT) (P : Program) (w : World) (K : PySem.W.Frag) (mg : Str → Option Value) (base : Heap) (N : List Str) (qual : Str) (scope : Scope) (f : Addr) (cd : Value) (A : Around) (outer : List Env) (s : Shared) (H : Hp) (E : XK) : Cx where
  prog := P
  w := w
  K := K
  mg := mg
  base := base
  A := A.deeper (envOfC qual scope s.heap.objs.size f cd)
  N := N
  s₀ := s
  H₀ := H
  env := envOfC qual scope s.heap.objs.size f cd
  outer := outer
  stack := envOfC qual scope s.heap.objs.size f cd :: outer
  ex := []
  calm := true
  fn := fun _ => true
  pn := []
  xe := fun e s' => wpAny (model P w) (A.deeper (envOfC qual scope s.heap.objs.size f cd)) (leaving (envOfC qual scope s.heap.objs.size f cd) e) (fun _ s'' => CX outer H s E e s'') (fun e' s'' => CX outer H s E e' s'') s'
theorem cell_has {sc : Scope} {n : Nat} {x : Str} (h : sc.names.lookup x = some .cell) : ∃ c, (cellsFrom n sc.names []).lookup x = some c := by
  have q := PySem.W.cellsFrom_some sc.names n [] (.inl h)
  exact Option.isSome_iff_exists.mp q
theorem inv_start {CX : CXT} {P : Program} {w : World} {K : PySem.W.Frag} {mg : Str → Option Value} {base : Heap} {N ps : List Str} {qual : Str} {scope : Scope} {f : Addr} {cd : Value} {A : Around} {outer : List Env} {s s1 : Shared} {H : Hp} {E : XK} {us : List Value} {vs : List V}
    (S : FnScope N ps scope) (hd : A.handled = none) (e0 : Env0 P w K mg base A outer s H) (hl : vs.length = ps.length) (r : Vals vs us)
    (x : InCallC s s.heap.objs.size (bindL (envOfC qual scope s.heap.objs.size f cd).kindOf (ps.zip us) fun _ => none) (cellsFrom (s.heap.objs.size + 1) scope.names []) (bindC (envOfC qual scope s.heap.objs.size f cd).kindOf (ps.zip us) fun _ => none) s1) :
    Inv (cxOf CX P w K mg base N qual scope f cd A outer s H E) [] (start N vs) H s1 := by
  have hpl : ps.length ≤ N.length := by have := congrArg List.length S.pre; rw [List.length_take] at this; omega
  obtain ⟨h1, tk, rfl, hk⟩ := x.done
  have noA : ∀ b : Addr, b ∉ (cxOf CX P w K mg base N qual scope f cd A outer s H E).ex := fun b z => absurd (show b ∈ ([] : List Addr) from z) (by simp)
  refine ⟨⟨e0.mod, S.kind, rfl, rfl, Nat.le_refl _, fun y z c h1 h2 => ?_, fun y hy => ?_, fun y c _ h => ?_, fun _ => hd, Around.frames_deeper e0.frames, .inr ⟨rfl, rfl⟩, fun b z => absurd z (noA b), e0.bs, e0.bsz, fun b _ _ => noA b, fun b z => absurd z (noA b), e0.funs, e0.frf⟩,
    rfl, e0.bare, Un.kept hk, ⟨_, x.toInCall.ns, fun i y v h1 h2 h3 => ?_⟩, fun y c h => ⟨_, x.cell y c h⟩, e0.hok.fresh (Nat.le_refl _), fun y c h => ?_, fun p hp => absurd (show p ∈ ([] : List (Addr × Obj)) from hp) (by simp), e0.hok.kept hk, ?_⟩
  · exact name_of_addr x.apart (PySem.mem_of_lookup h1) (PySem.mem_of_lookup h2)
  · have hy : scope.names.lookup y = some .cell ∨ scope.names.lookup y = some .free := hy
    rcases hy with hy | hy
    · exact cell_has hy
    · exact absurd rfl (S.nofree _ (PySem.mem_of_lookup hy))
  · exact Nat.le_of_lt (x.above y c (PySem.mem_of_lookup h))
  · have hi : i < vs.length := by
      unfold start at h2
      by_cases hi : i < vs.length
      · exact hi
      · rw [List.getElem?_append_right (by simpa using hi)] at h2
        rw [List.getElem?_replicate] at h2
        split at h2 <;> cases h2
    have ha : vs[i]? = some v := by
      unfold start at h2
      rw [List.getElem?_append_left (by simpa using hi), List.getElem?_map] at h2
      cases e : vs[i]? with
      | none => rw [e] at h2; cases h2
      | some a => rw [e] at h2; cases h2; rfl
    obtain ⟨u, hu, rv⟩ := r.get ha
    have hp : ps[i]? = some y := by
      rw [← S.pre, List.getElem?_take_of_lt (by omega)]; exact h1
    have ndP : ps.Nodup := by rw [← S.pre]; exact S.nd.sublist (List.take_sublist _ _)
    refine ⟨u, rv, ?_⟩
    rcases S.par y (List.mem_of_getElem? hp) with k | k
    · exact .inl ⟨k, bindL_get ndP hp hu k⟩
    · obtain ⟨c, e⟩ := cell_has (n := s.heap.objs.size + 1) k
      refine .inr ⟨.inl k, c, e, ?_⟩
      have q := x.cell y c e
      rw [bindC_get ndP hp hu (by show scope.names.lookup y ≠ _; rw [k]; decide)] at q
      exact q
  · exact e0.hok.fresh (Nat.le_of_lt (x.above y c (PySem.mem_of_lookup h)))
  · unfold start
    show _ = N.length
    rw [List.length_append, List.length_map, List.length_replicate]
    omega
theorem fn_of {CX : CXT} {P : Program} {w : World} {K : PySem.W.Frag} {mg : Str → Option Value} {base : Heap} {k : Nat} {f : Addr} {name qual : Str} {params : Arguments} {body : List Stmt} {scope : Scope} {dV kV doc pm cdv ct oc : Value} {an od : Option Addr}
    {osl : Array (Option Value)} {N ps : List Str} {sp : Sp} (lk : K.lookup f = some ⟨oc, od, .func (PySem.W.fnOf name qual params body scope dV kV doc pm an cdv ct), osl⟩) (hcd : PySem.W.codeIn K cdv qual = true) (S : FnScope N ps scope)
    (len : ∀ vs H Q E, sp vs H Q E → vs.length = ps.length)
    (hbody : ∀ (A : Around) (outer : List Env) (s : Shared) (H : Hp) (vs : List V) (Q : VK) (E : XK), Room k (A.deeper (envOfC qual scope s.heap.objs.size f cdv)) → sp vs H Q E →
      ∃ t, PSs (cxOf CX P w K mg base N qual scope f cdv A outer s H E) body t ∧ t { nx := fun _ H' => Q .non H', rt := Q } (start N vs) H) :
    FnOk P w K mg base CX (k + 1) f (PySem.W.fnOf name qual params body scope dV kV doc pm an cdv ct) ps sp := by
  refine ⟨len, fun A outer s H args us vs Q E hr e0 hb r hsp => ?_⟩
  have hl := len _ _ _ _ hsp
  have KX : K.In s.heap := e0.mod.kin.keeps fun b o e => (e0.bs b o e).1
  have lim : s.heap.NoLimit := e0.mod.nolimit.keeps fun b o e => (e0.bs b o e).1
  have hkind : ∀ y ∈ ps.zip us, scope.names.lookup y.1 = some .local ∨ (scope.names.lookup y.1 = some .cell ∧ ((cellsFrom (s.heap.objs.size + 1) scope.names []).lookup y.1).isSome = true) := fun ⟨n, v⟩ hy => by
    rcases S.par n (List.of_mem_zip hy).1 with q | q
    · exact .inl q
    · exact .inr ⟨q, PySem.W.cellsFrom_some _ _ _ (.inl q)⟩
  refine codeAny_call_function hr.depth (KX _ _ lk) rfl S.co S.gen rfl (PySem.W.codeRec_of KX hcd) (hb _ _ _ _ ?_)
  refine wpAny_newFunctionEnv_cells S.kind hkind fun env he s1 x => ?_
  subst he
  refine ⟨lim.keeps x.toInCall.keep, codeAny_func ?_⟩
  obtain ⟨t, ht, hq⟩ := hbody A outer s H vs Q E (hr.deeper _) hsp
  have I : Inv (cxOf CX P w K mg base N qual scope f cdv A outer s H E) [] (start N vs) H s1 := inv_start S hr.hd e0 hl r x
  refine wpAny_mono (ht [] s1 (start N vs) H _ I hq) (fun fl s' hs => ?_) fun e s' hs => hs
  have fin : ∀ {σ' : St} {H' : Hp} {v : V} {u : Value}, Inv (cxOf CX P w K mg base N qual scope f cdv A outer s H E) [] σ' H' s' → RelV v u → Q v H' → CE outer P w H s Q u s' :=
    fun {σ' H' v u} J rv q => ⟨v, H', J.os, J.bare, J.base, J.hok, rv, q⟩
  cases fl with
  | ret u =>
    obtain ⟨v, σ', H', J, rv, q⟩ := hs
    exact fin J rv q
  | next =>
    obtain ⟨σ', H', J, q⟩ := hs
    exact fin (v := V.non) (u := Value.none) J rfl q
  | brk =>
    obtain ⟨_, _, _, q⟩ := hs
    exact False.elim q
  | cont =>
    obtain ⟨_, _, _, q⟩ := hs
    exact False.elim q
end L2
namespace L2
open PySem PySem.Spec PyProof.Rows
section
variable {X : Cx} {x : Str} {p pos : Pos} {e : Expr} {es : List Expr} {t : TA} {id T : String} {r : List V → Hp → VK → Prop}
def tCB (r : List V → Hp → VK → Prop) (t : TA) : TE := fun σ H Q => t σ H fun vs H1 => r vs H1 Q
theorem pe_callB (hc : CallR X (.builtin id) r) (hg : Gl X x) (hm : X.mg x = none) (hv : bootBuiltins x = some (.builtin id)) (ha : PA X (e :: es) t) (hn : x ≠ "__name__" := by decide) (hdb : (x == ("__debug__" : Str)) = false := by decide)
    (he : starEach (e :: es) X.env = (false, eval e X.env) :: starEach es X.env := by rfl) (hpl : (backTo pos (starEach es X.env)).any (·.1) = false := by rfl) : PE X (.Call (.Name x p) (e :: es) [] pos) (tCB r t) := by
  intro pins s σ H Q I h
  refine wpAny_Call_Name_kw (ld_blt I hg hm hv ?_ hn hdb)
  exact PyProof.Rows.callWith_builtin1 (thn (ha pos pins s σ H _ I h) fun us s1 ⟨vs, H1, I1, r1, q1⟩ => hc pins s1 σ H1 vs us Q I1 r1 q1) he hpl
theorem pe_callTy (hc : CallR X (.type T) r) (hg : Gl X x) (hm : X.mg x = none) (hv : bootBuiltins x = some (.type T)) (ha : PA X (e :: es) t) (hn : x ≠ "__name__" := by decide) (hdb : (x == ("__debug__" : Str)) = false := by decide)
    (he : starEach (e :: es) X.env = (false, eval e X.env) :: starEach es X.env := by rfl) (hpl : (backTo pos (starEach es X.env)).any (·.1) = false := by rfl) : PE X (.Call (.Name x p) (e :: es) [] pos) (tCB r t) := by
  intro pins s σ H Q I h
  refine wpAny_Call_Name_kw (ld_blt I hg hm hv ?_ hn hdb)
  exact PyProof.Rows.callWith_type1 (thn (ha pos pins s σ H _ I h) fun us s1 ⟨vs, H1, I1, r1, q1⟩ => hc pins s1 σ H1 vs us Q I1 r1 q1) he hpl
end
end L2
namespace HT
open PySem PyProof.Rows
section
open PySem.SeqAt
open PySem.AutoSeq1 (wpAny_loadPart')
open PySem.MeetsSeq PySem.MeetsSeq2 PySem.MeetsSeq3
end
section
variable {prog : Program} {w : World} {A : Around} {E : Value → Shared → Prop} {s : Shared}
def sIx (n d : Nat) : Option Int → Nat
  | none => d
  | some v => if v < 0 then (v + (n : Int)).toNat else min v.toNat n
theorem sIx_none (n d : Nat) : sIx n d none = d := rfl
theorem sIx_nat (n d k : Nat) : sIx n d (some (k : Int)) = min k n := by
  show (if (k : Int) < 0 then ((k : Int) + (n : Int)).toNat else min (k : Int).toNat n) = min k n
  rw [if_neg (by omega), Int.toNat_natCast]
end
end HT
namespace L2
open PySem PySem.Spec PyProof.Rows
abbrev TO := St → Hp → (Option Int → Hp → Prop) → Prop
def PO (X : Cx) (e : Option Expr) (t : TO) : Prop :=
  ∀ (pins : List (Addr × Obj)) (s : Shared) (σ : St) (H : Hp) (Q : Option Int → Hp → Prop), Inv X pins σ H s → t σ H Q →
    wpAny (model X.prog X.w) X.A (evalPart e X.env) (fun u s' => ∃ o H', Inv X pins σ H' s' ∧ IsPart u o ∧ Q o H') X.xe s
def tNoPart : TO := fun _ H Q => Q none H
def tPart (t : TE) : TO := fun σ H Q => t σ H fun x H1 => ∃ i, x = .int i ∧ Q (some i) H1
theorem intsAre_of {ns : List Int} : ∀ {us : List Value}, Vals (ns.map V.int) us → IntsAre us ns := by
  induction ns with
  | nil => intro us r; rw [List.map_nil] at r; cases r; exact .nil
  | cons n ns ih =>
    intro us r
    rw [List.map_cons] at r
    cases r with
    | cons r1 r2 =>
      obtain ⟨t, e⟩ := r1
      subst e
      exact .cons n t (ih r2)
section
variable {X : Cx} {e : Expr} {te : TE} {lo hi : Option Expr} {tl th : TO} {pos p2 : Pos}
theorem po_none : PO X none tNoPart := by
  intro pins s σ H Q I h
  rw [evalPart_none]
  exact wpAny_pure ⟨none, H, I, .none, h⟩
theorem po_some (h : PE X e te) : PO X (some e) (tPart te) := by
  intro pins s σ H Q I hw
  rw [evalPart_some]
  refine thn (h pins s σ H _ I hw) fun u s1 ⟨x, H1, I1, r1, q1⟩ => ?_
  obtain ⟨i, rfl, q⟩ := q1
  obtain ⟨t, rfl⟩ := r1
  exact ⟨some i, H1, I1, .int i t, q⟩
def SlR (X : Cx) (r : V → Option Int → Option Int → Hp → VK → Prop) : Prop :=
  ∀ (pins : List (Addr × Obj)) (s : Shared) (σ : St) (H : Hp) (x : V) (v vl vu : Value) (lo hi : Option Int) (sl : Addr) (Q : VK), Inv X pins σ H s → RelV x v → s.heap.IsSliceOf sl vl vu .none → IsPart vl lo → IsPart vu hi → r x lo hi H Q →
    ∃ T id, typeLookup (.type T) "__getitem__" = pure (some (.builtin id)) ∧ s.TypeIs v T ∧ wpAny (model X.prog X.w) X.A (getItem v (.ref sl)) (EP X pins σ Q) X.xe s
def tSl (r : V → Option Int → Option Int → Hp → VK → Prop) (te : TE) (tl th : TO) : TE := fun σ H Q => te σ H fun x H1 => tl σ H1 fun l H2 => th σ H2 fun u H3 => r x l u H3 Q
theorem pe_slice {r : V → Option Int → Option Int → Hp → VK → Prop} (hr : SlR X r) (he : PE X e te) (hl : PO X lo tl) (hu : PO X hi th) : PE X (.Subscript e (.Slice lo hi none p2) pos) (tSl r te tl th) := by
  intro pins s σ H Q I h
  refine Subscript_ (thn (he pins s σ H _ I h) fun v s1 ⟨x, H1, I1, r1, q1⟩ => ?_)
  refine wpAny_Slice (thn (hl pins s1 σ H1 _ I1 q1) fun vl s2 ⟨l, H2, I2, pl, q2⟩ => thn (hu pins s2 σ H2 _ I2 q2) fun vu s3 ⟨u, H3, I3, pu, q3⟩ => ?_)
  rw [evalPart_none]
  refine wpAny_pure ?_
  have I4 : Inv X pins σ H3 { s3 with heap := s3.heap.push { cls := .type "slice", data := .fields #[vl, vu, .none] } } := I3.kept (t' := s3.toks) fun b ob q => Heap.get?_push_of_some _ q
  obtain ⟨T, id, hT, ht, hg⟩ := hr pins { s3 with heap := s3.heap.push { cls := .type "slice", data := .fields #[vl, vu, .none] } } σ H3 x v vl vu l u s3.heap.objs.size Q I4 r1 (Heap.IsSliceOf.new ..) pl pu q3
  show wpAny (model X.prog X.w) X.A (subscriptTail e (.Slice lo hi none p2) v (.ref s3.heap.objs.size)) (EP X pins σ Q) X.xe { s3 with heap := s3.heap.push { cls := .type "slice", data := .fields #[vl, vu, .none] } }
  exact tail_any (ops := [.ref s3.heap.objs.size, v]) ht hT hg (by with_unfolding_all rfl)
def cutV (xs : List V) (lo hi : Option Int) : List V := (xs.drop (HT.sIx xs.length 0 lo)).take (HT.sIx xs.length xs.length hi - HT.sIx xs.length 0 lo)
theorem cutV_length (xs : List V) (lo hi : Option Int) : (cutV xs lo hi).length ≤ xs.length := by
  unfold cutV
  rw [List.length_take, List.length_drop]
  omega
end
end L2
namespace L2
open PySem PySem.Spec PyProof.Rows
def ixN (n : Nat) (i : Int) : Option Nat := if 0 ≤ i then (if i < n then some i.toNat else none) else if -(n : Int) ≤ i then some (i + n).toNat else none
def atI {α : Type} (xs : List α) (i : Int) : Option α := (ixN xs.length i).bind fun j => xs[j]?
theorem ixN_seq {n : Nat} {i : Int} {j : Nat} (h : ixN n i = some j) : seqIndex? i n = some j ∧ j < n ∧ -(n : Int) ≤ i ∧ i < n := by
  unfold ixN at h
  by_cases h0 : 0 ≤ i
  · rw [if_pos h0] at h
    by_cases h1 : i < n
    · rw [if_pos h1] at h
      have e : i.toNat = j := Option.some.inj h
      exact ⟨by rw [seqIndex_of h0 h1, e], by omega, by omega, h1⟩
    · rw [if_neg h1] at h; cases h
  · rw [if_neg h0] at h
    by_cases h1 : -(n : Int) ≤ i
    · rw [if_pos h1] at h
      have e : (i + n).toNat = j := Option.some.inj h
      exact ⟨by rw [seqIndex_neg (by omega) h1, e], by omega, h1, by omega⟩
    · rw [if_neg h1] at h; cases h
theorem atI_get {α : Type} {xs : List α} {i : Int} {v : α} (h : atI xs i = some v) : ∃ j, seqIndex? i xs.length = some j ∧ xs[j]? = some v ∧ j < xs.length ∧ -(xs.length : Int) ≤ i ∧ i < xs.length := by
  unfold atI at h
  cases e : ixN xs.length i with
  | none => rw [e] at h; cases h
  | some j =>
    rw [e] at h
    obtain ⟨h1, h2, h3, h4⟩ := ixN_seq e
    exact ⟨j, h1, h, h2, h3, h4⟩
theorem atI_nat {α : Type} {xs : List α} {j : Nat} {v : α} (h : xs[j]? = some v) : atI xs (j : Int) = some v := by
  have hj : j < xs.length := (List.getElem?_eq_some_iff.mp h).1
  have e : ixN xs.length (j : Int) = some j := by
    unfold ixN
    rw [if_pos (by omega), if_pos (by omega)]; simp
  unfold atI; rw [e]; exact h
def PlainIx (b : Expr) : Prop := ∀ o i, subscripted b false o i = operate [o, i] (getItem o i)
def IxR (X : Cx) (r : R2) : Prop :=
  ∀ (value slice : Expr) (pins : List (Addr × Obj)) (s : Shared) (σ : St) (H : Hp) (x y : V) (v u : Value) (Q : VK), Inv X pins σ H s → RelV x v → RelV y u → r x y H Q →
    subscripted slice false v u = operate [v, u] (getItem v u) → wpAny (model X.prog X.w) X.A (subscriptTail value slice v u) (EP X pins σ Q) X.xe s
def MtR (X : Cx) (id : String) (r : V → List V → Hp → VK → Prop) : Prop :=
  ∀ (pins : List (Addr × Obj)) (s : Shared) (σ : St) (H : Hp) (x : V) (xs : List V) (v : Value) (us : List Value) (Q : VK), Inv X pins σ H s → RelV x v → Vals xs us → r x xs H Q →
    wpAny (model X.prog X.w) X.A (call (.builtin id) (v :: us)) (EP X pins σ Q) X.xe s
section
variable {X : Cx} {a b : Expr} {ta tb : TE} {pos : Pos}
theorem pe_ix {r : R2} (hr : IxR X r) (ha : PE X a ta) (hb : PE X b tb) (hs : PlainIx b) : PE X (.Subscript a b pos) (tOp r ta tb) := by
  intro pins s σ H Q I h
  exact Subscript_ (binT ha hb I h fun v u s2 x y H2 I2 rx ry q => hr a b pins s2 σ H2 x y v u Q I2 rx ry q (hs _ _))
def rIxL (K : PySem.W.Frag) : R2 := fun x y H Q => ∃ p xs i v, x = .ref p ∧ y = .int i ∧ SqL K H p xs ∧ atI xs i = some v ∧ Q v H
def rIxT (K : PySem.W.Frag) : R2 := fun x y H Q => ∃ p xs i v, x = .ref p ∧ y = .int i ∧ SqT K H p xs ∧ atI xs i = some v ∧ Q v H
def rIxS : R2 := fun x y H Q => ∃ z i c, x = .str z ∧ y = .int i ∧ z.length ≤ sizeLine ∧ atI z.cps.toList i = some c ∧ Q (.str ⟨#[c]⟩) H
theorem ix_list : IxR X (rIxL X.K) := by
  intro value slice pins s σ H x y v u Q I rx ry h hs
  obtain ⟨p, xs, i, z, rfl, rfl, hq, he, q⟩ := h
  cases rx
  obtain ⟨t, rfl⟩ := ry
  obtain ⟨its, r, pl, hz⟩ := I.list hq
  obtain ⟨j, h1, h2, h3, h4, h5⟩ := atI_get he
  obtain ⟨w, ew, rw'⟩ := r.get h2
  have hl := r.length
  have hn := line63
  have fin : EP X pins σ Q w s := ⟨z, H, I, rw', q⟩
  by_cases h0 : 0 ≤ i
  · have hj : i.toNat = j := by
      rw [seqIndex_of h0 h5] at h1
      exact Option.some.inj h1
    exact item_listR pl.isList h0 (by omega) (by rw [hj]; simpa using ew) fin hs
  · have hj : (i + (its.toArray.size : Int)).toNat = j := by
      rw [seqIndex_neg (by omega) h4] at h1
      rw [List.size_toArray, ← hl]
      exact Option.some.inj h1
    exact subscriptTail_builtinR (x := w) pl.isList.typeIs slot_list_getitem.lookup
      (wpAny_getItem_list_neg (Q := fun r s' => r = w ∧ EP X pins σ Q r s') pl.isList (by omega) (by rw [List.size_toArray] <;> omega) (by omega) (by rw [hj]; simpa using ew) ⟨rfl, fin⟩) hs
theorem ix_tup : IxR X (rIxT X.K) := by
  intro value slice pins s σ H x y v u Q I rx ry h hs
  obtain ⟨p, xs, i, z, rfl, rfl, hq, he, q⟩ := h
  cases rx
  obtain ⟨t, rfl⟩ := ry
  obtain ⟨its, r, pl, hz⟩ := I.tuple hq
  obtain ⟨j, h1, h2, h3, h4, h5⟩ := atI_get he
  obtain ⟨w, ew, rw'⟩ := r.get h2
  have hl := r.length
  have hn := line63
  have fin : EP X pins σ Q w s := ⟨z, H, I, rw', q⟩
  exact subscriptTail_builtinR (x := w) pl.typeIs slot_tuple_getitem.lookup
    (getItem_tuple (j := j) (Q := fun r s' => r = w ∧ EP X pins σ Q r s') pl (by omega) (by omega) (by rw [List.size_toArray, ← hl]; exact h1) (by simpa using ew) ⟨rfl, fin⟩) hs
theorem ix_str : IxR X rIxS := by
  intro value slice pins s σ H x y v u Q I rx ry h hs
  obtain ⟨z, i, c, rfl, rfl, hz, he, q⟩ := h
  obtain ⟨t, rfl⟩ := rx
  obtain ⟨t', rfl⟩ := ry
  obtain ⟨j, h1, h2, h3, h4, h5⟩ := atI_get he
  have hl : z.cps.toList.length = z.length := by simp [Str.length]
  rw [hl] at h1 h4 h5
  have hn := line63
  exact tail_any (typeIs_str s z t) slot_str_getitem.lookup (getItem_str (c := c) (by
    have e1 : decide (i < -(2 ^ 63 : Int)) = false := decide_eq_false (by omega)
    have e2 : decide (i ≥ 2 ^ 63) = false := decide_eq_false (by omega)
    rw [e1, e2, Bool.or_false]) (by rw [h1]; simpa using h2) ⟨.str ⟨#[c]⟩, H, I.tok _, ⟨_, rfl⟩, q⟩) hs
theorem mapSeq_set (its : List Value) (n j : Nat) (u : Value) : Obj.mapSeq (·.setIfInBounds j u) { cls := .type "list", data := .seq its.toArray n } = { cls := .type "list", data := .seq (its.set j u).toArray n } := by
  simp [Obj.mapSeq]
theorem Inv.lst {pins : List (Addr × Obj)} {σ : St} {H : Hp} {s : Shared} {p : Addr} {xs : List V} (I : Inv X pins σ H s) (h : H p = some (.lst xs)) :
    ∃ (its : List Value) (n : Nat), Vals xs its ∧ s.heap.get? p = some { cls := .type "list", data := .seq its.toArray n } ∧ xs.length ≤ sizeLine := by
  obtain ⟨z, its, n, r, e⟩ := I.hok p _ h
  exact ⟨its, n, r, e, z⟩
theorem Inv.lstUpd {pins : List (Addr × Obj)} {σ : St} {H : Hp} {s : Shared} {p : Addr} {xs ys : List V} {its its' : List Value} {n n' : Nat} {f : Obj → Obj} (I : Inv X pins σ H s) (h : H p = some (.lst xs))
    (ho : s.heap.get? p = some { cls := .type "list", data := .seq its.toArray n }) (hf : f { cls := .type "list", data := .seq its.toArray n } = { cls := .type "list", data := .seq its'.toArray n' }) (r : Vals ys its') (hz : ys.length ≤ sizeLine) (t : Nat) :
    Inv X pins σ (upd H p (.lst ys)) { s with heap := s.heap.update p f, toks := t } := by
  have e : (s.heap.update p f).get? p = some { cls := .type "list", data := .seq its'.toArray n' } := by
    rw [Heap.get?_update_self f ho (by rw [hf] <;> rfl), hf]
  refine I.write (x := p) (e := p) (by rw [h]; trivial) (.inl rfl) (fun b u hb q => (Heap.get?_update_other _ _ (Ne.symm hb)).trans q) ⟨_, e⟩ ?_
  exact ⟨hz, its', n', r, e⟩
def rSetL : V → V → V → Hp → (Hp → Prop) → Prop := fun o i v H Q => ∃ p xs k j, o = .ref p ∧ i = .int k ∧ H p = some (.lst xs) ∧ ixN xs.length k = some j ∧ Q (upd H p (.lst (xs.set j v)))
theorem set_list : PSet X rSetL := by
  intro pins s σ H o i v ov iv u Q I ro ri rv h
  obtain ⟨p, xs, k, j, rfl, rfl, hp, hj, q⟩ := h
  cases ro
  obtain ⟨t, rfl⟩ := ri
  obtain ⟨its, n, r, ho, hz⟩ := I.lst hp
  obtain ⟨h1, h2, h3, h4⟩ := ixN_seq hj
  have hl := r.length
  have hn := line63
  have I' : Inv X pins σ (upd H p (.lst (xs.set j v))) { s with heap := s.heap.update p (Obj.mapSeq (·.setIfInBounds j u)) } :=
    I.lstUpd hp ho (mapSeq_set its n j u) (r.set rv j) (by rw [List.length_set]; exact hz) s.toks
  by_cases h0 : 0 ≤ k
  · have hk : k.toNat = j := by
      rw [seqIndex_of h0 h4] at h1
      exact Option.some.inj h1
    exact PySem.W.ki_setAt ho h0 (by omega) (by rw [List.size_toArray, ← hl]; exact h4) (by rw [hk]; exact ⟨_, I', q⟩)
  · have hk : (k + (its.toArray.size : Int)).toNat = j := by
      rw [seqIndex_neg (by omega) h3] at h1
      rw [List.size_toArray, ← hl]
      exact Option.some.inj h1
    exact PySem.W.ki_setBack ho (by omega) (by rw [List.size_toArray, ← hl]; exact h3) (by omega) (by rw [hk]; exact ⟨_, I', q⟩)
theorem slice_bounds (lo hi : Option Int) (n : Nat) : (sliceBounds lo hi none n).1 = ((HT.sIx n 0 lo : Nat) : Int) ∧ (sliceBounds lo hi none n).2.1 = ((HT.sIx n n hi : Nat) : Int) ∧ (sliceBounds lo hi none n).2.2 = 1 := by
  refine ⟨?_, ?_, rfl⟩
  · cases lo with
    | none => simp [sliceBounds, HT.sIx]
    | some i =>
      simp only [sliceBounds, HT.sIx, Option.getD_none, show (1 : Int) > 0 by decide, if_true]
      by_cases h : i < 0
      · simp only [h, if_true] <;> omega
      · simp only [h, if_false] <;> omega
  · cases hi with
    | none => simp [sliceBounds, HT.sIx]
    | some i =>
      simp only [sliceBounds, HT.sIx, Option.getD_none, show (1 : Int) > 0 by decide, if_true]
      by_cases h : i < 0
      · simp only [h, if_true] <;> omega
      · simp only [h, if_false] <;> omega
theorem slicePick_cut (its : List Value) (lo hi : Option Int) : slicePick its.toArray lo hi none = ((its.drop (HT.sIx its.length 0 lo)).take (HT.sIx its.length its.length hi - HT.sIx its.length 0 lo)).toArray := by
  obtain ⟨h1, h2, h3⟩ := slice_bounds lo hi its.toArray.size
  unfold slicePick
  rw [h1, h2, h3]
  simp only [sliceRange_one, pick_run, List.size_toArray] <;> rfl
def rSlL (K : PySem.W.Frag) : V → Option Int → Option Int → Hp → VK → Prop := fun x lo hi H Q => ∃ a xs, x = .ref a ∧ SqL K H a xs ∧ ∀ p, H p = none → Q (.ref p) (upd H p (.lst (cutV xs lo hi)))
theorem sl_list : SlR X (rSlL X.K) := by
  intro pins s σ H x v vl vu lo hi sl Q I rx hs pl pu h
  obtain ⟨a, xs, rfl, hx, q⟩ := h
  cases rx
  obtain ⟨its, r, ht, hz⟩ := I.list hx
  have hlen := r.length
  refine ⟨"list", _, slot_list_getitem.lookup, ht.isList.typeIs, ?_⟩
  refine wpAny_getItem_list_slice ht.isList hs pl pu .none (by simp) ?_ (by rw [List.size_toArray] <;> omega)
  rw [slicePick_cut, ← hlen]
  refine ⟨.ref s.heap.objs.size, _, I.laid (t' := s.toks) (o := .lst (cutV xs lo hi)) (fun b ob q => Heap.get?_push_of_some _ q) (Nat.le_refl _) ?_, rfl, q _ (I.hok.fresh (Nat.le_refl _))⟩
  exact ⟨Nat.le_trans (cutV_length xs lo hi) hz, _, 0, (r.drop (HT.sIx xs.length 0 lo)).take (HT.sIx xs.length xs.length hi - HT.sIx xs.length 0 lo), Heap.get?_push_size _ rfl⟩
def flatV : V → Bool
  | .non => true
  | .bl _ => true
  | .int _ => true
  | .str _ => true
  | _ => false
def eqV : V → V → Bool
  | .non, .non => true
  | .bl a, .bl b => a == b
  | .bl a, .int b => (if a then 1 else 0) == b
  | .int a, .bl b => a == (if b then 1 else 0)
  | .int a, .int b => a == b
  | .str a, .str b => a == b
  | _, _ => false
theorem eqAt_V {A : Around} {s : Shared} {y x : V} {u v : Value} (ry : RelV y u) (rx : RelV x v) (fy : flatV y = true) (fx : flatV x = true) : SeqAt.EqAt A s u v (eqV y x) := by
  cases y with
  | non =>
    cases ry
    cases x with
    | non => cases rx; exact SeqAt.EqAt.same _
    | bl b => cases rx; exact SeqAt.EqAt.none_bool b
    | int b => obtain ⟨t, rfl⟩ := rx; exact SeqAt.EqAt.none_int b t
    | str b => obtain ⟨t, rfl⟩ := rx; exact SeqAt.EqAt.none_str b t
    | _ => exact absurd (show false = true from fx) Bool.false_ne_true
  | bl a =>
    cases ry
    cases x with
    | non => cases rx; exact SeqAt.EqAt.bool_none a
    | bl b => cases rx; exact SeqAt.EqAt.bool_bool a b
    | int b => obtain ⟨t, rfl⟩ := rx; exact SeqAt.EqAt.bool_int a b t
    | str b => obtain ⟨t, rfl⟩ := rx; exact SeqAt.EqAt.bool_str a b t
    | _ => exact absurd (show false = true from fx) Bool.false_ne_true
  | int a =>
    obtain ⟨t', rfl⟩ := ry
    cases x with
    | non => cases rx; exact SeqAt.EqAt.int_none a t'
    | bl b => cases rx; exact SeqAt.EqAt.int_bool a t' b
    | int b => obtain ⟨t, rfl⟩ := rx; exact SeqAt.EqAt.int_int a t' b t
    | str b => obtain ⟨t, rfl⟩ := rx; exact SeqAt.EqAt.int_str a t' b t
    | _ => exact absurd (show false = true from fx) Bool.false_ne_true
  | str a =>
    obtain ⟨t', rfl⟩ := ry
    cases x with
    | non => cases rx; exact SeqAt.EqAt.str_none a t'
    | bl b => cases rx; exact SeqAt.EqAt.str_bool a t' b
    | int b => obtain ⟨t, rfl⟩ := rx; exact SeqAt.EqAt.str_int a t' b t
    | str b => obtain ⟨t, rfl⟩ := rx; exact SeqAt.EqAt.str_str a t' b t
    | _ => exact absurd (show false = true from fx) Bool.false_ne_true
  | _ => exact absurd (show false = true from fy) Bool.false_ne_true
def eqU (x : V) (u : Value) : Bool := match u with
  | .none => eqV .non x
  | .bool b => eqV (.bl b) x
  | .int i _ => eqV (.int i) x
  | .str z _ => eqV (.str z) x
  | _ => false
theorem eqU_of {x y : V} {u : Value} (r : RelV y u) (f : flatV y = true) : eqU x u = eqV y x := by
  cases y with
  | non => cases r; rfl
  | bl b => cases r; rfl
  | int i => obtain ⟨t, rfl⟩ := r; rfl
  | str z => obtain ⟨t, rfl⟩ := r; rfl
  | _ => exact absurd (show false = true from f) Bool.false_ne_true
theorem any_eqU {x : V} : ∀ {xs : List V} {us : List Value}, Vals xs us → xs.all flatV = true → us.any (eqU x) = xs.any fun y => eqV y x
  | _, _, .nil, _ => rfl
  | y :: xs, u :: us, .cons r t, f => by
    rw [List.all_cons, Bool.and_eq_true] at f
    rw [List.any_cons, List.any_cons, eqU_of r f.1, any_eqU t f.2]
theorem mem_eqAt {A : Around} {s : Shared} {x : V} {v : Value} (rx : RelV x v) (fx : flatV x = true) : ∀ {xs : List V} {us : List Value}, Vals xs us → xs.all flatV = true → ∀ u ∈ us, SeqAt.EqAt A s u v (eqU x u)
  | _, _, .nil, _ => fun u hu => by cases hu
  | y :: xs, u :: us, .cons r t, f => fun u' hu => by
    rw [List.all_cons, Bool.and_eq_true] at f
    rcases List.mem_cons.mp hu with rfl | hu
    · rw [eqU_of r f.1]; exact eqAt_V r rx f.1 fx
    · exact mem_eqAt rx fx t f.2 u' hu
def inV (x : V) (xs : List V) : Bool := xs.any fun y => eqV y x
def rIn (K : PySem.W.Frag) (neg : Bool) : R2 := fun x y H Q => ∃ p xs, y = .ref p ∧ (SqL K H p xs ∨ SqT K H p xs) ∧ flatV x = true ∧ xs.all flatV = true ∧ Q (.bl (if neg then !inV x xs else inV x xs)) H
theorem op_notIn_seq : OpR X (compareOp .NotIn) (rIn X.K true) := by
  intro pins s σ H x y v u Q I rx ry h
  obtain ⟨p, xs, rfl, hq, fx, fs, q⟩ := h
  cases ry
  rcases hq with hq | hq
  · obtain ⟨its, r, pl, hz⟩ := I.list hq
    refine SeqAt.notIn_listAt (eqU x) pl.isList (fun w hw => mem_eqAt rx fx r fs w (by simpa using hw)) ⟨.bl _, H, I, rfl, ?_⟩
    rw [show its.toArray.any (eqU x) = its.any (eqU x) by simp, any_eqU r fs]
    exact q
  · obtain ⟨its, r, pl, hz⟩ := I.tuple hq
    refine SeqAt.notIn_tupleAt (eqU x) pl (fun w hw => mem_eqAt rx fx r fs w (by simpa using hw)) ⟨.bl _, H, I, rfl, ?_⟩
    rw [show its.toArray.any (eqU x) = its.any (eqU x) by simp, any_eqU r fs]
    exact q
theorem call_list_of : CallR X (.type "list") (fun xs H Q => ∃ p ys, xs = [.ref p] ∧ (SqL X.K H p ys ∨ SqT X.K H p ys) ∧ ∀ l, H l = none → Q (.ref l) (upd H l (.lst ys))) := by
  intro pins s σ H xs us Q I r h
  obtain ⟨p, ys, rfl, hq, q⟩ := h
  obtain ⟨u, rfl, rx⟩ := vals1 r
  cases rx
  have fin : ∀ (its : List Value), Vals ys its → ys.length ≤ sizeLine → ∀ (h' : Heap) (c' : Nat), (∀ b o', s.heap.get? b = some o' → h'.get? b = some o') →
      h'.get? s.heap.objs.size = some { cls := .type "list", dict := none, data := .seq its.toArray c', slots := #[] } → EP X pins σ Q (.ref s.heap.objs.size) { s with heap := h' } := fun its r' hz h' c' kp e =>
    ⟨.ref s.heap.objs.size, _, I.laid (t' := s.toks) kp (Nat.le_refl _) (show ObjOk X.prog X.w _ h' _ (.lst ys) from ⟨hz, its, c', r', e⟩), rfl, q _ (I.hok.fresh (Nat.le_refl _))⟩
  rcases hq with hq | hq
  · obtain ⟨its, r', pl, hz⟩ := I.list hq
    have hlen := r'.length
    obtain ⟨o, ho, hc, n, hd⟩ := pl.isList
    exact call_list_seq p (.inl rfl) ho hc hd (fun h' c' kp e => fin its r' hz h' c' kp e) (by simp only [List.size_toArray] <;> omega)
  · obtain ⟨its, r', pl, hz⟩ := I.tuple hq
    have hlen := r'.length
    obtain ⟨o, ho, hc, n, hd⟩ := pl
    exact call_list_seq p (.inr rfl) ho hc hd (fun h' c' kp e => fin its r' hz h' c' kp e) (by simp only [List.size_toArray] <;> omega)
def tyV (K : PySem.W.Frag) (T : String) (x : V) (H : Hp) : Prop := match x with
  | .str _ => T = "str"
  | .int _ => T = "int"
  | .ref p => (T = "list" ∧ ∃ xs, SqL K H p xs) ∨ (T = "tuple" ∧ ∃ o, K.lookup p = some o ∧ o.cls = .type "tuple" ∧ o.dict = none) ∨
      (T = "dict" ∧ ((∃ kvs, H p = some (.dK kvs)) ∨ ∃ kvs, H p = some (.dT kvs))) ∨ (T = "set" ∧ ∃ S n, H p = some (.set S n))
  | _ => False
theorem tyV_is {pins : List (Addr × Obj)} {σ : St} {H : Hp} {s : Shared} {T : String} {x : V} {v : Value} (I : Inv X pins σ H s) (r : RelV x v) (ty : tyV X.K T x H) :
    s.TypeIs v T ∧ ∀ a, v = .ref a → ∃ ob, s.heap.get? a = some ob ∧ ob.dict = none := by
  cases x with
  | str z =>
    obtain ⟨t, rfl⟩ := r
    cases (show T = "str" from ty)
    exact ⟨typeIs_str s z t, fun _ e => nomatch e⟩
  | int i =>
    obtain ⟨t, rfl⟩ := r
    cases (show T = "int" from ty)
    exact ⟨typeIs_int s i t, fun _ e => nomatch e⟩
  | ref p =>
    cases r
    rcases ty with ⟨rfl, xs, hq⟩ | ⟨rfl, o, hk, hc, hd⟩ | ⟨rfl, hk⟩ | ⟨rfl, S, n, hk⟩
    · obtain ⟨its, _, pl, _⟩ := I.list hq
      refine ⟨pl.isList.typeIs, fun a e => ?_⟩
      cases e
      obtain ⟨o, n, e, c, hd, _⟩ := pl
      exact ⟨o, e, hd⟩
    · refine ⟨⟨o, I.kIn p o hk, hc⟩, fun a e => ?_⟩
      cases e
      exact ⟨o, I.kIn _ o hk, hd⟩
    · have z : ∃ o, s.heap.get? p = some o ∧ o.ExactDict := by
        rcases hk with ⟨kvs, hk⟩ | ⟨kvs, hk⟩
        · obtain ⟨_, _, _, _, o, _, _, e, ex, _⟩ := I.hok p _ hk
          exact ⟨o, e, ex⟩
        · obtain ⟨_, _, _, _, o, _, _, e, ex, _⟩ := I.hok p _ hk
          exact ⟨o, e, ex⟩
      obtain ⟨o, e, ex⟩ := z
      refine ⟨⟨o, e, ex.1⟩, fun a e2 => ?_⟩
      cases e2
      exact ⟨o, e, ex.2.1⟩
    · obtain ⟨o, _, _, _, e, ex, _⟩ := I.hok p _ hk
      refine ⟨⟨o, e, ex.1⟩, fun a e2 => ?_⟩
      cases e2
      exact ⟨o, e, ex.2.1⟩
  | _ => exact False.elim ty
def tBM0 (K : PySem.W.Frag) (T : String) (r : V → List V → Hp → VK → Prop) (to : TE) : TE := fun σ H Q => to σ H fun x H1 => tyV K T x H1 ∧ r x [] H1 Q
def tBM (K : PySem.W.Frag) (T : String) (r : V → List V → Hp → VK → Prop) (to : TE) (t : TA) : TE := fun σ H Q => to σ H fun x H1 => tyV K T x H1 ∧ t σ H1 fun xs H2 => r x xs H2 Q
variable {o e : Expr} {es : List Expr} {to : TE} {t : TA} {name : Str} {apos cpos : Pos} {T id : String} {r : V → List V → Hp → VK → Prop}
theorem pe_bm0 (pa : PlainAttrs T) (slot : Slot T name id) (hty : typeOf (.builtin id) = pure (.type "method_descriptor")) (hm : MtR X id r) (ho : PE X o to)
    (hbase : attributeBase o name X.env (eval o X.env) = eval o X.env := by rfl) (hline : (apos.endLine == cpos.line) = true := by rfl) : PE X (.Call (.Attribute o name apos) [] [] cpos) (tBM0 X.K T r to) := by
  intro pins s σ H Q I h
  refine wpAny_Call_method0_late hbase hline (thn (ho pins s σ H _ I h) fun v s1 ⟨x, H1, I1, r1, ty, q1⟩ => ?_)
  obtain ⟨h1, h2⟩ := tyV_is I1 r1 ty
  exact ⟨T, id, pa, slot, hty, h1, h2, Calls.callWith_builtin rfl (PySem.evalArgs_none (hm pins s1 σ H1 x [] v [] Q I1 r1 .nil q1))⟩
theorem pe_bm (pa : PlainAttrs T) (slot : Slot T name id) (hty : typeOf (.builtin id) = pure (.type "method_descriptor")) (hm : MtR X id r) (ho : PE X o to) (ha : PA X (e :: es) t)
    (hbase : attributeBase o name X.env (eval o X.env) = eval o X.env := by rfl)
    (hfew : ((backTo cpos (starEach (e :: es) X.env)).all (fun x => !x.1) && (backToKw cpos (keywordEach [] X.env)).all (fun x => x.1.isSome)
      && decide ((e :: es).length + ([] : List Keyword).length + (if ([] : List Keyword).isEmpty then 0 else 1) < 30)) = true := by rfl)
    (hline : (apos.endLine == cpos.line) = true := by rfl) (hs : starEach (e :: es) X.env = (false, eval e X.env) :: starEach es X.env := by rfl) (hplain : (backTo cpos (starEach es X.env)).any (·.1) = false := by rfl) :
    PE X (.Call (.Attribute o name apos) (e :: es) [] cpos) (tBM X.K T r to t) := by
  intro pins s σ H Q I h
  refine wpAny_Call_method_late hbase hfew hline rfl (thn (ho pins s σ H _ I h) fun v s1 ⟨x, H1, I1, r1, ty, q1⟩ => ?_)
  obtain ⟨h1, h2⟩ := tyV_is I1 r1 ty
  refine ⟨T, id, pa, slot, hty, h1, h2, ?_⟩
  have hA := ha cpos pins s1 σ H1 _ I1 q1
  rw [hs] at hA ⊢
  refine Calls.callWith_builtin (by show (false || (backTo cpos (starEach es X.env)).any (·.1)) = false; rw [hplain] <;> rfl) (Calls.evalArgs_plain ?_)
  exact thn hA fun us s2 ⟨vs, H2, I2, r2, q2⟩ => hm pins s2 σ H2 x vs v us Q I2 r1 r2 q2
/- xs.append(e), list.index on a module's tuple .. are MtR facts of 06m -/
end
end L2
namespace L2
open PySem PySem.Spec PyProof.Rows
def MtM (X : Cx) (id : String) (r : V → List V → Hp → VK → Prop) : Prop :=
  ∀ (pins : List (Addr × Obj)) (s : Shared) (σ : St) (H : Hp) (x : V) (xs : List V) (v : Value) (us : List Value) (Q : VK), Inv X pins σ H s → RelV x v → Vals xs us → r x xs H Q →
    wpAny (model X.prog X.w) X.A (call (.builtin id) (v :: us)) (EP X pins σ Q) X.xe s
theorem Vals.one : ∀ {x : V} {us : List Value}, Vals [x] us → ∃ u, us = [u] ∧ RelV x u
  | _, _, .cons r .nil => ⟨_, rfl, r⟩
theorem Vals.zero : ∀ {us : List Value}, Vals [] us → us = []
  | _, .nil => rfl
theorem Vals.eraseIdx : ∀ {xs : List V} {us : List Value} (i : Nat), Vals xs us → Vals (xs.eraseIdx i) (us.eraseIdx i)
  | _, _, _, .nil => .nil
  | _, _, 0, .cons _ t => t
  | _, _, i + 1, .cons r t => .cons r (Vals.eraseIdx i t)
theorem Vals.rep {xs : List V} {us : List Value} (h : Vals xs us) : ∀ k : Nat, Vals (List.replicate k xs).flatten (List.replicate k us).flatten
  | 0 => .nil
  | k + 1 => by
    rw [List.replicate_succ, List.replicate_succ, List.flatten_cons, List.flatten_cons]
    exact Vals.append h (Vals.rep h k)
theorem len_erase {α : Type} : ∀ (l : List α) (i : Nat), (l.eraseIdx i).length ≤ l.length
  | [], _ => Nat.le_refl _
  | _ :: _, 0 => Nat.le_succ _
  | _ :: r, i + 1 => Nat.succ_le_succ (len_erase r i)
theorem foldl_rep (its : List Value) : ∀ (k : Nat) (acc : List Value),
    List.foldl (fun x1 x2 => x1 ++ x2) acc.toArray (List.replicate k its.toArray) = (acc ++ (List.replicate k its).flatten).toArray
  | 0, acc => by simp
  | k + 1, acc => by
    have e : acc.toArray ++ its.toArray = (acc ++ its).toArray := by simp
    have e2 : (acc ++ its) ++ (List.replicate k its).flatten = acc ++ (List.replicate (k + 1) its).flatten := by
      rw [List.replicate_succ, List.flatten_cons, List.append_assoc]
    rw [← e2, ← foldl_rep its k (acc ++ its), ← e, List.replicate_succ, List.foldl_cons]
section
variable {X : Cx} {pins : List (Addr × Obj)} {σ : St} {H : Hp} {s : Shared} {l b : Addr} {xs ys zs : List V}
theorem Inv.lset {its its' : List Value} {n : Nat} {f : Array Value → Array Value} {t' : Nat} (I : Inv X pins σ H s) (hH : H l = some (.lst xs))
    (e : s.heap.get? l = some { cls := .type "list", data := .seq its.toArray n }) (hf : f its.toArray = its'.toArray) (hv : Vals ys its') (hz : ys.length ≤ sizeLine) :
    Inv X pins σ (upd H l (.lst ys)) { s with heap := s.heap.update l (Obj.mapSeq f), toks := t' } := by
  have q := PySem.IsL.update e f
  rw [hf] at q
  refine I.write (x := l) (e := l) (by rw [hH]; exact trivial) (.inl rfl) (fun b' u hb hu => (Heap.get?_update_other s.heap (Obj.mapSeq f) (Ne.symm hb)).trans hu) ⟨_, q⟩ ?_
  exact ⟨hz, its', _, hv, q⟩
theorem Inv.lnew {its : List Value} {t' : Nat} (I : Inv X pins σ H s) (hv : Vals ys its) (hz : ys.length ≤ sizeLine) :
    Inv X pins σ (upd H s.heap.objs.size (.lst ys)) { s with heap := s.heap.push { cls := .type "list", data := .seq its.toArray }, toks := t' } :=
  I.laid (fun _ _ q => Heap.get?_push_of_some _ q) (Nat.le_refl _) ⟨hz, its, 0, hv, Heap.get?_push_size _ rfl⟩
theorem Inv.fresh (I : Inv X pins σ H s) : H s.heap.objs.size = none := I.hok.fresh (Nat.le_refl _)
theorem Inv.lstM (I : Inv X pins σ H s) (hH : H l = some (.lst xs)) : xs.length ≤ sizeLine ∧ ∃ (its : List Value) (n : Nat), Vals xs its ∧ xs.length = its.length ∧ s.heap.get? l = some { cls := .type "list", data := .seq its.toArray n } := by
  obtain ⟨z, its, n, r, e⟩ := I.hok l _ hH
  exact ⟨z, its, n, r, r.length, e⟩
theorem notLongL {n : Nat} (h : n ≤ sizeLine) : Builtin.List.listTooLong n = false := by
  unfold Builtin.List.listTooLong
  exact decide_eq_false (by omega)
end
section
variable {X : Cx}
def rAppend : V → List V → Hp → VK → Prop := fun x vs H Q => ∃ l xs y, x = .ref l ∧ vs = [y] ∧ H l = some (.lst xs) ∧ xs.length < sizeLine ∧ Q .non (upd H l (.lst (xs ++ [y])))
theorem mt_append : MtM X "list.append" rAppend := by
  intro pins s σ H x vs v us Q I rx rv h
  obtain ⟨l, xs, y, rfl, rfl, hH, hz, q⟩ := h
  cases rx
  obtain ⟨u, rfl, ru⟩ := rv.one
  obtain ⟨z, its, n, r, hl, e⟩ := I.lstM hH
  refine call_meets F.slot_list_append ⟨_, e, rfl⟩ F.entry_list_append (F.args_list_append_2 _ _) (PySem.list_append l its.toArray n u (by rw [List.size_toArray]; omega)) ⟨e, ?_⟩
  refine ⟨.non, _, I.lset (its' := its ++ [u]) hH e (by simp) (r.append (.cons ru .nil)) ?_, rfl, q⟩
  rw [List.length_append, List.length_singleton]
  omega
def rExtend : V → List V → Hp → VK → Prop := fun x vs H Q => ∃ l b xs zs, x = .ref l ∧ vs = [.ref b] ∧ H l = some (.lst xs) ∧ H b = some (.lst zs) ∧ xs.length + zs.length ≤ sizeLine ∧ Q .non (upd H l (.lst (xs ++ zs)))
theorem mt_extend : MtM X "list.extend" rExtend := by
  intro pins s σ H x vs v us Q I rx rv h
  obtain ⟨l, b, xs, zs, rfl, rfl, hH, hB, hz, q⟩ := h
  cases rx
  obtain ⟨u, rfl, ru⟩ := rv.one
  cases ru
  obtain ⟨z, its, n, r, hl, e⟩ := I.lstM hH
  obtain ⟨z2, its2, n2, r2, hl2, e2⟩ := I.lstM hB
  have hsz : its.toArray.size + its2.toArray.size ≤ sizeLine := by rw [List.size_toArray, List.size_toArray]; omega
  have hlong : ¬ (!its.toArray.isEmpty && Builtin.List.listTooLong (its.toArray.size + its2.toArray.size)) = true := by
    rw [notLongL hsz, Bool.and_false]
    exact Bool.false_ne_true
  refine call_meets F.slot_list_extend ⟨_, e, rfl⟩ F.entry_list_extend (F.args_list_extend_2 _ _)
    (AutoSeq1.list_extend_list_list_0 l its.toArray n b its2.toArray n2 hlong (by rw [List.size_toArray]; omega) (by omega)) ⟨e, e2, ?_⟩
  refine ⟨.non, _, I.lset (its' := its ++ its2) hH e (by simp) (r.append r2) ?_, rfl, q⟩
  rw [List.length_append]
  omega
def rPopAt : V → List V → Hp → VK → Prop := fun x vs H Q => ∃ l xs i k y, x = .ref l ∧ vs = [.int i] ∧ H l = some (.lst xs) ∧ -(2 ^ 63) ≤ i ∧ i < 2 ^ 63 ∧ seqIndex? i xs.length = some k ∧ xs[k]? = some y ∧ Q y (upd H l (.lst (xs.eraseIdx k)))
theorem mt_popAt : MtM X "list.pop" rPopAt := by
  intro pins s σ H x vs v us Q I rx rv h
  obtain ⟨l, xs, i, k, y, rfl, rfl, hH, h1, h2, hk, hy, q⟩ := h
  cases rx
  obtain ⟨u, rfl, ru⟩ := rv.one
  obtain ⟨t, rfl⟩ := ru
  obtain ⟨z, its, n, r, hl, e⟩ := I.lstM hH
  obtain ⟨w, hw, rw'⟩ := r.get hy
  refine call_meets F.slot_list_pop ⟨_, e, rfl⟩ F.entry_list_pop (F.args_list_pop_2 _ _)
    (MeetsSeq.list_pop_at l its.toArray n i t k w (fitsIndex_both h1 h2) (by rw [List.size_toArray, ← hl]; exact hk) (by rw [← Array.getElem?_toList]; exact hw) (by rw [List.size_toArray]; omega)) ⟨e, ?_⟩
  refine ⟨y, _, I.lset (its' := its.eraseIdx k) hH e ?_ (r.eraseIdx k) ?_, rw', q⟩
  · show its.toArray.eraseIdxIfInBounds k = (its.eraseIdx k).toArray
    rw [List.eraseIdxIfInBounds_toArray]
  · have := len_erase xs k
    omega
def rClear : V → List V → Hp → VK → Prop := fun x vs H Q => ∃ l xs, x = .ref l ∧ vs = [] ∧ H l = some (.lst xs) ∧ Q .non (upd H l (.lst []))
theorem mt_clear : MtM X "list.clear" rClear := by
  intro pins s σ H x vs v us Q I rx rv h
  obtain ⟨l, xs, rfl, rfl, hH, q⟩ := h
  cases rx
  have hus := rv.zero
  subst hus
  obtain ⟨z, its, n, r, hl, e⟩ := I.lstM hH
  refine call_meets F.slot_list_clear ⟨_, e, rfl⟩ F.entry_list_clear (F.args_list_clear_1 _) (AutoSeq1.list_clear_list_0 l its.toArray n (by rw [List.size_toArray]; omega)) ⟨e, ?_⟩
  exact ⟨.non, _, I.lset (its' := []) (ys := []) hH e rfl .nil (Nat.zero_le _), rfl, q⟩
def rCat : R2 := fun x y H Q => ∃ l b xs zs, x = .ref l ∧ y = .ref b ∧ H l = some (.lst xs) ∧ H b = some (.lst zs) ∧ xs.length + zs.length ≤ sizeLine ∧ ∀ p, H p = none → Q (.ref p) (upd H p (.lst (xs ++ zs)))
theorem op_cat : OpR X (binaryOp .Add) rCat := by
  intro pins s σ H x y v u Q I rx ry h
  obtain ⟨l, b, xs, zs, rfl, rfl, hH, hB, hz, q⟩ := h
  cases rx
  cases ry
  obtain ⟨z, its, n, r, hl, e⟩ := I.lstM hH
  obtain ⟨z2, its2, n2, r2, hl2, e2⟩ := I.lstM hB
  refine PySem.P.add_list e e2 ?_ (by rw [List.size_toArray, List.size_toArray]; omega)
  have ea : its.toArray ++ its2.toArray = (its ++ its2).toArray := by simp
  rw [ea]
  exact ⟨.ref _, _, I.lnew (t' := s.toks) (r.append r2) (by rw [List.length_append]; omega), rfl, q _ I.fresh⟩
def rRep : R2 := fun x y H Q => ∃ l k xs, x = .ref l ∧ y = .int k ∧ H l = some (.lst xs) ∧ -(2 ^ 63) ≤ k ∧ k < 2 ^ 63 ∧ xs.length * k.toNat ≤ sizeLine ∧
  ∀ p, H p = none → Q (.ref p) (upd H p (.lst (List.replicate k.toNat xs).flatten))
theorem len_rep {α : Type} (xs : List α) (k : Nat) : (List.replicate k xs).flatten.length = k * xs.length := by
  induction k with
  | zero => simp
  | succ k ih => rw [List.replicate_succ, List.flatten_cons, List.length_append, ih, Nat.succ_mul, Nat.add_comm]
theorem op_rep : OpR X (binaryOp .Mult) rRep := by
  intro pins s σ H x y v u Q I rx ry h
  obtain ⟨l, k, xs, rfl, rfl, hH, h1, h2, hz, q⟩ := h
  cases rx
  obtain ⟨t, rfl⟩ := ry
  obtain ⟨z, its, n, r, hl, e⟩ := I.lstM hH
  have hlen : its.toArray.size * k.toNat ≤ sizeLine := by rw [List.size_toArray, ← hl]; exact hz
  have hcap : ¬ its.toArray.size * k.toNat > (2 ^ 63 - 1) / 8 := by
    have : (sizeLine : Nat) ≤ (2 ^ 63 - 1) / 8 := by decide
    omega
  have hfit : ¬ (!Builtin.List.listFitsIndex k) = true := by
    rw [fitsIndex_both h1 h2]
    exact Bool.false_ne_true
  have hlong : ¬ Builtin.List.listTooLong (its.toArray.size * k.toNat) = true := by
    rw [notLongL hlen]
    exact Bool.false_ne_true
  have hnew : List.foldl (fun x1 x2 => x1 ++ x2) #[] (List.replicate (if its.toArray.isEmpty = true then 0 else k.toNat) its.toArray) = (List.replicate k.toNat its).flatten.toArray := by
    have f0 : ∀ m : Nat, List.foldl (fun x1 x2 => x1 ++ x2) #[] (List.replicate m its.toArray) = (List.replicate m its).flatten.toArray := fun m => by
      have := foldl_rep its m []
      rw [List.nil_append] at this
      exact this
    rw [f0]
    cases its with
    | nil => simp
    | cons a r' => rw [if_neg (by simp)]
  refine wpAny_binaryOp_repeat_ref (T := "list") (U := "int") (by decide) ⟨_, e, rfl⟩ (fun s' => typeIs_int s' k t) noFill_list_mul F.fills_int_mul F.slot_int_rmul repeat_list F.slot_int_index.lookup
    (call_meets F.slot_int_rmul (typeIs_int s k t) F.entry_int_rmul (F.args_int_rmul_2 _ _) (int___rmul___int_list k t l its.toArray n)
      ⟨e, rfl, ⟨_, e, rfl⟩, call_meets F.slot_list_mul ⟨_, e, rfl⟩ F.entry_list_mul (F.args_list_mul_2 _ _) (AutoListH.list___mul___list_int_3 l its.toArray n k t hfit hcap hlong) ⟨e, ?_⟩⟩)
  rw [hnew]
  exact ⟨.ref _, _, I.lnew (t' := s.toks) (r.rep k.toNat) (by rw [len_rep, Nat.mul_comm]; exact hz), rfl, q _ I.fresh⟩
end
section
variable {prog : Program} {w : World} {A : Around} {E : Value → Shared → Prop} {s : Shared}
set_option maxRecDepth 100000 in
end
section
variable {X : Cx}
end
end L2
namespace Att
open PySem PySem.W PySem.Calls PyProof.Rows
theorem ints_of_wellAll {P : Params} {h : Heap} : ∀ (ns : List Int) (vs : List Value), WellAll P h vs (ns.map WData.int) → IntsAre vs ns := by
  intro ns
  induction ns with
  | nil =>
    intro vs w
    rw [List.map_nil] at w
    cases w
    exact .nil
  | cons n ns ih =>
    intro vs w
    rw [List.map_cons] at w
    cases w with
    | cons a b =>
      cases a
      exact .cons _ _ (ih _ b)
theorem script_of {l : OpenLaw} {n : Nat} (hn : l.most = some n) {P : Params} {h : Heap} {args : List WData} {vals : List Value}
    (hpre : l.row.toRowW.claim.pre args = true) (hwl : WellAll P h vals args) :
    ∃ a vs ns, vals = [Value.ref a] ∧ args = [WData.list (ns.map WData.int)] ∧ h.get? a = some { cls := .type "list", data := .seq vs.toArray } ∧ IntsAre vs ns ∧ ns.length ≤ n := by
  have hsh : WShape.hasAll [] args [.list .int] = true := (pre_splitW hpre).1
  have hc : l.pre.holds [] { args := args } = true := (pre_splitW hpre).2
  obtain ⟨d, r, rfl, h1, h2⟩ := hasAllW_cons hsh
  obtain rfl := hasAllW_nil h2
  obtain ⟨xs, rfl, h3⟩ := hasW_list h1
  obtain ⟨ns, rfl⟩ := items_int h3
  have hlen : ns.length ≤ n := by
    unfold OpenLaw.pre at hc
    have h4 : (WTm.not (.lt (.lit (.int (n : Int))) (.len (.arg 0)))).holds [] { args := [.list (ns.map .int)] } = true := by
      have h4 := (holds_andW hc).1
      rw [hn] at h4
      exact h4
    have h5 := condW_of h4 (w_not (w_lt w_lit (w_len_list (w_arg rfl))))
    rw [List.length_map] at h5
    refine Nat.le_of_not_lt fun q => ?_
    have q' : (n : Int) < ((ns.length : Nat) : Int) := by omega
    first
      | (rw [decide_eq_true q'] at h5; exact absurd h5 (by decide))
      | (simp at h5; omega)
  cases hwl with
  | cons w1 w2 =>
    cases w2
    cases w1 with
    | list ho hall => exact ⟨_, _, ns, rfl, rfl, ho, ints_of_wellAll ns _ hall, hlen⟩
theorem post_true (l : OpenLaw) (args : List WData) : l.row.toRowW.claim.post args (.bool true) args = true :=
  postW_of (r := l.row.toRowW) (X := (true == true))
    (show WShape.has [] (.bool true) .bool = true by first | rfl | decide | simp [WShape.has, WShape.arms, WShape.armsAll])
    (show (WTm.eq .res (.lit (.bool true))).value [] { args := args, res := some (.bool true), after := args } = some (.bool (true == true)) from w_eq_bool (w_res rfl) w_lit) rfl
theorem attach_call {l : OpenLaw} {n : Nat} {q : Program} {loose : List Str} {XP : (Str → Option Value) → Heap → Prop} {YP : World → Heap → Prop} {d : DefRec}
    (hn : l.most = some n) (hdf : d.params.defaults = [])
    (call : ∀ (w : World) (s₀ s₁ : Shared) (mg mb : Str → Option Value) (fa : Addr) (o : Obj) (pm cd doc : Value) (a : Addr) (vs : List Value) (ns : List Int),
      Ground q loose [] XP w s₀ mg mb s₁.heap → YP w s₁.heap →
      s₁.heap.get? fa = some o → o.data = .func (docDef d.name d.params d.body d.scope pm cd doc) → s₁.heap.CodeRec cd d.name → mg d.name = some (.ref fa) →
      s₁.heap.get? a = some { cls := .type "list", data := .seq vs.toArray } → IntsAre vs ns → ns.length ≤ n → s₁.gens = #[] →
      codeAny (model l.prog w) callerA (.call (.ref fa) ⟨[.ref a], []⟩) (fun r s' => r = .ok (.ret (.bool true)) ∧ OldK s₁.heap s'.heap ∧ s'.os = s₁.os ∧ AllBare s'.gens) s₁) :
    WalkO q loose XP YP l.row.toRowW d [] (fun f vs => PySem.call f vs) := by
  intro w s₀ s₁ mg mb G Y fa o pm cd doc dV kV ho hd hcd hD hmg hg args vals as hpre hlay hrd hwl hlo
  obtain rfl : dV = .none := Dflts.none hD hdf
  obtain rfl : kV = .none := Dflts.noKw hD
  obtain ⟨a, vs, ns, rfl, rfl, hobj, hints, hlen⟩ := script_of hn hpre hwl
  refine enter_call (codeAny_mono (call w s₀ s₁ mg mb fa o pm cd doc a vs ns G Y ho (fd_plain hd) hcd hmg hobj hints hlen hg) fun r s' hq => ?_)
  obtain ⟨rfl, h2, h3, h4⟩ := hq
  exact ⟨.inl ⟨.bool true, .bool true, [], rfl, fun _ => rfl, .bool true, post_true l _, fun _ => ⟨List.Pairwise.nil, fun _ hm => (nomatch hm)⟩⟩, h2, h3, h4⟩
section
variable {prog : Program} {w : World} {A : Around} {E : Value → Shared → Prop} {s : Shared} {K : Frag}
end
end Att
namespace L2
open PySem PySem.Spec PyProof.Rows
theorem vals_ints : ∀ {vs : List Value} {ns : List Int}, IntsAre vs ns → Vals (ns.map V.int) vs
  | _, _, .nil => .nil
  | _, _, .cons n t h => .cons ⟨t, rfl⟩ (vals_ints h)
def Only (H : Hp) : Prop := ∀ b, H b = none ∨ ∃ o xs, H b = some (.frz o (.lst xs))
theorem law_call {P : Program} {w : World} {K : PySem.W.Frag} {mg mb : Str → Option Value} {CX : CXT} {k : Nat} {fa a : Addr} {fd : FuncData} {x : Str} {sp : Sp} {s₁ : Shared} {vs : List Value} {ns : List Int}
    (KX : K.In s₁.heap) (hns : s₁.heap.Ns mainGlobals mg) (hb : s₁.heap.Ns builtinsNs mb) (hbb : ∀ x : Str, x ≠ "__name__" → mb x = bootBuiltins x) (hlim : s₁.heap.NoLimit) (hg : s₁.gens = #[])
    (ha : s₁.heap.get? a = some { cls := .type "list", data := .seq vs.toArray }) (hi : IntsAre vs ns) (hl : ns.length ≤ sizeLine) (hr : Room k callerA)
    (F : ∀ base : Heap, K.In base → base.Ns mainGlobals mg → FnOk P w K mg base CX k fa fd [x] sp) (hbind : ∀ (s : Shared) (u : Value), BindsTo s fd ⟨[u], []⟩ [(x, u)])
    (hsp : ∀ H : Hp, Only H → SqL K H a (ns.map V.int) → sp [.ref a] H (fun v _ => v = .bl true) fun _ _ _ => False)
    (hCX : ∀ H e s', CX [] H s₁ (fun _ _ _ => False) e s' → False) :
    codeAny (model P w) callerA (.call (.ref fa) ⟨[.ref a], []⟩) (fun r s' => r = .ok (.ret (.bool true)) ∧ OldK s₁.heap s'.heap ∧ s'.os = s₁.os ∧ AllBare s'.gens) s₁ := by
  have rv := vals_ints hi
  have lenV := hi.length
  have core : ∀ H : Hp, Only H → SqL K H a (ns.map V.int) → HOk P w H s₁.heap → (∀ b, H b ≠ none → b = a) → (H a ≠ none → K.lookup a = none) →
      codeAny (model P w) callerA (.call (.ref fa) ⟨[.ref a], []⟩) (fun r s' => r = .ok (.ret (.bool true)) ∧ OldK s₁.heap s'.heap ∧ s'.os = s₁.os ∧ AllBare s'.gens) s₁ := by
    intro H hO hS hok hA hK
    have base_of : ∀ {b : Addr} {o : Obj}, s₁.heap.get? b = some o → H b = none → (hidT s₁.heap H).get? b = some o := fun e n => hidT_get e n
    have noA : ∀ {b : Addr} {o : Obj} {es : Array DictEntry} {ep : Nat}, s₁.heap.get? b = some o → o.data = .dict es ep → H b = none := fun {b o es ep} e d => by
      cases q : H b with
      | none => rfl
      | some u =>
        have e' : b = a := hA b (by rw [q]; simp)
        subst e'
        rw [ha] at e; cases e
        have d' : Data.seq vs.toArray _ = Data.dict es ep := d
        cases d'
    have nsK : ∀ {b : Addr} {m : Str → Option Value}, s₁.heap.Ns b m → (hidT s₁.heap H).Ns b m := fun {b m} ⟨o, es, ep, e, d, r⟩ => ⟨o, es, ep, base_of e (noA e d), d, r⟩
    have hKb : K.In (hidT s₁.heap H) := fun b o e => base_of (KX b o e) (by
      cases q : H b with
      | none => rfl
      | some u =>
        have e' : b = a := hA b (by rw [q]; simp)
        subst e'
        rw [hK (by rw [q]; simp)] at e; cases e)
    have hM : Mod K mg (hidT s₁.heap H) := ⟨hKb, nsK hns, ⟨mb, nsK hb, hbb⟩, let ⟨mc, h1, h2⟩ := hlim; ⟨mc, nsK h1, h2⟩⟩
    have e0 : Env0 P w K mg (hidT s₁.heap H) callerA [] s₁ H := ⟨rfl, hM, fun b o e => of_hidT e, Nat.le_of_eq (hidT_size _ _), trivial, fun b hb => absurd (show b ∈ ([] : List Addr) from hb) (by simp), hok, .of_eq hg⟩
    refine codeAny_mono ((F _ hKb (nsK hns)).run callerA [] s₁ H ⟨[.ref a], []⟩ [.ref a] [.ref a] _ _ hr e0 (hbind s₁ (.ref a)) (.cons rfl .nil) (hsp H hO hS)) fun r s' h => ?_
    cases r with
    | error e => exact (hCX H e s' h).elim
    | ok fl =>
      cases fl with
      | next => exact False.elim h
      | brk => exact False.elim h
      | cont => exact False.elim h
      | ret u =>
        obtain ⟨v, H', os, bare, un, hok', r', q⟩ := h
        have q' : v = .bl true := q
        subst q'
        obtain rfl : u = Value.bool true := r'
        refine ⟨rfl, OldK.of_keep fun b o e => ?_, os, bare⟩
        cases q : H b with
        | none => exact un.keep b o e q (by intro z; exact absurd (show b ∈ ([] : List Addr) from z) (by simp)) (by simp)
        | some u =>
          rcases hO b with z | ⟨ob, xs, z⟩
          · rw [q] at z; cases z
          · have z2 := un.frzs b ob _ z
            obtain ⟨e1, _⟩ := hok b _ z
            obtain ⟨e2, _⟩ := hok' b _ z2
            rw [e] at e1; cases e1
            exact e2
  cases hk : K.lookup a with
  | some o =>
    have e := KX a o hk
    rw [ha] at e
    cases e
    refine core (fun _ => none) (fun _ => .inl rfl) (.inr ⟨_, vs.toArray, _, hk, rfl, rfl, rfl, by rw [List.size_toArray, lenV]; exact hl, by simpa using rv⟩) (fun b u z => by have z' : (none : Option HO) = some u := z; cases z') (fun b z => absurd rfl z) fun z => absurd rfl z
  | none =>
    refine core (fun b => if b = a then some (.frz { cls := .type "list", data := .seq vs.toArray } (.lst (ns.map V.int))) else none) (fun b => ?_) (.inl (.inr ⟨{ cls := .type "list", data := .seq vs.toArray }, if_pos rfl⟩)) (fun b u z => ?_) (fun b z => ?_) fun _ => hk
    · by_cases hb : b = a
      · exact .inr ⟨_, _, if_pos hb⟩
      · exact .inl (if_neg hb)
    · by_cases hb : b = a
      · have z' := (if_pos hb).symm.trans z
        cases z'
        subst hb
        exact ⟨ha, by rw [List.length_map]; exact hl, vs, _, rv, ha⟩
      · have z' := (if_neg hb).symm.trans z
        cases z'
    · by_cases hb : b = a
      · exact hb
      · exact absurd (if_neg hb) z
end L2
namespace L2
open PySem PySem.Spec PyProof.Rows
theorem walk_of {l : PySem.W.OpenLaw} {n k : Nat} {q : Program} {loose : List Str} {XP : (Str → Option Value) → Heap → Prop} {YP : World → Heap → Prop} {d : DefRec} {K : Params → PySem.W.Frag} {CX : World → CXT} {sp : World → Sp} {x : Str}
    (hn : l.most = some n) (hn2 : n ≤ sizeLine) (hdf : d.params.defaults = []) (hr : Room k callerA)
    (hY : ∀ (w : World) (h : Heap), YP w h → (K w.params).In h)
    (F : ∀ (w : World) (mg : Str → Option Value) (fa : Addr) (h : Heap), (K w.params).In h → h.Ns mainGlobals mg → mg d.name = some (.ref fa) →
      ∃ fd : FuncData, (∀ (s : Shared) (u : Value), BindsTo s fd ⟨[u], []⟩ [(x, u)]) ∧
        ∀ base : Heap, (K w.params).In base → base.Ns mainGlobals mg → FnOk l.prog w (K w.params) mg base (CX w) k fa fd [x] (sp w))
    (hsp : ∀ (w : World) (H : Hp) (a : Addr) (ns : List Int), ns.length ≤ n → Only H → SqL (K w.params) H a (ns.map V.int) → sp w [.ref a] H (fun v _ => v = .bl true) fun _ _ _ => False)
    (hCX : ∀ (w : World) (H : Hp) (s : Shared) (e : Value) (s' : Shared), CX w [] H s (fun _ _ _ => False) e s' → False) :
    PySem.W.WalkO q loose XP YP l.row.toRowW d [] (fun f vs => PySem.call f vs) := by
  refine Att.attach_call hn hdf fun w s₀ s₁ mg mb fa o pm cd doc a vs ns G Y ho hd hcd hmg hobj hints hlen hg => ?_
  have KX := hY w _ Y
  obtain ⟨fd, hb, hF⟩ := F w mg fa _ KX G.T.g hmg
  exact law_call KX G.T.g G.T.b G.T.builtins G.T.nolimit hg hobj hints (Nat.le_trans hlen hn2) hr hF hb (fun H hO hS => hsp w H a ns hlen hO hS) fun H e s' => hCX w H s₁ e s'
end L2
namespace L2
open PySem PySem.Spec PyProof.Rows
def defArgs (s : Stmt) : Arguments := match s with
  | .FunctionDef _ a _ _ _ _ _ _ _ _ => a
  | _ => { posonlyargs := [], args := [], vararg := none, kwonlyargs := [], kw_defaults := [], kwarg := none, defaults := [] }
def defBody (s : Stmt) : List Stmt := match s with
  | .FunctionDef _ _ b _ _ _ _ _ _ _ => b
  | _ => []
def defScope (s : Stmt) : Scope := match s with
  | .FunctionDef _ _ _ _ _ _ sc _ _ _ => sc
  | _ => { kind := .function, names := [], isGenerator := false, isCoroutine := false }
abbrev CX0 : CXT := fun _ _ _ _ _ _ => False
abbrev E0 : XK := fun _ _ _ => False
theorem pass0 {X : Cx} : Passes CX0 X E0 := fun _ _ _ _ _ _ _ h => h.elim
structure Fun (K : PySem.W.Frag) (x qual : Str) (st : Stmt) (f : Addr) (fd : FuncData) : Prop where
  ex : ∃ (oc : Value) (od : Option Addr) (kV doc pm : Value) (an : Option Addr) (cdv ct : Value) (osl : Array (Option Value)),
    fd = PySem.W.fnOf x qual (defArgs st) (defBody st) (defScope st) .none kV doc pm an cdv ct ∧ K.lookup f = some ⟨oc, od, .func fd, osl⟩ ∧ PySem.W.codeIn K cdv qual = true
  kp : PySem.W.keepIn K (.ref f) = true
section
variable {P : Program} {w : World} {K : PySem.W.Frag} {mg : Str → Option Value} {base : Heap}
theorem Fun.ok {x qual : Str} {st : Stmt} {f : Addr} {fd : FuncData} {N ps : List Str} {k : Nat} {sp : Sp} (F : Fun K x qual st f fd) (S : FnScope N ps (defScope st)) (len : ∀ vs H Q E, sp vs H Q E → vs.length = ps.length)
    (hbody : ∀ (cdv : Value) (A : Around) (outer : List Env) (s : Shared) (H : Hp) (vs : List V) (Q : VK) (E : XK), Room k (A.deeper (envOfC qual (defScope st) s.heap.objs.size f cdv)) → sp vs H Q E →
      ∃ t, PSs (cxOf CX0 P w K mg base N qual (defScope st) f cdv A outer s H E).nox (defBody st) t ∧ t { nx := fun _ H' => Q .non H', rt := Q } (start N vs) H) : FnOk P w K mg base CX0 (k + 1) f fd ps sp := by
  obtain ⟨oc, od, kV, doc, pm, an, cdv, ct, osl, rfl, lk, hcd⟩ := F.ex
  refine fn_of lk hcd S len fun A outer s H vs Q E hr hsp => ?_
  obtain ⟨t, h, q⟩ := hbody cdv A outer s H vs Q E hr hsp
  exact ⟨t, h.nox, q⟩
theorem Fun.binds {x qual : Str} {st : Stmt} {f : Addr} {fd : FuncData} {ps : List Str} (F : Fun K x qual st f fd)
    (h : ∀ (kV doc pm : Value) (an : Option Addr) (cdv ct : Value) (us : List Value), us.length = ps.length → bindArgs (PySem.W.fnOf x qual (defArgs st) (defBody st) (defScope st) .none kV doc pm an cdv ct) ⟨us, []⟩ = pure (ps.zip us)) : Binds K fd ps [] := by
  obtain ⟨oc, od, kV, doc, pm, an, cdv, ct, osl, rfl, lk, hcd⟩ := F.ex
  exact .all (h kV doc pm an cdv ct)
theorem fun_mk {x qual : Str} {st : Stmt} {f : Addr} {oc : Value} {od an : Option Addr} {osl : Array (Option Value)} {kV doc pm cdv ct : Value} (l : K.lookup f = some ⟨oc, od, .func (PySem.W.fnOf x qual (defArgs st) (defBody st) (defScope st) .none kV doc pm an cdv ct), osl⟩)
    (c : PySem.W.codeIn K cdv qual = true) (k : PySem.W.keepIn K (.ref f) = true) : Fun K x qual st f (PySem.W.fnOf x qual (defArgs st) (defBody st) (defScope st) .none kV doc pm an cdv ct) := ⟨⟨oc, od, kV, doc, pm, an, cdv, ct, osl, rfl, l, c⟩, k⟩
end
theorem hu_of {A : Around} {k : Nat} (hr : Room k A) : A.units + 1 < cLine := Nat.lt_of_le_of_lt (Nat.add_le_add_left (by decide : 1 ≤ 64) _) hr.units
section
variable {X : Cx}
theorem pv (i : Nat) {x : Str} {pos : Pos} (hN : X.N[i]? = some x := by rfl) (hv : Vis X.env.scope x := by first | exact Or.inl rfl | exact Or.inr (Or.inl rfl) | exact Or.inr (Or.inr rfl)) (hd : (x == ("__debug__" : Str)) = false := by decide)
    (hcd : (x == ("__classdict__" : Str)) = false := by decide) : PE X (.Name x pos) (tVar i) := pe_var hN hv hd hcd
end
theorem iteF {A B : Prop} (h : B) : if false = true then A else B := by
  rw [if_neg Bool.false_ne_true]
  exact h
theorem iteT {A B : Prop} (h : A) : if true = true then A else B := by
  rw [if_pos rfl]
  exact h
theorem ite2 {c A B : Prop} [Decidable c] (h1 : c → A) (h2 : ¬ c → B) : if c then A else B := by
  by_cases h : c
  · rw [if_pos h]
    exact h1 h
  · rw [if_neg h]
    exact h2 h
def Same (H H' : Hp) : Prop := ∀ b o, H b = some o → H' b = some o
theorem Same.refl (H : Hp) : Same H H := fun _ _ h => h
theorem Same.trans {H H1 H2 : Hp} (a : Same H H1) (b : Same H1 H2) : Same H H2 := fun c o h => b c o (a c o h)
theorem Same.free {H H' : Hp} (e : Same H H') {l : Addr} (h : H' l = Option.none) : H l = Option.none := by
  cases q : H l with
  | none => rfl
  | some o =>
    rw [e l o q] at h
    cases h
theorem Same.seq {K : PySem.W.Frag} {H H' : Hp} {a : Addr} {xs : List V} (e : Same H H') (h : SqL K H a xs) : SqL K H' a xs := by
  rcases h with (h | ⟨o, h⟩) | h
  · exact .inl (.inl (e _ _ h))
  · exact .inl (.inr ⟨o, e _ _ h⟩)
  · exact .inr h
end L2
namespace L2
open PySem PySem.Spec PyProof.Rows
section
variable {κ : Type} [DecidableEq κ]
def valV (kvs : List (κ × V)) (k : κ) : Option V := (kvs.find? fun kv => decide (kv.1 = k)).map (·.2)
def putK (kvs : List (κ × V)) (k : κ) (v : V) : List (κ × V) :=
  if (kvs.any fun kv => decide (kv.1 = k)) = true then kvs.map (fun kv => if kv.1 = k then (kv.1, v) else kv) else kvs ++ [(k, v)]
theorem valV_nil {k : κ} : valV ([] : List (κ × V)) k = none := rfl
theorem valV_pos {p : κ × V} {r : List (κ × V)} {k : κ} (e : p.1 = k) : valV (p :: r) k = some p.2 := by simp [valV, List.find?_cons, e]
theorem valV_neg {p : κ × V} {r : List (κ × V)} {k : κ} (e : ¬ p.1 = k) : valV (p :: r) k = valV r k := by simp [valV, List.find?_cons, e]
theorem valV_any (k : κ) : ∀ kvs : List (κ × V), (kvs.any fun kv => decide (kv.1 = k)) = (valV kvs k).isSome
  | [] => rfl
  | p :: r => by
    rw [List.any_cons]
    by_cases e : p.1 = k
    · simp only [valV_pos e, decide_eq_true e, Bool.true_or, Option.isSome_some]
    · rw [valV_neg e, decide_eq_false e, Bool.false_or]; exact valV_any k r
theorem valV_map (k j : κ) (y : V) : ∀ kvs : List (κ × V), valV (kvs.map fun kv => if kv.1 = k then (kv.1, y) else kv) j = (valV kvs j).map fun x => if j = k then y else x
  | [] => rfl
  | p :: r => by
    have ih := valV_map k j y r
    rw [List.map_cons]
    by_cases h : p.1 = k
    · rw [if_pos h]
      by_cases e : p.1 = j
      · rw [valV_pos (p := (p.1, y)) e, valV_pos e, Option.map_some, if_pos (e.symm.trans h)]
      · rw [valV_neg (p := (p.1, y)) e, valV_neg e, ih]
    · rw [if_neg h]
      by_cases e : p.1 = j
      · rw [valV_pos (p := p) e, valV_pos e, Option.map_some, if_neg (fun z => h (e.trans z))]
      · rw [valV_neg (p := p) e, valV_neg e, ih]
theorem valV_snoc (k j : κ) (y : V) : ∀ kvs : List (κ × V), valV kvs k = none → valV (kvs ++ [(k, y)]) j = if j = k then some y else valV kvs j
  | [], _ => by
    by_cases e : k = j
    · rw [if_pos e.symm]; exact valV_pos (p := (k, y)) e
    · rw [if_neg (fun z => e z.symm)]; exact valV_neg (p := (k, y)) e
  | p :: r, hn => by
    rw [List.cons_append]
    have hk : ¬ p.1 = k := fun z => by rw [valV_pos z] at hn; cases hn
    rw [valV_neg hk] at hn
    have ih := valV_snoc k j y r hn
    by_cases e : p.1 = j
    · rw [valV_pos e, valV_pos e, if_neg (fun z => hk (e.trans z))]
    · rw [valV_neg e, valV_neg e, ih]
theorem valV_put (kvs : List (κ × V)) (k j : κ) (y : V) : valV (putK kvs k y) j = if j = k then some y else valV kvs j := by
  unfold putK
  by_cases a : (kvs.any fun kv => decide (kv.1 = k)) = true
  · rw [if_pos a, valV_map]
    rw [valV_any] at a
    by_cases e : j = k
    · obtain ⟨x, hx⟩ := Option.isSome_iff_exists.mp a
      rw [if_pos e, e, hx, Option.map_some, if_pos rfl]
    · rw [if_neg e]
      cases valV kvs j with
      | none => rfl
      | some x => rw [Option.map_some, if_neg e]
  · rw [if_neg a]
    refine valV_snoc k j y kvs ?_
    rw [valV_any] at a
    cases q : valV kvs k with
    | none => rfl
    | some x => rw [q] at a; exact (a rfl).elim
theorem length_putK (kvs : List (κ × V)) (k : κ) (v : V) : (putK kvs k v).length ≤ kvs.length + 1 := by
  unfold putK
  split
  · rw [List.length_map]; omega
  · rw [List.length_append, List.length_cons, List.length_nil]; omega
theorem RelO.isSome_eq {o : Option V} {u : Option Value} (r : RelO o u) : o.isSome = u.isSome := by
  cases o with
  | none => cases u with
    | none => rfl
    | some _ => exact (show False from r).elim
  | some _ => cases u with
    | none => exact (show False from r).elim
    | some _ => rfl
theorem KV.val {kvs : List (κ × V)} {vs : List (κ × Value)} (r : KV kvs vs) (k : κ) : RelO (valV kvs k) (valueAt vs k) := by
  unfold KV at r
  induction r with
  | nil => exact True.intro
  | @cons p q ps qs h t ih =>
    obtain ⟨h1, h2⟩ := h
    by_cases e : p.1 = k
    · have e' : q.1 = k := h1.symm.trans e
      have b : valueAt (q :: qs) k = some q.2 := by simp [valueAt, List.find?_cons, e']
      rw [valV_pos e, b]; exact h2
    · have e' : ¬ q.1 = k := fun z => e (h1.trans z)
      have b : valueAt (q :: qs) k = valueAt qs k := by simp [valueAt, List.find?_cons, e']
      rw [valV_neg e, b]; exact ih
theorem KV.any {kvs : List (κ × V)} {vs : List (κ × Value)} (r : KV kvs vs) (k : κ) : (kvs.any fun kv => decide (kv.1 = k)) = vs.any fun kv => decide (kv.1 = k) := by
  unfold KV at r
  induction r with
  | nil => rfl
  | cons h t ih => rw [List.any_cons, List.any_cons, ih, h.1]
theorem KV.repl {kvs : List (κ × V)} {vs : List (κ × Value)} (r : KV kvs vs) (k : κ) {y : V} {u : Value} (ry : RelV y u) :
    KV (kvs.map fun kv => if kv.1 = k then (kv.1, y) else kv) (vs.map fun kv => if kv.1 = k then (kv.1, u) else kv) := by
  unfold KV at r ⊢
  induction r with
  | nil => exact .nil
  | @cons p q ps qs h t ih =>
    rw [List.map_cons, List.map_cons]
    refine .cons ?_ ih
    obtain ⟨h1, h2⟩ := h
    by_cases e : p.1 = k
    · rw [if_pos e, if_pos (h1.symm.trans e)]; exact ⟨h1, ry⟩
    · rw [if_neg e, if_neg (fun z => e (h1.trans z))]; exact ⟨h1, h2⟩
theorem KV.put {kvs : List (κ × V)} {vs : List (κ × Value)} (r : KV kvs vs) (k : κ) {y : V} {u : Value} (ry : RelV y u) : KV (putK kvs k y) (stored vs k u) := by
  unfold putK stored
  rw [r.any k]
  by_cases e : (vs.any fun kv => decide (kv.1 = k)) = true
  · rw [if_pos e, if_pos e]; exact r.repl k ry
  · rw [if_neg e, if_neg e]; exact Paired.snoc r ⟨rfl, ry⟩
theorem KV.length {kvs : List (κ × V)} {vs : List (κ × Value)} (r : KV kvs vs) : kvs.length = vs.length := Paired.length r
end
theorem kV_is {P : Program} {w : World} {k : Key} {u : Value} (r : RelV (kV k) u) : (mixKind P w).is k u = true := by
  cases k with
  | inl i => obtain ⟨t, e⟩ := (show ∃ t, u = Value.int i t from r); subst e; exact mixKind_int P w i t
  | inr x => obtain ⟨t, e⟩ := (show ∃ t, u = Value.str x t from r); subst e; exact mixKind_str P w x t
theorem items_are {P : Program} {w : World} : ∀ {ks : List Key} {us : List Value}, Vals (ks.map kV) us → ItemsAre (mixKind P w) ks us
  | [], _, r => by rw [List.map_nil] at r; cases r; exact .nil
  | k :: ks, _, r => by
    rw [List.map_cons] at r
    cases r with
    | cons h t => exact .cons (kV_is h) (items_are t)
abbrev KT (H : Hp) : List (List Key × V) → List (List Key × Addr × Value) → Prop := Paired fun p q => p.1 = q.1 ∧ H q.2.1 = some (.tup (p.1.map kV)) ∧ RelV p.2 q.2.2
theorem KT.val {H : Hp} {kvs : List (List Key × V)} {xs : List (List Key × Addr × Value)} (r : KT H kvs xs) (k : List Key) : RelO (valV kvs k) ((atKey xs k).map (·.2)) := by
  induction r with
  | nil => exact True.intro
  | @cons p q ps qs h t ih =>
    obtain ⟨h1, _, h2⟩ := h
    by_cases e : p.1 = k
    · have e' : q.1 = k := h1.symm.trans e
      have b : atKey (q :: qs) k = some q.2 := by simp [atKey, List.find?_cons, e']
      rw [valV_pos e, b]; exact h2
    · have e' : ¬ q.1 = k := fun z => e (h1.trans z)
      have b : atKey (q :: qs) k = atKey qs k := by simp [atKey, List.find?_cons, e']
      rw [valV_neg e, b]; exact ih
section
variable {P : Program} {w : World} {H : Hp} {h : Heap} {a : Addr}
theorem rd_of {u : HO} (ok : HOk P w H h) (e : Rd H a u) : ObjOk P w H h a u := e.ok ok
theorem dk_rd {kvs : List (Key × V)} (ok : HOk P w H h) (e : Rd H a (.dK kvs)) : kvs.length ≤ sizeLine ∧ (a == sysModules) = false ∧ ∃ vs, KV kvs vs ∧ h.DictOf (mixKind P w) a vs :=
  show ObjOk P w H h a (.dK kvs) from rd_of ok e
theorem key_of {ks : List Key} (ok : HOk P w H h) (e : H a = some (.tup (ks.map kV))) : (tupleKind (mixKind P w)).is h ks a := by
  obtain ⟨_, its, r, o, h1, h2, n, h3⟩ := (show ObjOk P w H h a (.tup (ks.map kV)) from ok a _ e)
  exact ⟨o, its.toArray, n, h1, h2, h3, by simpa using items_are r⟩
theorem dt_rd {kvs : List (List Key × V)} (ok : HOk P w H h) (e : Rd H a (.dT kvs)) : kvs.length ≤ sizeLine ∧ (a == sysModules) = false ∧
    ∃ xs, KT H kvs xs ∧ h.DictOfH (tupleKind (mixKind P w)) a xs := by
  obtain ⟨z, y, xs, r, o, es, ep, h1, h2, h3, h4, h5⟩ := (show ObjOk P w H h a (.dT kvs) from rd_of ok e)
  refine ⟨z, y, xs, r, o, es, ep, h1, h2, h3, h4, fun x hx => ?_, h5⟩
  have all : ∀ {l : List (List Key × V)} {m : List (List Key × Addr × Value)}, KT H l m → ∀ x ∈ m, (tupleKind (mixKind P w)).is h x.1 x.2.1 := by
    intro l m q
    induction q with
    | nil => intro x hx; exact nomatch hx
    | @cons p q ps qs hq t ih =>
      intro x hx
      rcases List.mem_cons.mp hx with e | hx
      · subst e
        exact key_of ok (by rw [← hq.1]; exact hq.2.1)
      · exact ih x hx
  exact all r x hx
end
def DGet (H : Hp) (a : Addr) (y : V) (r : Option V) : Prop :=
  (∃ kvs k, Rd H a (.dK kvs) ∧ y = kV k ∧ r = valV kvs k) ∨ ∃ kvs k b, Rd H a (.dT kvs) ∧ y = .ref b ∧ H b = some (.tup (k.map kV)) ∧ r = valV kvs k
theorem DGet.k {H : Hp} {a : Addr} {kvs : List (Key × V)} {k : Key} (e : H a = some (.dK kvs)) : DGet H a (kV k) (valV kvs k) := .inl ⟨kvs, k, .inl e, rfl, rfl⟩
section
variable {X : Cx} {pins : List (Addr × Obj)} {σ : St} {H : Hp} {s : Shared} {a : Addr} {y v : V} {u r : Value} {o : Option V} {A : Around} {E : Value → Shared → Prop}
theorem Inv.big (I : Inv X pins σ H s) : sysModules < s.heap.objs.size := by
  have h : mainGlobals < s.heap.objs.size := (I.mod.glob.keeps I.bk).lt
  exact Nat.lt_trans (by decide) h
theorem d_in {Q : Value → Shared → Prop} (hu : A.units + 1 < cLine) (I : Inv X pins σ H s) (g : DGet H a y o) (ry : RelV y u) (h : ∀ s', Inv X pins σ H s' → Q (.bool o.isSome) s') :
    wpAny (model X.prog X.w) A (compareOp .In u (.ref a)) Q E s := by
  rcases g with ⟨kvs, k, e, ey, l⟩ | ⟨kvs, k, b, e, ey, eb, l⟩
  · subst ey
    obtain ⟨z, hd, vs, rel, dd⟩ := dk_rd I.hok e
    refine wpAny_in_of (kV_is ry) hd dd.mapOf ?_
    rw [← (rel.val k).isSome_eq, ← l]
    exact h _ (I.tok _)
  · subst ey
    cases (show u = Value.ref b from ry)
    obtain ⟨z, hd, xs, rel, dd⟩ := dt_rd I.hok e
    refine wpAny_in_heap (tupleKind_room_in1 hu) (key_of I.hok eb) hd dd ?_
    have q := (rel.val k).isSome_eq
    rw [Option.isSome_map] at q
    rw [← q, ← l]
    exact h _ (I.tok _)
theorem dk_new {P : Program} {w : World} {H' : Hp} {h' : Heap} {kvs : List (Key × V)} {vs : List (Key × Value)} (z : kvs.length ≤ sizeLine) (hd : (a == sysModules) = false) (rel : KV kvs vs) (dd : h'.DictOf (mixKind P w) a vs) :
    ObjOk P w H' h' a (.dK kvs) := ⟨z, hd, vs, rel, dd⟩
end
section
variable {X : Cx} {pins : List (Addr × Obj)} {σ : St} {H : Hp} {s : Shared} {a : Addr} {kvs : List (Key × V)} {k : Key} {u : Value} {A : Around} {E : Value → Shared → Prop}
end
def tDIn (ty td : TE) : TE := fun σ H Q => ty σ H fun y H1 => td σ H1 fun x H2 => ∃ a o, x = .ref a ∧ DGet H2 a y o ∧ Q (.bl o.isSome) H2
section
variable {X : Cx} {o i e value : Expr} {pos pos' tpos : Pos} {td ty tv : TE}
theorem pc_din (hu : X.A.units + 1 < cLine) (hi : PE X i ty) (ho : PE X o td) : PC X .In i o (tDIn ty td) := by
  intro pins s σ H Q I h
  refine thn (hi pins s σ H _ I h) fun iv s1 ⟨y, H1, I1, ry, q1⟩ => thn (ho pins s1 σ H1 _ I1 q1) fun u s2 ⟨x, H2, I2, rx, a, ov, ex, g, q2⟩ => ?_
  subst ex
  obtain rfl : u = Value.ref a := rx
  exact d_in hu I2 g ry fun s3 I3 => ⟨.bl ov.isSome, H2, I3, rfl, q2⟩
end
section
variable {X : Cx} {pos : Pos}
end
def mergeK (kvs more : List (Key × V)) : List (Key × V) := more.foldl (fun acc kv => putK acc kv.1 kv.2) kvs
theorem KV.merge : ∀ {more : List (Key × V)} {rs : List (Key × Value)} {kvs : List (Key × V)} {vs : List (Key × Value)}, KV more rs → KV kvs vs → KV (mergeK kvs more) (merged vs rs) := by
  intro more rs kvs vs r
  unfold KV at r
  induction r generalizing kvs vs with
  | nil => intro q; exact q
  | @cons p q ps qs h t ih =>
    intro r0
    have e : KV (putK kvs p.1 p.2) (stored vs q.1 q.2) := by
      have := r0.put p.1 h.2
      rw [← h.1]; exact this
    exact ih e
theorem length_mergeK : ∀ (more kvs : List (Key × V)), (mergeK kvs more).length ≤ kvs.length + more.length
  | [], kvs => by show kvs.length ≤ kvs.length + 0; omega
  | p :: r, kvs => by
    have h1 := length_mergeK r (putK kvs p.1 p.2)
    have h2 := length_putK kvs p.1 p.2
    show (mergeK (putK kvs p.1 p.2) r).length ≤ _
    rw [List.length_cons]; omega
section
variable {X : Cx} {pins : List (Addr × Obj)} {σ : St} {H : Hp} {s : Shared} {a : Addr} {y d : V} {u r : Value} {o : Option V} {A : Around} {E : Value → Shared → Prop}
end
section
variable {X : Cx} {o e f : Expr} {apos cpos : Pos} {td ty tx : TE}
end
section
variable {X : Cx} {pins : List (Addr × Obj)} {σ : St} {H : Hp} {s : Shared} {a : Addr} {kvs : List (Key × V)} {A : Around} {E : Value → Shared → Prop}
end
section
variable {X : Cx} {pins : List (Addr × Obj)} {σ : St} {H : Hp} {s : Shared} {a : Addr} {y : V} {u : Value} {A : Around} {E : Value → Shared → Prop}
end
end L2
namespace L2
open PySem PySem.Spec PyProof.Rows
section
variable {κ : Type} [DecidableEq κ]
end
end L2
namespace L2
open PySem PySem.Spec PyProof.Rows
def cxC (X : Cx) (N : List Str) (scope : Scope) (cl : List (Str × Addr)) (C : Addr) (s0 : Shared) (H0 : Hp) (ex : List Addr) : Cx :=
  { X with N := N, s₀ := s0, H₀ := H0, env := compEnvC scope cl C X.env, outer := X.stack, stack := X.stack, ex := ex, fn := fun _ => false, pn := [], xe := fun _ _ => False }
theorem closure_ok {env : Env} (has : ∀ x, (env.kindOf x = some .cell ∨ env.kindOf x = some .free) → ∃ c, env.cells.lookup x = some c) {scope : Scope}
    (hf : ∀ y ∈ scope.names, y.2 = .free → env.kindOf y.1 = some .cell ∨ env.kindOf y.1 = some .free) :
    ∃ cl, closureFor scope env = pure cl ∧ (∀ x c, cl.lookup x = some c → env.cells.lookup x = some c) ∧ (∀ y ∈ scope.names, y.2 = .free → ∃ c, cl.lookup y.1 = some c) := by
  have gen : ∀ (names : List (Str × NameKind)) (cs : List (Str × Addr)), (∀ y ∈ names, y.2 = .free → env.kindOf y.1 = some .cell ∨ env.kindOf y.1 = some .free) →
      (∀ x c, cs.lookup x = some c → env.cells.lookup x = some c) →
      ∃ cl, (forIn (m := Sem) names cs fun p r => do
          match p with
          | (name, kind) => if kind == .free then do let c ← cellOf env name; pure (ForInStep.yield ((name, c) :: r)) else pure (ForInStep.yield r)) = pure cl ∧
        (∀ x c, cl.lookup x = some c → env.cells.lookup x = some c) ∧ (∀ x c, cs.lookup x = some c → ∃ c, cl.lookup x = some c) ∧ (∀ y ∈ names, y.2 = .free → ∃ c, cl.lookup y.1 = some c) := by
    intro names
    induction names with
    | nil => intro cs _ h; exact ⟨cs, rfl, h, fun x c e => ⟨c, e⟩, fun y hy => nomatch hy⟩
    | cons p r ih =>
      intro cs hp h
      obtain ⟨n, k⟩ := p
      by_cases hk : k = .free
      · subst hk
        obtain ⟨c, hc⟩ := has n (hp (n, .free) List.mem_cons_self rfl)
        have h' : ∀ x d, ((n, c) :: cs).lookup x = some d → env.cells.lookup x = some d := by
          intro x d e
          rw [List.lookup_cons] at e
          cases hx : x == n with
          | true =>
            rw [hx] at e
            have : x = n := by simpa using hx
            cases e; rw [this]; exact hc
          | false => rw [hx] at e; exact h x d e
        obtain ⟨cl, e1, e2, e3, e4⟩ := ih ((n, c) :: cs) (fun y hy => hp y (List.mem_cons_of_mem _ hy)) h'
        have hn : ∃ d, cl.lookup n = some d := e3 n c (by simp [List.lookup_cons])
        refine ⟨cl, ?_, e2, fun x d e => ?_, fun y hy hyk => ?_⟩
        · rw [List.forIn_cons]
          have : cellOf env n = pure c := by unfold cellOf; rw [hc]
          simp only [beq_self_eq_true, if_true, this]
          exact e1
        · by_cases hx : x = n
          · subst hx; exact hn
          · exact e3 x d (by rw [List.lookup_cons]; have : (x == n) = false := by simpa using hx
                             rw [this]; exact e)
        · rcases List.mem_cons.mp hy with rfl | hy
          · exact hn
          · exact e4 y hy hyk
      · obtain ⟨cl, e1, e2, e3, e4⟩ := ih cs (fun y hy => hp y (List.mem_cons_of_mem _ hy)) h
        refine ⟨cl, ?_, e2, e3, fun y hy hyk => ?_⟩
        · rw [List.forIn_cons]
          have : (k == NameKind.free) = false := by simpa using hk
          simp only [this]
          exact e1
        · rcases List.mem_cons.mp hy with rfl | hy
          · exact absurd hyk hk
          · exact e4 y hy hyk
  obtain ⟨cl, e1, e2, _, e4⟩ := gen scope.names [] hf (fun x c e => nomatch e)
  refine ⟨cl, ?_, e2, e4⟩
  unfold closureFor
  simp only []
  exact congrArg (· >>= fun cs => pure cs) e1 |>.trans rfl
end L2
namespace L2
open PySem PySem.Spec PyProof.Rows
theorem relabel_kind {scope : Scope} {env : Env} {x : Str} {k : NameKind} (h : (relabel scope env).names.lookup x = some k) (hk : k = .cell ∨ k = .free) (nc : ∀ y ∈ scope.names, y.2 ≠ .cell) : ∃ y ∈ scope.names, y.1 = x ∧ y.2 = .free := by
  have gen : ∀ names : List (Str × NameKind), (names.map fun (n, k) => if (k == NameKind.free && env.scope.kind == .function && env.kindOf n == some .cell) then (n, NameKind.cell) else (n, k)).lookup x = some k → (∀ y ∈ names, y.2 ≠ .cell) →
      ∃ y ∈ names, y.1 = x ∧ y.2 = .free := by
    intro names
    induction names with
    | nil => intro h _; cases h
    | cons p r ih =>
      obtain ⟨n, j⟩ := p
      intro h nc
      rw [List.map_cons, List.lookup_cons] at h
      have e1 : (if (j == NameKind.free && env.scope.kind == .function && env.kindOf n == some .cell) = true then (n, NameKind.cell) else (n, j)).1 = n := by split <;> rfl
      dsimp only at h
      rw [e1] at h
      cases hx : x == n with
      | false =>
        rw [hx] at h
        obtain ⟨y, hy, q⟩ := ih h fun y hy => nc y (List.mem_cons_of_mem _ hy)
        exact ⟨y, List.mem_cons_of_mem _ hy, q⟩
      | true =>
        rw [hx] at h
        have ex : x = n := by simpa using hx
        have hj : j = .free := by
          by_cases hc : (j == NameKind.free && env.scope.kind == .function && env.kindOf n == some .cell) = true
          · have := (Bool.and_eq_true _ _).mp ((Bool.and_eq_true _ _).mp hc).1
            simpa using this.1
          · rw [if_neg hc] at h
            cases h
            rcases hk with z | z
            · exact absurd z (nc (n, j) List.mem_cons_self)
            · exact z
        exact ⟨(n, j), List.mem_cons_self, ex.symm, hj⟩
  exact gen scope.names h nc
section
variable {X : Cx} {pins : List (Addr × Obj)} {σ : St} {H : Hp} {s : Shared} {N : List Str} {scope : Scope} {cl : List (Str × Addr)} {C : Addr} {ex : List Addr}
theorem cxC_ok (I : Inv X pins σ H s) (hC : s.heap.objs.size ≤ C) (hkind : scope.kind = .function) (nc : ∀ y ∈ scope.names, y.2 ≠ .cell)
    (hcl : ∀ x c, cl.lookup x = some c → X.env.cells.lookup x = some c) (hcf : ∀ y ∈ scope.names, y.2 = .free → ∃ c, cl.lookup y.1 = some c)
    (hex : ∀ b ∈ ex, FpOk X pins H b) (hexl : ∀ b ∈ ex, b < s.heap.objs.size) : (cxC X N scope cl C s H ex).Ok where
  mod := I.ok.mod
  kind := hkind
  glob := I.ok.glob
  blt := I.ok.blt
  above := hC
  inj := fun x y c h1 h2 => I.ok.inj x y c (hcl x c h1) (hcl y c h2)
  has := fun x hx => by
    have hx' : ∃ k, (relabel scope X.env).names.lookup x = some k ∧ (k = .cell ∨ k = .free) := by
      rcases hx with h | h
      · exact ⟨_, h, .inl rfl⟩
      · exact ⟨_, h, .inr rfl⟩
    obtain ⟨k, h, hk⟩ := hx'
    obtain ⟨y, hy, e1, e2⟩ := relabel_kind h hk nc
    rw [← e1]
    exact hcf y hy e2
  cab := fun x c h => by cases h
  hd := I.ok.hd
  frames := I.ok.frames
  stk := .inl rfl
  exf := fun b hb => ⟨Nat.ne_of_lt (Nat.lt_of_lt_of_le (hexl b hb) hC), fun x c e => (hex b hb).2.2.2.2.1 x c (hcl x c e)⟩
  bs := I.bs
  bsz := Nat.le_trans I.ok.bsz I.sz
  noex := fun b o e hb => by
    rcases (hex b hb).2.2.2.1 with z | z
    · exact I.ok.noex b o e z
    · have h1 := Heap.lt_size e
      have h2 := I.ok.bsz
      exact absurd (Nat.lt_of_lt_of_le h1 (Nat.le_trans h2 z)) (Nat.lt_irrefl _)
  exfs := fun b hb z => by
    have h1 := I.stkSub b z
    rcases List.mem_cons.mp h1 with z | z
    · exact (hex b hb).2.1 z
    · exact (hex b hb).2.2.1 z
  funs := I.stack
  frf := I.stkFree
def capV (caps : List Nat) (σ : St) : St := caps.map fun j => (σ[j]?).join
def cSt (n : Nat) (caps : List Nat) (σ : St) : St := List.replicate n none ++ capV caps σ
theorem cxC_inv {caps : List Nat} {Nt Nf : List Str} {s1 : Shared} {m : Str → Option Value} (I : Inv X pins σ H s) (ok : (cxC X (Nt ++ Nf) scope cl C s H ex).Ok)
    (hcl : ∀ x c, cl.lookup x = some c → X.env.cells.lookup x = some c)
    (hcap : caps.map (fun j => X.N[j]?) = Nf.map some)
    (hvis : ∀ x ∈ Nf, scope.names.lookup x = some .free) (hXv : ∀ x ∈ Nf, X.env.kindOf x = some .cell ∨ X.env.kindOf x = some .free) (hcf : ∀ x ∈ Nf, ∃ c, cl.lookup x = some c)
    (hos : s1.os = s.os) (hgens : s1.gens = s.gens) (hk : ∀ b o, s.heap.get? b = some o → s1.heap.get? b = some o) (hns : s1.heap.Ns C m) (hC : s.heap.objs.size ≤ C) :
    Inv (cxC X (Nt ++ Nf) scope cl C s H ex) [] (cSt Nt.length caps σ) H s1 := by
  have hlen : caps.length = Nf.length := by
    have := congrArg List.length hcap
    simpa using this
  refine ⟨ok, hos, by rw [hgens]; exact I.bare, Un.kept hk, ⟨m, hns, fun i x v h1 h2 h3 => ?_⟩, fun x c e => ?_, I.hok.fresh hC, fun x c e => I.freeC x c (hcl x c e), fun p hp => absurd (show p ∈ ([] : List (Addr × Obj)) from hp) (by simp), I.hok.kept hk, ?_⟩
  · -- a captured name
    have hi : Nt.length ≤ i := by
      refine Nat.le_of_not_lt fun q => ?_
      unfold cSt at h2
      rw [List.getElem?_append_left (by simpa using q), List.getElem?_replicate] at h2
      split at h2 <;> cases h2
    have h1' : Nf[i - Nt.length]? = some x := by
      have : (Nt ++ Nf)[i]? = some x := h1
      rwa [List.getElem?_append_right hi] at this
    unfold cSt at h2
    rw [List.getElem?_append_right (by simpa using hi)] at h2
    have e0 : i - (List.replicate Nt.length (none : Option V)).length = i - Nt.length := by simp
    rw [e0] at h2
    generalize hj : i - Nt.length = j at h1' h2
    unfold capV at h2
    rw [List.getElem?_map] at h2
    cases hc : caps[j]? with
    | none => rw [hc] at h2; cases h2
    | some jj =>
      rw [hc] at h2
      have h2' : (σ[jj]?).join = some v := Option.some.inj h2
      have h2'' : σ[jj]? = some (some v) := by
        cases q : σ[jj]? with
        | none => rw [q] at h2'; cases h2'
        | some z => rw [q] at h2'; cases z with
          | none => cases h2'
          | some z' => cases h2'; rfl
      have hN : X.N[jj]? = some x := by
        have q := congrArg (fun l => l[j]?) hcap
        simp only [List.getElem?_map, hc, h1', Option.map_some] at q
        exact Option.some.inj q
      have hx : x ∈ Nf := List.mem_of_getElem? h1'
      have hXk := hXv x hx
      obtain ⟨mX, _, hl⟩ := I.loc
      obtain ⟨u, ru, lk⟩ := hl jj x v hN h2'' (by
        rcases hXk with z | z
        · exact .inr (.inl z)
        · exact .inr (.inr z))
      refine ⟨u, ru, .inr ?_⟩
      rcases lk with ⟨z, _⟩ | ⟨_, c, hc1, hcell⟩
      · rcases hXk with y | y <;> (rw [z] at y; cases y)
      · obtain ⟨c', hc'⟩ := hcf x hx
        have e := hcl x c' hc'
        rw [hc1] at e; cases e
        refine ⟨?_, c, hc', ?_⟩
        · rcases h3 with z | z | z
          · -- not a local of the block
            exfalso
            have hfree := hvis x hx
            have z' : (relabel scope X.env).names.lookup x = some .local := z
            have gen : ∀ names : List (Str × NameKind), names.lookup x = some .free → (names.map fun (n, k) => if (k == NameKind.free && X.env.scope.kind == .function && X.env.kindOf n == some .cell) then (n, NameKind.cell) else (n, k)).lookup x ≠ some .local := by
              intro names
              induction names with
              | nil => intro h; cases h
              | cons p r ih =>
                obtain ⟨n, k⟩ := p
                intro h
                rw [List.map_cons, List.lookup_cons]
                rw [List.lookup_cons] at h
                have e1 : (if (k == NameKind.free && X.env.scope.kind == .function && X.env.kindOf n == some .cell) = true then (n, NameKind.cell) else (n, k)).1 = n := by split <;> rfl
                dsimp only
                rw [e1]
                cases hx : x == n with
                | false => rw [hx] at h; exact ih h
                | true =>
                  rw [hx] at h
                  cases h
                  show some (if _ then (n, NameKind.cell) else (n, NameKind.free)).2 ≠ some .local
                  split <;> (intro q; cases q)
            exact gen scope.names hfree z'
          · exact .inl z
          · exact .inr z
        · obtain ⟨o, eo, d⟩ := hcell
          exact ⟨o, hk _ _ eo, d⟩
  · obtain ⟨v, q⟩ := I.cell x c (hcl x c e)
    obtain ⟨o, eo, d⟩ := q
    exact ⟨v, o, hk _ _ eo, d⟩
  · show (cSt Nt.length caps σ).length = (Nt ++ Nf).length
    unfold cSt capV
    simp [hlen]
end
end L2
namespace L2
open PySem PySem.Spec PyProof.Rows
abbrev askIfs (ifs : List Expr) (env : Env) : Sem Bool := forIn ifs true fun c r => if r = true then do let ok ← isTrue c env (eval c env); pure (ForInStep.yield ok) else pure (ForInStep.yield r)
abbrev NoX : Value → Shared → Prop := fun _ _ => False
theorem compLoop_any {P : Program} {w : World} {B : Around} {R : Result → Shared → Prop} {s : Shared} {y tg l : Expr} {cs : List Expr} {sc : Scope} {ps : Pos} {iv av : Value} {en : Env} (G : Nat → Shared → Prop)
    (one : ∀ n s, G n s → wpAny (model P w) B (pyNext iv) (fun r s1 => match r with
      | none => R (.ok .next) s1
      | some v => wpAny (model P w) B (letOwnedTupleGo tg iv v) (fun _ s1 => wpAny (model P w) B (assign tg en v) (fun _ s2 => wpAny (model P w) B (askIfs cs en) (fun k s3 =>
            if k = true then wpAny (model P w) B (eval y en) (fun x s4 => wpAny (model P w) B (call (.builtin "list.append") [av, x]) (fun _ s5 => ∃ m, m < n ∧ G m s5) NoX s4) NoX s3
            else ∃ m, m < n ∧ G m s3) NoX s2) NoX s1) NoX s1) NoX s) (n : Nat) (h : G n s) :
    codeAny (model P w) B (.compLoop (.ListComp y [⟨tg, l, cs, 0⟩] sc ps) 0 iv av en) R s := by
  refine codeAny_loop rfl G (fun n s hG => ?_) n h
  show wpAny _ B ((compTurn (.ListComp y [⟨tg, l, cs, 0⟩] sc ps) 0 iv av en).onRaise (fun x => do noteFrame x en; theTreesLotGoes x)) _ _ s
  refine wpAny_noted ?_
  rw [compTurn_list]
  refine wpAny_bind (wpAny_standAt (wpAny_bind (wpAny_mono (one n s hG) (fun r s1 h1 => ?_) fun _ _ z => z.elim)))
  cases r with
  | none => exact wpAny_pure h1
  | some v =>
    refine wpAny_bind (wpAny_mono h1 (fun _ s1' h1' => ?_) fun _ _ z => z.elim)
    refine wpAny_bind (wpAny_mono h1' (fun _ s2 h2 => wpAny_bind (wpAny_mono h2 (fun k s3 h3 => ?_) fun _ _ z => z.elim)) fun _ _ z => z.elim)
    cases k with
    | false => exact wpAny_pure ⟨rfl, h3⟩
    | true => exact wpAny_bind (wpAny_bind (wpAny_mono h3 (fun x s4 h4 => wpAny_bind (wpAny_mono h4 (fun _ s5 h5 => wpAny_pure (wpAny_pure ⟨rfl, h5⟩)) fun _ _ z => z.elim)) fun _ _ z => z.elim))
def PTs (X : Cx) (ifs : List Expr) (t : TT) : Prop :=
  ∀ (pins : List (Addr × Obj)) (s : Shared) (σ : St) (H : Hp) (Q : Bool → Hp → Prop), Inv X pins σ H s → t σ H Q →
    wpAny (model X.prog X.w) X.A (askIfs ifs X.env) (TP X pins σ Q) X.xe s
def tNoIf : TT := fun _ H Q => Q true H
theorem pts_nil {X : Cx} : PTs X [] tNoIf := fun pins s σ H Q I h => wpAny_tests_nil ⟨H, I, h⟩
theorem pts_one {X : Cx} {c : Expr} {t : TT} (h : PT X c t) : PTs X [c] t := fun pins s σ H Q I q => wpAny_tests_one (h pins s σ H Q I q)
section
variable {X : Cx} {pins : List (Addr × Obj)} {σ : St} {H : Hp} {s : Shared}
theorem Inv.adopt {D : Addr} {o : HO} (I : Inv X pins σ H s) (hD : H D = none) (h1 : X.s₀.heap.objs.size ≤ D) (h2 : D ≠ X.env.locals) (h3 : ∀ x c, X.env.cells.lookup x = some c → c ≠ D) (h4 : ∀ p ∈ X.pn ++ pins, p.1 ≠ D)
    (new : ObjOk X.prog X.w (upd H D o) s.heap D o) : Inv X pins σ (upd H D o) s := by
  have old : ∀ {b : Addr} {q : Obj}, X.s₀.heap.get? b = some q → b ≠ D := fun e => Nat.ne_of_lt (Nat.lt_of_lt_of_le (Heap.lt_size e) h1)
  refine ⟨I.ok, I.os, I.bare, ⟨I.base.keep, I.base.slot, fun b q e n hx => by rw [upd_ne (old e)]; exact I.base.free b q e n hx, I.base.there, fun b xs e => ?_, fun b q u e => ?_, fun b ps e => ?_⟩, I.loc, I.cell, by rw [upd_ne (Ne.symm h2)]; exact I.free, fun x c e => by rw [upd_ne (h3 x c e)]; exact I.freeC x c e, fun p hp => ?_, fun b u e => ?_, I.len⟩
  · have e' := I.base.tups b xs e
    rw [upd_ne (ne_of_none e' hD)]; exact e'
  · have e' := I.base.frzs b q u e
    rw [upd_ne (ne_of_none e' hD)]; exact e'
  · obtain ⟨more, e'⟩ := I.base.tbls b ps e
    exact ⟨more, by rw [upd_ne (ne_of_none e' hD)]; exact e'⟩
  · obtain ⟨a1, a2, a3, a4, a5⟩ := I.pin p hp
    exact ⟨a1, by rw [upd_ne (h4 p hp)]; exact a2, a3, a4, a5⟩
  · by_cases hb : b = D
    · subst hb; rw [upd_same] at e; cases e; exact new
    · rw [upd_ne hb] at e
      exact (I.hok b u e).stay (fun c v _ q => q) (fun c q => by rw [upd_ne (ne_of_none q hD)]; exact q) fun c xs q => by rw [upd_ne (ne_of_none q hD)]; exact q
def tLC (wi : TI) (g : TG) (tt : TT) (te : TE) (n : Nat) (caps : List Nat) : TE := fun σ H Q => wi σ H fun J H1 => ∃ W : Nat → Nat → List V → St → Hp → Prop, (∃ m, W 0 m [] (cSt n caps σ) H1) ∧ ∀ i m acc σ' H', W i m acc σ' H' →
  (J.stop i H' ∧ ∀ l, H' l = none → Q (.ref l) (upd H' l (.lst acc))) ∨
  (J.go i H' ∧ acc.length < sizeLine ∧ ∃ N : List V → St → Hp → Prop, (∀ ac σ2 H2, N ac σ2 H2 → ∃ m', m' < m ∧ W (i + 1) m' ac σ2 H2) ∧ ∀ x H2, J.yld i H' x H2 → g x σ' H2 fun σ3 H3 => tt σ3 H3 fun b H4 => if b = true then te σ3 H4 fun y H5 => N (acc ++ [y]) σ3 H5 else N acc σ3 H4)
structure CompOk (X : Cx) (scope : Scope) (Nt Nf : List Str) (caps : List Nat) : Prop where
  kind : scope.kind = .function
  nc : ∀ y ∈ scope.names, y.2 ≠ .cell
  nm : ∀ y ∈ scope.names, y.2 = .local → scope.names.lookup y.1 = some .local
  fr : ∀ y ∈ scope.names, y.2 = .free → X.env.kindOf y.1 = some .cell ∨ X.env.kindOf y.1 = some .free
  cap : caps.map (fun j => X.N[j]?) = Nf.map some
  vis : ∀ x ∈ Nf, scope.names.lookup x = some .free
theorem comp_block {tg iter elt : Expr} {ifs : List Expr} {scope : Scope} {pos : Pos} {g : TG} {tt : TT} {te : TE} {Nt Nf : List Str} {caps : List Nat} {cl : List (Str × Addr)} {it : Addr} {fp : List Addr} {tn : Nat → Heap → Prop} {J : It} {Q : VK} {E : Value → Shared → Prop}
    {RR : Value → Addr → Result → Shared → Prop}
    (hc : X.calm = true) (S : CompOk X scope Nt Nf caps)
    (hg : ∀ cl C s0 H0 ex, PG (cxC X (Nt ++ Nf) scope cl C s0 H0 ex) tg g)
    (ht : ∀ cl C s0 H0 ex, PTs (cxC X (Nt ++ Nf) scope cl C s0 H0 ex) ifs tt)
    (he : ∀ cl C s0 H0 ex, PE (cxC X (Nt ++ Nf) scope cl C s0 H0 ex) elt te)
    (hcl : ∀ x c, cl.lookup x = some c → X.env.cells.lookup x = some c) (hcf : ∀ y ∈ scope.names, y.2 = .free → ∃ c, cl.lookup y.1 = some c)
    (I : Inv X pins σ H s) (T : Turn X.prog X.w X.K tg J fp it tn) (st : tn 0 s.heap) (hfp : ∀ b ∈ fp, FpOk X pins H b)
    (hW : ∃ W : Nat → Nat → List V → St → Hp → Prop, (∃ m, W 0 m [] (cSt Nt.length caps σ) H) ∧ ∀ i m acc σ' H', W i m acc σ' H' →
      (J.stop i H' ∧ ∀ l, H' l = none → Q (.ref l) (upd H' l (.lst acc))) ∨
      (J.go i H' ∧ acc.length < sizeLine ∧ ∃ N : List V → St → Hp → Prop, (∀ ac σ2 H2, N ac σ2 H2 → ∃ m', m' < m ∧ W (i + 1) m' ac σ2 H2) ∧ ∀ x H2, J.yld i H' x H2 → g x σ' H2 fun σ3 H3 => tt σ3 H3 fun b H4 => if b = true then te σ3 H4 fun y H5 => N (acc ++ [y]) σ3 H5 else N acc σ3 H4))
    (fin : ∀ D C m s' H', Inv X pins σ H' s' → Q (.ref D) H' → s'.heap.Ns C m → H' C = none → C ≠ X.env.locals → X.s₀.heap.objs.size ≤ C → (∀ x c, X.env.cells.lookup x = some c → c ≠ C) → (∀ p ∈ X.pn ++ pins, p.1 ≠ C) → RR (.ref D) C (.ok .next) s') :
    wpAny (model X.prog X.w) X.A (newList []) (fun acc s₃ => wpAny (model X.prog X.w) X.A (newFunctionEnv scope X.env.globals cl [] X.env.qual none .none (some X.env)) (fun cenv s₄ =>
      codeAny (model X.prog X.w) X.A (.compStart (.ListComp elt [⟨tg, iter, ifs, 0⟩] scope pos) 0 (.ref it) acc { cenv with scope := relabel scope X.env }) (RR acc cenv.locals) s₄) E s₃) E s := by
  obtain ⟨W, ⟨m0, w0⟩, turn⟩ := hW
  refine wpAny_newObj_type (wpAny_newFunctionEnv S.nc (by intro y hy; simp at hy) (fun h₁ hns₁ hsb₁ => ?_) S.kind)
  dsimp only at hns₁ hsb₁ ⊢
  generalize hH2 : s.heap.push { cls := .type "list", dict := none, data := .seq ([] : List Value).toArray } = P2 at hns₁ hsb₁ ⊢
  have hCs : P2.objs.size = s.heap.objs.size + 1 := by rw [← hH2, Heap.size_push]
  have hDC : s.heap.objs.size ≠ P2.objs.size := by rw [hCs]; exact Nat.ne_of_lt (Nat.lt_succ_self _)
  have hCle : s.heap.objs.size ≤ P2.objs.size := by rw [hCs]; exact Nat.le_succ _
  have below : ∀ b, b < s.heap.objs.size → b ≠ P2.objs.size := fun b hb => by rw [hCs]; exact Nat.ne_of_lt (Nat.lt_succ_of_lt hb)
  have old : ∀ b o, s.heap.get? b = some o → h₁.get? b = some o := fun b o e => hsb₁.extBut b o (below b (Heap.lt_size e)) (Heap.get?_push_of_some _ (hH2 ▸ Heap.get?_push_of_some _ e))
  have hacc : h₁.PlainList s.heap.objs.size #[] := ⟨_, hsb₁.extBut _ _ hDC (Heap.get?_push_of_some _ (hH2 ▸ Heap.get?_push_size _ rfl))⟩
  have fpl : ∀ b ∈ fp, b < s.heap.objs.size := fun b hb => by
    obtain ⟨o, e, _⟩ := T.obj _ _ st b hb
    exact Heap.lt_size e
  have st₁ : tn 0 h₁ := T.keep _ _ _ st fun b _ o e => old b o e
  generalize hCe : P2.objs.size = C at hns₁ hsb₁ hDC hCle below ⊢
  generalize hDe : s.heap.objs.size = D at hacc hDC hCle ⊢
  have hDl : X.env.locals < D := by rw [← hDe]; exact I.lt
  have hDs : X.s₀.heap.objs.size ≤ D := by rw [← hDe]; exact I.sz
  have hcD : ∀ x c, X.env.cells.lookup x = some c → c < D := fun x c e => by
    obtain ⟨v, q⟩ := I.cell x c e
    rw [← hDe]; exact q.lt
  have hpD : ∀ p ∈ X.pn ++ pins, p.1 < D := fun p hp => by rw [← hDe]; exact Heap.lt_size (I.pin p hp).1
  let Y : Cx := cxC X (Nt ++ Nf) scope cl C s H fp
  have okY : Y.Ok := cxC_ok I (by rw [hDe]; exact hCle) S.kind S.nc hcl hcf hfp fpl
  have hfsY : ∀ b, b ∈ Y.fs → b < D := fun b hb => by
    rcases List.mem_cons.mp (I.stkSub b hb) with z | z
    · rw [z]; exact hDl
    · refine Nat.lt_of_lt_of_le ?_ hDs
      have := (I.ok.funs.mem z)
      refine Nat.lt_of_not_le fun q => ?_
      exact absurd z (fun z => by
        have := I.nofs (a := b)
        by_cases hb2 : s.heap.objs.size ≤ b
        · exact this hb2 z
        · obtain ⟨_, o, e, _⟩ := I.ok.funs.mem z
          exact absurd (Heap.lt_size e) (Nat.not_lt.mpr q))
  have loop : ∀ s₃ : Shared, s₃ = { s with heap := h₁, toks := s.toks + ([] : List (Str × Value)).length } →
      codeAny (model X.prog X.w) X.A (.compLoop (.ListComp elt [⟨tg, iter, ifs, 0⟩] scope pos) 0 (.ref it) (.ref D) Y.env) (RR (.ref D) C) s₃ := by
    rintro s₃ rfl
    have I0 : Inv Y [] (cSt Nt.length caps σ) H { s with heap := h₁, toks := s.toks + ([] : List (Str × Value)).length } :=
      cxC_inv I okY hcl S.cap S.vis (fun x hx => S.fr (x, .free) (PySem.mem_of_lookup (S.vis x hx)) rfl) (fun x hx => hcf (x, .free) (PySem.mem_of_lookup (S.vis x hx)) rfl) rfl rfl old hns₁ (by rw [hDe]; exact hCle)
    have fpY : ∀ {H' : Hp}, (∀ b ∈ fp, H' b = none) → ∀ b ∈ fp, FpOk Y [] H' b := fun hn b hb =>
      ⟨hn b hb, Nat.ne_of_lt (Nat.lt_of_lt_of_le (fpl b hb) (by rw [hDe]; exact hCle)), okY.exfs b hb, .inl hb, fun x c e => (hfp b hb).2.2.2.2.1 x c (hcl x c e), fun p hp => absurd (show p ∈ ([] : List (Addr × Obj)) from hp) (by simp)⟩
    have fpD : ∀ b ∈ fp, b ≠ D := fun b hb => Nat.ne_of_lt (by rw [← hDe]; exact fpl b hb)
    refine compLoop_any (fun n s' => ∃ i acc its σ' H', Inv Y [] σ' H' s' ∧ tn i s'.heap ∧ (∀ b ∈ fp, H' b = none) ∧ s'.heap.PlainList D its ∧ H' D = none ∧ Vals acc its.toList ∧ acc.length ≤ sizeLine ∧ W i n acc σ' H') ?_ m0
      ⟨0, [], #[], cSt Nt.length caps σ, H, I0, st₁, fun b hb => (hfp b hb).1, hacc, by rw [← hDe]; exact I.hok.fresh (Nat.le_refl _), .nil, Nat.zero_le _, w0⟩
    rintro n s3 ⟨i, acc, its, σ3, H3, I3, st3, fr3, ⟨nd, e3⟩, hD3, rv3, hl3, w3⟩
    have cD : C ≠ D := Ne.symm hDC
    have pinOk : ∀ {H' : Hp} {s' : Shared} {o : Obj}, s'.heap.get? D = some o → H' D = none → (∀ v, o.data ≠ .cell v) → s'.heap.get? D = some o ∧ H' D = none ∧ D ≠ Y.env.locals ∧ D ∉ Y.fs ∧ ∀ v, o.data ≠ .cell v := fun e n d =>
      ⟨e, n, hDC, fun z => absurd (hfsY D z) (Nat.lt_irrefl _), d⟩
    have I3' : Inv Y [(D, { cls := .type "list", data := .seq its nd })] σ3 H3 s3 := I3.pins_of fun p hp => by
      obtain rfl : p = (D, ({ cls := .type "list", data := .seq its nd } : Obj)) := List.mem_singleton.mp hp
      exact pinOk e3 hD3 (fun v z => by cases z)
    have fpY' : ∀ {H' : Hp}, (∀ b ∈ fp, H' b = none) → ∀ b ∈ fp, FpOk Y [(D, { cls := .type "list", data := .seq its nd })] H' b := fun hn b hb => by
      obtain ⟨a1, a2, a3, a4, a5, _⟩ := fpY hn b hb
      refine ⟨a1, a2, a3, a4, a5, fun p hp => ?_⟩
      obtain rfl : p = (D, ({ cls := .type "list", data := .seq its nd } : Obj)) := List.mem_singleton.mp hp
      exact Ne.symm (fpD b hb)
    rcases turn i n acc σ3 H3 w3 with ⟨stop, qn⟩ | ⟨go, hlt, N, hN, step⟩
    · refine thn (T.done Y rfl rfl rfl hc i _ s3 σ3 H3 _ I3' (fpY' fr3) st3 stop) fun r s4 ⟨hr, I4⟩ => ?_
      subst hr
      have e4 := (I4.pin (D, { cls := .type "list", data := .seq its nd }) (List.mem_append_right _ List.mem_cons_self)).1
      have IX : Inv X pins σ H3 s4 := I.call' (ch := fp) I4.os I4.base I4.hok I4.bare fun b hb => by
        obtain ⟨_, a2, _, a4, a5, a6⟩ := hfp b hb
        exact ⟨a4, a2, a5, a6⟩
      have IA := IX.adopt (o := .lst acc) hD3 hDs (Nat.ne_of_gt hDl) (fun x c e => Nat.ne_of_lt (hcD x c e)) (fun p hp => Nat.ne_of_lt (hpD p hp)) ⟨hl3, its.toList, nd, rv3, e4⟩
      obtain ⟨m, nsC, _⟩ := I4.loc
      refine fin D C m s4 _ IA (qn D hD3) nsC (by rw [upd_ne cD]; exact I4.free) ?_ ?_ ?_ ?_
      · exact Nat.ne_of_gt (Nat.lt_of_lt_of_le hDl hCle)
      · exact Nat.le_trans hDs hCle
      · exact fun x c e => Nat.ne_of_lt (Nat.lt_of_lt_of_le (hcD x c e) hCle)
      · exact fun p hp => Nat.ne_of_lt (Nat.lt_of_lt_of_le (hpD p hp) hCle)
    · refine thn (T.item Y rfl rfl rfl hc i _ s3 σ3 H3 _ I3' (fpY' fr3) st3 go) fun r s4 ⟨u, hr, h4⟩ => ?_
      subst hr
      refine thn h4 fun _ s5 ⟨x, H5, I5, r5, y5, st5, fr5⟩ => ?_
      have I5' := I5.pinned (fpY' fr5) (T.obj _ _ st5)
      refine thn (hg cl C s H fp _ s5 σ3 H5 x u _ I5' r5 (step x H5 y5)) fun _ s6 ⟨σ6, H6, I6, q6⟩ => ?_
      refine thn (ht cl C s H fp _ s6 σ6 H6 _ I6 q6) fun b s7 ⟨H7, I7, q7⟩ => ?_
      have back : ∀ {σ' : St} {H' : Hp} {s' : Shared}, Inv Y ([(D, { cls := .type "list", data := .seq its nd })] ++ pinsAt fp s5.heap) σ' H' s' →
          s'.heap.get? D = some { cls := .type "list", data := .seq its nd } ∧ H' D = none ∧ tn (i + 1) s'.heap ∧ ∀ b ∈ fp, H' b = none := fun {σ' H' s'} J7 => by
        have hd := J7.pin (D, { cls := .type "list", data := .seq its nd }) (List.mem_append_right _ (List.mem_append_left _ List.mem_cons_self))
        refine ⟨hd.1, hd.2.1, T.keep _ _ _ st5 fun b hb o e => (J7.pin (b, o) (List.mem_append_right _ (List.mem_append_right _ (mem_pinsAt hb e)))).1, fun b hb => ?_⟩
        obtain ⟨o, e, d⟩ := T.obj _ _ st5 b hb
        exact (J7.pin (b, o) (List.mem_append_right _ (List.mem_append_right _ (mem_pinsAt hb e)))).2.1
      cases b with
      | false =>
        rw [if_neg Bool.false_ne_true]
        rw [if_neg Bool.false_ne_true] at q7
        obtain ⟨m', hm, w7⟩ := hN _ _ _ q7
        obtain ⟨b1, b2, b3, b4⟩ := back I7
        exact ⟨m', hm, i + 1, acc, its, σ6, H7, I7.pins_of (fun p hp => nomatch hp), b3, b4, ⟨nd, b1⟩, b2, rv3, hl3, w7⟩
      | true =>
        rw [if_pos rfl]
        rw [if_pos rfl] at q7
        refine thn (he cl C s H fp _ s7 σ6 H7 _ I7 q7) fun u8 s8 ⟨y, H8, I8, r8, n8⟩ => ?_
        obtain ⟨m', hm, w8⟩ := hN _ _ _ n8
        obtain ⟨b1, b2, b3, b4⟩ := back I8
        have hsz : its.size ≤ sizeLine := by
          have h1 := rv3.length
          have h2 : its.toList.length = its.size := by simp
          omega
        refine wpAny_list_append_plain (hsz := hsz) ⟨nd, b1⟩ fun h' pl' sb' => ?_
        have I8' : Inv Y [] σ6 H8 s8 := I8.pins_of (fun p hp => nomatch hp)
        refine ⟨m', hm, i + 1, acc ++ [y], its.push u8, σ6, H8, I8'.turned (t' := s8.toks) (fun b o hb e => (sb'.2 b hb).trans e) b2 hDC (.inr (by show s.heap.objs.size ≤ D; rw [hDe]; exact Nat.le_refl _)) (fun x c e => Nat.ne_of_lt (hcD x c (hcl x c e))) (fun p hp => absurd (show p ∈ ([] : List (Addr × Obj)) from hp) (by simp)), ?_, b4, pl', b2, ?_, ?_, w8⟩
        · exact T.keep _ _ _ b3 fun b hb o e => (sb'.2 b (fpD b hb)).trans e
        · rw [Array.toList_push]
          exact rv3.append (.cons r8 .nil)
        · rw [List.length_append, List.length_singleton]
          omega
  exact codeAny_compStart_list (loop _ rfl) (T.self _ _ _ _ _ st₁ (loop _ rfl))
theorem pe_lc {tg iter elt : Expr} {ifs : List Expr} {scope : Scope} {pos : Pos} {wi : TI} {g : TG} {tt : TT} {te : TE} {Nt Nf : List Str} {caps : List Nat} (hc : X.calm = true) (S : CompOk X scope Nt Nf caps) (hi : PI X tg iter wi)
    (hg : ∀ cl C s0 H0 ex, PG (cxC X (Nt ++ Nf) scope cl C s0 H0 ex) tg g)
    (ht : ∀ cl C s0 H0 ex, PTs (cxC X (Nt ++ Nf) scope cl C s0 H0 ex) ifs tt)
    (he : ∀ cl C s0 H0 ex, PE (cxC X (Nt ++ Nf) scope cl C s0 H0 ex) elt te)
    (hs : ∀ x, foldedSetIterable iter X.env x = pure x := by intro _; rfl) : PE X (.ListComp elt [⟨tg, iter, ifs, 0⟩] scope pos) (tLC wi g tt te Nt.length caps) := by
  intro pins s σ H Q I h
  obtain ⟨cl, hclos, hcl, hcf⟩ := closure_ok I.ok.has S.fr
  rw [eval_ListComp]
  refine wpAny_comprehension_free (use := none) rfl hs hclos S.kind S.nm (thn (hi pins s σ H _ I h) fun v s1 h1 => thn h1 fun itv s2 h2 => ?_)
  obtain ⟨it, fp, tn, J, H2, e, I2, T, st2, f2, hW⟩ := h2
  subst e
  refine comp_block (RR := fun acc C => compPost (model X.prog X.w) X.A X.xe none (EP X pins σ Q) acc C) (Q := Q) hc S hg ht he hcl hcf I2 T st2 f2 hW ?_
  intro D C m s' H' I' q nsC hCn hCl hCs hCc hCp
  exact ⟨m, nsC, fun h' sb => ⟨.ref D, H', I'.turned (t' := s'.toks) (fun b o hb e => (sb.2 b hb).trans e) hCn hCl (.inr hCs) hCc hCp, rfl, q⟩⟩
theorem ps_lc {tg iter elt : Expr} {ifs : List Expr} {scope : Scope} {pos spos py : Pos} {y : Str} {i : Nat} {wi : TI} {g : TG} {tt : TT} {te : TE} {Nt Nf : List Str} {caps : List Nat} (hc : X.calm = true) (S : CompOk X scope Nt Nf caps) (hi : PI X tg iter wi)
    (hg : ∀ cl C s0 H0 ex, PG (cxC X (Nt ++ Nf) scope cl C s0 H0 ex) tg g)
    (ht : ∀ cl C s0 H0 ex, PTs (cxC X (Nt ++ Nf) scope cl C s0 H0 ex) ifs tt)
    (he : ∀ cl C s0 H0 ex, PE (cxC X (Nt ++ Nf) scope cl C s0 H0 ex) elt te)
    (hN : X.N.Nodup) (hy : X.N[i]? = some y) (hx : Loc X.env.scope y)
    (hsw : swapsWith (.ListComp elt [⟨tg, iter, ifs, 0⟩] scope pos) (some (.Name y py)) spos.line X.env = pure true)
    (hf : X.fn y = true ∨ X.env.scope.names.lookup y = some .local := by first | exact .inl rfl | exact .inr rfl | assumption)
    (hs : ∀ x, foldedSetIterable iter X.env x = pure x := by intro _; rfl) : PS X (.Assign [.Name y py] (.ListComp elt [⟨tg, iter, ifs, 0⟩] scope pos) spos) (tAsg (tLC wi g tt te Nt.length caps) (gName i)) := by
  intro pins s σ H D I h
  obtain ⟨cl, hclos, hcl, hcf⟩ := closure_ok I.ok.has S.fr
  rw [exec_Assign_Name_used _ _ _ _ hsw]
  refine wpAny_bind (wpAny_standAt (wpAny_bind ?_))
  show wpAny _ X.A (do let _ ← comprehension (.ListComp elt [⟨tg, iter, ifs, 0⟩] scope pos) scope X.env _ (newList []) false (eval iter X.env) (some (assign (.Name y py) X.env))) _ _ s
  refine wpAny_bind (wpAny_mono (wpAny_comprehension_free (use := some (assign (.Name y py) X.env)) (Q := fun _ s' => SP X pins D .next s') rfl hs hclos S.kind S.nm
    (thn (hi pins s σ H _ I h) fun v s1 h1 => thn h1 fun itv s2 h2 => ?_)) (fun _ s' hq => wpAny_pure (wpAny_pure hq)) fun _ _ e => e)
  obtain ⟨it, fp, tn, J, H2, e, I2, T, st2, f2, hW⟩ := h2
  subst e
  refine comp_block (RR := fun acc C => compPost (model X.prog X.w) X.A X.xe (some (assign (.Name y py) X.env)) (fun _ s' => SP X pins D .next s') acc C) (Q := fun x H1 => gName i x σ H1 D.nx) hc S hg ht he hcl hcf I2 T st2 f2 hW ?_
  intro l C m s' H' I' q nsC hCn hCl hCs hCc hCp
  show wpAny _ X.A (assign (.Name y py) X.env (.ref l)) _ _ _
  refine wpAny_assign_Name (store_ok2 (v := .ref l) I' hN hy hx rfl (fun s'' I'' ⟨a, sb, ha⟩ => ?_) hf)
  have haC : C ≠ a := by
    rcases ha with z | z
    · rw [z]; exact hCl
    · exact fun e => hCc y a z e.symm
  refine ⟨m, nsC.sameBut sb haC, fun h' sb' => ⟨_, H', I''.turned (t' := s''.toks) (fun b o hb e => (sb'.2 b hb).trans e) hCn hCl (.inr hCs) hCc hCp, q⟩⟩
end
end L2
namespace L2
open PySem PySem.Spec PyProof.Rows
def Its (z : Str) : It := ⟨fun i _ => i < z.cps.size, fun i H x H' => H' = H ∧ ∃ c, z.cps[i]? = some c ∧ x = .str ⟨#[c]⟩, fun i _ => z.cps.size ≤ i⟩
theorem turn_str {P : Program} {w : World} {K : PySem.W.Frag} {tg : Expr} (it : Addr) (z : Str) (t : Tok) (ty : String) (hty : ty = "str_ascii_iterator" ∨ ty = "str_iterator") :
    Turn P w K tg (Its z) [it] it (fun i h => i ≤ z.cps.size ∧ h.IsStrIter it ty z t i) where
  mem := by simp
  obj := fun i h st b hb => by
    have e : b = it := by simpa using hb
    subst e
    obtain ⟨_, o, e, c, d⟩ := st
    exact ⟨o, e, fun v q => by rw [d] at q; cases q⟩
  keep := fun i h h' st k => ⟨st.1, let ⟨o, e, r⟩ := st.2; ⟨o, k it (by simp) o e, r⟩⟩
  item := by
    intro X hP hw hK hc i pins s σ H E I hf st hg
    subst hP hw hK
    obtain ⟨f0, f1, f2, f3, f4, f5⟩ := hf it (by simp)
    obtain ⟨_, st⟩ := st
    have go : ∀ {n : Nat} {Q : Option Value → Shared → Prop}, Walks X.prog X.w X.A it [it] [it] z.cps.size (SignAt z) (fun i h => h.IsStrIter it ty z t i) → wpAny (model X.prog X.w) X.A (pyNext (.ref it)) (fun r s1 => ∃ u, r = some u ∧
      wpAny (model X.prog X.w) X.A (letOwnedTupleGo tg (.ref it) u) (fun _ s2 => ∃ x H', Inv X pins σ H' s2 ∧ RelV x u ∧ (Its z).yld i H x H' ∧ (i + 1 ≤ z.cps.size ∧ s2.heap.IsStrIter it ty z t (i + 1)) ∧ ∀ b ∈ [it], H' b = none) E s1) E s := fun {n Q} W => by
      refine W.item i s _ _ hg st fun v h' tk hv st' kk => ?_
      obtain ⟨c, t', e, rfl⟩ := hv
      have I1 : Inv X pins σ H { s with heap := h', toks := tk } := I.turned (fun b o hb e => kk b o (by simpa using hb) e) f0 f1 f3 f4 f5
      obtain ⟨o, eo, co, d⟩ := id st'
      refine ⟨_, rfl, go_of (s := { s with heap := h', toks := tk }) (n := ty) eo co d (by rcases hty with rfl | rfl <;> decide) ⟨.str ⟨#[c]⟩, H, I1, ⟨_, rfl⟩, ⟨rfl, c, e, rfl⟩, ⟨hg, st'⟩, fun b hb => (hf b hb).1⟩⟩
    rcases hty with rfl | rfl
    · exact go (n := 0) (Q := fun _ _ => True) (Walks.strAscii (I.ok.hd hc) it z t)
    · exact go (n := 0) (Q := fun _ _ => True) (Walks.strWide (I.ok.hd hc) it z t)
  done := by
    intro X hP hw hK hc i pins s σ H E I hf st hg
    subst hP hw hK
    obtain ⟨f0, f1, f2, f3, f4, f5⟩ := hf it (by simp)
    obtain ⟨hi, st⟩ := st
    have e : i = z.cps.size := Nat.le_antisymm hi hg
    subst e
    rcases hty with rfl | rfl
    · exact (Walks.strAscii (prog := X.prog) (w := X.w) (I.ok.hd hc) it z t).done s _ _ st fun h' tk kk => ⟨rfl, I.turned (fun b o hb e => kk b o (by simpa using hb) e) f0 f1 f3 f4 f5⟩
    · exact (Walks.strWide (prog := X.prog) (w := X.w) (I.ok.hd hc) it z t).done s _ _ st fun h' tk kk => ⟨rfl, I.turned (fun b o hb e => kk b o (by simpa using hb) e) f0 f1 f3 f4 f5⟩
  self := fun A i s Q E st h => by
    rcases hty with rfl | rfl
    · exact wpAny_pyIter_striter_ascii st.2 h
    · exact wpAny_pyIter_striter_wide st.2 h
section
variable {X : Cx} {tg : Expr}
def iStr (tl : TE) : TI := fun σ H R => tl σ H fun x H1 => ∃ z, x = .str z ∧ R (Its z) H1
theorem pi_str {l : Expr} {tl : TE} (hl : PE X l tl) : PI X tg l (iStr tl) := by
  intro pins s σ H R I h
  refine thn (hl pins s σ H _ I h) fun v s1 ⟨x, H1, I1, r1, q1⟩ => ?_
  obtain ⟨z, e, q⟩ := q1
  subst e
  obtain ⟨t, rfl⟩ := r1
  refine wpAny_pyIter_strU ?_
  refine ⟨s1.heap.objs.size, [s1.heap.objs.size], _, _, H1, rfl, I1.kept (t' := s1.toks) fun b o e => Heap.get?_push_of_some _ e, turn_str (ty := strIterType z) _ z t (by unfold strIterType; split <;> simp), ⟨Nat.zero_le _, _, Heap.get?_push_size _ rfl, rfl, rfl⟩, fun b hb => ?_, q⟩
  have e : b = s1.heap.objs.size := by simpa using hb
  subst e
  exact I1.fpOk (Nat.le_refl _) (I1.hok.fresh (Nat.le_refl _))
end
section
variable {X : Cx}
def strsV (ys : List Str) : List V := ys.map V.str
def CBig (i j : Int) : Prop := (i.natAbs < 2 ^ 4096 ∧ j.natAbs < 2 ^ 4096) ∨ CMul i j
theorem bits_le {i : Int} {n : Nat} (h : i.natAbs < 2 ^ n) : Builtin.Int.intBits i ≤ n := by
  unfold Builtin.Int.intBits
  split
  · exact Nat.zero_le _
  · rename_i h0
    have h1 : i.natAbs ≠ 0 := by simpa using h0
    have := (Nat.log2_lt h1).mpr h
    omega
theorem CBig.ok {i j : Int} (h : CBig i j) : IntMulOk i j := by
  rcases h with ⟨h1, h2⟩ | h
  · exact IntMulOk.of_bits (Nat.le_trans (bits_le h1) (by decide)) (Nat.le_trans (bits_le h2) (by decide))
  · exact h.ok
theorem op_big : OpR X (binaryOp .Mult) (rI CBig fun i j => .int (i * j)) := opI fun _ _ _ _ _ _ _ hc q => mul_int q hc.ok
theorem call_isi : CallR X (.builtin "isinstance") (fun xs H Q => ∃ x n t b, xs = [x, .ty n] ∧ TyOf X.K H x t ∧ PySem.W.kitOne X.K t (.type n) = some b ∧ Q (.bl b) H) := by
  intro pins s σ H xs us Q I r h
  obtain ⟨x, n, t, b, rfl, ty, e, q⟩ := h
  obtain ⟨u, w', rfl, rx, ry⟩ := vals2 r
  cases (show w' = Value.type n from ry)
  exact isinst_ok I rx ty e fun tk => ⟨.bl b, H, I.tok _, rfl, q⟩
end
section
variable {X : Cx} {e : Expr} {te : TE} {pos : Pos}
end
end L2
namespace L2
open PySem PySem.Spec PyProof.Rows
abbrev New (H : Hp) (o : HO) (Q : VK) : Prop := ∀ p H', H p = none → Same H H' → H' p = some o → Q (.ref p) H'
theorem Same.new {H : Hp} {p : Addr} {o : HO} (h : H p = none) : Same H (upd H p o) := fun b u e => by rw [upd_ne (ne_of_none e h)]; exact e
theorem New.to {H : Hp} {Q : VK} {o : HO} (h : New H o Q) : ∀ p, H p = none → Q (.ref p) (upd H p o) := fun p hp => h p _ hp (Same.new hp) upd_same
section
variable {X : Cx} {es : List Expr} {t : TA} {pos : Pos}
def tLstN (t : TA) : TE := fun σ H Q => t σ H fun xs H1 => xs.length ≤ sizeLine ∧ New H1 (.lst xs) Q
def tTupN (t : TA) : TE := fun σ H Q => t σ H fun xs H1 => xs.length ≤ sizeLine ∧ New H1 (.tup xs) Q
theorem pe_tupN {x1} (h : PA X es t) : PE X (.Tuple es x1 pos) (tTupN t) := by
  intro pins s σ H Q I hq
  refine wpAny_Tuple_spliced (thn (h pos pins s σ H _ I hq) fun us s1 ⟨xs, H1, I1, r, z, q⟩ => ⟨by rw [← r.length]; exact z, ?_⟩)
  refine ⟨.ref s1.heap.objs.size, upd H1 s1.heap.objs.size (.tup xs), I1.laid (t' := s1.toks) (fun b u e => Heap.get?_push_of_some _ e) (Nat.le_refl _) ?_, rfl, New.to q _ (I1.hok.fresh (Nat.le_refl _))⟩
  exact ⟨z, us, r, ⟨_, Heap.get?_push_size _ rfl, rfl, _, rfl⟩⟩
theorem pe_lstN (h : PA X es t) : PE X (.List es pos) (tLstN t) := by
  intro pins s σ H Q I hq
  refine wpAny_List_spliced (thn (h pos pins s σ H _ I hq) fun us s1 ⟨xs, H1, I1, r, z, q⟩ => ⟨by rw [← r.length]; exact z, ?_⟩)
  refine ⟨.ref s1.heap.objs.size, upd H1 s1.heap.objs.size (.lst xs), I1.laid (t' := s1.toks) (fun b u e => Heap.get?_push_of_some _ e) (Nat.le_refl _) ?_, rfl, New.to q _ (I1.hok.fresh (Nat.le_refl _))⟩
  exact ⟨z, us, 0, r, Heap.get?_push_size _ rfl⟩
def rSlN (K : PySem.W.Frag) : V → Option Int → Option Int → Hp → VK → Prop := fun x lo hi H Q => ∃ a xs, x = .ref a ∧ SqL K H a xs ∧ New H (.lst (cutV xs lo hi)) Q
theorem sl_listN : SlR X (rSlN X.K) := by
  intro pins s σ H x v vl vu lo hi sl Q I rx hs pl pu h
  obtain ⟨a, xs, e, h1, h2⟩ := h
  exact sl_list pins s σ H x v vl vu lo hi sl Q I rx hs pl pu ⟨a, xs, e, h1, New.to h2⟩
theorem call_listN : CallR X (.type "list") (fun xs H Q => ∃ p ys, xs = [.ref p] ∧ (SqL X.K H p ys ∨ SqT X.K H p ys) ∧ New H (.lst ys) Q) := by
  intro pins s σ H xs us Q I r h
  obtain ⟨p, ys, e, h1, h2⟩ := h
  exact call_list_of pins s σ H xs us Q I r ⟨p, ys, e, h1, New.to h2⟩
end
def rIsi (K : PySem.W.Frag) : List V → Hp → VK → Prop := fun xs H Q => ∃ x n t b, xs = [x, .ty n] ∧ TyOf K H x t ∧ PySem.W.kitOne K t (.type n) = some b ∧ Q (.bl b) H
def tTru (K : PySem.W.Frag) (ta : TE) : TT := fun σ H Q => ta σ H fun x H' => ∃ k, TruV K x H' k ∧ Q k H'
def rLen (K : PySem.W.Frag) : List V → Hp → VK → Prop := fun xs H Q => ∃ x n, xs = [x] ∧ LenV K x H n ∧ Q (.int n) H
def rListN (K : PySem.W.Frag) : List V → Hp → VK → Prop := fun xs H Q => ∃ p ys, xs = [.ref p] ∧ (SqL K H p ys ∨ SqT K H p ys) ∧ New H (.lst ys) Q
section
variable {X : Cx} {a : Expr} {ta : TE}
theorem cl_isi : CallR X (.builtin "isinstance") (rIsi X.K) := call_isi
theorem pt_tru (ha : PE X a ta) (he : ∀ whole, isTrue a X.env whole = (do let v ← whole; standAt a.pos; holding [v] (truthy v))) : PT X a (tTru X.K ta) := pt_truth ha he
theorem cl_len : CallR X (.builtin "len") (rLen X.K) := call_len
theorem cl_list : CallR X (.type "list") (rListN X.K) := call_listN
end
def rPlus : R2 := fun x y H Q => match x, y with
  | .int i, .int j => Q (.int (i + j)) H
  | .str i, .str j => i.length + j.length ≤ sizeLine ∧ Q (.str (i ++ j)) H
  | .ref l, .ref b => ∃ xs zs, H l = some (.lst xs) ∧ H b = some (.lst zs) ∧ xs.length + zs.length ≤ sizeLine ∧ New H (.lst (xs ++ zs)) Q
  | _, _ => False
def rTimes : R2 := fun x y H Q => match x, y with
  | .int i, .int j => CBig i j ∧ Q (.int (i * j)) H
  | .str z, .int n => MulOk z n ∧ Q (.str (Txt.mul z n)) H
  | _, _ => False
def rStr : List V → Hp → VK → Prop := fun xs H Q => match xs with
  | [.int i] => i.natAbs.log2 < 1920 ∧ Q (.str (toString i)) H
  | [.str z] => Q (.str z) H
  | _ => False
section
variable {X : Cx}
theorem op_plus : OpR X (binaryOp .Add) rPlus := by
  intro pins s σ H x y v u Q I rx ry h
  cases x with
  | int i => cases y with
    | int j => exact op_add pins s σ H _ _ v u Q I rx ry ⟨i, j, rfl, rfl, h⟩
    | _ => exact (show False from h).elim
  | str i => cases y with
    | str j => exact op_add_str pins s σ H _ _ v u Q I rx ry ⟨i, j, rfl, rfl, h⟩
    | _ => exact (show False from h).elim
  | ref l => cases y with
    | ref b =>
      obtain ⟨xs, zs, h1, h2, h3, h4⟩ := h
      exact op_cat pins s σ H _ _ v u Q I rx ry ⟨l, b, xs, zs, rfl, rfl, h1, h2, h3, New.to h4⟩
    | _ => exact (show False from h).elim
  | _ => exact (show False from h).elim
theorem op_times : OpR X (binaryOp .Mult) rTimes := by
  intro pins s σ H x y v u Q I rx ry h
  cases x with
  | int i => cases y with
    | int j => exact op_big pins s σ H _ _ v u Q I rx ry ⟨i, j, rfl, rfl, h⟩
    | _ => exact (show False from h).elim
  | str z => cases y with
    | int n =>
      obtain ⟨t, rfl⟩ := rx
      obtain ⟨t', rfl⟩ := ry
      exact SB.mul h.1 fun t2 k => ⟨.str _, H, I.tok _, ⟨_, rfl⟩, h.2⟩
    | _ => exact (show False from h).elim
  | _ => exact (show False from h).elim
theorem comp_ok {scope sc : Scope} {Nt Nf : List Str} {caps : List Nat} (hsc : X.env.scope = sc) (kind : scope.kind = .function) (nc : ∀ y ∈ scope.names, y.2 ≠ .cell) (nm : ∀ y ∈ scope.names, y.2 = .local → scope.names.lookup y.1 = some .local)
    (fr : ∀ y ∈ scope.names, y.2 = .free → sc.names.lookup y.1 = some .cell ∨ sc.names.lookup y.1 = some .free) (cap : caps.map (fun j => X.N[j]?) = Nf.map some) (vis : ∀ x ∈ Nf, scope.names.lookup x = some .free) : CompOk X scope Nt Nf caps :=
  ⟨kind, nc, nm, fun y hy h => by show X.env.scope.names.lookup y.1 = _ ∨ X.env.scope.names.lookup y.1 = _; rw [hsc]; exact fr y hy h, cap, vis⟩
abbrev LcEnd (J : It) (te : TE) (tt : TT) (caps : List Nat) (σ : St) (H : Hp) (Q : VK) : Prop := ∃ W : Nat → Nat → List V → St → Hp → Prop, (∃ m, W 0 m [] (cSt 1 caps σ) H) ∧ ∀ i m acc σ' H', W i m acc σ' H' →
  (J.stop i H' ∧ ∀ l, H' l = none → Q (.ref l) (upd H' l (.lst acc))) ∨
  (J.go i H' ∧ acc.length < sizeLine ∧ ∃ N : List V → St → Hp → Prop, (∀ ac σ2 H2, N ac σ2 H2 → ∃ m', m' < m ∧ W (i + 1) m' ac σ2 H2) ∧ ∀ x H2, J.yld i H' x H2 → gName 0 x σ' H2 fun σ3 H3 => tt σ3 H3 fun b H4 => if b = true then te σ3 H4 fun y H5 => N (acc ++ [y]) σ3 H5 else N acc σ3 H4)
theorem lc_any {J : It} {te : TE} {tt : TT} {caps : List Nat} {σ : St} {H : Hp} {Q : VK} (n : Nat) (hz : n ≤ sizeLine) (Pv : Nat → List V → Hp → Prop) (h0 : Pv 0 [] H) (hl : ∀ i acc H, Pv i acc H → acc.length ≤ i)
    (hgo : ∀ i acc H, i < n → Pv i acc H → J.go i H) (hst : ∀ acc H, Pv n acc H → J.stop n H)
    (hs : ∀ i x acc H H2, i < n → Pv i acc H → J.yld i H x H2 → tt (some x :: capV caps σ) H2 fun b H4 => if b = true then te (some x :: capV caps σ) H4 fun y H5 => Pv (i + 1) (acc ++ [y]) H5 else Pv (i + 1) acc H4)
    (hd : ∀ acc H, Pv n acc H → New H (.lst acc) Q) : LcEnd J te tt caps σ H Q := by
  refine ⟨fun i m acc σ' H => m = n - i ∧ i ≤ n ∧ (∃ v, σ' = v :: capV caps σ) ∧ Pv i acc H, ⟨n, by simp, Nat.zero_le _, ⟨none, rfl⟩, h0⟩, ?_⟩
  rintro i m acc σ' H' ⟨rfl, hi, ⟨v, rfl⟩, p⟩
  by_cases hlt : i < n
  · refine .inr ⟨hgo i acc H' hlt p, ?_, fun ac σ2 H2 => (∃ v, σ2 = v :: capV caps σ) ∧ Pv (i + 1) ac H2, fun ac σ2 H2 ⟨e, p'⟩ => ⟨n - (i + 1), by omega, rfl, hlt, e, p'⟩, fun x H2 y => ?_⟩
    · have := hl i acc H' p
      omega
    · have eN : ∀ ac H5, ((∃ u, some x :: capV caps σ = u :: capV caps σ) ∧ Pv (i + 1) ac H5) = Pv (i + 1) ac H5 := fun ac H5 => propext ⟨And.right, fun p => ⟨⟨_, rfl⟩, p⟩⟩
      show tt (some x :: capV caps σ) H2 fun b H4 => if b = true then te (some x :: capV caps σ) H4 fun y H5 => ((∃ u, some x :: capV caps σ = u :: capV caps σ) ∧ Pv (i + 1) (acc ++ [y]) H5) else ((∃ u, some x :: capV caps σ = u :: capV caps σ) ∧ Pv (i + 1) acc H4)
      simp only [eN]
      exact hs i x acc H' H2 hlt p y
  · have e : i = n := by omega
    subst e
    exact .inl ⟨hst acc H' p, New.to (hd acc H' p)⟩
theorem lc_list {K : PySem.W.Frag} {a : Addr} {xs : List V} {te : TE} {tt : TT} {caps : List Nat} {σ : St} {H : Hp} {Q : VK} (hz : xs.length ≤ sizeLine) (Pv : Nat → List V → Hp → Prop) (h0 : Pv 0 [] H) (hl : ∀ i acc H, Pv i acc H → acc.length ≤ i ∧ SqL K H a xs)
    (hs : ∀ i x acc H, xs[i]? = some x → Pv i acc H → tt (some x :: capV caps σ) H fun b H4 => if b = true then te (some x :: capV caps σ) H4 fun y H5 => Pv (i + 1) (acc ++ [y]) H5 else Pv (i + 1) acc H4)
    (hd : ∀ acc H, Pv xs.length acc H → New H (.lst acc) Q) : LcEnd (Itl K a) te tt caps σ H Q := by
  refine lc_any xs.length hz Pv h0 (fun i acc H p => (hl i acc H p).1) (fun i acc H hi p => ⟨xs, xs[i], (hl i acc H p).2, by simp [hi]⟩) (fun acc H p => ⟨xs, (hl _ acc H p).2, Nat.le_refl _⟩) ?_ hd
  rintro i x acc H1 H2 hi p ⟨rfl, y⟩
  exact hs i x acc _ (y xs (hl i acc _ p).2) p
theorem lc_str {z : Str} {te : TE} {tt : TT} {caps : List Nat} {σ : St} {H : Hp} {Q : VK} (hz : z.cps.size ≤ sizeLine) (Pv : Nat → List V → Hp → Prop) (h0 : Pv 0 [] H) (hl : ∀ i acc H, Pv i acc H → acc.length ≤ i)
    (hs : ∀ i c acc H, z.cps.toList[i]? = some c → Pv i acc H → tt (some (.str ⟨#[c]⟩) :: capV caps σ) H fun b H4 => if b = true then te (some (.str ⟨#[c]⟩) :: capV caps σ) H4 fun y H5 => Pv (i + 1) (acc ++ [y]) H5 else Pv (i + 1) acc H4)
    (hd : ∀ acc H, Pv z.cps.size acc H → New H (.lst acc) Q) : LcEnd (Its z) te tt caps σ H Q := by
  refine lc_any z.cps.size hz Pv h0 hl (fun i acc H hi p => hi) (fun acc H p => Nat.le_refl _) ?_ hd
  rintro i x acc H1 H2 hi p ⟨rfl, c, hc, rfl⟩
  exact hs i c acc _ (by simpa using hc) p
theorem lc_range {lo : Int} {n : Nat} {te : TE} {tt : TT} {caps : List Nat} {σ : St} {H : Hp} {Q : VK} (hz : n ≤ sizeLine) (Pv : Nat → List V → Hp → Prop) (h0 : Pv 0 [] H) (hl : ∀ i acc H, Pv i acc H → acc.length ≤ i)
    (hs : ∀ i acc H, i < n → Pv i acc H → tt (some (.int (lo + i)) :: capV caps σ) H fun b H4 => if b = true then te (some (.int (lo + i)) :: capV caps σ) H4 fun y H5 => Pv (i + 1) (acc ++ [y]) H5 else Pv (i + 1) acc H4)
    (hd : ∀ acc H, Pv n acc H → New H (.lst acc) Q) : LcEnd (Itr lo n) te tt caps σ H Q := by
  refine lc_any n hz Pv h0 hl (fun i acc H hi p => hi) (fun acc H p => Nat.le_refl _) ?_ hd
  rintro i x acc H1 H2 hi p ⟨rfl, rfl⟩
  exact hs i acc _ hi p
end
end L2
namespace L2
open PySem
theorem ex_some_and {α : Type} {a : α} {p : α → Prop} : (∃ v, some (some a) = some (some v) ∧ p v) ↔ p a := ⟨fun ⟨_, e, h⟩ => by cases e; exact h, fun h => ⟨a, rfl, h⟩⟩
def ForEnd (J : It) (g : TG) (tb : TS) (D : Ends) (σ : St) (H1 : Hp) : Prop := ∃ W : Nat → Nat → St → Hp → Prop, (∃ m, W 0 m σ H1) ∧ ∀ i m σ H, W i m σ H →
  (J.stop i H ∧ D.nx σ H) ∨ (J.go i H ∧ ∃ N : St → Hp → Prop, (∀ σ' H', N σ' H' → ∃ m', m' < m ∧ W (i + 1) m' σ' H') ∧ ∀ x H', J.yld i H x H' → g x σ H' fun σ2 H2 => tb { D with nx := N, ct := N, bk := D.nx } σ2 H2)
def CompEnd (J : It) (g : TG) (tt : TT) (te : TE) (n : Nat) (caps : List Nat) (σ : St) (H : Hp) (Q : VK) : Prop := ∃ W : Nat → Nat → List V → St → Hp → Prop, (∃ m, W 0 m [] (cSt n caps σ) H) ∧ ∀ i m acc σ' H', W i m acc σ' H' →
  (J.stop i H' ∧ ∀ l, H' l = none → Q (.ref l) (upd H' l (.lst acc))) ∨
  (J.go i H' ∧ acc.length < sizeLine ∧ ∃ N : List V → St → Hp → Prop, (∀ ac σ2 H2, N ac σ2 H2 → ∃ m', m' < m ∧ W (i + 1) m' ac σ2 H2) ∧ ∀ x H2, J.yld i H' x H2 → g x σ' H2 fun σ3 H3 => tt σ3 H3 fun b H4 => if b = true then te σ3 H4 fun y H5 => N (acc ++ [y]) σ3 H5 else N acc σ3 H4)
section
variable {K : PySem.W.Frag} {a : Addr} {xs : List V} {te : TE} {tt : TT} {caps : List Nat} {σ : St} {H : Hp} {Q : VK} {z : Str} {lo : Int} {n : Nat}
theorem cc_list (hz : xs.length ≤ sizeLine) (Pv : Nat → List V → Hp → Prop) (h0 : Pv 0 [] H) (hl : ∀ i acc H, Pv i acc H → acc.length ≤ i ∧ SqL K H a xs)
    (hs : ∀ i x acc H, xs[i]? = some x → Pv i acc H → tt (some x :: capV caps σ) H fun b H4 => if b = true then te (some x :: capV caps σ) H4 fun y H5 => Pv (i + 1) (acc ++ [y]) H5 else Pv (i + 1) acc H4)
    (hd : ∀ acc H, Pv xs.length acc H → New H (.lst acc) Q) : CompEnd (Itl K a) (gName 0) tt te 1 caps σ H Q := lc_list hz Pv h0 hl hs hd
theorem cc_str (hz : z.cps.size ≤ sizeLine) (Pv : Nat → List V → Hp → Prop) (h0 : Pv 0 [] H) (hl : ∀ i acc H, Pv i acc H → acc.length ≤ i)
    (hs : ∀ i c acc H, z.cps.toList[i]? = some c → Pv i acc H → tt (some (.str ⟨#[c]⟩) :: capV caps σ) H fun b H4 => if b = true then te (some (.str ⟨#[c]⟩) :: capV caps σ) H4 fun y H5 => Pv (i + 1) (acc ++ [y]) H5 else Pv (i + 1) acc H4)
    (hd : ∀ acc H, Pv z.cps.size acc H → New H (.lst acc) Q) : CompEnd (Its z) (gName 0) tt te 1 caps σ H Q := lc_str hz Pv h0 hl hs hd
theorem cc_range (hz : n ≤ sizeLine) (Pv : Nat → List V → Hp → Prop) (h0 : Pv 0 [] H) (hl : ∀ i acc H, Pv i acc H → acc.length ≤ i)
    (hs : ∀ i acc H, i < n → Pv i acc H → tt (some (.int (lo + i)) :: capV caps σ) H fun b H4 => if b = true then te (some (.int (lo + i)) :: capV caps σ) H4 fun y H5 => Pv (i + 1) (acc ++ [y]) H5 else Pv (i + 1) acc H4)
    (hd : ∀ acc H, Pv n acc H → New H (.lst acc) Q) : CompEnd (Itr lo n) (gName 0) tt te 1 caps σ H Q := lc_range hz Pv h0 hl hs hd
end
theorem cxOf_K {CX : CXT} {P : Program} {w : World} {K : PySem.W.Frag} {mg : Str → Option Value} {base : Heap} {N : List Str} {qual : Str} {scope : Scope} {f : Addr} {cd : Value} {A : Around} {outer : List Env} {s : Shared} {H : Hp} {E : XK} :
    (cxOf CX P w K mg base N qual scope f cd A outer s H E).K = K := rfl
theorem cxC_K {X : Cx} {N : List Str} {scope : Scope} {cl : List (Str × Addr)} {C : Addr} {s0 : Shared} {H0 : Hp} {ex : List Addr} : (cxC X N scope cl C s0 H0 ex).K = X.K := rfl
section
variable {X : Cx}
theorem kix_list (K : PySem.W.Frag) (hK : X.K = K := by rfl) : IxR X (rIxL K) := hK ▸ ix_list
theorem kix_tup (K : PySem.W.Frag) (hK : X.K = K := by rfl) : IxR X (rIxT K) := hK ▸ ix_tup
theorem ksl_list (K : PySem.W.Frag) (hK : X.K = K := by rfl) : SlR X (rSlN K) := hK ▸ sl_listN
theorem kcl_isi (K : PySem.W.Frag) (hK : X.K = K := by rfl) : CallR X (.builtin "isinstance") (rIsi K) := hK ▸ cl_isi
theorem kcl_len (K : PySem.W.Frag) (hK : X.K = K := by rfl) : CallR X (.builtin "len") (rLen K) := hK ▸ cl_len
theorem kcl_list (K : PySem.W.Frag) (hK : X.K = K := by rfl) : CallR X (.type "list") (rListN K) := hK ▸ cl_list
theorem kop_notIn (K : PySem.W.Frag) (hK : X.K = K := by rfl) : OpR X (compareOp .NotIn) (rIn K true) := hK ▸ op_notIn_seq
theorem kpt_tru (K : PySem.W.Frag) {a : Expr} {ta : TE} (ha : PE X a ta) (he : ∀ whole, isTrue a X.env whole = (do let v ← whole; standAt a.pos; holding [v] (truthy v))) (hK : X.K = K := by rfl) : PT X a (tTru K ta) := hK ▸ pt_tru ha he
theorem kpi_list (K : PySem.W.Frag) {tg l : Expr} {tl : TE} (hl : PE X l tl) (hK : X.K = K := by rfl) : PI X tg l (iList K tl) := hK ▸ pi_list hl
theorem kpg_tup (K : PySem.W.Frag) {pos : Pos} {es : List Expr} {k : Nat} {t : TGs} {n : Nat} (hc : X.calm = true) (h : PGs X es t) (hn : (assignEach es X.env).length = n := by rfl) (hst : (assignEach es X.env).findIdx? (·.1) = none := by rfl) (hK : X.K = K := by rfl) :
    PG X (.Tuple es k pos) (gTup K n t) := hK ▸ pg_tup hc h hn hst
theorem kpe_bm0 (K : PySem.W.Frag) {o : Expr} {to : TE} {name : Str} {apos cpos : Pos} {T id : String} {r : V → List V → Hp → VK → Prop} (pa : PlainAttrs T) (slot : Slot T name id) (hty : typeOf (.builtin id) = pure (.type "method_descriptor")) (hm : MtR X id r) (ho : PE X o to)
    (hbase : attributeBase o name X.env (eval o X.env) = eval o X.env := by rfl) (hline : (apos.endLine == cpos.line) = true := by rfl) (hK : X.K = K := by rfl) : PE X (.Call (.Attribute o name apos) [] [] cpos) (tBM0 K T r to) := hK ▸ pe_bm0 pa slot hty hm ho hbase hline
theorem kpe_bm (K : PySem.W.Frag) {o e : Expr} {es : List Expr} {to : TE} {t : TA} {name : Str} {apos cpos : Pos} {T id : String} {r : V → List V → Hp → VK → Prop} (pa : PlainAttrs T) (slot : Slot T name id) (hty : typeOf (.builtin id) = pure (.type "method_descriptor")) (hm : MtR X id r) (ho : PE X o to) (ha : PA X (e :: es) t)
    (hbase : attributeBase o name X.env (eval o X.env) = eval o X.env := by rfl)
    (hfew : ((backTo cpos (starEach (e :: es) X.env)).all (fun x => !x.1) && (backToKw cpos (keywordEach [] X.env)).all (fun x => x.1.isSome) && decide ((e :: es).length + ([] : List Keyword).length + (if ([] : List Keyword).isEmpty then 0 else 1) < 30)) = true := by rfl)
    (hline : (apos.endLine == cpos.line) = true := by rfl) (hs : starEach (e :: es) X.env = (false, eval e X.env) :: starEach es X.env := by rfl) (hplain : (backTo cpos (starEach es X.env)).any (·.1) = false := by rfl) (hK : X.K = K := by rfl) :
    PE X (.Call (.Attribute o name apos) (e :: es) [] cpos) (tBM K T r to t) := hK ▸ pe_bm pa slot hty hm ho ha hbase hfew hline hs hplain
end
theorem bb_len : bootBuiltins "len" = some (.builtin "len") := by decide +kernel
theorem bb_isinstance : bootBuiltins "isinstance" = some (.builtin "isinstance") := by decide +kernel
theorem bb_sorted : bootBuiltins "sorted" = some (.builtin "sorted") := by decide +kernel
theorem bb_sum : bootBuiltins "sum" = some (.builtin "sum") := by decide +kernel
theorem bb_min : bootBuiltins "min" = some (.builtin "min") := by decide +kernel
theorem bb_max : bootBuiltins "max" = some (.builtin "max") := by decide +kernel
theorem bb_list : bootBuiltins "list" = some (.type "list") := by decide +kernel
theorem bb_dict : bootBuiltins "dict" = some (.type "dict") := by decide +kernel
theorem bb_range : bootBuiltins "range" = some (.type "range") := by decide +kernel
theorem bb_set : bootBuiltins "set" = some (.type "set") := by decide +kernel
end L2
namespace L2
open PySem
end L2
local macro_rules | `(tactic| walk_at "rd") => `(tactic| simp only [L2.tCB, L2.tCons, L2.tNil, L2.tVar, L2.rStr, L2.tNoIf, L2.capV, List.map_nil, List.getElem?_cons_zero, L2.ex_some_and, if_true])
namespace L2
open PySem
theorem le_line {n : Nat} (h : n ≤ 1000000) : n ≤ sizeLine := Nat.le_trans h (by decide)
theorem cut_to {ns : List Int} {k : Nat} : cutV (ns.map V.int) none (some (k : Int)) = (ns.take k).map V.int := by
  unfold cutV
  rw [HT.sIx_none, HT.sIx_nat, List.drop_zero, Nat.sub_zero, List.length_map, List.map_take]
  by_cases h : k ≤ ns.length
  · rw [Nat.min_eq_left h]
  · rw [Nat.min_eq_right (by omega), List.take_of_length_le (by simp), List.take_of_length_le (by simp; omega)]
end L2
namespace L2
open PySem
theorem nox_K {X : Cx} : X.nox.K = X.K := rfl
theorem wish_K {X : Cx} {E : Value → Shared → Prop} : (X.wish E).K = X.K := rfl
section
variable {σ : St} {H : Hp} {Q : VK} {D : Ends} {nn bb cc : St → Hp → Prop} {rr : VK} {t u : TS} {ta tb tc te : TE} {tA tB : TT} {g : TG} {QT : Bool → Hp → Prop} {QA : List V → Hp → Prop} {QS : St → Hp → Prop}
theorem i_seq (h : t ⟨u ⟨nn, rr, bb, cc⟩, rr, bb, cc⟩ σ H) : tSeq t u ⟨nn, rr, bb, cc⟩ σ H := h
theorem i_asg (h : te σ H fun x H1 => g x σ H1 nn) : tAsg te g ⟨nn, rr, bb, cc⟩ σ H := h
theorem i_name {i : Nat} {v : V} (h : QS (σ.set i (some v)) H) : gName i v σ H QS := h
theorem i_var {i : Nat} {v : V} (e : σ[i]? = some (some v)) (h : Q v H) : tVar i σ H Q := ⟨v, e, h⟩
theorem i_c {v : V} (h : Q v H) : tC v σ H Q := h
theorem i_op {r : R2} (h : ta σ H fun x H1 => tb σ H1 fun y H2 => r x y H2 Q) : tOp r ta tb σ H Q := h
theorem i_un {r : V → Hp → VK → Prop} (h : ta σ H fun x H1 => r x H1 Q) : tUn r ta σ H Q := h
theorem i_rU {f : Int → V} {i : Int} (h : Q (f i) H) : rU f (.int i) H Q := ⟨i, rfl, h⟩
theorem i_rI {C : Int → Int → Prop} {f : Int → Int → V} {i j : Int} (c : C i j) (h : Q (f i j) H) : rI C f (.int i) (.int j) H Q := ⟨i, j, rfl, rfl, c, h⟩
theorem i_rI0 {f : Int → Int → V} {i j : Int} (h : Q (f i j) H) : rI0 f (.int i) (.int j) H Q := ⟨i, j, rfl, rfl, h⟩
theorem i_plusI {i j : Int} (h : Q (.int (i + j)) H) : rPlus (.int i) (.int j) H Q := h
theorem i_plusS {x y : Str} (z : x.length + y.length ≤ sizeLine) (h : Q (.str (x ++ y)) H) : rPlus (.str x) (.str y) H Q := ⟨z, h⟩
theorem i_plusL {l b : Addr} {xs zs : List V} (h1 : H l = some (.lst xs)) (h2 : H b = some (.lst zs)) (z : xs.length + zs.length ≤ sizeLine) (h : New H (.lst (xs ++ zs)) Q) : rPlus (.ref l) (.ref b) H Q := ⟨xs, zs, h1, h2, z, h⟩
theorem i_timesI {i j : Int} (c : CBig i j) (h : Q (.int (i * j)) H) : rTimes (.int i) (.int j) H Q := ⟨c, h⟩
theorem decI (i j : Int) : decide (V.int i = V.int j) = decide (i = j) := by rw [Bool.eq_iff_iff]; simp
theorem decS (i j : Str) : decide (V.str i = V.str j) = decide (i = j) := by rw [Bool.eq_iff_iff]; simp
theorem i_eqI {i j : Int} (h : Q (.bl (decide (i = j))) H) : rEq (.int i) (.int j) H Q := ⟨rfl, by rw [decI]; exact h⟩
theorem i_eqS {i j : Str} (h : Q (.bl (decide (i = j))) H) : rEq (.str i) (.str j) H Q := ⟨rfl, by rw [decS]; exact h⟩
theorem i_test (h : te σ H fun x H' => ∃ k, x = .bl k ∧ QT k H') : tTest te σ H QT := h
theorem i_bl {k : Bool} {p : Bool → Prop} (h : p k) : ∃ j, V.bl k = V.bl j ∧ p j := ⟨k, rfl, h⟩
theorem i_ifS (h : tA σ H fun b H1 => if b = true then t D σ H1 else u D σ H1) : tIfS tA t u D σ H := h
theorem i_ret (h : te σ H rr) : tRet te ⟨nn, rr, bb, cc⟩ σ H := h
theorem i_next (h : nn σ H) : tNext ⟨nn, rr, bb, cc⟩ σ H := h
theorem i_drop (h : te σ H fun _ H1 => nn σ H1) : tDrop te ⟨nn, rr, bb, cc⟩ σ H := h
theorem i_cons {tr : TA} (h : te σ H fun x H1 => tr σ H1 fun xs H2 => QA (x :: xs) H2) : tCons te tr σ H QA := h
theorem i_nil (h : QA [] H) : tNil σ H QA := h
theorem i_cb {r : List V → Hp → VK → Prop} {ts : TA} (h : ts σ H fun vs H1 => r vs H1 Q) : tCB r ts σ H Q := h
theorem i_call {sp : Sp} {dvs : List V} {E : XK} {ts : TA} (h : ts σ H fun vs H1 => sp (vs ++ dvs) H1 Q E) : tCall sp dvs E ts σ H Q := h
theorem i_lst {ts : TA} (h : ts σ H fun xs H1 => xs.length ≤ sizeLine ∧ New H1 (.lst xs) Q) : tLstN ts σ H Q := h
theorem i_tup {ts : TA} (h : ts σ H fun xs H1 => xs.length ≤ sizeLine ∧ New H1 (.tup xs) Q) : tTupN ts σ H Q := h
theorem i_szA {n : Nat} {P : Prop} (h : n ≤ sizeLine) (p : P) : n ≤ sizeLine ∧ P := ⟨h, p⟩
theorem i_rgA {j : Int} {P : Prop} (h : -(2 ^ 62) ≤ j) (h' : j < 2 ^ 62) (p : P) : -(2 ^ 62) ≤ j ∧ j < 2 ^ 62 ∧ P := ⟨h, h', p⟩
theorem i_noIf (h : QT true H) : tNoIf σ H QT := h
theorem i_not (h : tA σ H fun c H1 => QT (!c) H1) : tNot tA σ H QT := h
theorem i_and (h : tA σ H fun c H1 => if c = true then tB σ H1 QT else QT false H1) : tAnd tA tB σ H QT := h
theorem i_or (h : tA σ H fun c H1 => if c = true then QT true H1 else tB σ H1 QT) : tOr tA tB σ H QT := h
theorem i_andV (h : ta σ H fun x H1 => ∃ c, x = .bl c ∧ if c = true then tb σ H1 Q else Q (.bl false) H1) : tAndV ta tb σ H Q := h
theorem i_for {wi : TI} (h : wi σ H fun J H1 => ForEnd J g t D σ H1) : tFor wi g t D σ H := h
theorem i_lc {wi : TI} {n : Nat} {caps : List Nat} (h : wi σ H fun J H1 => CompEnd J g tA te n caps σ H1 Q) : tLC wi g tA te n caps σ H Q := h
theorem i_rng1 {R : It → Hp → Prop} {ts : TA} (h : ts σ H fun vs H1 => ∃ j : Int, vs = [.int j] ∧ -(2 ^ 62) ≤ j ∧ j < 2 ^ 62 ∧ R (Itr 0 j.toNat) H1) : iRng1 ts σ H R := h
theorem i_iList {K : PySem.W.Frag} {R : It → Hp → Prop} (h : te σ H fun x H1 => ∃ a, x = .ref a ∧ (∃ xs, SqL K H1 a xs) ∧ R (Itl K a) H1) : iList K te σ H R := h
theorem i_iStr {R : It → Hp → Prop} (h : te σ H fun x H1 => ∃ z, x = .str z ∧ R (Its z) H1) : iStr te σ H R := h
theorem i_rng {j : Int} {p : Int → Prop} (h : p j) : ∃ i : Int, [V.int j] = [V.int i] ∧ p i := ⟨j, rfl, h⟩
theorem i_ref {a : Addr} {p : Addr → Prop} (h : p a) : ∃ b, V.ref a = V.ref b ∧ p b := ⟨a, rfl, h⟩
theorem i_sx {z : Str} {p : Str → Prop} (h : p z) : ∃ b, V.str z = V.str b ∧ p b := ⟨z, rfl, h⟩
theorem i_bm {K : PySem.W.Frag} {T : String} {r : V → List V → Hp → VK → Prop} {to : TE} {ts : TA} (h : to σ H fun x H1 => tyV K T x H1 ∧ ts σ H1 fun xs H2 => r x xs H2 Q) : tBM K T r to ts σ H Q := h
theorem i_bm0 {K : PySem.W.Frag} {T : String} {r : V → List V → Hp → VK → Prop} {to : TE} (h : to σ H fun x H1 => tyV K T x H1 ∧ r x [] H1 Q) : tBM0 K T r to σ H Q := h
theorem i_tyS {K : PySem.W.Frag} {z : Str} {P : Prop} (h : P) : tyV K "str" (.str z) H ∧ P := ⟨rfl, h⟩
theorem i_ixL {K : PySem.W.Frag} {p : Addr} {xs : List V} {i : Int} {v : V} (h1 : SqL K H p xs) (h2 : atI xs i = some v) (h : Q v H) : rIxL K (.ref p) (.int i) H Q := ⟨p, xs, i, v, rfl, rfl, h1, h2, h⟩
theorem i_ixT {K : PySem.W.Frag} {p : Addr} {xs : List V} {i : Int} {v : V} (h1 : SqT K H p xs) (h2 : atI xs i = some v) (h : Q v H) : rIxT K (.ref p) (.int i) H Q := ⟨p, xs, i, v, rfl, rfl, h1, h2, h⟩
theorem i_sl {r : V → Option Int → Option Int → Hp → VK → Prop} {tl th : TO} (h : te σ H fun x H1 => tl σ H1 fun l H2 => th σ H2 fun u H3 => r x l u H3 Q) : tSl r te tl th σ H Q := h
theorem i_nopart {QO : Option Int → Hp → Prop} (h : QO none H) : tNoPart σ H QO := h
theorem i_part {QO : Option Int → Hp → Prop} (h : te σ H fun x H1 => ∃ i, x = .int i ∧ QO (some i) H1) : tPart te σ H QO := h
theorem i_ix1 {i : Int} {p : Int → Prop} (h : p i) : ∃ j, V.int i = V.int j ∧ p j := ⟨i, rfl, h⟩
theorem i_slL {K : PySem.W.Frag} {a : Addr} {xs : List V} {lo hi : Option Int} (h1 : SqL K H a xs) (h : New H (.lst (cutV xs lo hi)) Q) : rSlN K (.ref a) lo hi H Q := ⟨a, xs, rfl, h1, h⟩
theorem i_itT {A B : Prop} (h : A) : if true = true then A else B := iteT h
theorem i_itF {A B : Prop} (h : B) : if false = true then A else B := iteF h
theorem i_itnT {A B : Prop} (h : B) : if (!true) = true then A else B := iteF h
theorem i_itDT {c A B : Prop} [Decidable c] (hc : c) (h : A) : if decide c = true then A else B := by rw [decide_eq_true hc]; exact iteT h
theorem i_itDF {c A B : Prop} [Decidable c] (hc : ¬ c) (h : B) : if decide c = true then A else B := by rw [decide_eq_false hc]; exact iteF h
theorem i_itNT {c A B : Prop} [Decidable c] (hc : ¬ c) (h : A) : if (!decide c) = true then A else B := by rw [decide_eq_false hc]; exact iteT h
theorem i_itNF {c A B : Prop} [Decidable c] (hc : c) (h : B) : if (!decide c) = true then A else B := by rw [decide_eq_true hc]; exact iteF h
theorem i_asgT {K : PySem.W.Frag} {n : Nat} {ts : TGs} {a : Addr} {xs : List V} (h1 : SqT K H a xs) (h2 : xs.length = n) (h : ts xs σ H QS) : gTup K n ts (.ref a) σ H QS := ⟨a, xs, rfl, h1, h2, h⟩
theorem i_gnil (h : QS σ H) : gNil [] σ H QS := ⟨rfl, h⟩
theorem i_gcons {gt : TG} {us : TGs} {v : V} {r : List V} (h : gt v σ H fun σ' H' => us r σ' H' QS) : gCons gt us (v :: r) σ H QS := ⟨v, r, rfl, h⟩
theorem i_isiL {K : PySem.W.Frag} {a : Addr} {xs : List V} (e : H a = some (.lst xs)) (h : Q (.bl true) H) : rIsi K [V.ref a, V.ty "list"] H Q := ⟨_, _, _, true, rfl, .lst e, rfl, h⟩
theorem i_tru {K : PySem.W.Frag} (h : te σ H fun x H' => ∃ k, TruV K x H' k ∧ QT k H') : tTru K te σ H QT := h
theorem i_truB {K : PySem.W.Frag} {k : Bool} {p : Bool → Prop} (h : p k) : ∃ j, TruV K (.bl k) H j ∧ p j := ⟨k, rfl, h⟩
theorem i_lenS {K : PySem.W.Frag} {z : Str} (hz : z.length ≤ sizeLine) (h : Q (.int z.length) H) : rLen K [V.str z] H Q := ⟨_, _, rfl, ⟨hz, rfl⟩, h⟩
theorem i_lenL {K : PySem.W.Frag} {p : Addr} {xs : List V} (h1 : SqL K H p xs) (h : Q (.int xs.length) H) : rLen K [V.ref p] H Q := ⟨_, _, rfl, .inl ⟨xs, h1, rfl⟩, h⟩
theorem i_listL {K : PySem.W.Frag} {p : Addr} {ys : List V} (h1 : SqL K H p ys) (h : New H (.lst ys) Q) : rListN K [.ref p] H Q := ⟨p, ys, rfl, .inl h1, h⟩
end
end L2
namespace L2
open PySem PySem.Spec PyProof.Rows
section
variable {X : Cx}
end
theorem cc_pairs {K : PySem.W.Frag} {a : Addr} {xs : List V} {te : TE} {tt : TT} {caps : List Nat} {σ : St} {H : Hp} {Q : VK} (hz : xs.length ≤ sizeLine) (Pv : Nat → List V → Hp → Prop) (h0 : Pv 0 [] H) (hl : ∀ i acc H, Pv i acc H → acc.length ≤ i ∧ SqL K H a xs)
    (hs : ∀ i x acc H, xs[i]? = some x → Pv i acc H → ∃ p u v, x = .ref p ∧ SqT K H p [u, v] ∧ tt (some u :: some v :: capV caps σ) H fun b H4 => if b = true then te (some u :: some v :: capV caps σ) H4 fun y H5 => Pv (i + 1) (acc ++ [y]) H5 else Pv (i + 1) acc H4)
    (hd : ∀ acc H, Pv xs.length acc H → New H (.lst acc) Q) : CompEnd (Itl K a) (gTup K 2 (gCons (gName 0) (gCons (gName 1) gNil))) tt te 2 caps σ H Q := by
  refine ⟨fun i m acc σ' H => m = xs.length - i ∧ i ≤ xs.length ∧ (∃ u v, σ' = u :: v :: capV caps σ) ∧ Pv i acc H, ⟨xs.length, by simp, Nat.zero_le _, ⟨none, none, rfl⟩, h0⟩, ?_⟩
  rintro i m acc σ' H' ⟨rfl, hi, ⟨u0, v0, rfl⟩, p⟩
  obtain ⟨hl1, hq⟩ := hl i acc H' p
  by_cases hlt : i < xs.length
  · refine .inr ⟨⟨xs, xs[i], hq, by simp [hlt]⟩, by omega, fun ac σ2 H2 => (∃ u v, σ2 = u :: v :: capV caps σ) ∧ Pv (i + 1) ac H2, fun ac σ2 H2 ⟨e, p'⟩ => ⟨xs.length - (i + 1), by omega, rfl, hlt, e, p'⟩, fun x H2 y => ?_⟩
    obtain ⟨e, y⟩ := y
    subst e
    obtain ⟨q, u, v, rfl, hT, hst⟩ := hs i x acc _ (y xs hq) p
    have eN : ∀ ac H5, ((∃ u1 v1, some u :: some v :: capV caps σ = u1 :: v1 :: capV caps σ) ∧ Pv (i + 1) ac H5) = Pv (i + 1) ac H5 := fun ac H5 => propext ⟨And.right, fun p => ⟨⟨_, _, rfl⟩, p⟩⟩
    refine ⟨q, [u, v], rfl, hT, rfl, u, [v], rfl, v, [], rfl, rfl, ?_⟩
    show tt (some u :: some v :: capV caps σ) _ fun b H4 => if b = true then te (some u :: some v :: capV caps σ) H4 fun y H5 => ((∃ u1 v1, some u :: some v :: capV caps σ = u1 :: v1 :: capV caps σ) ∧ Pv (i + 1) (acc ++ [y]) H5) else ((∃ u1 v1, some u :: some v :: capV caps σ = u1 :: v1 :: capV caps σ) ∧ Pv (i + 1) acc H4)
    simp only [eN]
    exact hst
  · have e : i = xs.length := by omega
    subst e
    exact .inl ⟨⟨xs, hq, Nat.le_refl _⟩, New.to (hd acc H' p)⟩
section
variable {σ : St} {H : Hp} {Q : VK}
theorem i_append {l : Addr} {xs : List V} {y : V} (h1 : H l = some (.lst xs)) (hz : xs.length < sizeLine) (h : Q .non (upd H l (.lst (xs ++ [y])))) : rAppend (.ref l) [y] H Q := ⟨l, xs, y, rfl, rfl, h1, hz, h⟩
theorem i_tyL {K : PySem.W.Frag} {l : Addr} {xs : List V} {P : Prop} (h1 : SqL K H l xs) (h : P) : tyV K "list" (.ref l) H ∧ P := ⟨.inl ⟨rfl, xs, h1⟩, h⟩
end
def Tups (H H' : Hp) : Prop := ∀ b xs, H b = some (.tup xs) → H' b = some (.tup xs)
theorem Same.tups {H H' : Hp} (s : Same H H') : Tups H H' := fun b xs h => s b _ h
theorem vac {P : Program} {w : World} {K : PySem.W.Frag} {mg : Str → Option Value} {base : Heap} {CX : CXT} {k : Nat} {f : Addr} {fd : FuncData} {ps : List Str} {sp : Sp} (h : ∀ vs H Q E, ¬ sp vs H Q E) : FnOk P w K mg base CX k f fd ps sp :=
  ⟨fun vs H Q E q => (h _ _ _ _ q).elim, fun A outer s H args us vs Q E _ _ _ _ q => (h _ _ _ _ q).elim⟩
end L2
namespace L2
open PySem
theorem Same.updNew {H H1 : Hp} {l : Addr} {o : HO} (s : Same H H1) (h : H l = none) : Same H (upd H1 l o) := fun b u e => by rw [upd_ne (ne_of_none e h)]; exact s b u e
inductive Ex where
  | num (i : Int)
  | box (n : Str)
  | two (k : Bool) (a b : Ex)
def markS (k : Bool) : Str := if k then "plus" else "less"
end L2
namespace L2
open PySem PySem.Spec PyProof.Rows
inductive Cd where
  | cmp (k : Bool) (a b : Ex)
  | nt (c : Cd)
  | both (c d : Cd)
def markC (k : Bool) : Str := if k then "same" else "under"
end L2
namespace L2
open PySem PySem.Spec PyProof.Rows
end L2
namespace L2
open PySem
theorem inV_strs (w : Str) (ys : List Str) : inV (.str w) (strsV ys) = decide (w ∈ ys) := by
  unfold inV strsV
  rw [List.any_map, Bool.eq_iff_iff, List.any_eq_true, decide_eq_true_iff]
  constructor
  · rintro ⟨y, hy, e⟩
    have : (y == w) = true := e
    have : y = w := by simpa using this
    exact this ▸ hy
  · intro h
    exact ⟨w, h, by show (w == w) = true; simp⟩
theorem strs_flat (ys : List Str) : (strsV ys).all flatV = true := by simp [strsV, flatV]
end L2
namespace L2
open PySem
end L2
namespace L2
open PySem PySem.Spec PyProof.Rows
end L2
namespace L2
open PySem
inductive Tr where
  | non
  | int (i : Int)
  | str (s : Str)
  | tup (xs : List Tr)
  | lst (xs : List Tr)
mutual
def Tr.At (H : Hp) : Tr → V → List Addr → Prop
  | .non, v, fs => v = .non ∧ fs = []
  | .int i, v, fs => v = .int i ∧ fs = []
  | .str s, v, fs => v = .str s ∧ fs = []
  | .tup xs, v, fs => ∃ a vs, v = .ref a ∧ H a = some (.tup vs) ∧ Tr.Ats H xs vs fs
  | .lst xs, v, fs => ∃ a vs gs, v = .ref a ∧ H a = some (.lst vs) ∧ Tr.Ats H xs vs gs ∧ fs = a :: gs
def Tr.Ats (H : Hp) : List Tr → List V → List Addr → Prop
  | [], vs, fs => vs = [] ∧ fs = []
  | x :: xs, vs, fs => ∃ v ws f g, vs = v :: ws ∧ fs = f ++ g ∧ Tr.At H x v f ∧ Tr.Ats H xs ws g
end
def Keep (fs : List Addr) (H H' : Hp) : Prop := Tups H H' ∧ ∀ a ∈ fs, ∀ xs, H a = some (.lst xs) → H' a = some (.lst xs)
theorem Same.keep {H H' : Hp} (s : Same H H') (fs : List Addr) : Keep fs H H' := ⟨s.tups, fun a _ xs h => s a _ h⟩
theorem Keep.sub {fs gs : List Addr} {H H' : Hp} (k : Keep fs H H') (h : ∀ a ∈ gs, a ∈ fs) : Keep gs H H' := ⟨k.1, fun a m => k.2 a (h a m)⟩
mutual
theorem Tr.At.mono {H H' : Hp} : ∀ {x : Tr} {v : V} {fs : List Addr}, x.At H v fs → Keep fs H H' → x.At H' v fs
  | .non, _, _, h, _ => by simpa only [Tr.At] using h
  | .int _, _, _, h, _ => by simpa only [Tr.At] using h
  | .str _, _, _, h, _ => by simpa only [Tr.At] using h
  | .tup xs, v, fs, h, k => by
    simp only [Tr.At] at h ⊢
    obtain ⟨a, vs, e, g, r⟩ := h
    exact ⟨a, vs, e, k.1 _ _ g, Tr.Ats.mono r k⟩
  | .lst xs, v, fs, h, k => by
    simp only [Tr.At] at h ⊢
    obtain ⟨a, vs, gs, e, g, r, rfl⟩ := h
    exact ⟨a, vs, gs, e, k.2 _ (by simp) _ g, Tr.Ats.mono r (k.sub fun b m => by simp [m]), rfl⟩
theorem Tr.Ats.mono {H H' : Hp} : ∀ {xs : List Tr} {vs : List V} {fs : List Addr}, Tr.Ats H xs vs fs → Keep fs H H' → Tr.Ats H' xs vs fs
  | [], _, _, h, _ => by simpa only [Tr.Ats] using h
  | x :: xs, vs, fs, h, k => by
    simp only [Tr.Ats] at h ⊢
    obtain ⟨v, ws, f, g, e, rfl, a, b⟩ := h
    exact ⟨v, ws, f, g, e, rfl, Tr.At.mono a (k.sub fun c m => by simp [m]), Tr.Ats.mono b (k.sub fun c m => by simp [m])⟩
end
end L2
namespace L2
open PySem PySem.Spec PyProof.Rows
mutual
def Tr.h : Tr → Nat
  | .non => 0
  | .int _ => 0
  | .str _ => 0
  | .tup xs => Tr.hs xs + 1
  | .lst xs => Tr.hs xs + 1
def Tr.hs : List Tr → Nat
  | [] => 0
  | x :: xs => max x.h (Tr.hs xs)
end
theorem all_tt (n : Nat) : ((List.range n).all fun _ => true) = true := by simp
theorem in1_units (A : Around) : A.in1.units = A.units + 1 := rfl
section
variable {X : Cx} {pins : List (Addr × Obj)} {σ : St} {H : Hp} {s : Shared}
end
end L2
namespace L2
open PySem PySem.Spec PyProof.Rows
section
variable {prog : Program} {w : World} {A : Around} {E : Value → Shared → Prop}
end
section
variable {X : Cx} {pos : Pos}
end
end L2
namespace L2
open PySem PySem.Spec PyProof.Rows
inductive Pt where
  | s (z : Str)
  | i (n : Int)
theorem i_extend {H : Hp} {Q : VK} {l b : Addr} {xs zs : List V} (h1 : H l = some (.lst xs)) (h2 : H b = some (.lst zs)) (hz : xs.length + zs.length ≤ sizeLine) (h : Q .non (upd H l (.lst (xs ++ zs)))) : rExtend (.ref l) [.ref b] H Q := ⟨l, b, xs, zs, rfl, rfl, h1, h2, hz, h⟩
end L2
namespace L2
open PySem
def Pt.tr : Pt → Tr
  | .s z => .str z
  | .i n => .int n
def Ex.tr : Ex → Tr
  | .num i => .tup [.str "number", .int i]
  | .box n => .tup [.str "box", .str n]
  | .two k a b => .tup [.str (markS k), a.tr, b.tr]
def Cd.tr : Cd → Tr
  | .cmp k a b => .tup [.str (markC k), a.tr, b.tr]
  | .nt c => .tup [.str "not", c.tr]
  | .both c d => .tup [.str "both", c.tr, d.tr]
mutual
inductive Stm where
  | plain (ps : List Pt)
  | put (n : Str) (e : Ex)
  | loop (b : List Stm)
  | wait (n : Int) (bs : List Br)
  | test (c : Cd) (a b : List Stm)
inductive Br where
  | mk (p : List Pt) (b : List Stm)
end
mutual
def Stm.tr : Stm → Tr
  | .plain ps => .tup (ps.map Pt.tr)
  | .put n e => .tup [.str "put", .str n, e.tr]
  | .loop b => .tup [.str "loop", .lst (Stm.trs b)]
  | .wait n bs => .tup [.str "wait", .int n, .lst (Br.trs bs)]
  | .test c a b => .tup [.str "test", c.tr, .lst (Stm.trs a), .lst (Stm.trs b)]
def Br.tr : Br → Tr
  | .mk p b => .tup [.tup (p.map Pt.tr), .lst (Stm.trs b)]
def Stm.trs : List Stm → List Tr
  | [] => []
  | s :: r => s.tr :: Stm.trs r
def Br.trs : List Br → List Tr
  | [] => []
  | s :: r => s.tr :: Br.trs r
end
end L2
namespace L2
open PySem
end L2
namespace L2
open PySem
section
variable {H : Hp} {v : V} {fs : List Addr}
end
end L2
namespace L2
open PySem
section
variable {H : Hp} {v : V} {fs : List Addr}
end
end L2
namespace L2
open PySem PySem.Spec PyProof.Rows
section
variable {X : Cx}
end
end L2
namespace L2
def keptP (ws : List (Option Nat)) (n : Nat) : List Nat := (List.range n).filter fun i => decide (ws[i]? = some none)
def kept (ws : List (Option Nat)) : List Nat := keptP ws ws.length
end L2
namespace L2
open PySem
section
variable {prog : Program} {w : World} {K : Type} [DecidableEq K] {knd : KeyKind prog w K} {A : Around} {E : Value → Shared → Prop} {s : Shared}
theorem plain_dul : plainId "dict.update.loop" = true := by decide +kernel
theorem entry_dul : entryFor table "dict.update.loop" = some Builtin.«dict.update.loop» := entryFor_of_fast (by kernel_rfl)
theorem miss_keys : typeLookup (.type "list") "keys" = pure none := am_miss_of_fast (by decide +kernel)
theorem getAttr?_miss_list {a : Addr} {o : Obj} {xs : Array Value} {k : Nat} {name : Str} {Q : Option Value → Shared → Prop}
    (hx : s.heap.get? a = some o) (hc : o.cls = .type "list") (hdat : o.data = .seq xs k) (hd : o.dict = none) (hmiss : typeLookup (.type "list") name = pure none) (hname : (["__module__", "__name__", "__qualname__", "__doc__", "__annotations__"] : List Str).contains name = false) (hA : A.handled = none)
    (h : ∀ h' tk, (∀ b o, s.heap.get? b = some o → h'.get? b = some o) → Q none { s with heap := h', toks := tk }) (hsz : name.length + 100 ≤ sizeLine := by size_fits) :
    wpAny (model prog w) A (getAttr? (.ref a) name) Q E s := by
  obtain ⟨c, dct, dat, sl⟩ := o
  simp only at hc hdat hd
  subst hc hdat hd
  obtain ⟨hp, g, d, tk, os⟩ := s
  have hT : ∀ tk', (⟨hp, g, d, tk', os⟩ : Shared).TypeIs (.ref a) "list" := fun _ => ⟨_, hx, rfl⟩
  have f1 := sub_AttributeError
  have f3 := F.slot_list_getattribute.lookup
  have f4 := F.slot_list_getattribute.bind (.ref a)
  have f5 := am_list_getattr_none
  unfold getAttr? getAttrBy? getAttrBy
  repeat (any_goals (first | assumption | exact hT _ | ((with_reducible show wpAny _ _ (call (Value.builtin "list.__getattribute__") _ _) _ _ _); refine call_meets F.slot_list_getattribute (hT _) am_entry_list_getattribute (F.args_list_getattribute_2 _ _) (meets_getattribute_miss_list a xs k sl name _ hmiss hname hsz) ⟨hx, hA, fun h' tk' e hx' => ?_⟩) | wp_step))
  obtain ⟨t', u', he⟩ := hx'.there
  show wpAny _ _ (getattributeRaised _ _ _ _ _ _ _) _ _ _
  unfold getattributeRaised
  repeat (any_goals (first | assumption | wp_step))
  exact h _ _ hx'.keeps
end
end L2
namespace L2
open PySem
section
variable {prog : Program} {w : World} {K : Type} [DecidableEq K] {knd : KeyKind prog w K} {A : Around} {E : Value → Shared → Prop} {s : Shared}
def PairsAt (knd : KeyKind prog w K) (h : Heap) (items : Array Value) (ps : List (K × Value)) (no : List Addr) : Prop :=
  ps.length = items.size ∧ ∀ (j : Nat) (x : Value), items[j]? = some x → ∃ T k key v, x = .ref T ∧ T ∉ no ∧ h.IsTuple T #[key, v] ∧ knd.is k key = true ∧ ps[j]? = some (k, v)
theorem PairsAt.mono {h h' : Heap} {items : Array Value} {ps : List (K × Value)} {no : List Addr} (p : PairsAt knd h items ps no) (k : ∀ b o, b ∉ no → h.get? b = some o → h'.get? b = some o) : PairsAt knd h' items ps no :=
  ⟨p.1, fun j x e => by
    obtain ⟨T, k1, key, v, h1, h2, ⟨o, h3, h3'⟩, h4, h5⟩ := p.2 j x e
    exact ⟨T, k1, key, v, h1, h2, ⟨o, k T o h2 h3, h3'⟩, h4, h5⟩⟩
theorem update_loop {R : Result → Shared → Prop} {d it l : Addr} {items : Array Value} {ps : List (K × Value)} {res : Value} (hdi : d ≠ it) (hli : l ≠ it) (hld : l ≠ d) (hA : A.handled = none) :
    ∀ (n i : Nat) (s : Shared) (kvs : List (K × Value)), items.size - i = n → i ≤ items.size → s.heap.IsListIter it l i → s.heap.IsList l items → s.heap.DictOf knd d kvs → kvs.length + n ≤ sizeLine → PairsAt knd s.heap items ps [d, it] →
    (∀ h' tk, h'.DictOf knd d (merged kvs (ps.drop i)) → (∀ b o, b ≠ d → b ≠ it → s.heap.get? b = some o → h'.get? b = some o) → R (.ok (.ret res)) { s with heap := h', toks := tk }) →
    codeAny (model prog w) A (.builtin "dict.update.loop" ⟨[.ref d, .ref it, rawInt i, res], []⟩) R s := by
  intro n
  induction n with
  | zero =>
    intro i s kvs hn hi hit hl hd hz hp hR
    have e : i = items.size := by omega
    subst e
    refine codeAny_builtin entry_dul ?_
    rw [Around.under_plainId plain_dul _]
    show wpAny _ A.in1 (pyNext (.ref it) >>= _) _ _ s
    refine wpAny_bind (wpAny_pyNext_list_end (by exact hA) hit hl (Array.getElem?_eq_none (Nat.le_refl _)) fun h' hx => ?_)
    show wpAny _ _ (Builtin.Dict.addKeywords d [] >>= _) _ _ _
    refine wpAny_bind (wpAny_pure (wpAny_pure ?_))
    refine hR h' s.toks ?_ fun b o _ h2 e => hx b o h2 e
    rw [List.drop_of_length_le (Nat.le_of_eq hp.1)]
    exact hd.extBut hx hdi
  | succ n ih =>
    intro i s kvs hn hi hit hl hd hz hp hR
    have hlt : i < items.size := by omega
    obtain ⟨T, k, key, v, e1, e2, hT, hk, hv⟩ := hp.2 i items[i] (by simp [hlt])
    refine codeAny_builtin entry_dul ?_
    rw [Around.under_plainId plain_dul _]
    show wpAny _ A.in1 (pyNext (.ref it) >>= _) _ _ s
    refine wpAny_bind (wpAny_pyNext_list_item hit hl (x := items[i]) (by simp [hlt]) fun h1 hit1 hs1 => ?_)
    rw [e1]
    have hTd : T ≠ d := fun z => e2 (by simp [z])
    have hTi : T ≠ it := fun z => e2 (by simp [z])
    obtain ⟨oT, hoT, cT, nT, dT⟩ := hT
    have hoT1 : h1.get? T = some oT := (hs1.2 T hTi).trans hoT
    have tT : ({ s with heap := h1 } : Shared).TypeIs (.ref T) "tuple" := ⟨oT, hoT1, cT⟩
    show wpAny _ _ (holding [Value.ref T] _ >>= _) _ _ _
    refine wpAny_bind (wpAny_holding ?_)
    refine wpAny_bind (wpAny_tryCatch ?_)
    unfold Builtin.Dict.pairItems
    refine wpAny_bind (wpAny_typeOf tT ?_)
    rw [if_pos (by decide)]
    refine wpAny_bind (wpAny_seqItems hoT1 dT (wpAny_pure ?_))
    show wpAny _ _ (holding [key, v] (dictSet d key v)) _ _ _
    refine wpAny_holding ?_
    have hd1 : h1.DictOf knd d kvs := hd.sameBut hs1 hdi
    refine wpAny_dictSet_pairs (hsz := by omega) hk hd1 fun h2 hd2 hs2 => ?_
    refine wpAny_pure ⟨plainId_quiet plain_dul _, ?_⟩
    have kp : ∀ b o, b ≠ d → b ≠ it → s.heap.get? b = some o → h2.get? b = some o := fun b o hb1 hb2 e => (hs2.2 b hb1).trans ((hs1.2 b hb2).trans e)
    have hit2 : h2.IsListIter it l (i + 1) := let ⟨o, e, r⟩ := hit1; ⟨o, (hs2.2 it (Ne.symm hdi)).trans e, r⟩
    have hl2 : h2.IsList l items := let ⟨o, e, r⟩ := hl; ⟨o, kp l o hld hli e, r⟩
    have := ih (i + 1) { s with heap := h2, toks := s.toks + 1 } (stored kvs k v) (by omega) (by omega) hit2 hl2 hd2 (by have := stored_length_le kvs k v; omega) (hp.mono fun b o hb e => kp b o (fun z => hb (by simp [z])) (fun z => hb (by simp [z])) e) (fun h' tk hd' kp' => ?_)
    · exact this
    · refine hR h' tk ?_ fun b o h3 h4 e => kp' b o h3 h4 (kp b o h3 h4 e)
      have hdr : ps.drop i = (k, v) :: ps.drop (i + 1) := by
        obtain ⟨hj, ej⟩ := List.getElem?_eq_some_iff.mp hv
        rw [List.drop_eq_getElem_cons hj, ej]
      rw [hdr]
      exact hd'
theorem call_dict_pairs {l : Addr} {o : Obj} {items : Array Value} {n : Nat} {ps : List (K × Value)} {Q : Value → Shared → Prop} (ho : s.heap.get? l = some o) (hc : o.cls = .type "list") (hd : o.dict = none) (hdat : o.data = .seq items n)
    (hA : A.handled = none) (hp : PairsAt knd s.heap items ps []) (hz : items.size ≤ sizeLine)
    (h : ∀ h' tk, h'.DictOf knd s.heap.objs.size (merged [] ps) → (∀ b o, s.heap.get? b = some o → h'.get? b = some o) → Q (.ref s.heap.objs.size) { s with heap := h', toks := tk }) :
    wpAny (model prog w) A (call (.type "dict") [.ref l]) Q E s := by
  refine callType_codes (Q₁ := fun obj s₁ => obj = .ref s.heap.objs.size ∧ s₁ = { s with heap := s.heap.push { cls := .type "dict", data := .dict #[] } }) F.kt_called_dict (F.kt_typeCall_dict_1 _) F.entry_dict_init (kt_code_dict_new _ ⟨rfl, rfl⟩) ?_
  rintro obj s₁ ⟨rfl, rfl⟩
  have hnew : (s.heap.push { cls := .type "dict", data := .dict #[] }).DictOf knd s.heap.objs.size [] := Heap.DictOf.new s.heap
  have hlt := Heap.lt_size ho
  have ho' : (s.heap.push { cls := .type "dict", data := .dict #[] }).get? l = some o := Heap.get?_push_of_some _ ho
  refine ⟨hnew.typeIs, F.args_dict_init_2 _ _, ?_⟩
  unfold Builtin.«dict.__init__»
  refine wpAny_bind ?_
  unfold Builtin.Dict.selfAndRest
  refine wpAny_bind (wpAny_notOrdered_dict hnew.typeIs ?_)
  show wpAny _ _ (pure (s.heap.objs.size, [Value.ref l])) _ _ _
  refine wpAny_pure ?_
  show wpAny _ _ (Builtin.Dict.updateFrom "dict.__init__" s.heap.objs.size (.ref l) [] .none) _ _ _
  unfold Builtin.Dict.updateFrom
  refine wpAny_bind (wpAny_typeOf (T := "list") ⟨o, ho', hc⟩ ?_)
  rw [if_pos (by decide)]
  refine wpAny_bind (getAttr?_miss_list ho' hc hdat hd miss_keys (by decide) (by exact hA) fun h1 tk1 k1 => ?_)
  show wpAny _ _ (rule _ >>= _) _ _ _
  refine wpAny_bind (wpAny_rule ?_)
  have k0 : ∀ b q, s.heap.get? b = some q → h1.get? b = some q := fun b q e => k1 b q (Heap.get?_push_of_some _ e)
  have hl1 : h1.IsList l items := ⟨o, k0 l o ho, hc, n, hdat⟩
  refine wpAny_bind (wpAny_pyIter_list hl1 (wpAny_pure ⟨plainId_quiet plain_dul _, ?_⟩))
  have hd1 : h1.DictOf knd s.heap.objs.size [] := by
    obtain ⟨q, es, ep, e1, e2, e3⟩ := hnew
    exact ⟨q, es, ep, k1 _ _ e1, e2, e3⟩
  have hds : s.heap.objs.size < h1.objs.size := by
    obtain ⟨q, es, ep, e1, _⟩ := hd1
    exact Heap.lt_size e1
  have hl1s : l < h1.objs.size := Heap.lt_size (k0 l o ho)
  refine update_loop (knd := knd) (items := items) (ps := ps) (d := s.heap.objs.size) (it := h1.objs.size) (l := l) (Nat.ne_of_lt hds) (Nat.ne_of_lt hl1s) (Nat.ne_of_lt hlt) (by exact hA) items.size 0 _ [] (by omega) (Nat.zero_le _) ⟨_, Heap.get?_push_size _ rfl, rfl, rfl⟩ (hl1.push _) (hd1.push _) (by simpa using hz) ⟨hp.1, fun j x e => ?_⟩ fun h' tk hd' kp => ?_
  · obtain ⟨T, k, key, v, e1, _, ⟨oT, e2, e3⟩, e4, e5⟩ := hp.2 j x e
    refine ⟨T, k, key, v, e1, ?_, ⟨oT, Heap.get?_push_of_some _ (k0 _ _ e2), e3⟩, e4, e5⟩
    have h1 := Heap.lt_size e2
    have h2 := Heap.lt_size (k0 _ _ e2)
    simp only [List.mem_cons, List.not_mem_nil, or_false, not_or]
    exact ⟨Nat.ne_of_lt h1, Nat.ne_of_lt h2⟩
  · exact ⟨rfl, h h' tk hd' fun b q e => kp b q (Nat.ne_of_lt (Heap.lt_size e)) (Nat.ne_of_lt (Heap.lt_size (k0 _ _ e))) (Heap.get?_push_of_some _ (k0 b q e))⟩
end
end L2
namespace L2
open PySem PySem.Spec PyProof.Rows
section
variable {X : Cx} {pins : List (Addr × Obj)} {σ : St} {H : Hp} {s : Shared}
end
section
variable {X : Cx} {elts : List Expr} {x1 : Nat} {tpos : Pos}
end
inductive PrK (H : Hp) : List V → List (Key × V) → Prop
  | nil : PrK H [] []
  | cons {p : Addr} {k : Key} {v : V} {vs : List V} {kvs : List (Key × V)} : H p = some (.tup [kV k, v]) → PrK H vs kvs → PrK H (.ref p :: vs) ((k, v) :: kvs)
theorem PrK.mono {H H' : Hp} (t : Tups H H') {vs : List V} {kvs : List (Key × V)} (h : PrK H vs kvs) : PrK H' vs kvs := by
  induction h with
  | nil => exact .nil
  | cons e _ ih => exact .cons (t _ _ e) ih
theorem PrK.snoc {H : Hp} {vs : List V} {kvs : List (Key × V)} {p : Addr} {k : Key} {v : V} (h : PrK H vs kvs) (e : H p = some (.tup [kV k, v])) : PrK H (vs ++ [.ref p]) (kvs ++ [(k, v)]) := by
  induction h with
  | nil => exact .cons e .nil
  | cons e' _ ih => exact .cons e' ih
def rDictP (K : PySem.W.Frag) : List V → Hp → VK → Prop := fun xs H Q => ∃ l vs kvs, xs = [.ref l] ∧ SqL K H l vs ∧ PrK H vs kvs ∧ New H (.dK (mergeK [] kvs)) Q
section
variable {X : Cx}
theorem PrK.at_ {pins : List (Addr × Obj)} {σ : St} {H : Hp} {s : Shared} (I : Inv X pins σ H s) : ∀ {vs : List V} {kvs : List (Key × V)} {us : List Value}, PrK H vs kvs → Vals vs us →
    ∃ ps : List (Key × Value), KV kvs ps ∧ ps.length = us.length ∧ ∀ (j : Nat) (x : Value), us[j]? = some x → ∃ T k key v, x = .ref T ∧ T ∉ ([] : List Addr) ∧ s.heap.IsTuple T #[key, v] ∧ (mixKind X.prog X.w).is k key = true ∧ ps[j]? = some (k, v)
  | _, _, _, .nil, r => by
    cases r
    exact ⟨[], .nil, rfl, fun j x e => by simp at e⟩
  | _, _, _, .cons (p := p) (k := k) (v := v) e h, r => by
    cases r with
    | cons r1 r2 =>
      cases r1
      obtain ⟨ps, h1, h2, h3⟩ := PrK.at_ I h r2
      obtain ⟨its, q1, q2, _⟩ := I.tuple (SqT.of e)
      obtain ⟨u1, u2, rfl, ra, rb⟩ := vals2 q1
      refine ⟨(k, u2) :: ps, .cons ⟨rfl, rb⟩ h1, by simp [h2], fun j x ej => ?_⟩
      cases j with
      | zero =>
        simp at ej
        subst ej
        exact ⟨p, k, u1, u2, rfl, by simp, q2, kV_is ra, rfl⟩
      | succ j => exact h3 j x (by simpa using ej)
theorem kcl_dict (K : PySem.W.Frag) (hh : X.calm = true := by rfl) (hK : X.K = K := by rfl) : CallR X (.type "dict") (rDictP K) := by
  subst hK
  intro pins s σ H xs us Q I r h
  obtain ⟨l, vs, kvs, rfl, hq, hp, q⟩ := h
  obtain ⟨u, rfl, ru⟩ := vals1 r
  cases ru
  obtain ⟨its, rv, ⟨o, n, e1, e2, e3, e4⟩, hz⟩ := I.list hq
  obtain ⟨ps, k1, k2, k3⟩ := PrK.at_ I hp rv
  have hl := rv.length
  refine call_dict_pairs (knd := mixKind X.prog X.w) e1 e2 e3 e4 (I.ok.hd hh) ⟨by simpa using k2, fun j x e => k3 j x (by simpa using e)⟩ (by simpa using hl ▸ hz) fun h' tk hd kk => ?_
  have hz2 : (mergeK [] kvs).length ≤ sizeLine := by
    have h1 := length_mergeK kvs []
    have h2 : kvs.length = ps.length := k1.length
    simp only [List.length_nil] at h1
    omega
  refine ⟨.ref s.heap.objs.size, upd H s.heap.objs.size (.dK (mergeK [] kvs)), I.laid (t' := tk) kk (Nat.le_refl _) (dk_new hz2 (beq_eq_false_iff_ne.mpr (Ne.symm (Nat.ne_of_lt I.big))) (k1.merge .nil) hd), rfl, New.to q _ (I.hok.fresh (Nat.le_refl _))⟩
theorem i_dictP {K : PySem.W.Frag} {H : Hp} {Q : VK} {l : Addr} {vs : List V} {kvs : List (Key × V)} (h1 : SqL K H l vs) (h2 : PrK H vs kvs) (h : New H (.dK (mergeK [] kvs)) Q) : rDictP K [.ref l] H Q := ⟨l, vs, kvs, rfl, h1, h2, h⟩
def rMin2 : List V → Hp → VK → Prop := fun xs H Q => ∃ a b : Int, xs = [.int a, .int b] ∧ Q (.int (min a b)) H
theorem kcall_min2 (hh : X.calm = true := by rfl) : CallR X (.builtin "min") rMin2 := by
  intro pins s σ H xs us Q I r h
  obtain ⟨a, b, rfl, q⟩ := h
  obtain ⟨u, v, rfl, ⟨t1, rfl⟩, ⟨t2, rfl⟩⟩ := vals2 r
  refine min_two_ints (I.ok.hd hh) fun h' tk hk => ?_
  have I1 : Inv X pins σ H { s with heap := h', toks := tk } := I.kept hk
  by_cases c : b < a
  · rw [if_pos c]
    exact ⟨.int b, H, I1, ⟨_, rfl⟩, by rw [show min a b = b by omega] at q; exact q⟩
  · rw [if_neg c]
    exact ⟨.int a, H, I1, ⟨_, rfl⟩, by rw [show min a b = a by omega] at q; exact q⟩
theorem i_min2 {H : Hp} {Q : VK} {a b : Int} (h : Q (.int (min a b)) H) : rMin2 [.int a, .int b] H Q := ⟨a, b, rfl, h⟩
theorem inV_ints (x : Int) : ∀ ns : List Int, inV (.int x) (ns.map V.int) = decide (x ∈ ns)
  | [] => rfl
  | n :: ns => by
    have h := inV_ints x ns
    unfold inV at h ⊢
    rw [List.map_cons, List.any_cons, h]
    show ((n == x) || _) = _
    rw [Bool.eq_iff_iff]
    simp
    constructor
    · rintro (rfl | h)
      · exact .inl rfl
      · exact .inr h
    · rintro (rfl | h)
      · exact .inl rfl
      · exact .inr h
theorem flat_ints (ns : List Int) : (ns.map V.int).all flatV = true := by simp [flatV]
theorem i_notInI {K : PySem.W.Frag} {H : Hp} {Q : VK} {p : Addr} {x : Int} {ns : List Int} (h1 : SqL K H p (ns.map V.int)) (h : Q (.bl (!decide (x ∈ ns))) H) : rIn K true (.int x) (.ref p) H Q := ⟨p, _, rfl, .inl h1, rfl, flat_ints ns, by rw [inV_ints]; exact h⟩
theorem i_clear {H : Hp} {Q : VK} {l : Addr} {xs : List V} (h1 : H l = some (.lst xs)) (h : Q .non (upd H l (.lst []))) : rClear (.ref l) [] H Q := ⟨l, xs, rfl, rfl, h1, h⟩
theorem i_gsub {to ti : TE} {t : TSet} {v : V} {σ : St} {H : Hp} {Q : St → Hp → Prop} (h : to σ H fun o H1 => ti σ H1 fun i H2 => t o i v H2 fun H3 => Q σ H3) : gSub to ti t v σ H Q := h
theorem i_setL {H : Hp} {Q : Hp → Prop} {p : Addr} {xs : List V} {k : Int} {j : Nat} {v : V} (h1 : H p = some (.lst xs)) (h2 : ixN xs.length k = some j) (h : Q (upd H p (.lst (xs.set j v)))) : rSetL (.ref p) (.int k) v H Q := ⟨p, xs, k, j, rfl, rfl, h1, h2, h⟩
def tSeqC (t u : TS) : TS := fun D σ H => ∃ R : St → Hp → Prop, t { D with nx := R } σ H ∧ ∀ σ' H', R σ' H' → u D σ' H'
theorem pss_consC {st : Stmt} {rest : List Stmt} {t u : TS} (h1 : PS X st t) (h2 : PSs X rest u) : PSs X (st :: rest) (tSeqC t u) := by
  intro pins s σ H D I h
  obtain ⟨R, ha, hb⟩ := h
  refine wpAny_execs_cons (thn (h1 pins s σ H _ I ha) fun f s1 q => ?_)
  cases f with
  | next => obtain ⟨σ1, H1, I1, q1⟩ := q; exact h2 pins s1 σ1 H1 D I1 (hb σ1 H1 q1)
  | brk => exact q
  | cont => exact q
  | ret v => exact q
theorem i_seqC {t u : TS} {nn bb cc : St → Hp → Prop} {rr : VK} {σ : St} {H : Hp} (R : St → Hp → Prop) (h1 : t ⟨R, rr, bb, cc⟩ σ H) (h2 : ∀ σ' H', R σ' H' → u ⟨nn, rr, bb, cc⟩ σ' H') : tSeqC t u ⟨nn, rr, bb, cc⟩ σ H := ⟨R, h1, h2⟩
theorem i_while {c : TT} {tb : TS} {nn bb cc : St → Hp → Prop} {rr : VK} {σ : St} {H : Hp} (W : Nat → St → Hp → Prop) (m : Nat) (h0 : W m σ H)
    (hs : ∀ m σ H, W m σ H → c σ H fun b H1 => if b = true then ∃ N : St → Hp → Prop, (∀ σ' H', N σ' H' → ∃ m', m' < m ∧ W m' σ' H') ∧ tb ⟨N, rr, nn, N⟩ σ H1 else nn σ H1) : tWhile c tb ⟨nn, rr, bb, cc⟩ σ H := ⟨W, ⟨m, h0⟩, hs⟩
end
end L2
namespace L2
open PySem
section
variable {H : Hp} {x : Tr} {xs : List Tr} {v : V} {vs ws : List V}
theorem ats_nil0 : Tr.Ats H [] vs [] ↔ vs = [] := by simp [Tr.Ats]
theorem ats_cons0 : Tr.Ats H (x :: xs) vs [] ↔ ∃ v ws, vs = v :: ws ∧ x.At H v [] ∧ Tr.Ats H xs ws [] := by
  simp only [Tr.Ats]
  constructor
  · rintro ⟨v, ws, f, g, h1, h2, h3, h4⟩
    obtain ⟨rfl, rfl⟩ := List.append_eq_nil_iff.mp h2.symm
    exact ⟨v, ws, h1, h3, h4⟩
  · rintro ⟨v, ws, h1, h3, h4⟩
    exact ⟨v, ws, [], [], h1, rfl, h3, h4⟩
theorem at_tup0 : (Tr.tup xs).At H v [] ↔ ∃ a vs, v = .ref a ∧ H a = some (.tup vs) ∧ Tr.Ats H xs vs [] := by simp only [Tr.At]
theorem at_int0 {i : Int} : (Tr.int i).At H v [] ↔ v = .int i := by simp [Tr.At]
theorem at_str0 {i : Str} : (Tr.str i).At H v [] ↔ v = .str i := by simp [Tr.At]
theorem Tr.At.tups {H H' : Hp} (h : x.At H v []) (s : Tups H H') : x.At H' v [] := h.mono ⟨s, fun _ m => by simp at m⟩
end
section
variable {H : Hp} {v : V} {a : Addr}
end
def natsV (l : List Nat) : List V := l.map fun k => V.int (k : Nat)
end L2
namespace L2
open PySem PySem.Spec PyProof.Rows
section
variable {σ : St} {H : Hp} {Q : VK} {QT : Bool → Hp → Prop} {td ty tv te : TE} {nn bb cc : St → Hp → Prop} {rr : VK}
theorem i_tB (h : te σ H fun x H1 => ∃ c, x = .bl c ∧ QT c H1) : tB te σ H QT := h
theorem i_din (h : ty σ H fun y H1 => td σ H1 fun x H2 => ∃ a o, x = .ref a ∧ DGet H2 a y o ∧ Q (.bl o.isSome) H2) : tDIn ty td σ H Q := h
end
end L2
namespace L2
theorem pigeon : ∀ (n : Nat) (l : List Nat), l.Nodup → (∀ k ∈ l, k < n) → l.length ≤ n
  | 0, l, _, h => by
    cases l with
    | nil => simp
    | cons a l => exact absurd (h a (by simp)) (Nat.not_lt_zero _)
  | n + 1, l, hn, h => by
    by_cases hm : n ∈ l
    · have h1 := List.length_erase_of_mem hm
      have h2 := pigeon n (l.erase n) (hn.erase n) (fun k hk => by
        have h3 := hn.mem_erase_iff.mp hk
        have := h k h3.2
        have := h3.1
        omega)
      have : 0 < l.length := List.length_pos_of_mem hm
      omega
    · have := pigeon n l hn (fun k hk => by
        have h1 := h k hk
        have : k ≠ n := fun z => hm (z ▸ hk)
        omega)
      omega
end L2
namespace L2
open PySem PySem.Spec PyProof.Rows
section
variable {X : Cx} {σ : St} {H : Hp} {Q : VK} {QT : Bool → Hp → Prop} {td ty tv te : TE} {nn bb cc : St → Hp → Prop} {rr : VK}
def rRepN : R2 := fun x y H Q => ∃ l k xs, x = .ref l ∧ y = .int k ∧ H l = some (.lst xs) ∧ -(2 ^ 63) ≤ k ∧ k < 2 ^ 63 ∧ xs.length * k.toNat ≤ sizeLine ∧ New H (.lst (List.replicate k.toNat xs).flatten) Q
theorem kop_repN : OpR X (binaryOp .Mult) rRepN := by
  intro pins s σ H x y v u Q I rx ry h
  obtain ⟨l, k, xs, e1, e2, h1, h2, h3, h4, h5⟩ := h
  exact op_rep pins s σ H x y v u Q I rx ry ⟨l, k, xs, e1, e2, h1, h2, h3, h4, New.to h5⟩
end
end L2
namespace L2
open PySem PySem.Spec PyProof.Rows
section
variable {X : Cx} {elts : List Expr} {x1 : Nat} {tpos : Pos}
end
end L2
namespace L2
open PySem PySem.Spec PyProof.Rows
def pl2 (k : Bool) : Option Int → Option Int → Option Int
  | some x, some y => some (if k then x + y else x - y)
  | _, _ => none
end L2
namespace L2
open PySem PySem.Spec PyProof.Rows
end L2
namespace L2
open PySem
end L2
namespace L2
open PySem PySem.Spec PyProof.Rows
end L2
namespace L2
open PySem PySem.Spec PyProof.Rows
noncomputable instance trDec : DecidableEq Tr := fun _ _ => Classical.propDecidable _
def IntIn (z : Int) (u : Value) : Prop := (∃ t, u = .int z t) ∨ ∃ b : Bool, u = .bool b ∧ z = (if b = true then 1 else 0)
mutual
def Tr.In (h : Heap) : Tr → Value → Prop
  | .non, u => u = .none
  | .int z, u => IntIn z u
  | .str x, u => ∃ t, u = .str x t
  | .tup ts, u => ∃ a us, u = .ref a ∧ h.IsTuple a us ∧ Tr.Ins h ts us.toList
  | .lst _, _ => False
def Tr.Ins (h : Heap) : List Tr → List Value → Prop
  | [], us => us = []
  | t :: ts, us => ∃ u r, us = u :: r ∧ Tr.In h t u ∧ Tr.Ins h ts r
end
theorem Tr.Ins.len {h : Heap} : ∀ {ts : List Tr} {us : List Value}, Tr.Ins h ts us → us.length = ts.length
  | [], us, e => by simp only [Tr.Ins] at e; rw [e]; rfl
  | t :: ts, us, e => by
    simp only [Tr.Ins] at e
    obtain ⟨u, r, rfl, _, e⟩ := e
    simp [e.len]
theorem Tr.Ins.get {h : Heap} : ∀ {ts : List Tr} {us : List Value}, Tr.Ins h ts us → ∀ (j : Nat) (h1 : j < us.length) (h2 : j < ts.length), Tr.In h ts[j] us[j]
  | [], us, e, j, h1, h2 => absurd h2 (Nat.not_lt_zero _)
  | t :: ts, us, e, j, h1, h2 => by
    simp only [Tr.Ins] at e
    obtain ⟨u, r, rfl, e1, e⟩ := e
    cases j with
    | zero => exact e1
    | succ j => exact e.get j (by simpa using h1) (by simpa using h2)
theorem isTuple_inj {h : Heap} {a : Addr} {us vs : Array Value} (x : h.IsTuple a us) (y : h.IsTuple a vs) : us = vs := by
  obtain ⟨o, e, _, n, d⟩ := x
  obtain ⟨o', e', _, n', d'⟩ := y
  rw [e] at e'; cases e'
  rw [d] at d'
  injection d' with d1 _
mutual
theorem Tr.In.inj {h : Heap} : ∀ {t r : Tr} {u : Value}, Tr.In h t u → Tr.In h r u → t = r
  | .non, r, u, e, f => by
    simp only [Tr.In] at e
    subst e
    cases r <;> simp [Tr.In, IntIn] at f ⊢
  | .int z, r, u, e, f => by
    simp only [Tr.In] at e
    rcases e with ⟨t, rfl⟩ | ⟨b, rfl, rfl⟩
    · cases r <;> simp [Tr.In, IntIn] at f ⊢
      exact f
    · cases r <;> simp [Tr.In, IntIn] at f ⊢
      exact f.symm
  | .str x, r, u, e, f => by
    simp only [Tr.In] at e
    obtain ⟨t, rfl⟩ := e
    cases r <;> simp [Tr.In, IntIn] at f ⊢
    exact f
  | .lst _, r, u, e, f => e.elim
  | .tup ts, .tup rs, u, e, f => by
    simp only [Tr.In] at e f
    obtain ⟨a, us, rfl, e2, e3⟩ := e
    obtain ⟨b, vs, hb, f2, f3⟩ := f
    cases hb
    cases isTuple_inj e2 f2
    rw [Tr.Ins.inj e3 f3]
  | .tup ts, .non, u, e, f => by
    simp only [Tr.In] at e f
    obtain ⟨a, us, rfl, e2, e3⟩ := e
    cases f
  | .tup ts, .int _, u, e, f => by
    simp only [Tr.In] at e f
    obtain ⟨a, us, rfl, e2, e3⟩ := e
    rcases f with ⟨_, f⟩ | ⟨_, f, _⟩ <;> cases f
  | .tup ts, .str _, u, e, f => by
    simp only [Tr.In] at e f
    obtain ⟨a, us, rfl, e2, e3⟩ := e
    obtain ⟨_, f⟩ := f
    cases f
  | .tup ts, .lst _, u, e, f => f.elim
theorem Tr.Ins.inj {h : Heap} : ∀ {ts rs : List Tr} {us : List Value}, Tr.Ins h ts us → Tr.Ins h rs us → ts = rs
  | [], rs, us, e, f => by
    simp only [Tr.Ins] at e
    subst e
    cases rs with
    | nil => rfl
    | cons r rs => simp [Tr.Ins] at f
  | t :: ts, rs, us, e, f => by
    simp only [Tr.Ins] at e
    obtain ⟨u, r, rfl, e1, e2⟩ := e
    cases rs with
    | nil => simp [Tr.Ins] at f
    | cons q qs =>
      simp only [Tr.Ins] at f
      obtain ⟨u', r', hh, f1, f2⟩ := f
      cases hh
      rw [e1.inj f1, Tr.Ins.inj e2 f2]
end
theorem at_no_lst {H : Hp} {ts : List Tr} {v : V} {h : (Tr.lst ts).At H v []} : False := by
  simp only [Tr.At] at h
  obtain ⟨a, vs, _, rfl, e1, c1, e⟩ := h
  simp at e
section
variable {X : Cx} {pins : List (Addr × Obj)} {σ : St} {H : Hp} {s : Shared}
mutual
theorem Tr.At.isIn (I : Inv X pins σ H s) : ∀ {t : Tr} {v : V} {u : Value}, t.At H v [] → RelV v u → Tr.In s.heap t u
  | .non, v, u, h, r => by
    obtain ⟨rfl, -⟩ := (by simpa only [Tr.At] using h)
    cases r
    exact rfl
  | .int z, v, u, h, r => by
    obtain ⟨rfl, -⟩ := (by simpa only [Tr.At] using h)
    obtain ⟨t, rfl⟩ := r
    exact .inl ⟨t, rfl⟩
  | .str z, v, u, h, r => by
    obtain ⟨rfl, -⟩ := (by simpa only [Tr.At] using h)
    obtain ⟨t, rfl⟩ := r
    exact ⟨t, rfl⟩
  | .lst _, v, u, h, r => (at_no_lst (h := h)).elim
  | .tup ts, v, u, h, r => by
    simp only [Tr.At] at h
    obtain ⟨a, vs, rfl, e1, c1⟩ := h
    cases r
    obtain ⟨is1, q1, p1, _⟩ := I.tuple (SqT.of e1)
    simp only [Tr.In]
    exact ⟨a, is1.toArray, rfl, p1, by simpa using Tr.Ats.isIns I c1 q1⟩
theorem Tr.Ats.isIns (I : Inv X pins σ H s) : ∀ {ts : List Tr} {vs : List V} {us : List Value}, Tr.Ats H ts vs [] → Vals vs us → Tr.Ins s.heap ts us
  | [], vs, us, c, q => by
    simp only [Tr.Ats] at c
    obtain ⟨rfl, -⟩ := c
    cases q
    exact rfl
  | t :: ts, vs, us, c, q => by
    simp only [Tr.Ats] at c
    obtain ⟨v, vs, f, g, rfl, e, a1, b1⟩ := c
    have hf : f = [] ∧ g = [] := by simpa using e.symm
    obtain ⟨rfl, rfl⟩ := hf
    cases q with
    | cons r1 q1 =>
    simp only [Tr.Ins]
    exact ⟨_, _, rfl, a1.isIn I r1, b1.isIns I q1⟩
end
end
theorem all_range {n : Nat} {e : Nat → Bool} : (List.range n).all e = true ↔ ∀ j, j < n → e j = true := by simp [List.all_eq_true]
theorem trs_eq {ts rs : List Tr} : ((List.range (min ts.length rs.length)).all (fun j => decide (ts.getD j .non = rs.getD j .non)) && ts.length == rs.length) = decide (ts = rs) := by
  rw [Bool.eq_iff_iff, Bool.and_eq_true, all_range, decide_eq_true_iff, beq_iff_eq]
  constructor
  · rintro ⟨h1, h2⟩
    refine List.ext_getElem h2 fun j h3 h4 => ?_
    have := of_decide_eq_true (h1 j (by omega))
    simpa [h3, h4] using this
  · rintro rfl
    exact ⟨fun j _ => decide_eq_true rfl, rfl⟩
section
variable {s : Shared}
mutual
theorem Tr.In.eqAt : ∀ {t r : Tr} {A : Around} {u z : Value}, Tr.In s.heap t u → Tr.In s.heap r z → A.units + t.h + r.h < cLine → SeqAt.EqAt A s u z (decide (t = r))
  | .non, r, A, u, z, h1, h2, hu => by
    simp only [Tr.In] at h1
    subst h1
    cases r with
    | non =>
      simp only [Tr.In] at h2
      subst h2
      rw [decide_eq_true rfl]
      exact SeqAt.EqAt.same _
    | int i =>
      rw [decide_eq_false (by simp)]
      rcases h2 with ⟨t2, rfl⟩ | ⟨b2, rfl, rfl⟩
      · exact SeqAt.EqAt.none_int _ _
      · exact SeqAt.EqAt.none_bool _
    | str i =>
      obtain ⟨t2, rfl⟩ := h2
      rw [decide_eq_false (by simp)]
      exact SeqAt.EqAt.none_str _ _
    | tup rs =>
      simp only [Tr.In] at h2
      obtain ⟨a, us, rfl, p, _⟩ := h2
      rw [decide_eq_false (by simp)]
      exact SeqAt.EqAt.none_tuple p (by omega)
    | lst rs => exact h2.elim
  | .int i, r, A, u, z, h1, h2, hu => by
    cases r with
    | non =>
      simp only [Tr.In] at h2
      subst h2
      rw [decide_eq_false (by simp)]
      rcases h1 with ⟨t1, rfl⟩ | ⟨b1, rfl, rfl⟩
      · exact SeqAt.EqAt.int_none _ _
      · exact SeqAt.EqAt.bool_none _
    | int j =>
      rw [show decide (Tr.int i = Tr.int j) = (i == j) from Bool.eq_iff_iff.mpr (by simp)]
      rcases h1 with ⟨t1, rfl⟩ | ⟨b1, rfl, rfl⟩
      · rcases h2 with ⟨t2, rfl⟩ | ⟨b2, rfl, rfl⟩
        · exact SeqAt.EqAt.int_int _ _ _ _
        · exact SeqAt.EqAt.int_bool _ _ _
      · rcases h2 with ⟨t2, rfl⟩ | ⟨b2, rfl, rfl⟩
        · exact SeqAt.EqAt.bool_int _ _ _
        · have := SeqAt.EqAt.bool_bool (A := A) (s := s) b1 b2
          cases b1 <;> cases b2 <;> exact this
    | str j =>
      obtain ⟨t2, rfl⟩ := h2
      rw [decide_eq_false (by simp)]
      rcases h1 with ⟨t1, rfl⟩ | ⟨b1, rfl, rfl⟩
      · exact SeqAt.EqAt.int_str _ _ _ _
      · exact SeqAt.EqAt.bool_str _ _ _
    | tup rs =>
      simp only [Tr.In] at h2
      obtain ⟨a, us, rfl, p, _⟩ := h2
      rw [decide_eq_false (by simp)]
      rcases h1 with ⟨t1, rfl⟩ | ⟨b1, rfl, rfl⟩
      · exact SeqAt.EqAt.int_tuple _ _ p (by omega)
      · exact SeqAt.EqAt.bool_tuple _ p (by omega)
    | lst rs => exact h2.elim
  | .str i, r, A, u, z, h1, h2, hu => by
    obtain ⟨t1, rfl⟩ := h1
    cases r with
    | non =>
      simp only [Tr.In] at h2
      subst h2
      rw [decide_eq_false (by simp)]
      exact SeqAt.EqAt.str_none _ _
    | int j =>
      rw [decide_eq_false (by simp)]
      rcases h2 with ⟨t2, rfl⟩ | ⟨b2, rfl, rfl⟩
      · exact SeqAt.EqAt.str_int _ _ _ _
      · exact SeqAt.EqAt.str_bool _ _ _
    | str j =>
      obtain ⟨t2, rfl⟩ := h2
      have := SeqAt.EqAt.str_str (A := A) (s := s) i t1 j t2
      rw [show (i == j) = decide (Tr.str i = Tr.str j) from Bool.eq_iff_iff.mpr (by simp)] at this
      exact this
    | tup rs =>
      simp only [Tr.In] at h2
      obtain ⟨a, us, rfl, p, _⟩ := h2
      rw [decide_eq_false (by simp)]
      exact SeqAt.EqAt.str_tuple _ _ p (by omega)
    | lst rs => exact h2.elim
  | .lst _, r, A, u, z, h1, h2, hu => h1.elim
  | .tup ts, r, A, u, z, h1, h2, hu => by
    have h1' := h1
    simp only [Tr.In] at h1
    obtain ⟨a, us, rfl, p1, c1⟩ := h1
    cases r with
    | non =>
      simp only [Tr.In] at h2
      subst h2
      rw [decide_eq_false (by simp)]
      exact SeqAt.EqAt.tuple_none p1 (by omega)
    | int j =>
      rw [decide_eq_false (by simp)]
      rcases h2 with ⟨t2, rfl⟩ | ⟨b2, rfl, rfl⟩
      · exact SeqAt.EqAt.tuple_int _ _ p1 (by omega)
      · exact SeqAt.EqAt.tuple_bool _ p1 (by omega)
    | str j =>
      obtain ⟨t2, rfl⟩ := h2
      rw [decide_eq_false (by simp)]
      exact SeqAt.EqAt.tuple_str _ _ p1 (by omega)
    | lst rs => exact h2.elim
    | tup rs =>
      have h2' := h2
      simp only [Tr.In] at h2
      obtain ⟨b, vs, rfl, p2, c2⟩ := h2
      by_cases hab : a = b
      · subst hab
        rw [decide_eq_true (h1'.inj h2')]
        exact SeqAt.EqAt.same _
      refine SeqAt.EqAt.of_refs hab ?_
      simp only [Tr.h] at hu
      have l1 := c1.len
      have l2 := c2.len
      simp only [Array.length_toList] at l1 l2
      have := SeqAt.RcAt.tuples (A := A) (s := s) (e := fun j => decide (ts.getD j .non = rs.getD j .non)) p1 p2 (by omega) (fun j h1 h2 => by
        have := Tr.Ins.eqAts (A := A.in1) c1 c2 (by rw [in1_units]; omega) j (by simpa using h1) (by simpa using h2)
        simpa using this)
      rw [l1, l2, trs_eq] at this
      rw [show decide (Tr.tup ts = Tr.tup rs) = decide (ts = rs) from Bool.eq_iff_iff.mpr (by simp)]
      exact this
theorem Tr.Ins.eqAts : ∀ {ts rs : List Tr} {A : Around} {us zs : List Value}, Tr.Ins s.heap ts us → Tr.Ins s.heap rs zs → A.units + Tr.hs ts + Tr.hs rs < cLine →
    ∀ (j : Nat) (h1 : j < us.length) (h2 : j < zs.length), SeqAt.EqAt A s us[j] zs[j] (decide (ts.getD j .non = rs.getD j .non))
  | [], rs, A, us, zs, c1, c2, hu, j, h1, h2 => by
    simp only [Tr.Ins] at c1
    subst c1
    exact absurd h1 (by simp)
  | t :: ts, [], A, us, zs, c1, c2, hu, j, h1, h2 => by
    simp only [Tr.Ins] at c2
    subst c2
    exact absurd h2 (by simp)
  | t :: ts, r :: rs, A, us, zs, c1, c2, hu, j, h1, h2 => by
    simp only [Tr.Ins] at c1 c2
    obtain ⟨u, us, rfl, a1, b1⟩ := c1
    obtain ⟨z, zs, rfl, a2, b2⟩ := c2
    simp only [Tr.hs] at hu
    cases j with
    | zero =>
      have := a1.eqAt a2 (A := A) (by omega)
      simpa using this
    | succ j =>
      have := b1.eqAts b2 (A := A) (by omega) j (by simpa using h1) (by simpa using h2)
      simpa using this
end
end
section
variable {prog : Program} {w : World} {E : Value → Shared → Prop}
end
end L2
namespace L2
open PySem PySem.Spec PyProof.Rows
section
variable {prog : Program} {w : World} {E : Value → Shared → Prop}
end
section
variable {prog : Program} {w : World} {E : Value → Shared → Prop} {A : Around} {s : Shared} {d : Addr} {o : Obj} {es : Array DictEntry} {ep : Nat} {ts : List Tr} {t : Tr} {u : Value}
end
end L2
namespace L2
open PySem PySem.Spec PyProof.Rows
section
variable {X : Cx} {pins : List (Addr × Obj)} {σ : St} {H : Hp} {s : Shared} {a : Addr} {t : Tr} {y v : V} {u r : Value} {A : Around} {E : Value → Shared → Prop} {kvs : List (Tr × V)} {m : List (Tr × V × V)}
end
end L2
namespace L2
open PySem PySem.Spec PyProof.Rows
section
variable {prog : Program} {w : World} {A : Around} {E : Value → Shared → Prop} {s : Shared} {d it : Addr} {es : Array DictEntry} {ep i : Nat}
end
theorem vals_of : ∀ {xs : List V} {us : List Value}, xs.length = us.length → (∀ (j : Nat) x u, xs[j]? = some x → us[j]? = some u → RelV x u) → Vals xs us
  | [], [], _, _ => .nil
  | x :: xs, u :: us, hl, h => .cons (h 0 x u rfl rfl) (vals_of (by simpa using hl) fun j y z hy hz => h (j + 1) y z (by simpa using hy) (by simpa using hz))
  | [], _ :: _, hl, _ => by simp at hl
  | _ :: _, [], hl, _ => by simp at hl
section
variable {X : Cx} {pins : List (Addr × Obj)} {σ : St} {H : Hp} {s : Shared} {a : Addr} {t : Tr} {y v z : V} {u r : Value} {A : Around} {E : Value → Shared → Prop} {kvs : List (Tr × V)} {m : List (Tr × V × V)}
end
end L2
namespace L2
open PySem PySem.Spec PyProof.Rows
theorem tr_tups {H H' : Hp} {t : Tr} {v : V} (h : t.At H v []) (k : Tups H H') : t.At H' v [] := h.mono ⟨k, fun _ m => absurd m (by simp)⟩
section
variable {X : Cx} {o i e f value : Expr} {pos pos' apos cpos : Pos} {td ty tv tx : TE} {P : Params}
end
def rNotInF (K : PySem.W.Frag) : R2 := fun x y H Q => ∃ (t : Tr) (ts : List Tr) (a : Addr) (vs : List V), t.At H x [] ∧ y = .ref a ∧ SqL K H a vs ∧ Tr.Ats H ts vs [] ∧ t.h ≤ 20 ∧ Tr.hs ts ≤ 20 ∧ Q (.bl (!decide (t ∈ ts))) H
def rSum (K : PySem.W.Frag) : List V → Hp → VK → Prop := fun xs H Q => ∃ (a : Addr) (ns : List Int), xs = [.ref a] ∧ SqL K H a (ns.map V.int) ∧ Q (.int ns.sum) H
section
variable {X : Cx}
theorem hs_mem {ts : List Tr} {t : Tr} (h : t ∈ ts) : t.h ≤ Tr.hs ts := by
  induction ts with
  | nil => cases h
  | cons x xs ih =>
    simp only [Tr.hs]
    rcases List.mem_cons.mp h with rfl | h
    · omega
    · have := ih h; omega
theorem ins_mem {h : Heap} {ts : List Tr} {us : List Value} (x : Tr.Ins h ts us) {z : Value} (hz : z ∈ us) : ∃ t ∈ ts, Tr.In h t z := by
  obtain ⟨j, hj, rfl⟩ := List.mem_iff_getElem.mp hz
  have hj' : j < ts.length := by rw [← x.len]; exact hj
  exact ⟨ts[j], List.getElem_mem hj', x.get j hj hj'⟩
theorem kop_notInF (K : PySem.W.Frag) (hu : X.A.units + 64 < cLine) (hK : X.K = K := by rfl) : OpR X (compareOp .NotIn) (rNotInF K) := by
  classical
  subst hK
  intro pins s σ H x y v u Q I rx ry h
  obtain ⟨t, ts, a, vs, h1, rfl, h2, h3, l1, l2, q⟩ := h
  cases ry
  obtain ⟨its, v1, p1, _⟩ := I.list h2
  have hin := h1.isIn I rx
  have his := h3.isIns I v1
  refine SeqAt.notIn_listAt (fun z => decide (∃ r, Tr.In s.heap r z ∧ r = t)) p1.isList (fun z hz => ?_) ?_
  · obtain ⟨r, hr, hz'⟩ := ins_mem his (by simpa using hz)
    have := hz'.eqAt hin (A := X.A.in1) (by have := hs_mem hr; rw [in1_units]; omega)
    rw [show decide (∃ q, Tr.In s.heap q z ∧ q = t) = decide (r = t) from Bool.eq_iff_iff.mpr (by
      simp only [decide_eq_true_iff]
      exact ⟨fun ⟨q, a, b⟩ => (hz'.inj a).trans b, fun e => ⟨r, hz', e⟩⟩)]
    exact this
  · refine ⟨.bl (!decide (t ∈ ts)), H, I, ?_, q⟩
    rw [show its.toArray.any (fun z => decide (∃ r, Tr.In s.heap r z ∧ r = t)) = decide (t ∈ ts) from ?_]
    · rfl
    rw [← Array.any_toList, Bool.eq_iff_iff, List.any_eq_true, decide_eq_true_iff]
    constructor
    · rintro ⟨z, hz, e⟩
      obtain ⟨r, hr, rfl⟩ := of_decide_eq_true e
      obtain ⟨r', hm, hr'⟩ := ins_mem his (by simpa using hz)
      exact hr'.inj hr ▸ hm
    · intro hm
      obtain ⟨j, hj, rfl⟩ := List.mem_iff_getElem.mp hm
      have hj' : j < its.length := by rw [his.len]; exact hj
      exact ⟨its[j], by simp, decide_eq_true ⟨_, his.get j hj' hj, rfl⟩⟩
theorem cl_sum (hc : X.calm = true) : CallR X (.builtin "sum") (rSum X.K) := by
  intro pins s σ H xs us Q I r h
  obtain ⟨a, ns, rfl, hS, q⟩ := h
  cases r with
  | cons r1 r2 =>
  cases r2
  cases r1
  obtain ⟨its, v1, p1, _⟩ := I.list hS
  have hi := intsAre_of v1
  obtain ⟨ys, e⟩ := hi.allInts.items
  have hn := nums_intItems (xs := ys)
  rw [← e, show its.toArray.toList = its from rfl, hi.numsOf] at hn
  refine sum_intListG (xs := ys) (I.ok.hd hc) (e ▸ p1.isList) fun h' tk t' hk => ⟨.int ns.sum, H, I.kept hk, ⟨t', ?_⟩, q⟩
  rw [preSum_eq, List.take_of_length_le (by simp), hn]
end
end L2
namespace L2
open PySem PySem.Spec PyProof.Rows
section
variable {P : Params} {σ : St} {H : Hp} {Q : VK} {td ty tx tv : TE} {nn bb cc : St → Hp → Prop} {rr : VK}
end
def rNeNil (K : PySem.W.Frag) : R2 := fun x y H Q => ∃ a b xs, x = .ref a ∧ y = .ref b ∧ SqL K H a xs ∧ SqL K H b [] ∧ Q (.bl (!xs.isEmpty)) H
section
variable {X : Cx}
theorem kop_neNil (K : PySem.W.Frag) (hu : X.A.units + 64 < cLine) (hK : X.K = K := by rfl) : OpR X (compareOp .NotEq) (rNeNil K) := by
  subst hK
  intro pins s σ H x y v u Q I rx ry h
  obtain ⟨a, b, xs, rfl, rfl, h1, h2, q⟩ := h
  cases rx
  cases ry
  obtain ⟨is1, q1, p1, _⟩ := I.list h1
  obtain ⟨is2, q2, p2, _⟩ := I.list h2
  cases q2
  cases q1 with
  | nil =>
    have := SeqAt.RcNeAt.lists (A := X.A) (s := s) (e := fun _ => true) p1.isList p2.isList rfl (by omega) (fun j h1 _ => absurd h1 (by simp))
    exact this X.prog X.w X.xe (EP X pins σ Q) ⟨.bl false, H, I, rfl, q⟩
  | cons r1 r2 =>
    have := SeqAt.RcNeAt.lists_lengths (A := X.A) (s := s) p1.isList p2.isList (by simp) (by omega)
    exact this X.prog X.w X.xe (EP X pins σ Q) ⟨.bl true, H, I, rfl, q⟩
theorem kcl_sum (K : PySem.W.Frag) (h : X.calm = true := by rfl) (hK : X.K = K := by rfl) : CallR X (.builtin "sum") (rSum K) := hK ▸ cl_sum h
end
section
variable {K : PySem.W.Frag} {H : Hp} {Q : VK}
theorem i_neNil {a b : Addr} {xs : List V} (h1 : SqL K H a xs) (h2 : SqL K H b []) (h : Q (.bl (!xs.isEmpty)) H) : rNeNil K (.ref a) (.ref b) H Q := ⟨a, b, xs, rfl, rfl, h1, h2, h⟩
theorem i_sum {a : Addr} {ns : List Int} (h1 : SqL K H a (ns.map V.int)) (h : Q (.int ns.sum) H) : rSum K [.ref a] H Q := ⟨a, ns, rfl, h1, h⟩
theorem i_notInF {x : V} {a : Addr} {t : Tr} {ts : List Tr} {vs : List V} (h1 : t.At H x []) (h2 : SqL K H a vs) (h3 : Tr.Ats H ts vs []) (l1 : t.h ≤ 20) (l2 : Tr.hs ts ≤ 20) (h : Q (.bl (!decide (t ∈ ts))) H) : rNotInF K x (.ref a) H Q := ⟨t, ts, a, vs, h1, rfl, h2, h3, l1, l2, h⟩
end
end L2
namespace L2
open PySem PySem.Spec PyProof.Rows
end L2
namespace L2
open PySem PySem.Spec PyProof.Rows
section
variable {X : Cx} {o e value : Expr} {f : Str} {pos pos' : Pos} {ta tv : TE}
end
section
variable {K : PySem.W.Frag} {σ : St} {H : Hp} {Q : VK} {ta tv : TE} {t : TA} {f m : Str} {C : Addr} {sp : Sp} {dvs : List V} {E : XK} {nn bb cc : St → Hp → Prop} {rr : VK}
end
end L2
namespace L2
open PySem PySem.Spec PyProof.Rows
section
variable {X : Cx} {pins : List (Addr × Obj)} {σ : St} {H : Hp} {s : Shared}
end
end L2
namespace L2
open PySem PySem.Spec PyProof.Rows
def rRange1 : List V → Hp → VK → Prop := fun xs H Q => ∃ n : Nat, xs = [.int (n : Nat)] ∧ n ≤ 1000000 ∧ New H (.rng 0 (n : Nat)) Q
def rListR : List V → Hp → VK → Prop := fun xs H Q => ∃ (a : Addr) (n : Nat), xs = [.ref a] ∧ H a = some (.rng 0 (n : Nat)) ∧ n ≤ 1000000 ∧ New H (.lst (natsV (List.range n))) Q
section
variable {X : Cx}
theorem cl_range1 : CallR X (.type "range") rRange1 := by
  intro pins s σ H xs us Q I r h
  obtain ⟨n, rfl, hn, q⟩ := h
  cases r with
  | cons r1 r2 =>
  cases r2
  obtain ⟨t, rfl⟩ := r1
  refine call_range_1 ⟨.ref s.heap.objs.size, upd H s.heap.objs.size (.rng 0 (n : Nat)), I.laid (fun b o e => Heap.get?_push_of_some _ e) (Nat.le_refl _) ⟨_, _, _, Heap.get?_push_size _ rfl⟩, rfl, New.to q _ I.fresh⟩
theorem cl_listR (hc : X.calm = true) : CallR X (.type "list") rListR := by
  intro pins s σ H xs us Q I r h
  obtain ⟨a, n, rfl, e, hn, q⟩ := h
  cases r with
  | cons r1 r2 =>
  cases r2
  cases r1
  obtain ⟨t, u, v, hg⟩ := I.hok a _ e
  refine call_list_range (n := n) (I.ok.hd hc) hg (small_one (by omega) (by omega) (by omega) (by omega)) (by rw [rangeSize_one]; split <;> omega) (by omega) fun h' tk acc c hk hS hacc => ⟨.ref s.heap.objs.size, _, I.laid (a := s.heap.objs.size) (t' := tk) hk (Nat.le_refl _) ?_, rfl, New.to q _ I.fresh⟩
  refine ⟨le_line (by simp [natsV]; omega), acc.toList, c, ?_, by simpa using hS⟩
  refine vals_of (by simp [natsV, hacc.1]) fun j x1 x2 hx1 hx2 => ?_
  have hj : j < n := by
    have := (List.getElem?_eq_some_iff.mp hx1).1
    simpa [natsV] using this
  obtain ⟨t2, rfl⟩ := hacc.2 j x2 (by rw [← Array.getElem?_toList]; exact hx2)
  have : x1 = .int (j : Nat) := by simpa [natsV, hj] using hx1.symm
  subst this
  exact ⟨t2, by simp⟩
end
section
variable {K : PySem.W.Frag} {H : Hp} {Q : VK}
theorem i_range1 {n : Nat} (hn : n ≤ 1000000) (h : New H (.rng 0 (n : Nat)) Q) : rRange1 [.int (n : Nat)] H Q := ⟨n, rfl, hn, h⟩
theorem i_listR {a : Addr} {n : Nat} (e : H a = some (.rng 0 (n : Nat))) (hn : n ≤ 1000000) (h : New H (.lst (natsV (List.range n))) Q) : rListR [.ref a] H Q := ⟨a, n, rfl, e, hn, h⟩
end
end L2
namespace L2
open PySem PySem.Spec PyProof.Rows
end L2
namespace L2
open PySem PySem.Spec PyProof.Rows
section
variable {X : Cx} {tg : Expr}
end
section
variable {σ : St} {H : Hp} {R : It → Hp → Prop} {ts : TA}
end
end L2
namespace L2
open PySem PySem.Spec PyProof.Rows
section
variable {X : Cx}
end
section
variable {K : PySem.W.Frag} {H : Hp} {Q : VK}
end
end L2
namespace L2
open PySem PySem.Spec PyProof.Rows
section
variable {X : Cx} {e st : Expr} {te ts : TE} {p2 pos : Pos}
end
end L2
namespace L2
open PySem PySem.Spec PyProof.Rows
section
variable {prog : Program} {w : World} {z TI TO i1 i2 i3 l1 l2 l3 : Addr} {xs ys us : Array Value} {st1 st2 st3 : Nat → Heap → Prop}
end
end L2
namespace L2
open PySem PySem.Spec PyProof.Rows
section
variable {X : Cx} {elts : List Expr} {x1 : Nat} {tpos : Pos}
end
end L2
namespace L2
open PySem PySem.Spec PyProof.Rows
section
variable {X : Cx} {k v : Expr} {pos : Pos} {tk tv : TE} {P : Params}
end
end L2
namespace L2
open PySem PySem.Spec PyProof.Rows
def Each {α β : Type} (R : α → β → Prop) (vs : List α) (xs : List β) : Prop := vs.length = xs.length ∧ ∀ (j : Nat) (v : α) (x : β), vs[j]? = some v → xs[j]? = some x → R v x
section
variable {α β : Type} {R : α → β → Prop} {vs : List α} {xs : List β}
theorem Each.nil : Each R ([] : List α) ([] : List β) := ⟨rfl, fun j v x h => by simp at h⟩
theorem Each.mono {R' : α → β → Prop} (h : Each R vs xs) (k : ∀ v x, R v x → R' v x) : Each R' vs xs := ⟨h.1, fun j v x h1 h2 => k v x (h.2 j v x h1 h2)⟩
theorem Each.append {ws : List α} {ys : List β} (h : Each R vs xs) (k : Each R ws ys) : Each R (vs ++ ws) (xs ++ ys) := by
  refine ⟨by simp [h.1, k.1], fun j v x h1 h2 => ?_⟩
  by_cases hj : j < vs.length
  · rw [List.getElem?_append_left hj] at h1
    rw [List.getElem?_append_left (by rw [← h.1]; exact hj)] at h2
    exact h.2 j v x h1 h2
  · rw [List.getElem?_append_right (by omega)] at h1
    rw [List.getElem?_append_right (by rw [← h.1]; omega), ← h.1] at h2
    exact k.2 _ v x h1 h2
theorem Each.snoc {v : α} {x : β} (h : Each R vs xs) (k : R v x) : Each R (vs ++ [v]) (xs ++ [x]) := h.append ⟨rfl, fun j w y h1 h2 => by
  cases j with
  | zero => cases h1; cases h2; exact k
  | succ j => simp at h1⟩
theorem Each.get {j : Nat} {x : β} (h : Each R vs xs) (k : xs[j]? = some x) : ∃ v, vs[j]? = some v ∧ R v x := by
  have hj : j < vs.length := by rw [h.1]; exact (List.getElem?_eq_some_iff.mp k).1
  exact ⟨vs[j], List.getElem?_eq_getElem hj, h.2 j _ x (List.getElem?_eq_getElem hj) k⟩
end
abbrev RRow := List Str × Nat
abbrev RRoom := Bool × List RRow
section
variable {f : Nat → Option Nat} {rep rk : Nat → Nat}
end
def hF (d : Addr) : List (Str × V) := putF "heads" (.ref d) []
abbrev Pr := Nat × Nat
end L2
namespace L2
open PySem PySem.Spec PyProof.Rows
section
variable {X : Cx}
end
section
variable {H : Hp} {Q : VK}
end
def TupK (K : PySem.W.Frag) (a : Addr) (xs : List V) : Prop := ∃ (o : Obj) (its : Array Value) (n : Nat), K.lookup a = some o ∧ o.cls = .type "tuple" ∧ o.data = .seq its n ∧ its.size ≤ sizeLine ∧ Vals xs its.toList
theorem TupK.sq {K : PySem.W.Frag} {a : Addr} {xs : List V} (h : TupK K a xs) (H : Hp) : SqT K H a xs := .inr h
mutual
def Tr.AtK (K : PySem.W.Frag) (H : Hp) : Tr → V → Prop
  | .non, v => v = .non
  | .int i, v => v = .int i
  | .str s, v => v = .str s
  | .tup xs, v => ∃ a vs, v = .ref a ∧ (H a = some (.tup vs) ∨ TupK K a vs) ∧ Tr.AtsK K H xs vs
  | .lst _, _ => False
def Tr.AtsK (K : PySem.W.Frag) (H : Hp) : List Tr → List V → Prop
  | [], vs => vs = []
  | x :: xs, vs => ∃ v ws, vs = v :: ws ∧ Tr.AtK K H x v ∧ Tr.AtsK K H xs ws
end
mutual
theorem Tr.AtK.mono {K : PySem.W.Frag} {H H' : Hp} : ∀ {x : Tr} {v : V}, x.AtK K H v → Tups H H' → x.AtK K H' v
  | .non, _, h, _ => by simpa only [Tr.AtK] using h
  | .int _, _, h, _ => by simpa only [Tr.AtK] using h
  | .str _, _, h, _ => by simpa only [Tr.AtK] using h
  | .tup xs, v, h, k => by
    simp only [Tr.AtK] at h ⊢
    obtain ⟨a, vs, e, g, r⟩ := h
    exact ⟨a, vs, e, g.imp (fun z => k _ _ z) id, Tr.AtsK.mono r k⟩
  | .lst xs, v, h, k => by simp only [Tr.AtK] at h
theorem Tr.AtsK.mono {K : PySem.W.Frag} {H H' : Hp} : ∀ {xs : List Tr} {vs : List V}, Tr.AtsK K H xs vs → Tups H H' → Tr.AtsK K H' xs vs
  | [], _, h, _ => by simpa only [Tr.AtsK] using h
  | x :: xs, vs, h, k => by
    simp only [Tr.AtsK] at h ⊢
    obtain ⟨v, ws, e, a, b⟩ := h
    exact ⟨v, ws, e, Tr.AtK.mono a k, Tr.AtsK.mono b k⟩
end
section
variable {X : Cx} {pins : List (Addr × Obj)} {σ : St} {H : Hp} {s : Shared}
mutual
theorem Tr.AtK.isIn (I : Inv X pins σ H s) : ∀ {t : Tr} {v : V} {u : Value}, t.AtK X.K H v → RelV v u → Tr.In s.heap t u
  | .non, v, u, h, r => by
    simp only [Tr.AtK] at h
    subst h
    cases r
    exact rfl
  | .int z, v, u, h, r => by
    simp only [Tr.AtK] at h
    subst h
    obtain ⟨t, rfl⟩ := r
    exact .inl ⟨t, rfl⟩
  | .str z, v, u, h, r => by
    simp only [Tr.AtK] at h
    subst h
    obtain ⟨t, rfl⟩ := r
    exact ⟨t, rfl⟩
  | .lst _, v, u, h, r => by simp only [Tr.AtK] at h
  | .tup ts, v, u, h, r => by
    simp only [Tr.AtK] at h
    obtain ⟨a, vs, rfl, e1, c1⟩ := h
    cases r
    obtain ⟨is1, q1, p1, _⟩ := I.tuple (show SqT X.K H a vs from e1.elim SqT.of (fun z => z.sq H))
    simp only [Tr.In]
    exact ⟨a, is1.toArray, rfl, p1, by simpa using Tr.AtsK.isIns I c1 q1⟩
theorem Tr.AtsK.isIns (I : Inv X pins σ H s) : ∀ {ts : List Tr} {vs : List V} {us : List Value}, Tr.AtsK X.K H ts vs → Vals vs us → Tr.Ins s.heap ts us
  | [], vs, us, c, q => by
    simp only [Tr.AtsK] at c
    subst c
    cases q
    exact rfl
  | t :: ts, vs, us, c, q => by
    simp only [Tr.AtsK] at c
    obtain ⟨v, vs, rfl, a1, b1⟩ := c
    cases q with
    | cons r1 r2 =>
      simp only [Tr.Ins]
      exact ⟨_, _, rfl, Tr.AtK.isIn I a1 r1, Tr.AtsK.isIns I b1 r2⟩
end
end
end L2
namespace L2
open PySem PySem.Spec PyProof.Rows
section
variable {X : Cx} {pins : List (Addr × Obj)} {σ : St} {H : Hp} {s : Shared} {a : Addr} {t : Tr} {y v z : V} {u r : Value} {A : Around} {E : Value → Shared → Prop} {kvs : List (Tr × V)} {m : List (Tr × V × V)}
end
section
variable {X : Cx} {o i e f value : Expr} {pos pos' apos cpos : Pos} {td ty tv tx : TE} {P : Params}
end
section
variable {K : PySem.W.Frag} {P : Params} {σ : St} {H : Hp} {Q : VK} {td ty tx tv : TE}
end
end L2
namespace L2
open PySem PySem.Spec PyProof.Rows
section
variable {prog : Program} {w : World} {A : Around} {E : Value → Shared → Prop} {s : Shared}
end
section
variable {X : Cx} {elts : List Expr} {x1 : Nat} {tpos : Pos}
end
end L2
namespace L2
open PySem PySem.Spec PyProof.Rows
theorem Each.set {α β : Type} {R : α → β → Prop} {vs : List α} {xs : List β} {v : α} {x : β} (h : Each R vs xs) (j : Nat) (k : R v x) : Each R (vs.set j v) (xs.set j x) := by
  refine ⟨by simp [h.1], fun i a b h1 h2 => ?_⟩
  rw [List.getElem?_set] at h1 h2
  by_cases e : j = i
  · rw [if_pos e] at h1 h2
    split at h1
    · cases h1
      split at h2
      · cases h2; exact k
      · cases h2
    · cases h1
  · rw [if_neg e] at h1 h2
    exact h.2 i a b h1 h2
theorem Each.take {α β : Type} {R : α → β → Prop} {vs : List α} {xs : List β} (h : Each R vs xs) (n : Nat) : Each R (vs.take n) (xs.take n) := by
  refine ⟨by simp [h.1], fun j v x h1 h2 => ?_⟩
  by_cases hj : j < n
  · rw [List.getElem?_take, if_pos hj] at h1 h2
    exact h.2 j v x h1 h2
  · rw [List.getElem?_take, if_neg hj] at h1
    cases h1
end L2
namespace L2
open PySem PySem.Spec PyProof.Rows
def rSlS : V → Option Int → Option Int → Hp → VK → Prop := fun x lo hi H Q => ∃ z, x = .str z ∧ z.length ≤ sizeLine ∧ Q (.str (Txt.slice z lo hi)) H
theorem ksl_str {X : Cx} : SlR X rSlS := by
  intro pins s σ H x v vl vu lo hi sl Q I rx hs pl pu h
  obtain ⟨z, rfl, hz, q⟩ := h
  obtain ⟨t, rfl⟩ := rx
  have fin : ∀ (t' : Tok) (k : Nat), EP X pins σ Q (.str (Txt.slice z lo hi) t') { s with toks := k } := fun t' k => ⟨.str _, H, I.tok _, ⟨_, rfl⟩, q⟩
  have hle := Nat.le_trans (Txt.slice_le z lo hi) hz
  refine ⟨"str", _, F.slot_str_getitem.lookup, typeIs_str _ _ _, ?_⟩
  cases pl with
  | none => cases pu with
    | none => exact wpAny_getItem_str_slice (l := none) (u := none) (st := none) hs rfl (post_val_or_str ⟨hle, fin⟩)
    | int j uj => exact wpAny_getItem_str_slice (l := none) (u := some (j, uj)) (st := none) hs rfl (post_val_or_str ⟨hle, fin⟩)
  | int i ui => cases pu with
    | none => exact wpAny_getItem_str_slice (l := some (i, ui)) (u := none) (st := none) hs rfl (post_val_or_str ⟨hle, fin⟩)
    | int j uj => exact wpAny_getItem_str_slice (l := some (i, ui)) (u := some (j, uj)) (st := none) hs rfl (post_val_or_str ⟨hle, fin⟩)
theorem i_slS {H : Hp} {Q : VK} {z : Str} {lo hi : Option Int} (hz : z.length ≤ sizeLine) (h : Q (.str (Txt.slice z lo hi)) H) : rSlS (.str z) lo hi H Q := ⟨z, rfl, hz, h⟩
theorem vals_refs : ∀ {ms : List Addr} {us : List Value}, Vals (ms.map V.ref) us → us = ms.map Value.ref
  | [], us, h => by cases h; rfl
  | m :: ms, us, h => by
    cases h with
    | cons h1 h2 =>
      cases h1
      rw [vals_refs h2]
      rfl
end L2
namespace L2
open PySem PySem.Spec PyProof.Rows
end L2
namespace L2
open PySem PySem.Spec PyProof.Rows
section
variable {prog : Program} {w : World} {A : Around} {E : Value → Shared → Prop} {s : Shared} {d : Addr} {es : Array DictEntry} {ep : Nat}
end
end L2
namespace L2
open PySem PySem.Spec PyProof.Rows
end L2
namespace L2
open PySem PySem.Spec PyProof.Rows
section
variable {prog : Program} {w : World} {A : Around} {E : Value → Shared → Prop} {s : Shared} {d it : Addr} {es : Array DictEntry} {ep i : Nat}
end
end L2
namespace L2
open PySem PySem.Spec PyProof.Rows
section
variable {X : Cx} {P : Params} {o : Expr} {td : TE} {apos cpos : Pos}
end
section
variable {prog : Program} {w : World} {A : Around} {E : Value → Shared → Prop} {s : Shared} {d v : Addr} {es : Array DictEntry} {ep : Nat}
end
end L2
namespace L2
open PySem PySem.Spec PyProof.Rows
section
variable {X : Cx} {P : Params}
end
end L2
namespace L2
open PySem PySem.Spec PyProof.Rows
open AutoSeq1 (wpAny_loadPart')
end L2
namespace L2
open PySem PySem.Spec PyProof.Rows
section
variable {X : Cx} {elts : List Expr} {x1 : Nat} {tpos : Pos}
end
end L2
namespace L2
open PySem PySem.Spec PyProof.Rows
theorem orStand_led (t : SetTable) (n : Nat) : (t.orStandIn n).led = t.led ∧ (t.plain = false → (t.orStandIn n).plain = false) := by
  unfold SetTable.orStandIn
  split
  · exact ⟨rfl, id⟩
  · exact ⟨rfl, fun _ => rfl⟩
theorem lay_led (t : SetTable) (es : Array (Int × Value)) (h : Int) (x : Value) : (layNew t es h x).2.1.led = t.led ∧ (t.plain = false → (layNew t es h x).2.1.plain = false) := by
  unfold layNew
  split
  · exact orStand_led _ _
  · exact ⟨rfl, fun _ => rfl⟩
theorem relay_led (t : SetTable) (es : Array (Int × Value)) (n : Nat) : (relayAll t es n).2.1.led = t.led ∧ (t.plain = false → (relayAll t es n).2.1.plain = false) := by
  unfold relayAll
  split
  · next t' order he =>
    dsimp only
    split
    · unfold SetTable.relaid SetTable.laid at he
      simp only [Option.bind_eq_bind, Option.pure_def, Option.bind_eq_some_iff, Option.some.injEq] at he
      obtain ⟨ow, _, he⟩ := he
      have := congrArg Prod.fst he
      dsimp only at this
      rw [← this]
      exact ⟨rfl, id⟩
    · exact ⟨rfl, fun _ => rfl⟩
  · exact ⟨rfl, fun _ => rfl⟩
section
variable {prog : Program} {w : World}
structure SStr (prog : Program) (w : World) (h : Heap) (a : Addr) (es : Array (Int × Value)) : Prop where
  ex : ∃ o ep t, h.get? a = some o ∧ o.ExactSet ∧ o.data = .set es ep t ∧ t.fits es.size = true ∧ t.led = !w.params.followText "set-order" ∧ (0 < es.size → t.plain = false)
  el : ElemsOf (strKind prog w) es.toList
  lt : es.size < scanBound
theorem SStr.store {h : Heap} {a : Addr} {o : Obj} {es es' : Array (Int × Value)} {ep : Nat} {t t' : SetTable} (ho : h.get? a = some o) (hx : o.ExactSet) (hd : o.data = .set es ep t) (hf : t'.fits es'.size = true) (hl : t'.led = !w.params.followText "set-order") (hp : 0 < es'.size → t'.plain = false) (el : ElemsOf (strKind prog w) es'.toList) (lt : es'.size < scanBound) :
    (h.update a (Obj.putSet es' t')).get? a = some { o with data := .set es' (ep + 1) t' } ∧ SStr prog w (h.update a (Obj.putSet es' t')) a es' := by
  have e : (h.update a (Obj.putSet es' t')).get? a = some { o with data := .set es' (ep + 1) t' } := by
    rw [← putSet_of es' t' hd]
    exact Heap.get?_update_self (Obj.putSet es' t') ho (by rw [putSet_of es' t' hd]; rfl)
  exact ⟨e, ⟨_, ep + 1, t', e, hx, rfl, hf, hl, hp⟩, el, lt⟩
def Grew (w : World) (es es' : Array (Int × Value)) (k : Str) : Prop := (es' = es ∧ ∃ e ∈ es.toList, e.2.isStrOf k = true) ∨ ((∀ e ∈ es.toList, e.2.isStrOf k = false) ∧ ∃ u, es'.toList.Perm (es.toList ++ [(hashStr w k, .str k u)]))
variable {A : Around} {E : Value → Shared → Prop} {s : Shared}
theorem SStr.add {a : Addr} {es : Array (Int × Value)} {k : Str} {u : Tok} {Q : Bool → Shared → Prop} (hS : SStr prog w s.heap a es) (room : es.size + 1 < scanBound)
    (h : ∀ b h' es', Heap.SameBut a s.heap h' → SStr prog w h' a es' → Grew w es es' k → Q b { s with heap := h', toks := s.toks + 1 }) : wpAny (model prog w) A (setAdd a (.str k u)) Q E s := by
  obtain ⟨⟨o, ep, t, ho, hx, hd, hf, hl, hp⟩, hel, hlt⟩ := hS
  have hk : (strKind prog w).is k (.str k u) = true := by simp [PySem.strKind, Value.isStrOf]
  have hsc : (Value.str k u).scannable = true := rfl
  unfold setAdd setAddHashed setAddHashedIn
  refine wpAny_holding (wpAny_bind ((strKind prog w).pyHash hk ?_))
  refine wpAny_holding (wpAny_bind (wpAny_setState_of (s := { s with toks := s.toks + 1 }) ho hd hf ?_))
  dsimp only
  rw [byScan_of hsc hlt hel]
  simp only [↓reduceIte]
  unfold setAddByScan
  refine wpAny_bind (wpAny_bind (wpAny_rule (wpAny_bind (wpAny_setScan_of (s := { s with toks := s.toks + 1 }) hk ho hd hf hel ?_))))
  cases hr : List.findIdx? (fun e => (strKind prog w).is k e.2) es.toList with
  | some j =>
    dsimp only
    obtain ⟨hj, hpj, _⟩ := List.findIdx?_eq_some_iff_getElem.mp hr
    exact wpAny_pure (wpAny_pure (h _ s.heap es (Heap.SameBut.refl a s.heap) ⟨⟨o, ep, t, ho, hx, hd, hf, hl, hp⟩, hel, hlt⟩ (.inl ⟨rfl, _, List.getElem_mem hj, hpj⟩)))
  | none =>
    dsimp only
    have hno : ∀ e ∈ es.toList, e.2.isStrOf k = false := fun e he => by
      have := List.findIdx?_eq_none_iff.mp hr e he
      exact this
    have hgw : ∀ (b : Bool) {s₁ : Shared} {Q' : Unit → Shared → Prop}, Q' () s₁ → wpAny (model prog w) A (match b with | true => rule "set.scan.the-table-gave-way" | false => pure ()) Q' E s₁ := fun b s₁ Q' hq => by
      cases b
      · exact wpAny_pure hq
      · exact wpAny_rule hq
    have p1 := layNew_perm t es ((strKind prog w).hash k) (.str k u)
    have q1 := layNew_fits t es ((strKind prog w).hash k) (.str k u)
    have r1 := lay_led t es ((strKind prog w).hash k) (.str k u)
    generalize layNew t es ((strKind prog w).hash k) (.str k u) = L at p1 q1 r1 ⊢
    obtain ⟨es1, t1, wd, gv⟩ := L
    dsimp only at p1 q1 r1 ⊢
    rw [Array.toList_push] at p1
    have el1 : ElemsOf (strKind prog w) es1.toList := (hel.push hk hsc).perm p1
    have sz1 : es1.size = es.size + 1 := by rw [← Array.length_toList, p1.length_eq]; simp
    refine wpAny_bind (hgw _ ?_)
    have fin : ∀ t2 : SetTable, t2.fits es1.size = true → t2.led = t.led → t2.plain = false → wpAny (model prog w) A (do
        storeSet a es1 t2
        if (!wd && t2.tooFull) = true then do
            (match (relayAll t2 es1 (SetTable.grown es1.size)).2.2 with | true => rule "set.scan.the-table-gave-way" | false => pure ())
            storeSet a (relayAll t2 es1 (SetTable.grown es1.size)).1 (relayAll t2 es1 (SetTable.grown es1.size)).2.1
            pure (some true)
          else pure (some true)) (fun r s₁ => wpAny (model prog w) A (match r with | some added => pure added | none => setAddHashedIn a (.str k u) ((strKind prog w).hash k) 99999) Q E s₁) E { s with toks := s.toks + 1 } := by
      intro t2 f2 l2 pl2
      obtain ⟨o1, S1⟩ := SStr.store (prog := prog) (w := w) (es' := es1) (t' := t2) ho hx hd f2 (l2.trans hl) (fun _ => pl2) el1 (by omega)
      have b1 := Heap.SameBut.update s.heap a (Obj.putSet es1 t2)
      refine wpAny_bind (wpAny_storeSet_of (s := { s with toks := s.toks + 1 }) ho hd ?_ (fits_of_scanBound (by omega)))
      split
      · have p2 := relayAll_perm t2 es1 (SetTable.grown es1.size)
        have q2 := relayAll_fits t2 es1 (SetTable.grown es1.size)
        have r2 := relay_led t2 es1 (SetTable.grown es1.size)
        generalize relayAll t2 es1 (SetTable.grown es1.size) = R at p2 q2 r2 ⊢
        obtain ⟨es2, t3, gv2⟩ := R
        dsimp only at p2 q2 r2 ⊢
        have sz2 : es2.size = es1.size := by rw [← Array.length_toList, p2.length_eq, Array.length_toList]
        refine wpAny_bind (hgw _ ?_)
        obtain ⟨_, S2⟩ := SStr.store (prog := prog) (w := w) (es' := es2) (t' := t3) o1 hx rfl q2 (r2.1.trans (l2.trans hl)) (fun _ => r2.2 pl2) (el1.perm p2) (by omega)
        refine wpAny_bind (wpAny_storeSet_of o1 rfl ?_ (fits_of_scanBound (by omega)))
        exact wpAny_pure (wpAny_pure (h _ _ es2 (b1.trans (Heap.SameBut.update _ a _)) S2 (.inr ⟨hno, u, p2.trans p1⟩)))
      · exact wpAny_pure (wpAny_pure (h _ _ es1 b1 S1 (.inr ⟨hno, u, p1⟩)))
    split
    · refine wpAny_bind ?_
      rw [hashByValue_scannable 8 hsc]
      refine wpAny_pure ?_
      exact fin { t1 with plain := false } q1 r1.1 rfl
    · next hpl =>
      refine wpAny_bind (wpAny_pure ?_)
      simp only [↓reduceIte]
      exact fin t1 q1 r1.1 (by simpa using hpl)
end
end L2
namespace L2
open PySem PySem.Spec PyProof.Rows
noncomputable def metS (ks : List Str) (k : Str) : List Str := if k ∈ ks then ks else ks ++ [k]
noncomputable def firstS (val : Nat → Str) (i : Nat) : List Str := ((List.range i).map val).foldl metS []
theorem firstS_succ (val : Nat → Str) (i : Nat) : firstS val (i + 1) = metS (firstS val i) (val i) := by
  unfold firstS
  rw [List.range_succ, List.map_append, List.foldl_append]
  rfl
theorem metS_mem {ks : List Str} {k x : Str} : x ∈ metS ks k ↔ x ∈ ks ∨ x = k := by
  unfold metS
  split
  · constructor
    · exact .inl
    · rintro (h | rfl)
      · exact h
      · assumption
  · simp
theorem firstS_mem (val : Nat → Str) (x : Str) : ∀ i, x ∈ firstS val i ↔ ∃ j, j < i ∧ val j = x
  | 0 => by simp [firstS]
  | i + 1 => by
    rw [firstS_succ, metS_mem, firstS_mem val x i]
    constructor
    · rintro (⟨j, h, e⟩ | rfl)
      · exact ⟨j, by omega, e⟩
      · exact ⟨i, by omega, rfl⟩
    · rintro ⟨j, h, e⟩
      by_cases hj : j = i
      · subst hj; exact .inr e.symm
      · exact .inl ⟨j, by omega, e⟩
theorem metS_len (ks : List Str) (k : Str) : (metS ks k).length ≤ ks.length + 1 := by
  unfold metS
  split <;> simp
theorem firstS_len (val : Nat → Str) : ∀ i, (firstS val i).length ≤ i
  | 0 => by simp [firstS]
  | i + 1 => by
    rw [firstS_succ]
    have h1 := metS_len (firstS val i) (val i)
    have h2 := firstS_len val i
    omega
def entS (w : World) (x : Str × Tok) : Int × Value := (hashStr w x.1, .str x.1 x.2)
def KsOf (w : World) (es : Array (Int × Value)) (ks : List Str) : Prop := ks.Nodup ∧ ∃ l : List (Str × Tok), l.map (·.1) = ks ∧ es.toList.Perm (l.map (entS w))
theorem KsOf.len {w : World} {es : Array (Int × Value)} {ks : List Str} (h : KsOf w es ks) : es.size = ks.length := by
  obtain ⟨_, l, rfl, p⟩ := h
  rw [← Array.length_toList, p.length_eq]
  simp
theorem KsOf.grew {w : World} {es es' : Array (Int × Value)} {ks : List Str} {k : Str} (h : KsOf w es ks) (g : Grew w es es' k) : KsOf w es' (metS ks k) := by
  obtain ⟨nd, l, rfl, p⟩ := h
  have hm : k ∈ l.map (·.1) ↔ ∃ e ∈ es.toList, e.2.isStrOf k = true := by
    constructor
    · intro hk
      obtain ⟨x, hx, rfl⟩ := List.mem_map.mp hk
      exact ⟨entS w x, p.mem_iff.mpr (List.mem_map_of_mem hx), by simp [entS, Value.isStrOf]⟩
    · rintro ⟨e, he, hi⟩
      obtain ⟨x, hx, rfl⟩ := List.mem_map.mp (p.mem_iff.mp he)
      have : x.1 = k := by
        have := Value.isStrOf_shape hi
        obtain ⟨t, e⟩ := this
        simp only [entS, Value.str.injEq] at e
        exact e.1
      rw [← this]
      exact List.mem_map_of_mem hx
  rcases g with ⟨rfl, hx⟩ | ⟨hno, u, pp⟩
  · unfold metS
    rw [if_pos (hm.mpr hx)]
    exact ⟨nd, l, rfl, p⟩
  · have hk : k ∉ l.map (·.1) := fun z => by
      obtain ⟨e, he, hi⟩ := hm.mp z
      rw [hno e he] at hi
      cases hi
    unfold metS
    rw [if_neg hk]
    refine ⟨?_, l ++ [(k, u)], by simp, ?_⟩
    · refine List.nodup_append.mpr ⟨nd, by simp, fun a ha b hb z => ?_⟩
      rw [List.mem_singleton.mp hb] at z
      exact hk (z ▸ ha)
    · refine pp.trans ?_
      rw [List.map_append]
      exact List.Perm.append p (List.Perm.refl _)
section
variable {prog : Program} {w : World} {A : Around} {R : Result → Shared → Prop} {I : Addr} {fp wr : List Addr} {G : Array GenState → Array GenState → Prop} {n : Nat} {P : Nat → Value → Prop} {St : Nat → Shared → Prop}
theorem SStr.moved {h h' : Heap} {a : Addr} {es : Array (Int × Value)} (x : SStr prog w h a es) (k : ∀ o, h.get? a = some o → h'.get? a = some o) : SStr prog w h' a es := by
  obtain ⟨⟨o, ep, t, ho, r⟩, el, lt⟩ := x
  exact ⟨⟨o, ep, t, k _ ho, r⟩, el, lt⟩
theorem set_loop (W : WalksS prog w A.in1 I fp wr G n P St) (S : Addr) (hSf : S ∉ fp) (val : Nat → Str) (hval : ∀ i v, P i v → ∃ t, v = .str (val i) t) (hb : n + 1 < scanBound) :
    ∀ (k i : Nat) (s : Shared) (es : Array (Int × Value)), n - i = k → i ≤ n → St i s → SStr prog w s.heap S es → KsOf w es (firstS val i) →
      (∀ s' es', Moved (S :: wr) G s s' → SStr prog w s'.heap S es' → KsOf w es' (firstS val n) → R (.ok (.ret .none)) s') →
      codeAny (model prog w) A (.builtin "set.update.loop" ⟨[.ref S, .ref I], []⟩) R s := by
  have hw : S ∉ wr := fun z => hSf (W.sub _ z)
  have hs : ∀ b ∈ wr, b ∈ S :: wr := fun b z => List.mem_cons_of_mem _ z
  intro k
  induction k with
  | zero =>
    intro i s es hk hi st hS hK q
    have e : i = n := by omega
    subst e
    refine codeAny_builtin F.entry_set_update_loop ?_
    rw [Around.under_plainId F.plain_set_update_loop _]
    show wpAny _ A.in1 (pyNext (.ref I) >>= _) _ _ s
    refine wpAny_bind (W.done s _ _ st fun s' hm => ?_)
    show wpAny _ A.in1 (ret Value.none) _ _ s'
    exact wpAny_pure (q s' es (hm.mono hs) (hS.moved fun o e => hm.heap S _ hw e) hK)
  | succ k ih =>
    intro i s es hk hi st hS hK q
    have lt : i < n := by omega
    refine codeAny_builtin F.entry_set_update_loop ?_
    rw [Around.under_plainId F.plain_set_update_loop _]
    show wpAny _ A.in1 (pyNext (.ref I) >>= _) _ _ s
    refine wpAny_bind (W.item i s _ _ lt st fun v s' hP st' hm => ?_)
    obtain ⟨u, rfl⟩ := hval i v hP
    have hS' : SStr prog w s'.heap S es := hS.moved fun o e => hm.heap S _ hw e
    show wpAny _ A.in1 (holding [Value.str (val i) u] (setAdd S (.str (val i) u)) >>= _) _ _ s'
    have l1 := firstS_len val i
    have l2 := hK.len
    refine wpAny_bind (wpAny_holding (SStr.add hS' (by omega) fun b h' es' sb hS2 g => ?_))
    refine wpAny_pure ⟨plainId_quiet F.plain_set_update_loop _, ih (i + 1) _ es' (by omega) lt (W.frame _ s' _ _ st' (Nat.le_succ _) fun b hb o e => ?_) hS2 (by rw [firstS_succ]; exact hK.grew g) fun s2 es2 m2 S2 K2 => ?_⟩
    · rw [sb.2 b (fun z : b = S => hSf (z ▸ hb))]
      exact e
    · refine q s2 es2 (Moved.trans W.gtrans ((hm.mono hs).then_heap (Nat.le_succ _) fun b o hb e => ?_) m2) S2 K2
      rw [sb.2 b (fun z : b = S => hb (by rw [z]; exact List.mem_cons_self))]
      exact e
end
end L2
namespace L2
open PySem PySem.Spec PyProof.Rows
section
variable {prog : Program} {w : World} {A : Around} {E : Value → Shared → Prop} {s : Shared}
def setObj (w : World) : Obj := { cls := .type "set", dict := none, data := .set #[] 0 (.fresh 0 0 (!w.params.followText "set-order")) }
theorem set_new1 (v : Value) {Q1 : Value → Shared → Prop} (h : Q1 (.ref s.heap.objs.size) { s with heap := s.heap.push (setObj w) }) :
    codeAny (model prog w) A (.call (.builtin "set.__new__") ⟨[.type "set", v], []⟩) (wants Q1 E) s := by
  refine codeAny_of_tree ?_
  show wpAny _ A.in1 (do checkBuiltinCall "set.__new__" ⟨[.type "set", v], []⟩; again (.builtin "set.__new__" ⟨[.type "set", v], []⟩)) _ _ s
  refine wpAny_bind (wpAny_of_eq (F.newCall_set_1 v) (wpAny_pure ⟨plainId_quiet F.plain_set_new _, codeAny_builtin F.entry_set_new ?_⟩))
  rw [Around.under_plainId F.plain_set_new _]
  unfold Builtin.«set.__new__» Builtin.Frozenset.newClass
  have hsub := sub_set_self
  obtain ⟨hp, g, d, tk, os⟩ := s
  dsimp only
  wp_walk
  refine wpAny_askSetting (wpAny_pure ?_)
  dsimp only
  simp only [newObj]
  exact wpAny_bind (wpAny_alloc (wpAny_pure (wpAny_pure h)))
theorem call_set_strs {l : Addr} {items : Array Value} {val : Nat → Str} {Q : Value → Shared → Prop} (hh : A.handled = none) (hl : s.heap.IsList l items) (hi : ∀ (i : Nat) (v : Value), items[i]? = some v → ∃ t, v = .str (val i) t) (hb : items.size + 1 < scanBound)
    (h : ∀ (h' : Heap) (tk : Nat) (es : Array (Int × Value)), SStr prog w h' s.heap.objs.size es → KsOf w es (firstS val items.size) → (∀ b o, b < s.heap.objs.size → s.heap.get? b = some o → h'.get? b = some o) → Q (.ref s.heap.objs.size) { s with heap := h', toks := tk }) :
    wpAny (model prog w) A (call (.type "set") [.ref l]) Q E s := by
  obtain ⟨c, tl, hmro⟩ := F.called_set.mro
  have hmade := F.called_set.made
  have hsub := F.called_set.sub
  refine wpAny_call (codeAny_of_tree ?_)
  show wpAny _ _ (callAny (.type "set") _) _ _ _
  refine wpAny_pure ⟨Code.quiet_builtin _ (by decide +kernel), codeAny_builtin F.entry_type_call ?_⟩
  rw [Around.under_plain (weight_type_call_type "set" [.ref l] []) rfl]
  have h1 := F.called_set.notType
  have h2 := F.called_set.canCreate
  have hct := F.typeCall_set_1 (.ref l)
  repeat (any_goals (first | assumption | wp_step))
  refine codeAny_mono (set_new1 (.ref l) (E := E) (Q1 := fun obj s1 => obj = .ref s.heap.objs.size ∧ s1 = { s with heap := s.heap.push (setObj w) }) ⟨rfl, rfl⟩) fun r s1 hr => ?_
  cases r with
  | error e => exact hr
  | ok fl =>
    cases fl with
    | ret obj =>
      obtain ⟨rfl, rfl⟩ := hr
      have hS : (s.heap.push (setObj w)).get? s.heap.objs.size = some (setObj w) := Heap.get?_push_size _ rfl
      have hT : Shared.TypeIs { s with heap := s.heap.push (setObj w) } (.ref s.heap.objs.size) "set" := ⟨_, hS, rfl⟩
      have hli := F.called_set.init.lookup
      have hbi := F.called_set.init.bind (.ref s.heap.objs.size)
      repeat (any_goals (first | assumption | wp_step))
      refine codeAny_mono (codeAny_call_builtin (R := wants (fun r s2 => r = .none ∧ ∃ h' tk es, s2 = { s with heap := h', toks := tk } ∧ SStr prog w h' s.heap.objs.size es ∧ KsOf w es (firstS val items.size) ∧
          (∀ b o, b < s.heap.objs.size → s.heap.get? b = some o → h'.get? b = some o)) E) F.called_set.init.plain F.entry_set_init (check_set_init_1 hT ?_)) fun r2 s2 hr2 => ?_
      · obtain ⟨ol, hol, hcl, nl, hdl⟩ := hl
        obtain ⟨ocls, odict, odata, oslots⟩ := ol
        simp only at hcl hdl
        subst hcl; subst hdl
        have hol' : (s.heap.push (setObj w)).get? l = some { cls := .type "list", dict := odict, data := .seq items nl, slots := oslots } := Heap.get?_push_of_some _ hol
        have hsls := F.sub_list_set
        have hslf := F.sub_list_frozenset
        have hne : (Value.type "list" == Value.type "dict") = false := by decide
        have hl1 : (s.heap.push (setObj w)).IsList l items := ⟨_, hol', rfl, nl, rfl⟩
        unfold Builtin.«set.__init__» noKeywords Builtin.Frozenset.updateFrom
        generalize hPI : pyIter = PI
        wp_walk
        subst hPI
        refine wpAny_pyIter_list hl1 (wpAny_bind (wpAny_runValue ?_))
        have hlS : l < s.heap.objs.size := Heap.lt_size hol
        have hh3 : A.in1.in1.in1.handled = none := by simp [hh]
        have hneI : l ≠ (s.heap.push (setObj w)).objs.size := by
          rw [Heap.size_push]; exact Nat.ne_of_lt (Nat.lt_succ_of_lt hlS)
        have hSf : s.heap.objs.size ∉ [(s.heap.push (setObj w)).objs.size, l] := by
          rw [Heap.size_push]
          simp only [List.mem_cons, List.not_mem_nil, or_false, not_or]
          exact ⟨Nat.ne_of_lt (Nat.lt_succ_self _), Nat.ne_of_gt hlS⟩
        have hget : ((s.heap.push (setObj w)).push { cls := .type "list_iterator", data := .fields #[.ref l, .int 0 0] }).get? s.heap.objs.size = some (setObj w) := Heap.get?_push_of_some _ hS
        refine set_loop ((Walks.list hh3 _ l hneI items).toS) s.heap.objs.size hSf val hi hb (items.size - 0) 0 _ #[] (by omega) (Nat.zero_le _) ⟨⟨_, Heap.get?_push_size _ rfl, rfl, rfl⟩, (hl1.push _)⟩ ?hS0 ?hK0 ?hR
        case hS0 => exact ⟨⟨_, 0, _, hget, ⟨rfl, rfl, rfl⟩, rfl, rfl, rfl, fun z => absurd z (by simp)⟩, fun e he => by simp at he, by decide⟩
        case hK0 => exact ⟨by simp [firstS], [], by simp [firstS], by simp⟩
        case hR =>
          intro s' es' hm hS' hK'
          obtain ⟨h', g', d', tk', os'⟩ := s'
          have eg : g' = s.gens := hm.gens
          have ed : d' = s.drawn := hm.drawn
          have eo : os' = s.os := hm.os
          subst eg; subst ed; subst eo
          show wpAny _ _ _ _ _ _
          refine wpAny_pure ?_
          show wpAny _ _ (ret Value.none) _ _ _
          refine wpAny_pure ⟨rfl, h', tk', es', rfl, hS', hK', fun b o hb e => ?_⟩
          have hb1 : b ≠ s.heap.objs.size := Nat.ne_of_lt hb
          have hb2 : b ≠ (s.heap.push (setObj w)).objs.size := by
            rw [Heap.size_push]; exact Nat.ne_of_lt (Nat.lt_succ_of_lt hb)
          exact hm.heap b o (by simp only [List.mem_cons, List.not_mem_nil, or_false, not_or]; exact ⟨hb1, hb2⟩) (Heap.get?_push_of_some _ (Heap.get?_push_of_some _ e))
      · cases r2 with
        | error e => exact hr2
        | ok fl2 =>
          cases fl2 with
          | ret r =>
            obtain ⟨rfl, h', tk, es, rfl, hS', hK', hk'⟩ := hr2
            repeat (any_goals (first | assumption | wp_step))
            exact h _ _ _ hS' hK' hk'
          | _ => exact hr2.elim
    | _ => exact hr.elim
end
end L2
namespace L2
open PySem PySem.Spec PyProof.Rows
theorem erase_perm {α : Type} : ∀ (xs : List α) (i : Nat) (h : i < xs.length), (xs[i] :: xs.eraseIdx i).Perm xs
  | x :: xs, 0, _ => List.Perm.refl _
  | x :: xs, i + 1, h => by
    have h' : i < xs.length := by simpa using h
    exact (List.Perm.swap x xs[i] (xs.eraseIdx i)).trans (List.Perm.cons x (erase_perm xs i h'))
section
variable {M : Model} {A : Around} {E : Value → Shared → Prop} {s : Shared}
theorem pick_any {n : Nat} {Q : Nat → Shared → Prop} (hn : n ≠ 0) (h : ∀ i d, i < n → Q i { s with drawn := d }) : wpAny M A (choose .order n) Q E s := fun Γ p _ => by
  show Sem.wp M Γ (.choose .order n .pure) _ _ p s
  rw [Sem.wp_choose]
  exact ⟨hn, h _ _ (Nat.mod_lt _ (Nat.pos_of_ne_zero hn))⟩
theorem draw_perm {α : Type} : ∀ (n : Nat) (xs : List α) (s : Shared) {Q : List α → Shared → Prop}, xs.length = n → (∀ l d, l.Perm xs → Q l { s with drawn := d }) → wpAny M A (drawOrder n xs) Q E s
  | 0, xs, s, Q, hl, h => by
    cases List.length_eq_zero_iff.mp hl
    exact wpAny_pure (h [] s.drawn (List.Perm.refl _))
  | n + 1, xs, s, Q, hl, h => by
    obtain ⟨x, xs', rfl⟩ := List.exists_cons_of_length_eq_add_one hl
    show wpAny M A (choose .order (x :: xs').length >>= _) Q E s
    refine wpAny_bind (pick_any (by simp) fun i d hi => ?_)
    rw [List.getElem?_eq_getElem hi]
    dsimp only
    refine wpAny_bind (draw_perm n _ _ (by rw [List.length_eraseIdx]; simp only [hi, if_true]; omega) fun l d' p => ?_)
    refine wpAny_pure (h _ d' ?_)
    exact (List.Perm.cons _ p).trans (erase_perm _ i hi)
end
theorem slot_set_iterator_next : Slot "set_iterator" "__next__" "set_iterator.__next__" :=
  .of (owner := "set_iterator") (n := "__next__") (by rw [typeLookup_type, builtinLookup_eq_fast]; kernel_rfl) (by decide +kernel) (by decide +kernel) (by decide +kernel) (by first | exact .inl (by decide +kernel) | exact .inr (by decide +kernel)) (by rw [isSubtype_type]; kernel_rfl)
theorem entry_set_iterator_next : entryFor table "set_iterator.__next__" = some Builtin.«set_iterator.__next__» := entryFor_of_tree (by kernel_rfl)
theorem entry_set_iter : entryFor table "set.__iter__" = some Builtin.«frozenset.__iter__» := entryFor_alias (id' := "frozenset.__iter__") (by kernel_rfl) rfl (by decide +kernel) (by kernel_rfl)
theorem args_set_iterator_next (a : Value) : argsOk "set_iterator.__next__" ⟨[a], []⟩ := by
  unfold argsOk
  kernel_rfl
section
variable {prog : Program} {w : World} {A : Around} {E : Value → Shared → Prop} {s : Shared} {S it : Addr} {o : Obj} {es : Array (Int × Value)} {ep : Nat} {t : SetTable}
def Drw (w : World) (es : Array (Int × Value)) (t : SetTable) : Bool := !w.params.followText "set-order" && (!t.plain && decide (es.size > 1))
theorem set_drawn {Q : Bool → Shared → Prop} (ho : s.heap.get? S = some o) (hd : o.data = .set es ep t) (hf : t.fits es.size = true) (h : Q (Drw w es t) s) : wpAny (model prog w) A (setDrawn S) Q E s := by
  unfold setDrawn
  refine wpAny_bind (wpAny_setState_of ho hd hf ?_)
  dsimp only
  unfold setsByText
  exact wpAny_bind (wpAny_bind (wpAny_askSetting (wpAny_pure (wpAny_pure h))))
def itObj (first : Value) (S : Addr) (i n ep : Nat) : Obj := { cls := .type "set_iterator", data := .fields #[first, .int i 0, .ref S, .int n 0, .int ep 0] }
def plObj (pl : List Nat) : Obj := { cls := .type "tuple", data := .seq (pl.map fun (i : Nat) => rawInt i).toArray }
theorem set_iter {Q : Value → Shared → Prop} (ho : s.heap.get? S = some o) (hx : o.ExactSet) (hd : o.data = .set es ep t) (hf : t.fits es.size = true) (lt : es.size < scanBound)
    (qN : Drw w es t = false → Q (.ref s.heap.objs.size) { s with heap := s.heap.push (itObj (rawInt 0) S 0 es.size ep) })
    (qD : Drw w es t = true → ∀ (pl : List Nat) d, pl.Perm (List.range es.size) → Q (.ref (s.heap.push (plObj pl)).objs.size) { s with heap := (s.heap.push (plObj pl)).push (itObj (.ref s.heap.objs.size) S 0 es.size ep), drawn := d }) :
    wpAny (model prog w) A (pyIter (.ref S)) Q E s := by
  have T : s.TypeIs (.ref S) "set" := ⟨o, ho, hx.1⟩
  refine wpAny_pyIter_slot T F.slot_set_iter (wpAny_call_entry F.slot_set_iter T entry_set_iter ?_ (F.args_set_iter_1 _))
  unfold Builtin.«frozenset.__iter__» Builtin.Frozenset.slot0 slotArgs
  simp only [List.isEmpty_nil, Bool.not_true, Bool.false_eq_true, ↓reduceIte, bind_assoc, List.length_nil, bne_self_eq_false]
  unfold Builtin.Frozenset.addrOf Builtin.Frozenset.sizeOf
  refine wpAny_bind (wpAny_pure ?_)
  try dsimp only
  refine wpAny_bind (wpAny_pure ?_)
  refine wpAny_bind (wpAny_bind (wpAny_setEntries_of ho hd hf (wpAny_pure ?_)))
  refine wpAny_bind (set_drawn ho hd hf ?_)
  cases hD : Drw w es t with
  | false =>
    simp only [Bool.false_eq_true, if_false]
    refine wpAny_bind (wpAny_pure (wpAny_bind (wpAny_setEpoch_of ho hd hf ?_)))
    unfold newFields
    refine wpAny_bind (wpAny_newObj_type (wpAny_pure ⟨_, rfl, "set_iterator", _, ⟨_, Heap.get?_push_size _ rfl, rfl⟩, slot_set_iterator_next.lookup, ?_⟩) (by size_fits))
    exact qN hD
  | true =>
    simp only [if_true]
    refine wpAny_bind (draw_perm _ _ _ List.length_range fun pl d pp => ?_)
    unfold newTuple
    have ln : pl.length = es.size := by rw [pp.length_eq, List.length_range]
    refine wpAny_bind (wpAny_newObj_type ?_ (by show (pl.map _).toArray.size ≤ _; rw [List.size_toArray, List.length_map, ln]; exact fits_of_scanBound lt))
    refine wpAny_bind (wpAny_setEpoch_of (Heap.get?_push_of_some _ ho) hd hf ?_)
    unfold newFields
    refine wpAny_bind (wpAny_newObj_type (wpAny_pure ⟨_, rfl, "set_iterator", _, ⟨_, Heap.get?_push_size _ rfl, rfl⟩, slot_set_iterator_next.lookup, ?_⟩) (by size_fits))
    exact qD hD pl d pp
end
end L2
namespace L2
open PySem PySem.Spec PyProof.Rows
section
variable {prog : Program} {w : World} {A : Around} {E : Value → Shared → Prop} {s : Shared} {S it tp : Addr} {o : Obj} {es : Array (Int × Value)} {ep i : Nat} {t : SetTable} {first : Value}
theorem it_step {h : Heap} (hi : h.get? it = some (itObj first S i es.size ep)) : (h.update it (Obj.mapFields (·.setIfInBounds 1 (rawInt ((i : Int) + 1))))).get? it = some (itObj first S (i + 1) es.size ep) := by
  have := Heap.get?_update_self (Obj.mapFields (·.setIfInBounds 1 (rawInt ((i : Int) + 1)))) hi rfl
  rw [this]
  rfl
theorem seq_pl {pl : List Nat} {Q : Option (Array Value) → Shared → Prop} (ht : s.heap.get? tp = some (plObj pl)) (q : Q (some (pl.map fun (i : Nat) => rawInt i).toArray) s) : wpAny (model prog w) A (seqItems? (.ref tp)) Q E s := wpAny_seqItems (n := 0) ht rfl q
theorem nextD_item {Q : Option Value → Shared → Prop} {pl : List Nat} {p : Nat} {e : Int × Value} (hi : s.heap.get? it = some (itObj (.ref tp) S i es.size ep)) (ht : s.heap.get? tp = some (plObj pl)) (ho : s.heap.get? S = some o) (hd : o.data = .set es ep t) (hf : t.fits es.size = true) (hp : pl[i]? = some p) (he : es[p]? = some e)
    (q : ∀ h', h'.get? it = some (itObj (.ref tp) S (i + 1) es.size ep) → Heap.SameBut it s.heap h' → Q (some e.2) { s with heap := h' }) : wpAny (model prog w) A (pyNext (.ref it)) Q E s := by
  have T : s.TypeIs (.ref it) "set_iterator" := ⟨_, hi, rfl⟩
  unfold pyNext
  refine wpAny_bind (wpAny_attempt (wpAny_callSpecial?_slot (name := Str.ofString "__next__") T slot_set_iterator_next (wpAny_call_entry slot_set_iterator_next T entry_set_iterator_next ?_ (args_set_iterator_next _))))
  unfold Builtin.«set_iterator.__next__» slotArgs
  simp only [List.isEmpty_nil, Bool.not_true, Bool.false_eq_true, ↓reduceIte, bind_assoc, List.length_nil, bne_self_eq_false]
  refine wpAny_bind (wpAny_pure ?_)
  refine wpAny_bind (wpAny_fieldsOf hi rfl ?_)
  show wpAny _ A.in1 (setEntries S >>= _) _ _ s
  refine wpAny_bind (wpAny_setEntries_of ho hd hf ?_)
  rw [if_neg (by simp)]
  show wpAny _ A.in1 (seqItems? (.ref tp) >>= _) _ _ s
  refine wpAny_bind (seq_pl ht ?_)
  dsimp only
  rw [show ((pl.map fun (i : Nat) => rawInt i).toArray)[((i : Nat) : Int).toNat]? = some (rawInt p) by rw [Int.toNat_natCast, List.getElem?_toArray, List.getElem?_map, hp]; rfl]
  show wpAny _ A.in1 (setNextDrawn S ((p : Nat) : Int).toNat ((ep : Nat) : Int).toNat >>= _) _ _ s
  unfold setNextDrawn
  refine wpAny_bind (wpAny_bind (wpAny_setState_of ho hd hf ?_))
  dsimp only
  rw [if_neg (by simp), Int.toNat_natCast, he]
  refine wpAny_pure ?_
  show wpAny _ A.in1 (setField (.ref it) 1 (rawInt ((i : Int) + 1)) >>= _) _ _ s
  refine wpAny_bind (wpAny_setField hi rfl (by simp) ?_)
  exact wpAny_pure ⟨_, rfl, wpAny_pure (q _ (it_step hi) (Heap.SameBut.update ..))⟩
theorem stop_now {R : PySem.Fin → Shared → Prop} {E' : Value → Shared → Prop} (hh : A.handled = none) (q : ∀ h' e, (∀ b o, s.heap.get? b = some o → h'.get? b = some o) → Shared.TypeIs { s with heap := h' } (.ref e) "StopIteration" → E' (.ref e) { s with heap := h' }) :
    wpAny (model prog w) A (newExc (.type "StopIteration") [] >>= fun e => (raiseNew e : Sem PySem.Fin)) R E' s := by
  refine wpAny_bind ?_
  simp only [newExc, newTuple]
  refine wpAny_bind (wpAny_newObj_type ?_ (by size_fits))
  refine wpAny_bind (m := firstArgMember _ _) (wpAny_of_eq (a := Value.none) (by first | rfl | (simp only [firstArgMember]; rfl)) (wpAny_newObj_type ?_ (by size_fits)))
  simp only [raiseNew]
  refine wpAny_bind (wpAny_handled ?_)
  rw [hh]
  refine wpAny_bind ((wpAny_pure) ((wpAny_throw) ?_))
  exact q _ _ (fun b o e => Heap.get?_push_of_some _ (Heap.get?_push_of_some _ e)) ⟨_, Heap.get?_push_size _ rfl, rfl⟩
theorem nextD_end {Q : Option Value → Shared → Prop} {pl : List Nat} (hh : A.handled = none) (hi : s.heap.get? it = some (itObj (.ref tp) S i es.size ep)) (ht : s.heap.get? tp = some (plObj pl)) (ho : s.heap.get? S = some o) (hd : o.data = .set es ep t) (hf : t.fits es.size = true) (hp : pl[i]? = none)
    (q : ∀ h', Heap.ExtBut it s.heap h' → Q none { s with heap := h' }) : wpAny (model prog w) A (pyNext (.ref it)) Q E s := by
  have T : s.TypeIs (.ref it) "set_iterator" := ⟨_, hi, rfl⟩
  unfold pyNext
  refine wpAny_bind (wpAny_attempt (wpAny_callSpecial?_slot (name := Str.ofString "__next__") T slot_set_iterator_next (wpAny_call_entry slot_set_iterator_next T entry_set_iterator_next ?_ (args_set_iterator_next _))))
  unfold Builtin.«set_iterator.__next__» slotArgs
  simp only [List.isEmpty_nil, Bool.not_true, Bool.false_eq_true, ↓reduceIte, bind_assoc, List.length_nil, bne_self_eq_false]
  refine wpAny_bind (wpAny_pure (wpAny_bind (wpAny_fieldsOf hi rfl ?_)))
  show wpAny _ A.in1 (setEntries S >>= _) _ _ s
  refine wpAny_bind (wpAny_setEntries_of ho hd hf ?_)
  rw [if_neg (by simp)]
  show wpAny _ A.in1 (seqItems? (.ref tp) >>= _) _ _ s
  refine wpAny_bind (seq_pl ht ?_)
  dsimp only
  rw [show ((pl.map fun (i : Nat) => rawInt i).toArray)[((i : Nat) : Int).toNat]? = none by rw [Int.toNat_natCast, List.getElem?_toArray, List.getElem?_map, hp]; rfl]
  show wpAny _ A.in1 (setField (.ref it) 0 (rawInt 0) >>= fun _ => setField (.ref it) 2 .none >>= fun _ => newExc (.type "StopIteration") [] >>= fun e => raiseNew e) _ _ s
  refine wpAny_bind (wpAny_setField hi rfl (by simp) ?_)
  refine wpAny_bind (wpAny_setField (Heap.get?_update_self _ hi rfl) rfl (by simp) ?_)
  refine stop_now hh fun h' e hk hT => ?_
  refine wpAny_bind (wpAny_isInstance (b := true) (T := "StopIteration") hT isSubtype_stop ?_)
  refine wpAny_pure (q _ fun b ob hb e => hk _ _ ?_)
  exact ((Heap.SameBut.update ..).trans (Heap.SameBut.update ..)).extBut b ob hb e
end
end L2
namespace L2
open PySem PySem.Spec PyProof.Rows
theorem slot_set_iterator_iter : Slot "set_iterator" "__iter__" "set_iterator.__iter__" :=
  .of (owner := "set_iterator") (n := "__iter__") (by rw [typeLookup_type, builtinLookup_eq_fast]; kernel_rfl) (by decide +kernel) (by decide +kernel) (by decide +kernel) (by first | exact .inl (by decide +kernel) | exact .inr (by decide +kernel)) (by rw [isSubtype_type]; kernel_rfl)
theorem entry_set_iterator_iter : entryFor table "set_iterator.__iter__" = some Builtin.«dict_keyiterator.__iter__» := entryFor_alias (id' := "dict_keyiterator.__iter__") (by kernel_rfl) rfl (by decide +kernel) (by kernel_rfl)
theorem args_set_iterator_iter (a : Value) : argsOk "set_iterator.__iter__" ⟨[a], []⟩ := by
  unfold argsOk
  kernel_rfl
theorem pick_go {α : Type} (nx : Nat → Nat) : ∀ (f k : Nat) (left : List α) (out : Array α), left.length ≤ f → (pickOrder.go nx f k left out).toList.Perm (out.toList ++ left)
  | 0, k, left, out, h => by
    cases List.length_eq_zero_iff.mp (Nat.le_zero.mp h)
    simp [pickOrder.go]
  | f + 1, k, left, out, h => by
    rw [pickOrder.go]
    by_cases h0 : left = []
    · subst h0
      simp
    · have hl : 0 < left.length := List.length_pos_iff.mpr h0
      have hi : nx k % left.length < left.length := Nat.mod_lt _ hl
      rw [List.getElem?_eq_getElem hi]
      dsimp only
      refine (pick_go nx f (k + 1) _ _ (by rw [List.length_eraseIdx]; simp only [hi, if_true]; omega)).trans ?_
      rw [Array.toList_push, List.append_assoc]
      exact List.Perm.append (List.Perm.refl _) (erase_perm _ _ hi)
theorem pick_perm {α : Type} (nx : Nat → Nat) (xs : Array α) : (pickOrder nx xs).toList.Perm xs.toList := by
  have := pick_go nx xs.size 0 xs.toList #[] (by simp)
  simpa [pickOrder] using this
section
variable {prog : Program} {w : World} {A : Around} {E : Value → Shared → Prop} {s : Shared} {S it tp : Addr} {o : Obj} {es : Array (Int × Value)} {ep i : Nat} {t : SetTable} {first : Value}
theorem set_self {Q : Value → Shared → Prop} (hi : s.heap.get? it = some (itObj first S i es.size ep)) (h : Q (.ref it) s) : wpAny (model prog w) A (pyIter (.ref it)) Q E s := by
  have T : s.TypeIs (.ref it) "set_iterator" := ⟨_, hi, rfl⟩
  refine wpAny_pyIter_slot T slot_set_iterator_iter (wpAny_call_entry slot_set_iterator_iter T entry_set_iterator_iter ?_ (args_set_iterator_iter _))
  show wpAny _ _ (ret (.ref it)) _ _ s
  exact wpAny_pure ⟨_, rfl, "set_iterator", _, T, slot_set_iterator_next.lookup, h⟩
theorem nextN_item {Q : Option Value → Shared → Prop} {slot nxt : Nat} {x : Value} (hi : s.heap.get? it = some (itObj (rawInt slot) S i es.size ep)) (ho : s.heap.get? S = some o) (hd : o.data = .set es ep t) (hf : t.fits es.size = true)
    (hn : ∀ {E' : Value → Shared → Prop} {Q' : Option (Value × Nat) → Shared → Prop}, Q' (some (x, nxt)) s → wpAny (model prog w) A.in1 (setNext S slot i ep) Q' E' s)
    (q : ∀ h', h'.get? it = some (itObj (rawInt nxt) S (i + 1) es.size ep) → Heap.SameBut it s.heap h' → Q (some x) { s with heap := h' }) : wpAny (model prog w) A (pyNext (.ref it)) Q E s := by
  have T : s.TypeIs (.ref it) "set_iterator" := ⟨_, hi, rfl⟩
  unfold pyNext
  refine wpAny_bind (wpAny_attempt (wpAny_callSpecial?_slot (name := Str.ofString "__next__") T slot_set_iterator_next (wpAny_call_entry slot_set_iterator_next T entry_set_iterator_next ?_ (args_set_iterator_next _))))
  unfold Builtin.«set_iterator.__next__» slotArgs
  simp only [List.isEmpty_nil, Bool.not_true, Bool.false_eq_true, ↓reduceIte, bind_assoc, List.length_nil, bne_self_eq_false]
  refine wpAny_bind (wpAny_pure (wpAny_bind (wpAny_fieldsOf hi rfl ?_)))
  show wpAny _ A.in1 (setEntries S >>= _) _ _ s
  refine wpAny_bind (wpAny_setEntries_of ho hd hf ?_)
  rw [if_neg (by simp)]
  show wpAny _ A.in1 (setNext S ((slot : Nat) : Int).toNat ((i : Nat) : Int).toNat ((ep : Nat) : Int).toNat >>= _) _ _ s
  rw [Int.toNat_natCast, Int.toNat_natCast, Int.toNat_natCast]
  refine wpAny_bind (hn ?_)
  show wpAny _ A.in1 (setField (.ref it) 0 (rawInt ((nxt : Nat) : Int)) >>= fun _ => setField (.ref it) 1 (rawInt ((i : Int) + 1)) >>= fun _ => ret x) _ _ s
  refine wpAny_bind (wpAny_setField hi rfl (by simp) ?_)
  have h1 : (s.heap.update it (Obj.mapFields (·.setIfInBounds 0 (rawInt ((nxt : Nat) : Int))))).get? it = some (itObj (rawInt nxt) S i es.size ep) := by
    rw [Heap.get?_update_self _ hi rfl]
    rfl
  refine wpAny_bind (wpAny_setField h1 rfl (by simp) ?_)
  exact wpAny_pure ⟨_, rfl, wpAny_pure (q _ (it_step h1) ((Heap.SameBut.update ..).trans (Heap.SameBut.update ..)))⟩
theorem nextN_end {Q : Option Value → Shared → Prop} {slot : Nat} (hh : A.handled = none) (hi : s.heap.get? it = some (itObj (rawInt slot) S i es.size ep)) (ho : s.heap.get? S = some o) (hd : o.data = .set es ep t) (hf : t.fits es.size = true)
    (hn : ∀ {E' : Value → Shared → Prop} {Q' : Option (Value × Nat) → Shared → Prop}, Q' none s → wpAny (model prog w) A.in1 (setNext S slot i ep) Q' E' s)
    (q : ∀ h', Heap.ExtBut it s.heap h' → Q none { s with heap := h' }) : wpAny (model prog w) A (pyNext (.ref it)) Q E s := by
  have T : s.TypeIs (.ref it) "set_iterator" := ⟨_, hi, rfl⟩
  unfold pyNext
  refine wpAny_bind (wpAny_attempt (wpAny_callSpecial?_slot (name := Str.ofString "__next__") T slot_set_iterator_next (wpAny_call_entry slot_set_iterator_next T entry_set_iterator_next ?_ (args_set_iterator_next _))))
  unfold Builtin.«set_iterator.__next__» slotArgs
  simp only [List.isEmpty_nil, Bool.not_true, Bool.false_eq_true, ↓reduceIte, bind_assoc, List.length_nil, bne_self_eq_false]
  refine wpAny_bind (wpAny_pure (wpAny_bind (wpAny_fieldsOf hi rfl ?_)))
  show wpAny _ A.in1 (setEntries S >>= _) _ _ s
  refine wpAny_bind (wpAny_setEntries_of ho hd hf ?_)
  rw [if_neg (by simp)]
  show wpAny _ A.in1 (setNext S ((slot : Nat) : Int).toNat ((i : Nat) : Int).toNat ((ep : Nat) : Int).toNat >>= _) _ _ s
  rw [Int.toNat_natCast, Int.toNat_natCast, Int.toNat_natCast]
  refine wpAny_bind (hn ?_)
  show wpAny _ A.in1 (setField (.ref it) 2 .none >>= fun _ => newExc (.type "StopIteration") [] >>= fun e => raiseNew e) _ _ s
  refine wpAny_bind (wpAny_setField hi rfl (by simp) ?_)
  refine stop_now hh fun h' e hk hT => ?_
  refine wpAny_bind (wpAny_isInstance (b := true) (T := "StopIteration") hT isSubtype_stop ?_)
  refine wpAny_pure (q _ fun b ob hb e => hk _ _ ?_)
  exact (Heap.SameBut.update ..).extBut b ob hb e
theorem next_text {slot : Nat} {Q : Option (Value × Nat) → Shared → Prop} (ho : s.heap.get? S = some o) (hd : o.data = .set es ep t) (hf : t.fits es.size = true) (hb : w.params.followText "set-order" = true)
    (q : Q (((pickOrder (w.params.setOrder S ep) es)[i]?).map fun e => (e.2, slot)) s) : wpAny (model prog w) A (setNext S slot i ep) Q E s := by
  unfold setNext
  refine wpAny_bind (wpAny_setState_of ho hd hf ?_)
  dsimp only
  unfold setsByText
  refine wpAny_bind (wpAny_bind (wpAny_askSetting (wpAny_pure ?_)))
  rw [show (model prog w).w.params.followText "set-order" = true from hb]
  simp only [if_true, bne_self_eq_false, Bool.false_eq_true, if_false]
  unfold setWalk
  refine wpAny_bind (wpAny_bind (wpAny_setState_of ho hd hf ?_))
  dsimp only
  unfold setsByText
  refine wpAny_bind (wpAny_bind (wpAny_askSetting (wpAny_pure ?_)))
  rw [show (model prog w).w.params.followText "set-order" = true from hb]
  simp only [if_true]
  refine wpAny_bind (wpAny_askSetting (wpAny_pure ?_))
  exact wpAny_pure q
end
end L2
namespace L2
open PySem PySem.Spec PyProof.Rows
theorem arr1 (a : Array Nat) (h : a.size = 1) : ∃ j, a = #[j] := by
  obtain ⟨l⟩ := a
  obtain ⟨j, r, rfl⟩ := List.exists_cons_of_length_eq_add_one (n := 0) h
  have e : r = [] := by simpa using h
  exact ⟨j, by rw [e]⟩
theorem below_1 (j : Nat) : SetTable.below #[j] 0 = 0 ∧ SetTable.below #[j] (j + 1) = 1 := by
  constructor
  · simp [SetTable.below, SetTable.below.go]
  · simp [SetTable.below, SetTable.below.go]
section
variable {prog : Program} {w : World} {A : Around} {E : Value → Shared → Prop} {s : Shared} {S it tp : Addr} {o : Obj} {es : Array (Int × Value)} {ep i : Nat} {t : SetTable} {first : Value}
theorem next_led {slot : Nat} {Q : Option (Value × Nat) → Shared → Prop} (ho : s.heap.get? S = some o) (hd : o.data = .set es ep t) (hf : t.fits es.size = true) (hb : w.params.followText "set-order" = false) (h1 : es.size ≤ 1) (hl : t.led = true)
    (q : Q (match es[SetTable.below t.place slot]?, t.place[SetTable.below t.place slot]? with | some (_, x), some j => some (x, j + 1) | _, _ => none) s) : wpAny (model prog w) A (setNext S slot i ep) Q E s := by
  unfold setNext
  refine wpAny_bind (wpAny_setState_of ho hd hf ?_)
  dsimp only
  unfold setsByText
  refine wpAny_bind (wpAny_bind (wpAny_askSetting (wpAny_pure ?_)))
  rw [show (model prog w).w.params.followText "set-order" = false from hb]
  simp only [Bool.false_eq_true, if_false]
  refine wpAny_ite_split (fun z => ?_) fun _ => ?_
  · have z' : (!t.plain && decide (es.size > 1)) = true := z
    rw [Bool.and_eq_true, decide_eq_true_eq] at z'
    omega
  show wpAny _ _ ((if (!t.led && !es.isEmpty) = true then unsupported "set:maker-not-led" else pure ()) >>= _) _ _ s
  rw [hl]
  simp only [Bool.not_true, Bool.false_and, Bool.false_eq_true, if_false]
  exact wpAny_bind (wpAny_pure (wpAny_pure q))
theorem walkD (hh : A.handled = none) {pl : List Nat} (hn1 : S ≠ it) (hn2 : tp ≠ it) (hd : o.data = .set es ep t) (hf : t.fits es.size = true) (pp : pl.Perm (List.range es.size)) :
    Walks prog w A it [it, S, tp] [it] es.size (fun i v => ∃ e, (pl.map fun p => es.getD p (0, .none))[i]? = some e ∧ v = e.2) (fun i h => h.get? it = some (itObj (.ref tp) S i es.size ep) ∧ h.get? tp = some (plObj pl) ∧ h.get? S = some o) where
  sub := fun b hb => by simp at hb; simp [hb]
  frame := fun _ _ _ st hk => ⟨hk it (by simp) _ st.1, hk tp (by simp) _ st.2.1, hk S (by simp) _ st.2.2⟩
  item := fun i s Q E hi st hQ => by
    have hl : pl.length = es.size := by rw [pp.length_eq, List.length_range]
    have hp : pl[i]? = some (pl[i]'(by omega)) := List.getElem?_eq_getElem (by omega)
    have hm : pl[i]'(by omega) < es.size := List.mem_range.mp (pp.mem_iff.mp (List.getElem_mem _))
    refine nextD_item st.1 st.2.1 st.2.2 hd hf hp (Array.getElem?_eq_getElem hm) fun h' h1 hs => hQ _ h' s.toks ⟨_, by rw [List.getElem?_map, hp]; rfl, by simp [Array.getD, hm]⟩ ⟨h1, hs.extBut _ _ hn2 st.2.1, hs.extBut _ _ hn1 st.2.2⟩ fun b o hb e => hs.extBut b o (fun z => hb (by simp [z])) e
  done := fun s Q E st hQ => by
    have hl : pl.length = es.size := by rw [pp.length_eq, List.length_range]
    exact nextD_end hh st.1 st.2.1 st.2.2 hd hf (List.getElem?_eq_none (by omega)) fun h' he => hQ h' s.toks fun b o hb e => he b o (fun z => hb (by simp [z])) e
  self := fun _ _ _ _ st hQ => set_self st.1 hQ
theorem walkT (hh : A.handled = none) (hn1 : S ≠ it) (hd : o.data = .set es ep t) (hf : t.fits es.size = true) (hb : w.params.followText "set-order" = true) :
    Walks prog w A it [it, S, S] [it] es.size (fun i v => ∃ e, ((pickOrder (w.params.setOrder S ep) es).toList)[i]? = some e ∧ v = e.2) (fun i h => h.get? it = some (itObj (rawInt ((0 : Nat) : Int)) S i es.size ep) ∧ h.get? S = some o) where
  sub := fun b hb => by simp at hb; simp [hb]
  frame := fun _ _ _ st hk => ⟨hk it (by simp) _ st.1, hk S (by simp) _ st.2⟩
  item := fun i s Q E hi st hQ => by
    have hl : (pickOrder (w.params.setOrder S ep) es).size = es.size := by
      have := (pick_perm (w.params.setOrder S ep) es).length_eq
      simpa using this
    have hg : (pickOrder (w.params.setOrder S ep) es)[i]? = some ((pickOrder (w.params.setOrder S ep) es)[i]'(by omega)) := Array.getElem?_eq_getElem _
    refine nextN_item (slot := 0) (nxt := 0) (x := ((pickOrder (w.params.setOrder S ep) es)[i]'(by omega)).2) st.1 st.2 hd hf (fun q' => next_text st.2 hd hf hb (by rw [hg]; exact q')) fun h' h1 hs => hQ _ h' s.toks ⟨_, by rw [Array.getElem?_toList]; exact hg, rfl⟩ ⟨h1, hs.extBut _ _ hn1 st.2⟩ fun b o hb e => hs.extBut b o (fun z => hb (by simp [z])) e
  done := fun s Q E st hQ => by
    have hl : (pickOrder (w.params.setOrder S ep) es).size = es.size := by
      have := (pick_perm (w.params.setOrder S ep) es).length_eq
      simpa using this
    exact nextN_end hh st.1 st.2 hd hf (fun q' => next_text st.2 hd hf hb (by rw [Array.getElem?_eq_none (by omega)]; exact q')) fun h' he => hQ h' s.toks fun b o hb e => he b o (fun z => hb (by simp [z])) e
  self := fun _ _ _ _ st hQ => set_self st.1 hQ
theorem walkL (hh : A.handled = none) (hn1 : S ≠ it) (hd : o.data = .set es ep t) (hf : t.fits es.size = true) (hb : w.params.followText "set-order" = false) (h1 : es.size ≤ 1) (hl : t.led = true) :
    Walks prog w A it [it, S, S] [it] es.size (fun i v => ∃ e, es.toList[i]? = some e ∧ v = e.2) (fun i h => h.get? it = some (itObj (rawInt ((if i = 0 then 0 else t.place.getD 0 0 + 1 : Nat) : Int)) S i es.size ep) ∧ h.get? S = some o) where
  sub := fun b hb => by simp at hb; simp [hb]
  frame := fun _ _ _ st hk => ⟨hk it (by simp) _ st.1, hk S (by simp) _ st.2⟩
  item := fun i s Q E hi st hQ => by
    have e0 : i = 0 := by omega
    subst e0
    have sz : t.place.size = 1 := by
      simp only [SetTable.fits, Bool.and_eq_true, beq_iff_eq] at hf
      omega
    obtain ⟨j, hj⟩ := arr1 _ sz
    have he : es[0]? = some (es[0]'(by omega)) := Array.getElem?_eq_getElem _
    refine nextN_item (slot := 0) (nxt := j + 1) (x := (es[0]'(by omega)).2) st.1 st.2 hd hf (fun q' => next_led st.2 hd hf hb h1 hl (by rw [hj, (below_1 j).1, he]; exact q')) fun h' h1' hs => hQ _ h' s.toks ⟨_, by rw [Array.getElem?_toList]; exact he, rfl⟩ ⟨by rw [if_neg (by omega), hj]; exact h1', hs.extBut _ _ hn1 st.2⟩ fun b o hb e => hs.extBut b o (fun z => hb (by simp [z])) e
  done := fun s Q E st hQ => by
    refine nextN_end hh st.1 st.2 hd hf (fun q' => next_led st.2 hd hf hb h1 hl ?_) fun h' he => hQ h' s.toks fun b o hb e => he b o (fun z => hb (by simp [z])) e
    by_cases h0 : es.size = 0
    · rw [Array.getElem?_eq_none (xs := es) (by omega)]
      exact q'
    · have sz : t.place.size = 1 := by
        simp only [SetTable.fits, Bool.and_eq_true, beq_iff_eq] at hf
        omega
      obtain ⟨j, hj⟩ := arr1 _ sz
      rw [if_neg h0, hj]
      rw [show (#[j] : Array Nat).getD 0 0 = j from rfl, (below_1 j).2, Array.getElem?_eq_none (xs := es) (by omega)]
      exact q'
  self := fun _ _ _ _ st hQ => set_self st.1 hQ
end
end L2
namespace L2
open PySem PySem.Spec PyProof.Rows
section
variable {prog : Program} {w : World} {A : Around} {E : Value → Shared → Prop} {s : Shared} {S : Addr} {es : Array (Int × Value)}
theorem set_hint {Q : Bool → Shared → Prop} (hT : s.TypeIs (.ref S) "set") (h : Q false s) : wpAny (model prog w) A (Builtin.List.listLengthHint (.ref S)) Q E s := by
  unfold Builtin.List.listLengthHint
  refine wpAny_bind (wpAny_specialOf hT F.slot_set_len.lookup ?_)
  generalize hid : ("set.__len__" : String) = id0
  wp_delta
  rw [show splitId id0 = some ("set", "__len__") from by subst hid; decide +kernel]
  subst hid
  refine wpAny_bind (wpAny_isInstance (T := "set") (b := true) hT (by rw [isSubtype_type]; kernel_rfl) ?_)
  refine wpAny_ite_split (fun hab => absurd hab (by decide)) (fun _ => ?_)
  refine wpAny_ite_split (fun _ => ?_) (fun hab => absurd (by decide +kernel) hab)
  refine wpAny_bind (wpAny_typeOf hT ?_)
  exact wpAny_pure h
theorem ext_tail {R : Result → Shared → Prop} {I L : Addr} {fp : List Addr} {n c0 : Nat} {P : Nat → Value → Prop} {St : Nat → Heap → Prop} {res : Value} {cnd : Bool} (W : Walks prog w A.in1 I fp [I] n P St) (hn : n ≤ sizeLine) (hLf : L ∉ fp) (hI : I ∈ fp) (hT : s.TypeIs (.ref S) "set") (hS : S ∈ fp)
    (st : St 0 s.heap) (hL : s.heap.get? L = some { cls := .type "list", data := .seq #[] c0 })
    (hR : ∀ h' tk acc c', (∀ b o, b ≠ L → b ≠ I → s.heap.get? b = some o → h'.get? b = some o) → h'.get? L = some { cls := .type "list", dict := none, data := .seq acc c', slots := #[] } → ItemsOf P acc n → R (.ok (.ret res)) { s with heap := h', toks := tk }) :
    wpAny (model prog w) A.in1 (do
      let room ← holding [.ref I] (Builtin.List.listLengthHint (.ref S))
      if (room || cnd) = true then do
          rule "list.extend.makes-room"
          Builtin.List.listTouch (.ref L)
          again (.builtin "list.extend.loop" ⟨[.ref L, .ref I, res], []⟩)
        else again (.builtin "list.extend.loop" ⟨[.ref L, .ref I, res], []⟩))
      (fun fin s' => match fin with | .done f => R (.ok f) s' | .again c' => c'.quiet = true ∧ codeAny (model prog w) A c' R s') (fun e s' => R (.error e) s') s := by
  have key : ∀ (h : Heap) (c1 : Nat), St 0 h → (∀ b o, b ≠ L → s.heap.get? b = some o → h.get? b = some o) → h.get? L = some { cls := .type "list", data := .seq #[] c1 } → codeAny (model prog w) A (.builtin "list.extend.loop" ⟨[.ref L, .ref I, res], []⟩) R { s with heap := h } := by
    intro h c1 hst hk hL1
    refine codeAny_extend_loopS W.toS hn L hLf res n 0 _ #[] c1 rfl (Nat.zero_le _) hst hL1 (ItemsOf.nil _) fun s' acc' c' hm hL' hacc => ?_
    rw [Moved.eq_with hm]
    refine hR s'.heap s'.toks acc' c' (fun b o hb hbI e => hm.heap b o (fun z => ?_) (hk b o hb e)) hL' hacc
    rcases List.mem_cons.mp z with z | z
    · exact hb z
    · exact hbI (List.mem_singleton.mp z)
  refine wpAny_bind (wpAny_holding (set_hint hT ?_))
  refine wpAny_ite_split (fun _ => ?_) (fun _ => wpAny_pure ⟨plainId_quiet PySem.F.plain_extend_loop _, key _ c0 st (fun b o _ e => e) hL⟩)
  refine wpAny_bind (wpAny_rule (wpAny_bind ?_))
  show wpAny _ _ (updateSeq L (·.push .none) >>= fun _ => updateSeq L (·.pop)) _ _ _
  refine wpAny_bind (wpAny_updateSeq hL rfl ?_)
  have hL2 := Heap.get?_update_self (Obj.mapSeq (·.push Value.none)) hL rfl
  refine wpAny_updateSeq (hz := by seq_fits) hL2 rfl ?_
  have hL3 := Heap.get?_update_self (Obj.mapSeq (·.pop)) hL2 rfl
  have hk : ∀ b o, b ≠ L → s.heap.get? b = some o → ((s.heap.update L (Obj.mapSeq (·.push Value.none))).update L (Obj.mapSeq (·.pop))).get? b = some o := fun b o hb e => (Heap.get?_update_other _ _ (Ne.symm hb)).trans ((Heap.get?_update_other _ _ (Ne.symm hb)).trans e)
  exact wpAny_pure ⟨plainId_quiet PySem.F.plain_extend_loop _, key _ _ (W.frame 0 _ _ st fun b hb o e => hk b o (fun z => hLf (z ▸ hb)) e) hk hL3⟩
theorem set_items {ord : List (Int × Value)} {acc : Array Value} {n : Nat} (h : ItemsOf (fun i v => ∃ e, ord[i]? = some e ∧ v = e.2) acc n) (hl : ord.length = n) : acc.toList = ord.map (·.2) := by
  apply List.ext_getElem?
  intro j
  rw [List.getElem?_map]
  by_cases hj : j < n
  · have hj' : j < acc.size := by rw [h.1]; exact hj
    obtain ⟨e, h1, h2⟩ := h.2 j acc[j] (Array.getElem?_eq_getElem hj')
    rw [h1, Array.getElem?_toList, Array.getElem?_eq_getElem hj', h2]
    rfl
  · have := h.1
    rw [Array.getElem?_toList, Array.getElem?_eq_none (by omega), List.getElem?_eq_none (by omega)]
    rfl
theorem range_getD (es : Array (Int × Value)) (d : Int × Value) : (List.range es.size).map (fun p => es.getD p d) = es.toList := by
  apply List.ext_getElem
  · simp
  · intro j h1 h2
    have hj : j < es.size := by simpa using h2
    simp [Array.getD, hj]
theorem set_extend {R : Result → Shared → Prop} {L : Addr} {c0 : Nat} {res : Value} (hh : A.handled = none) (hS : SStr prog w s.heap S es) (hne : L ≠ S) (hL : s.heap.get? L = some { cls := .type "list", data := .seq #[] c0 })
    (hR : ∀ h' tk d acc c', (∀ b o, b ≠ L → s.heap.get? b = some o → h'.get? b = some o) → h'.get? L = some { cls := .type "list", dict := none, data := .seq acc c', slots := #[] } → acc.toList.Perm (es.toList.map (·.2)) → R (.ok (.ret res)) { s with heap := h', toks := tk, drawn := d }) :
    wpAny (model prog w) A.in1 (Builtin.List.listExtendWith (.ref L) (.ref S) res)
      (fun fin s' => match fin with | .done f => R (.ok f) s' | .again c' => c'.quiet = true ∧ codeAny (model prog w) A c' R s') (fun e s' => R (.error e) s') s := by
  obtain ⟨⟨o, ep, t, ho, hx, hd, hf, hl, hp⟩, hel, hlt⟩ := hS
  have T : s.TypeIs (.ref S) "set" := ⟨o, ho, hx.1⟩
  have hn : es.size ≤ sizeLine := fits_of_scanBound hlt
  have lS := Heap.lt_size ho
  have lL := Heap.lt_size hL
  have hh1 : A.in1.handled = none := hh
  unfold Builtin.List.listExtendWith
  refine wpAny_bind (wpAny_typeOf (T := "set") T ?_)
  have h1 : Builtin.List.listSameRef (.ref L) (.ref S) = false := by simp [Builtin.List.listSameRef, hne]
  simp only [h1, show (Value.type "set" == Value.type "list") = false by decide, show (Value.type "set" == Value.type "tuple") = false by decide, Bool.or_false, Bool.false_eq_true, if_false]
  refine wpAny_bind (set_iter ho hx hd hf hlt (fun hD => ?_) (fun hD pl d pp => ?_))
  · have nf : L ∉ [s.heap.objs.size, S, S] := by
      simp only [List.mem_cons, List.not_mem_nil, or_false, not_or]
      exact ⟨Nat.ne_of_lt lL, hne, hne⟩
    have T1 : Shared.TypeIs { s with heap := s.heap.push (itObj (rawInt 0) S 0 es.size ep) } (.ref S) "set" := ⟨o, Heap.get?_push_of_some _ ho, hx.1⟩
    by_cases hb : w.params.followText "set-order" = true
    · refine ext_tail (walkT hh1 (Nat.ne_of_lt lS) hd hf hb) hn nf (by simp) T1 (by simp) ⟨Heap.get?_push_size _ rfl, Heap.get?_push_of_some _ ho⟩ (Heap.get?_push_of_some _ hL) fun h' tk acc c' hk hL' hit => ?_
      have pl := (pick_perm (w.params.setOrder S ep) es).length_eq
      refine hR h' tk s.drawn acc c' (fun b o hb e => hk b o hb (Nat.ne_of_lt (Heap.lt_size e)) (Heap.get?_push_of_some _ e)) hL' ?_
      rw [set_items hit (by simpa using pl)]
      exact (pick_perm _ _).map _
    · have hb' : w.params.followText "set-order" = false := by simpa using hb
      have h1' : es.size ≤ 1 := by
        by_cases h0 : es.size ≤ 1
        · exact h0
        · have := hp (by omega)
          unfold Drw at hD
          rw [hb', this] at hD
          simp at hD
          omega
      refine ext_tail (walkL hh1 (Nat.ne_of_lt lS) hd hf hb' h1' (by rw [hl, hb']; rfl)) hn nf (by simp) T1 (by simp) ⟨Heap.get?_push_size _ rfl, Heap.get?_push_of_some _ ho⟩ (Heap.get?_push_of_some _ hL) fun h' tk acc c' hk hL' hit => ?_
      refine hR h' tk s.drawn acc c' (fun b o hb e => hk b o hb (Nat.ne_of_lt (Heap.lt_size e)) (Heap.get?_push_of_some _ e)) hL' ?_
      rw [set_items hit (by simp)]
  · have gt : ∀ b : Addr, b < s.heap.objs.size → b ≠ (s.heap.push (plObj pl)).objs.size := fun b z => by
      rw [Heap.size_push]
      exact Nat.ne_of_lt (Nat.lt_succ_of_lt z)
    have gt2 : s.heap.objs.size ≠ (s.heap.push (plObj pl)).objs.size := by
      rw [Heap.size_push]
      exact Nat.ne_of_lt (Nat.lt_succ_self _)
    have nf : L ∉ [(s.heap.push (plObj pl)).objs.size, S, s.heap.objs.size] := by
      simp only [List.mem_cons, List.not_mem_nil, or_false, not_or]
      exact ⟨gt L lL, hne, Nat.ne_of_lt lL⟩
    have up : ∀ b ob, s.heap.get? b = some ob → ((s.heap.push (plObj pl)).push (itObj (.ref s.heap.objs.size) S 0 es.size ep)).get? b = some ob := fun b ob e => Heap.get?_push_of_some _ (Heap.get?_push_of_some _ e)
    refine ext_tail (s := { s with heap := (s.heap.push (plObj pl)).push (itObj (.ref s.heap.objs.size) S 0 es.size ep), drawn := d }) (walkD hh1 (gt S lS) gt2 hd hf pp) hn nf (by simp) ⟨o, up _ _ ho, hx.1⟩ (by simp) ⟨Heap.get?_push_size _ rfl, Heap.get?_push_of_some _ (Heap.get?_push_size _ rfl), up _ _ ho⟩ (up _ _ hL) fun h' tk acc c' hk hL' hit => ?_
    have ln : pl.length = es.size := by rw [pp.length_eq, List.length_range]
    refine hR h' tk d acc c' (fun b o hb e => hk b o hb (gt b (Heap.lt_size e)) (up _ _ e)) hL' ?_
    rw [set_items hit (by simpa using ln), ← range_getD es (0, .none)]
    exact (pp.map _).map _
end
end L2
namespace L2
open PySem PySem.Spec PyProof.Rows
section
variable {prog : Program} {w : World} {A : Around} {E : Value → Shared → Prop} {s : Shared} {S : Addr} {es : Array (Int × Value)}
theorem set_collect {R : List Value → Shared → Prop} (hh : A.handled = none) (hS : SStr prog w s.heap S es)
    (h : ∀ (h' : Heap) (tk : Nat) (d : Drawn) (acc : Array Value), (∀ b o, s.heap.get? b = some o → h'.get? b = some o) → s.heap.objs.size < h'.objs.size → acc.toList.Perm (es.toList.map (·.2)) → R acc.toList { s with heap := h', toks := tk, drawn := d }) :
    wpAny (model prog w) A (collect (.ref S)) R E s := by
  obtain ⟨o, ep, t, ho, _⟩ := hS.ex
  have lS := Heap.lt_size ho
  unfold collect
  refine wpAny_bind (wpAny_runValue (codeAny_builtin entry_proto_collect' ?_))
  rw [Around.under_plainId PySem.F.plain_proto_collect _]
  show wpAny _ A.in1 (newList [] >>= fun l => again (.builtin "list.__iadd__" ⟨[l, .ref S], []⟩)) _ _ s
  refine wpAny_bind (wpAny_newObj_type (wpAny_pure ⟨plainId_quiet PySem.F.plain_list_iadd _, codeAny_builtin entry_list_iadd' ?_⟩))
  rw [Around.under_plainId PySem.F.plain_list_iadd _]
  have hL : (s.heap.push { cls := .type "list", data := .seq ([] : List Value).toArray }).get? s.heap.objs.size = some { cls := .type "list", data := .seq #[] } := Heap.get?_push_size _ rfl
  show wpAny _ A.in1 (Builtin.List.listExtendWith (.ref s.heap.objs.size) (.ref S) (.ref s.heap.objs.size)) _ _ _
  have key := set_extend (A := A) (s := { s with heap := s.heap.push { cls := .type "list", data := .seq ([] : List Value).toArray } }) (L := s.heap.objs.size) (c0 := 0) (res := .ref s.heap.objs.size) (es := es) (S := S) (w := w) (prog := prog)
    (R := fun (q : Result) (s' : Shared) => ∃ (h' : Heap) (tk : Nat) (d : Drawn) (acc : Array Value) (c' : Nat), q = .ok (.ret (.ref s.heap.objs.size)) ∧ s' = { s with heap := h', toks := tk, drawn := d } ∧ (∀ b o, s.heap.get? b = some o → h'.get? b = some o) ∧ h'.get? s.heap.objs.size = some { cls := .type "list", dict := none, data := .seq acc c', slots := #[] } ∧ acc.toList.Perm (es.toList.map (·.2)))
    hh (hS.moved fun o e => Heap.get?_push_of_some _ e) (Nat.ne_of_gt lS) hL
    (fun h' tk d acc c' hk hL' hp => ⟨h', tk, d, acc, c', rfl, rfl, fun b o e => hk b o (Nat.ne_of_lt (Heap.lt_size e)) (Heap.get?_push_of_some _ e), hL', hp⟩)
  refine wpAny_mono key (fun fin s' x => ?_) fun e s' x => ?_
  · cases fin with
    | done f =>
      obtain ⟨h', tk, d, acc, c', e, rfl, hk, hL', hp⟩ := x
      cases e
      show wpAny _ A (load s.heap.objs.size >>= _) _ _ _
      exact wpAny_bind (wpAny_load hL' (wpAny_pure (h h' tk d acc hk (Heap.lt_size hL') hp)))
    | again c1 =>
      refine ⟨x.1, codeAny_mono x.2 fun q s2 y => ?_⟩
      obtain ⟨h', tk, d, acc, c', rfl, rfl, hk, hL', hp⟩ := y
      show wpAny _ A (load s.heap.objs.size >>= _) _ _ _
      exact wpAny_bind (wpAny_load hL' (wpAny_pure (h h' tk d acc hk (Heap.lt_size hL') hp)))
  · obtain ⟨_, _, _, _, _, e', _⟩ := x
    cases e'
theorem perm_of_map {α β : Type} {f : α → β} {xs ys : List β} (h : xs.Perm ys) : ∀ l : List α, ys = l.map f → ∃ l' : List α, l'.Perm l ∧ xs = l'.map f := by
  induction h with
  | nil =>
    intro l hl
    exact ⟨l, List.Perm.refl _, hl⟩
  | cons x _ ih =>
    intro l hl
    cases l with
    | nil => simp at hl
    | cons y l =>
      rw [List.map_cons, List.cons.injEq] at hl
      obtain ⟨l', p, e⟩ := ih l hl.2
      exact ⟨y :: l', p.cons y, by rw [List.map_cons, ← hl.1, e]⟩
  | swap x y zs =>
    intro l hl
    match l, hl with
    | a :: b :: l, hl =>
      rw [List.map_cons, List.map_cons, List.cons.injEq, List.cons.injEq] at hl
      exact ⟨b :: a :: l, List.Perm.swap _ _ _, by rw [List.map_cons, List.map_cons, ← hl.1, ← hl.2.1, hl.2.2]⟩
  | trans _ _ ih1 ih2 =>
    intro l hl
    obtain ⟨l2, p2, e2⟩ := ih2 l hl
    obtain ⟨l1, p1, e1⟩ := ih1 l2 e2
    exact ⟨l1, p1.trans p2, e1⟩
theorem strs_of : ∀ {l : List (Str × Tok)} {vs : List Value}, vs = l.map (fun x => (entS w x).2) → StrsAre vs (l.map (·.1))
  | [], _, rfl => .nil
  | x :: l, _, rfl => .cons x.1 x.2 (strs_of rfl)
theorem set_sorted {ks : List Str} {Q : Value → Shared → Prop} (hh : A.handled = none) (hS : SStr prog w s.heap S es) (hK : KsOf w es ks) (h64 : ks.length < 64)
    (h : ∀ (D : Addr) (h' : Heap) (tk : Nat) (d : Drawn) (vs : List Value) (ss : List Str) (e : Nat), (∀ b o, s.heap.get? b = some o → h'.get? b = some o) → s.heap.objs.size ≤ D → h'.get? D = some (seqObj "list" vs.toArray e) → StrsAre vs ss → ss.Perm ks → sortedS ss = true → Q (.ref D) { s with heap := h', toks := tk, drawn := d }) :
    wpAny (model prog w) A (call (.builtin "sorted") [.ref S]) Q E s := by
  refine Calls.call_function_entry kind_sorted plain_sorted entry_sorted (args_sorted1 _) ?_
  unfold Builtin.«sorted»
  refine wpAny_bind (m := checkCount "sorted" 1 1 _) (wpAny_pure ?_)
  refine wpAny_bind (set_collect hh hS fun h' tk d acc hk hsz hp => ?_)
  obtain ⟨nd, l, rfl, pp⟩ := hK
  have p2 : acc.toList.Perm (l.map fun x => (entS w x).2) := hp.trans (by have := pp.map (·.2); rw [List.map_map] at this; exact this)
  have ln : acc.toList.length = l.length := by rw [p2.length_eq, List.length_map]
  have hl64 : acc.toList.length < 64 := by rw [ln]; simpa using h64
  obtain ⟨l', p3, e3⟩ := perm_of_map p2 l rfl
  have hst := strs_of (w := w) e3
  refine wpAny_bind (wpAny_newList ?_ (by have : 64 ≤ sizeLine := le_line (by decide); omega))
  have hD : (h'.push (seqObj "list" acc.toList.toArray 0)).get? h'.objs.size = some (seqObj "list" acc.toList.toArray 0) := Heap.get?_push_size _ rfl
  show wpAny _ _ _ _ _ { s with heap := h'.push (seqObj "list" acc.toList.toArray 0), toks := tk, drawn := d }
  refine wpAny_bind (wpAny_holding (wpAny_call_entry PyProof.Rows.slot_list_sort ⟨_, hD, rfl⟩ PyProof.Rows.entry_list_sort (list_sort_treeK strKind_oneLt hD hst.keysOf (fun v1 v2 rest e => keyKind_strs (by rw [← e]; exact hst)) hl64 fun st' a1 a2 => ⟨_, rfl, ?_⟩) (args_list_sort _)))
  obtain ⟨ss', b1, b2, b3⟩ := sorted_out_str hst a1 a2
  obtain ⟨e, he⟩ := sortedHeap_at (h := h'.push (seqObj "list" acc.toList.toArray 0)) (a := h'.objs.size) (vs := acc.toList) (out := (arrOf st').map (·.2)) (n := 0) hD
  have lt : ∀ b o, s.heap.get? b = some o → b < h'.objs.size := fun b o e => Heap.lt_size (hk b o e)
  refine wpAny_pure ⟨_, rfl, h h'.objs.size _ tk d ((arrOf st').map (·.2)).toList ss' e (fun b o e => ?_) ?_ (by rw [Array.toArray_toList]; exact he) b1 (b2.trans (p3.map _)) b3⟩
  · have := lt b o e
    rw [sortedHeap_old (Nat.ne_of_lt this) (by rw [size_push']; exact Nat.lt_succ_of_lt this)]
    exact Heap.get?_push_of_some _ (hk b o e)
  · exact Nat.le_of_lt hsz
end
end L2
namespace L2
open PySem PySem.Spec PyProof.Rows
theorem Inv.drw {X : Cx} {pins : List (Addr × Obj)} {σ : List (Option V)} {H : Hp} {s : Shared} (I : Inv X pins σ H s) (d : Drawn) : Inv X pins σ H { s with drawn := d } := ⟨I.ok, I.os, I.bare, I.base, I.loc, I.cell, I.free, I.freeC, I.pin, I.hok, I.len⟩
def setφ (P : Program) (w : World) (p : Addr) (ks : List Str) : Heap → Prop := fun h => ∃ es, SStr P w h p es ∧ KsOf w es ks
def SetAt (P : Program) (w : World) (H : Hp) (p : Addr) (ks : List Str) : Prop := H p = some (.ext (setφ P w p ks))
def rSetS (K : PySem.W.Frag) (P : Program) (w : World) : List V → Hp → VK → Prop := fun vs H Q => ∃ a ss, vs = [V.ref a] ∧ SqL K H a (strsV ss) ∧ ss.length + 1 < 4096 ∧ ∀ p H' ks, H p = none → Same H H' → SetAt P w H' p ks → ks.Nodup → (∀ x, x ∈ ks ↔ x ∈ ss) → Q (.ref p) H'
def rSortS (P : Program) (w : World) : List V → Hp → VK → Prop := fun vs H Q => ∃ p ks, vs = [V.ref p] ∧ SetAt P w H p ks ∧ ks.length < 64 ∧ ∀ q out H', H q = none → Same H H' → H' q = some (.lst (strsV out)) → out.Perm ks → sortedS out = true → Q (.ref q) H'
theorem vals_texts : ∀ {ss : List Str} {us : List Value}, Vals (strsV ss) us → ∀ (i : Nat) (v : Value), us[i]? = some v → ∃ t, v = Value.str (ss.getD i ⟨#[]⟩) t
  | [], us, h, i, v, e => by
    cases h
    simp at e
  | x :: ss, us, h, i, v, e => by
    cases h with
    | cons h1 h2 =>
      obtain ⟨t, rfl⟩ := h1
      cases i with
      | zero =>
        simp at e
        exact ⟨t, by rw [← e]; rfl⟩
      | succ i => exact vals_texts h2 i v (by simpa using e)
theorem strs_vals : ∀ {vs : List Value} {ss : List Str}, StrsAre vs ss → Vals (strsV ss) vs
  | _, _, .nil => .nil
  | _, _, .cons y t h => .cons ⟨t, rfl⟩ (strs_vals h)
theorem first_all (ss : List Str) (x : Str) : x ∈ firstS (fun i => ss.getD i ⟨#[]⟩) ss.length ↔ x ∈ ss := by
  rw [firstS_mem]
  constructor
  · rintro ⟨j, hj, rfl⟩
    rw [List.getD_eq_getElem?_getD, List.getElem?_eq_getElem hj]
    exact List.getElem_mem hj
  · intro hx
    obtain ⟨j, hj, rfl⟩ := List.mem_iff_getElem.mp hx
    exact ⟨j, hj, by rw [List.getD_eq_getElem?_getD, List.getElem?_eq_getElem hj]; rfl⟩
theorem firstS_nd (val : Nat → Str) : ∀ i, (firstS val i).Nodup
  | 0 => by simp [firstS]
  | i + 1 => by
    rw [firstS_succ]
    unfold metS
    split
    · exact firstS_nd val i
    · next h =>
      refine List.nodup_append.mpr ⟨firstS_nd val i, by simp, fun a ha b hb z => ?_⟩
      rw [List.mem_singleton.mp hb] at z
      exact h (z ▸ ha)
section
variable {X : Cx} {P : Program} {w : World}
theorem cl_setS (K : PySem.W.Frag) (hP : X.prog = P) (hw : X.w = w) (hc : X.calm = true) (hK : X.K = K := by rfl) : CallR X (.type "set") (rSetS K P w) := by
  subst hP hw hK
  intro pins s σ H xs us Q I r h
  obtain ⟨a, ss, rfl, hS, hl, q⟩ := h
  cases r with
  | cons r1 r2 =>
  cases r2
  cases r1
  obtain ⟨its, v1, p1, z⟩ := I.list hS
  have hlen : its.length = ss.length := by
    have := v1.length
    simpa [strsV] using this.symm
  have hb : its.toArray.size + 1 < scanBound := by
    rw [List.size_toArray, hlen]
    exact hl
  refine call_set_strs (I.ok.hd hc) p1.isList (val := fun i => ss.getD i ⟨#[]⟩) (fun i v e => vals_texts v1 i v (by rw [List.getElem?_toArray] at e; exact e)) hb fun h' tk es hs hk keep => ?_
  rw [List.size_toArray, hlen] at hk
  have kp : ∀ b u, s.heap.get? b = some u → h'.get? b = some u := fun b u e => keep b u (Heap.lt_size e) e
  have hp := I.hok.fresh (Nat.le_refl s.heap.objs.size)
  obtain ⟨o, ep, t, ho, _⟩ := hs.ex
  have I2 := I.laid (h' := h') (t' := tk) (a := s.heap.objs.size) (o := .ext (setφ X.prog X.w s.heap.objs.size (firstS (fun i => ss.getD i ⟨#[]⟩) ss.length))) kp (Nat.le_refl _) ⟨⟨es, hs, hk⟩, ⟨o, ho⟩, fun h1 h2 ⟨es', a1, a2⟩ z => ⟨es', a1.moved z, a2⟩⟩
  exact ⟨.ref s.heap.objs.size, _, I2, rfl, q _ _ _ hp (Same.new hp) upd_same (firstS_nd _ _) (first_all ss)⟩
theorem cl_sortS (hP : X.prog = P) (hw : X.w = w) (hc : X.calm = true) : CallR X (.builtin "sorted") (rSortS P w) := by
  subst hP hw
  intro pins s σ H xs us Q I r h
  obtain ⟨p, ks, rfl, hS, h64, q⟩ := h
  cases r with
  | cons r1 r2 =>
  cases r2
  cases r1
  obtain ⟨⟨es, hs, hk⟩, _⟩ := (show ObjOk X.prog X.w H s.heap p (.ext (setφ X.prog X.w p ks)) from I.hok p _ hS)
  refine set_sorted (I.ok.hd hc) hs hk h64 fun D h' tk d vs ss e kp hD hl hv pm so => ?_
  have hp := I.hok.fresh hD
  have ln : ss.length = ks.length := pm.length_eq
  have I2 := (I.drw d).laid (h' := h') (t' := tk) (a := D) (o := .lst (strsV ss)) kp hD ⟨by simp [strsV]; exact Nat.le_trans (by omega) (le_line (show 64 ≤ 1000000 by decide)), vs, e, strs_vals hv, hl⟩
  exact ⟨.ref D, _, I2, rfl, q D ss _ hp (Same.new hp) upd_same pm so⟩
end
end L2
namespace L2
open PySem PySem.Spec PyProof.Rows
end L2
namespace L2
open PySem PySem.Spec PyProof.Rows
section
variable {X : Cx}
end
end L2
namespace L2
open PySem PySem.Spec PyProof.Rows
theorem lc_tri : ∀ {a b : List Nat}, ltCps a b = false → ltCps b a = false → a = b
  | [], [], _, _ => rfl
  | [], _ :: _, h, _ => by simp [ltCps] at h
  | _ :: _, [], _, h => by simp [ltCps] at h
  | x :: a, y :: b, h1, h2 => by
    simp only [ltCps, Bool.or_eq_false_iff, Bool.and_eq_false_iff, decide_eq_false_iff_not] at h1 h2
    have e : x = y := by omega
    subst e
    rw [lc_tri (a := a) (b := b) (by simpa using h1.2) (by simpa using h2.2)]
theorem lc_trans : ∀ {a b c : List Nat}, ltCps b a = false → ltCps c b = false → ltCps c a = false
  | [], _, [], _, _ => rfl
  | [], [], _ :: _, _, _ => rfl
  | [], _ :: _, _ :: _, _, _ => rfl
  | _ :: _, [], _, h, _ => by simp [ltCps] at h
  | _ :: _, _ :: _, [], _, h => by simp [ltCps] at h
  | x :: a, y :: b, z :: c, h1, h2 => by
    simp only [ltCps, Bool.or_eq_false_iff, Bool.and_eq_false_iff, decide_eq_false_iff_not] at h1 h2 ⊢
    refine ⟨by omega, ?_⟩
    by_cases e : z = x
    · have e1 : y = x := by omega
      have e2 : z = y := by omega
      subst e1 e2
      exact .inr (lc_trans (a := a) (b := b) (by simpa using h1.2) (by simpa using h2.2))
    · exact .inl (by simpa using e)
def leS (a b : Str) : Prop := ltCps b.cps.toList a.cps.toList = false
theorem leS_anti {a b : Str} (h1 : leS a b) (h2 : leS b a) : a = b := by
  have := lc_tri h2 h1
  cases a
  cases b
  simp only [Str.mk.injEq]
  exact Array.toList_inj.mp this
theorem rising_all : ∀ {l : List Str} {p : Str}, risingS p l = true → (∀ x ∈ l, leS p x) ∧ sortedS l = true
  | [], p, _ => ⟨by simp, rfl⟩
  | x :: r, p, h => by
    simp only [risingS, Bool.and_eq_true, Bool.not_eq_true'] at h
    obtain ⟨h1, h2⟩ := rising_all h.2
    refine ⟨fun y hy => ?_, h.2⟩
    rcases List.mem_cons.mp hy with rfl | hy
    · exact h.1
    · exact lc_trans h.1 (h1 y hy)
theorem sorted_one : ∀ {a b : List Str}, sortedS a = true → sortedS b = true → a.Nodup → b.Nodup → (∀ x, x ∈ a ↔ x ∈ b) → a = b
  | [], [], _, _, _, _, _ => rfl
  | [], y :: b, _, _, _, _, h => absurd ((h y).mpr (by simp)) (by simp)
  | x :: a, [], _, _, _, _, h => absurd ((h x).mp (by simp)) (by simp)
  | x :: a, y :: b, s1, s2, n1, n2, h => by
    obtain ⟨a1, a2⟩ := rising_all (show risingS x a = true from s1)
    obtain ⟨b1, b2⟩ := rising_all (show risingS y b = true from s2)
    rw [List.nodup_cons] at n1 n2
    have e : x = y := by
      rcases List.mem_cons.mp ((h x).mp (by simp)) with e | hx
      · exact e
      rcases List.mem_cons.mp ((h y).mpr (by simp)) with e | hy
      · exact e.symm
      exact leS_anti (a1 y hy) (b1 x hx)
    subst e
    rw [sorted_one a2 b2 n1.2 n2.2 fun z => ?_]
    constructor
    · intro hz
      rcases List.mem_cons.mp ((h z).mp (List.mem_cons_of_mem _ hz)) with e | hz'
      · exact absurd (e ▸ hz) n1.1
      · exact hz'
    · intro hz
      rcases List.mem_cons.mp ((h z).mpr (List.mem_cons_of_mem _ hz)) with e | hz'
      · exact absurd (e ▸ hz) n2.1
      · exact hz'
end L2
namespace L2
open PySem PySem.Spec PyProof.Rows
end L2
namespace L2
open PySem PySem.Spec PyProof.Rows
end L2
namespace L2
open PySem PySem.Spec PyProof.Rows
end L2
namespace L2
open PySem PySem.Spec PyProof.Rows
section
variable {rs : List RRoom} {many : Nat} {p : Pr}
variable {N k : Nat} {dv : Pr → Option Nat}
end
end L2
namespace L2
open PySem PySem.Spec PyProof.Rows
section
variable {prog : Program} {w : World} {A : Around} {E : Value → Shared → Prop} {s : Shared}
end
section
variable {X : Cx} {P : Params}
end
end L2
namespace L2
open PySem PySem.Spec PyProof.Rows
section
variable {prog : Program} {w : World} {A : Around} {R : Result → Shared → Prop} {J : Addr} {fp wr : List Addr} {n : Nat} {P : Nat → Value → Prop} {St : Nat → Heap → Prop}
end
section
variable {prog : Program} {w : World} {A : Around} {E : Value → Shared → Prop} {s : Shared}
end
section
variable {X : Cx} {e d : Expr} {t tk : TA} {p kp pos : Pos}
end
end L2
namespace L2
open PySem PySem.Spec PyProof.Rows
def rMax2 : List V → Hp → VK → Prop := fun xs H Q => ∃ a b : Int, xs = [.int a, .int b] ∧ Q (.int (max a b)) H
section
variable {X : Cx}
theorem kcall_max2 (hh : X.calm = true := by rfl) : CallR X (.builtin "max") rMax2 := by
  intro pins s σ H xs us Q I r h
  obtain ⟨a, b, rfl, q⟩ := h
  obtain ⟨u, v, rfl, ⟨t1, rfl⟩, ⟨t2, rfl⟩⟩ := vals2 r
  refine max_two_ints (I.ok.hd hh) fun h' tk hk => ?_
  have I1 : Inv X pins σ H { s with heap := h', toks := tk } := I.kept hk
  by_cases c : b > a
  · rw [if_pos c]
    exact ⟨.int b, H, I1, ⟨_, rfl⟩, by rw [show max a b = b by omega] at q; exact q⟩
  · rw [if_neg c]
    exact ⟨.int a, H, I1, ⟨_, rfl⟩, by rw [show max a b = a by omega] at q; exact q⟩
theorem i_max2 {H : Hp} {Q : VK} {a b : Int} (h : Q (.int (max a b)) H) : rMax2 [.int a, .int b] H Q := ⟨a, b, rfl, h⟩
end
end L2
namespace L2
open PySem PySem.Spec PyProof.Rows
def Ris (t : SetTable) : Prop := t.place.toList.Pairwise (· < ·) ∧ t.dummies = #[]
theorem ris_le {xs : Array Nat} (h : xs.toList.Pairwise (· < ·)) {a b : Nat} (hab : a ≤ b) (hb : b < xs.size) : xs.getD a 0 ≤ xs.getD b 0 := by
  by_cases e : a = b
  · rw [e]; exact Nat.le_refl _
  · have := List.pairwise_iff_getElem.mp h a b (by simp; omega) (by simpa using hb) (by omega)
    simp only [Array.getElem_toList] at this
    simp only [Array.getD, show a < xs.size by omega, hb, dif_pos]
    exact Nat.le_of_lt this
structure Blw (xs : Array Nat) (j k : Nat) : Prop where
  le : k ≤ xs.size
  lo : ∀ i, i < k → xs.getD i 0 < j
  hi : ∀ i, k ≤ i → i < xs.size → j ≤ xs.getD i 0
theorem below_go {xs : Array Nat} {j : Nat} (h : xs.toList.Pairwise (· < ·)) : ∀ (fuel lo hi : Nat), hi ≤ xs.size → lo ≤ hi → hi - lo ≤ fuel → (∀ i, i < lo → xs.getD i 0 < j) → (∀ i, hi ≤ i → i < xs.size → j ≤ xs.getD i 0) → Blw xs j (SetTable.below.go xs j fuel lo hi)
  | 0, lo, hi, h1, h2, h3, h4, h5 => by
    have : lo = hi := by omega
    subst this
    exact ⟨h1, h4, h5⟩
  | fuel + 1, lo, hi, h1, h2, h3, h4, h5 => by
    show Blw xs j (if lo < hi then if xs.getD ((lo + hi) / 2) j < j then SetTable.below.go xs j fuel ((lo + hi) / 2 + 1) hi else SetTable.below.go xs j fuel lo ((lo + hi) / 2) else lo)
    by_cases c : lo < hi
    · rw [if_pos c]
      have hm : (lo + hi) / 2 < xs.size := by omega
      have e : xs.getD ((lo + hi) / 2) j = xs.getD ((lo + hi) / 2) 0 := by simp [Array.getD, hm]
      rw [e]
      by_cases d : xs.getD ((lo + hi) / 2) 0 < j
      · rw [if_pos d]
        exact below_go h fuel _ hi h1 (by omega) (by omega) (fun i hi' => Nat.lt_of_le_of_lt (ris_le h (by omega) hm) d) h5
      · rw [if_neg d]
        exact below_go h fuel lo _ (by omega) (by omega) (by omega) h4 fun i hi' hs => Nat.le_trans (Nat.le_of_not_lt d) (ris_le h hi' hs)
    · rw [if_neg c]
      have : lo = hi := by omega
      subst this
      exact ⟨h1, h4, h5⟩
theorem below_ok {xs : Array Nat} (h : xs.toList.Pairwise (· < ·)) (j : Nat) : Blw xs j (SetTable.below xs j) :=
  below_go h xs.size 0 xs.size (Nat.le_refl _) (Nat.zero_le _) (by omega) (fun i hi => absurd hi (Nat.not_lt_zero _)) fun i h1 h2 => absurd h2 (by omega)
theorem below_one {xs : Array Nat} {j k m : Nat} (a : Blw xs j k) (b : Blw xs j m) : k = m := by
  rcases Nat.lt_trichotomy k m with h | h | h
  · have h1 := a.hi k (Nat.le_refl _) (Nat.lt_of_lt_of_le h b.le)
    have h2 := b.lo k h
    omega
  · exact h
  · have h1 := b.hi m (Nat.le_refl _) (Nat.lt_of_lt_of_le h a.le)
    have h2 := a.lo m h
    omega
theorem below_step {xs : Array Nat} (h : xs.toList.Pairwise (· < ·)) {i : Nat} (hi : i < xs.size) : SetTable.below xs (xs.getD i 0 + 1) = i + 1 := by
  refine below_one (below_ok h _) ⟨hi, fun a ha => ?_, fun a ha hs => ?_⟩
  · have := ris_le h (show a ≤ i by omega) hi
    omega
  · have := List.pairwise_iff_getElem.mp h i a (by simpa using hi) (by simpa using hs) (by omega)
    simp only [Array.getElem_toList] at this
    simp only [Array.getD, hi, hs, dif_pos]
    exact this
theorem below_0 {xs : Array Nat} (h : xs.toList.Pairwise (· < ·)) : SetTable.below xs 0 = 0 :=
  below_one (below_ok h 0) ⟨Nat.zero_le _, fun i hi => absurd hi (Nat.not_lt_zero _), fun _ _ _ => Nat.zero_le _⟩
theorem ris_stand (t : SetTable) (n : Nat) : Ris (t.standIn n) := by
  refine ⟨?_, rfl⟩
  show (Array.range n).toList.Pairwise (· < ·)
  rw [Array.toList_range]
  exact List.pairwise_lt_range
theorem ris_put {t : SetTable} {j : Nat} (h : Ris t) (he : t.slot j = .empty) : Ris (t.put j).1 := by
  have b := below_ok h.1 j
  refine ⟨?_, ?_⟩
  · show (SetTable.insertAt t.place (SetTable.below t.place j) j).toList.Pairwise (· < ·)
    have hne : t.place[SetTable.below t.place j]? ≠ some j := fun z => by
      unfold SetTable.slot at he
      simp only [z, beq_self_eq_true, if_true] at he
      cases he
    generalize SetTable.below t.place j = k at b hne
    have e : (SetTable.insertAt t.place k j).toList = t.place.toList.take k ++ (j :: t.place.toList.drop k) := by
      unfold SetTable.insertAt
      simp [List.append_assoc]
      exact List.take_of_length_le (by simp)
    rw [e]
    have hat : ∀ i (hi : i < t.place.size), t.place.getD i 0 = t.place.toList[i]'(by simpa using hi) := fun i hi => by simp [Array.getD, hi]
    refine List.pairwise_append.mpr ⟨h.1.sublist (List.take_sublist _ _), List.pairwise_cons.mpr ⟨fun x hx => ?_, h.1.sublist (List.drop_sublist _ _)⟩, fun x hx y hy => ?_⟩
    · obtain ⟨i, hi, rfl⟩ := List.mem_iff_getElem.mp hx
      rw [List.getElem_drop]
      rw [List.length_drop, Array.length_toList] at hi
      have h1 := b.hi (k + i) (by omega) (by omega)
      rw [hat _ (by omega)] at h1
      by_cases hz : i = 0
      · subst hz
        have : t.place.toList[k + 0]'(by simp; omega) ≠ j := fun z => hne (by
          rw [Array.getElem?_eq_getElem (by omega)]
          simpa using z)
        omega
      · have h2 := List.pairwise_iff_getElem.mp h.1 k (k + i) (by simp; omega) (by simp; omega) (by omega)
        have h3 := b.hi k (Nat.le_refl _) (by omega)
        rw [hat _ (by omega)] at h3
        omega
    · have hxj : x < j := by
        obtain ⟨i, hi, rfl⟩ := List.mem_iff_getElem.mp hx
        rw [List.getElem_take]
        rw [List.length_take, Array.length_toList] at hi
        have h1 := b.lo i (by omega)
        rw [hat _ (by omega)] at h1
        exact h1
      rcases List.mem_cons.mp hy with rfl | hy
      · exact hxj
      · obtain ⟨i, hi, rfl⟩ := List.mem_iff_getElem.mp hy
        rw [List.getElem_drop]
        rw [List.length_drop, Array.length_toList] at hi
        have h1 := b.hi (k + i) (by omega) (by omega)
        rw [hat _ (by omega)] at h1
        omega
  · show (if SetTable.has t.dummies j then _ else t.dummies) = #[]
    rw [h.2]
    rfl
theorem advance_dummy (t : SetTable) (p : SetTable.Probe) : (t.advance p).dummy = p.dummy := by
  unfold SetTable.advance
  split <;> rfl
theorem probe_go {t : SetTable} {f : Nat → Int} {h : Int} (hd : t.dummies = #[]) : ∀ (fuel : Nat) (p : SetTable.Probe) {j : Nat} {d : Option Nat}, p.dummy = none → SetTable.probe.go t f h fuel p = some (.empty j d) → d = none ∧ t.slot j = .empty
  | 0, p, j, d, _, e => by cases e
  | fuel + 1, p, j, d, hp, e => by
    have e' : (match t.slot p.j with
      | .empty => some (SetTable.Met.empty p.j p.dummy)
      | .dummy => SetTable.probe.go t f h fuel (t.advance { p with dummy := some p.j })
      | .live i => if f i == h then some (.candidate p.j i (t.advance p)) else SetTable.probe.go t f h fuel (t.advance p)) = some (.empty j d) := e
    cases hs : t.slot p.j with
    | empty =>
      rw [hs] at e'
      simp only [Option.some.injEq, SetTable.Met.empty.injEq] at e'
      obtain ⟨rfl, rfl⟩ := e'
      exact ⟨hp, hs⟩
    | dummy =>
      exfalso
      unfold SetTable.slot SetTable.has at hs
      rw [hd] at hs
      simp only at hs
      split at hs
      · cases hs
      · simp at hs
    | live i =>
      rw [hs] at e'
      simp only at e'
      split at e'
      · cases e'
      · exact probe_go hd fuel _ (by rw [advance_dummy]; exact hp) e'
theorem ris_lay {t : SetTable} (h : Ris t) (es : Array (Int × Value)) (hh : Int) (x : Value) : Ris (layNew t es hh x).2.1 := by
  unfold layNew
  split
  · next slot wd e =>
    have hs : t.slot slot = .empty := by
      unfold SetTable.freeSlot at e
      split at e
      · next j d e' =>
        obtain ⟨rfl, hs⟩ := probe_go h.2 _ _ rfl (show SetTable.probe.go t _ hh _ _ = _ from e')
        simp only [Option.getD_none, Option.isSome_none, Option.some.injEq, Prod.mk.injEq] at e
        rw [← e.1]
        exact hs
      · cases e
    have hp := ris_put h hs
    dsimp only
    unfold SetTable.orStandIn
    split
    · exact hp
    · exact ris_stand _ _
  · exact ris_stand _ _
theorem ris_relay (t : SetTable) (es : Array (Int × Value)) (n : Nat) : Ris (relayAll t es n).2.1 := by
  unfold relayAll
  split
  · next t' order he =>
    dsimp only
    split
    · unfold SetTable.relaid SetTable.laid at he
      simp only [Option.bind_eq_bind, Option.pure_def, Option.bind_eq_some_iff, Option.some.injEq] at he
      obtain ⟨ow, _, he⟩ := he
      have := congrArg Prod.fst he
      dsimp only at this
      rw [← this]
      refine ⟨?_, rfl⟩
      simp only [List.map_filterMap]
      rw [List.pairwise_filterMap]
      refine List.pairwise_lt_range.imp fun {a b} hab x hx y hy => ?_
      simp only [Option.map_map, Option.map_eq_some_iff, Function.comp] at hx hy
      obtain ⟨_, _, rfl⟩ := hx
      obtain ⟨_, _, rfl⟩ := hy
      exact hab
    · exact ris_stand _ _
  · exact ris_stand _ _
end L2
namespace L2
open PySem PySem.Spec PyProof.Rows
section
variable {prog : Program} {w : World}
structure SInt (prog : Program) (w : World) (h : Heap) (a : Addr) (es : Array (Int × Value)) : Prop where
  ex : ∃ o ep t, h.get? a = some o ∧ o.ExactSet ∧ o.data = .set es ep t ∧ t.fits es.size = true ∧ t.led = !w.params.followText "set-order" ∧ Ris t
  el : ElemsOf (intKind prog w) es.toList
  lt : es.size < scanBound
theorem SInt.store {h : Heap} {a : Addr} {o : Obj} {es es' : Array (Int × Value)} {ep : Nat} {t t' : SetTable} (ho : h.get? a = some o) (hx : o.ExactSet) (hd : o.data = .set es ep t) (hf : t'.fits es'.size = true) (hl : t'.led = !w.params.followText "set-order") (hp : Ris t') (el : ElemsOf (intKind prog w) es'.toList) (lt : es'.size < scanBound) :
    (h.update a (Obj.putSet es' t')).get? a = some { o with data := .set es' (ep + 1) t' } ∧ SInt prog w (h.update a (Obj.putSet es' t')) a es' := by
  have e : (h.update a (Obj.putSet es' t')).get? a = some { o with data := .set es' (ep + 1) t' } := by
    rw [← putSet_of es' t' hd]
    exact Heap.get?_update_self (Obj.putSet es' t') ho (by rw [putSet_of es' t' hd]; rfl)
  exact ⟨e, ⟨_, ep + 1, t', e, hx, rfl, hf, hl, hp⟩, el, lt⟩
def GrewI (w : World) (es es' : Array (Int × Value)) (k : Int) : Prop := (es' = es ∧ ∃ e ∈ es.toList, e.2.isInt k = true) ∨ ((∀ e ∈ es.toList, e.2.isInt k = false) ∧ ∃ u, es'.toList.Perm (es.toList ++ [(hashInt k, .int k u)]))
variable {A : Around} {E : Value → Shared → Prop} {s : Shared}
theorem SInt.add {a : Addr} {es : Array (Int × Value)} {k : Int} {u : Tok} {Q : Bool → Shared → Prop} (hS : SInt prog w s.heap a es) (room : es.size + 1 < scanBound)
    (h : ∀ b h' es', Heap.SameBut a s.heap h' → SInt prog w h' a es' → GrewI w es es' k → Q b { s with heap := h', toks := s.toks + 1 }) : wpAny (model prog w) A (setAdd a (.int k u)) Q E s := by
  obtain ⟨⟨o, ep, t, ho, hx, hd, hf, hl, hp⟩, hel, hlt⟩ := hS
  have hk : (intKind prog w).is k (.int k u) = true := by simp [PySem.intKind, Value.isInt]
  have hsc : (Value.int k u).scannable = true := rfl
  unfold setAdd setAddHashed setAddHashedIn
  refine wpAny_holding (wpAny_bind ((intKind prog w).pyHash hk ?_))
  refine wpAny_holding (wpAny_bind (wpAny_setState_of (s := { s with toks := s.toks + 1 }) ho hd hf ?_))
  dsimp only
  rw [byScan_of hsc hlt hel]
  simp only [↓reduceIte]
  unfold setAddByScan
  refine wpAny_bind (wpAny_bind (wpAny_rule (wpAny_bind (wpAny_setScan_of (s := { s with toks := s.toks + 1 }) hk ho hd hf hel ?_))))
  cases hr : List.findIdx? (fun e => (intKind prog w).is k e.2) es.toList with
  | some j =>
    dsimp only
    obtain ⟨hj, hpj, _⟩ := List.findIdx?_eq_some_iff_getElem.mp hr
    exact wpAny_pure (wpAny_pure (h _ s.heap es (Heap.SameBut.refl a s.heap) ⟨⟨o, ep, t, ho, hx, hd, hf, hl, hp⟩, hel, hlt⟩ (.inl ⟨rfl, _, List.getElem_mem hj, hpj⟩)))
  | none =>
    dsimp only
    have hno : ∀ e ∈ es.toList, e.2.isInt k = false := fun e he => by
      have := List.findIdx?_eq_none_iff.mp hr e he
      exact this
    have hgw : ∀ (b : Bool) {s₁ : Shared} {Q' : Unit → Shared → Prop}, Q' () s₁ → wpAny (model prog w) A (match b with | true => rule "set.scan.the-table-gave-way" | false => pure ()) Q' E s₁ := fun b s₁ Q' hq => by
      cases b
      · exact wpAny_pure hq
      · exact wpAny_rule hq
    have p1 := layNew_perm t es ((intKind prog w).hash k) (.int k u)
    have q1 := layNew_fits t es ((intKind prog w).hash k) (.int k u)
    have z1 := ris_lay hp es ((intKind prog w).hash k) (.int k u)
    have r1 := lay_led t es ((intKind prog w).hash k) (.int k u)
    generalize layNew t es ((intKind prog w).hash k) (.int k u) = L at p1 q1 r1 z1 ⊢
    obtain ⟨es1, t1, wd, gv⟩ := L
    dsimp only at p1 q1 r1 z1 ⊢
    rw [Array.toList_push] at p1
    have el1 : ElemsOf (intKind prog w) es1.toList := (hel.push hk hsc).perm p1
    have sz1 : es1.size = es.size + 1 := by rw [← Array.length_toList, p1.length_eq]; simp
    refine wpAny_bind (hgw _ ?_)
    have fin : ∀ t2 : SetTable, t2.fits es1.size = true → t2.led = t.led → Ris t2 → wpAny (model prog w) A (do
        storeSet a es1 t2
        if (!wd && t2.tooFull) = true then do
            (match (relayAll t2 es1 (SetTable.grown es1.size)).2.2 with | true => rule "set.scan.the-table-gave-way" | false => pure ())
            storeSet a (relayAll t2 es1 (SetTable.grown es1.size)).1 (relayAll t2 es1 (SetTable.grown es1.size)).2.1
            pure (some true)
          else pure (some true)) (fun r s₁ => wpAny (model prog w) A (match r with | some added => pure added | none => setAddHashedIn a (.int k u) ((intKind prog w).hash k) 99999) Q E s₁) E { s with toks := s.toks + 1 } := by
      intro t2 f2 l2 pl2
      obtain ⟨o1, S1⟩ := SInt.store (prog := prog) (w := w) (es' := es1) (t' := t2) ho hx hd f2 (l2.trans hl) pl2 el1 (by omega)
      have b1 := Heap.SameBut.update s.heap a (Obj.putSet es1 t2)
      refine wpAny_bind (wpAny_storeSet_of (s := { s with toks := s.toks + 1 }) ho hd ?_ (fits_of_scanBound (by omega)))
      split
      · have p2 := relayAll_perm t2 es1 (SetTable.grown es1.size)
        have q2 := relayAll_fits t2 es1 (SetTable.grown es1.size)
        have z2 := ris_relay t2 es1 (SetTable.grown es1.size)
        have r2 := relay_led t2 es1 (SetTable.grown es1.size)
        generalize relayAll t2 es1 (SetTable.grown es1.size) = R at p2 q2 r2 z2 ⊢
        obtain ⟨es2, t3, gv2⟩ := R
        dsimp only at p2 q2 r2 z2 ⊢
        have sz2 : es2.size = es1.size := by rw [← Array.length_toList, p2.length_eq, Array.length_toList]
        refine wpAny_bind (hgw _ ?_)
        obtain ⟨_, S2⟩ := SInt.store (prog := prog) (w := w) (es' := es2) (t' := t3) o1 hx rfl q2 (r2.1.trans (l2.trans hl)) z2 (el1.perm p2) (by omega)
        refine wpAny_bind (wpAny_storeSet_of o1 rfl ?_ (fits_of_scanBound (by omega)))
        exact wpAny_pure (wpAny_pure (h _ _ es2 (b1.trans (Heap.SameBut.update _ a _)) S2 (.inr ⟨hno, u, p2.trans p1⟩)))
      · exact wpAny_pure (wpAny_pure (h _ _ es1 b1 S1 (.inr ⟨hno, u, p1⟩)))
    split
    · refine wpAny_bind ?_
      rw [hashByValue_scannable 8 hsc]
      refine wpAny_pure ?_
      exact fin _ q1 r1.1 z1
    · refine wpAny_bind (wpAny_pure ?_)
      simp only [↓reduceIte]
      exact fin t1 q1 r1.1 z1
end
def metI (ks : List Int) (k : Int) : List Int := if k ∈ ks then ks else ks ++ [k]
def firstI (val : Nat → Int) (i : Nat) : List Int := ((List.range i).map val).foldl metI []
theorem firstI_succ (val : Nat → Int) (i : Nat) : firstI val (i + 1) = metI (firstI val i) (val i) := by
  unfold firstI
  rw [List.range_succ, List.map_append, List.foldl_append]
  rfl
theorem metI_mem {ks : List Int} {k x : Int} : x ∈ metI ks k ↔ x ∈ ks ∨ x = k := by
  unfold metI
  split
  · constructor
    · exact .inl
    · rintro (h | rfl)
      · exact h
      · assumption
  · simp
theorem firstI_mem (val : Nat → Int) (x : Int) : ∀ i, x ∈ firstI val i ↔ ∃ j, j < i ∧ val j = x
  | 0 => by simp [firstI]
  | i + 1 => by
    rw [firstI_succ, metI_mem, firstI_mem val x i]
    constructor
    · rintro (⟨j, h, e⟩ | rfl)
      · exact ⟨j, by omega, e⟩
      · exact ⟨i, by omega, rfl⟩
    · rintro ⟨j, h, e⟩
      by_cases hj : j = i
      · subst hj; exact .inr e.symm
      · exact .inl ⟨j, by omega, e⟩
theorem metI_len (ks : List Int) (k : Int) : (metI ks k).length ≤ ks.length + 1 := by
  unfold metI
  split <;> simp
theorem firstI_len (val : Nat → Int) : ∀ i, (firstI val i).length ≤ i
  | 0 => by simp [firstI]
  | i + 1 => by
    rw [firstI_succ]
    have h1 := metI_len (firstI val i) (val i)
    have h2 := firstI_len val i
    omega
def entI (w : World) (x : Int × Tok) : Int × Value := (hashInt x.1, .int x.1 x.2)
def KiOf (w : World) (es : Array (Int × Value)) (ks : List Int) : Prop := ks.Nodup ∧ ∃ l : List (Int × Tok), l.map (·.1) = ks ∧ es.toList.Perm (l.map (entI w))
theorem KiOf.len {w : World} {es : Array (Int × Value)} {ks : List Int} (h : KiOf w es ks) : es.size = ks.length := by
  obtain ⟨_, l, rfl, p⟩ := h
  rw [← Array.length_toList, p.length_eq]
  simp
theorem KiOf.grew {w : World} {es es' : Array (Int × Value)} {ks : List Int} {k : Int} (h : KiOf w es ks) (g : GrewI w es es' k) : KiOf w es' (metI ks k) := by
  obtain ⟨nd, l, rfl, p⟩ := h
  have hm : k ∈ l.map (·.1) ↔ ∃ e ∈ es.toList, e.2.isInt k = true := by
    constructor
    · intro hk
      obtain ⟨x, hx, rfl⟩ := List.mem_map.mp hk
      exact ⟨entI w x, p.mem_iff.mpr (List.mem_map_of_mem hx), by simp [entI, Value.isInt]⟩
    · rintro ⟨e, he, hi⟩
      obtain ⟨x, hx, rfl⟩ := List.mem_map.mp (p.mem_iff.mp he)
      have : x.1 = k := by
        have := Value.isInt_shape hi
        obtain ⟨t, e⟩ := this
        simp only [entI, Value.int.injEq] at e
        exact e.1
      rw [← this]
      exact List.mem_map_of_mem hx
  rcases g with ⟨rfl, hx⟩ | ⟨hno, u, pp⟩
  · unfold metI
    rw [if_pos (hm.mpr hx)]
    exact ⟨nd, l, rfl, p⟩
  · have hk : k ∉ l.map (·.1) := fun z => by
      obtain ⟨e, he, hi⟩ := hm.mp z
      rw [hno e he] at hi
      cases hi
    unfold metI
    rw [if_neg hk]
    refine ⟨?_, l ++ [(k, u)], by simp, ?_⟩
    · refine List.nodup_append.mpr ⟨nd, by simp, fun a ha b hb z => ?_⟩
      rw [List.mem_singleton.mp hb] at z
      exact hk (z ▸ ha)
    · refine pp.trans ?_
      rw [List.map_append]
      exact List.Perm.append p (List.Perm.refl _)
section
variable {prog : Program} {w : World} {A : Around} {R : Result → Shared → Prop} {I : Addr} {fp wr : List Addr} {G : Array GenState → Array GenState → Prop} {n : Nat} {P : Nat → Value → Prop} {St : Nat → Shared → Prop}
theorem SInt.moved {h h' : Heap} {a : Addr} {es : Array (Int × Value)} (x : SInt prog w h a es) (k : ∀ o, h.get? a = some o → h'.get? a = some o) : SInt prog w h' a es := by
  obtain ⟨⟨o, ep, t, ho, r⟩, el, lt⟩ := x
  exact ⟨⟨o, ep, t, k _ ho, r⟩, el, lt⟩
theorem set_loopI (W : WalksS prog w A.in1 I fp wr G n P St) (S : Addr) (hSf : S ∉ fp) (val : Nat → Int) (hval : ∀ i v, P i v → ∃ t, v = .int (val i) t) (hb : n + 1 < scanBound) :
    ∀ (k i : Nat) (s : Shared) (es : Array (Int × Value)), n - i = k → i ≤ n → St i s → SInt prog w s.heap S es → KiOf w es (firstI val i) →
      (∀ s' es', Moved (S :: wr) G s s' → SInt prog w s'.heap S es' → KiOf w es' (firstI val n) → R (.ok (.ret .none)) s') →
      codeAny (model prog w) A (.builtin "set.update.loop" ⟨[.ref S, .ref I], []⟩) R s := by
  have hw : S ∉ wr := fun z => hSf (W.sub _ z)
  have hs : ∀ b ∈ wr, b ∈ S :: wr := fun b z => List.mem_cons_of_mem _ z
  intro k
  induction k with
  | zero =>
    intro i s es hk hi st hS hK q
    have e : i = n := by omega
    subst e
    refine codeAny_builtin F.entry_set_update_loop ?_
    rw [Around.under_plainId F.plain_set_update_loop _]
    show wpAny _ A.in1 (pyNext (.ref I) >>= _) _ _ s
    refine wpAny_bind (W.done s _ _ st fun s' hm => ?_)
    show wpAny _ A.in1 (ret Value.none) _ _ s'
    exact wpAny_pure (q s' es (hm.mono hs) (hS.moved fun o e => hm.heap S _ hw e) hK)
  | succ k ih =>
    intro i s es hk hi st hS hK q
    have lt : i < n := by omega
    refine codeAny_builtin F.entry_set_update_loop ?_
    rw [Around.under_plainId F.plain_set_update_loop _]
    show wpAny _ A.in1 (pyNext (.ref I) >>= _) _ _ s
    refine wpAny_bind (W.item i s _ _ lt st fun v s' hP st' hm => ?_)
    obtain ⟨u, rfl⟩ := hval i v hP
    have hS' : SInt prog w s'.heap S es := hS.moved fun o e => hm.heap S _ hw e
    show wpAny _ A.in1 (holding [Value.int (val i) u] (setAdd S (.int (val i) u)) >>= _) _ _ s'
    have l1 := firstI_len val i
    have l2 := hK.len
    refine wpAny_bind (wpAny_holding (SInt.add hS' (by omega) fun b h' es' sb hS2 g => ?_))
    refine wpAny_pure ⟨plainId_quiet F.plain_set_update_loop _, ih (i + 1) _ es' (by omega) lt (W.frame _ s' _ _ st' (Nat.le_succ _) fun b hb o e => ?_) hS2 (by rw [firstI_succ]; exact hK.grew g) fun s2 es2 m2 S2 K2 => ?_⟩
    · rw [sb.2 b (fun z : b = S => hSf (z ▸ hb))]
      exact e
    · refine q s2 es2 (Moved.trans W.gtrans ((hm.mono hs).then_heap (Nat.le_succ _) fun b o hb e => ?_) m2) S2 K2
      rw [sb.2 b (fun z : b = S => hb (by rw [z]; exact List.mem_cons_self))]
      exact e
end
end L2
namespace L2
open PySem PySem.Spec PyProof.Rows
section
variable {prog : Program} {w : World} {A : Around} {E : Value → Shared → Prop} {s : Shared}
theorem call_set_ints {l : Addr} {items : Array Value} {val : Nat → Int} {Q : Value → Shared → Prop} (hh : A.handled = none) (hl : s.heap.IsList l items) (hi : ∀ (i : Nat) (v : Value), items[i]? = some v → ∃ t, v = .int (val i) t) (hb : items.size + 1 < scanBound)
    (h : ∀ (h' : Heap) (tk : Nat) (es : Array (Int × Value)), SInt prog w h' s.heap.objs.size es → KiOf w es (firstI val items.size) → (∀ b o, b < s.heap.objs.size → s.heap.get? b = some o → h'.get? b = some o) → Q (.ref s.heap.objs.size) { s with heap := h', toks := tk }) :
    wpAny (model prog w) A (call (.type "set") [.ref l]) Q E s := by
  obtain ⟨c, tl, hmro⟩ := F.called_set.mro
  have hmade := F.called_set.made
  have hsub := F.called_set.sub
  refine wpAny_call (codeAny_of_tree ?_)
  show wpAny _ _ (callAny (.type "set") _) _ _ _
  refine wpAny_pure ⟨Code.quiet_builtin _ (by decide +kernel), codeAny_builtin F.entry_type_call ?_⟩
  rw [Around.under_plain (weight_type_call_type "set" [.ref l] []) rfl]
  have h1 := F.called_set.notType
  have h2 := F.called_set.canCreate
  have hct := F.typeCall_set_1 (.ref l)
  repeat (any_goals (first | assumption | wp_step))
  refine codeAny_mono (set_new1 (.ref l) (E := E) (Q1 := fun obj s1 => obj = .ref s.heap.objs.size ∧ s1 = { s with heap := s.heap.push (setObj w) }) ⟨rfl, rfl⟩) fun r s1 hr => ?_
  cases r with
  | error e => exact hr
  | ok fl =>
    cases fl with
    | ret obj =>
      obtain ⟨rfl, rfl⟩ := hr
      have hS : (s.heap.push (setObj w)).get? s.heap.objs.size = some (setObj w) := Heap.get?_push_size _ rfl
      have hT : Shared.TypeIs { s with heap := s.heap.push (setObj w) } (.ref s.heap.objs.size) "set" := ⟨_, hS, rfl⟩
      have hli := F.called_set.init.lookup
      have hbi := F.called_set.init.bind (.ref s.heap.objs.size)
      repeat (any_goals (first | assumption | wp_step))
      refine codeAny_mono (codeAny_call_builtin (R := wants (fun r s2 => r = .none ∧ ∃ h' tk es, s2 = { s with heap := h', toks := tk } ∧ SInt prog w h' s.heap.objs.size es ∧ KiOf w es (firstI val items.size) ∧
          (∀ b o, b < s.heap.objs.size → s.heap.get? b = some o → h'.get? b = some o)) E) F.called_set.init.plain F.entry_set_init (check_set_init_1 hT ?_)) fun r2 s2 hr2 => ?_
      · obtain ⟨ol, hol, hcl, nl, hdl⟩ := hl
        obtain ⟨ocls, odict, odata, oslots⟩ := ol
        simp only at hcl hdl
        subst hcl; subst hdl
        have hol' : (s.heap.push (setObj w)).get? l = some { cls := .type "list", dict := odict, data := .seq items nl, slots := oslots } := Heap.get?_push_of_some _ hol
        have hsls := F.sub_list_set
        have hslf := F.sub_list_frozenset
        have hne : (Value.type "list" == Value.type "dict") = false := by decide
        have hl1 : (s.heap.push (setObj w)).IsList l items := ⟨_, hol', rfl, nl, rfl⟩
        unfold Builtin.«set.__init__» noKeywords Builtin.Frozenset.updateFrom
        generalize hPI : pyIter = PI
        wp_walk
        subst hPI
        refine wpAny_pyIter_list hl1 (wpAny_bind (wpAny_runValue ?_))
        have hlS : l < s.heap.objs.size := Heap.lt_size hol
        have hh3 : A.in1.in1.in1.handled = none := by simp [hh]
        have hneI : l ≠ (s.heap.push (setObj w)).objs.size := by
          rw [Heap.size_push]; exact Nat.ne_of_lt (Nat.lt_succ_of_lt hlS)
        have hSf : s.heap.objs.size ∉ [(s.heap.push (setObj w)).objs.size, l] := by
          rw [Heap.size_push]
          simp only [List.mem_cons, List.not_mem_nil, or_false, not_or]
          exact ⟨Nat.ne_of_lt (Nat.lt_succ_self _), Nat.ne_of_gt hlS⟩
        have hget : ((s.heap.push (setObj w)).push { cls := .type "list_iterator", data := .fields #[.ref l, .int 0 0] }).get? s.heap.objs.size = some (setObj w) := Heap.get?_push_of_some _ hS
        refine set_loopI ((Walks.list hh3 _ l hneI items).toS) s.heap.objs.size hSf val hi hb (items.size - 0) 0 _ #[] (by omega) (Nat.zero_le _) ⟨⟨_, Heap.get?_push_size _ rfl, rfl, rfl⟩, (hl1.push _)⟩ ?hS0 ?hK0 ?hR
        case hS0 => exact ⟨⟨_, 0, _, hget, ⟨rfl, rfl, rfl⟩, rfl, rfl, rfl, ⟨List.Pairwise.nil, rfl⟩⟩, fun e he => by simp at he, by decide⟩
        case hK0 => exact ⟨by simp [firstI], [], by simp [firstI], by simp⟩
        case hR =>
          intro s' es' hm hS' hK'
          obtain ⟨h', g', d', tk', os'⟩ := s'
          have eg : g' = s.gens := hm.gens
          have ed : d' = s.drawn := hm.drawn
          have eo : os' = s.os := hm.os
          subst eg; subst ed; subst eo
          show wpAny _ _ _ _ _ _
          refine wpAny_pure ?_
          show wpAny _ _ (ret Value.none) _ _ _
          refine wpAny_pure ⟨rfl, h', tk', es', rfl, hS', hK', fun b o hb e => ?_⟩
          have hb1 : b ≠ s.heap.objs.size := Nat.ne_of_lt hb
          have hb2 : b ≠ (s.heap.push (setObj w)).objs.size := by
            rw [Heap.size_push]; exact Nat.ne_of_lt (Nat.lt_succ_of_lt hb)
          exact hm.heap b o (by simp only [List.mem_cons, List.not_mem_nil, or_false, not_or]; exact ⟨hb1, hb2⟩) (Heap.get?_push_of_some _ (Heap.get?_push_of_some _ e))
      · cases r2 with
        | error e => exact hr2
        | ok fl2 =>
          cases fl2 with
          | ret r =>
            obtain ⟨rfl, h', tk, es, rfl, hS', hK', hk'⟩ := hr2
            repeat (any_goals (first | assumption | wp_step))
            exact h _ _ _ hS' hK' hk'
          | _ => exact hr2.elim
    | _ => exact hr.elim
end
section
variable {prog : Program} {w : World} {A : Around} {E : Value → Shared → Prop} {s : Shared} {S it tp : Addr} {o : Obj} {es : Array (Int × Value)} {ep i : Nat} {t : SetTable} {first : Value}
theorem next_ledI {slot : Nat} {Q : Option (Value × Nat) → Shared → Prop} (ho : s.heap.get? S = some o) (hd : o.data = .set es ep t) (hf : t.fits es.size = true) (hb : w.params.followText "set-order" = false) (h1 : (!t.plain && decide (es.size > 1)) = false) (hl : t.led = true)
    (q : Q (match es[SetTable.below t.place slot]?, t.place[SetTable.below t.place slot]? with | some (_, x), some j => some (x, j + 1) | _, _ => none) s) : wpAny (model prog w) A (setNext S slot i ep) Q E s := by
  unfold setNext
  refine wpAny_bind (wpAny_setState_of ho hd hf ?_)
  dsimp only
  unfold setsByText
  refine wpAny_bind (wpAny_bind (wpAny_askSetting (wpAny_pure ?_)))
  rw [show (model prog w).w.params.followText "set-order" = false from hb]
  simp only [Bool.false_eq_true, if_false]
  refine wpAny_ite_split (fun z => ?_) fun _ => ?_
  · have z' : (!t.plain && decide (es.size > 1)) = true := z
    rw [h1] at z'
    cases z'
  show wpAny _ _ ((if (!t.led && !es.isEmpty) = true then unsupported "set:maker-not-led" else pure ()) >>= _) _ _ s
  rw [hl]
  simp only [Bool.not_true, Bool.false_and, Bool.false_eq_true, if_false]
  exact wpAny_bind (wpAny_pure (wpAny_pure q))
theorem walkI (hh : A.handled = none) (hn1 : S ≠ it) (hd : o.data = .set es ep t) (hf : t.fits es.size = true) (hb : w.params.followText "set-order" = false) (h1 : (!t.plain && decide (es.size > 1)) = false) (hl : t.led = true) (hr : Ris t) :
    Walks prog w A it [it, S, S] [it] es.size (fun i v => ∃ e, es.toList[i]? = some e ∧ v = e.2) (fun i h => h.get? it = some (itObj (rawInt ((if i = 0 then 0 else t.place.getD (i - 1) 0 + 1 : Nat) : Int)) S i es.size ep) ∧ h.get? S = some o) where
  sub := fun b hb => by simp at hb; simp [hb]
  frame := fun _ _ _ st hk => ⟨hk it (by simp) _ st.1, hk S (by simp) _ st.2⟩
  item := fun i s Q E hi st hQ => by
    have sz : t.place.size = es.size := by
      simp only [SetTable.fits, Bool.and_eq_true, beq_iff_eq] at hf
      exact hf.1
    have he : es[i]? = some (es[i]'hi) := Array.getElem?_eq_getElem _
    have hp : t.place[i]? = some (t.place.getD i 0) := by
      rw [Array.getElem?_eq_getElem (by omega)]
      simp [Array.getD, show i < t.place.size by omega]
    have hbl : SetTable.below t.place (if i = 0 then 0 else t.place.getD (i - 1) 0 + 1) = i := by
      by_cases h0 : i = 0
      · rw [if_pos h0, below_0 hr.1, h0]
      · rw [if_neg h0, below_step hr.1 (by omega)]
        omega
    refine nextN_item (slot := (if i = 0 then 0 else t.place.getD (i - 1) 0 + 1)) (nxt := t.place.getD i 0 + 1) (x := (es[i]'hi).2) st.1 st.2 hd hf (fun q' => next_ledI st.2 hd hf hb h1 hl (by rw [hbl, he, hp]; exact q')) fun h' h1' hs => hQ _ h' s.toks ⟨_, by rw [Array.getElem?_toList]; exact he, rfl⟩ ⟨by rw [if_neg (by omega)]; exact h1', hs.extBut _ _ hn1 st.2⟩ fun b o hb e => hs.extBut b o (fun z => hb (by simp [z])) e
  done := fun s Q E st hQ => by
    have sz : t.place.size = es.size := by
      simp only [SetTable.fits, Bool.and_eq_true, beq_iff_eq] at hf
      exact hf.1
    refine nextN_end hh st.1 st.2 hd hf (fun q' => next_ledI st.2 hd hf hb h1 hl ?_) fun h' he => hQ h' s.toks fun b o hb e => he b o (fun z => hb (by simp [z])) e
    have hbl : SetTable.below t.place (if es.size = 0 then 0 else t.place.getD (es.size - 1) 0 + 1) = es.size := by
      by_cases h0 : es.size = 0
      · rw [if_pos h0, below_0 hr.1, h0]
      · rw [if_neg h0, below_step hr.1 (by omega)]
        omega
    rw [hbl, Array.getElem?_eq_none (xs := es) (Nat.le_refl _)]
    exact q'
  self := fun _ _ _ _ st hQ => set_self st.1 hQ
end
section
variable {prog : Program} {w : World} {A : Around} {E : Value → Shared → Prop} {s : Shared} {S : Addr} {es : Array (Int × Value)}
theorem set_extendI {R : Result → Shared → Prop} {L : Addr} {c0 : Nat} {res : Value} (hh : A.handled = none) (hS : SInt prog w s.heap S es) (hne : L ≠ S) (hL : s.heap.get? L = some { cls := .type "list", data := .seq #[] c0 })
    (hR : ∀ h' tk d acc c', (∀ b o, b ≠ L → s.heap.get? b = some o → h'.get? b = some o) → h'.get? L = some { cls := .type "list", dict := none, data := .seq acc c', slots := #[] } → acc.toList.Perm (es.toList.map (·.2)) → R (.ok (.ret res)) { s with heap := h', toks := tk, drawn := d }) :
    wpAny (model prog w) A.in1 (Builtin.List.listExtendWith (.ref L) (.ref S) res)
      (fun fin s' => match fin with | .done f => R (.ok f) s' | .again c' => c'.quiet = true ∧ codeAny (model prog w) A c' R s') (fun e s' => R (.error e) s') s := by
  obtain ⟨⟨o, ep, t, ho, hx, hd, hf, hl, hp⟩, hel, hlt⟩ := hS
  have T : s.TypeIs (.ref S) "set" := ⟨o, ho, hx.1⟩
  have hn : es.size ≤ sizeLine := fits_of_scanBound hlt
  have lS := Heap.lt_size ho
  have lL := Heap.lt_size hL
  have hh1 : A.in1.handled = none := hh
  unfold Builtin.List.listExtendWith
  refine wpAny_bind (wpAny_typeOf (T := "set") T ?_)
  have h1 : Builtin.List.listSameRef (.ref L) (.ref S) = false := by simp [Builtin.List.listSameRef, hne]
  simp only [h1, show (Value.type "set" == Value.type "list") = false by decide, show (Value.type "set" == Value.type "tuple") = false by decide, Bool.or_false, Bool.false_eq_true, if_false]
  refine wpAny_bind (set_iter ho hx hd hf hlt (fun hD => ?_) (fun hD pl d pp => ?_))
  · have nf : L ∉ [s.heap.objs.size, S, S] := by
      simp only [List.mem_cons, List.not_mem_nil, or_false, not_or]
      exact ⟨Nat.ne_of_lt lL, hne, hne⟩
    have T1 : Shared.TypeIs { s with heap := s.heap.push (itObj (rawInt 0) S 0 es.size ep) } (.ref S) "set" := ⟨o, Heap.get?_push_of_some _ ho, hx.1⟩
    by_cases hb : w.params.followText "set-order" = true
    · refine ext_tail (walkT hh1 (Nat.ne_of_lt lS) hd hf hb) hn nf (by simp) T1 (by simp) ⟨Heap.get?_push_size _ rfl, Heap.get?_push_of_some _ ho⟩ (Heap.get?_push_of_some _ hL) fun h' tk acc c' hk hL' hit => ?_
      have pl := (pick_perm (w.params.setOrder S ep) es).length_eq
      refine hR h' tk s.drawn acc c' (fun b o hb e => hk b o hb (Nat.ne_of_lt (Heap.lt_size e)) (Heap.get?_push_of_some _ e)) hL' ?_
      rw [set_items hit (by simpa using pl)]
      exact (pick_perm _ _).map _
    · have hb' : w.params.followText "set-order" = false := by simpa using hb
      have h1' : (!t.plain && decide (es.size > 1)) = false := by
        unfold Drw at hD
        rw [hb'] at hD
        simpa using hD
      refine ext_tail (walkI hh1 (Nat.ne_of_lt lS) hd hf hb' h1' (by rw [hl, hb']; rfl) hp) hn nf (by simp) T1 (by simp) ⟨Heap.get?_push_size _ rfl, Heap.get?_push_of_some _ ho⟩ (Heap.get?_push_of_some _ hL) fun h' tk acc c' hk hL' hit => ?_
      refine hR h' tk s.drawn acc c' (fun b o hb e => hk b o hb (Nat.ne_of_lt (Heap.lt_size e)) (Heap.get?_push_of_some _ e)) hL' ?_
      rw [set_items hit (by simp)]
  · have gt : ∀ b : Addr, b < s.heap.objs.size → b ≠ (s.heap.push (plObj pl)).objs.size := fun b z => by
      rw [Heap.size_push]
      exact Nat.ne_of_lt (Nat.lt_succ_of_lt z)
    have gt2 : s.heap.objs.size ≠ (s.heap.push (plObj pl)).objs.size := by
      rw [Heap.size_push]
      exact Nat.ne_of_lt (Nat.lt_succ_self _)
    have nf : L ∉ [(s.heap.push (plObj pl)).objs.size, S, s.heap.objs.size] := by
      simp only [List.mem_cons, List.not_mem_nil, or_false, not_or]
      exact ⟨gt L lL, hne, Nat.ne_of_lt lL⟩
    have up : ∀ b ob, s.heap.get? b = some ob → ((s.heap.push (plObj pl)).push (itObj (.ref s.heap.objs.size) S 0 es.size ep)).get? b = some ob := fun b ob e => Heap.get?_push_of_some _ (Heap.get?_push_of_some _ e)
    refine ext_tail (s := { s with heap := (s.heap.push (plObj pl)).push (itObj (.ref s.heap.objs.size) S 0 es.size ep), drawn := d }) (walkD hh1 (gt S lS) gt2 hd hf pp) hn nf (by simp) ⟨o, up _ _ ho, hx.1⟩ (by simp) ⟨Heap.get?_push_size _ rfl, Heap.get?_push_of_some _ (Heap.get?_push_size _ rfl), up _ _ ho⟩ (up _ _ hL) fun h' tk acc c' hk hL' hit => ?_
    have ln : pl.length = es.size := by rw [pp.length_eq, List.length_range]
    refine hR h' tk d acc c' (fun b o hb e => hk b o hb (gt b (Heap.lt_size e)) (up _ _ e)) hL' ?_
    rw [set_items hit (by simpa using ln), ← range_getD es (0, .none)]
    exact (pp.map _).map _
end
end L2
namespace L2
open PySem PySem.Spec PyProof.Rows
def intsV (l : List Int) : List V := l.map V.int
section
variable {prog : Program} {w : World} {A : Around} {E : Value → Shared → Prop} {s : Shared} {S : Addr} {es : Array (Int × Value)}
theorem set_collectI {R : List Value → Shared → Prop} (hh : A.handled = none) (hS : SInt prog w s.heap S es)
    (h : ∀ (h' : Heap) (tk : Nat) (d : Drawn) (acc : Array Value), (∀ b o, s.heap.get? b = some o → h'.get? b = some o) → s.heap.objs.size < h'.objs.size → acc.toList.Perm (es.toList.map (·.2)) → R acc.toList { s with heap := h', toks := tk, drawn := d }) :
    wpAny (model prog w) A (collect (.ref S)) R E s := by
  obtain ⟨o, ep, t, ho, _⟩ := hS.ex
  have lS := Heap.lt_size ho
  unfold collect
  refine wpAny_bind (wpAny_runValue (codeAny_builtin entry_proto_collect' ?_))
  rw [Around.under_plainId PySem.F.plain_proto_collect _]
  show wpAny _ A.in1 (newList [] >>= fun l => again (.builtin "list.__iadd__" ⟨[l, .ref S], []⟩)) _ _ s
  refine wpAny_bind (wpAny_newObj_type (wpAny_pure ⟨plainId_quiet PySem.F.plain_list_iadd _, codeAny_builtin entry_list_iadd' ?_⟩))
  rw [Around.under_plainId PySem.F.plain_list_iadd _]
  have hL : (s.heap.push { cls := .type "list", data := .seq ([] : List Value).toArray }).get? s.heap.objs.size = some { cls := .type "list", data := .seq #[] } := Heap.get?_push_size _ rfl
  show wpAny _ A.in1 (Builtin.List.listExtendWith (.ref s.heap.objs.size) (.ref S) (.ref s.heap.objs.size)) _ _ _
  have key := set_extendI (A := A) (s := { s with heap := s.heap.push { cls := .type "list", data := .seq ([] : List Value).toArray } }) (L := s.heap.objs.size) (c0 := 0) (res := .ref s.heap.objs.size) (es := es) (S := S) (w := w) (prog := prog)
    (R := fun (q : Result) (s' : Shared) => ∃ (h' : Heap) (tk : Nat) (d : Drawn) (acc : Array Value) (c' : Nat), q = .ok (.ret (.ref s.heap.objs.size)) ∧ s' = { s with heap := h', toks := tk, drawn := d } ∧ (∀ b o, s.heap.get? b = some o → h'.get? b = some o) ∧ h'.get? s.heap.objs.size = some { cls := .type "list", dict := none, data := .seq acc c', slots := #[] } ∧ acc.toList.Perm (es.toList.map (·.2)))
    hh (hS.moved fun o e => Heap.get?_push_of_some _ e) (Nat.ne_of_gt lS) hL
    (fun h' tk d acc c' hk hL' hp => ⟨h', tk, d, acc, c', rfl, rfl, fun b o e => hk b o (Nat.ne_of_lt (Heap.lt_size e)) (Heap.get?_push_of_some _ e), hL', hp⟩)
  refine wpAny_mono key (fun fin s' x => ?_) fun e s' x => ?_
  · cases fin with
    | done f =>
      obtain ⟨h', tk, d, acc, c', e, rfl, hk, hL', hp⟩ := x
      cases e
      show wpAny _ A (load s.heap.objs.size >>= _) _ _ _
      exact wpAny_bind (wpAny_load hL' (wpAny_pure (h h' tk d acc hk (Heap.lt_size hL') hp)))
    | again c1 =>
      refine ⟨x.1, codeAny_mono x.2 fun q s2 y => ?_⟩
      obtain ⟨h', tk, d, acc, c', rfl, rfl, hk, hL', hp⟩ := y
      show wpAny _ A (load s.heap.objs.size >>= _) _ _ _
      exact wpAny_bind (wpAny_load hL' (wpAny_pure (h h' tk d acc hk (Heap.lt_size hL') hp)))
  · obtain ⟨_, _, _, _, _, e', _⟩ := x
    cases e'
theorem ints_ofL : ∀ {l : List (Int × Tok)} {vs : List Value}, vs = l.map (fun x => (entI w x).2) → IntsAre vs (l.map (·.1))
  | [], _, rfl => .nil
  | x :: l, _, rfl => .cons x.1 x.2 (ints_ofL rfl)
theorem set_sortedI {ks : List Int} {Q : Value → Shared → Prop} (hh : A.handled = none) (hS : SInt prog w s.heap S es) (hK : KiOf w es ks) (h64 : ks.length < 64)
    (h : ∀ (D : Addr) (h' : Heap) (tk : Nat) (d : Drawn) (vs : List Value) (ss : List Int) (e : Nat), (∀ b o, s.heap.get? b = some o → h'.get? b = some o) → s.heap.objs.size ≤ D → h'.get? D = some (seqObj "list" vs.toArray e) → IntsAre vs ss → ss.Perm ks → ss.Pairwise (· ≤ ·) → Q (.ref D) { s with heap := h', toks := tk, drawn := d }) :
    wpAny (model prog w) A (call (.builtin "sorted") [.ref S]) Q E s := by
  refine Calls.call_function_entry kind_sorted plain_sorted entry_sorted (args_sorted1 _) ?_
  unfold Builtin.«sorted»
  refine wpAny_bind (m := checkCount "sorted" 1 1 _) (wpAny_pure ?_)
  refine wpAny_bind (set_collectI hh hS fun h' tk d acc hk hsz hp => ?_)
  obtain ⟨nd, l, rfl, pp⟩ := hK
  have p2 : acc.toList.Perm (l.map fun x => (entI w x).2) := hp.trans (by have := pp.map (·.2); rw [List.map_map] at this; exact this)
  have ln : acc.toList.length = l.length := by rw [p2.length_eq, List.length_map]
  have hl64 : acc.toList.length < 64 := by rw [ln]; simpa using h64
  obtain ⟨l', p3, e3⟩ := perm_of_map p2 l rfl
  have hst := ints_ofL (w := w) e3
  refine wpAny_bind (wpAny_newList ?_ (by have : 64 ≤ sizeLine := le_line (by decide); omega))
  have hD : (h'.push (seqObj "list" acc.toList.toArray 0)).get? h'.objs.size = some (seqObj "list" acc.toList.toArray 0) := Heap.get?_push_size _ rfl
  show wpAny _ _ _ _ _ { s with heap := h'.push (seqObj "list" acc.toList.toArray 0), toks := tk, drawn := d }
  refine wpAny_bind (wpAny_holding (wpAny_call_entry PyProof.Rows.slot_list_sort ⟨_, hD, rfl⟩ PyProof.Rows.entry_list_sort (list_sort_tree hD hst hl64 fun out ss' b1 b2 b3 => ⟨_, rfl, ?_⟩) (args_list_sort _)))
  obtain ⟨e, he⟩ := sortedHeap_at (h := h'.push (seqObj "list" acc.toList.toArray 0)) (a := h'.objs.size) (vs := acc.toList) (out := out) (n := 0) hD
  have lt : ∀ b o, s.heap.get? b = some o → b < h'.objs.size := fun b o e => Heap.lt_size (hk b o e)
  refine wpAny_pure ⟨_, rfl, h h'.objs.size _ tk d out.toList ss' e (fun b o e => ?_) ?_ (by rw [Array.toArray_toList]; exact he) b1 (b2.trans (p3.map _)) b3⟩
  · have := lt b o e
    rw [sortedHeap_old (Nat.ne_of_lt this) (by rw [size_push']; exact Nat.lt_succ_of_lt this)]
    exact Heap.get?_push_of_some _ (hk b o e)
  · exact Nat.le_of_lt hsz
end
def setIφ (P : Program) (w : World) (p : Addr) (ks : List Int) : Heap → Prop := fun h => ∃ es, SInt P w h p es ∧ KiOf w es ks
def SetIAt (P : Program) (w : World) (H : Hp) (p : Addr) (ks : List Int) : Prop := H p = some (.ext (setIφ P w p ks))
def rSetI (K : PySem.W.Frag) (P : Program) (w : World) : List V → Hp → VK → Prop := fun vs H Q => ∃ a ss, vs = [V.ref a] ∧ SqL K H a (intsV ss) ∧ ss.length + 1 < 4096 ∧ ∀ p H' ks, H p = none → Same H H' → SetIAt P w H' p ks → ks.Nodup → (∀ x, x ∈ ks ↔ x ∈ ss) → Q (.ref p) H'
def rSortI (P : Program) (w : World) : List V → Hp → VK → Prop := fun vs H Q => ∃ p ks, vs = [V.ref p] ∧ SetIAt P w H p ks ∧ ks.length < 64 ∧ ∀ q out H', H q = none → Same H H' → H' q = some (.lst (intsV out)) → out.Perm ks → out.Pairwise (· ≤ ·) → Q (.ref q) H'
theorem vals_intsG : ∀ {ss : List Int} {us : List Value}, Vals (intsV ss) us → ∀ (i : Nat) (v : Value), us[i]? = some v → ∃ t, v = Value.int (ss.getD i 0) t
  | [], us, h, i, v, e => by
    cases h
    simp at e
  | x :: ss, us, h, i, v, e => by
    cases h with
    | cons h1 h2 =>
      obtain ⟨t, rfl⟩ := h1
      cases i with
      | zero =>
        simp at e
        exact ⟨t, by rw [← e]; rfl⟩
      | succ i => exact vals_intsG h2 i v (by simpa using e)
theorem ints_valsL : ∀ {vs : List Value} {ss : List Int}, IntsAre vs ss → Vals (intsV ss) vs
  | _, _, .nil => .nil
  | _, _, .cons y t h => .cons ⟨t, rfl⟩ (ints_valsL h)
theorem first_allI (ss : List Int) (x : Int) : x ∈ firstI (fun i => ss.getD i 0) ss.length ↔ x ∈ ss := by
  rw [firstI_mem]
  constructor
  · rintro ⟨j, hj, rfl⟩
    rw [List.getD_eq_getElem?_getD, List.getElem?_eq_getElem hj]
    exact List.getElem_mem hj
  · intro hx
    obtain ⟨j, hj, rfl⟩ := List.mem_iff_getElem.mp hx
    exact ⟨j, hj, by rw [List.getD_eq_getElem?_getD, List.getElem?_eq_getElem hj]; rfl⟩
theorem firstI_nd (val : Nat → Int) : ∀ i, (firstI val i).Nodup
  | 0 => by simp [firstI]
  | i + 1 => by
    rw [firstI_succ]
    unfold metI
    split
    · exact firstI_nd val i
    · next h =>
      refine List.nodup_append.mpr ⟨firstI_nd val i, by simp, fun a ha b hb z => ?_⟩
      rw [List.mem_singleton.mp hb] at z
      exact h (z ▸ ha)
section
variable {X : Cx} {P : Program} {w : World}
theorem cl_setI (K : PySem.W.Frag) (hP : X.prog = P) (hw : X.w = w) (hc : X.calm = true) (hK : X.K = K := by rfl) : CallR X (.type "set") (rSetI K P w) := by
  subst hP hw hK
  intro pins s σ H xs us Q I r h
  obtain ⟨a, ss, rfl, hS, hl, q⟩ := h
  cases r with
  | cons r1 r2 =>
  cases r2
  cases r1
  obtain ⟨its, v1, p1, z⟩ := I.list hS
  have hlen : its.length = ss.length := by
    have := v1.length
    simpa [intsV] using this.symm
  have hb : its.toArray.size + 1 < scanBound := by
    rw [List.size_toArray, hlen]
    exact hl
  refine call_set_ints (I.ok.hd hc) p1.isList (val := fun i => ss.getD i 0) (fun i v e => vals_intsG v1 i v (by rw [List.getElem?_toArray] at e; exact e)) hb fun h' tk es hs hk keep => ?_
  rw [List.size_toArray, hlen] at hk
  have kp : ∀ b u, s.heap.get? b = some u → h'.get? b = some u := fun b u e => keep b u (Heap.lt_size e) e
  have hp := I.hok.fresh (Nat.le_refl s.heap.objs.size)
  obtain ⟨o, ep, t, ho, _⟩ := hs.ex
  have I2 := I.laid (h' := h') (t' := tk) (a := s.heap.objs.size) (o := .ext (setIφ X.prog X.w s.heap.objs.size (firstI (fun i => ss.getD i 0) ss.length))) kp (Nat.le_refl _) ⟨⟨es, hs, hk⟩, ⟨o, ho⟩, fun h1 h2 ⟨es', a1, a2⟩ z => ⟨es', a1.moved z, a2⟩⟩
  exact ⟨.ref s.heap.objs.size, _, I2, rfl, q _ _ _ hp (Same.new hp) upd_same (firstI_nd _ _) (first_allI ss)⟩
theorem cl_sortI (hP : X.prog = P) (hw : X.w = w) (hc : X.calm = true) : CallR X (.builtin "sorted") (rSortI P w) := by
  subst hP hw
  intro pins s σ H xs us Q I r h
  obtain ⟨p, ks, rfl, hS, h64, q⟩ := h
  cases r with
  | cons r1 r2 =>
  cases r2
  cases r1
  obtain ⟨⟨es, hs, hk⟩, _⟩ := (show ObjOk X.prog X.w H s.heap p (.ext (setIφ X.prog X.w p ks)) from I.hok p _ hS)
  refine set_sortedI (I.ok.hd hc) hs hk h64 fun D h' tk d vs ss e kp hD hl hv pm so => ?_
  have hp := I.hok.fresh hD
  have ln : ss.length = ks.length := pm.length_eq
  have I2 := (I.drw d).laid (h' := h') (t' := tk) (a := D) (o := .lst (intsV ss)) kp hD ⟨by simp [intsV]; exact Nat.le_trans (by omega) (le_line (show 64 ≤ 1000000 by decide)), vs, e, ints_valsL hv, hl⟩
  exact ⟨.ref D, _, I2, rfl, q D ss _ hp (Same.new hp) upd_same pm so⟩
end
end L2
namespace L2
open PySem PySem.Spec PyProof.Rows
def rRstrip : V → List V → Hp → VK → Prop := fun x vs H Q => ∃ z y, x = .str z ∧ vs = [.str y] ∧ z.length ≤ sizeLine ∧ Q (.str (Txt.rstripChars z y)) H
def rSIndex : V → List V → Hp → VK → Prop := fun x vs H Q => ∃ z y i rest, x = .str z ∧ vs = [.str y] ∧ Builtin.Str.occurrences z y 0 z.length 1 = i :: rest ∧ Q (.int (i : Nat)) H
def rInsertN : V → List V → Hp → VK → Prop := fun x vs H Q => ∃ (l : Addr) (xs : List V) (y : V) (k : Nat) (kz : Int), kz = (k : Nat) ∧ x = .ref l ∧ vs = [.int kz, y] ∧ H l = some (.lst xs) ∧ k ≤ xs.length ∧ xs.length < 1000000 ∧ Q .non (upd H l (.lst (xs.take k ++ y :: xs.drop k)))
section
variable {X : Cx}
theorem mt_rstripC : MtR X "str.rstrip" rRstrip := by
  intro pins s σ H x vs v us Q I rx rv h
  obtain ⟨z, y, rfl, rfl, hz, q⟩ := h
  obtain ⟨t, rfl⟩ := rx
  obtain ⟨u, rfl, ru⟩ := rv.one
  obtain ⟨t', rfl⟩ := ru
  exact SC.rstripChars (fun t2 k => ⟨.str _, H, I.tok _, ⟨_, rfl⟩, q⟩) hz
theorem mt_sindex : MtR X "str.index" rSIndex := by
  intro pins s σ H x vs v us Q I rx rv h
  obtain ⟨z, y, i, rest, rfl, rfl, ho, q⟩ := h
  obtain ⟨t, rfl⟩ := rx
  obtain ⟨u, rfl, ru⟩ := rv.one
  obtain ⟨t', rfl⟩ := ru
  exact SC.index ho ⟨.int _, H, I.tok _, ⟨_, rfl⟩, q⟩
theorem mt_insertN : MtM X "list.insert" rInsertN := by
  intro pins s σ H x vs v us Q I rx rv h
  obtain ⟨l, xs, y, k, kz, hkz, rfl, rfl, hH, hk, hz, q⟩ := h
  cases rx
  cases rv with
  | cons r1 r2 =>
  cases r2 with
  | cons r2 r3 =>
  cases r3
  obtain ⟨t0, rfl⟩ := r1
  obtain ⟨z, its, n, r, hl, e⟩ := I.lstM hH
  have hlen : its.length = xs.length := r.length.symm
  have sl : (1000000 : Nat) ≤ sizeLine := le_line (Nat.le_refl _)
  have hkn : ¬ kz < 0 := by omega
  have hkt : kz.toNat = k := by omega
  have hfit : ¬ (!Builtin.List.listFitsIndex kz) = true := by
    have h1 : -(2 ^ 63 : Int) ≤ kz := by omega
    have h2 : kz < 2 ^ 63 := by omega
    simp only [Builtin.List.listFitsIndex, Bool.not_eq_true', Bool.not_eq_false, Bool.and_eq_true, decide_eq_true_iff]
    exact ⟨h1, h2⟩
  clear hkz
  refine call_meets F.slot_list_insert ⟨_, e, rfl⟩ F.entry_list_insert (F.args_list_insert_3 _ _ _) (PySem.AutoSeq1.list_insert_list_int_val_1 l its.toArray n kz t0 _ hfit (by rw [List.size_toArray]; omega)) ⟨e, ?_⟩
  refine ⟨.non, _, I.lset (its' := its.take k ++ _ :: its.drop k) hH e ?_ (Vals.append (Vals.take k r) (.cons r2 (Vals.drop k r))) ?_, rfl, q⟩
  · dsimp only
    rw [if_neg hkn, hkt, List.size_toArray, show min k its.length = k by omega]
    simp
    exact List.take_of_length_le (by simp)
  · simp
    omega
end
end L2
namespace L2
open PySem PySem.Spec PyProof.Rows
def PAt (H : Hp) (v : V) (p : List Pt) : Prop := (Tr.tup (p.map Pt.tr)).At H v []
def SAt (H : Hp) (v : V) (s : Stm) : Prop := ∃ fs, s.tr.At H v fs
def BAt (H : Hp) (v : V) (b : List Stm) : Prop := ∃ fs, (Tr.lst (Stm.trs b)).At H v fs
theorem PAt.same {H H' : Hp} {v : V} {p : List Pt} (h : PAt H v p) (s : Same H H') : PAt H' v p := tr_tups h s.tups
theorem SAt.same {H H' : Hp} {v : V} {x : Stm} (h : SAt H v x) (s : Same H H') : SAt H' v x := by
  obtain ⟨fs, h⟩ := h
  exact ⟨fs, h.mono (s.keep _)⟩
theorem BAt.same {H H' : Hp} {v : V} {b : List Stm} (h : BAt H v b) (s : Same H H') : BAt H' v b := by
  obtain ⟨fs, h⟩ := h
  exact ⟨fs, h.mono (s.keep _)⟩
theorem ats_each {H : Hp} {α : Type} {f : α → Tr} {R : V → α → Prop} (hR : ∀ v x fs, (f x).At H v fs → R v x) : ∀ {xs : List α} {ts : List Tr} {vs : List V} {fs : List Addr}, ts = xs.map f → Tr.Ats H ts vs fs → Each R vs xs
  | [], _, vs, fs, rfl, h => by
    simp only [List.map_nil, Tr.Ats] at h
    rw [h.1]
    exact Each.nil
  | x :: xs, _, vs, fs, rfl, h => by
    simp only [List.map_cons, Tr.Ats] at h
    obtain ⟨v, ws, f1, g1, rfl, _, h1, h2⟩ := h
    have := ats_each hR (xs := xs) rfl h2
    refine ⟨by simp [this.1], fun j a b e1 e2 => ?_⟩
    cases j with
    | zero =>
      simp at e1 e2
      subst e1 e2
      exact hR _ _ _ h1
    | succ j => exact this.2 j a b (by simpa using e1) (by simpa using e2)
theorem each_ats {H : Hp} {α : Type} {f : α → Tr} {R : V → α → Prop} (hR : ∀ v x, R v x → ∃ fs, (f x).At H v fs) : ∀ {xs : List α} {vs : List V}, Each R vs xs → ∃ fs, Tr.Ats H (xs.map f) vs fs
  | [], [], _ => ⟨[], by simp [Tr.Ats]⟩
  | x :: xs, v :: vs, h => by
    obtain ⟨f1, h1⟩ := hR v x (h.2 0 v x rfl rfl)
    obtain ⟨f2, h2⟩ := each_ats hR (xs := xs) (vs := vs) ⟨by simpa using h.1, fun j a b e1 e2 => h.2 (j + 1) a b (by simpa using e1) (by simpa using e2)⟩
    refine ⟨f1 ++ f2, ?_⟩
    simp only [List.map_cons, Tr.Ats]
    exact ⟨v, vs, f1, f2, rfl, rfl, h1, h2⟩
  | [], v :: vs, h => absurd h.1 (by simp)
  | x :: xs, [], h => absurd h.1 (by simp)
theorem trs_map : ∀ b : List Stm, Stm.trs b = b.map Stm.tr
  | [] => rfl
  | s :: r => by rw [Stm.trs, trs_map r]; rfl
theorem brs_map : ∀ b : List Br, Br.trs b = b.map Br.tr
  | [] => rfl
  | s :: r => by rw [Br.trs, brs_map r]; rfl
theorem bat_iff {H : Hp} {v : V} {b : List Stm} : BAt H v b ↔ ∃ l us, v = .ref l ∧ H l = some (.lst us) ∧ Each (SAt H) us b := by
  constructor
  · rintro ⟨fs, h⟩
    simp only [Tr.At] at h
    obtain ⟨l, us, gs, rfl, e, h, _⟩ := h
    exact ⟨l, us, rfl, e, ats_each (f := Stm.tr) (fun v x fs h => ⟨fs, h⟩) (trs_map b) h⟩
  · rintro ⟨l, us, rfl, e, h⟩
    obtain ⟨fs, h⟩ := each_ats (f := Stm.tr) (fun v x h => h) h
    refine ⟨l :: fs, ?_⟩
    simp only [Tr.At]
    exact ⟨l, us, fs, rfl, e, by rw [trs_map]; exact h, rfl⟩
def BrAt (H : Hp) (v : V) (x : Br) : Prop := match x with | .mk p b => ∃ q pv bv, v = .ref q ∧ H q = some (.tup [pv, bv]) ∧ PAt H pv p ∧ BAt H bv b
theorem pat_free {H : Hp} : ∀ {p : List Pt} {vs : List V} {fs : List Addr}, Tr.Ats H (p.map Pt.tr) vs fs → fs = []
  | [], vs, fs, h => by
    simp only [List.map_nil, Tr.Ats] at h
    exact h.2
  | x :: p, vs, fs, h => by
    simp only [List.map_cons, Tr.Ats] at h
    obtain ⟨v, ws, f, g, _, rfl, h1, h2⟩ := h
    rw [pat_free h2]
    cases x with
    | s z => simp only [Pt.tr, Tr.At] at h1; simp [h1.2]
    | i z => simp only [Pt.tr, Tr.At] at h1; simp [h1.2]
theorem bra_at {H : Hp} {v : V} {x : Br} {fs : List Addr} (h : x.tr.At H v fs) : BrAt H v x := by
  cases x with
  | mk p b =>
    simp only [Br.tr, Tr.At, Tr.Ats] at h
    obtain ⟨q, vs, rfl, e, v1, w1, f1, g1, rfl, rfl, ⟨a, us, rfl, e1, h1⟩, v2, w2, f2, g2, rfl, rfl, ⟨l, ws, gs, rfl, e2, h2, rfl⟩, rfl, rfl⟩ := h
    have := pat_free h1
    subst this
    refine ⟨q, _, _, rfl, e, ?_, ⟨l :: gs, ?_⟩⟩
    · unfold PAt
      simp only [Tr.At]
      exact ⟨a, us, rfl, e1, h1⟩
    · simp only [Tr.At]
      exact ⟨l, ws, gs, rfl, e2, h2, rfl⟩
theorem br_tr {H : Hp} {v : V} {x : Br} (h : BrAt H v x) : ∃ fs, x.tr.At H v fs := by
  cases x with
  | mk p b =>
    obtain ⟨q, pv, bv, rfl, e, h1, ⟨fs, h2⟩⟩ := h
    refine ⟨[] ++ (fs ++ []), ?_⟩
    simp only [Br.tr, Tr.At, Tr.Ats] at h2 ⊢
    exact ⟨q, _, rfl, e, pv, _, [], _, rfl, rfl, by unfold PAt at h1; simp only [Tr.At] at h1; exact h1, bv, _, fs, [], rfl, rfl, h2, rfl, rfl⟩
theorem sat_loop {H : Hp} {v : V} {b : List Stm} : SAt H v (.loop b) ↔ ∃ a u, v = .ref a ∧ H a = some (.tup [.str "loop", u]) ∧ BAt H u b := by
  constructor
  · rintro ⟨fs, h⟩
    simp only [Stm.tr, Tr.At, Tr.Ats] at h
    obtain ⟨a, vs, rfl, e, v1, w1, f1, g1, rfl, rfl, ⟨rfl, rfl⟩, v2, w2, f2, g2, rfl, rfl, h2, rfl, rfl⟩ := h
    exact ⟨a, v2, rfl, e, f2, by simp only [Tr.At]; exact h2⟩
  · rintro ⟨a, u, rfl, e, fs, h⟩
    refine ⟨[] ++ (fs ++ []), ?_⟩
    simp only [Stm.tr, Tr.At, Tr.Ats] at h ⊢
    exact ⟨a, _, rfl, e, _, _, [], _, rfl, rfl, ⟨rfl, rfl⟩, u, _, fs, [], rfl, rfl, h, rfl, rfl⟩
theorem sat_wait {H : Hp} {v : V} {n : Int} {bs : List Br} : SAt H v (.wait n bs) ↔ ∃ a l ws, v = .ref a ∧ H a = some (.tup [.str "wait", .int n, .ref l]) ∧ H l = some (.lst ws) ∧ Each (BrAt H) ws bs := by
  constructor
  · rintro ⟨fs, h⟩
    simp only [Stm.tr, Tr.At, Tr.Ats] at h
    obtain ⟨a, vs, rfl, e, v1, w1, f1, g1, rfl, rfl, ⟨rfl, rfl⟩, v2, w2, f2, g2, rfl, rfl, ⟨rfl, rfl⟩, v3, w3, f3, g3, rfl, rfl, ⟨l, ws, gs, rfl, e2, h2, _⟩, rfl, rfl⟩ := h
    exact ⟨a, l, ws, rfl, e, e2, ats_each (f := Br.tr) (fun v x fs h => bra_at h) (brs_map bs) h2⟩
  · rintro ⟨a, l, ws, rfl, e, e2, h⟩
    obtain ⟨gs, h⟩ := each_ats (f := Br.tr) (fun v x h => br_tr h) h
    refine ⟨[] ++ ([] ++ ((l :: gs) ++ [])), ?_⟩
    simp only [Stm.tr, Tr.At, Tr.Ats]
    exact ⟨a, _, rfl, e, _, _, [], _, rfl, rfl, ⟨rfl, rfl⟩, _, _, [], _, rfl, rfl, ⟨rfl, rfl⟩, _, _, l :: gs, [], rfl, rfl, ⟨l, ws, gs, rfl, e2, by rw [brs_map]; exact h, rfl⟩, rfl, rfl⟩
theorem sat_test {H : Hp} {v : V} {c : Cd} {x y : List Stm} (h : SAt H v (.test c x y)) : ∃ a u1 u2 u3, v = .ref a ∧ H a = some (.tup [.str "test", u1, u2, u3]) ∧ BAt H u2 x ∧ BAt H u3 y := by
  obtain ⟨fs, h⟩ := h
  simp only [Stm.tr, Tr.At, Tr.Ats] at h
  obtain ⟨a, vs, rfl, e, v1, w1, f1, g1, rfl, rfl, ⟨rfl, rfl⟩, v2, w2, f2, g2, rfl, rfl, _, v3, w3, f3, g3, rfl, rfl, h3, v4, w4, f4, g4, rfl, rfl, h4, rfl, rfl⟩ := h
  exact ⟨a, v2, v3, v4, rfl, e, ⟨f3, by simp only [Tr.At]; exact h3⟩, f4, by simp only [Tr.At]; exact h4⟩
theorem sat_plain {H : Hp} {v : V} {k : Str} {r : List Pt} (h : SAt H v (.plain (.s k :: r))) : ∃ a us, v = .ref a ∧ H a = some (.tup (.str k :: us)) := by
  obtain ⟨fs, h⟩ := h
  simp only [Stm.tr, List.map_cons, Tr.At, Tr.Ats, Pt.tr] at h
  obtain ⟨a, vs, rfl, e, v1, w1, f1, g1, rfl, _, ⟨rfl, _⟩, _⟩ := h
  exact ⟨a, w1, rfl, e⟩
def bodiesF : Stm → List (List Stm)
  | .loop b => [b]
  | .wait _ bs => bs.map fun | .mk _ b => b
  | .test _ a b => [a, b]
  | _ => []
def patsOf : Stm → List (List Pt)
  | .wait _ bs => bs.map fun | .mk p _ => p
  | _ => []
def Stm.pk : Stm → Prop
  | .plain ps => ∃ k r, ps = .s k :: r ∧ k ≠ Str.ofString "test" ∧ k ≠ Str.ofString "wait" ∧ k ≠ Str.ofString "loop"
  | .put _ _ => False
  | _ => True
mutual
def Stm.all : Stm → List Stm
  | .plain _ => []
  | .put _ _ => []
  | .loop b => Stm.alls b
  | .wait _ bs => Br.alls bs
  | .test _ a b => Stm.alls a ++ Stm.alls b
def Br.all : Br → List Stm
  | .mk _ b => Stm.alls b
def Stm.alls : List Stm → List Stm
  | [] => []
  | s :: r => s :: (s.all ++ Stm.alls r)
def Br.alls : List Br → List Stm
  | [] => []
  | x :: r => x.all ++ Br.alls r
end
mutual
def Stm.dp : Stm → Nat
  | .plain _ => 0
  | .put _ _ => 0
  | .loop b => Stm.dps b + 1
  | .wait _ bs => Br.dps bs + 1
  | .test _ a b => max (Stm.dps a) (Stm.dps b) + 1
def Br.dp : Br → Nat
  | .mk _ b => Stm.dps b
def Stm.dps : List Stm → Nat
  | [] => 0
  | s :: r => max s.dp (Stm.dps r)
def Br.dps : List Br → Nat
  | [] => 0
  | x :: r => max x.dp (Br.dps r)
end
theorem brs_alls : ∀ bs : List Br, Br.alls bs = ((bs.map fun | .mk _ b => b).map Stm.alls).flatten
  | [] => rfl
  | .mk p b :: r => by
    rw [Br.alls, brs_alls r]
    rfl
theorem all_bodies (s : Stm) : s.all = ((bodiesF s).map Stm.alls).flatten := by
  cases s with
  | plain ps => rfl
  | put n e => rfl
  | loop b => simp [Stm.all, bodiesF]
  | wait n bs => rw [Stm.all, brs_alls]; rfl
  | test c a b => simp [Stm.all, bodiesF]
theorem alls_app : ∀ (a b : List Stm), Stm.alls (a ++ b) = Stm.alls a ++ Stm.alls b
  | [], b => rfl
  | s :: r, b => by
    rw [List.cons_append, Stm.alls, Stm.alls, alls_app r b]
    simp
theorem dps_mem {b : List Stm} {s : Stm} (h : s ∈ b) : s.dp ≤ Stm.dps b := by
  induction b with
  | nil => cases h
  | cons x r ih =>
    rw [Stm.dps]
    rcases List.mem_cons.mp h with rfl | h
    · omega
    · have := ih h; omega
theorem brs_dps : ∀ {bs : List Br} {b : List Stm}, b ∈ (bs.map fun | .mk _ b => b) → Stm.dps b ≤ Br.dps bs
  | [], b, h => by cases h
  | .mk p x :: r, b, h => by
    rw [Br.dps, Br.dp]
    rcases List.mem_cons.mp h with h | h
    · have h : b = x := h
      rw [h]; omega
    · have := brs_dps (bs := r) h; omega
theorem dps_bodies {s : Stm} {b : List Stm} (h : b ∈ bodiesF s) : Stm.dps b < s.dp := by
  cases s with
  | plain ps => cases h
  | put n e => cases h
  | loop x => rw [List.mem_singleton.mp h, Stm.dp]; omega
  | wait n bs => have := brs_dps h; rw [Stm.dp]; omega
  | test c x y =>
    rw [Stm.dp]
    simp only [bodiesF, List.mem_cons, List.not_mem_nil, or_false] at h
    rcases h with rfl | rfl <;> omega
end L2
namespace L2
open PySem PySem.Spec PyProof.Rows
def rEqLK (K : PySem.W.Frag) : R2 := fun x y H Q => ∃ (ts : List Tr) (a b : Addr) (vs ws : List V), x = .ref a ∧ y = .ref b ∧ H a = some (.lst vs) ∧ H b = some (.lst ws) ∧ Tr.AtsK K H ts vs ∧ Tr.AtsK K H ts ws ∧ Tr.hs ts ≤ 20 ∧ Q (.bl true) H
def rNeLK (K : PySem.W.Frag) : R2 := fun x y H Q => ∃ (ts : List Tr) (a b : Addr) (vs ws : List V), x = .ref a ∧ y = .ref b ∧ H a = some (.lst vs) ∧ H b = some (.lst ws) ∧ Tr.AtsK K H ts vs ∧ Tr.AtsK K H ts ws ∧ Tr.hs ts ≤ 20 ∧ Q (.bl false) H
section
variable {X : Cx}
theorem kop_eqLK (K : PySem.W.Frag) (hu : X.A.units + 64 < cLine) (hK : X.K = K := by rfl) : OpR X (compareOp .Eq) (rEqLK K) := by
  subst hK
  intro pins s σ H x y v u Q I rx ry h
  obtain ⟨ts, a, b, vs, ws, rfl, rfl, e1, e2, c1, c2, hh, q⟩ := h
  cases rx
  cases ry
  obtain ⟨is1, q1, p1, _⟩ := I.list (SqL.of e1)
  obtain ⟨is2, q2, p2, _⟩ := I.list (SqL.of e2)
  have n1 := Tr.AtsK.isIns I c1 q1
  have n2 := Tr.AtsK.isIns I c2 q2
  have hl : is1.length = is2.length := by rw [n1.len, n2.len]
  have := SeqAt.RcAt.lists (A := X.A) (s := s) (e := fun _ => true) p1.isList p2.isList (by simpa using hl) (by omega) (fun j h1 h2 => by
    have := Tr.Ins.eqAts (A := X.A.in1) n1 n2 (by rw [in1_units]; omega) j (by simpa using h1) (by simpa using h2)
    simpa using this) X.prog X.w X.xe (EP X pins σ Q)
  refine this ⟨.bl true, H, I, ?_, q⟩
  rw [show ((List.range is1.toArray.size).all fun _ => true) = true by simp]
  rfl
theorem kop_neLK (K : PySem.W.Frag) (hu : X.A.units + 64 < cLine) (hK : X.K = K := by rfl) : OpR X (compareOp .NotEq) (rNeLK K) := by
  subst hK
  intro pins s σ H x y v u Q I rx ry h
  obtain ⟨ts, a, b, vs, ws, rfl, rfl, e1, e2, c1, c2, hh, q⟩ := h
  cases rx
  cases ry
  obtain ⟨is1, q1, p1, _⟩ := I.list (SqL.of e1)
  obtain ⟨is2, q2, p2, _⟩ := I.list (SqL.of e2)
  have n1 := Tr.AtsK.isIns I c1 q1
  have n2 := Tr.AtsK.isIns I c2 q2
  have hl : is1.length = is2.length := by rw [n1.len, n2.len]
  have := SeqAt.RcNeAt.lists (A := X.A) (s := s) (e := fun _ => true) p1.isList p2.isList (by simpa using hl) (by omega) (fun j h1 h2 => by
    have := Tr.Ins.eqAts (A := X.A.in1) n1 n2 (by rw [in1_units]; omega) j (by simpa using h1) (by simpa using h2)
    simpa using this) X.prog X.w X.xe (EP X pins σ Q)
  refine this ⟨.bl false, H, I, ?_, q⟩
  rw [show ((List.range is1.toArray.size).all fun _ => true) = true by simp]
  rfl
end
theorem sortedI_one : ∀ {a b : List Int}, a.Pairwise (· ≤ ·) → b.Pairwise (· ≤ ·) → a.Nodup → b.Nodup → (∀ x, x ∈ a ↔ x ∈ b) → a = b
  | [], [], _, _, _, _, _ => rfl
  | [], y :: b, _, _, _, _, h => absurd ((h y).mpr (by simp)) (by simp)
  | x :: a, [], _, _, _, _, h => absurd ((h x).mp (by simp)) (by simp)
  | x :: a, y :: b, s1, s2, n1, n2, h => by
    rw [List.pairwise_cons] at s1 s2
    rw [List.nodup_cons] at n1 n2
    have e : x = y := by
      rcases List.mem_cons.mp ((h x).mp (by simp)) with e | hx
      · exact e
      rcases List.mem_cons.mp ((h y).mpr (by simp)) with e | hy
      · exact e.symm
      have := s2.1 x hx
      have := s1.1 y hy
      omega
    subst e
    rw [sortedI_one s1.2 s2.2 n1.2 n2.2 fun z => ?_]
    constructor
    · intro hz
      rcases List.mem_cons.mp ((h z).mp (List.mem_cons_of_mem _ hz)) with e | hz'
      · exact absurd (e ▸ hz) n1.1
      · exact hz'
    · intro hz
      rcases List.mem_cons.mp ((h z).mpr (List.mem_cons_of_mem _ hz)) with e | hz'
      · exact absurd (e ▸ hz) n2.1
      · exact hz'
def keyP (k : Int) : List Pt := [.s "key", .i k]
def wordP (x : Str) : List Pt := [.s "word", .s x]
def keysOf (ps : List (List Pt)) : List Int := ps.filterMap fun | [.s k, .i n] => if k = Str.ofString "key" then some n else none | _ => none
def wordsOf (ps : List (List Pt)) : List Str := ps.filterMap fun | [.s k, .s n] => if k = Str.ofString "word" then some n else none | _ => none
def WW : List Str := ["a", "b", "c", "d", "e", "f", "g", "h", "i", "j", "k", "l", "m", "n", "o", "p", "q", "r", "s", "t", "u", "v", "w", "x", "y", "z", "aa", "ab", "ba", "yes", "no", "zz"]
inductive PatOk : List Pt → Prop
  | key (k : Int) (h0 : 0 ≤ k) (h1 : k < 10) : PatOk (keyP k)
  | word (x : Str) (h : x ∈ WW) : PatOk (wordP x)
  | other : PatOk [.s "other"]
  | non : PatOk [.s "none"]
theorem keysOf_mem {ps : List (List Pt)} {k : Int} : k ∈ keysOf ps ↔ keyP k ∈ ps := by
  unfold keysOf
  rw [List.mem_filterMap]
  constructor
  · rintro ⟨p, hp, e⟩
    split at e
    · next k' n =>
      split at e
      · next hk =>
        cases e
        subst hk
        exact hp
      · cases e
    · cases e
  · intro h
    exact ⟨_, h, by simp [keyP]⟩
theorem wordsOf_mem {ps : List (List Pt)} {k : Str} : k ∈ wordsOf ps ↔ wordP k ∈ ps := by
  unfold wordsOf
  rw [List.mem_filterMap]
  constructor
  · rintro ⟨p, hp, e⟩
    split at e
    · next k' n =>
      split at e
      · next hk =>
        cases e
        subst hk
        exact hp
      · cases e
    · cases e
  · intro h
    exact ⟨_, h, by simp [wordP]⟩
theorem few_words {ws : List Str} (hn : ws.Nodup) (h : ∀ x ∈ ws, x ∈ WW) : ws.length ≤ 32 := by
  have := pigeon 32 (ws.map fun x => WW.idxOf x) (List.pairwise_map.mpr (List.Pairwise.imp_of_mem (fun {a b} ha hb hne e => hne (by
    have e1 := List.getElem_idxOf (List.idxOf_lt_length_of_mem (h a ha))
    have e2 := List.getElem_idxOf (List.idxOf_lt_length_of_mem (h b hb))
    rw [← e1, ← e2]
    simp only [e])) hn)) (fun k hk => by
    obtain ⟨x, hx, rfl⟩ := List.mem_map.mp hk
    exact List.idxOf_lt_length_of_mem (h x hx))
  simpa using this
theorem few_keys {ks : List Int} (hn : ks.Nodup) (h : ∀ x ∈ ks, 0 ≤ x ∧ x < 10) : ks.length ≤ 10 := by
  have := pigeon 10 (ks.map fun x => x.toNat) (List.pairwise_map.mpr (List.Pairwise.imp_of_mem (fun {a b} ha hb hne e => hne (by
    have := h a ha
    have := h b hb
    omega)) hn)) (fun k hk => by
    obtain ⟨x, hx, rfl⟩ := List.mem_map.mp hk
    have := h x hx
    omega)
  simpa using this
end L2
local macro_rules | `(tactic| walk_at "side") => `(tactic| first | exact ⟨by decide, by decide, by decide⟩ | exact ⟨by decide, by decide⟩ | exact .inr (.inr ⟨by decide, by decide⟩) | exact .inr (.inl ⟨by decide, by decide⟩) | decide | omega | exact L2.le_line (by simp only [List.length_cons, List.length_nil]; omega))
local macro_rules | `(tactic| walk_at "step") => do
  let mut acc ← `(tactic| ((with_reducible refine L2.i_rgA ?k ?l ?_); (case k => walk_at "side"); (case l => walk_at "side")))
  for s in ("i_rI i_timesI i_seq i_asg i_c i_op i_un i_rU i_rI0 i_plusI i_eqI i_eqS i_test i_bl i_ifS i_ret i_next i_drop i_cons i_nil i_cb i_call i_lst i_tup i_not i_noIf i_and i_or i_andV i_for i_lc i_rng1 i_iList i_iStr i_rng i_ref i_sx i_bm i_bm0 i_tyS i_sl i_nopart i_part i_ix1 i_itT i_itF i_itnT i_truB i_gnil i_gcons i_tru i_min2 i_gsub i_tB i_din i_bget i_bsetd i_dk i_szA".splitOn " ").reverse do
    let n := Lean.mkIdent (Lean.Name.str `L2 s)
    if s == "i_rI" || s == "i_timesI" || s == "i_szA" then acc ← `(tactic| first | ((with_reducible refine $n ?k ?_); (case k => walk_at "side")) | $acc:tactic)
    else acc ← `(tactic| first | with_reducible refine $n ?_ | $acc:tactic)
  `(tactic| first | ((with_reducible refine L2.i_name ?_); dsimp only [List.set_cons_zero, List.set_cons_succ]) | ((with_reducible refine' L2.i_var ?k ?_); (case k => rfl)) | $acc:tactic)
local macro_rules | `(tactic| walk_at "run") => `(tactic| (repeat walk_at "step"))
local macro_rules | `(tactic| walk_at "go") => do
  let ids := (("L2.start List.map_cons List.map_nil List.length_cons List.length_nil List.replicate List.cons_append List.nil_append Nat.reduceSub Nat.reduceAdd L2.nox_K L2.wish_K L2.cxOf_K L2.cxC_K".splitOn " ").map fun s => Lean.mkIdent s.toName).toArray
  `(tactic| (simp only [$[$ids:term],*]; walk_at "run"))
namespace K63
open PySem L2
def top (i : Nat) : Stmt := PySem.Challenge.pw_callmill_k63_events_of_both.main.body.getD i (.Pass ⟨0, 0, 0, 0⟩)
abbrev s_bodies_of : Stmt := top 1
abbrev s_statements_in : Stmt := top 2
abbrev s_events_of_patterns : Stmt := top 7
abbrev s_patterns_of : Stmt := top 8
abbrev s_first_free_word : Stmt := top 9
abbrev s_word_behind : Stmt := top 10
abbrev s_both_events : Stmt := top 12
abbrev s_law_next : Stmt := top 14
abbrev s_law_deck : Stmt := top 15
abbrev s_law_letters : Stmt := top 16
abbrev s_law_words : Stmt := top 17
abbrev s_law_patterns : Stmt := top 18
abbrev s_law_parts : Stmt := top 19
abbrev s_law_script : Stmt := top 20
abbrev s_law_due : Stmt := top 21
abbrev s_law : Stmt := top 22
theorem sc_bodies_of : FnScope ["statement", "kind"] ["statement"] (defScope s_bodies_of) := ⟨rfl, rfl, rfl, by decide +kernel, rfl, by decide +kernel, by decide +kernel⟩
theorem sc_statements_in : FnScope ["body", "found", "statement", "inner"] ["body"] (defScope s_statements_in) := ⟨rfl, rfl, rfl, by decide +kernel, rfl, by decide +kernel, by decide +kernel⟩
theorem sc_events_of_patterns : FnScope ["patterns", "keys", "words"] ["patterns"] (defScope s_events_of_patterns) := ⟨rfl, rfl, rfl, by decide +kernel, rfl, by decide +kernel, by decide +kernel⟩
theorem sc_patterns_of : FnScope ["script", "found", "name", "body", "statement"] ["script"] (defScope s_patterns_of) := ⟨rfl, rfl, rfl, by decide +kernel, rfl, by decide +kernel, by decide +kernel⟩
theorem sc_first_free_word : FnScope ["words", "taken", "word"] ["words"] (defScope s_first_free_word) := ⟨rfl, rfl, rfl, by decide +kernel, rfl, by decide +kernel, by decide +kernel⟩
theorem sc_word_behind : FnScope ["word", "last", "stem", "letter"] ["word"] (defScope s_word_behind) := ⟨rfl, rfl, rfl, by decide +kernel, rfl, by decide +kernel, by decide +kernel⟩
theorem sc_both_events : FnScope ["one", "other"] ["one", "other"] (defScope s_both_events) := ⟨rfl, rfl, rfl, by decide +kernel, rfl, by decide +kernel, by decide +kernel⟩
theorem sc_law_next : FnScope ["deck", "at", "many", "cell", "j", "number"] ["deck"] (defScope s_law_next) := ⟨rfl, rfl, rfl, by decide +kernel, rfl, by decide +kernel, by decide +kernel⟩
theorem sc_law_deck : FnScope ["script"] ["script"] (defScope s_law_deck) := ⟨rfl, rfl, rfl, by decide +kernel, rfl, by decide +kernel, by decide +kernel⟩
theorem sc_law_letters : FnScope [] [] (defScope s_law_letters) := ⟨rfl, rfl, rfl, by decide +kernel, rfl, by decide +kernel, by decide +kernel⟩
theorem sc_law_words : FnScope ["deck", "letters", "many", "words", "some"] ["deck"] (defScope s_law_words) := ⟨rfl, rfl, rfl, by decide +kernel, rfl, by decide +kernel, by decide +kernel⟩
theorem sc_law_patterns : FnScope ["deck", "keys", "some", "found", "pattern"] ["deck"] (defScope s_law_patterns) := ⟨rfl, rfl, rfl, by decide +kernel, rfl, by decide +kernel, by decide +kernel⟩
theorem sc_law_parts : FnScope ["deck", "patterns", "at"] ["deck"] (defScope s_law_parts) := ⟨rfl, rfl, rfl, by decide +kernel, rfl, by decide +kernel, by decide +kernel⟩
theorem sc_law_script : FnScope ["deck", "parts", "inner", "truth", "some", "branches", "talks"] ["deck", "parts"] (defScope s_law_script) := ⟨rfl, rfl, rfl, by decide +kernel, rfl, by decide +kernel, by decide +kernel⟩
theorem sc_law_due : FnScope ["patterns", "keys", "rest", "words", "letters", "some", "one", "spare", "events"] ["patterns"] (defScope s_law_due) := ⟨rfl, rfl, rfl, by decide +kernel, rfl, by decide +kernel, by decide +kernel⟩
theorem sc_law : FnScope ["script", "deck", "mine", "theirs", "one", "other", "due", "kept", "found"] ["script"] (defScope s_law) := ⟨rfl, rfl, rfl, by decide +kernel, rfl, by decide +kernel, by decide +kernel⟩
set_option genInjectivity false in
structure Adr where
  a_bodies_of : Addr
  fd_bodies_of : FuncData
  a_statements_in : Addr
  fd_statements_in : FuncData
  a_events_of_patterns : Addr
  fd_events_of_patterns : FuncData
  a_patterns_of : Addr
  fd_patterns_of : FuncData
  a_first_free_word : Addr
  fd_first_free_word : FuncData
  a_word_behind : Addr
  fd_word_behind : FuncData
  a_both_events : Addr
  fd_both_events : FuncData
  a__law_next : Addr
  fd__law_next : FuncData
  a__law_deck : Addr
  fd__law_deck : FuncData
  a__law_letters : Addr
  fd__law_letters : FuncData
  a__law_words : Addr
  fd__law_words : FuncData
  a__law_patterns : Addr
  fd__law_patterns : FuncData
  a__law_parts : Addr
  fd__law_parts : FuncData
  a__law_script : Addr
  fd__law_script : FuncData
  a__law_due : Addr
  fd__law_due : FuncData
  a_law : Addr
  fd_law : FuncData
  u_LETTERS : Value
  u_QUIET : Value
  u_KEYS : Value
  ad_QUIET : Addr
structure Txt (K : PySem.W.Frag) (mg : Str → Option Value) (t : Adr) : Prop where
  F_bodies_of : Fun K "bodies_of" "bodies_of" s_bodies_of t.a_bodies_of t.fd_bodies_of
  m_bodies_of : mg "bodies_of" = some (.ref t.a_bodies_of)
  b_bodies_of : Binds K t.fd_bodies_of ["statement"] []
  F_statements_in : Fun K "statements_in" "statements_in" s_statements_in t.a_statements_in t.fd_statements_in
  m_statements_in : mg "statements_in" = some (.ref t.a_statements_in)
  b_statements_in : Binds K t.fd_statements_in ["body"] []
  F_events_of_patterns : Fun K "events_of_patterns" "events_of_patterns" s_events_of_patterns t.a_events_of_patterns t.fd_events_of_patterns
  m_events_of_patterns : mg "events_of_patterns" = some (.ref t.a_events_of_patterns)
  b_events_of_patterns : Binds K t.fd_events_of_patterns ["patterns"] []
  F_patterns_of : Fun K "patterns_of" "patterns_of" s_patterns_of t.a_patterns_of t.fd_patterns_of
  m_patterns_of : mg "patterns_of" = some (.ref t.a_patterns_of)
  b_patterns_of : Binds K t.fd_patterns_of ["script"] []
  F_first_free_word : Fun K "first_free_word" "first_free_word" s_first_free_word t.a_first_free_word t.fd_first_free_word
  m_first_free_word : mg "first_free_word" = some (.ref t.a_first_free_word)
  b_first_free_word : Binds K t.fd_first_free_word ["words"] []
  F_word_behind : Fun K "word_behind" "word_behind" s_word_behind t.a_word_behind t.fd_word_behind
  m_word_behind : mg "word_behind" = some (.ref t.a_word_behind)
  b_word_behind : Binds K t.fd_word_behind ["word"] []
  F_both_events : Fun K "both_events" "both_events" s_both_events t.a_both_events t.fd_both_events
  m_both_events : mg "both_events" = some (.ref t.a_both_events)
  b_both_events : Binds K t.fd_both_events ["one", "other"] []
  F__law_next : Fun K "_law_next" "_law_next" s_law_next t.a__law_next t.fd__law_next
  m__law_next : mg "_law_next" = some (.ref t.a__law_next)
  b__law_next : Binds K t.fd__law_next ["deck"] []
  F__law_deck : Fun K "_law_deck" "_law_deck" s_law_deck t.a__law_deck t.fd__law_deck
  m__law_deck : mg "_law_deck" = some (.ref t.a__law_deck)
  b__law_deck : Binds K t.fd__law_deck ["script"] []
  F__law_letters : Fun K "_law_letters" "_law_letters" s_law_letters t.a__law_letters t.fd__law_letters
  m__law_letters : mg "_law_letters" = some (.ref t.a__law_letters)
  b__law_letters : Binds K t.fd__law_letters [] []
  F__law_words : Fun K "_law_words" "_law_words" s_law_words t.a__law_words t.fd__law_words
  m__law_words : mg "_law_words" = some (.ref t.a__law_words)
  b__law_words : Binds K t.fd__law_words ["deck"] []
  F__law_patterns : Fun K "_law_patterns" "_law_patterns" s_law_patterns t.a__law_patterns t.fd__law_patterns
  m__law_patterns : mg "_law_patterns" = some (.ref t.a__law_patterns)
  b__law_patterns : Binds K t.fd__law_patterns ["deck"] []
  F__law_parts : Fun K "_law_parts" "_law_parts" s_law_parts t.a__law_parts t.fd__law_parts
  m__law_parts : mg "_law_parts" = some (.ref t.a__law_parts)
  b__law_parts : Binds K t.fd__law_parts ["deck"] []
  F__law_script : Fun K "_law_script" "_law_script" s_law_script t.a__law_script t.fd__law_script
  m__law_script : mg "_law_script" = some (.ref t.a__law_script)
  b__law_script : Binds K t.fd__law_script ["deck", "parts"] []
  F__law_due : Fun K "_law_due" "_law_due" s_law_due t.a__law_due t.fd__law_due
  m__law_due : mg "_law_due" = some (.ref t.a__law_due)
  b__law_due : Binds K t.fd__law_due ["patterns"] []
  F_law : Fun K "law" "law" s_law t.a_law t.fd_law
  m_law : mg "law" = some (.ref t.a_law)
  b_law : Binds K t.fd_law ["script"] []
  z_dict : mg "dict" = none
  z_isinstance : mg "isinstance" = none
  z_len : mg "len" = none
  z_list : mg "list" = none
  z_max : mg "max" = none
  z_min : mg "min" = none
  z_range : mg "range" = none
  z_set : mg "set" = none
  z_sorted : mg "sorted" = none
  z_sum : mg "sum" = none
  m_LETTERS : mg "LETTERS" = some t.u_LETTERS
  r_LETTERS : RelV (.str "abcdefghijklmnopqrstuvwxyz") t.u_LETTERS
  m_QUIET : mg "QUIET" = some t.u_QUIET
  r_QUIET : RelV (.ref t.ad_QUIET) t.u_QUIET
  m_KEYS : mg "KEYS" = some t.u_KEYS
  r_KEYS : RelV (.int 10) t.u_KEYS
  d_QUIET : TupK K t.ad_QUIET [.str "quiet"]
section
variable {P : Program} {w : World} {K : PySem.W.Frag} {mg : Str → Option Value} {base : Heap} {t : Adr}
abbrev LET : Str := "abcdefghijklmnopqrstuvwxyz"
def WS : List Str := ["a", "b", "c", "d", "e", "f", "g", "h", "i", "j", "k", "l", "m", "n", "o", "p", "q", "r", "s", "t", "u", "v", "w", "x", "y", "z", "aa", "ab", "ac"]
def stepOk (i : Nat) : Bool :=
  let z := WS.getD i ""
  let st := Txt.rstripChars z "z"
  decide (z.length ≤ 3) && decide (st.length ≤ 3) &&
  if st = "" then decide (Txt.mul "a" ((z.length : Int) + 1) = WS.getD (i + 1) "")
  else match atI st.cps.toList (-1) with
    | none => false
    | some c => match Builtin.Str.occurrences LET ⟨#[c]⟩ 0 LET.length 1 with
      | [] => false
      | k :: _ => match atI LET.cps.toList ((k : Int) + 1) with
        | none => false
        | some c' => decide ((Txt.slice st none (some (-1)) ++ (⟨#[c']⟩ : Str)) ++ Txt.mul "a" ((z.length : Int) - (st.length : Int)) = WS.getD (i + 1) "") && decide ((Txt.slice st none (some (-1))).length ≤ 3)
theorem stepOk_all : ∀ i, i < 28 → stepOk i = true := by decide +kernel
theorem mul_len {n : Int} (h : n ≤ 100) : (Txt.mul "a" n).length ≤ 100 := by
  by_cases h1 : n < 1
  · unfold Txt.mul
    rw [if_pos h1]
    decide
  · have : ∀ k, k ≤ 100 → (Txt.mul "a" ((k : Nat) : Int)).length ≤ 100 := by decide +kernel
    have := this n.toNat (by omega)
    rw [show ((n.toNat : Nat) : Int) = n by omega] at this
    exact this
def sp_behind : Sp := fun vs H Q _ => ∃ i, i < 28 ∧ vs = [.str (WS.getD i "")] ∧ Q (.str (WS.getD (i + 1) "")) H
theorem mul_small {n : Int} (h : n ≤ 100) (h0 : -100 ≤ n) : MulOk "a" n := by
  have hl : (Str.ofString "a").length = 1 := by decide +kernel
  refine ⟨?_, fun h1 _ => ?_, fun h1 _ => ?_⟩
  · simp
    omega
  · rw [hl]
    have : (1 : Int) ≤ (2 ^ 63 - 1) / n := by
      rw [Int.le_ediv_iff_mul_le (by omega)]
      omega
    omega
  · rw [hl]
    have : Builtin.Str.tooLong n.toNat = false := by
      have h2 : n.toNat ≤ 100 := by omega
      have : ∀ k, k ≤ 100 → Builtin.Str.tooLong k = false := by decide +kernel
      exact this _ h2
    simpa using this
theorem ok_word_behind (T : Txt K mg t) : FnOk P w K mg base CX0 1 t.a_word_behind t.fd_word_behind ["word"] sp_behind := by
  refine T.F_word_behind.ok sc_word_behind (fun vs H Q E h => ?_) (fun cdv A outer s H vs Q E hr h => ?_)
  · obtain ⟨i, hi, rfl, _⟩ := h
    rfl
  · obtain ⟨i, hi, rfl, q⟩ := h
    refine ⟨_, (@pss_cons _ _ _ _ _ (@ps_set _ _ 1 _ _ _ _ sc_word_behind.nd rfl (by first | exact Or.inl rfl | exact Or.inr rfl) (@pe_ix _ _ _ _ _ _ _ ix_str (pe_glob (by rfl) T.m_LETTERS (by exact T.r_LETTERS)) (@pe_un _ _ _ _ _ _ un_neg (@pe_int _ _ _ _)) (fun _ _ => rfl)) (by rfl) (by first | exact Or.inl rfl | exact Or.inr rfl))
      (@pss_cons _ _ _ _ _ (@ps_set _ _ 2 _ _ _ _ sc_word_behind.nd rfl (by first | exact Or.inl rfl | exact Or.inr rfl) (@kpe_bm _ K _ _ _ _ _ _ _ _ _ _ _ PySem.F.plainAttrs_str PySem.F.slot_str_rstrip PySem.F.type_str_rstrip mt_rstripC (pv 0) (@pa_cons _ _ _ _ _ (pv 1) (@pa_nil _) (by rfl)) (by rfl) (by rfl) (by rfl) (by rfl) (by rfl) (by rfl)) (by rfl) (by first | exact Or.inl rfl | exact Or.inr rfl))
      (@pss_cons _ _ _ _ _ (@ps_if _ _ _ _ _ _ _ _ (@pt_cmpR _ _ _ _ _ _ _ _ op_eq (pv 2) (@pe_str _ _ _ _) (nomark _)) (@pss_one _ _ _ (@ps_ret _ _ _ _ (@pe_op _ _ _ _ _ _ _ _ op_times (@pe_ix _ _ _ _ _ _ _ ix_str (pe_glob (by rfl) T.m_LETTERS (by exact T.r_LETTERS)) (@pe_int _ _ _ _) (fun _ _ => rfl)) (@pe_op _ _ _ _ _ _ _ _ op_plus (@pe_callB _ _ _ _ _ _ _ _ _ (kcl_len K) (by rfl) T.z_len bb_len (@pa_cons _ _ _ _ _ (pv 0) (@pa_nil _) (by rfl)) (by decide) (by decide) (by rfl) (by rfl)) (@pe_int _ _ _ _))))) (@pss_nil _))
      (@pss_cons _ _ _ _ _ (@ps_set _ _ 3 _ _ _ _ sc_word_behind.nd rfl (by first | exact Or.inl rfl | exact Or.inr rfl) (@pe_ix _ _ _ _ _ _ _ ix_str (pe_glob (by rfl) T.m_LETTERS (by exact T.r_LETTERS)) (@pe_op _ _ _ _ _ _ _ _ op_plus (@kpe_bm _ K _ _ _ _ _ _ _ _ _ _ _ PySem.F.plainAttrs_str PySem.F.slot_str_index PySem.F.type_str_index mt_sindex (pe_glob (by rfl) T.m_LETTERS (by exact T.r_LETTERS)) (@pa_cons _ _ _ _ _ (@pe_ix _ _ _ _ _ _ _ ix_str (pv 2) (@pe_un _ _ _ _ _ _ un_neg (@pe_int _ _ _ _)) (fun _ _ => rfl)) (@pa_nil _) (by rfl)) (by rfl) (by rfl) (by rfl) (by rfl) (by rfl) (by rfl)) (@pe_int _ _ _ _)) (fun _ _ => rfl)) (by rfl) (by first | exact Or.inl rfl | exact Or.inr rfl))
      (@pss_one _ _ _ (@ps_ret _ _ _ _ (@pe_op _ _ _ _ _ _ _ _ op_plus (@pe_op _ _ _ _ _ _ _ _ op_plus (@pe_slice _ _ _ _ _ _ _ _ _ _ ksl_str (pv 2) (@po_none _) (@po_some _ _ _ (@pe_un _ _ _ _ _ _ un_neg (@pe_int _ _ _ _)))) (pv 3)) (@pe_op _ _ _ _ _ _ _ _ op_times (@pe_ix _ _ _ _ _ _ _ ix_str (pe_glob (by rfl) T.m_LETTERS (by exact T.r_LETTERS)) (@pe_int _ _ _ _) (fun _ _ => rfl)) (@pe_op _ _ _ _ _ _ _ _ op_sub (@pe_callB _ _ _ _ _ _ _ _ _ (kcl_len K) (by rfl) T.z_len bb_len (@pa_cons _ _ _ _ _ (pv 0) (@pa_nil _) (by rfl)) (by decide) (by decide) (by rfl) (by rfl)) (@pe_callB _ _ _ _ _ _ _ _ _ (kcl_len K) (by rfl) T.z_len bb_len (@pa_cons _ _ _ _ _ (pv 2) (@pa_nil _) (by rfl)) (by decide) (by decide) (by rfl) (by rfl))))))))))), ?_⟩
    have sl : (1000000 : Nat) ≤ sizeLine := le_line (Nat.le_refl _)
    have hok := stepOk_all i hi
    unfold stepOk at hok
    generalize WS.getD (i + 1) "" = nxt at q hok
    generalize WS.getD i "" = z at hok
    simp only [Bool.and_eq_true, decide_eq_true_iff] at hok
    obtain ⟨⟨hz3, hs3⟩, hok⟩ := hok
    have hL : (Str.ofString "abcdefghijklmnopqrstuvwxyz").length = 26 := by decide +kernel
    have ez : (⟨#[122]⟩ : Str) = Str.ofString "z" := by decide +kernel
    have ea : (⟨#[97]⟩ : Str) = Str.ofString "a" := by decide +kernel
    walk_at "go"
    refine ⟨_, -1, 122, rfl, rfl, by omega, by decide +kernel, ?_⟩
    rw [ez]
    walk_at "run"
    refine ⟨z, _, rfl, rfl, by omega, ?_⟩
    generalize Txt.rstripChars z (Str.ofString "z") = st at hok hs3
    walk_at "run"
    by_cases hst : st = Str.ofString ""
    · rw [if_pos hst] at hok
      have hok := of_decide_eq_true hok
      refine i_itDT (by rw [hst]) ?_
      walk_at "run"
      refine ⟨_, 0, 97, rfl, rfl, by omega, by decide +kernel, ?_⟩
      rw [ea]
      walk_at "run"
      refine i_lenS (by omega) ?_
      walk_at "run"
      refine ⟨mul_small (by omega) (by omega), ?_⟩
      rw [hok]
      exact q
    · rw [if_neg hst] at hok
      refine i_itDF hst ?_
      walk_at "run"
      cases e1 : atI st.cps.toList (-1) with
      | none => rw [e1] at hok; cases hok
      | some c =>
      rw [e1] at hok
      simp only at hok
      cases e2 : Builtin.Str.occurrences LET ⟨#[c]⟩ 0 LET.length 1 with
      | nil => rw [e2] at hok; cases hok
      | cons k rest =>
      rw [e2] at hok
      simp only at hok
      cases e3 : atI LET.cps.toList ((k : Int) + 1) with
      | none => rw [e3] at hok; cases hok
      | some c' =>
      rw [e3] at hok
      simp only [Bool.and_eq_true, decide_eq_true_iff] at hok
      obtain ⟨hok, hsl3⟩ := hok
      refine ⟨st, -1, c, rfl, rfl, by omega, e1, ?_⟩
      walk_at "run"
      refine ⟨_, _, k, rest, rfl, rfl, e2, ?_⟩
      walk_at "run"
      refine ⟨_, _, c', rfl, rfl, by omega, e3, ?_⟩
      walk_at "run"
      refine ⟨st, rfl, by omega, ?_⟩
      walk_at "run"
      refine ⟨by have : (⟨#[c']⟩ : Str).length = 1 := rfl; omega, ?_⟩
      walk_at "run"
      refine ⟨_, 0, 97, rfl, rfl, by omega, by decide +kernel, ?_⟩
      rw [ea]
      walk_at "run"
      refine i_lenS (by omega) ?_
      walk_at "run"
      refine i_lenS (by omega) ?_
      walk_at "run"
      refine ⟨mul_small (by omega) (by omega), ?_⟩
      refine ⟨?_, by rw [hok]; exact q⟩
      have h1 : (⟨#[c']⟩ : Str).length = 1 := rfl
      have h2 := mul_len (n := (z.length : Int) - (st.length : Int)) (by omega)
      have h3 : (Txt.slice st none (some (-1)) ++ (⟨#[c']⟩ : Str)).length = (Txt.slice st none (some (-1))).length + 1 := by
        rw [← h1]
        exact Array.size_append
      omega
def freeI (ws : List Str) : Nat := WS.findIdx fun x => decide (x ∉ ws)
def freeW (ws : List Str) : Str := WS.getD (freeI ws) ""
def sp_free (K : PySem.W.Frag) : Sp := fun vs H Q _ => ∃ (a : Addr) (ws : List Str), vs = [.ref a] ∧ H a = some (.lst (strsV ws)) ∧ (Str.ofString "ac") ∉ ws ∧ ws.length ≤ 1000 ∧ ∀ H', Same H H' → Q (.str (freeW ws)) H'
theorem ok_first_free_word (T : Txt K mg t) : FnOk P w K mg base CX0 2 t.a_first_free_word t.fd_first_free_word ["words"] (sp_free K) := by
  have G_word_behind := ok_word_behind (P := P) (w := w) (base := base) T
  refine T.F_first_free_word.ok sc_first_free_word (fun vs H Q E h => ?_) (fun cdv A outer s H vs Q E hr h => ?_)
  · obtain ⟨a, ws, rfl, _⟩ := h
    rfl
  · obtain ⟨a, ws, rfl, ha, hac, hl, q⟩ := h
    refine ⟨_, (@pss_cons _ _ _ _ _ (@ps_set _ _ 1 _ _ _ _ sc_first_free_word.nd rfl (by first | exact Or.inl rfl | exact Or.inr rfl) (@pe_callTy _ _ _ _ _ _ _ _ _ (kcl_dict K) (by rfl) T.z_dict bb_dict (@pa_cons _ _ _ _ _ (pe_lc (Nt := ["word"]) (Nf := []) (caps := []) rfl (comp_ok (sc := defScope s_first_free_word) rfl rfl (by decide +kernel) (by decide +kernel) (by decide +kernel) rfl (by decide +kernel)) (kpi_list K (pv 0)) (fun _ _ _ _ _ => (pg_name (i := 0) (show (["word"] : List Str).Nodup by decide +kernel) rfl (by first | exact Or.inl rfl | exact Or.inr rfl))) (fun _ _ _ _ _ => (@pts_nil _)) (fun _ _ _ _ _ => (@pe_tupN _ _ _ _ _ (@pa_cons _ _ _ _ _ (pv 0) (@pa_cons _ _ _ _ _ (@pe_bl _ _ _ _) (@pa_nil _) (by rfl)) (by rfl))))) (@pa_nil _) (by rfl)) (by decide) (by decide) (by rfl) (by rfl)) (by rfl) (by first | exact Or.inl rfl | exact Or.inr rfl))
      (@pss_cons _ _ _ _ _ (@ps_set _ _ 2 _ _ _ _ sc_first_free_word.nd rfl (by first | exact Or.inl rfl | exact Or.inr rfl) (@pe_ix _ _ _ _ _ _ _ ix_str (pe_glob (by rfl) T.m_LETTERS (by exact T.r_LETTERS)) (@pe_int _ _ _ _) (fun _ _ => rfl)) (by rfl) (by first | exact Or.inl rfl | exact Or.inr rfl))
      (@pss_cons _ _ _ _ _ (@ps_while _ _ _ _ _ _ PassesOwn.never (pt_cmp (pc_din (by exact hu_of hr) (pv 2) (pv 1))) (@pss_one _ _ _ (@ps_set _ _ 2 _ _ _ _ sc_first_free_word.nd rfl (by first | exact Or.inl rfl | exact Or.inr rfl) (@pe_call _ _ _ _ _ _ _ _ _ _ _ _ _ _ _ _ G_word_behind (hr.mono (by omega)) rfl T.m_word_behind T.F_word_behind.kp T.b_word_behind .nil pass0 (@pa_cons _ _ _ _ _ (pv 2) (@pa_nil _) (by rfl)) (by decide) (by rfl) (by rfl)) (by rfl) (by first | exact Or.inl rfl | exact Or.inr rfl))))
      (@pss_one _ _ _ (@ps_ret _ _ _ _ (pv 2)))))), ?_⟩
    have sl : (1000000 : Nat) ≤ sizeLine := le_line (Nat.le_refl _)
    have ea : (⟨#[97]⟩ : Str) = Str.ofString "a" := by decide +kernel
    have hL : (Str.ofString "abcdefghijklmnopqrstuvwxyz").length = 26 := by decide +kernel
    walk_at "go"
    refine ⟨⟨_, SqL.of ha⟩, cc_list (xs := strsV ws) (by simp [strsV]; omega) (fun j acc H' => j ≤ ws.length ∧ Same H H' ∧ acc.length = j ∧ PrK H' acc ((ws.take j).map fun x => (Sum.inr x, V.bl true))) ⟨Nat.zero_le _, Same.refl _, rfl, .nil⟩ (fun j acc H' ⟨_, s', e, _⟩ => ⟨by omega, SqL.of (s' _ _ ha)⟩) ?_ ?_⟩
    · rintro i v acc H1 hv ⟨hi, s1, ea', hpr⟩
      unfold strsV at hv
      rw [List.getElem?_map] at hv
      obtain ⟨x, hx, rfl⟩ := Option.map_eq_some_iff.mp hv
      walk_at "run"
      intro p2 H2 f2 s2 e2
      refine ⟨(List.getElem?_eq_some_iff.mp hx).1, s1.trans s2, by simp [ea'], ?_⟩
      rw [List.take_add_one, hx, Option.toList_some, List.map_append]
      exact (hpr.mono s2.tups).snoc (k := Sum.inr x) e2
    · rintro acc H1 ⟨_, s1, _, hpr⟩ p2 H2 f2 s2 e2
      rw [show (strsV ws).length = ws.length by simp [strsV], List.take_length] at hpr
      walk_at "run"
      refine i_dictP (SqL.of e2) (hpr.mono s2.tups) ?_
      intro pd H3 f3 s3 e3
      have hval : ∀ x : Str, (valV (mergeK [] (ws.map fun x => (Sum.inr x, V.bl true))) (Sum.inr x)).isSome = decide (x ∈ ws) := fun x => by
        have gen : ∀ (l : List Str) (kvs : List (Key × V)), (valV (mergeK kvs (l.map fun x => (Sum.inr x, V.bl true))) (Sum.inr x)).isSome = (decide (x ∈ l) || (valV kvs (Sum.inr x)).isSome) := by
          intro l
          induction l with
          | nil => intro kvs; simp [mergeK]
          | cons y l ih =>
            intro kvs
            show (valV (mergeK (putK kvs (Sum.inr y) (V.bl true)) (l.map fun x => (Sum.inr x, V.bl true))) (Sum.inr x)).isSome = _
            rw [ih, valV_put]
            by_cases e : x = y
            · subst e; simp
            · rw [if_neg (fun z => e (Sum.inr.inj z))]
              simp [e]
        rw [gen]
        simp [valV_nil]
      generalize mergeK [] (ws.map fun x => (Sum.inr x, V.bl true)) = kvs at e3 hval
      walk_at "run"
      refine ⟨_, 0, 97, rfl, rfl, by omega, by decide +kernel, ?_⟩
      rw [ea]
      walk_at "run"
      have s13 := s1.trans (s2.trans s3)
      have w28 : WS.getD 28 "" = Str.ofString "ac" := rfl
      have wl : WS.length = 29 := rfl
      refine i_while (fun m σ H' => H' = H3 ∧ ∃ i, m = 28 - i ∧ i ≤ 28 ∧ (∀ j, j < i → WS.getD j "" ∈ ws) ∧ σ = [some (.ref a), some (.ref pd), some (.str (WS.getD i ""))]) 28 ⟨rfl, 0, rfl, by omega, fun j hj => absurd hj (Nat.not_lt_zero _), rfl⟩ ?_
      rintro m σ H4 ⟨rfl, i, rfl, hi, hall, rfl⟩
      walk_at "run"
      refine ⟨pd, _, rfl, DGet.k (k := Sum.inr (WS.getD i "")) e3, ?_⟩
      rw [hval]
      by_cases hm : WS.getD i "" ∈ ws
      · refine ⟨true, by rw [decide_eq_true hm], i_itT ?_⟩
        have hi28 : i < 28 := by
          refine Nat.lt_of_le_of_ne hi fun z => hac ?_
          rw [← w28, ← z]
          exact hm
        refine ⟨fun σ' H' => H' = H4 ∧ σ' = [some (.ref a), some (.ref pd), some (.str (WS.getD (i + 1) ""))], fun σ' H' h' => ⟨28 - (i + 1), by omega, h'.1, i + 1, rfl, by omega, fun j hj => ?_, h'.2⟩, ?_⟩
        · by_cases e : j = i
          · rw [e]; exact hm
          · exact hall j (by omega)
        walk_at "run"
        refine ⟨i, hi28, rfl, ?_⟩
        walk_at "run"
        exact ⟨rfl, rfl⟩
      · refine ⟨false, by rw [decide_eq_false hm], i_itF ?_⟩
        walk_at "run"
        have hfree : freeI ws = i := by
          unfold freeI
          rw [List.findIdx_eq (by omega)]
          refine ⟨?_, fun j hj => ?_⟩
          · have : WS.getD i "" = WS[i]'(by omega) := by simp [List.getD, List.getElem?_eq_getElem (show i < WS.length by omega)]
            rw [this] at hm
            simpa using hm
          · have h2 := hall j hj
            have : WS.getD j "" = WS[j]'(by omega) := by simp [List.getD, List.getElem?_eq_getElem (show j < WS.length by omega)]
            rw [this] at h2
            simpa using h2
        have := q H4 s13
        unfold freeW at this
        rw [hfree] at this
        exact this
def sp_bodies (K : PySem.W.Frag) : Sp := fun vs H Q _ => ∃ (v : V) (x : Stm) (G : Hp), vs = [v] ∧ Same G H ∧ SAt G v x ∧ x.pk ∧ (bodiesF x).length ≤ 1000 ∧ ∀ l us H', H l = none → Same H H' → H' l = some (.lst us) → Each (BAt G) us (bodiesF x) → Q (.ref l) H'
theorem ok_bodies_of (T : Txt K mg t) : FnOk P w K mg base CX0 1 t.a_bodies_of t.fd_bodies_of ["statement"] (sp_bodies K) := by
  refine T.F_bodies_of.ok sc_bodies_of (fun vs H Q E h => ?_) (fun cdv A outer s H vs Q E hr h => ?_)
  · obtain ⟨v, x, G, rfl, _⟩ := h
    rfl
  · obtain ⟨v, x, G, rfl, sG, hx, hp, hl, q⟩ := h
    refine ⟨_, (@pss_cons _ _ _ _ _ (@ps_set _ _ 1 _ _ _ _ sc_bodies_of.nd rfl (by first | exact Or.inl rfl | exact Or.inr rfl) (@pe_ix _ _ _ _ _ _ _ (kix_tup K) (pv 0) (@pe_int _ _ _ _) (fun _ _ => rfl)) (by rfl) (by first | exact Or.inl rfl | exact Or.inr rfl))
      (@pss_cons _ _ _ _ _ (@ps_if _ _ _ _ _ _ _ _ (@pt_cmpR _ _ _ _ _ _ _ _ op_eq (pv 1) (@pe_str _ _ _ _) (nomark _)) (@pss_one _ _ _ (@ps_ret _ _ _ _ (@pe_lstN _ _ _ _ (@pa_cons _ _ _ _ _ (@pe_ix _ _ _ _ _ _ _ (kix_tup K) (pv 0) (@pe_int _ _ _ _) (fun _ _ => rfl)) (@pa_cons _ _ _ _ _ (@pe_ix _ _ _ _ _ _ _ (kix_tup K) (pv 0) (@pe_int _ _ _ _) (fun _ _ => rfl)) (@pa_nil _) (by rfl)) (by rfl))))) (@pss_nil _))
      (@pss_cons _ _ _ _ _ (@ps_if _ _ _ _ _ _ _ _ (@pt_cmpR _ _ _ _ _ _ _ _ op_eq (pv 1) (@pe_str _ _ _ _) (nomark _)) (@pss_one _ _ _ (@ps_ret _ _ _ _ (pe_lc (Nt := ["pattern", "body"]) (Nf := []) (caps := []) rfl (comp_ok (sc := defScope s_bodies_of) rfl rfl (by decide +kernel) (by decide +kernel) (by decide +kernel) rfl (by decide +kernel)) (kpi_list K (@pe_ix _ _ _ _ _ _ _ (kix_tup K) (pv 0) (@pe_int _ _ _ _) (fun _ _ => rfl))) (fun _ _ _ _ _ => (kpg_tup K (n := 2) rfl (pgs_cons (pg_name (i := 0) (show (["pattern", "body"] : List Str).Nodup by decide +kernel) rfl (by first | exact Or.inl rfl | exact Or.inr rfl)) (pgs_cons (pg_name (i := 1) (show (["pattern", "body"] : List Str).Nodup by decide +kernel) rfl (by first | exact Or.inl rfl | exact Or.inr rfl)) (@pgs_nil _))))) (fun _ _ _ _ _ => (@pts_nil _)) (fun _ _ _ _ _ => (pv 1))))) (@pss_nil _))
      (@pss_cons _ _ _ _ _ (@ps_if _ _ _ _ _ _ _ _ (@pt_cmpR _ _ _ _ _ _ _ _ op_eq (pv 1) (@pe_str _ _ _ _) (nomark _)) (@pss_one _ _ _ (@ps_ret _ _ _ _ (@pe_lstN _ _ _ _ (@pa_cons _ _ _ _ _ (@pe_ix _ _ _ _ _ _ _ (kix_tup K) (pv 0) (@pe_int _ _ _ _) (fun _ _ => rfl)) (@pa_nil _) (by rfl))))) (@pss_nil _))
      (@pss_one _ _ _ (@ps_ret _ _ _ _ (@pe_lstN _ _ _ _ (@pa_nil _)))))))), ?_⟩
    have sl : (1000000 : Nat) ≤ sizeLine := le_line (Nat.le_refl _)
    have n1 : Str.ofString "wait" ≠ Str.ofString "test" := by decide +kernel
    have n2 : Str.ofString "loop" ≠ Str.ofString "test" := by decide +kernel
    have n3 : Str.ofString "loop" ≠ Str.ofString "wait" := by decide +kernel
    cases x with
    | put n e => exact hp.elim
    | plain ps =>
      obtain ⟨k, r, rfl, k1, k2, k3⟩ := hp
      obtain ⟨a, us, rfl, e⟩ := sat_plain hx
      walk_at "go"
      refine i_ixT (SqT.of (sG _ _ e)) (atI_nat (j := 0) rfl) ?_
      walk_at "run"
      refine i_itDF k1 ?_
      walk_at "run"
      refine i_itDF k2 ?_
      walk_at "run"
      refine i_itDF k3 ?_
      walk_at "run"
      intro p1 H1 f1 s1 e1
      exact q p1 [] H1 f1 s1 e1 Each.nil
    | loop b =>
      obtain ⟨a, u, rfl, e, hb⟩ := sat_loop.mp hx
      walk_at "go"
      refine i_ixT (SqT.of (sG _ _ e)) (atI_nat (j := 0) rfl) ?_
      walk_at "run"
      refine i_itDF n2 ?_
      walk_at "run"
      refine i_itDF n3 ?_
      walk_at "run"
      refine i_itDT rfl ?_
      walk_at "run"
      refine i_ixT (SqT.of (sG _ _ e)) (atI_nat (j := 1) rfl) ?_
      walk_at "run"
      intro p1 H1 f1 s1 e1
      exact q p1 _ H1 f1 s1 e1 (Each.nil.snoc hb)
    | test c y z =>
      obtain ⟨a, u1, u2, u3, rfl, e, h2, h3⟩ := sat_test hx
      walk_at "go"
      refine i_ixT (SqT.of (sG _ _ e)) (atI_nat (j := 0) rfl) ?_
      walk_at "run"
      refine i_itDT rfl ?_
      walk_at "run"
      refine i_ixT (SqT.of (sG _ _ e)) (atI_nat (j := 2) rfl) ?_
      walk_at "run"
      refine i_ixT (SqT.of (sG _ _ e)) (atI_nat (j := 3) rfl) ?_
      walk_at "run"
      intro p1 H1 f1 s1 e1
      exact q p1 _ H1 f1 s1 e1 ((Each.nil.snoc h2).snoc h3)
    | wait n bs =>
      obtain ⟨a, l, ws, rfl, e, el, hw⟩ := sat_wait.mp hx
      have wl : ws.length = bs.length := hw.1
      have bl : bs.length ≤ 1000 := by simpa [bodiesF] using hl
      walk_at "go"
      refine i_ixT (SqT.of (sG _ _ e)) (atI_nat (j := 0) rfl) ?_
      walk_at "run"
      refine i_itDF n1 ?_
      walk_at "run"
      refine i_itDT rfl ?_
      walk_at "run"
      refine i_ixT (SqT.of (sG _ _ e)) (atI_nat (j := 2) rfl) ?_
      refine ⟨_, rfl, ⟨_, SqL.of (sG _ _ el)⟩, cc_pairs (xs := ws) (by omega) (fun i acc H' => H' = H ∧ i ≤ ws.length ∧ acc.length = i ∧ Each (BAt G) acc ((bodiesF (.wait n bs)).take i)) ⟨rfl, Nat.zero_le _, rfl, by simpa using Each.nil⟩ (fun i acc H' ⟨e', _, ea, _⟩ => ⟨by omega, e' ▸ SqL.of (sG _ _ el)⟩) ?_ ?_⟩
      · rintro i w acc H' hw' ⟨rfl, hi, ea, hE⟩
        have hi' := (List.getElem?_eq_some_iff.mp hw').1
        obtain ⟨br, hbr⟩ : ∃ br, bs[i]? = some br := ⟨_, List.getElem?_eq_getElem (by omega)⟩
        have hB := hw.2 i w br hw' hbr
        obtain ⟨pp, bb⟩ := br
        obtain ⟨qv, pv, bv, rfl, eq, hp1, hb1⟩ := hB
        refine ⟨qv, _, _, rfl, SqT.of (sG _ _ eq), ?_⟩
        walk_at "run"
        refine ⟨rfl, hi', by simp [ea], ?_⟩
        rw [List.take_add_one, show (bodiesF (.wait n bs))[i]? = some bb by unfold bodiesF; rw [List.getElem?_map, hbr]; rfl, Option.toList_some]
        exact hE.snoc hb1
      · rintro acc H' ⟨rfl, _, ea, hE⟩ p1 H1 f1 s1 e1
        rw [wl, show (bodiesF (.wait n bs)).take bs.length = bodiesF (.wait n bs) from List.take_of_length_le (by simp [bodiesF])] at hE
        walk_at "run"
        exact q p1 _ H1 f1 s1 e1 hE
def sp_stmts (K : PySem.W.Frag) (d : Nat) : Sp := fun vs H Q _ => ∃ (v : V) (b : List Stm) (G : Hp), vs = [v] ∧ Stm.dps b < d ∧ Same G H ∧ BAt G v b ∧ (∀ s ∈ Stm.alls b, s.pk ∧ (bodiesF s).length ≤ 1000) ∧ (Stm.alls b).length ≤ 10000 ∧ ∀ l us H', H l = none → Same H H' → H' l = some (.lst us) → Each (SAt G) us (Stm.alls b) → Q (.ref l) H'
theorem alls_in {b : List Stm} {i : Nat} {x : Stm} (h : b[i]? = some x) : ∃ r, Stm.alls b = Stm.alls (b.take i) ++ (x :: (x.all ++ r)) := by
  refine ⟨Stm.alls (b.drop (i + 1)), ?_⟩
  have e : b = b.take i ++ (x :: b.drop (i + 1)) := by
    obtain ⟨h1, h2⟩ := List.getElem?_eq_some_iff.mp h
    rw [← h2, ← List.drop_eq_getElem_cons h1, List.take_append_drop]
  conv => lhs; rw [e]
  rw [alls_app]
  rfl
theorem flat_in {l : List (List Stm)} {j : Nat} {y : List Stm} (h : l[j]? = some y) : ∃ r, (l.map Stm.alls).flatten = ((l.take j).map Stm.alls).flatten ++ (Stm.alls y ++ r) := by
  refine ⟨((l.drop (j + 1)).map Stm.alls).flatten, ?_⟩
  have e : l = l.take j ++ (y :: l.drop (j + 1)) := by
    obtain ⟨h1, h2⟩ := List.getElem?_eq_some_iff.mp h
    rw [← h2, ← List.drop_eq_getElem_cons h1, List.take_append_drop]
  conv => lhs; rw [e]
  simp
theorem ok_statements_in (T : Txt K mg t) : ∀ d : Nat, FnOk P w K mg base CX0 (d + 1) t.a_statements_in t.fd_statements_in ["body"] (sp_stmts K d) := by
  intro d
  induction d with
  | zero => exact vac (fun vs H Q E ⟨_, _, _, _, h, _⟩ => Nat.not_lt_zero _ h)
  | succ d G_statements_in =>
    have G_bodies_of := ok_bodies_of (P := P) (w := w) (base := base) T
    refine T.F_statements_in.ok sc_statements_in (fun vs H Q E h => ?_) (fun cdv A outer s H vs Q E hr h => ?_)
    · obtain ⟨v, b, G, rfl, _⟩ := h
      rfl
    · obtain ⟨v, b, G, rfl, hd, sG, hb, hpk, hlen, q⟩ := h
      refine ⟨_, (@pss_cons _ _ _ _ _ (@ps_set _ _ 1 _ _ _ _ sc_statements_in.nd rfl (by first | exact Or.inl rfl | exact Or.inr rfl) (@pe_lstN _ _ _ _ (@pa_nil _)) (by rfl) (by first | exact Or.inl rfl | exact Or.inr rfl))
      (@pss_cons _ _ _ _ _ (@ps_for _ _ _ _ _ _ _ _ PassesOwn.never rfl (kpi_list K (pv 0)) (pg_name (i := 2) sc_statements_in.nd rfl (by first | exact Or.inl rfl | exact Or.inr rfl)) (@pss_cons _ _ _ _ _ (@ps_expr _ _ _ _ (@kpe_bm _ K _ _ _ _ _ _ _ _ _ _ _ PySem.F.plainAttrs_list PySem.F.slot_list_append PySem.F.type_list_append mt_append (pv 1) (@pa_cons _ _ _ _ _ (pv 2) (@pa_nil _) (by rfl)) (by rfl) (by rfl) (by rfl) (by rfl) (by rfl) (by rfl)) (by rfl))
        (@pss_one _ _ _ (@ps_for _ _ _ _ _ _ _ _ PassesOwn.never rfl (kpi_list K (@pe_call _ _ _ _ _ _ _ _ _ _ _ _ _ _ _ _ G_bodies_of (hr.mono (by omega)) rfl T.m_bodies_of T.F_bodies_of.kp T.b_bodies_of .nil pass0 (@pa_cons _ _ _ _ _ (pv 2) (@pa_nil _) (by rfl)) (by decide) (by rfl) (by rfl))) (pg_name (i := 3) sc_statements_in.nd rfl (by first | exact Or.inl rfl | exact Or.inr rfl)) (@pss_one _ _ _ (@ps_expr _ _ _ _ (@kpe_bm _ K _ _ _ _ _ _ _ _ _ _ _ PySem.F.plainAttrs_list PySem.F.slot_list_extend PySem.F.type_list_extend mt_extend (pv 1) (@pa_cons _ _ _ _ _ (@pe_call _ _ _ _ _ _ _ _ _ _ _ _ _ _ _ _ G_statements_in (hr.mono (by omega)) rfl T.m_statements_in T.F_statements_in.kp T.b_statements_in .nil pass0 (@pa_cons _ _ _ _ _ (pv 3) (@pa_nil _) (by rfl)) (by decide) (by rfl) (by rfl)) (@pa_nil _) (by rfl)) (by rfl) (by rfl) (by rfl) (by rfl) (by rfl) (by rfl)) (by rfl))) (by intro _; rfl)))) (by intro _; rfl))
      (@pss_one _ _ _ (@ps_ret _ _ _ _ (pv 1))))), ?_⟩
      have sl : (1000000 : Nat) ≤ sizeLine := le_line (Nat.le_refl _)
      obtain ⟨l, us, rfl, el, hE⟩ := bat_iff.mp hb
      walk_at "go"
      intro pf H1 f1 s1 e1
      walk_at "run"
      refine ⟨⟨_, SqL.of ((sG.trans s1) _ _ el)⟩, for_list (K := K) (a := l) (xs := us) (fun i σ H' => i ≤ us.length ∧ Same H H' ∧ (∃ vs, H' pf = some (.lst vs) ∧ Each (SAt G) vs (Stm.alls (b.take i))) ∧ ∃ y z, σ = [some (.ref l), some (.ref pf), y, z]) ⟨Nat.zero_le _, s1, ⟨[], e1, by simpa [Stm.alls] using Each.nil⟩, _, _, rfl⟩ (fun i σ H' _ ⟨_, s', _⟩ => SqL.of ((sG.trans s') _ _ el)) ?_ ?_⟩
      · rintro i v σ H2 hv ⟨hi, s2, ⟨vs, e2, hvs⟩, y, z, rfl⟩
        have hi' := (List.getElem?_eq_some_iff.mp hv).1
        obtain ⟨x, hx⟩ : ∃ x, b[i]? = some x := ⟨_, List.getElem?_eq_getElem (by rw [← hE.1]; exact hi')⟩
        have hvx := hE.2 i v x hv hx
        obtain ⟨rest, hall⟩ := alls_in hx
        have hxm : x ∈ Stm.alls b := by rw [hall]; simp
        obtain ⟨pk, bl⟩ := hpk x hxm
        have hvl := hvs.1
        have hle : (Stm.alls (b.take i)).length + 1 + (x.all ++ rest).length = (Stm.alls b).length := by rw [hall]; simp; omega
        rw [List.length_append] at hle
        have hxd := dps_mem (List.mem_of_getElem? hx)
        walk_at "run"
        refine i_tyL (SqL.of e2) ?_
        walk_at "run"
        refine i_append e2 (by omega) ?_
        have s3 : Same H (upd H2 pf (.lst (vs ++ [v]))) := s2.updNew f1
        have e3 : upd H2 pf (.lst (vs ++ [v])) pf = some (.lst (vs ++ [v])) := upd_same
        generalize upd H2 pf (.lst (vs ++ [v])) = H3 at s3 e3
        walk_at "run"
        refine ⟨v, x, G, rfl, sG.trans s3, hvx, pk, bl, fun lb ub H4 f4 s4 e4 hub => ?_⟩
        have hne : lb ≠ pf := (ne_of_none e3 f4).symm
        walk_at "run"
        refine ⟨⟨_, SqL.of e4⟩, for_list (K := K) (a := lb) (xs := ub) (fun j σ H' => j ≤ ub.length ∧ Same H H' ∧ H' lb = some (.lst ub) ∧ (∃ vs, H' pf = some (.lst vs) ∧ Each (SAt G) vs (Stm.alls (b.take i) ++ x :: (((bodiesF x).take j).map Stm.alls).flatten)) ∧ ∃ z, σ = [some (.ref l), some (.ref pf), some v, z]) ⟨Nat.zero_le _, s3.trans s4, e4, ⟨_, s4 _ _ e3, by simpa using hvs.snoc hvx⟩, _, rfl⟩ (fun j σ H' _ ⟨_, _, h', _⟩ => SqL.of h') ?_ ?_⟩
        · rintro j w σ H5 hw ⟨hj, s5, e5, ⟨vs5, e5f, h5⟩, z, rfl⟩
          have hj' := (List.getElem?_eq_some_iff.mp hw).1
          obtain ⟨bd, hbd⟩ : ∃ bd, (bodiesF x)[j]? = some bd := ⟨_, List.getElem?_eq_getElem (by rw [← hub.1]; exact hj')⟩
          have hwb := hub.2 j w bd hw hbd
          obtain ⟨r2, hfl⟩ := flat_in hbd
          have hbdd := dps_bodies (List.mem_of_getElem? hbd)
          have hin : ∀ s ∈ Stm.alls bd, s ∈ Stm.alls b := fun s hs => by
            rw [hall, all_bodies, hfl]
            simp [hs]
          have h5l := h5.1
          simp only [List.length_append, List.length_cons] at h5l
          have hfl' := congrArg List.length hfl
          rw [← all_bodies] at hfl'
          simp only [List.length_append] at hfl'
          walk_at "run"
          refine i_tyL (SqL.of e5f) ?_
          walk_at "run"
          refine ⟨w, bd, G, rfl, by omega, sG.trans s5, hwb, fun s hs => hpk s (hin s hs), by omega, fun l6 us6 H6 f6 s6 e6 h6 => ?_⟩
          walk_at "run"
          have h6l := h6.1
          refine i_extend (s6 _ _ e5f) e6 (by omega) ?_
          refine ⟨hj', (s5.trans s6).updNew f1, by rw [upd_ne hne]; exact s6 _ _ e5, ⟨_, upd_same, ?_⟩, _, rfl⟩
          rw [List.take_add_one, hbd, Option.toList_some, List.map_append, List.flatten_append]
          simp only [List.map_cons, List.map_nil, List.flatten_cons, List.flatten_nil, List.append_nil]
          rw [← List.cons_append, ← List.append_assoc]
          exact h5.append h6
        · rintro σ H5 ⟨_, s5, e5, ⟨vs5, e5f, h5⟩, z, rfl⟩
          rw [hub.1, List.take_length, ← all_bodies] at h5
          refine ⟨hi', s5, ⟨vs5, e5f, ?_⟩, _, _, rfl⟩
          rw [List.take_add_one, hx, Option.toList_some, alls_app]
          simp only [Stm.alls, List.append_nil]
          exact h5
      · rintro σ H2 ⟨_, s2, ⟨vs, e2, hvs⟩, y, z, rfl⟩
        rw [hE.1, List.take_length] at hvs
        walk_at "run"
        exact q pf vs H2 f1 s2 e2 hvs
def TkAt (G : Hp) (w : V) (b : List Stm) : Prop := ∃ q nm bv, w = .ref q ∧ G q = some (.tup [nm, bv]) ∧ BAt G bv b
def patsIn (tks : List (List Stm)) : List (List Pt) := (tks.flatMap Stm.alls).flatMap patsOf
def sp_pats (K : PySem.W.Frag) : Sp := fun vs H Q _ => ∃ (tt lt : Addr) (x : V) (ws : List V) (tks : List (List Stm)), vs = [.ref tt] ∧ H tt = some (.tup [x, .ref lt]) ∧ H lt = some (.lst ws) ∧ Each (TkAt H) ws tks ∧ (∀ b ∈ tks, Stm.dps b < 10 ∧ (Stm.alls b).length ≤ 10000 ∧ ∀ s ∈ Stm.alls b, s.pk ∧ (bodiesF s).length ≤ 1000) ∧ (patsIn tks).length ≤ 10000 ∧ ∀ l us H', H l = none → Same H H' → H' l = some (.lst us) → Each (PAt H) us (patsIn tks) → Q (.ref l) H'
theorem ok_patterns_of (T : Txt K mg t) : FnOk P w K mg base CX0 12 t.a_patterns_of t.fd_patterns_of ["script"] (sp_pats K) := by
  have G_statements_in := ok_statements_in (P := P) (w := w) (base := base) T
  refine T.F_patterns_of.ok sc_patterns_of (fun vs H Q E h => ?_) (fun cdv A outer s H vs Q E hr h => ?_)
  · obtain ⟨tt, lt, x, ws, tks, rfl, _⟩ := h
    rfl
  · obtain ⟨tt, lt, x, ws, tks, rfl, e1, e2, hT, hok, hlen, q⟩ := h
    replace G_statements_in := G_statements_in 10
    refine ⟨_, (@pss_cons _ _ _ _ _ (@ps_set _ _ 1 _ _ _ _ sc_patterns_of.nd rfl (by first | exact Or.inl rfl | exact Or.inr rfl) (@pe_lstN _ _ _ _ (@pa_nil _)) (by rfl) (by first | exact Or.inl rfl | exact Or.inr rfl))
      (@pss_cons _ _ _ _ _ (@ps_for _ _ _ _ _ _ _ _ PassesOwn.never rfl (kpi_list K (@pe_ix _ _ _ _ _ _ _ (kix_tup K) (pv 0) (@pe_int _ _ _ _) (fun _ _ => rfl))) (kpg_tup K (n := 2) rfl (pgs_cons (pg_name (i := 2) sc_patterns_of.nd rfl (by first | exact Or.inl rfl | exact Or.inr rfl)) (pgs_cons (pg_name (i := 3) sc_patterns_of.nd rfl (by first | exact Or.inl rfl | exact Or.inr rfl)) (@pgs_nil _)))) (@pss_one _ _ _ (@ps_for _ _ _ _ _ _ _ _ PassesOwn.never rfl (kpi_list K (@pe_call _ _ _ _ _ _ _ _ _ _ _ _ _ _ _ _ G_statements_in (hr.mono (by omega)) rfl T.m_statements_in T.F_statements_in.kp T.b_statements_in .nil pass0 (@pa_cons _ _ _ _ _ (pv 3) (@pa_nil _) (by rfl)) (by decide) (by rfl) (by rfl))) (pg_name (i := 4) sc_patterns_of.nd rfl (by first | exact Or.inl rfl | exact Or.inr rfl)) (@pss_one _ _ _ (@ps_if _ _ _ _ _ _ _ _ (@pt_cmpR _ _ _ _ _ _ _ _ op_eq (@pe_ix _ _ _ _ _ _ _ (kix_tup K) (pv 4) (@pe_int _ _ _ _) (fun _ _ => rfl)) (@pe_str _ _ _ _) (nomark _)) (@pss_one _ _ _ (@ps_expr _ _ _ _ (@kpe_bm _ K _ _ _ _ _ _ _ _ _ _ _ PySem.F.plainAttrs_list PySem.F.slot_list_extend PySem.F.type_list_extend mt_extend (pv 1) (@pa_cons _ _ _ _ _ (pe_lc (Nt := ["pattern", "inner"]) (Nf := []) (caps := []) rfl (comp_ok (sc := defScope s_patterns_of) rfl rfl (by decide +kernel) (by decide +kernel) (by decide +kernel) rfl (by decide +kernel)) (kpi_list K (@pe_ix _ _ _ _ _ _ _ (kix_tup K) (pv 4) (@pe_int _ _ _ _) (fun _ _ => rfl))) (fun _ _ _ _ _ => (kpg_tup K (n := 2) rfl (pgs_cons (pg_name (i := 0) (show (["pattern", "inner"] : List Str).Nodup by decide +kernel) rfl (by first | exact Or.inl rfl | exact Or.inr rfl)) (pgs_cons (pg_name (i := 1) (show (["pattern", "inner"] : List Str).Nodup by decide +kernel) rfl (by first | exact Or.inl rfl | exact Or.inr rfl)) (@pgs_nil _))))) (fun _ _ _ _ _ => (@pts_nil _)) (fun _ _ _ _ _ => (pv 0))) (@pa_nil _) (by rfl)) (by rfl) (by rfl) (by rfl) (by rfl) (by rfl) (by rfl)) (by rfl))) (@pss_nil _))) (by intro _; rfl))) (by intro _; rfl))
      (@pss_one _ _ _ (@ps_ret _ _ _ _ (pv 1))))), ?_⟩
    have sl : (1000000 : Nat) ≤ sizeLine := le_line (Nat.le_refl _)
    have n1 : Str.ofString "test" ≠ Str.ofString "wait" := by decide +kernel
    have n3 : Str.ofString "loop" ≠ Str.ofString "wait" := by decide +kernel
    have bnd : ∀ {i : Nat} {b : List Stm} {j : Nat}, tks[i]? = some b → (patsIn (tks.take i)).length + (((Stm.alls b).take j).flatMap patsOf).length ≤ 10000 ∧ ∀ x, (Stm.alls b)[j]? = some x → (patsIn (tks.take i)).length + (((Stm.alls b).take j).flatMap patsOf).length + (patsOf x).length ≤ 10000 := fun {i b j} hb => by
      have e : patsIn tks = patsIn (tks.take i) ++ ((Stm.alls b).flatMap patsOf ++ patsIn (tks.drop (i + 1))) := by
        have e : tks = tks.take i ++ (b :: tks.drop (i + 1)) := by
          obtain ⟨h1, h2⟩ := List.getElem?_eq_some_iff.mp hb
          rw [← h2, ← List.drop_eq_getElem_cons h1, List.take_append_drop]
        conv => lhs; rw [e]
        simp [patsIn]
      have e2 : (Stm.alls b).flatMap patsOf = ((Stm.alls b).take j).flatMap patsOf ++ ((Stm.alls b).drop j).flatMap patsOf := by
        rw [← List.flatMap_append, List.take_append_drop]
      have l1 := congrArg List.length e
      have l2 := congrArg List.length e2
      simp only [List.length_append] at l1 l2
      refine ⟨by omega, fun x hx => ?_⟩
      obtain ⟨q1, q2⟩ := List.getElem?_eq_some_iff.mp hx
      have e3 : ((Stm.alls b).drop j).flatMap patsOf = patsOf x ++ ((Stm.alls b).drop (j + 1)).flatMap patsOf := by
        rw [List.drop_eq_getElem_cons q1, List.flatMap_cons, q2]
      have l3 := congrArg List.length e3
      simp only [List.length_append] at l3
      omega
    walk_at "go"
    intro pf H1 f1 s1 ef
    walk_at "run"
    refine i_ixT (SqT.of (s1 _ _ e1)) (atI_nat (j := 1) rfl) ?_
    walk_at "run"
    refine ⟨⟨_, SqL.of (s1 _ _ e2)⟩, for_list (K := K) (a := lt) (xs := ws) (fun i σ H' => i ≤ ws.length ∧ Same H H' ∧ (∃ vs, H' pf = some (.lst vs) ∧ Each (PAt H) vs (patsIn (tks.take i))) ∧ ∃ y2 y3 y4, σ = [some (.ref tt), some (.ref pf), y2, y3, y4]) ⟨Nat.zero_le _, s1, ⟨[], ef, by simpa [patsIn] using Each.nil⟩, _, _, _, rfl⟩ (fun i σ H' _ ⟨_, s', _⟩ => SqL.of (s' _ _ e2)) ?_ ?_⟩
    · rintro i w σ H2 hw ⟨hi, s2, ⟨vs, e2f, hvs⟩, y2, y3, y4, rfl⟩
      have hi' := (List.getElem?_eq_some_iff.mp hw).1
      obtain ⟨b, hb⟩ : ∃ b, tks[i]? = some b := ⟨_, List.getElem?_eq_getElem (by rw [← hT.1]; exact hi')⟩
      obtain ⟨qv, nm, bv, rfl, eq, hbv⟩ := hT.2 i w b hw hb
      obtain ⟨k1, k2, k3⟩ := hok b (List.mem_of_getElem? hb)
      refine i_asgT (SqT.of (s2 _ _ eq)) rfl ?_
      walk_at "run"
      refine ⟨bv, b, H, rfl, k1, s2, hbv, k3, k2, fun ls us H3 f3 s3 e3 hus => ?_⟩
      have hne : ls ≠ pf := (ne_of_none e2f f3).symm
      walk_at "run"
      refine ⟨⟨_, SqL.of e3⟩, for_list (K := K) (a := ls) (xs := us) (fun j σ H' => j ≤ us.length ∧ Same H H' ∧ H' ls = some (.lst us) ∧ (∃ vs, H' pf = some (.lst vs) ∧ Each (PAt H) vs (patsIn (tks.take i) ++ ((Stm.alls b).take j).flatMap patsOf)) ∧ ∃ y4, σ = [some (.ref tt), some (.ref pf), some nm, some bv, y4]) ⟨Nat.zero_le _, s2.trans s3, e3, ⟨vs, s3 _ _ e2f, by simpa using hvs⟩, _, rfl⟩ (fun j σ H' _ ⟨_, _, h', _⟩ => SqL.of h') ?_ ?_⟩
      · rintro j v σ H4 hv ⟨hj, s4, e4, ⟨vs4, e4f, h4⟩, y4, rfl⟩
        have hj' := (List.getElem?_eq_some_iff.mp hv).1
        obtain ⟨x, hx⟩ : ∃ x, (Stm.alls b)[j]? = some x := ⟨_, List.getElem?_eq_getElem (by rw [← hus.1]; exact hj')⟩
        have hvx := hus.2 j v x hv hx
        obtain ⟨pk, bl⟩ := k3 x (List.mem_of_getElem? hx)
        have htk : ((Stm.alls b).take (j + 1)).flatMap patsOf = ((Stm.alls b).take j).flatMap patsOf ++ patsOf x := by
          rw [List.take_add_one, hx, Option.toList_some, List.flatMap_append]
          simp
        have hbd := (bnd (j := j) hb).2 x hx
        have h4l := h4.1
        rw [List.length_append] at h4l
        cases x with
        | put n e => exact pk.elim
        | plain ps =>
          obtain ⟨k, r, rfl, q1, q2, q3⟩ := pk
          obtain ⟨a, us', rfl, e⟩ := sat_plain hvx
          walk_at "run"
          refine i_ixT (SqT.of (s4 _ _ e)) (atI_nat (j := 0) rfl) ?_
          walk_at "run"
          refine i_itDF q2 ?_
          refine ⟨hj', s4, e4, ⟨vs4, e4f, ?_⟩, _, rfl⟩
          rw [htk]
          simpa [patsOf] using h4
        | loop bb =>
          obtain ⟨a, u, rfl, e, _⟩ := sat_loop.mp hvx
          walk_at "run"
          refine i_ixT (SqT.of (s4 _ _ e)) (atI_nat (j := 0) rfl) ?_
          walk_at "run"
          refine i_itDF n3 ?_
          refine ⟨hj', s4, e4, ⟨vs4, e4f, ?_⟩, _, rfl⟩
          rw [htk]
          simpa [patsOf] using h4
        | test c y z =>
          obtain ⟨a, u1, u2, u3, rfl, e, _⟩ := sat_test hvx
          walk_at "run"
          refine i_ixT (SqT.of (s4 _ _ e)) (atI_nat (j := 0) rfl) ?_
          walk_at "run"
          refine i_itDF n1 ?_
          refine ⟨hj', s4, e4, ⟨vs4, e4f, ?_⟩, _, rfl⟩
          rw [htk]
          simpa [patsOf] using h4
        | wait n bs =>
          obtain ⟨a, l, wsl, rfl, e, el, hwl⟩ := sat_wait.mp hvx
          have wl : wsl.length = bs.length := hwl.1
          have pl : (patsOf (.wait n bs)).length = bs.length := by simp [patsOf]
          walk_at "run"
          refine i_ixT (SqT.of (s4 _ _ e)) (atI_nat (j := 0) rfl) ?_
          walk_at "run"
          refine i_itDT rfl ?_
          walk_at "run"
          refine i_tyL (SqL.of e4f) ?_
          walk_at "run"
          refine i_ixT (SqT.of (s4 _ _ e)) (atI_nat (j := 2) rfl) ?_
          refine ⟨_, rfl, ⟨_, SqL.of (s4 _ _ el)⟩, cc_pairs (xs := wsl) (by omega) (fun m acc H' => H' = H4 ∧ m ≤ wsl.length ∧ acc.length = m ∧ Each (PAt H) acc ((patsOf (.wait n bs)).take m)) ⟨rfl, Nat.zero_le _, rfl, by simpa using Each.nil⟩ (fun m acc H' ⟨e', _, ea, _⟩ => ⟨by omega, e' ▸ SqL.of (s4 _ _ el)⟩) ?_ ?_⟩
          · rintro m w acc H' hw' ⟨rfl, hm, ea, hE⟩
            have hm' := (List.getElem?_eq_some_iff.mp hw').1
            obtain ⟨br, hbr⟩ : ∃ br, bs[m]? = some br := ⟨_, List.getElem?_eq_getElem (by omega)⟩
            have hB := hwl.2 m w br hw' hbr
            obtain ⟨pp, bb⟩ := br
            obtain ⟨qv', pv, bv', rfl, eq', hp1, hb1⟩ := hB
            refine ⟨qv', _, _, rfl, SqT.of (s4 _ _ eq'), ?_⟩
            walk_at "run"
            refine ⟨rfl, hm', by simp [ea], ?_⟩
            rw [List.take_add_one, show (patsOf (.wait n bs))[m]? = some pp by unfold patsOf; rw [List.getElem?_map, hbr]; rfl, Option.toList_some]
            exact hE.snoc hp1
          · rintro acc H' ⟨rfl, _, ea, hE⟩ p5 H5 f5 s5 e5
            rw [wl, ← pl, List.take_length] at hE
            walk_at "run"
            refine i_extend (s5 _ _ e4f) e5 (by have := hE.1; omega) ?_
            refine ⟨hj', (s4.trans s5).updNew f1, by rw [upd_ne hne]; exact s5 _ _ e4, ⟨_, upd_same, ?_⟩, _, rfl⟩
            rw [htk, ← List.append_assoc]
            exact h4.append hE
      · rintro σ H4 ⟨_, s4, e4, ⟨vs4, e4f, h4⟩, y4, rfl⟩
        rw [hus.1, List.take_length] at h4
        refine ⟨hi', s4, ⟨vs4, e4f, ?_⟩, _, _, _, rfl⟩
        rw [List.take_add_one, hb, Option.toList_some]
        have : patsIn (tks.take i ++ [b]) = patsIn (tks.take i) ++ (Stm.alls b).flatMap patsOf := by simp [patsIn]
        rw [this]
        exact h4
    · rintro σ H2 ⟨_, s2, ⟨vs, e2f, hvs⟩, y2, y3, y4, rfl⟩
      rw [hT.1, List.take_length] at hvs
      walk_at "run"
      exact q pf vs H2 f1 s2 e2f hvs
def quietT : Tr := .tup [.str "quiet"]
def keyE (k : Int) : Tr := .tup [.str "key", .int k]
def wordE (x : Str) : Tr := .tup [.str "word", .str x]
def allK : List Int := (List.range 10).map fun (k : Nat) => (k : Int)
def freeK (ks : List Int) : List Int := (allK.filter fun k => decide (k ∉ ks)).take 1
def evT (ks : List Int) (ws : List Str) : List Tr := quietT :: ((ks ++ freeK ks).map keyE ++ (ws ++ [freeW ws]).map wordE)
structure IsE (ps : List (List Pt)) (ks : List Int) (ws : List Str) : Prop where
  k1 : ks.Pairwise (· ≤ ·)
  k2 : ks.Nodup
  k3 : ∀ x, x ∈ ks ↔ keyP x ∈ ps
  w1 : PyProof.Rows.sortedS ws = true
  w2 : ws.Nodup
  w3 : ∀ x, x ∈ ws ↔ wordP x ∈ ps
theorem IsE.one {ps qs : List (List Pt)} {ks ls : List Int} {ws us : List Str} (a : IsE ps ks ws) (b : IsE qs ls us) (h : ∀ p, p ∈ ps ↔ p ∈ qs) : ks = ls ∧ ws = us :=
  ⟨sortedI_one a.k1 b.k1 a.k2 b.k2 fun x => (a.k3 x).trans ((h _).trans (b.k3 x).symm), sorted_one a.w1 b.w1 a.w2 b.w2 fun x => (a.w3 x).trans ((h _).trans (b.w3 x).symm)⟩
theorem ev_hs {ks : List Int} {ws : List Str} : Tr.hs (evT ks ws) ≤ 20 := by
  have h1 : ∀ l : List Int, Tr.hs (l.map keyE) ≤ 1 := by
    intro l
    induction l with
    | nil => simp [Tr.hs]
    | cons x l ih => simp only [List.map_cons, Tr.hs, keyE, Tr.h]; omega
  have h2 : ∀ l : List Str, Tr.hs (l.map wordE) ≤ 1 := by
    intro l
    induction l with
    | nil => simp [Tr.hs]
    | cons x l ih => simp only [List.map_cons, Tr.hs, wordE, Tr.h]; omega
  have h3 : ∀ a b : List Tr, Tr.hs (a ++ b) = max (Tr.hs a) (Tr.hs b) := by
    intro a b
    induction a with
    | nil => simp [Tr.hs]
    | cons x a ih => simp only [List.cons_append, Tr.hs, ih]; omega
  unfold evT
  simp only [Tr.hs, h3, quietT, Tr.h]
  have := h1 (ks ++ freeK ks)
  have := h2 (ws ++ [freeW ws])
  omega
theorem atsK_app {K : PySem.W.Frag} {H : Hp} : ∀ {a b : List Tr} {vs ws : List V}, Tr.AtsK K H a vs → Tr.AtsK K H b ws → Tr.AtsK K H (a ++ b) (vs ++ ws)
  | [], b, vs, ws, h1, h2 => by
    simp only [Tr.AtsK] at h1
    subst h1
    exact h2
  | x :: a, b, vs, ws, h1, h2 => by
    simp only [Tr.AtsK, List.cons_append] at h1 ⊢
    obtain ⟨v, r, rfl, h3, h4⟩ := h1
    exact ⟨v, _, rfl, h3, atsK_app h4 h2⟩
theorem atsK_snoc {K : PySem.W.Frag} {H : Hp} {a : List Tr} {vs : List V} {x : Tr} {v : V} (h1 : Tr.AtsK K H a vs) (h2 : x.AtK K H v) : Tr.AtsK K H (a ++ [x]) (vs ++ [v]) := atsK_app h1 (by simp only [Tr.AtsK]; exact ⟨v, [], rfl, h2, rfl⟩)
theorem atsK_mono {K : PySem.W.Frag} {H H' : Hp} (s : Tups H H') : ∀ {a : List Tr} {vs : List V}, Tr.AtsK K H a vs → Tr.AtsK K H' a vs
  | [], vs, h => h
  | x :: a, vs, h => by
    simp only [Tr.AtsK] at h ⊢
    obtain ⟨v, r, rfl, h3, h4⟩ := h
    exact ⟨v, r, rfl, h3.mono s, atsK_mono s h4⟩
theorem pat_key {H : Hp} {v : V} {k : Int} (h : PAt H v (keyP k)) : ∃ a, v = .ref a ∧ H a = some (.tup [.str "key", .int k]) := by
  unfold PAt keyP at h
  simp only [List.map_cons, List.map_nil, Pt.tr] at h
  obtain ⟨a, vs, rfl, e, h⟩ := at_tup0.mp h
  obtain ⟨v1, w1, rfl, h1, h⟩ := ats_cons0.mp h
  obtain ⟨v2, w2, rfl, h2, h⟩ := ats_cons0.mp h
  obtain rfl := ats_nil0.mp h
  obtain rfl := at_str0.mp h1
  obtain rfl := at_int0.mp h2
  exact ⟨a, rfl, e⟩
theorem pat_word {H : Hp} {v : V} {x : Str} (h : PAt H v (wordP x)) : ∃ a, v = .ref a ∧ H a = some (.tup [.str "word", .str x]) := by
  unfold PAt wordP at h
  simp only [List.map_cons, List.map_nil, Pt.tr] at h
  obtain ⟨a, vs, rfl, e, h⟩ := at_tup0.mp h
  obtain ⟨v1, w1, rfl, h1, h⟩ := ats_cons0.mp h
  obtain ⟨v2, w2, rfl, h2, h⟩ := ats_cons0.mp h
  obtain rfl := ats_nil0.mp h
  obtain rfl := at_str0.mp h1
  obtain rfl := at_str0.mp h2
  exact ⟨a, rfl, e⟩
theorem pat_one {H : Hp} {v : V} {x : Str} (h : PAt H v [.s x]) : ∃ a, v = .ref a ∧ H a = some (.tup [.str x]) := by
  unfold PAt at h
  simp only [List.map_cons, List.map_nil, Pt.tr] at h
  obtain ⟨a, vs, rfl, e, h⟩ := at_tup0.mp h
  obtain ⟨v1, w1, rfl, h1, h⟩ := ats_cons0.mp h
  obtain rfl := ats_nil0.mp h
  obtain rfl := at_str0.mp h1
  exact ⟨a, rfl, e⟩
theorem tupK2 {K : PySem.W.Frag} {H : Hp} {a : Addr} {k : Int} (e : H a = some (.tup [.str "key", .int k])) : (keyE k).AtK K H (.ref a) := by
  simp only [keyE, Tr.AtK, Tr.AtsK]
  exact ⟨_, _, rfl, .inl e, _, _, rfl, rfl, _, _, rfl, rfl, rfl⟩
theorem tupK2w {K : PySem.W.Frag} {H : Hp} {a : Addr} {k : Str} (e : H a = some (.tup [.str "word", .str k])) : (wordE k).AtK K H (.ref a) := by
  simp only [wordE, Tr.AtK, Tr.AtsK]
  exact ⟨_, _, rfl, .inl e, _, _, rfl, rfl, _, _, rfl, rfl, rfl⟩
def sp_evp (K : PySem.W.Frag) : Sp := fun vs H Q _ => ∃ (a : Addr) (us : List V) (ps : List (List Pt)), vs = [.ref a] ∧ H a = some (.lst us) ∧ Each (PAt H) us ps ∧ (∀ p ∈ ps, PatOk p) ∧ ps.length ≤ 1000 ∧ ∀ l vs ks ws H', H l = none → Same H H' → H' l = some (.lst vs) → Tr.AtsK K H' (evT ks ws) vs → IsE ps ks ws → Q (.ref l) H'
theorem ok_events_of_patterns (T : Txt K mg t) : FnOk P w K mg base CX0 3 t.a_events_of_patterns t.fd_events_of_patterns ["patterns"] (sp_evp K) := by
  have G_first_free_word := ok_first_free_word (P := P) (w := w) (base := base) T
  refine T.F_events_of_patterns.ok sc_events_of_patterns (fun vs H Q E h => ?_) (fun cdv A outer s H vs Q E hr h => ?_)
  · obtain ⟨a, us, ps, rfl, _⟩ := h
    rfl
  · obtain ⟨a, us, ps, rfl, ha, hE, hok, hl, q⟩ := h
    refine ⟨_, (@pss_cons _ _ _ _ _ (@ps_set _ _ 1 _ _ _ _ sc_events_of_patterns.nd rfl (by first | exact Or.inl rfl | exact Or.inr rfl) (@pe_callB _ _ _ _ _ _ _ _ _ (cl_sortI (P := P) (w := w) rfl rfl rfl) (by rfl) T.z_sorted bb_sorted (@pa_cons _ _ _ _ _ (@pe_callTy _ _ _ _ _ _ _ _ _ (cl_setI (P := P) (w := w) K rfl rfl rfl) (by rfl) T.z_set bb_set (@pa_cons _ _ _ _ _ (pe_lc (Nt := ["pattern"]) (Nf := []) (caps := []) rfl (comp_ok (sc := defScope s_events_of_patterns) rfl rfl (by decide +kernel) (by decide +kernel) (by decide +kernel) rfl (by decide +kernel)) (kpi_list K (pv 0)) (fun _ _ _ _ _ => (pg_name (i := 0) (show (["pattern"] : List Str).Nodup by decide +kernel) rfl (by first | exact Or.inl rfl | exact Or.inr rfl))) (fun _ _ _ _ _ => (@pts_one _ _ _ (@pt_cmpR _ _ _ _ _ _ _ _ op_eq (@pe_ix _ _ _ _ _ _ _ (kix_tup K) (pv 0) (@pe_int _ _ _ _) (fun _ _ => rfl)) (@pe_str _ _ _ _) (nomark _)))) (fun _ _ _ _ _ => (@pe_ix _ _ _ _ _ _ _ (kix_tup K) (pv 0) (@pe_int _ _ _ _) (fun _ _ => rfl)))) (@pa_nil _) (by rfl)) (by decide) (by decide) (by rfl) (by rfl)) (@pa_nil _) (by rfl)) (by decide) (by decide) (by rfl) (by rfl)) (by rfl) (by first | exact Or.inl rfl | exact Or.inr rfl))
      (@pss_cons _ _ _ _ _ (@ps_set _ _ 2 _ _ _ _ sc_events_of_patterns.nd rfl (by first | exact Or.inl rfl | exact Or.inr rfl) (@pe_callB _ _ _ _ _ _ _ _ _ (cl_sortS (P := P) (w := w) rfl rfl rfl) (by rfl) T.z_sorted bb_sorted (@pa_cons _ _ _ _ _ (@pe_callTy _ _ _ _ _ _ _ _ _ (cl_setS (P := P) (w := w) K rfl rfl rfl) (by rfl) T.z_set bb_set (@pa_cons _ _ _ _ _ (pe_lc (Nt := ["pattern"]) (Nf := []) (caps := []) rfl (comp_ok (sc := defScope s_events_of_patterns) rfl rfl (by decide +kernel) (by decide +kernel) (by decide +kernel) rfl (by decide +kernel)) (kpi_list K (pv 0)) (fun _ _ _ _ _ => (pg_name (i := 0) (show (["pattern"] : List Str).Nodup by decide +kernel) rfl (by first | exact Or.inl rfl | exact Or.inr rfl))) (fun _ _ _ _ _ => (@pts_one _ _ _ (@pt_cmpR _ _ _ _ _ _ _ _ op_eq (@pe_ix _ _ _ _ _ _ _ (kix_tup K) (pv 0) (@pe_int _ _ _ _) (fun _ _ => rfl)) (@pe_str _ _ _ _) (nomark _)))) (fun _ _ _ _ _ => (@pe_ix _ _ _ _ _ _ _ (kix_tup K) (pv 0) (@pe_int _ _ _ _) (fun _ _ => rfl)))) (@pa_nil _) (by rfl)) (by decide) (by decide) (by rfl) (by rfl)) (@pa_nil _) (by rfl)) (by decide) (by decide) (by rfl) (by rfl)) (by rfl) (by first | exact Or.inl rfl | exact Or.inr rfl))
      (@pss_cons _ _ _ _ _ (@ps_expr _ _ _ _ (@kpe_bm _ K _ _ _ _ _ _ _ _ _ _ _ PySem.F.plainAttrs_list PySem.F.slot_list_extend PySem.F.type_list_extend mt_extend (pv 1) (@pa_cons _ _ _ _ _ (@pe_slice _ _ _ _ _ _ _ _ _ _ (ksl_list K) (pe_lc (Nt := ["key"]) (Nf := ["keys"]) (caps := [1]) rfl (comp_ok (sc := defScope s_events_of_patterns) rfl rfl (by decide +kernel) (by decide +kernel) (by decide +kernel) rfl (by decide +kernel)) (pi_range1 rfl T.z_range (@pa_cons _ _ _ _ _ (pe_glob (by rfl) T.m_KEYS (by exact T.r_KEYS)) (@pa_nil _) (by rfl))) (fun _ _ _ _ _ => (pg_name (i := 0) (show (["key", "keys"] : List Str).Nodup by decide +kernel) rfl (by first | exact Or.inl rfl | exact Or.inr rfl))) (fun _ _ _ _ _ => (@pts_one _ _ _ (@pt_cmpR _ _ _ _ _ _ _ _ (kop_notIn K) (pv 0) (pv 1) (by with_unfolding_all rfl)))) (fun _ _ _ _ _ => (pv 0))) (@po_none _) (@po_some _ _ _ (@pe_int _ _ _ _))) (@pa_nil _) (by rfl)) (by rfl) (by rfl) (by rfl) (by rfl) (by rfl) (by rfl)) (by rfl))
      (@pss_cons _ _ _ _ _ (@ps_expr _ _ _ _ (@kpe_bm _ K _ _ _ _ _ _ _ _ _ _ _ PySem.F.plainAttrs_list PySem.F.slot_list_append PySem.F.type_list_append mt_append (pv 2) (@pa_cons _ _ _ _ _ (@pe_call _ _ _ _ _ _ _ _ _ _ _ _ _ _ _ _ G_first_free_word (hr.mono (by omega)) rfl T.m_first_free_word T.F_first_free_word.kp T.b_first_free_word .nil pass0 (@pa_cons _ _ _ _ _ (pv 2) (@pa_nil _) (by rfl)) (by decide) (by rfl) (by rfl)) (@pa_nil _) (by rfl)) (by rfl) (by rfl) (by rfl) (by rfl) (by rfl) (by rfl)) (by rfl))
      (@pss_one _ _ _ (@ps_ret _ _ _ _ (@pe_op _ _ _ _ _ _ _ _ op_plus (@pe_op _ _ _ _ _ _ _ _ op_plus (@pe_lstN _ _ _ _ (@pa_cons _ _ _ _ _ (pe_glob (by rfl) T.m_QUIET (by exact T.r_QUIET)) (@pa_nil _) (by rfl))) (pe_lc (Nt := ["key"]) (Nf := []) (caps := []) rfl (comp_ok (sc := defScope s_events_of_patterns) rfl rfl (by decide +kernel) (by decide +kernel) (by decide +kernel) rfl (by decide +kernel)) (kpi_list K (pv 1)) (fun _ _ _ _ _ => (pg_name (i := 0) (show (["key"] : List Str).Nodup by decide +kernel) rfl (by first | exact Or.inl rfl | exact Or.inr rfl))) (fun _ _ _ _ _ => (@pts_nil _)) (fun _ _ _ _ _ => (@pe_tupN _ _ _ _ _ (@pa_cons _ _ _ _ _ (@pe_str _ _ _ _) (@pa_cons _ _ _ _ _ (pv 0) (@pa_nil _) (by rfl)) (by rfl)))))) (pe_lc (Nt := ["word"]) (Nf := []) (caps := []) rfl (comp_ok (sc := defScope s_events_of_patterns) rfl rfl (by decide +kernel) (by decide +kernel) (by decide +kernel) rfl (by decide +kernel)) (kpi_list K (pv 2)) (fun _ _ _ _ _ => (pg_name (i := 0) (show (["word"] : List Str).Nodup by decide +kernel) rfl (by first | exact Or.inl rfl | exact Or.inr rfl))) (fun _ _ _ _ _ => (@pts_nil _)) (fun _ _ _ _ _ => (@pe_tupN _ _ _ _ _ (@pa_cons _ _ _ _ _ (@pe_str _ _ _ _) (@pa_cons _ _ _ _ _ (pv 0) (@pa_nil _) (by rfl)) (by rfl)))))))))))), ?_⟩
    have sl : (1000000 : Nat) ≤ sizeLine := le_line (Nat.le_refl _)
    have ul : us.length = ps.length := hE.1
    have n1 : Str.ofString "word" ≠ Str.ofString "key" := by decide +kernel
    have n2 : Str.ofString "other" ≠ Str.ofString "key" := by decide +kernel
    have n3 : Str.ofString "none" ≠ Str.ofString "key" := by decide +kernel
    have m1 : Str.ofString "key" ≠ Str.ofString "word" := by decide +kernel
    have m2 : Str.ofString "other" ≠ Str.ofString "word" := by decide +kernel
    have m3 : Str.ofString "none" ≠ Str.ofString "word" := by decide +kernel
    walk_at "go"
    refine ⟨⟨_, SqL.of ha⟩, cc_list (xs := us) (by omega) (fun i acc H' => H' = H ∧ i ≤ us.length ∧ acc.length ≤ i ∧ acc = intsV (keysOf (ps.take i))) ⟨rfl, Nat.zero_le _, Nat.le_refl _, rfl⟩ (fun i acc H' ⟨e, _, ea, _⟩ => ⟨ea, e ▸ SqL.of ha⟩) ?_ ?_⟩
    · rintro i v acc H' hv ⟨rfl, hi, ea, rfl⟩
      have hi' := (List.getElem?_eq_some_iff.mp hv).1
      obtain ⟨p, hp⟩ : ∃ p, ps[i]? = some p := ⟨_, List.getElem?_eq_getElem (by omega)⟩
      have hvp := hE.2 i v p hv hp
      have hpk := hok p (List.mem_of_getElem? hp)
      rw [List.take_add_one, hp, Option.toList_some]
      cases hpk with
      | key k h0 h1 =>
        obtain ⟨b, rfl, e⟩ := pat_key hvp
        walk_at "run"
        refine i_ixT (SqT.of e) (atI_nat (j := 0) rfl) ?_
        walk_at "run"
        refine i_itDT rfl ?_
        walk_at "run"
        refine i_ixT (SqT.of e) (atI_nat (j := 1) rfl) ?_
        refine ⟨rfl, hi', by simp; omega, ?_⟩
        simp [keysOf, keyP, intsV, List.filterMap_append]
      | word x hx =>
        obtain ⟨b, rfl, e⟩ := pat_word hvp
        walk_at "run"
        refine i_ixT (SqT.of e) (atI_nat (j := 0) rfl) ?_
        walk_at "run"
        refine i_itDF n1 ?_
        refine ⟨rfl, hi', by omega, ?_⟩
        simp [keysOf, wordP, intsV, List.filterMap_append]
      | other =>
        obtain ⟨b, rfl, e⟩ := pat_one hvp
        walk_at "run"
        refine i_ixT (SqT.of e) (atI_nat (j := 0) rfl) ?_
        walk_at "run"
        refine i_itDF n2 ?_
        refine ⟨rfl, hi', by omega, ?_⟩
        simp [keysOf, intsV, List.filterMap_append]
      | non =>
        obtain ⟨b, rfl, e⟩ := pat_one hvp
        walk_at "run"
        refine i_ixT (SqT.of e) (atI_nat (j := 0) rfl) ?_
        walk_at "run"
        refine i_itDF n3 ?_
        refine ⟨rfl, hi', by omega, ?_⟩
        simp [keysOf, intsV, List.filterMap_append]
    · rintro acc H' ⟨rfl, _, ea, rfl⟩ p1 H1 f1 s1 e1
      rw [ul, List.take_length] at e1 ea
      walk_at "run"
      refine ⟨p1, keysOf ps, rfl, SqL.of e1, by simp [intsV] at ea; omega, fun p2 H2 ks0 f2 s2 h2 nd2 mem2 => ?_⟩
      walk_at "run"
      have hk10 : ∀ x ∈ ks0, 0 ≤ x ∧ x < 10 := fun x hx => by
        have := hok _ (keysOf_mem.mp ((mem2 x).mp hx))
        generalize he : keyP x = pp at this
        cases this with
        | key k h0 h1 => simp only [keyP, List.cons.injEq, Pt.i.injEq, and_true, true_and] at he; subst he; exact ⟨h0, h1⟩
        | word y hy => simp [keyP, wordP] at he
        | other => simp [keyP] at he
        | non => simp [keyP] at he
      have kl := few_keys nd2 hk10
      refine ⟨p2, ks0, rfl, h2, by omega, fun pk ks H3 f3 s3 e3 pm3 so3 => ?_⟩
      walk_at "run"
      have s03 := s1.trans (s2.trans s3)
      refine ⟨⟨_, SqL.of (s03 _ _ ha)⟩, cc_list (xs := us) (by omega) (fun i acc H' => H' = H3 ∧ i ≤ us.length ∧ acc.length ≤ i ∧ acc = strsV (wordsOf (ps.take i))) ⟨rfl, Nat.zero_le _, Nat.le_refl _, rfl⟩ (fun i acc H' ⟨e, _, ea, _⟩ => ⟨ea, e ▸ SqL.of (s03 _ _ ha)⟩) ?_ ?_⟩
      · rintro i v acc H4 hv ⟨rfl, hi, ea, rfl⟩
        have hi' := (List.getElem?_eq_some_iff.mp hv).1
        obtain ⟨p, hp⟩ : ∃ p, ps[i]? = some p := ⟨_, List.getElem?_eq_getElem (by omega)⟩
        have hvp := (hE.2 i v p hv hp).same s03
        have hpk := hok p (List.mem_of_getElem? hp)
        rw [List.take_add_one, hp, Option.toList_some]
        cases hpk with
        | key k h0 h1 =>
          obtain ⟨b, rfl, e⟩ := pat_key hvp
          walk_at "run"
          refine i_ixT (SqT.of e) (atI_nat (j := 0) rfl) ?_
          walk_at "run"
          refine i_itDF m1 ?_
          refine ⟨rfl, hi', by omega, ?_⟩
          simp [L2.wordsOf, keyP, strsV, List.filterMap_append]
        | word x hx =>
          obtain ⟨b, rfl, e⟩ := pat_word hvp
          walk_at "run"
          refine i_ixT (SqT.of e) (atI_nat (j := 0) rfl) ?_
          walk_at "run"
          refine i_itDT rfl ?_
          walk_at "run"
          refine i_ixT (SqT.of e) (atI_nat (j := 1) rfl) ?_
          refine ⟨rfl, hi', by simp; omega, ?_⟩
          simp [L2.wordsOf, wordP, strsV, List.filterMap_append]
        | other =>
          obtain ⟨b, rfl, e⟩ := pat_one hvp
          walk_at "run"
          refine i_ixT (SqT.of e) (atI_nat (j := 0) rfl) ?_
          walk_at "run"
          refine i_itDF m2 ?_
          refine ⟨rfl, hi', by omega, ?_⟩
          simp [L2.wordsOf, strsV, List.filterMap_append]
        | non =>
          obtain ⟨b, rfl, e⟩ := pat_one hvp
          walk_at "run"
          refine i_ixT (SqT.of e) (atI_nat (j := 0) rfl) ?_
          walk_at "run"
          refine i_itDF m3 ?_
          refine ⟨rfl, hi', by omega, ?_⟩
          simp [L2.wordsOf, strsV, List.filterMap_append]
      rintro acc H4 ⟨rfl, _, eb, rfl⟩ p4 H5 f4 s4 e4
      rw [ul, List.take_length] at e4 eb
      walk_at "run"
      refine ⟨p4, wordsOf ps, rfl, SqL.of e4, by simp [strsV] at eb; omega, fun p5 H6 ws0 f5 s5 h5 nd5 mem5 => ?_⟩
      walk_at "run"
      have hww : ∀ x ∈ ws0, x ∈ WW := fun x hx => by
        have := hok _ (wordsOf_mem.mp ((mem5 x).mp hx))
        generalize he : wordP x = pp at this
        cases this with
        | key k h0 h1 => simp [keyP, wordP] at he
        | word y hy => simp only [wordP, List.cons.injEq, Pt.s.injEq, and_true, true_and] at he; subst he; exact hy
        | other => simp [wordP] at he
        | non => simp [wordP] at he
      have wl := few_words nd5 hww
      refine ⟨p5, ws0, rfl, h5, by omega, fun pw ws H7 f7 s7 e7 pm7 so7 => ?_⟩
      walk_at "run"
      have s37 := s4.trans (s5.trans s7)
      have kl3 : ks.length ≤ 10 := by rw [pm3.length_eq]; exact kl
      have wl3 : ws.length ≤ 32 := by rw [pm7.length_eq]; exact wl
      have hac : (Str.ofString "ac") ∉ ws := fun h => absurd (hww _ (pm7.mem_iff.mp h)) (by decide +kernel)
      have isE : IsE ps ks ws := ⟨so3, pm3.nodup_iff.mpr nd2, fun x => pm3.mem_iff.trans ((mem2 x).trans keysOf_mem), so7, pm7.nodup_iff.mpr nd5, fun x => pm7.mem_iff.trans ((mem5 x).trans wordsOf_mem)⟩
      have ek7 := s37 _ _ e3
      refine i_tyL (SqL.of ek7) ?_
      walk_at "run"
      refine cc_range (n := 10) (by omega) (fun i acc H' => H' = H7 ∧ i ≤ 10 ∧ acc.length ≤ i ∧ acc = ((allK.take i).filter fun k => decide (k ∉ ks)).map V.int) ⟨rfl, Nat.zero_le _, Nat.le_refl _, rfl⟩ (fun i acc H' ⟨_, _, e, _⟩ => e) ?_ ?_
      · rintro i acc H8 hi ⟨rfl, _, ea, rfl⟩
        walk_at "run"
        refine i_notInI (SqL.of ek7) ?_
        walk_at "run"
        have hk : allK[i]? = some (0 + (i : Int)) := by
          unfold allK
          rw [List.getElem?_map, List.getElem?_range hi]
          simp
        rw [List.take_add_one, hk, Option.toList_some, List.filter_append]
        by_cases hin : (0 + (i : Int)) ∈ ks
        · refine i_itNF hin ?_
          refine ⟨rfl, hi, by omega, ?_⟩
          simp only [List.filter_cons, List.filter_nil, decide_not, decide_eq_true hin, Bool.not_true, Bool.false_eq_true, if_false, List.append_nil]
        · refine i_itNT hin ?_
          walk_at "run"
          refine ⟨rfl, hi, by rw [List.length_append, List.length_singleton]; omega, ?_⟩
          simp only [List.filter_cons, List.filter_nil, decide_not, decide_eq_false hin, Bool.not_false, if_true, List.map_append, List.map_cons, List.map_nil]
      rintro acc H8 ⟨rfl, _, ec, rfl⟩ p8 H9 f8 s8 e8
      rw [show allK.take 10 = allK from rfl] at e8
      walk_at "run"
      refine i_slL (SqL.of e8) ?_
      intro p9 H10 f9 s9 e9
      rw [show (1 : Int) = ((1 : Nat) : Int) from rfl, cut_to] at e9
      walk_at "run"
      have s710 := s8.trans s9
      have fkl : (freeK ks).length ≤ 1 := by unfold freeK; rw [List.length_take]; omega
      refine i_extend (s710 _ _ ek7) e9 (by rw [show (intsV ks).length = ks.length by simp [intsV], List.length_map]; have := fkl; unfold freeK at this; omega) ?_
      have hkw : pw ≠ pk := (ne_of_none (s4.trans s5 |> fun s => s _ _ e3) f7).symm
      generalize hH11 : upd H10 pk (HO.lst (intsV ks ++ List.map V.int (List.take 1 (List.filter (fun k => decide (k ∉ ks)) allK)))) = H11
      have ek11 : H11 pk = some (.lst (intsV (ks ++ freeK ks))) := by
        rw [← hH11, upd_same]
        unfold freeK intsV
        rw [List.map_append]
      have ew11 : H11 pw = some (.lst (strsV ws)) := by
        rw [← hH11, upd_ne hkw]
        exact s710 _ _ e7
      have fpk : H' pk = none := (s1.trans s2).free f3
      have fpw : H' pw = none := (s03.trans (s4.trans s5)).free f7
      have s11 : Same H' H11 := by
        rw [← hH11]
        exact (s03.trans (s37.trans s710)).updNew fpk
      clear hH11
      walk_at "run"
      refine i_tyL (SqL.of ew11) ?_
      walk_at "run"
      refine ⟨pw, ws, rfl, ew11, hac, by omega, fun H12 s12 => ?_⟩
      walk_at "run"
      refine i_append (s12 _ _ ew11) (by simp [strsV]; omega) ?_
      generalize hH13 : upd H12 pw (HO.lst (strsV ws ++ [V.str (freeW ws)])) = H13
      have ek13 : H13 pk = some (.lst (intsV (ks ++ freeK ks))) := by
        rw [← hH13, upd_ne hkw.symm]
        exact s12 _ _ ek11
      have ew13 : H13 pw = some (.lst (strsV (ws ++ [freeW ws]))) := by
        rw [← hH13, upd_same]
        simp [strsV]
      have s13 : Same H' H13 := by
        rw [← hH13]
        exact (s11.trans s12).updNew fpw
      clear hH13
      walk_at "run"
      intro q1 H14 g1 t1 d1
      walk_at "run"
      refine ⟨⟨_, SqL.of (t1 _ _ ek13)⟩, cc_list (xs := intsV (ks ++ freeK ks)) (by simp [intsV]; omega) (fun i acc H' => i ≤ (ks ++ freeK ks).length ∧ Same H14 H' ∧ acc.length = i ∧ Tr.AtsK K H' (((ks ++ freeK ks).take i).map keyE) acc) ⟨Nat.zero_le _, Same.refl _, rfl, rfl⟩ (fun i acc H' ⟨_, s', e, _⟩ => ⟨by omega, SqL.of (s' _ _ (t1 _ _ ek13))⟩) ?_ ?_⟩
      · rintro i v acc H15 hv ⟨hi, t2, el, hat⟩
        unfold intsV at hv
        rw [List.getElem?_map] at hv
        obtain ⟨x, hx, rfl⟩ := Option.map_eq_some_iff.mp hv
        walk_at "run"
        intro q2 H16 g2 t3 d3
        refine ⟨(List.getElem?_eq_some_iff.mp hx).1, t2.trans t3, by simp [el], ?_⟩
        rw [List.take_add_one, hx, Option.toList_some, List.map_append]
        exact atsK_snoc (atsK_mono t3.tups hat) (tupK2 d3)
      rintro acc H15 ⟨_, t2, el, hat⟩ q2 H16 g2 t3 d3
      rw [show (intsV (ks ++ freeK ks)).length = (ks ++ freeK ks).length by simp [intsV], List.take_length] at hat
      rw [show (intsV (ks ++ freeK ks)).length = (ks ++ freeK ks).length by simp [intsV]] at el
      walk_at "run"
      refine i_plusL ((t2.trans t3) _ _ d1) d3 (by rw [el]; simp; omega) ?_
      intro q3 H17 g3 t4 d4
      walk_at "run"
      have t147 := t2.trans (t3.trans t4)
      have ew17 := t147 _ _ (t1 _ _ ew13)
      have hk17 := atsK_mono (t3.trans t4).tups hat
      refine ⟨⟨_, SqL.of ew17⟩, cc_list (xs := strsV (ws ++ [freeW ws])) (by simp [strsV]; omega) (fun i acc H' => i ≤ (ws ++ [freeW ws]).length ∧ Same H17 H' ∧ acc.length = i ∧ Tr.AtsK K H' (((ws ++ [freeW ws]).take i).map wordE) acc) ⟨Nat.zero_le _, Same.refl _, rfl, rfl⟩ (fun i acc H' ⟨_, s', e, _⟩ => ⟨by omega, SqL.of (s' _ _ ew17)⟩) ?_ ?_⟩
      · rintro i v acc H18 hv ⟨hi, t5, el5, hat5⟩
        unfold strsV at hv
        rw [List.getElem?_map] at hv
        obtain ⟨x, hx, rfl⟩ := Option.map_eq_some_iff.mp hv
        walk_at "run"
        intro q5 H19 g5 t6 d6
        refine ⟨(List.getElem?_eq_some_iff.mp hx).1, t5.trans t6, by simp [el5], ?_⟩
        rw [List.take_add_one, hx, Option.toList_some, List.map_append]
        exact atsK_snoc (atsK_mono t6.tups hat5) (tupK2w d6)
      rintro acc5 H18 ⟨_, t5, el5, hat5⟩ q5 H19 g5 t6 d6
      rw [show (strsV (ws ++ [freeW ws])).length = (ws ++ [freeW ws]).length by simp [strsV], List.take_length] at hat5
      rw [show (strsV (ws ++ [freeW ws])).length = (ws ++ [freeW ws]).length by simp [strsV]] at el5
      walk_at "run"
      refine i_plusL ((t5.trans t6) _ _ d4) d6 (by rw [el5]; simp only [List.length_append, List.length_singleton, el]; omega) ?_
      intro q6 H20 g6 t7 d7
      walk_at "run"
      have sAll := s13.trans (t1.trans (t147.trans (t5.trans (t6.trans t7))))
      refine q q6 _ ks ws H20 ((s13.trans (t1.trans (t147.trans (t5.trans t6)))).free g6) sAll d7 ?_ isE
      have hk20 := atsK_mono (t5.trans (t6.trans t7)).tups hk17
      have hw20 := atsK_mono (t6.trans t7).tups hat5
      have hq : quietT.AtK K H20 (.ref t.ad_QUIET) := by
        simp only [quietT, Tr.AtK, Tr.AtsK]
        exact ⟨_, _, rfl, .inr T.d_QUIET, _, _, rfl, rfl, rfl⟩
      unfold evT
      simp only [List.cons_append, List.nil_append, Tr.AtsK]
      exact ⟨_, _, rfl, hq, atsK_app hk20 hw20⟩
def Hd (d : Addr) (H H' : Hp) : Prop := (∀ b o, b ≠ d → H b = some o → H' b = some o) ∧ ∀ l r, H d = some (.lst (.ref l :: r)) → ∃ r', H' d = some (.lst (.ref l :: r'))
def hd (d : Addr) (H : Hp) : Hp := fun a => if a = d then none else H a
theorem Hd.refl {d : Addr} {H : Hp} : Hd d H H := ⟨fun _ _ _ e => e, fun l r e => ⟨r, e⟩⟩
theorem Hd.trans {d : Addr} {H H1 H2 : Hp} (a : Hd d H H1) (b : Hd d H1 H2) : Hd d H H2 := ⟨fun c o h e => b.1 c o h (a.1 c o h e), fun l r e => by
  obtain ⟨r', e'⟩ := a.2 l r e
  exact b.2 l r' e'⟩
theorem same_hd {d : Addr} {H H' : Hp} (s : Same H H') : Hd d H H' := ⟨fun b o _ e => s b o e, fun l r e => ⟨r, s _ _ e⟩⟩
theorem hd_ne {d a : Addr} {H : Hp} (h : a ≠ d) : hd d H a = H a := by unfold hd; rw [if_neg h]
theorem hd_some {d a : Addr} {H : Hp} {o : HO} (h : hd d H a = some o) : a ≠ d ∧ H a = some o := by
  unfold hd at h
  split at h
  · cases h
  · next e => exact ⟨e, h⟩
theorem hd_same {d : Addr} {H : Hp} : Same (hd d H) H := fun b o e => (hd_some e).2
theorem Hd.same {d : Addr} {H H' : Hp} (s : Hd d H H') : Same (hd d H) (hd d H') := fun b o e => by
  obtain ⟨h1, h2⟩ := hd_some e
  rw [hd_ne h1]
  exact s.1 b o h1 h2
theorem hd_upd {d l : Addr} {H : Hp} {r r' : List V} (e : H d = some (.lst (.ref l :: r))) : Hd d H (upd H d (.lst (.ref l :: r'))) := ⟨fun b u h e => by rw [upd_ne h]; exact e, fun l1 r1 e1 => by
  rw [e] at e1
  cases e1
  exact ⟨r', upd_same⟩⟩
def Dk (H : Hp) (d : Addr) (n : Nat) : Prop := ∃ (l : Addr) (ms : List Int) (z : Int), H d = some (.lst [.ref l, .int (n : Nat), .int z, .int 0]) ∧ H l = some (.lst (ms.map V.int)) ∧ ms.length ≤ 63
theorem Dk.same {H H' : Hp} {d : Addr} {n : Nat} (k : Dk H d n) (s : Same H H') : Dk H' d n := by
  obtain ⟨l, ms, z, h1, h2, h3⟩ := k
  exact ⟨l, ms, z, s _ _ h1, s _ _ h2, h3⟩
theorem Dk.ne {H : Hp} {d p : Addr} {n : Nat} (k : Dk H d n) (h : H p = none) : p ≠ d := by
  obtain ⟨l, ms, z, h1, _⟩ := k
  exact (ne_of_none h1 h).symm
theorem Hd.free {d p : Addr} {H H' : Hp} {n : Nat} (s : Hd d H H') (k : Dk H' d n) (h : H' p = none) : H p = none := by
  cases e : H p with
  | none => rfl
  | some o => rw [s.1 p o (k.ne h) e] at h; cases h
def sp_deck (K : PySem.W.Frag) : Sp := fun vs H Q _ => ∃ (a : Addr) (ns : List Int), vs = [.ref a] ∧ SqL K H a (ns.map V.int) ∧ ns.length ≤ 63 ∧ ∀ d H', H d = none → Same H H' → Dk H' d 0 → Q (.ref d) H'
theorem ok_law_deck (T : Txt K mg t) : FnOk P w K mg base CX0 1 t.a__law_deck t.fd__law_deck ["script"] (sp_deck K) := by
  refine T.F__law_deck.ok sc_law_deck (fun vs H Q E h => ?_) (fun cdv A outer s H vs Q E hr h => ?_)
  · obtain ⟨a, ns, rfl, _⟩ := h
    rfl
  · obtain ⟨a, ns, rfl, hS, hl, q⟩ := h
    refine ⟨_, (@pss_one _ _ _ (@ps_ret _ _ _ _ (@pe_lstN _ _ _ _ (@pa_cons _ _ _ _ _ (pe_lc (Nt := ["cell"]) (Nf := []) (caps := []) rfl (comp_ok (sc := defScope s_law_deck) rfl rfl (by decide +kernel) (by decide +kernel) (by decide +kernel) rfl (by decide +kernel)) (kpi_list K (@pe_slice _ _ _ _ _ _ _ _ _ _ (ksl_list K) (pv 0) (@po_none _) (@po_some _ _ _ (@pe_int _ _ _ _)))) (fun _ _ _ _ _ => (pg_name (i := 0) (show (["cell"] : List Str).Nodup by decide +kernel) rfl (by first | exact Or.inl rfl | exact Or.inr rfl))) (fun _ _ _ _ _ => (@pts_nil _)) (fun _ _ _ _ _ => (@pe_op _ _ _ _ _ _ _ _ op_fdiv (pv 0) (@pe_int _ _ _ _)))) (@pa_cons _ _ _ _ _ (@pe_int _ _ _ _) (@pa_cons _ _ _ _ _ (@pe_op _ _ _ _ _ _ _ _ op_mod (@pe_callB _ _ _ _ _ _ _ _ _ (kcl_sum K) (by rfl) T.z_sum bb_sum (@pa_cons _ _ _ _ _ (@pe_slice _ _ _ _ _ _ _ _ _ _ (ksl_list K) (pv 0) (@po_none _) (@po_some _ _ _ (@pe_int _ _ _ _))) (@pa_nil _) (by rfl)) (by decide) (by decide) (by rfl) (by rfl)) (@pe_int _ _ _ _)) (@pa_cons _ _ _ _ _ (@pe_int _ _ _ _) (@pa_nil _) (by rfl)) (by rfl)) (by rfl)) (by rfl))))), ?_⟩
    walk_at "go"
    refine i_slL hS ?_
    intro p1 H1 f1 s1 e1
    rw [show cutV (ns.map V.int) none (some 63) = (ns.take 63).map V.int from cut_to (k := 63)] at e1
    have hls : (ns.take 63).length ≤ 63 := by simp; omega
    generalize ns.take 63 = ls at e1 hls
    refine ⟨p1, rfl, ⟨_, SqL.of e1⟩, cc_list (xs := ls.map V.int) (le_line (by simp; omega)) (fun i acc H' => H' = H1 ∧ i ≤ ls.length ∧ acc = (ls.take i).map (fun z => V.int (z / 2))) ⟨rfl, Nat.zero_le _, rfl⟩ (fun i acc H' ⟨e0, hi, e⟩ => ⟨by rw [e]; simp only [List.length_map, List.length_take]; omega, e0 ▸ SqL.of e1⟩) ?_ ?_⟩
    · rintro i x acc H' hx ⟨rfl, hi, rfl⟩
      obtain ⟨z, hz, rfl⟩ : ∃ z, ls[i]? = some z ∧ x = V.int z := by
        rw [List.getElem?_map] at hx
        obtain ⟨z, hz, rfl⟩ := Option.map_eq_some_iff.mp hx
        exact ⟨z, hz, rfl⟩
      walk_at "run"
      refine ⟨rfl, (List.getElem?_eq_some_iff.mp hz).1, ?_⟩
      rw [List.take_add_one, hz]
      simp
    · rintro acc H' ⟨rfl, _, rfl⟩
      intro p2 H2 f2 s2 e2
      walk_at "run"
      refine i_slL ((s1.trans s2).seq hS) ?_
      intro p3 H3 f3 s3 e3
      rw [show cutV (ns.map V.int) none (some 1) = (ns.take 1).map V.int from cut_to (k := 1)] at e3
      walk_at "run"
      refine i_sum (SqL.of e3) ?_
      walk_at "run"
      intro p4 H4 f4 s4 e4
      have s14 := s1.trans (s2.trans (s3.trans s4))
      refine q p4 H4 ((s1.trans (s2.trans s3)).free f4) s14 ⟨p2, ls.map (· / 2), _, e4, ?_, by simp; omega⟩
      have := (s3.trans s4) _ _ e2
      rw [this, List.length_map, List.take_length, List.map_map]
      rfl
theorem mod_nat (x : Int) {m : Nat} (h : 0 < m) : ∃ r : Nat, r < m ∧ x % (m : Int) = (r : Nat) := ⟨(x % (m : Int)).toNat, by
  have h1 := Int.emod_nonneg x (show (m : Int) ≠ 0 by omega)
  have h2 := Int.emod_lt_of_pos x (show (0 : Int) < (m : Int) by omega)
  omega, by
  have h1 := Int.emod_nonneg x (show (m : Int) ≠ 0 by omega)
  omega⟩
theorem cb {i j : Int} (h1 : -1000000000000000000 < i) (h2 : i < 1000000000000000000) : CBig i j := .inr (.inl ⟨by omega, by omega⟩)
def sp_next (K : PySem.W.Frag) : Sp := fun vs H Q _ => ∃ (d : Addr) (n : Nat), vs = [.ref d] ∧ Dk H d n ∧ n ≤ 100000 ∧ ∀ (r : Nat) H', r < 1000000000 → Hd d H H' → Dk H' d (n + 1) → Q (.int (r : Nat)) H'
theorem ok_law_next (T : Txt K mg t) : FnOk P w K mg base CX0 1 t.a__law_next t.fd__law_next ["deck"] (sp_next K) := by
  refine T.F__law_next.ok sc_law_next (fun vs H Q E h => ?_) (fun cdv A outer s H vs Q E hr h => ?_)
  · obtain ⟨d, n, rfl, _⟩ := h
    rfl
  · obtain ⟨d, n, rfl, k, hn, q⟩ := h
    refine ⟨_, (@pss_cons _ _ _ _ _ (@ps_set _ _ 1 _ _ _ _ sc_law_next.nd rfl (by first | exact Or.inl rfl | exact Or.inr rfl) (@pe_ix _ _ _ _ _ _ _ (kix_list K) (pv 0) (@pe_int _ _ _ _) (fun _ _ => rfl)) (by rfl) (by first | exact Or.inl rfl | exact Or.inr rfl))
      (@pss_cons _ _ _ _ _ (@ps_asg _ _ _ _ _ _ (@pe_op _ _ _ _ _ _ _ _ op_plus (pv 1) (@pe_int _ _ _ _)) (pg_sub (pv 0) (@pe_int _ _ _ _) set_list) (by rfl) (by rfl) (by rfl))
      (@pss_cons _ _ _ _ _ (@ps_set _ _ 2 _ _ _ _ sc_law_next.nd rfl (by first | exact Or.inl rfl | exact Or.inr rfl) (@pe_callB _ _ _ _ _ _ _ _ _ kcall_max2 (by rfl) T.z_max bb_max (@pa_cons _ _ _ _ _ (@pe_int _ _ _ _) (@pa_cons _ _ _ _ _ (@pe_callB _ _ _ _ _ _ _ _ _ (kcl_len K) (by rfl) T.z_len bb_len (@pa_cons _ _ _ _ _ (@pe_ix _ _ _ _ _ _ _ (kix_list K) (pv 0) (@pe_int _ _ _ _) (fun _ _ => rfl)) (@pa_nil _) (by rfl)) (by decide) (by decide) (by rfl) (by rfl)) (@pa_nil _) (by rfl)) (by rfl)) (by decide) (by decide) (by rfl) (by rfl)) (by rfl) (by first | exact Or.inl rfl | exact Or.inr rfl))
      (@pss_cons _ _ _ _ _ (@ps_set _ _ 3 _ _ _ _ sc_law_next.nd rfl (by first | exact Or.inl rfl | exact Or.inr rfl) (@pe_int _ _ _ _) (by rfl) (by first | exact Or.inl rfl | exact Or.inr rfl))
      (@pss_consC _ _ _ _ _ (@ps_if _ _ _ _ _ _ _ _ (@pt_cmpR _ _ _ _ _ _ _ _ (kop_neNil K (by exact hr.units)) (@pe_ix _ _ _ _ _ _ _ (kix_list K) (pv 0) (@pe_int _ _ _ _) (fun _ _ => rfl)) (@pe_lstN _ _ _ _ (@pa_nil _)) (nomark _)) (@pss_one _ _ _ (@ps_set _ _ 3 _ _ _ _ sc_law_next.nd rfl (by first | exact Or.inl rfl | exact Or.inr rfl) (@pe_ix _ _ _ _ _ _ _ (kix_list K) (@pe_ix _ _ _ _ _ _ _ (kix_list K) (pv 0) (@pe_int _ _ _ _) (fun _ _ => rfl)) (@pe_op _ _ _ _ _ _ _ _ op_mod (pv 1) (pv 2)) (fun _ _ => rfl)) (by rfl) (by first | exact Or.inl rfl | exact Or.inr rfl))) (@pss_nil _))
      (@pss_cons _ _ _ _ _ (@ps_if _ _ _ _ _ _ _ _ (@pt_cmpR _ _ _ _ _ _ _ _ op_eq (@pe_ix _ _ _ _ _ _ _ (kix_list K) (pv 0) (@pe_int _ _ _ _) (fun _ _ => rfl)) (@pe_int _ _ _ _) (nomark _)) (@pss_cons _ _ _ _ _ (@ps_for _ _ _ _ _ _ _ _ PassesOwn.never rfl (pi_range1 rfl T.z_range (@pa_cons _ _ _ _ _ (@pe_callB _ _ _ _ _ _ _ _ _ kcall_min2 (by rfl) T.z_min bb_min (@pa_cons _ _ _ _ _ (@pe_int _ _ _ _) (@pa_cons _ _ _ _ _ (@pe_op _ _ _ _ _ _ _ _ op_fdiv (pv 1) (pv 2)) (@pa_nil _) (by rfl)) (by rfl)) (by decide) (by decide) (by rfl) (by rfl)) (@pa_nil _) (by rfl))) (pg_name (i := 4) sc_law_next.nd rfl (by first | exact Or.inl rfl | exact Or.inr rfl)) (@pss_one _ _ _ (@ps_set _ _ 3 _ _ _ _ sc_law_next.nd rfl (by first | exact Or.inl rfl | exact Or.inr rfl) (@pe_op _ _ _ _ _ _ _ _ op_fdiv (pv 3) (@pe_int _ _ _ _)) (by rfl) (by first | exact Or.inl rfl | exact Or.inr rfl))) (by intro _; rfl))
        (@pss_one _ _ _ (@ps_ret _ _ _ _ (@pe_op _ _ _ _ _ _ _ _ op_mod (pv 3) (@pe_int _ _ _ _))))) (@pss_nil _))
      (@pss_cons _ _ _ _ _ (@ps_set _ _ 5 _ _ _ _ sc_law_next.nd rfl (by first | exact Or.inl rfl | exact Or.inr rfl) (@pe_op _ _ _ _ _ _ _ _ op_mod (@pe_op _ _ _ _ _ _ _ _ op_plus (@pe_op _ _ _ _ _ _ _ _ op_plus (@pe_op _ _ _ _ _ _ _ _ op_mod (pv 3) (@pe_int _ _ _ _)) (@pe_op _ _ _ _ _ _ _ _ op_times (@pe_op _ _ _ _ _ _ _ _ op_times (@pe_int _ _ _ _) (@pe_op _ _ _ _ _ _ _ _ op_plus (pv 1) (@pe_int _ _ _ _))) (@pe_op _ _ _ _ _ _ _ _ op_plus (pv 1) (@pe_int _ _ _ _)))) (@pe_int _ _ _ _)) (@pe_int _ _ _ _)) (by rfl) (by first | exact Or.inl rfl | exact Or.inr rfl))
      (@pss_cons _ _ _ _ _ (@ps_set _ _ 5 _ _ _ _ sc_law_next.nd rfl (by first | exact Or.inl rfl | exact Or.inr rfl) (@pe_op _ _ _ _ _ _ _ _ op_mod (@pe_op _ _ _ _ _ _ _ _ op_times (pv 5) (pv 5)) (@pe_int _ _ _ _)) (by rfl) (by first | exact Or.inl rfl | exact Or.inr rfl))
      (@pss_one _ _ _ (@ps_ret _ _ _ _ (@pe_op _ _ _ _ _ _ _ _ op_fdiv (@pe_op _ _ _ _ _ _ _ _ op_mod (@pe_op _ _ _ _ _ _ _ _ op_times (pv 5) (@pe_int _ _ _ _)) (@pe_int _ _ _ _)) (@pe_int _ _ _ _)))))))))))), ?_⟩
    obtain ⟨l, ms, z, h1, h2, h3⟩ := k
    have hne : d ≠ l := fun e => by
      subst e
      rw [h1] at h2
      cases ms <;> simp at h2
    walk_at "go"
    refine i_ixL (SqL.of h1) (atI_nat (j := 1) rfl) ?_
    walk_at "run"
    refine i_setL h1 (j := 1) rfl ?_
    have h2' : upd H d (.lst ([V.ref l, V.int (n : Nat), V.int z, V.int 0].set 1 (V.int ((n : Int) + 1)))) l = some (.lst (ms.map V.int)) := by rw [upd_ne (Ne.symm hne)]; exact h2
    have hD : Dk (upd H d (.lst ([V.ref l, V.int (n : Nat), V.int z, V.int 0].set 1 (V.int ((n : Int) + 1))))) d (n + 1) := ⟨l, ms, z, upd_same, h2', h3⟩
    have oD : Hd d H (upd H d (.lst ([V.ref l, V.int (n : Nat), V.int z, V.int 0].set 1 (V.int ((n : Int) + 1))))) := hd_upd h1
    have h1' : upd H d (.lst ([V.ref l, V.int (n : Nat), V.int z, V.int 0].set 1 (V.int ((n : Int) + 1)))) d = some (.lst [V.ref l, V.int ((n : Int) + 1), V.int z, V.int 0]) := upd_same
    generalize upd H d (.lst ([V.ref l, V.int (n : Nat), V.int z, V.int 0].set 1 (V.int ((n : Int) + 1)))) = H1 at h2' hD oD h1'
    walk_at "run"
    refine i_ixL (SqL.of h1') (atI_nat (j := 0) rfl) ?_
    walk_at "run"
    refine i_lenL (SqL.of h2') ?_
    rw [List.length_map]
    walk_at "run"
    refine i_max2 ?_
    walk_at "run"
    obtain ⟨m, hm, em⟩ : ∃ m : Nat, 0 < m ∧ max 1 (ms.length : Int) = (m : Nat) := ⟨max 1 ms.length, by omega, by omega⟩
    have hml : 0 < ms.length → m = ms.length := fun h => by omega
    rw [em]
    refine i_seqC (fun σ' H' => ∃ c : Int, Same H1 H' ∧ σ' = [some (.ref d), some (.int (n : Nat)), some (.int (m : Nat)), some (.int c), none, none]) ?_ ?_
    · walk_at "run"
      refine i_ixL (SqL.of h1') (atI_nat (j := 0) rfl) ?_
      walk_at "run"
      intro p2 H2 f2 s2 e2
      refine i_neNil (SqL.of (s2 _ _ h2')) (SqL.of e2) ?_
      walk_at "run"
      cases hms : ms with
      | nil =>
        refine i_itF ?_
        exact ⟨0, s2, rfl⟩
      | cons m0 mr =>
        refine i_itT ?_
        have hlen : 0 < ms.length := by rw [hms]; simp
        walk_at "run"
        refine i_ixL (SqL.of (s2 _ _ h1')) (atI_nat (j := 0) rfl) ?_
        walk_at "run"
        obtain ⟨p, hp, ep⟩ := mod_nat (n : Int) hm
        rw [ep]
        have hat : atI (ms.map V.int) (p : Nat) = some (.int (ms[p]'(by have := hml hlen; omega))) := atI_nat (by simp [show p < ms.length by have := hml hlen; omega])
        refine i_ixL (SqL.of (s2 _ _ h2')) hat ?_
        exact ⟨_, s2, rfl⟩
    · rintro σ' H2 ⟨c, s2, rfl⟩
      walk_at "run"
      refine i_ixL (SqL.of (s2 _ _ h1')) (atI_nat (j := 2) rfl) ?_
      walk_at "run"
      refine ite2 (fun hc => ?_) (fun hc => ?_)
      · walk_at "run"
        refine i_rI (show CDiv _ _ from ⟨by omega, by omega⟩) ?_
        walk_at "run"
        have hq0 : 0 ≤ (n : Int) / (m : Nat) := Int.ediv_nonneg (by omega) (by omega)
        refine ⟨by omega, by omega, ?_⟩
        generalize (min 60 ((n : Int) / (m : Nat))).toNat = b
        refine for_range (lo := 0) (n := b) (fun i σ H' => H' = H2 ∧ ∃ (c : Int) (y : Option V), σ = [some (.ref d), some (.int (n : Nat)), some (.int (m : Nat)), some (.int c), y, none]) ⟨rfl, c, _, rfl⟩ ?_ ?_
        · rintro i σ H3 hi ⟨rfl, c, y, rfl⟩
          walk_at "run"
          exact ⟨rfl, _, _, rfl⟩
        · rintro σ H3 ⟨rfl, c, y, rfl⟩
          walk_at "run"
          obtain ⟨r, hr, e⟩ := mod_nat c (m := 1000003) (by decide)
          rw [show c % 1000003 = ((r : Nat) : Int) from e]
          exact q r _ (by omega) (oD.trans (same_hd s2)) (hD.same s2)
      · walk_at "run"
        refine i_timesI (cb (by omega) (by omega)) ?_
        walk_at "run"
        generalize c % 2147483629 + 51437 * ((n : Int) + 1) * ((n : Int) + 3) + 1409 = x
        have b1 := Int.emod_nonneg x (show (2147483629 : Int) ≠ 0 by decide)
        have b2 := Int.emod_lt_of_pos x (show (0 : Int) < 2147483629 by decide)
        refine i_timesI (cb (by omega) (by omega)) ?_
        walk_at "run"
        generalize x % 2147483629 * (x % 2147483629) % 2147483587 = y
        have c1 := Int.emod_nonneg (y * 69621) (show (2147483647 : Int) ≠ 0 by decide)
        have c2 := Int.emod_lt_of_pos (y * 69621) (show (0 : Int) < 2147483647 by decide)
        try refine i_rI (show CDiv _ _ from ⟨by omega, by omega⟩) ?_
        obtain ⟨r, hr⟩ : ∃ r : Nat, y * 69621 % 2147483647 / 4 = (r : Nat) := ⟨(y * 69621 % 2147483647 / 4).toNat, by omega⟩
        rw [hr]
        exact q r _ (by omega) (oD.trans (same_hd s2)) (hD.same s2)
def sp_letters : Sp := fun vs H Q _ => vs = [] ∧ Q (.str "abcdefghijklmnopqrstuvwxyz") H
theorem ok_law_letters (T : Txt K mg t) : FnOk P w K mg base CX0 1 t.a__law_letters t.fd__law_letters [] sp_letters := by
  refine T.F__law_letters.ok sc_law_letters (fun vs H Q E h => ?_) (fun cdv A outer s H vs Q E hr h => ?_)
  · obtain ⟨rfl, _⟩ := h
    rfl
  · obtain ⟨rfl, q⟩ := h
    refine ⟨_, (@pss_one _ _ _ (@ps_ret _ _ _ _ (@pe_str _ _ _ _))), ?_⟩
    walk_at "go"
    exact q
def ScAt (H : Hp) (v : V) (tks : List (List Stm)) : Prop := ∃ (tt lt : Addr) (x : V) (ws : List V), v = .ref tt ∧ H tt = some (.tup [x, .ref lt]) ∧ H lt = some (.lst ws) ∧ Each (TkAt H) ws tks
theorem TkAt.same {H H' : Hp} {v : V} {b : List Stm} (h : TkAt H v b) (s : Same H H') : TkAt H' v b := by
  obtain ⟨q, nm, bv, e, e1, h1⟩ := h
  exact ⟨q, nm, bv, e, s _ _ e1, h1.same s⟩
theorem ScAt.same {H H' : Hp} {v : V} {b : List (List Stm)} (h : ScAt H v b) (s : Same H H') : ScAt H' v b := by
  obtain ⟨tt, lt, x, ws, e, e1, e2, h1⟩ := h
  exact ⟨tt, lt, x, ws, e, s _ _ e1, s _ _ e2, h1.mono fun v x h => TkAt.same h s⟩
structure ScOk (tks : List (List Stm)) : Prop where
  ok : ∀ b ∈ tks, Stm.dps b < 10 ∧ (Stm.alls b).length ≤ 10000 ∧ ∀ s ∈ Stm.alls b, s.pk ∧ (bodiesF s).length ≤ 1000
  len : (patsIn tks).length ≤ 400
  pat : ∀ p ∈ patsIn tks, PatOk p
def sp_both (K : PySem.W.Frag) : Sp := fun vs H Q _ => ∃ (v1 v2 : V) (a b : List (List Stm)), vs = [v1, v2] ∧ ScAt H v1 a ∧ ScAt H v2 b ∧ ScOk a ∧ ScOk b ∧ ∀ l vs ks ws H', H l = none → Same H H' → H' l = some (.lst vs) → Tr.AtsK K H' (evT ks ws) vs → IsE (patsIn a ++ patsIn b) ks ws → Q (.ref l) H'
theorem ok_both_events (T : Txt K mg t) : FnOk P w K mg base CX0 13 t.a_both_events t.fd_both_events ["one", "other"] (sp_both K) := by
  have G_events_of_patterns := ok_events_of_patterns (P := P) (w := w) (base := base) T
  have G_patterns_of := ok_patterns_of (P := P) (w := w) (base := base) T
  refine T.F_both_events.ok sc_both_events (fun vs H Q E h => ?_) (fun cdv A outer s H vs Q E hr h => ?_)
  · obtain ⟨v1, v2, a, b, rfl, _⟩ := h
    rfl
  · obtain ⟨v1, v2, a, b, rfl, h1, h2, o1, o2, q⟩ := h
    have h2' := h2
    obtain ⟨t1, l1, x1, w1, rfl, e1, f1, g1⟩ := h1
    obtain ⟨t2, l2, x2, w2, rfl, e2, f2, g2⟩ := h2
    refine ⟨_, (@pss_one _ _ _ (@ps_ret _ _ _ _ (@pe_call _ _ _ _ _ _ _ _ _ _ _ _ _ _ _ _ G_events_of_patterns (hr.mono (by omega)) rfl T.m_events_of_patterns T.F_events_of_patterns.kp T.b_events_of_patterns .nil pass0 (@pa_cons _ _ _ _ _ (@pe_op _ _ _ _ _ _ _ _ op_plus (@pe_call _ _ _ _ _ _ _ _ _ _ _ _ _ _ _ _ G_patterns_of (hr.mono (by omega)) rfl T.m_patterns_of T.F_patterns_of.kp T.b_patterns_of .nil pass0 (@pa_cons _ _ _ _ _ (pv 0) (@pa_nil _) (by rfl)) (by decide) (by rfl) (by rfl)) (@pe_call _ _ _ _ _ _ _ _ _ _ _ _ _ _ _ _ G_patterns_of (hr.mono (by omega)) rfl T.m_patterns_of T.F_patterns_of.kp T.b_patterns_of .nil pass0 (@pa_cons _ _ _ _ _ (pv 1) (@pa_nil _) (by rfl)) (by decide) (by rfl) (by rfl))) (@pa_nil _) (by rfl)) (by decide) (by rfl) (by rfl)))), ?_⟩
    have sl : (1000000 : Nat) ≤ sizeLine := le_line (Nat.le_refl _)
    have n1 := o1.len
    have n2 := o2.len
    walk_at "go"
    refine ⟨t1, l1, x1, w1, a, rfl, e1, f1, g1, o1.ok, by omega, fun p us H1 k1 s1 d1 hu => ?_⟩
    walk_at "run"
    refine ⟨t2, l2, x2, w2, b, rfl, s1 _ _ e2, s1 _ _ f2, g2.mono fun v x h => TkAt.same h s1, o2.ok, by omega, fun p2 us2 H2 k2 s2 d2 hu2 => ?_⟩
    walk_at "run"
    have ul : us.length = (patsIn a).length := hu.1
    have ul2 : us2.length = (patsIn b).length := hu2.1
    refine i_plusL (s2 _ _ d1) d2 (by omega) ?_
    intro p3 H3 k3 s3 d3
    walk_at "run"
    refine ⟨p3, us ++ us2, patsIn a ++ patsIn b, rfl, d3, (hu.mono fun v x h => PAt.same h (s1.trans (s2.trans s3))).append (hu2.mono fun v x h => PAt.same h (s2.trans s3)), fun p hp => ?_, by rw [List.length_append]; omega, fun l vs ks ws H4 k4 s4 d4 ha hE => ?_⟩
    · rcases List.mem_append.mp hp with h | h
      · exact o1.pat p h
      · exact o2.pat p h
    · walk_at "run"
      exact q l vs ks ws H4 ((s1.trans (s2.trans s3)).free k4) (s1.trans (s2.trans (s3.trans s4))) d4 ha hE
theorem Hd.new {d p : Addr} {H H' : Hp} {o : HO} (s : Hd d H H') (h : H p = none) : Hd d H (upd H' p o) := ⟨fun b u h1 e => by rw [upd_ne (ne_of_none e h)]; exact s.1 b u h1 e, fun l r e => by
  rw [upd_ne (ne_of_none e h)]
  exact s.2 l r e⟩
theorem Dk.upd {H H' : Hp} {d p : Addr} {n m : Nat} {o : HO} (k0 : Dk H d m) (s : Hd d H H') (h : H p = none) (k : Dk H' d n) : Dk (L2.upd H' p o) d n := by
  obtain ⟨l, ms, z, h1, h2, h3⟩ := k
  obtain ⟨l0, ms0, z0, h10, h20, h30⟩ := k0
  obtain ⟨r', e⟩ := s.2 _ _ h10
  rw [h1] at e
  cases e
  exact ⟨l, ms, z, by rw [upd_ne (ne_of_none h10 h)]; exact h1, by rw [upd_ne (ne_of_none h20 h)]; exact h2, h3⟩
def WI (d : Addr) (n b c : Nat) (H H' : Hp) (p : Addr) : Prop := ∃ ws m, H p = none ∧ Hd d H H' ∧ Dk H' d m ∧ m ≤ n + b ∧ H' p = some (.lst (strsV ws)) ∧ ws.length ≤ c ∧ ∀ x ∈ ws, x ∈ WW
theorem at4w {r a b : Nat} (h : r < 4) (ha : a < 3) (hb : b < 27) : ∃ m : Nat, m < 27 ∧ atI [V.int 0, .int (a : Nat), .int 26, .int (b : Nat)] (r : Nat) = some (.int (m : Nat)) := by
  have : r = 0 ∨ r = 1 ∨ r = 2 ∨ r = 3 := by omega
  rcases this with rfl | rfl | rfl | rfl
  · exact ⟨0, by omega, atI_nat (j := 0) rfl⟩
  · exact ⟨a, by omega, atI_nat (j := 1) rfl⟩
  · exact ⟨26, by omega, atI_nat (j := 2) rfl⟩
  · exact ⟨b, by omega, atI_nat (j := 3) rfl⟩
theorem at4s {r : Nat} (h : r < 4) : ∃ x : Str, atI [V.str "yes", .str "no", .str "zz", .str "b"] (r : Nat) = some (.str x) ∧ x ∈ WW := by
  have : r = 0 ∨ r = 1 ∨ r = 2 ∨ r = 3 := by omega
  rcases this with rfl | rfl | rfl | rfl
  · exact ⟨_, atI_nat (j := 0) rfl, by decide +kernel⟩
  · exact ⟨_, atI_nat (j := 1) rfl, by decide +kernel⟩
  · exact ⟨_, atI_nat (j := 2) rfl, by decide +kernel⟩
  · exact ⟨_, atI_nat (j := 3) rfl, by decide +kernel⟩
theorem map_erase : ∀ (l : List Str) (i : Nat), strsV (l.eraseIdx i) = (strsV l).eraseIdx i
  | [], i => by simp [strsV]
  | x :: l, 0 => by simp [strsV]
  | x :: l, i + 1 => by
    have := map_erase l i
    unfold strsV at this ⊢
    simp [this]
theorem lets_ok : ∀ m : Fin 27, (PySem.Txt.slice "abcdefghijklmnopqrstuvwxyz" none (some ((m.val : Nat) : Int))).cps.size = m.val ∧ ∀ c ∈ (PySem.Txt.slice "abcdefghijklmnopqrstuvwxyz" none (some ((m.val : Nat) : Int))).cps.toList, (⟨#[c]⟩ : Str) ∈ WW := by decide +kernel
theorem cut_toV {us : List V} {k : Nat} : cutV us none (some (k : Int)) = us.take k := by
  unfold cutV
  rw [HT.sIx_none, HT.sIx_nat, List.drop_zero, Nat.sub_zero]
  by_cases h : k ≤ us.length
  · rw [Nat.min_eq_left h]
  · rw [Nat.min_eq_right (by omega), List.take_of_length_le (by simp), List.take_of_length_le (by omega)]
theorem cut_fromV {us : List V} {k : Nat} : cutV us (some (k : Int)) none = us.drop k := by
  unfold cutV
  rw [HT.sIx_none, HT.sIx_nat]
  by_cases h : k ≤ us.length
  · rw [Nat.min_eq_left h, List.take_of_length_le (by simp)]
  · rw [Nat.min_eq_right (by omega), List.drop_of_length_le (Nat.le_refl _), List.drop_of_length_le (by omega)]
    simp
def sp_words (K : PySem.W.Frag) : Sp := fun vs H Q _ => ∃ (d : Addr) (n : Nat), vs = [.ref d] ∧ Dk H d n ∧ n ≤ 90000 ∧ ∀ p ws m H', H p = none → Hd d H H' → Dk H' d m → m ≤ n + 10 → H' p = some (.lst (strsV ws)) → ws.length ≤ 40 → (∀ x ∈ ws, x ∈ WW) → Q (.ref p) H'
theorem ok_law_words (T : Txt K mg t) : FnOk P w K mg base CX0 2 t.a__law_words t.fd__law_words ["deck"] (sp_words K) := by
  have G__law_letters := ok_law_letters (P := P) (w := w) (base := base) T
  have G__law_next := ok_law_next (P := P) (w := w) (base := base) T
  refine T.F__law_words.ok sc_law_words (fun vs H Q E h => ?_) (fun cdv A outer s H vs Q E hr h => ?_)
  · obtain ⟨d, n, rfl, _⟩ := h
    rfl
  · obtain ⟨d, n, rfl, k, hn, q⟩ := h
    refine ⟨_, (@pss_cons _ _ _ _ _ (@ps_set _ _ 1 _ _ _ _ sc_law_words.nd rfl (by first | exact Or.inl rfl | exact Or.inr rfl) (pe_call0 G__law_letters (hr.mono (by omega)) rfl T.m__law_letters T.F__law_letters.kp T.b__law_letters .nil pass0) (by rfl) (by first | exact Or.inl rfl | exact Or.inr rfl))
      (@pss_cons _ _ _ _ _ (@ps_set _ _ 2 _ _ _ _ sc_law_words.nd rfl (by first | exact Or.inl rfl | exact Or.inr rfl) (@pe_ix _ _ _ _ _ _ _ (kix_list K) (@pe_lstN _ _ _ _ (@pa_cons _ _ _ _ _ (@pe_int _ _ _ _) (@pa_cons _ _ _ _ _ (@pe_op _ _ _ _ _ _ _ _ op_mod (@pe_call _ _ _ _ _ _ _ _ _ _ _ _ _ _ _ _ G__law_next (hr.mono (by omega)) rfl T.m__law_next T.F__law_next.kp T.b__law_next .nil pass0 (@pa_cons _ _ _ _ _ (pv 0) (@pa_nil _) (by rfl)) (by decide) (by rfl) (by rfl)) (@pe_int _ _ _ _)) (@pa_cons _ _ _ _ _ (@pe_int _ _ _ _) (@pa_cons _ _ _ _ _ (@pe_op _ _ _ _ _ _ _ _ op_mod (@pe_call _ _ _ _ _ _ _ _ _ _ _ _ _ _ _ _ G__law_next (hr.mono (by omega)) rfl T.m__law_next T.F__law_next.kp T.b__law_next .nil pass0 (@pa_cons _ _ _ _ _ (pv 0) (@pa_nil _) (by rfl)) (by decide) (by rfl) (by rfl)) (@pe_int _ _ _ _)) (@pa_nil _) (by rfl)) (by rfl)) (by rfl)) (by rfl))) (@pe_op _ _ _ _ _ _ _ _ op_mod (@pe_call _ _ _ _ _ _ _ _ _ _ _ _ _ _ _ _ G__law_next (hr.mono (by omega)) rfl T.m__law_next T.F__law_next.kp T.b__law_next .nil pass0 (@pa_cons _ _ _ _ _ (pv 0) (@pa_nil _) (by rfl)) (by decide) (by rfl) (by rfl)) (@pe_int _ _ _ _)) (fun _ _ => rfl)) (by rfl) (by first | exact Or.inl rfl | exact Or.inr rfl))
      (@pss_cons _ _ _ _ _ (ps_lc (i := 3) (Nt := ["letter"]) (Nf := []) (caps := []) rfl (comp_ok (sc := defScope s_law_words) rfl rfl (by decide +kernel) (by decide +kernel) (by decide +kernel) rfl (by decide +kernel)) (pi_str (@pe_slice _ _ _ _ _ _ _ _ _ _ ksl_str (pv 1) (@po_none _) (@po_some _ _ _ (pv 2)))) (fun _ _ _ _ _ => (pg_name (i := 0) (show (["letter"] : List Str).Nodup by decide +kernel) rfl (by first | exact Or.inl rfl | exact Or.inr rfl))) (fun _ _ _ _ _ => (@pts_nil _)) (fun _ _ _ _ _ => (pv 0)) sc_law_words.nd rfl (by first | exact Or.inl rfl | exact Or.inr rfl) rfl)
      (@pss_consC _ _ _ _ _ (@ps_if _ _ _ _ _ _ _ _ (@PW.pt _ _ _ (@pw_and _ _ _ _ _ _ _ (@pt_cmpR _ _ _ _ _ _ _ _ op_eq (pv 2) (@pe_int _ _ _ _) (nomark _)) (@pw_and1 _ _ _ _ (@pt_cmpR _ _ _ _ _ _ _ _ op_eq (@pe_op _ _ _ _ _ _ _ _ op_mod (@pe_call _ _ _ _ _ _ _ _ _ _ _ _ _ _ _ _ G__law_next (hr.mono (by omega)) rfl T.m__law_next T.F__law_next.kp T.b__law_next .nil pass0 (@pa_cons _ _ _ _ _ (pv 0) (@pa_nil _) (by rfl)) (by decide) (by rfl) (by rfl)) (@pe_int _ _ _ _)) (@pe_int _ _ _ _) (nomark _))))) (@pss_one _ _ _ (@ps_set _ _ 3 _ _ _ _ sc_law_words.nd rfl (by first | exact Or.inl rfl | exact Or.inr rfl) (@pe_op _ _ _ _ _ _ _ _ op_plus (pv 3) (@pe_slice _ _ _ _ _ _ _ _ _ _ (ksl_list K) (@pe_lstN _ _ _ _ (@pa_cons _ _ _ _ _ (@pe_str _ _ _ _) (@pa_cons _ _ _ _ _ (@pe_str _ _ _ _) (@pa_cons _ _ _ _ _ (@pe_str _ _ _ _) (@pa_nil _) (by rfl)) (by rfl)) (by rfl))) (@po_none _) (@po_some _ _ _ (@pe_op _ _ _ _ _ _ _ _ op_mod (@pe_call _ _ _ _ _ _ _ _ _ _ _ _ _ _ _ _ G__law_next (hr.mono (by omega)) rfl T.m__law_next T.F__law_next.kp T.b__law_next .nil pass0 (@pa_cons _ _ _ _ _ (pv 0) (@pa_nil _) (by rfl)) (by decide) (by rfl) (by rfl)) (@pe_int _ _ _ _))))) (by rfl) (by first | exact Or.inl rfl | exact Or.inr rfl))) (@pss_nil _))
      (@pss_consC _ _ _ _ _ (@ps_if _ _ _ _ _ _ _ _ (@PW.pt _ _ _ (@pw_and _ _ _ _ _ _ _ (@pt_cmpR _ _ _ _ _ _ _ _ (kop_neNil K (by exact hr.units)) (pv 3) (@pe_lstN _ _ _ _ (@pa_nil _)) (nomark _)) (@pw_and1 _ _ _ _ (@pt_cmpR _ _ _ _ _ _ _ _ op_eq (@pe_op _ _ _ _ _ _ _ _ op_mod (@pe_call _ _ _ _ _ _ _ _ _ _ _ _ _ _ _ _ G__law_next (hr.mono (by omega)) rfl T.m__law_next T.F__law_next.kp T.b__law_next .nil pass0 (@pa_cons _ _ _ _ _ (pv 0) (@pa_nil _) (by rfl)) (by decide) (by rfl) (by rfl)) (@pe_int _ _ _ _)) (@pe_int _ _ _ _) (nomark _))))) (@pss_one _ _ _ (@ps_expr _ _ _ _ (@kpe_bm _ K _ _ _ _ _ _ _ _ _ _ _ PySem.F.plainAttrs_list PySem.F.slot_list_pop PySem.F.type_list_pop mt_popAt (pv 3) (@pa_cons _ _ _ _ _ (@pe_op _ _ _ _ _ _ _ _ op_mod (@pe_call _ _ _ _ _ _ _ _ _ _ _ _ _ _ _ _ G__law_next (hr.mono (by omega)) rfl T.m__law_next T.F__law_next.kp T.b__law_next .nil pass0 (@pa_cons _ _ _ _ _ (pv 0) (@pa_nil _) (by rfl)) (by decide) (by rfl) (by rfl)) (@pe_callB _ _ _ _ _ _ _ _ _ (kcl_len K) (by rfl) T.z_len bb_len (@pa_cons _ _ _ _ _ (pv 3) (@pa_nil _) (by rfl)) (by decide) (by decide) (by rfl) (by rfl))) (@pa_nil _) (by rfl)) (by rfl) (by rfl) (by rfl) (by rfl) (by rfl) (by rfl)) (by rfl))) (@pss_nil _))
      (@pss_cons _ _ _ _ _ (@ps_set _ _ 4 _ _ _ _ sc_law_words.nd rfl (by first | exact Or.inl rfl | exact Or.inr rfl) (@pe_lstN _ _ _ _ (@pa_cons _ _ _ _ _ (@pe_str _ _ _ _) (@pa_cons _ _ _ _ _ (@pe_str _ _ _ _) (@pa_cons _ _ _ _ _ (@pe_str _ _ _ _) (@pa_cons _ _ _ _ _ (@pe_str _ _ _ _) (@pa_nil _) (by rfl)) (by rfl)) (by rfl)) (by rfl))) (by rfl) (by first | exact Or.inl rfl | exact Or.inr rfl))
      (@pss_one _ _ _ (@ps_ret _ _ _ _ (@pe_op _ _ _ _ _ _ _ _ op_plus (pv 3) (pe_lc (Nt := ["k"]) (Nf := ["some", "deck"]) (caps := [4, 0]) rfl (comp_ok (sc := defScope s_law_words) rfl rfl (by decide +kernel) (by decide +kernel) (by decide +kernel) rfl (by decide +kernel)) (pi_range1 rfl T.z_range (@pa_cons _ _ _ _ _ (@pe_op _ _ _ _ _ _ _ _ op_mod (@pe_call _ _ _ _ _ _ _ _ _ _ _ _ _ _ _ _ G__law_next (hr.mono (by omega)) rfl T.m__law_next T.F__law_next.kp T.b__law_next .nil pass0 (@pa_cons _ _ _ _ _ (pv 0) (@pa_nil _) (by rfl)) (by decide) (by rfl) (by rfl)) (@pe_int _ _ _ _)) (@pa_nil _) (by rfl))) (fun _ _ _ _ _ => (pg_name (i := 0) (show (["k", "some", "deck"] : List Str).Nodup by decide +kernel) rfl (by first | exact Or.inl rfl | exact Or.inr rfl))) (fun _ _ _ _ _ => (@pts_nil _)) (fun _ _ _ _ _ => (@pe_ix _ _ _ _ _ _ _ (kix_list K) (pv 1) (@pe_op _ _ _ _ _ _ _ _ op_mod (@pe_call _ _ _ _ _ _ _ _ _ _ _ _ _ _ _ _ G__law_next (hr.mono (by omega)) rfl T.m__law_next T.F__law_next.kp T.b__law_next .nil pass0 (@pa_cons _ _ _ _ _ (pv 2) (@pa_nil _) (by rfl)) (by decide) (by rfl) (by rfl)) (@pe_int _ _ _ _)) (fun _ _ => rfl))))))))))))), ?_⟩
    have hL : (Str.ofString "abcdefghijklmnopqrstuvwxyz").length = 26 := by decide +kernel
    have sl : (1000000 : Nat) ≤ sizeLine := le_line (Nat.le_refl _)
    walk_at "go"
    refine ⟨rfl, ?_⟩
    walk_at "run"
    refine ⟨d, n, rfl, k, by omega, fun r1 H1 hr1 o1 k1 => ?_⟩
    walk_at "run"
    obtain ⟨a1, ha1, ea1⟩ := mod_nat (r1 : Int) (m := 3) (by decide)
    rw [show (r1 : Int) % 3 = ((a1 : Nat) : Int) from ea1]
    refine ⟨d, _, rfl, k1, by omega, fun r2 H2 hr2 o2 k2 => ?_⟩
    walk_at "run"
    obtain ⟨a2, ha2, ea2⟩ := mod_nat (r2 : Int) (m := 27) (by decide)
    rw [show (r2 : Int) % 27 = ((a2 : Nat) : Int) from ea2]
    intro p3 H3 f3 s3 e3
    walk_at "run"
    refine ⟨d, _, rfl, k2.same s3, by omega, fun r4 H4 hr4 o4 k4 => ?_⟩
    walk_at "run"
    obtain ⟨a4, ha4, ea4⟩ := mod_nat (r4 : Int) (m := 4) (by decide)
    rw [show (r4 : Int) % 4 = ((a4 : Nat) : Int) from ea4]
    obtain ⟨m, hm, em⟩ := at4w ha4 ha1 ha2
    refine i_ixL (SqL.of (o4.1 _ _ (k2.ne f3) e3)) em ?_
    walk_at "run"
    obtain ⟨z1, z2⟩ := lets_ok ⟨m, hm⟩
    simp only at z1 z2
    have o04 : Hd d H H4 := o1.trans (o2.trans ((same_hd s3).trans o4))
    refine i_slS (by rw [hL]; omega) ?_
    refine ⟨_, rfl, cc_str (by rw [z1]; omega) (fun i acc H' => H' = H4 ∧ ∃ ss, acc = strsV ss ∧ ss.length = i ∧ ∀ x ∈ ss, x ∈ WW) ⟨rfl, [], rfl, rfl, by simp⟩ (fun i acc H' ⟨_, ss, e, e', _⟩ => by rw [e]; simp [strsV]; omega) ?_ ?_⟩
    · rintro i c acc H' hc ⟨rfl, ss, rfl, hl, hw⟩
      walk_at "run"
      refine ⟨rfl, ss ++ [⟨#[c]⟩], by simp [strsV], by simp [hl], fun x hx => ?_⟩
      rcases List.mem_append.mp hx with h | h
      · exact hw x h
      · rw [List.mem_singleton.mp h]
        exact z2 c (List.mem_of_getElem? hc)
    rintro acc H' ⟨rfl, ss, rfl, hl, hw⟩ p5 H5 f5 s5 e5
    rw [z1] at hl
    walk_at "run"
    have k5 := k4.same s5
    have n5 : p5 ≠ d := k4.ne f5
    have o05 : Hd d H H5 := o04.trans (same_hd s5)
    have g5 : H p5 = none := o04.free k4 f5
    refine i_seqC (fun σ' H' => ∃ p, WI d n 5 29 H H' p ∧ σ' = [some (.ref d), some (.str "abcdefghijklmnopqrstuvwxyz"), some (.int (m : Nat)), some (.ref p), none]) ?_ ?_
    · walk_at "run"
      refine ite2 (fun hc => ?_) (fun hc => ?_)
      · walk_at "run"
        refine ⟨d, _, rfl, k5, by omega, fun r6 H6 hr6 o6 k6 => ?_⟩
        walk_at "run"
        have e6 := o6.1 _ _ n5 e5
        refine ite2 (fun hc => ?_) (fun hc => ?_)
        · walk_at "run"
          intro p7 H7 f7 s7 e7
          walk_at "run"
          refine ⟨d, _, rfl, k6.same s7, by omega, fun r8 H8 hr8 o8 k8 => ?_⟩
          walk_at "run"
          obtain ⟨a8, ha8, ea8⟩ := mod_nat (r8 : Int) (m := 4) (by decide)
          rw [show (r8 : Int) % 4 = ((a8 : Nat) : Int) from ea8]
          refine i_slL (SqL.of (o8.1 _ _ (k6.ne f7) e7)) ?_
          intro p9 H9 f9 s9 e9
          rw [cut_toV] at e9
          walk_at "run"
          have e9' := s9 _ _ (o8.1 _ _ n5 (s7 _ _ e6))
          refine i_plusL e9' e9 (by simp [strsV]; omega) ?_
          intro p10 H10 f10 s10 e10
          walk_at "run"
          have o09 : Hd d H H9 := o05.trans (o6.trans ((same_hd s7).trans (o8.trans (same_hd s9))))
          have k9 := k8.same s9
          refine ⟨p10, ⟨ss ++ (["aa", "ab", "ba"] : List Str).take a8, _, o09.free k9 f10, o09.trans (same_hd s10), k9.same s10, by omega, ?_, ?_, fun x hx => ?_⟩, rfl⟩
          · rw [e10]
            simp [strsV, List.map_take]
          · rw [List.length_append, List.length_take]
            simp only [List.length_cons, List.length_nil]
            omega
          · rcases List.mem_append.mp hx with h | h
            · exact hw x h
            · have h := List.mem_of_mem_take h
              simp only [List.mem_cons, List.not_mem_nil, or_false] at h
              rcases h with rfl | rfl | rfl <;> decide +kernel
        · walk_at "run"
          exact ⟨p5, ⟨ss, _, g5, o05.trans o6, k6, by omega, e6, by omega, hw⟩, rfl⟩
      · walk_at "run"
        exact ⟨p5, ⟨ss, _, g5, o05, k5, by omega, e5, by omega, hw⟩, rfl⟩
    rintro σ' H6 ⟨p6, ⟨ws6, m6, g6, o6, k6, l6, e6, w6, u6⟩, rfl⟩
    refine i_seqC (fun σ' H' => ∃ p, WI d n 7 29 H H' p ∧ σ' = [some (.ref d), some (.str "abcdefghijklmnopqrstuvwxyz"), some (.int (m : Nat)), some (.ref p), none]) ?_ ?_
    · walk_at "run"
      intro p7 H7 f7 s7 e7
      refine i_neNil (SqL.of (s7 _ _ e6)) (SqL.of e7) ?_
      walk_at "run"
      have n6 : p6 ≠ d := fun e => by
        obtain ⟨l, ms, z, h1, _⟩ := k6
        rw [e, h1] at e6
        cases ws6 <;> simp [strsV] at e6
      have k7 := k6.same s7
      have o07 := o6.trans (same_hd s7)
      have e6' := s7 _ _ e6
      refine ite2 (fun hc => ?_) (fun hc => ?_)
      rotate_left
      · walk_at "run"
        exact ⟨p6, ⟨ws6, _, g6, o07, k7, by omega, e6', w6, u6⟩, rfl⟩
      · have hlen : 0 < ws6.length := by
          cases ws6 with
          | nil => exact absurd hc (by simp [strsV])
          | cons w0 wr => simp
        clear hc
        walk_at "run"
        refine ⟨d, _, rfl, k7, by omega, fun r8 H8 hr8 o8 k8 => ?_⟩
        walk_at "run"
        have e8 := o8.1 _ _ n6 e6'
        refine ite2 (fun hc => ?_) (fun hc => ?_)
        · walk_at "run"
          refine i_tyL (SqL.of e8) ?_
          walk_at "run"
          refine ⟨d, _, rfl, k8, by omega, fun r9 H9 hr9 o9 k9 => ?_⟩
          walk_at "run"
          have e9 := o9.1 _ _ n6 e8
          refine i_lenL (SqL.of e9) ?_
          rw [show (strsV ws6).length = ws6.length by simp [strsV]]
          walk_at "run"
          obtain ⟨a9, ha9, ea9⟩ := mod_nat (r9 : Int) hlen
          rw [ea9]
          obtain ⟨y, hy⟩ : ∃ y, ws6[a9]? = some y := ⟨_, List.getElem?_eq_getElem ha9⟩
          refine ⟨p6, strsV ws6, _, a9, .str y, rfl, rfl, e9, by omega, by omega, ?_, by simp [strsV, hy], ?_⟩
          · rw [show (strsV ws6).length = ws6.length by simp [strsV]]
            unfold seqIndex?
            simp only [show ¬ ((a9 : Int) < 0) by omega, if_false, show (0 : Int) ≤ (a9 : Int) by omega, show (a9 : Int) < (ws6.length : Int) by omega, decide_true, Bool.and_self, if_true, Int.toNat_natCast]
          walk_at "run"
          have hupd : strsV (ws6.eraseIdx a9) = (strsV ws6).eraseIdx a9 := map_erase _ _
          refine ⟨p6, ⟨ws6.eraseIdx a9, m6 + 1 + 1, g6, ?_, ?_, by omega, by rw [upd_same, hupd], ?_, fun x hx => u6 x (List.mem_of_mem_eraseIdx hx)⟩, rfl⟩
          · exact (o07.trans (o8.trans o9)).new g6
          · exact Dk.upd k (o07.trans (o8.trans o9)) g6 k9
          · have := List.length_eraseIdx_le (l := ws6) (i := a9)
            omega
        · walk_at "run"
          exact ⟨p6, ⟨ws6, _, g6, o07.trans o8, k8, by omega, e8, w6, u6⟩, rfl⟩
    rintro σ' H6 ⟨p6, ⟨ws6, m6, g6, o6, k6, l6, e6, w6, u6⟩, rfl⟩
    walk_at "run"
    intro p7 H7 f7 s7 e7
    walk_at "run"
    have n6 : p6 ≠ d := fun e => by
      obtain ⟨l, ms, z, h1, _⟩ := k6
      rw [e, h1] at e6
      cases ws6 <;> simp [strsV] at e6
    have k7 := k6.same s7
    have o07 := o6.trans (same_hd s7)
    have e6' := s7 _ _ e6
    refine ⟨d, _, rfl, k7, by omega, fun r8 H8 hr8 o8 k8 => ?_⟩
    walk_at "run"
    obtain ⟨a8, ha8, ea8⟩ := mod_nat (r8 : Int) (m := 3) (by decide)
    rw [show (r8 : Int) % 3 = ((a8 : Nat) : Int) from ea8]
    have n7 : p7 ≠ d := k6.ne f7
    have e8 := o8.1 _ _ n7 e7
    walk_at "run"
    refine cc_range (n := a8) (by omega) (fun i acc H' => i ≤ a8 ∧ Hd d H8 H' ∧ Dk H' d (m6 + 1 + i) ∧ ∃ ss, acc = strsV ss ∧ ss.length = i ∧ ∀ x ∈ ss, x ∈ WW) ⟨Nat.zero_le _, Hd.refl, k8, [], rfl, rfl, by simp⟩ (fun i acc H' ⟨_, _, _, ss, e, e', _⟩ => by rw [e]; simp [strsV]; omega) ?_ ?_
    · rintro i acc H9 hi ⟨_, o9, k9, ss, rfl, hl, hw⟩
      walk_at "run"
      refine ⟨d, _, rfl, k9, by omega, fun r10 H10 hr10 o10 k10 => ?_⟩
      walk_at "run"
      obtain ⟨a10, ha10, ea10⟩ := mod_nat (r10 : Int) (m := 4) (by decide)
      rw [show (r10 : Int) % 4 = ((a10 : Nat) : Int) from ea10]
      obtain ⟨y, hy, hyw⟩ := at4s ha10
      refine i_ixL (SqL.of ((o9.trans o10).1 _ _ n7 e8)) hy ?_
      refine ⟨hi, o9.trans o10, k10, ss ++ [y], by simp [strsV], by simp [hl], fun x hx => ?_⟩
      rcases List.mem_append.mp hx with h | h
      · exact hw x h
      · rw [List.mem_singleton.mp h]
        exact hyw
    rintro acc H9 ⟨_, o9, k9, ss, rfl, hl, hw⟩ p10 H10 f10 s10 e10
    walk_at "run"
    have e69 := (o8.trans o9).1 _ _ n6 e6'
    refine i_plusL (s10 _ _ e69) e10 (by simp [strsV]; omega) ?_
    intro p11 H11 f11 s11 e11
    walk_at "run"
    have oA : Hd d H H9 := o07.trans (o8.trans o9)
    have k10 := k9.same s10
    have oB := oA.trans (same_hd s10)
    refine q p11 (ws6 ++ ss) _ H11 (oB.free k10 f11) (oB.trans (same_hd s11)) (k10.same s11) (by omega) (by rw [e11]; simp [strsV]) (by rw [List.length_append]; omega) fun x hx => ?_
    rcases List.mem_append.mp hx with h | h
    · exact u6 x h
    · exact hw x h
theorem mk_key {H : Hp} {a : Addr} {k : Int} (e : H a = some (.tup [.str "key", .int k])) : PAt H (.ref a) (keyP k) := by
  unfold PAt keyP
  simp only [List.map_cons, List.map_nil, Pt.tr]
  exact at_tup0.mpr ⟨a, _, rfl, e, ats_cons0.mpr ⟨_, _, rfl, at_str0.mpr rfl, ats_cons0.mpr ⟨_, _, rfl, at_int0.mpr rfl, ats_nil0.mpr rfl⟩⟩⟩
theorem mk_word {H : Hp} {a : Addr} {k : Str} (e : H a = some (.tup [.str "word", .str k])) : PAt H (.ref a) (wordP k) := by
  unfold PAt wordP
  simp only [List.map_cons, List.map_nil, Pt.tr]
  exact at_tup0.mpr ⟨a, _, rfl, e, ats_cons0.mpr ⟨_, _, rfl, at_str0.mpr rfl, ats_cons0.mpr ⟨_, _, rfl, at_str0.mpr rfl, ats_nil0.mpr rfl⟩⟩⟩
theorem mk_one {H : Hp} {a : Addr} {k : Str} (e : H a = some (.tup [.str k])) : PAt H (.ref a) [.s k] := by
  unfold PAt
  simp only [List.map_cons, List.map_nil, Pt.tr]
  exact at_tup0.mpr ⟨a, _, rfl, e, ats_cons0.mpr ⟨_, _, rfl, at_str0.mpr rfl, ats_nil0.mpr rfl⟩⟩
theorem PAt.tups {H H' : Hp} {v : V} {p : List Pt} (h : PAt H v p) (s : Tups H H') : PAt H' v p := tr_tups h s
theorem Hd.tups {H H' : Hp} {d : Addr} {n : Nat} (s : Hd d H H') (k : Dk H d n) : Tups H H' := fun b xs e => s.1 b _ (fun h => by
  obtain ⟨l, ms, z, h1, _⟩ := k
  rw [h, h1] at e
  cases e) e
def PsOk (H : Hp) (us : List V) (ps : List (List Pt)) : Prop := Each (PAt H) us ps ∧ ∀ p ∈ ps, PatOk p
theorem PsOk.tups {H H' : Hp} {us : List V} {ps : List (List Pt)} (h : PsOk H us ps) (s : Tups H H') : PsOk H' us ps := ⟨h.1.mono fun v x h => PAt.tups h s, h.2⟩
theorem PsOk.app {H : Hp} {us vs : List V} {ps qs : List (List Pt)} (h : PsOk H us ps) (k : PsOk H vs qs) : PsOk H (us ++ vs) (ps ++ qs) := ⟨h.1.append k.1, fun p hp => by
  rcases List.mem_append.mp hp with e | e
  · exact h.2 p e
  · exact k.2 p e⟩
theorem PsOk.nil {H : Hp} : PsOk H [] [] := ⟨Each.nil, by simp⟩
theorem PsOk.one {H : Hp} {v : V} {p : List Pt} (h : PAt H v p) (k : PatOk p) : PsOk H [v] [p] := ⟨Each.nil.snoc h, fun q hq => by rw [List.mem_singleton.mp hq]; exact k⟩
theorem PsOk.rep {H : Hp} {v : V} {p : List Pt} (h : PAt H v p) (k : PatOk p) : ∀ n : Nat, PsOk H (List.replicate n [v]).flatten (List.replicate n p)
  | 0 => PsOk.nil
  | n + 1 => by
    rw [List.replicate_succ, List.flatten_cons, List.replicate_succ]
    exact (PsOk.one h k).app (PsOk.rep h k n)
theorem PsOk.take {H : Hp} {us : List V} {ps : List (List Pt)} (h : PsOk H us ps) (n : Nat) : PsOk H (us.take n) (ps.take n) := ⟨h.1.take n, fun p hp => h.2 p (List.mem_of_mem_take hp)⟩
theorem PsOk.drop {H : Hp} {us : List V} {ps : List (List Pt)} (h : PsOk H us ps) (n : Nat) : PsOk H (us.drop n) (ps.drop n) := ⟨⟨by simp [h.1.1], fun j v x h1 h2 => by
  rw [List.getElem?_drop] at h1 h2
  exact h.1.2 _ v x h1 h2⟩, fun p hp => h.2 p (List.mem_of_mem_drop hp)⟩
def ptT (p : List Pt) : Tr := .tup (p.map Pt.tr)
theorem PsOk.ats {H : Hp} : ∀ {us : List V} {ps : List (List Pt)}, PsOk H us ps → Tr.Ats H (ps.map ptT) us []
  | [], [], _ => ats_nil0.mpr rfl
  | v :: us, p :: ps, h => by
    rw [List.map_cons]
    exact ats_cons0.mpr ⟨v, us, rfl, h.1.2 0 v p rfl rfl, PsOk.ats ⟨⟨by simpa using h.1.1, fun j a b e1 e2 => h.1.2 (j + 1) a b (by simpa using e1) (by simpa using e2)⟩, fun q hq => h.2 q (List.mem_cons_of_mem _ hq)⟩⟩
  | [], p :: ps, h => absurd h.1.1 (by simp)
  | v :: us, [], h => absurd h.1.1 (by simp)
theorem pat_h {p : List Pt} (h : PatOk p) : (ptT p).h ≤ 20 := by
  cases h <;> simp [ptT, keyP, wordP, Pt.tr, Tr.h, Tr.hs]
theorem pats_hs : ∀ {ps : List (List Pt)}, (∀ p ∈ ps, PatOk p) → Tr.hs (ps.map ptT) ≤ 20
  | [], _ => by simp [Tr.hs]
  | p :: ps, h => by
    rw [List.map_cons, Tr.hs]
    have := pat_h (h p (by simp))
    have := pats_hs (ps := ps) fun q hq => h q (List.mem_cons_of_mem _ hq)
    omega
theorem PsOk.len {H : Hp} {us : List V} {ps : List (List Pt)} (h : PsOk H us ps) : us.length = ps.length := h.1.1
def sp_pattern (K : PySem.W.Frag) : Sp := fun vs H Q _ => ∃ (d : Addr) (n : Nat), vs = [.ref d] ∧ Dk H d n ∧ n ≤ 80000 ∧ ∀ p us ps m H', H p = none → Hd d H H' → Dk H' d m → m ≤ n + 200 → H' p = some (.lst us) → PsOk H' us ps → ps.length ≤ 60 → Q (.ref p) H'
theorem ok_law_patterns (T : Txt K mg t) : FnOk P w K mg base CX0 3 t.a__law_patterns t.fd__law_patterns ["deck"] (sp_pattern K) := by
  have G__law_next := ok_law_next (P := P) (w := w) (base := base) T
  have G__law_words := ok_law_words (P := P) (w := w) (base := base) T
  refine T.F__law_patterns.ok sc_law_patterns (fun vs H Q E h => ?_) (fun cdv A outer s H vs Q E hr h => ?_)
  · obtain ⟨d, n, rfl, _⟩ := h
    rfl
  · obtain ⟨d, n, rfl, k, hn, q⟩ := h
    refine ⟨_, (@pss_cons _ _ _ _ _ (@ps_set _ _ 1 _ _ _ _ sc_law_patterns.nd rfl (by first | exact Or.inl rfl | exact Or.inr rfl) (@pe_callTy _ _ _ _ _ _ _ _ _ (cl_listR rfl) (by rfl) T.z_list bb_list (@pa_cons _ _ _ _ _ (@pe_callTy _ _ _ _ _ _ _ _ _ cl_range1 (by rfl) T.z_range bb_range (@pa_cons _ _ _ _ _ (@pe_int _ _ _ _) (@pa_nil _) (by rfl)) (by decide) (by decide) (by rfl) (by rfl)) (@pa_nil _) (by rfl)) (by decide) (by decide) (by rfl) (by rfl)) (by rfl) (by first | exact Or.inl rfl | exact Or.inr rfl))
      (@pss_consC _ _ _ _ _ (@ps_if _ _ _ _ _ _ _ _ (@pt_cmpR _ _ _ _ _ _ _ _ op_gt (@pe_op _ _ _ _ _ _ _ _ op_mod (@pe_call _ _ _ _ _ _ _ _ _ _ _ _ _ _ _ _ G__law_next (hr.mono (by omega)) rfl T.m__law_next T.F__law_next.kp T.b__law_next .nil pass0 (@pa_cons _ _ _ _ _ (pv 0) (@pa_nil _) (by rfl)) (by decide) (by rfl) (by rfl)) (@pe_int _ _ _ _)) (@pe_int _ _ _ _) (nomark _)) (@pss_one _ _ _ (ps_lc (i := 1) (Nt := ["k"]) (Nf := ["deck"]) (caps := [0]) rfl (comp_ok (sc := defScope s_law_patterns) rfl rfl (by decide +kernel) (by decide +kernel) (by decide +kernel) rfl (by decide +kernel)) (pi_range1 rfl T.z_range (@pa_cons _ _ _ _ _ (@pe_op _ _ _ _ _ _ _ _ op_mod (@pe_call _ _ _ _ _ _ _ _ _ _ _ _ _ _ _ _ G__law_next (hr.mono (by omega)) rfl T.m__law_next T.F__law_next.kp T.b__law_next .nil pass0 (@pa_cons _ _ _ _ _ (pv 0) (@pa_nil _) (by rfl)) (by decide) (by rfl) (by rfl)) (@pe_int _ _ _ _)) (@pa_nil _) (by rfl))) (fun _ _ _ _ _ => (pg_name (i := 0) (show (["k", "deck"] : List Str).Nodup by decide +kernel) rfl (by first | exact Or.inl rfl | exact Or.inr rfl))) (fun _ _ _ _ _ => (@pts_nil _)) (fun _ _ _ _ _ => (@pe_op _ _ _ _ _ _ _ _ op_mod (@pe_call _ _ _ _ _ _ _ _ _ _ _ _ _ _ _ _ G__law_next (hr.mono (by omega)) rfl T.m__law_next T.F__law_next.kp T.b__law_next .nil pass0 (@pa_cons _ _ _ _ _ (pv 1) (@pa_nil _) (by rfl)) (by decide) (by rfl) (by rfl)) (@pe_int _ _ _ _))) sc_law_patterns.nd rfl (by first | exact Or.inl rfl | exact Or.inr rfl) rfl)) (@pss_nil _))
      (@pss_cons _ _ _ _ _ (@ps_set _ _ 2 _ _ _ _ sc_law_patterns.nd rfl (by first | exact Or.inl rfl | exact Or.inr rfl) (@pe_op _ _ _ _ _ _ _ _ op_plus (pe_lc (Nt := ["key"]) (Nf := []) (caps := []) rfl (comp_ok (sc := defScope s_law_patterns) rfl rfl (by decide +kernel) (by decide +kernel) (by decide +kernel) rfl (by decide +kernel)) (kpi_list K (pv 1)) (fun _ _ _ _ _ => (pg_name (i := 0) (show (["key"] : List Str).Nodup by decide +kernel) rfl (by first | exact Or.inl rfl | exact Or.inr rfl))) (fun _ _ _ _ _ => (@pts_nil _)) (fun _ _ _ _ _ => (@pe_tupN _ _ _ _ _ (@pa_cons _ _ _ _ _ (@pe_str _ _ _ _) (@pa_cons _ _ _ _ _ (pv 0) (@pa_nil _) (by rfl)) (by rfl))))) (pe_lc (Nt := ["word"]) (Nf := []) (caps := []) rfl (comp_ok (sc := defScope s_law_patterns) rfl rfl (by decide +kernel) (by decide +kernel) (by decide +kernel) rfl (by decide +kernel)) (kpi_list K (@pe_call _ _ _ _ _ _ _ _ _ _ _ _ _ _ _ _ G__law_words (hr.mono (by omega)) rfl T.m__law_words T.F__law_words.kp T.b__law_words .nil pass0 (@pa_cons _ _ _ _ _ (pv 0) (@pa_nil _) (by rfl)) (by decide) (by rfl) (by rfl))) (fun _ _ _ _ _ => (pg_name (i := 0) (show (["word"] : List Str).Nodup by decide +kernel) rfl (by first | exact Or.inl rfl | exact Or.inr rfl))) (fun _ _ _ _ _ => (@pts_nil _)) (fun _ _ _ _ _ => (@pe_tupN _ _ _ _ _ (@pa_cons _ _ _ _ _ (@pe_str _ _ _ _) (@pa_cons _ _ _ _ _ (pv 0) (@pa_nil _) (by rfl)) (by rfl)))))) (by rfl) (by first | exact Or.inl rfl | exact Or.inr rfl))
      (@pss_cons _ _ _ _ _ (@ps_set _ _ 2 _ _ _ _ sc_law_patterns.nd rfl (by first | exact Or.inl rfl | exact Or.inr rfl) (@pe_op _ _ _ _ _ _ _ _ op_plus (pv 2) (@pe_op _ _ _ _ _ _ _ _ kop_repN (@pe_lstN _ _ _ _ (@pa_cons _ _ _ _ _ (@pe_tupN _ _ _ _ _ (@pa_cons _ _ _ _ _ (@pe_str _ _ _ _) (@pa_nil _) (by rfl))) (@pa_nil _) (by rfl))) (@pe_op _ _ _ _ _ _ _ _ op_mod (@pe_call _ _ _ _ _ _ _ _ _ _ _ _ _ _ _ _ G__law_next (hr.mono (by omega)) rfl T.m__law_next T.F__law_next.kp T.b__law_next .nil pass0 (@pa_cons _ _ _ _ _ (pv 0) (@pa_nil _) (by rfl)) (by decide) (by rfl) (by rfl)) (@pe_int _ _ _ _)))) (by rfl) (by first | exact Or.inl rfl | exact Or.inr rfl))
      (@pss_cons _ _ _ _ _ (@ps_set _ _ 2 _ _ _ _ sc_law_patterns.nd rfl (by first | exact Or.inl rfl | exact Or.inr rfl) (@pe_op _ _ _ _ _ _ _ _ op_plus (pv 2) (@pe_op _ _ _ _ _ _ _ _ kop_repN (@pe_lstN _ _ _ _ (@pa_cons _ _ _ _ _ (@pe_tupN _ _ _ _ _ (@pa_cons _ _ _ _ _ (@pe_str _ _ _ _) (@pa_nil _) (by rfl))) (@pa_nil _) (by rfl))) (@pe_op _ _ _ _ _ _ _ _ op_mod (@pe_call _ _ _ _ _ _ _ _ _ _ _ _ _ _ _ _ G__law_next (hr.mono (by omega)) rfl T.m__law_next T.F__law_next.kp T.b__law_next .nil pass0 (@pa_cons _ _ _ _ _ (pv 0) (@pa_nil _) (by rfl)) (by decide) (by rfl) (by rfl)) (@pe_int _ _ _ _)))) (by rfl) (by first | exact Or.inl rfl | exact Or.inr rfl))
      (@pss_cons _ _ _ _ _ (@ps_set _ _ 3 _ _ _ _ sc_law_patterns.nd rfl (by first | exact Or.inl rfl | exact Or.inr rfl) (@pe_lstN _ _ _ _ (@pa_nil _)) (by rfl) (by first | exact Or.inl rfl | exact Or.inr rfl))
      (@pss_cons _ _ _ _ _ (@ps_for _ _ _ _ _ _ _ _ PassesOwn.never rfl (kpi_list K (pv 2)) (pg_name (i := 4) sc_law_patterns.nd rfl (by first | exact Or.inl rfl | exact Or.inr rfl)) (@pss_one _ _ _ (@ps_if _ _ _ _ _ _ _ _ (@pt_cmpR _ _ _ _ _ _ _ _ (kop_notInF K (by exact hr.units)) (pv 4) (pv 3) (by with_unfolding_all rfl)) (@pss_one _ _ _ (@ps_expr _ _ _ _ (@kpe_bm _ K _ _ _ _ _ _ _ _ _ _ _ PySem.F.plainAttrs_list PySem.F.slot_list_insert PySem.F.type_list_insert mt_insertN (pv 3) (@pa_cons _ _ _ _ _ (@pe_op _ _ _ _ _ _ _ _ op_mod (@pe_call _ _ _ _ _ _ _ _ _ _ _ _ _ _ _ _ G__law_next (hr.mono (by omega)) rfl T.m__law_next T.F__law_next.kp T.b__law_next .nil pass0 (@pa_cons _ _ _ _ _ (pv 0) (@pa_nil _) (by rfl)) (by decide) (by rfl) (by rfl)) (@pe_op _ _ _ _ _ _ _ _ op_plus (@pe_callB _ _ _ _ _ _ _ _ _ (kcl_len K) (by rfl) T.z_len bb_len (@pa_cons _ _ _ _ _ (pv 3) (@pa_nil _) (by rfl)) (by decide) (by decide) (by rfl) (by rfl)) (@pe_int _ _ _ _))) (@pa_cons _ _ _ _ _ (pv 4) (@pa_nil _) (by rfl)) (by rfl)) (by rfl) (by rfl) (by rfl) (by rfl) (by rfl) (by rfl)) (by rfl))) (@pss_nil _))) (by intro _; rfl))
      (@pss_one _ _ _ (@ps_ret _ _ _ _ (pv 3)))))))))), ?_⟩
    have sl : (1000000 : Nat) ≤ sizeLine := le_line (Nat.le_refl _)
    walk_at "go"
    refine i_range1 (by decide) ?_
    intro p1 H1 f1 s1 e1
    walk_at "run"
    refine i_listR (n := 10) e1 (by omega) ?_
    intro p2 H2 f2 s2 e2
    have e2' : H2 p2 = some (.lst (intsV allK)) := e2
    walk_at "run"
    have s02 := s1.trans s2
    refine i_seqC (fun σ' H' => ∃ p ks m, Hd d H H' ∧ Dk H' d m ∧ m ≤ n + 10 ∧ H' p = some (.lst (intsV ks)) ∧ ks.length ≤ 10 ∧ p ≠ d ∧ (∀ x ∈ ks, 0 ≤ x ∧ x < 10) ∧ σ' = [some (.ref d), some (.ref p), none, none, none]) ?_ ?_
    · walk_at "run"
      refine ⟨d, n, rfl, k.same s02, by omega, fun r3 H3 hr3 o3 k3 => ?_⟩
      walk_at "run"
      have n2 : p2 ≠ d := k.ne (s1.free f2)
      refine ite2 (fun hc => ?_) (fun hc => ?_)
      · walk_at "run"
        refine ⟨d, _, rfl, k3, by omega, fun r4 H4 hr4 o4 k4 => ?_⟩
        walk_at "run"
        obtain ⟨a4, ha4, ea4⟩ := mod_nat (r4 : Int) (m := 5) (by decide)
        rw [show (r4 : Int) % 5 = ((a4 : Nat) : Int) from ea4]
        walk_at "run"
        refine cc_range (n := a4) (by omega) (fun i acc H' => i ≤ a4 ∧ Hd d H4 H' ∧ Dk H' d (n + 1 + 1 + i) ∧ ∃ ks, acc = intsV ks ∧ ks.length = i ∧ ∀ x ∈ ks, 0 ≤ x ∧ x < 10) ⟨Nat.zero_le _, Hd.refl, k4, [], rfl, rfl, by simp⟩ (fun i acc H' ⟨_, _, _, ss, e, e', _⟩ => by rw [e]; simp [intsV]; omega) ?_ ?_
        · rintro i acc H5 hi ⟨_, o5, k5, ks, rfl, hl, hw⟩
          walk_at "run"
          refine ⟨d, _, rfl, k5, by omega, fun r6 H6 hr6 o6 k6 => ?_⟩
          walk_at "run"
          refine ⟨hi, o5.trans o6, k6, ks ++ [_], by simp [intsV]; rfl, by simp [hl], fun x hx => ?_⟩
          rcases List.mem_append.mp hx with h | h
          · exact hw x h
          · rw [List.mem_singleton.mp h]
            omega
        rintro acc H5 ⟨_, o5, k5, ks, rfl, hl, hw⟩ p6 H6 f6 s6 e6
        walk_at "run"
        exact ⟨p6, ks, _, (same_hd s02).trans (o3.trans (o4.trans (o5.trans (same_hd s6)))), k5.same s6, by omega, e6, by omega, k5.ne f6, hw, rfl⟩
      · walk_at "run"
        refine ⟨p2, allK, _, (same_hd s02).trans o3, k3, by omega, o3.1 _ _ n2 e2', by decide, n2, fun x hx => ?_, rfl⟩
        obtain ⟨y, hy, rfl⟩ := List.mem_map.mp hx
        have := List.mem_range.mp hy
        omega
    rintro σ' H3 ⟨p, ks, m, o3, k3, hm, e3, hl, np, hks, rfl⟩
    walk_at "run"
    refine ⟨⟨_, SqL.of e3⟩, cc_list (xs := intsV ks) (by simp [intsV]; omega) (fun i acc H' => i ≤ ks.length ∧ Same H3 H' ∧ PsOk H' acc ((ks.take i).map keyP)) ⟨Nat.zero_le _, Same.refl _, PsOk.nil⟩ (fun i acc H' ⟨_, s', e⟩ => ⟨by rw [e.len]; simp; omega, SqL.of (s' _ _ e3)⟩) ?_ ?_⟩
    · rintro i v acc H4 hv ⟨hi, t2, hat⟩
      unfold intsV at hv
      rw [List.getElem?_map] at hv
      obtain ⟨x, hx, rfl⟩ := Option.map_eq_some_iff.mp hv
      walk_at "run"
      intro q2 H5 g2 t3 d3
      refine ⟨(List.getElem?_eq_some_iff.mp hx).1, t2.trans t3, ?_⟩
      rw [List.take_add_one, hx, Option.toList_some, List.map_append]
      have hb := hks x (List.mem_of_getElem? hx)
      exact (hat.tups t3.tups).app (PsOk.one (mk_key d3) (.key x hb.1 hb.2))
    rintro acc H4 ⟨_, t2, hat⟩ p5 H5 f5 s5 e5
    rw [show (intsV ks).length = ks.length by simp [intsV], List.take_length] at hat
    have hat5 := hat.tups s5.tups
    have k5 := k3.same (t2.trans s5)
    have o5 := o3.trans (same_hd (t2.trans s5))
    have n5 : p5 ≠ d := (k3.same t2).ne f5
    clear hat
    walk_at "run"
    refine ⟨d, _, rfl, k5, by omega, fun p6 ws m6 H6 f6 o6 k6 l6 e6 w6 u6 => ?_⟩
    walk_at "run"
    have n6 : p6 ≠ d := k5.ne f6
    refine ⟨⟨_, SqL.of e6⟩, cc_list (xs := strsV ws) (by simp [strsV]; omega) (fun i acc H' => i ≤ ws.length ∧ Same H6 H' ∧ PsOk H' acc ((ws.take i).map wordP)) ⟨Nat.zero_le _, Same.refl _, PsOk.nil⟩ (fun i acc H' ⟨_, s', e⟩ => ⟨by rw [e.len]; simp; omega, SqL.of (s' _ _ e6)⟩) ?_ ?_⟩
    · rintro i v acc H7 hv ⟨hi, t2, hat⟩
      unfold strsV at hv
      rw [List.getElem?_map] at hv
      obtain ⟨x, hx, rfl⟩ := Option.map_eq_some_iff.mp hv
      walk_at "run"
      intro q2 H8 g2 t3 d3
      refine ⟨(List.getElem?_eq_some_iff.mp hx).1, t2.trans t3, ?_⟩
      rw [List.take_add_one, hx, Option.toList_some, List.map_append]
      exact (hat.tups t3.tups).app (PsOk.one (mk_word d3) (.word x (u6 x (List.mem_of_getElem? hx))))
    rintro acc7 H7 ⟨_, t7, hat7⟩ p8 H8 f8 s8 e8
    rw [show (strsV ws).length = ws.length by simp [strsV], List.take_length] at hat7
    have e58 := (t7.trans s8) _ _ (o6.1 _ _ n5 e5)
    have hat58 := hat5.tups (fun b xs e => (t7.trans s8) _ _ (o6.tups k5 b xs e))
    have hat8 := hat7.tups s8.tups
    clear hat7 hat5
    walk_at "run"
    refine i_plusL e58 e8 (by rw [hat58.len, hat8.len]; simp; omega) ?_
    intro p9 H9 f9 s9 e9
    have ps9 := (hat58.app hat8).tups s9.tups
    have len9 : ((ks.map keyP) ++ (ws.map wordP)).length ≤ 50 := by simp; omega
    have k8 := k6.same (t7.trans s8)
    have n9 : p9 ≠ d := k8.ne f9
    have k9 := k8.same s9
    have o9 := (o5.trans o6).trans (same_hd (t7.trans (s8.trans s9)))
    generalize ks.map keyP ++ ws.map wordP = ps at ps9 len9
    generalize acc ++ acc7 = us9 at ps9 e9
    clear hat58 hat8 e58
    walk_at "run"
    intro p10 H10 f10 s10 e10
    walk_at "run"
    intro p11 H11 f11 s11 e11
    walk_at "run"
    have s10a := s10.trans s11
    have k11 := k9.same s10a
    have n11 : p11 ≠ d := (k9.same s10).ne f11
    refine ⟨d, _, rfl, k11, by omega, fun r12 H12 hr12 o12 k12 => ?_⟩
    walk_at "run"
    obtain ⟨a12, ha12, ea12⟩ := mod_nat (r12 : Int) (m := 2) (by decide)
    rw [show (r12 : Int) % 2 = ((a12 : Nat) : Int) from ea12]
    refine ⟨p11, _, _, rfl, rfl, o12.1 _ _ n11 e11, by omega, by omega, by rw [Int.toNat_natCast]; simp only [List.length_singleton]; omega, ?_⟩
    rw [Int.toNat_natCast]
    intro p13 H13 f13 s13 e13
    have T10 : Tups H9 H13 := fun b xs e => s13 _ _ (o12.tups k11 b xs (s10a _ _ e))
    have rp10 := PsOk.rep (mk_one (s13 _ _ (o12.tups k11 _ _ (s11 _ _ e10)))) .other a12
    have e9b := s13 _ _ (o12.1 _ _ n9 (s10a _ _ e9))
    walk_at "run"
    refine i_plusL e9b e13 (by rw [rp10.len, ps9.len, List.length_replicate]; omega) ?_
    intro p14 H14 f14 s14 e14
    have ps14 := ((ps9.tups T10).app rp10).tups s14.tups
    have len14 : (ps ++ List.replicate a12 [Pt.s (Str.ofString "other")]).length ≤ 51 := by rw [List.length_append, List.length_replicate]; omega
    have k13 := k12.same s13
    have n14 : p14 ≠ d := k13.ne f14
    have k14 := k13.same s14
    have o14 := (o9.trans (same_hd s10a)).trans (o12.trans (same_hd (s13.trans s14)))
    generalize ps ++ List.replicate a12 [Pt.s (Str.ofString "other")] = ps14s at ps14 len14
    generalize us9 ++ (List.replicate a12 [V.ref p10]).flatten = us14 at ps14 e14
    clear rp10 T10
    walk_at "run"
    intro p15 H15 f15 s15 e15
    walk_at "run"
    intro p16 H16 f16 s16 e16
    walk_at "run"
    have s15a := s15.trans s16
    have k16 := k14.same s15a
    have n16 : p16 ≠ d := (k14.same s15).ne f16
    refine ⟨d, _, rfl, k16, by omega, fun r17 H17 hr17 o17 k17 => ?_⟩
    walk_at "run"
    obtain ⟨a17, ha17, ea17⟩ := mod_nat (r17 : Int) (m := 2) (by decide)
    rw [show (r17 : Int) % 2 = ((a17 : Nat) : Int) from ea17]
    refine ⟨p16, _, _, rfl, rfl, o17.1 _ _ n16 e16, by omega, by omega, by rw [Int.toNat_natCast]; simp only [List.length_singleton]; omega, ?_⟩
    rw [Int.toNat_natCast]
    intro p18 H18 f18 s18 e18
    have T15 : Tups H14 H18 := fun b xs e => s18 _ _ (o17.tups k16 b xs (s15a _ _ e))
    have rp15 := PsOk.rep (mk_one (s18 _ _ (o17.tups k16 _ _ (s16 _ _ e15)))) .non a17
    have e14b := s18 _ _ (o17.1 _ _ n14 (s15a _ _ e14))
    walk_at "run"
    refine i_plusL e14b e18 (by rw [rp15.len, ps14.len, List.length_replicate]; omega) ?_
    intro p19 H19 f19 s19 e19
    have ps19 := ((ps14.tups T15).app rp15).tups s19.tups
    have len19 : (ps14s ++ List.replicate a17 [Pt.s (Str.ofString "none")]).length ≤ 52 := by rw [List.length_append, List.length_replicate]; omega
    have k18 := k17.same s18
    have n19 : p19 ≠ d := k18.ne f19
    have k19 := k18.same s19
    have o19 := (o14.trans (same_hd s15a)).trans (o17.trans (same_hd (s18.trans s19)))
    generalize ps14s ++ List.replicate a17 [Pt.s (Str.ofString "none")] = ps19s at ps19 len19
    generalize us14 ++ (List.replicate a17 [V.ref p15]).flatten = us19 at ps19 e19
    clear rp15 T15
    walk_at "run"
    intro p20 H20 f20 s20 e20
    walk_at "run"
    have ul := ps19.len
    have n20 : p20 ≠ d := k19.ne f20
    refine ⟨⟨_, SqL.of (s20 _ _ e19)⟩, for_list (K := K) (a := p19) (xs := us19) (fun i σ H' => i ≤ us19.length ∧ Hd d H19 H' ∧ (∃ m' vs qs, Dk H' d m' ∧ m' ≤ m6 + 1 + 1 + i ∧ H' p20 = some (.lst vs) ∧ PsOk H' vs qs ∧ qs.length ≤ i) ∧ ∃ y, σ = [some (.ref d), some (.ref p), some (.ref p19), some (.ref p20), y]) ⟨Nat.zero_le _, same_hd s20, ⟨_, [], [], k19.same s20, Nat.le_refl _, e20, PsOk.nil, Nat.le_refl _⟩, _, rfl⟩ (fun i σ H' _ ⟨_, o', _⟩ => SqL.of (o'.1 _ _ n19 e19)) ?_ ?_⟩
    · rintro i v σ H21 hv ⟨hi, o21, ⟨m21, vs, qs, k21, l21, e21, h21, c21⟩, y, rfl⟩
      have hi' := (List.getElem?_eq_some_iff.mp hv).1
      obtain ⟨px, hpx⟩ : ∃ px, ps19s[i]? = some px := ⟨_, List.getElem?_eq_getElem (by omega)⟩
      have hvx : PAt H21 v px := PAt.tups (ps19.1.2 i v px hv hpx) (o21.tups k19)
      have okx := ps19.2 px (List.mem_of_getElem? hpx)
      have vl := h21.len
      walk_at "run"
      refine i_notInF (t := ptT px) hvx (SqL.of e21) h21.ats (pat_h okx) (pats_hs h21.2) ?_
      walk_at "run"
      refine ite2 (fun hc => ?_) (fun hc => ?_)
      · walk_at "run"
        refine i_tyL (SqL.of e21) ?_
        walk_at "run"
        refine ⟨d, _, rfl, k21, by omega, fun r22 H22 hr22 o22 k22 => ?_⟩
        walk_at "run"
        have e22 := o22.1 _ _ n20 e21
        have T22 := o22.tups k21
        refine i_lenL (SqL.of e22) ?_
        walk_at "run"
        obtain ⟨a22, ha22, ea22⟩ := mod_nat (r22 : Int) (m := vs.length + 1) (by omega)
        rw [show (r22 : Int) % ((vs.length : Int) + 1) = ((a22 : Nat) : Int) from ea22]
        refine ⟨p20, vs, v, a22, _, rfl, rfl, rfl, e22, by omega, by omega, ?_⟩
        walk_at "run"
        have T23 : Tups H22 (upd H22 p20 (.lst (vs.take a22 ++ v :: vs.drop a22))) := fun b xs e => by rw [upd_ne (ne_of e e22 (fun z => nomatch z))]; exact e
        have o23 := (o21.trans o22).new (o := .lst (vs.take a22 ++ v :: vs.drop a22)) f20
        refine ⟨hi', o23, ⟨_, _, qs.take a22 ++ px :: qs.drop a22, Dk.upd k19 (o21.trans o22) f20 k22, by omega, upd_same, ?_, ?_⟩, _, rfl⟩
        · have h22 := (h21.tups T22).tups T23
          have hx := PsOk.one ((hvx.tups T22).tups T23) okx
          have := (h22.take a22).app (hx.app (h22.drop a22))
          simpa using this
        · simp only [List.length_append, List.length_take, List.length_cons, List.length_drop]
          omega
      · walk_at "run"
        exact ⟨hi', o21, ⟨m21, vs, qs, k21, by omega, e21, h21, by omega⟩, _, rfl⟩
    · rintro σ H21 ⟨hi, o21, ⟨m21, vs, qs, k21, l21, e21, h21, c21⟩, y, rfl⟩
      walk_at "run"
      exact q p20 vs qs m21 H21 (o19.free k19 f20) (o19.trans o21) k21 (by omega) e21 h21 (by omega)
def PtsAt (H : Hp) (p : Addr) (a b : List (List Pt)) : Prop := ∃ l1 l2 us vs, H p = some (.lst [.ref l1, .ref l2]) ∧ H l1 = some (.lst us) ∧ H l2 = some (.lst vs) ∧ PsOk H us a ∧ PsOk H vs b
theorem PtsAt.same {H H' : Hp} {p : Addr} {a b : List (List Pt)} (h : PtsAt H p a b) (s : Same H H') : PtsAt H' p a b := by
  obtain ⟨l1, l2, us, vs, e, e1, e2, h1, h2⟩ := h
  exact ⟨l1, l2, us, vs, s _ _ e, s _ _ e1, s _ _ e2, h1.tups s.tups, h2.tups s.tups⟩
theorem hd_tups {H : Hp} {d : Addr} {n : Nat} (k : Dk H d n) : Tups H (hd d H) := fun b xs e => by
  rw [hd_ne (fun h => by
    obtain ⟨l, ms, z, h1, _⟩ := k
    rw [h, h1] at e
    cases e)]
  exact e
def sp_parts (K : PySem.W.Frag) : Sp := fun vs H Q _ => ∃ (d : Addr) (n : Nat), vs = [.ref d] ∧ Dk H d n ∧ n ≤ 70000 ∧ ∀ p a b m H', Hd d H H' → Dk H' d m → m ≤ n + 300 → PtsAt (hd d H') p a b → a.length + b.length ≤ 60 → Q (.ref p) H'
theorem ok_law_parts (T : Txt K mg t) : FnOk P w K mg base CX0 4 t.a__law_parts t.fd__law_parts ["deck"] (sp_parts K) := by
  have G__law_next := ok_law_next (P := P) (w := w) (base := base) T
  have G__law_patterns := ok_law_patterns (P := P) (w := w) (base := base) T
  refine T.F__law_parts.ok sc_law_parts (fun vs H Q E h => ?_) (fun cdv A outer s H vs Q E hr h => ?_)
  · obtain ⟨d, n, rfl, _⟩ := h
    rfl
  · obtain ⟨d, n, rfl, k, hn, q⟩ := h
    refine ⟨_, (@pss_cons _ _ _ _ _ (@ps_set _ _ 1 _ _ _ _ sc_law_parts.nd rfl (by first | exact Or.inl rfl | exact Or.inr rfl) (@pe_call _ _ _ _ _ _ _ _ _ _ _ _ _ _ _ _ G__law_patterns (hr.mono (by omega)) rfl T.m__law_patterns T.F__law_patterns.kp T.b__law_patterns .nil pass0 (@pa_cons _ _ _ _ _ (pv 0) (@pa_nil _) (by rfl)) (by decide) (by rfl) (by rfl)) (by rfl) (by first | exact Or.inl rfl | exact Or.inr rfl))
      (@pss_cons _ _ _ _ _ (@ps_set _ _ 2 _ _ _ _ sc_law_parts.nd rfl (by first | exact Or.inl rfl | exact Or.inr rfl) (@pe_op _ _ _ _ _ _ _ _ op_mod (@pe_call _ _ _ _ _ _ _ _ _ _ _ _ _ _ _ _ G__law_next (hr.mono (by omega)) rfl T.m__law_next T.F__law_next.kp T.b__law_next .nil pass0 (@pa_cons _ _ _ _ _ (pv 0) (@pa_nil _) (by rfl)) (by decide) (by rfl) (by rfl)) (@pe_op _ _ _ _ _ _ _ _ op_plus (@pe_callB _ _ _ _ _ _ _ _ _ (kcl_len K) (by rfl) T.z_len bb_len (@pa_cons _ _ _ _ _ (pv 1) (@pa_nil _) (by rfl)) (by decide) (by decide) (by rfl) (by rfl)) (@pe_int _ _ _ _))) (by rfl) (by first | exact Or.inl rfl | exact Or.inr rfl))
      (@pss_one _ _ _ (@ps_ret _ _ _ _ (@pe_lstN _ _ _ _ (@pa_cons _ _ _ _ _ (@pe_slice _ _ _ _ _ _ _ _ _ _ (ksl_list K) (pv 1) (@po_none _) (@po_some _ _ _ (pv 2))) (@pa_cons _ _ _ _ _ (@pe_slice _ _ _ _ _ _ _ _ _ _ (ksl_list K) (pv 1) (@po_some _ _ _ (pv 2)) (@po_none _)) (@pa_nil _) (by rfl)) (by rfl))))))), ?_⟩
    have sl : (1000000 : Nat) ≤ sizeLine := le_line (Nat.le_refl _)
    walk_at "go"
    refine ⟨d, n, rfl, k, by omega, fun p us ps m H1 f1 o1 k1 l1 e1 h1 c1 => ?_⟩
    have ul := h1.len
    walk_at "run"
    refine ⟨d, _, rfl, k1, by omega, fun r2 H2 hr2 o2 k2 => ?_⟩
    walk_at "run"
    have np : p ≠ d := k.ne f1
    have e2 := o2.1 _ _ np e1
    have h2 := h1.tups (o2.tups k1)
    refine i_lenL (SqL.of e2) ?_
    walk_at "run"
    obtain ⟨a2, ha2, ea2⟩ := mod_nat (r2 : Int) (m := us.length + 1) (by omega)
    rw [show (r2 : Int) % ((us.length : Int) + 1) = ((a2 : Nat) : Int) from ea2]
    walk_at "run"
    refine i_slL (SqL.of e2) ?_
    intro p3 H3 f3 s3 e3
    rw [cut_toV] at e3
    walk_at "run"
    refine i_slL (SqL.of (s3 _ _ e2)) ?_
    intro p4 H4 f4 s4 e4
    rw [cut_fromV] at e4
    walk_at "run"
    intro p5 H5 f5 s5 e5
    walk_at "run"
    have s25 := s3.trans (s4.trans s5)
    have k5 := k2.same s25
    have h5 := (h2.tups s25.tups).tups (hd_tups k5)
    have k3 := k2.same s3
    have k4 := k3.same s4
    refine q p5 (ps.take a2) (ps.drop a2) _ H5 (o1.trans (o2.trans (same_hd s25))) k5 (by omega) ⟨p3, p4, _, _, by rw [hd_ne (k4.ne f5)]; exact e5, by rw [hd_ne (k2.ne f3)]; exact (s4.trans s5) _ _ e3, by rw [hd_ne (k3.ne f4)]; exact s5 _ _ e4, h5.take a2, h5.drop a2⟩ (by rw [List.length_take, List.length_drop]; omega)
def sayS : Stm := .plain [.s "say", .s "a"]
def sayNo : Stm := .plain [.s "say", .s "no"]
def stopS : Stm := .plain [.s "stop"]
def leaveS : Stm := .plain [.s "leave"]
def brsO (x : Stm) (a : List (List Pt)) : List Br := a.map fun p => Br.mk p [x]
def innS (b : List (List Pt)) : Stm := .wait 2 (brsO sayS b)
def truC : Cd := .cmp true (.num 1) (.num 1)
def optS (b : List (List Pt)) : Nat → List Stm
  | 0 => [innS b]
  | 1 => [.test truC [] [innS b]]
  | _ => [.loop [innS b, leaveS]]
inductive Tks (a b : List (List Pt)) : List (List Stm) → Prop
  | one (a0 : List Pt) (ar : List (List Pt)) (j : Nat) (h : a = a0 :: ar) : Tks a b [[.wait 3 (.mk a0 (optS b j) :: brsO stopS ar)], [sayNo]]
  | two : Tks a b [[.wait 3 (brsO stopS a)], optS b 0]
  | three : Tks a b [.wait 3 (brsO stopS a) :: optS b 1, []]
def Pl (x : Stm) : Prop := ∃ ps, x = .plain ps ∧ x.pk
theorem pl_say : Pl sayS := ⟨_, rfl, _, _, rfl, by decide +kernel, by decide +kernel, by decide +kernel⟩
theorem pl_no : Pl sayNo := ⟨_, rfl, _, _, rfl, by decide +kernel, by decide +kernel, by decide +kernel⟩
theorem pl_stop : Pl stopS := ⟨_, rfl, _, _, rfl, by decide +kernel, by decide +kernel, by decide +kernel⟩
theorem pl_leave : Pl leaveS := ⟨_, rfl, _, _, rfl, by decide +kernel, by decide +kernel, by decide +kernel⟩
theorem Pl.all {x : Stm} (h : Pl x) : x.all = [] := by
  obtain ⟨ps, rfl, _⟩ := h
  rfl
theorem Pl.dp {x : Stm} (h : Pl x) : x.dp = 0 := by
  obtain ⟨ps, rfl, _⟩ := h
  rfl
theorem brsO_alls {x : Stm} (h : Pl x) : ∀ a : List (List Pt), Br.alls (brsO x a) = a.map fun _ => x
  | [] => rfl
  | p :: a => by
    have := brsO_alls h a
    unfold brsO at this ⊢
    rw [List.map_cons, Br.alls, this, Br.all, Stm.alls, h.all, Stm.alls]
    rfl
theorem brsO_dps {x : Stm} (h : Pl x) : ∀ a : List (List Pt), Br.dps (brsO x a) = 0
  | [] => rfl
  | p :: a => by
    have := brsO_dps h a
    unfold brsO at this ⊢
    rw [List.map_cons, Br.dps, this, Br.dp, Stm.dps, h.dp, Stm.dps]
    rfl
theorem brsO_pats {x : Stm} {n : Int} {a : List (List Pt)} : patsOf (.wait n (brsO x a)) = a := by
  unfold brsO
  simp only [patsOf, List.map_map]
  exact List.map_id a
theorem pats_pl {x : Stm} (h : Pl x) : patsOf x = [] := by
  obtain ⟨ps, rfl, _⟩ := h
  rfl
theorem pats_rep {x : Stm} (h : Pl x) : ∀ a : List (List Pt), (a.map fun _ => x).flatMap patsOf = []
  | [] => rfl
  | p :: a => by
    rw [List.map_cons, List.flatMap_cons, pats_pl h, pats_rep h a]
    rfl
theorem inn_all (b : List (List Pt)) : (innS b).all = b.map fun _ => sayS := by
  unfold innS
  rw [Stm.all, brsO_alls pl_say]
theorem inn_dp (b : List (List Pt)) : (innS b).dp = 1 := by
  unfold innS
  rw [Stm.dp, brsO_dps pl_say]
theorem opt_alls (b : List (List Pt)) (j : Nat) : ∃ xs ys, Stm.alls (optS b j) = xs ++ innS b :: ((b.map fun _ => sayS) ++ ys) ∧ xs.length ≤ 1 ∧ ys.length ≤ 1 ∧ (∀ s ∈ xs ++ ys, s.pk ∧ (bodiesF s).length ≤ 2 ∧ patsOf s = []) := by
  match j with
  | 0 => exact ⟨[], [], by simp [optS, Stm.alls, inn_all], by simp, by simp, by simp⟩
  | 1 => exact ⟨[.test truC [] [innS b]], [], by simp [optS, Stm.alls, Stm.all, inn_all], by simp, by simp, fun s hs => by
      simp at hs
      subst hs
      exact ⟨True.intro, by simp [bodiesF], rfl⟩⟩
  | j + 2 => exact ⟨[.loop [innS b, leaveS]], [leaveS], by simp [optS, Stm.alls, Stm.all, inn_all, pl_leave.all], by simp, by simp, fun s hs => by
      simp at hs
      rcases hs with rfl | rfl
      · exact ⟨True.intro, by simp [bodiesF], rfl⟩
      · obtain ⟨ps, e, h⟩ := pl_leave
        exact ⟨h, by simp [leaveS, bodiesF], rfl⟩⟩
theorem opt_dps (b : List (List Pt)) (j : Nat) : Stm.dps (optS b j) ≤ 2 := by
  match j with
  | 0 => simp [optS, Stm.dps, inn_dp]
  | 1 => simp [optS, Stm.dps, Stm.dp, inn_dp]
  | j + 2 => simp [optS, Stm.dps, Stm.dp, inn_dp, pl_leave.dp]
structure BdOk (b : List Stm) (ps : List (List Pt)) (n : Nat) : Prop where
  dp : Stm.dps b ≤ 4
  len : (Stm.alls b).length ≤ n
  ok : ∀ s ∈ Stm.alls b, s.pk ∧ (bodiesF s).length ≤ 1000
  pat : (Stm.alls b).flatMap patsOf = ps
theorem opt_ok {b : List (List Pt)} (hb : b.length ≤ 60) (j : Nat) : BdOk (optS b j) b 70 := by
  obtain ⟨xs, ys, e, l1, l2, h⟩ := opt_alls b j
  have hx : ∀ {zs : List Stm}, (∀ s ∈ zs, patsOf s = []) → zs.flatMap patsOf = [] := fun {zs} hz => by
    rw [List.flatMap_eq_nil_iff]
    exact hz
  refine ⟨by have := opt_dps b j; omega, by rw [e]; simp; omega, fun s hs => ?_, ?_⟩
  · rw [e] at hs
    simp only [List.mem_append, List.mem_cons, List.mem_map] at hs
    rcases hs with hs | rfl | ⟨_, _, rfl⟩ | hs
    · obtain ⟨q1, q2, _⟩ := h s (List.mem_append.mpr (.inl hs))
      exact ⟨q1, by omega⟩
    · exact ⟨True.intro, by simp [innS, bodiesF, brsO]; omega⟩
    · obtain ⟨ps, e, h⟩ := pl_say
      exact ⟨h, by simp [sayS, bodiesF]⟩
    · obtain ⟨q1, q2, _⟩ := h s (List.mem_append.mpr (.inr hs))
      exact ⟨q1, by omega⟩
  · rw [e, List.flatMap_append, List.flatMap_cons, List.flatMap_append, hx (fun s hs => (h s (List.mem_append.mpr (.inl hs))).2.2), hx (zs := ys) (fun s hs => (h s (List.mem_append.mpr (.inr hs))).2.2), pats_rep pl_say, innS, brsO_pats]
    simp
theorem BdOk.nil : BdOk [] [] 0 := ⟨by simp [Stm.dps], by simp [Stm.alls], by simp [Stm.alls], by simp [Stm.alls]⟩
theorem BdOk.cons {x : Stm} {b : List Stm} {ps : List (List Pt)} {n : Nat} (h : BdOk b ps n) (hx : BdOk [x] qs m) : BdOk (x :: b) (qs ++ ps) (m + n) := by
  have e : x :: b = [x] ++ b := rfl
  refine ⟨?_, ?_, ?_, ?_⟩
  · have h1 := h.dp
    have h2 := hx.dp
    simp only [Stm.dps] at h2 ⊢
    omega
  · rw [e, alls_app, List.length_append]
    have := h.len
    have := hx.len
    omega
  · rw [e, alls_app]
    intro s hs
    rcases List.mem_append.mp hs with q | q
    · exact hx.ok s q
    · exact h.ok s q
  · rw [e, alls_app, List.flatMap_append, hx.pat, h.pat]
theorem pl_ok {x : Stm} (h : Pl x) : BdOk [x] [] 1 := by
  refine ⟨?_, ?_, ?_, ?_⟩
  · simp [Stm.dps, h.dp]
  · simp [Stm.alls, h.all]
  · intro s hs
    simp [Stm.alls, h.all] at hs
    subst hs
    obtain ⟨ps, rfl, hp⟩ := h
    exact ⟨hp, by simp [bodiesF]⟩
  · simp [Stm.alls, h.all, pats_pl h]
theorem wait_ok {n : Int} {a : List (List Pt)} (h : a.length ≤ 60) : BdOk [.wait n (brsO stopS a)] a 61 := by
  have e : Stm.alls [.wait n (brsO stopS a)] = .wait n (brsO stopS a) :: a.map fun _ => stopS := by simp [Stm.alls, Stm.all, brsO_alls pl_stop]
  refine ⟨?_, ?_, ?_, ?_⟩
  · simp [Stm.dps, Stm.dp, brsO_dps pl_stop]
  · rw [e]
    simp
    omega
  · rw [e]
    intro s hs
    simp only [List.mem_cons, List.mem_map] at hs
    rcases hs with rfl | ⟨_, _, rfl⟩
    · exact ⟨True.intro, by simp [bodiesF, brsO]; omega⟩
    · obtain ⟨ps, e, h⟩ := pl_stop
      exact ⟨h, by simp [stopS, bodiesF]⟩
  · rw [e, List.flatMap_cons, brsO_pats, pats_rep pl_stop]
    simp
theorem wait_ok1 {n : Int} {a0 : List Pt} {a b : List (List Pt)} {j : Nat} (h : a.length + b.length ≤ 60) : BdOk [.wait n (.mk a0 (optS b j) :: brsO stopS a)] (a0 :: a ++ b) 140 := by
  have e : Stm.alls [.wait n (.mk a0 (optS b j) :: brsO stopS a)] = .wait n (.mk a0 (optS b j) :: brsO stopS a) :: (Stm.alls (optS b j) ++ a.map fun _ => stopS) := by simp [Stm.alls, Stm.all, Br.alls, Br.all, brsO_alls pl_stop]
  have o := opt_ok (b := b) (by omega) j
  refine ⟨?_, ?_, ?_, ?_⟩
  · have := opt_dps b j
    simp [Stm.dps, Stm.dp, Br.dps, Br.dp, brsO_dps pl_stop]
    omega
  · rw [e]
    have := o.len
    simp
    omega
  · rw [e]
    intro s hs
    simp only [List.mem_cons, List.mem_append, List.mem_map] at hs
    rcases hs with rfl | hs | ⟨_, _, rfl⟩
    · exact ⟨True.intro, by simp [bodiesF, brsO]; omega⟩
    · exact o.ok s hs
    · obtain ⟨ps, e, h⟩ := pl_stop
      exact ⟨h, by simp [stopS, bodiesF]⟩
  · rw [e, List.flatMap_cons, List.flatMap_append, o.pat, pats_rep pl_stop]
    have : patsOf (.wait n (.mk a0 (optS b j) :: brsO stopS a)) = a0 :: a := by
      have := brsO_pats (x := stopS) (n := n) (a := a)
      simp only [patsOf] at this
      simp only [patsOf, List.map_cons, this]
    rw [this]
    simp
theorem Tks.ok {a b : List (List Pt)} {tks : List (List Stm)} (h : Tks a b tks) (hl : a.length + b.length ≤ 60) (ha : ∀ p ∈ a, PatOk p) (hb : ∀ p ∈ b, PatOk p) : ScOk tks ∧ ∀ x, x ∈ patsIn tks ↔ x ∈ a ∨ x ∈ b := by
  have two : ∀ {c d : List Stm} {ps qs : List (List Pt)} {n m : Nat}, BdOk c ps n → BdOk d qs m → n ≤ 1000 → m ≤ 1000 → ps ++ qs = a ++ b → ScOk [c, d] ∧ ∀ x, x ∈ patsIn [c, d] ↔ x ∈ a ∨ x ∈ b := fun {c d ps qs n m} h1 h2 hn hm e => by
    have ep : patsIn [c, d] = a ++ b := by
      unfold patsIn
      simp only [List.flatMap_cons, List.flatMap_nil, List.append_nil, List.flatMap_append]
      rw [h1.pat, h2.pat, e]
    refine ⟨⟨fun x hx => ?_, by rw [ep, List.length_append]; omega, fun p hp => ?_⟩, fun x => by rw [ep, List.mem_append]⟩
    · simp only [List.mem_cons, List.not_mem_nil, or_false] at hx
      rcases hx with rfl | rfl
      · exact ⟨by have := h1.dp; omega, by have := h1.len; omega, h1.ok⟩
      · exact ⟨by have := h2.dp; omega, by have := h2.len; omega, h2.ok⟩
    · rw [ep] at hp
      rcases List.mem_append.mp hp with h | h
      · exact ha p h
      · exact hb p h
  cases h with
  | one a0 ar j h =>
    subst h
    exact two (wait_ok1 (by simp at hl; omega)) (pl_ok pl_no) (by omega) (by omega) (by simp)
  | two => exact two (wait_ok (by omega)) (opt_ok (by omega) 0) (by omega) (by omega) rfl
  | three => exact two ((opt_ok (by omega) 1).cons (wait_ok (by omega))) BdOk.nil (by omega) (by omega) (by simp)
theorem brat_same {H H' : Hp} {v : V} {x : Br} (h : BrAt H v x) (s : Same H H') : BrAt H' v x := by
  cases x with
  | mk p b =>
    obtain ⟨q, pv, bv, e, e1, h1, h2⟩ := h
    exact ⟨q, pv, bv, e, s _ _ e1, h1.same s, h2.same s⟩
theorem hd_new {H H' : Hp} {d p : Addr} {n : Nat} {o : HO} (k : Dk H d n) (f : H p = none) (e : H' p = some o) : hd d H' p = some o := by rw [hd_ne (k.ne f)]; exact e
theorem mk_plain {H : Hp} {v : V} {ps : List Pt} (h : PAt H v ps) : SAt H v (.plain ps) := ⟨[], h⟩
theorem mk_two {H : Hp} {a : Addr} {x y : Str} (e : H a = some (.tup [.str x, .str y])) : PAt H (.ref a) [.s x, .s y] := by
  unfold PAt
  simp only [List.map_cons, List.map_nil, Pt.tr]
  exact at_tup0.mpr ⟨a, _, rfl, e, ats_cons0.mpr ⟨_, _, rfl, at_str0.mpr rfl, ats_cons0.mpr ⟨_, _, rfl, at_str0.mpr rfl, ats_nil0.mpr rfl⟩⟩⟩
theorem mk_body1 {H : Hp} {l : Addr} {v : V} {x : Stm} (e : H l = some (.lst [v])) (h : SAt H v x) : BAt H (.ref l) [x] := bat_iff.mpr ⟨l, _, rfl, e, Each.nil.snoc h⟩
theorem mk_body2 {H : Hp} {l : Addr} {v w : V} {x y : Stm} (e : H l = some (.lst [v, w])) (h : SAt H v x) (h' : SAt H w y) : BAt H (.ref l) [x, y] := bat_iff.mpr ⟨l, _, rfl, e, (Each.nil.snoc h).snoc h'⟩
theorem mk_body0 {H : Hp} {l : Addr} (e : H l = some (.lst [])) : BAt H (.ref l) [] := bat_iff.mpr ⟨l, _, rfl, e, Each.nil⟩
theorem mk_test {H : Hp} {a t1 t2 t3 : Addr} {u v : V} {x y : List Stm} (e : H a = some (.tup [.str "test", .ref t1, u, v])) (e1 : H t1 = some (.tup [.str "same", .ref t2, .ref t3])) (e2 : H t2 = some (.tup [.str "number", .int 1])) (e3 : H t3 = some (.tup [.str "number", .int 1])) (hx : BAt H u x) (hy : BAt H v y) : SAt H (.ref a) (.test truC x y) := by
  obtain ⟨f1, h1⟩ := hx
  obtain ⟨f2, h2⟩ := hy
  refine ⟨[] ++ ([] ++ (f1 ++ (f2 ++ []))), ?_⟩
  have hc : truC.tr.At H (.ref t1) [] := by
    simp only [truC, Cd.tr, Ex.tr, markC, if_true]
    refine at_tup0.mpr ⟨t1, _, rfl, e1, ats_cons0.mpr ⟨_, _, rfl, at_str0.mpr rfl, ats_cons0.mpr ⟨_, _, rfl, at_tup0.mpr ⟨t2, _, rfl, e2, ats_cons0.mpr ⟨_, _, rfl, at_str0.mpr rfl, ats_cons0.mpr ⟨_, _, rfl, at_int0.mpr rfl, ats_nil0.mpr rfl⟩⟩⟩, ats_cons0.mpr ⟨_, _, rfl, at_tup0.mpr ⟨t3, _, rfl, e3, ats_cons0.mpr ⟨_, _, rfl, at_str0.mpr rfl, ats_cons0.mpr ⟨_, _, rfl, at_int0.mpr rfl, ats_nil0.mpr rfl⟩⟩⟩, ats_nil0.mpr rfl⟩⟩⟩⟩
  rw [Stm.tr, Tr.At]
  refine ⟨a, _, rfl, e, ?_⟩
  rw [Tr.Ats]
  refine ⟨_, _, [], _, rfl, rfl, by rw [Tr.At]; exact ⟨rfl, rfl⟩, ?_⟩
  rw [Tr.Ats]
  refine ⟨_, _, [], _, rfl, rfl, hc, ?_⟩
  rw [Tr.Ats]
  refine ⟨_, _, f1, _, rfl, rfl, h1, ?_⟩
  rw [Tr.Ats]
  exact ⟨_, _, f2, _, rfl, rfl, h2, by rw [Tr.Ats]; exact ⟨rfl, rfl⟩⟩
inductive Brn (G : Hp) (a b : List (List Pt)) : List Br → List V → Prop
  | one (a0 : List Pt) (ar : List (List Pt)) (j : Nat) (v : V) (h : a = a0 :: ar) (hv : BAt G v [sayNo]) : Brn G a b (.mk a0 (optS b j) :: brsO stopS ar) [v]
  | two (v0 v1 v2 : V) (h0 : BAt G v0 (optS b 0)) (h1 : BAt G v1 (optS b 1)) : Brn G a b (brsO stopS a) [v0, v1, v2]
theorem Brn.same {G G' : Hp} {a b : List (List Pt)} {bs : List Br} {ss : List V} (h : Brn G a b bs ss) (s : Same G G') : Brn G' a b bs ss := by
  cases h with
  | one a0 ar j v h hv => exact .one a0 ar j v h (hv.same s)
  | two v0 v1 v2 h0 h1 => exact .two v0 v1 v2 (h0.same s) (h1.same s)
theorem at3o {G : Hp} {b : List (List Pt)} {r : Nat} {x y z : V} (h : r < 3) (h0 : BAt G x (optS b 0)) (h1 : BAt G y (optS b 1)) (h2 : BAt G z (optS b 2)) : ∃ v, atI [x, y, z] (r : Nat) = some v ∧ BAt G v (optS b r) := by
  have : r = 0 ∨ r = 1 ∨ r = 2 := by omega
  rcases this with rfl | rfl | rfl
  · exact ⟨_, atI_nat (j := 0) rfl, h0⟩
  · exact ⟨_, atI_nat (j := 1) rfl, h1⟩
  · exact ⟨_, atI_nat (j := 2) rfl, h2⟩
def sp_script (K : PySem.W.Frag) : Sp := fun vs H Q _ => ∃ (d p : Addr) (n : Nat) (a b : List (List Pt)), vs = [.ref d, .ref p] ∧ Dk H d n ∧ n ≤ 60000 ∧ PtsAt (hd d H) p a b ∧ a.length + b.length ≤ 60 ∧ ∀ v tks m H', Hd d H H' → Dk H' d m → m ≤ n + 10 → ScAt (hd d H') v tks → Tks a b tks → Q v H'
theorem ok_law_script (T : Txt K mg t) : FnOk P w K mg base CX0 2 t.a__law_script t.fd__law_script ["deck", "parts"] (sp_script K) := by
  have G__law_next := ok_law_next (P := P) (w := w) (base := base) T
  refine T.F__law_script.ok sc_law_script (fun vs H Q E h => ?_) (fun cdv A outer s H vs Q E hr h => ?_)
  · obtain ⟨d, p, n, a, b, rfl, _⟩ := h
    rfl
  · obtain ⟨d, p, n, a, b, rfl, k, hn, hP, hl, q⟩ := h
    obtain ⟨l1, l2, us, vs, ep, e1, e2, ha, hb⟩ := hP
    refine ⟨_, (@pss_cons _ _ _ _ _ (@ps_set _ _ 2 _ _ _ _ sc_law_script.nd rfl (by first | exact Or.inl rfl | exact Or.inr rfl) (@pe_tupN _ _ _ _ _ (@pa_cons _ _ _ _ _ (@pe_str _ _ _ _) (@pa_cons _ _ _ _ _ (@pe_int _ _ _ _) (@pa_cons _ _ _ _ _ (pe_lc (Nt := ["pattern"]) (Nf := []) (caps := []) rfl (comp_ok (sc := defScope s_law_script) rfl rfl (by decide +kernel) (by decide +kernel) (by decide +kernel) rfl (by decide +kernel)) (kpi_list K (@pe_ix _ _ _ _ _ _ _ (kix_list K) (pv 1) (@pe_int _ _ _ _) (fun _ _ => rfl))) (fun _ _ _ _ _ => (pg_name (i := 0) (show (["pattern"] : List Str).Nodup by decide +kernel) rfl (by first | exact Or.inl rfl | exact Or.inr rfl))) (fun _ _ _ _ _ => (@pts_nil _)) (fun _ _ _ _ _ => (@pe_tupN _ _ _ _ _ (@pa_cons _ _ _ _ _ (pv 0) (@pa_cons _ _ _ _ _ (@pe_lstN _ _ _ _ (@pa_cons _ _ _ _ _ (@pe_tupN _ _ _ _ _ (@pa_cons _ _ _ _ _ (@pe_str _ _ _ _) (@pa_cons _ _ _ _ _ (@pe_str _ _ _ _) (@pa_nil _) (by rfl)) (by rfl))) (@pa_nil _) (by rfl))) (@pa_nil _) (by rfl)) (by rfl))))) (@pa_nil _) (by rfl)) (by rfl)) (by rfl))) (by rfl) (by first | exact Or.inl rfl | exact Or.inr rfl))
      (@pss_cons _ _ _ _ _ (@ps_set _ _ 3 _ _ _ _ sc_law_script.nd rfl (by first | exact Or.inl rfl | exact Or.inr rfl) (@pe_tupN _ _ _ _ _ (@pa_cons _ _ _ _ _ (@pe_str _ _ _ _) (@pa_cons _ _ _ _ _ (@pe_tupN _ _ _ _ _ (@pa_cons _ _ _ _ _ (@pe_str _ _ _ _) (@pa_cons _ _ _ _ _ (@pe_int _ _ _ _) (@pa_nil _) (by rfl)) (by rfl))) (@pa_cons _ _ _ _ _ (@pe_tupN _ _ _ _ _ (@pa_cons _ _ _ _ _ (@pe_str _ _ _ _) (@pa_cons _ _ _ _ _ (@pe_int _ _ _ _) (@pa_nil _) (by rfl)) (by rfl))) (@pa_nil _) (by rfl)) (by rfl)) (by rfl))) (by rfl) (by first | exact Or.inl rfl | exact Or.inr rfl))
      (@pss_cons _ _ _ _ _ (@ps_set _ _ 4 _ _ _ _ sc_law_script.nd rfl (by first | exact Or.inl rfl | exact Or.inr rfl) (@pe_lstN _ _ _ _ (@pa_cons _ _ _ _ _ (@pe_lstN _ _ _ _ (@pa_cons _ _ _ _ _ (pv 2) (@pa_nil _) (by rfl))) (@pa_cons _ _ _ _ _ (@pe_lstN _ _ _ _ (@pa_cons _ _ _ _ _ (@pe_tupN _ _ _ _ _ (@pa_cons _ _ _ _ _ (@pe_str _ _ _ _) (@pa_cons _ _ _ _ _ (pv 3) (@pa_cons _ _ _ _ _ (@pe_lstN _ _ _ _ (@pa_nil _)) (@pa_cons _ _ _ _ _ (@pe_lstN _ _ _ _ (@pa_cons _ _ _ _ _ (pv 2) (@pa_nil _) (by rfl))) (@pa_nil _) (by rfl)) (by rfl)) (by rfl)) (by rfl))) (@pa_nil _) (by rfl))) (@pa_cons _ _ _ _ _ (@pe_lstN _ _ _ _ (@pa_cons _ _ _ _ _ (@pe_tupN _ _ _ _ _ (@pa_cons _ _ _ _ _ (@pe_str _ _ _ _) (@pa_cons _ _ _ _ _ (@pe_lstN _ _ _ _ (@pa_cons _ _ _ _ _ (pv 2) (@pa_cons _ _ _ _ _ (@pe_tupN _ _ _ _ _ (@pa_cons _ _ _ _ _ (@pe_str _ _ _ _) (@pa_nil _) (by rfl))) (@pa_nil _) (by rfl)) (by rfl))) (@pa_nil _) (by rfl)) (by rfl))) (@pa_nil _) (by rfl))) (@pa_nil _) (by rfl)) (by rfl)) (by rfl))) (by rfl) (by first | exact Or.inl rfl | exact Or.inr rfl))
      (@pss_cons _ _ _ _ _ (ps_lc (i := 5) (Nt := ["pattern"]) (Nf := []) (caps := []) rfl (comp_ok (sc := defScope s_law_script) rfl rfl (by decide +kernel) (by decide +kernel) (by decide +kernel) rfl (by decide +kernel)) (kpi_list K (@pe_ix _ _ _ _ _ _ _ (kix_list K) (pv 1) (@pe_int _ _ _ _) (fun _ _ => rfl))) (fun _ _ _ _ _ => (pg_name (i := 0) (show (["pattern"] : List Str).Nodup by decide +kernel) rfl (by first | exact Or.inl rfl | exact Or.inr rfl))) (fun _ _ _ _ _ => (@pts_nil _)) (fun _ _ _ _ _ => (@pe_tupN _ _ _ _ _ (@pa_cons _ _ _ _ _ (pv 0) (@pa_cons _ _ _ _ _ (@pe_lstN _ _ _ _ (@pa_cons _ _ _ _ _ (@pe_tupN _ _ _ _ _ (@pa_cons _ _ _ _ _ (@pe_str _ _ _ _) (@pa_nil _) (by rfl))) (@pa_nil _) (by rfl))) (@pa_nil _) (by rfl)) (by rfl)))) sc_law_script.nd rfl (by first | exact Or.inl rfl | exact Or.inr rfl) rfl)
      (@pss_consC _ _ _ _ _ (@ps_if _ _ _ _ _ _ _ _ (@PW.pt _ _ _ (@pw_and _ _ _ _ _ _ _ (@pt_cmpR _ _ _ _ _ _ _ _ (kop_neNil K (by exact hr.units)) (pv 5) (@pe_lstN _ _ _ _ (@pa_nil _)) (nomark _)) (@pw_and1 _ _ _ _ (@pt_cmpR _ _ _ _ _ _ _ _ op_eq (@pe_op _ _ _ _ _ _ _ _ op_mod (@pe_call _ _ _ _ _ _ _ _ _ _ _ _ _ _ _ _ G__law_next (hr.mono (by omega)) rfl T.m__law_next T.F__law_next.kp T.b__law_next .nil pass0 (@pa_cons _ _ _ _ _ (pv 0) (@pa_nil _) (by rfl)) (by decide) (by rfl) (by rfl)) (@pe_int _ _ _ _)) (@pe_int _ _ _ _) (nomark _))))) (@pss_cons _ _ _ _ _ (@ps_asg _ _ _ _ _ _ (@pe_tupN _ _ _ _ _ (@pa_cons _ _ _ _ _ (@pe_ix _ _ _ _ _ _ _ (kix_list K) (@pe_ix _ _ _ _ _ _ _ (kix_list K) (pv 1) (@pe_int _ _ _ _) (fun _ _ => rfl)) (@pe_int _ _ _ _) (fun _ _ => rfl)) (@pa_cons _ _ _ _ _ (@pe_ix _ _ _ _ _ _ _ (kix_list K) (pv 4) (@pe_op _ _ _ _ _ _ _ _ op_mod (@pe_call _ _ _ _ _ _ _ _ _ _ _ _ _ _ _ _ G__law_next (hr.mono (by omega)) rfl T.m__law_next T.F__law_next.kp T.b__law_next .nil pass0 (@pa_cons _ _ _ _ _ (pv 0) (@pa_nil _) (by rfl)) (by decide) (by rfl) (by rfl)) (@pe_int _ _ _ _)) (fun _ _ => rfl)) (@pa_nil _) (by rfl)) (by rfl))) (pg_sub (pv 5) (@pe_int _ _ _ _) set_list) (by rfl) (by rfl) (by rfl))
        (@pss_one _ _ _ (@ps_set _ _ 4 _ _ _ _ sc_law_script.nd rfl (by first | exact Or.inl rfl | exact Or.inr rfl) (@pe_lstN _ _ _ _ (@pa_cons _ _ _ _ _ (@pe_lstN _ _ _ _ (@pa_cons _ _ _ _ _ (@pe_tupN _ _ _ _ _ (@pa_cons _ _ _ _ _ (@pe_str _ _ _ _) (@pa_cons _ _ _ _ _ (@pe_str _ _ _ _) (@pa_nil _) (by rfl)) (by rfl))) (@pa_nil _) (by rfl))) (@pa_nil _) (by rfl))) (by rfl) (by first | exact Or.inl rfl | exact Or.inr rfl)))) (@pss_nil _))
      (@pss_cons _ _ _ _ _ (@ps_set _ _ 6 _ _ _ _ sc_law_script.nd rfl (by first | exact Or.inl rfl | exact Or.inr rfl) (@pe_lstN _ _ _ _ (@pa_cons _ _ _ _ _ (@pe_tupN _ _ _ _ _ (@pa_cons _ _ _ _ _ (@pe_str _ _ _ _) (@pa_cons _ _ _ _ _ (@pe_lstN _ _ _ _ (@pa_cons _ _ _ _ _ (@pe_tupN _ _ _ _ _ (@pa_cons _ _ _ _ _ (@pe_str _ _ _ _) (@pa_cons _ _ _ _ _ (@pe_int _ _ _ _) (@pa_cons _ _ _ _ _ (pv 5) (@pa_nil _) (by rfl)) (by rfl)) (by rfl))) (@pa_nil _) (by rfl))) (@pa_nil _) (by rfl)) (by rfl))) (@pa_nil _) (by rfl))) (by rfl) (by first | exact Or.inl rfl | exact Or.inr rfl))
      (@pss_consC _ _ _ _ _ (@ps_if _ _ _ _ _ _ _ _ (@PW.pt _ _ _ (@pw_or _ _ _ _ _ _ _ (@pt_cmpR _ _ _ _ _ _ _ _ op_eq (@pe_callB _ _ _ _ _ _ _ _ _ (kcl_len K) (by rfl) T.z_len bb_len (@pa_cons _ _ _ _ _ (pv 4) (@pa_nil _) (by rfl)) (by decide) (by decide) (by rfl) (by rfl)) (@pe_int _ _ _ _) (nomark _)) (@pw_or1 _ _ _ _ (@pt_cmpR _ _ _ _ _ _ _ _ op_eq (@pe_op _ _ _ _ _ _ _ _ op_mod (@pe_call _ _ _ _ _ _ _ _ _ _ _ _ _ _ _ _ G__law_next (hr.mono (by omega)) rfl T.m__law_next T.F__law_next.kp T.b__law_next .nil pass0 (@pa_cons _ _ _ _ _ (pv 0) (@pa_nil _) (by rfl)) (by decide) (by rfl) (by rfl)) (@pe_int _ _ _ _)) (@pe_int _ _ _ _) (nomark _))))) (@pss_one _ _ _ (@ps_expr _ _ _ _ (@kpe_bm _ K _ _ _ _ _ _ _ _ _ _ _ PySem.F.plainAttrs_list PySem.F.slot_list_append PySem.F.type_list_append mt_append (pv 6) (@pa_cons _ _ _ _ _ (@pe_tupN _ _ _ _ _ (@pa_cons _ _ _ _ _ (@pe_str _ _ _ _) (@pa_cons _ _ _ _ _ (@pe_ix _ _ _ _ _ _ _ (kix_list K) (pv 4) (@pe_int _ _ _ _) (fun _ _ => rfl)) (@pa_nil _) (by rfl)) (by rfl))) (@pa_nil _) (by rfl)) (by rfl) (by rfl) (by rfl) (by rfl) (by rfl) (by rfl)) (by rfl))) (@pss_one _ _ _ (@ps_set _ _ 6 _ _ _ _ sc_law_script.nd rfl (by first | exact Or.inl rfl | exact Or.inr rfl) (@pe_lstN _ _ _ _ (@pa_cons _ _ _ _ _ (@pe_tupN _ _ _ _ _ (@pa_cons _ _ _ _ _ (@pe_str _ _ _ _) (@pa_cons _ _ _ _ _ (@pe_op _ _ _ _ _ _ _ _ op_plus (@pe_lstN _ _ _ _ (@pa_cons _ _ _ _ _ (@pe_tupN _ _ _ _ _ (@pa_cons _ _ _ _ _ (@pe_str _ _ _ _) (@pa_cons _ _ _ _ _ (@pe_int _ _ _ _) (@pa_cons _ _ _ _ _ (pv 5) (@pa_nil _) (by rfl)) (by rfl)) (by rfl))) (@pa_nil _) (by rfl))) (@pe_ix _ _ _ _ _ _ _ (kix_list K) (pv 4) (@pe_int _ _ _ _) (fun _ _ => rfl))) (@pa_nil _) (by rfl)) (by rfl))) (@pa_cons _ _ _ _ _ (@pe_tupN _ _ _ _ _ (@pa_cons _ _ _ _ _ (@pe_str _ _ _ _) (@pa_cons _ _ _ _ _ (@pe_lstN _ _ _ _ (@pa_nil _)) (@pa_nil _) (by rfl)) (by rfl))) (@pa_nil _) (by rfl)) (by rfl))) (by rfl) (by first | exact Or.inl rfl | exact Or.inr rfl))))
      (@pss_one _ _ _ (@ps_ret _ _ _ _ (@pe_tupN _ _ _ _ _ (@pa_cons _ _ _ _ _ (@pe_lstN _ _ _ _ (@pa_nil _)) (@pa_cons _ _ _ _ _ (pv 6) (@pa_nil _) (by rfl)) (by rfl)))))))))))), ?_⟩
    have sl : (1000000 : Nat) ≤ sizeLine := le_line (Nat.le_refl _)
    have ul := ha.len
    have vl := hb.len
    have hS : ∀ {H1 H2 : Hp}, Same H1 H2 → Same (hd d H1) (hd d H2) := fun s => (same_hd s).same
    walk_at "go"
    refine i_ixL (SqL.of (hd_same _ _ ep)) (atI_nat (j := 1) rfl) ?_
    walk_at "run"
    refine ⟨⟨_, SqL.of (hd_same _ _ e2)⟩, cc_list (xs := vs) (by omega) (fun i acc H' => i ≤ vs.length ∧ acc.length = i ∧ Same H H' ∧ Each (BrAt (hd d H')) acc (brsO sayS (b.take i))) ⟨Nat.zero_le _, rfl, Same.refl _, Each.nil⟩ (fun i acc H' ⟨_, e, s', _⟩ => ⟨by omega, SqL.of (s' _ _ (hd_same _ _ e2))⟩) ?_ ?_⟩
    · rintro i v acc H1 hv ⟨hi, el, s1, hat⟩
      have hi' := (List.getElem?_eq_some_iff.mp hv).1
      obtain ⟨x, hx⟩ : ∃ x, b[i]? = some x := ⟨_, List.getElem?_eq_getElem (by omega)⟩
      have hvx := (hb.1.2 i v x hv hx).same (hS s1)
      have k1 := k.same s1
      walk_at "run"
      intro q1 H2 f2 t2 d2
      walk_at "run"
      intro q2 H3 f3 t3 d3
      walk_at "run"
      intro q3 H4 f4 t4 d4
      walk_at "run"
      have k2 := k1.same t2
      have k3 := k2.same t3
      have t24 := t2.trans (t3.trans t4)
      refine ⟨hi', by simp [el], s1.trans t24, ?_⟩
      rw [List.take_add_one, hx, Option.toList_some]
      unfold brsO
      rw [List.map_append]
      refine Each.snoc (hat.mono fun v x h => brat_same h (hS t24)) ?_
      exact ⟨q3, v, .ref q2, rfl, hd_new k3 f4 d4, hvx.same (hS t24), mk_body1 (hd_new k2 f3 (t4 _ _ d3)) (mk_plain (mk_two (hd_new k1 f2 ((t3.trans t4) _ _ d2))))⟩
    rintro acc H1 ⟨_, el, s1, hat⟩ p2 H2 f2 s2 e2'
    rw [vl, List.take_length] at hat
    walk_at "run"
    intro pi H3 f3 s3 e3
    walk_at "run"
    have k1 := k.same s1
    have k2 := k1.same s2
    have k3 := k2.same s3
    have SI : SAt (hd d H3) (.ref pi) (innS b) := sat_wait.mpr ⟨pi, p2, acc, rfl, hd_new k2 f3 e3, hd_new k1 f2 (s3 _ _ e2'), hat.mono fun v x h => brat_same h (hS (s2.trans s3))⟩
    have s03 := s1.trans (s2.trans s3)
    clear hat
    intro p4 H4 f4 s4 e4
    walk_at "run"
    have k4 := k3.same s4
    intro p5 H5 f5 s5 e5
    walk_at "run"
    have k5 := k4.same s5
    intro p6 H6 f6 s6 e6
    walk_at "run"
    have k6 := k5.same s6
    intro p7 H7 f7 s7 e7
    walk_at "run"
    have k7 := k6.same s7
    intro p8 H8 f8 s8 e8
    walk_at "run"
    have k8 := k7.same s8
    intro p9 H9 f9 s9 e9
    walk_at "run"
    have k9 := k8.same s9
    intro p10 H10 f10 s10 e10
    walk_at "run"
    have k10 := k9.same s10
    intro p11 H11 f11 s11 e11
    walk_at "run"
    have k11 := k10.same s11
    intro p12 H12 f12 s12 e12
    walk_at "run"
    have k12 := k11.same s12
    intro p13 H13 f13 s13 e13
    walk_at "run"
    have k13 := k12.same s13
    intro p14 H14 f14 s14 e14
    walk_at "run"
    have k14 := k13.same s14
    intro p15 H15 f15 s15 e15
    walk_at "run"
    have k15 := k14.same s15
    intro p16 H16 f16 s16 e16
    walk_at "run"
    have k16 := k15.same s16
    have c16 := Same.refl H16
    have c15 := s16.trans c16
    have c14 := s15.trans c15
    have c13 := s14.trans c14
    have c12 := s13.trans c13
    have c11 := s12.trans c12
    have c10 := s11.trans c11
    have c9 := s10.trans c10
    have c8 := s9.trans c9
    have c7 := s8.trans c8
    have c6 := s7.trans c7
    have c5 := s6.trans c6
    have c4 := s5.trans c5
    have c3 := s4.trans c4
    have SJ := SI.same (hS c3)
    have O0 : BAt (hd d H16) (.ref p7) (optS b 0) := mk_body1 (hd_new k6 f7 (c7 _ _ e7)) SJ
    have O1 : BAt (hd d H16) (.ref p11) (optS b 1) := mk_body1 (hd_new k10 f11 (c11 _ _ e11)) (mk_test (hd_new k9 f10 (c10 _ _ e10)) (hd_new k5 f6 (c6 _ _ e6)) (hd_new k3 f4 (c4 _ _ e4)) (hd_new k4 f5 (c5 _ _ e5)) (mk_body0 (hd_new k7 f8 (c8 _ _ e8))) (mk_body1 (hd_new k8 f9 (c9 _ _ e9)) SJ))
    have O2 : BAt (hd d H16) (.ref p15) (optS b 2) := mk_body1 (hd_new k14 f15 (c15 _ _ e15)) (sat_loop.mpr ⟨p14, _, rfl, (hd_new k13 f14 (c14 _ _ e14)), mk_body2 (hd_new k12 f13 (c13 _ _ e13)) SJ (mk_plain (mk_one (hd_new k11 f12 (c12 _ _ e12))))⟩)
    have e16' := (hd_new k15 f16 (c16 _ _ e16))
    have s016 := s03.trans c3
    clear SI SJ c3 c4 c5 c6 c7 c8 c9 c10 c11 c12 c13 c14 c15 c16 e3 e4 e5 e6 e7 e8 e9 e10 e11 e12 e13 e14 e15 e16
    refine i_ixL (SqL.of (s016 _ _ (hd_same _ _ ep))) (atI_nat (j := 0) rfl) ?_
    walk_at "run"
    refine ⟨⟨_, SqL.of (s016 _ _ (hd_same _ _ e1))⟩, cc_list (xs := us) (by omega) (fun i acc H' => i ≤ us.length ∧ acc.length = i ∧ Same H16 H' ∧ Each (BrAt (hd d H')) acc (brsO stopS (a.take i))) ⟨Nat.zero_le _, rfl, Same.refl _, Each.nil⟩ (fun i acc H' ⟨_, e, s', _⟩ => ⟨by omega, SqL.of (s' _ _ (s016 _ _ (hd_same _ _ e1)))⟩) ?_ ?_⟩
    · rintro i v acc H1 hv ⟨hi, el, s1, hat⟩
      have hi' := (List.getElem?_eq_some_iff.mp hv).1
      obtain ⟨x, hx⟩ : ∃ x, a[i]? = some x := ⟨_, List.getElem?_eq_getElem (by omega)⟩
      have hvx := (ha.1.2 i v x hv hx).same (hS (s016.trans s1))
      have k1 := k16.same s1
      walk_at "run"
      intro q1 H2 f2 t2 d2
      walk_at "run"
      intro q2 H3 f3 t3 d3
      walk_at "run"
      intro q3 H4 f4 t4 d4
      walk_at "run"
      have k2 := k1.same t2
      have k3 := k2.same t3
      have t24 := t2.trans (t3.trans t4)
      refine ⟨hi', by simp [el], s1.trans t24, ?_⟩
      rw [List.take_add_one, hx, Option.toList_some]
      unfold brsO
      rw [List.map_append]
      refine Each.snoc (hat.mono fun v x h => brat_same h (hS t24)) ?_
      exact ⟨q3, v, .ref q2, rfl, hd_new k3 f4 d4, hvx.same (hS t24), mk_body1 (hd_new k2 f3 (t4 _ _ d3)) (mk_plain (mk_one (hd_new k1 f2 ((t3.trans t4) _ _ d2))))⟩
    rintro accb H17 ⟨_, elb, s17, hat⟩ pb H18 f18 s18 e18
    rw [ul, List.take_length] at hat
    walk_at "run"
    have k17 := k16.same s17
    have k18 := k17.same s18
    have s018 := s016.trans (s17.trans s18)
    have nb : pb ≠ d := k17.ne f18
    have g18 : H pb = none := (s016.trans s17).free f18
    have O0' := O0.same (hS s17)
    have O1' := O1.same (hS s17)
    have O2' := O2.same (hS s17)
    have e17 := hS s17 _ _ e16'
    have o017 : Hd d H H17 := same_hd (s016.trans s17)
    have v0f : ∀ a0 ar, a = a0 :: ar → ∃ v0 ur, us = v0 :: ur ∧ PAt (hd d H17) v0 a0 := fun a0 ar h => by
      obtain ⟨v0, h0, h0'⟩ := ha.1.get (j := 0) (by rw [h]; rfl)
      cases us with
      | nil => simp at h0
      | cons u ur =>
        simp at h0
        subst h0
        exact ⟨u, ur, rfl, h0'.same (hS (s016.trans s17))⟩
    refine i_seqC (fun σ' H' => ∃ m so ss ws bs, Hd d H17 H' ∧ Dk H' d m ∧ m ≤ n + 2 ∧ H' pb = some (.lst ws) ∧ Each (BrAt (hd d H')) ws bs ∧ hd d H' so = some (.lst ss) ∧ Brn (hd d H') a b bs ss ∧ σ' = [some (.ref d), some (.ref p), some (.ref pi), some (.ref p6), some (.ref so), some (.ref pb), none]) ?_ ?_
    · walk_at "run"
      intro p19 H19 f19 s19 e19
      refine i_neNil (SqL.of (s19 _ _ e18)) (SqL.of e19) ?_
      walk_at "run"
      have k19 := k18.same s19
      have o1719 : Hd d H17 H19 := same_hd (s18.trans s19)
      have done : ∀ {Hx : Hp} {mx : Nat}, Hd d H17 Hx → Dk Hx d mx → mx ≤ n + 2 → Hx pb = some (.lst accb) → ∃ m so ss ws bs, Hd d H17 Hx ∧ Dk Hx d m ∧ m ≤ n + 2 ∧ Hx pb = some (.lst ws) ∧ Each (BrAt (hd d Hx)) ws bs ∧ hd d Hx so = some (.lst ss) ∧ Brn (hd d Hx) a b bs ss ∧ [some (V.ref d), some (V.ref p), some (V.ref pi), some (V.ref p6), some (V.ref p16), some (V.ref pb), none] = [some (.ref d), some (.ref p), some (.ref pi), some (.ref p6), some (.ref so), some (.ref pb), none] := fun {Hx mx} ox kx lx ex => ⟨mx, p16, _, accb, _, ox, kx, lx, ex, hat.mono fun v x h => brat_same h ox.same, ox.same _ _ e17, .two _ _ _ (O0'.same ox.same) (O1'.same ox.same), rfl⟩
      refine ite2 (fun hc => ?_) (fun hc => ?_)
      rotate_left
      · walk_at "run"
        exact done o1719 k19 (by omega) (s19 _ _ e18)
      · obtain ⟨a0, ar, hae⟩ : ∃ a0 ar, a = a0 :: ar := by
          cases a with
          | nil =>
            have : accb = [] := List.length_eq_zero_iff.mp (by rw [elb, ul]; rfl)
            rw [this] at hc
            exact absurd hc (by simp)
          | cons x y => exact ⟨x, y, rfl⟩
        clear hc
        obtain ⟨v0, ur, hue, hv0⟩ := v0f a0 ar hae
        walk_at "run"
        refine ⟨d, _, rfl, k19, by omega, fun r20 H20 hr20 o20 k20 => ?_⟩
        walk_at "run"
        have o1720 := o1719.trans o20
        have e20 := o20.1 _ _ nb (s19 _ _ e18)
        refine ite2 (fun hc => ?_) (fun hc => ?_)
        rotate_left
        · walk_at "run"
          exact done o1720 k20 (by omega) e20
        · walk_at "run"
          have oH20 := o017.trans o1720
          refine i_ixL (SqL.of (hd_same _ _ (oH20.same _ _ ep))) (atI_nat (j := 0) rfl) ?_
          walk_at "run"
          refine i_ixL (SqL.of (hd_same _ _ (oH20.same _ _ e1))) (v := v0) (by rw [hue]; exact atI_nat (j := 0) rfl) ?_
          walk_at "run"
          refine ⟨d, _, rfl, k20, by omega, fun r21 H21 hr21 o21 k21 => ?_⟩
          walk_at "run"
          obtain ⟨a21, ha21, ea21⟩ := mod_nat (r21 : Int) (m := 3) (by decide)
          rw [show (r21 : Int) % 3 = ((a21 : Nat) : Int) from ea21]
          have o1721 := o1720.trans o21
          obtain ⟨vj, evj, hvj⟩ := at3o ha21 O0' O1' O2'
          refine i_ixL (SqL.of (hd_same _ _ (o1721.same _ _ e17))) evj ?_
          walk_at "run"
          intro p22 H22 f22 s22 e22
          walk_at "run"
          have k22 := k21.same s22
          have o1722 := o1721.trans (same_hd s22)
          have e22b := s22 _ _ (o21.1 _ _ nb e20)
          refine i_setL e22b (j := 0) (by rw [elb, hue]; simp [ixN, seqIndex?]) ?_
          have oo23 : Hd d H17 (upd H22 pb (.lst (accb.set 0 (.ref p22)))) := o1722.new f18
          have kk23 := Dk.upd (o := .lst (accb.set 0 (.ref p22))) k17 o1722 f18 k22
          have eb23 : upd H22 pb (.lst (accb.set 0 (.ref p22))) pb = some (.lst (accb.set 0 (.ref p22))) := upd_same
          have et23 : upd H22 pb (.lst (accb.set 0 (.ref p22))) p22 = some (.tup [v0, vj]) := by rw [upd_ne (ne_of e22 e22b (fun z => nomatch z))]; exact e22
          generalize upd H22 pb (.lst (accb.set 0 (.ref p22))) = H23 at oo23 kk23 eb23 et23
          walk_at "run"
          intro p24 H24 f24 s24 e24
          walk_at "run"
          intro p25 H25 f25 s25 e25
          walk_at "run"
          intro p26 H26 f26 s26 e26
          walk_at "run"
          have k24 := kk23.same s24
          have k25 := k24.same s25
          have k26 := k25.same s26
          have s2326 := s24.trans (s25.trans s26)
          have oF := oo23.trans (same_hd s2326)
          have n22 : p22 ≠ d := k21.ne f22
          have hX : BrAt (hd d H26) (.ref p22) (.mk a0 (optS b a21)) := ⟨p22, v0, vj, rfl, by rw [hd_ne n22]; exact s2326 _ _ et23, hv0.same oF.same, hvj.same oF.same⟩
          have hE := (hat.mono fun v x h => brat_same h oF.same).set 0 hX
          rw [hae] at hE
          refine ⟨_, p26, _, _, _, oF, k26, by omega, s2326 _ _ eb23, hE, hd_new k25 f26 e26, .one a0 ar a21 _ hae (mk_body1 (hd_new k24 f25 (s26 _ _ e25)) (mk_plain (mk_two (hd_new kk23 f24 ((s25.trans s26) _ _ e24))))), rfl⟩
    rintro σ' H19 ⟨m19, so, ss, ws, bs, o19, k19, l19, e19, hbs, eso, hbr, rfl⟩
    clear hat O0 O1 O2 O0' O1' O2' v0f e17 e16'
    have oH19 := o017.trans o19
    have ebd : hd d H19 pb = some (.lst ws) := by rw [hd_ne nb]; exact e19
    walk_at "run"
    intro p20 H20 f20 s20 e20
    walk_at "run"
    intro p21 H21 f21 s21 e21
    walk_at "run"
    intro p22 H22 f22 s22 e22
    walk_at "run"
    intro p23 H23 f23 s23 e23
    walk_at "run"
    have k20 := k19.same s20
    have k21 := k20.same s21
    have k22 := k21.same s22
    have k23 := k22.same s23
    have s1922 := s20.trans (s21.trans s22)
    have hTk : TkAt (hd d H22) (.ref p22) [.wait 3 bs] := ⟨p22, _, _, rfl, hd_new k21 f22 e22, mk_body1 (hd_new k20 f21 (s22 _ _ e21)) (sat_wait.mpr ⟨p20, pb, ws, rfl, hd_new k19 f20 ((s21.trans s22) _ _ e20), hS s1922 _ _ ebd, hbs.mono fun v x h => brat_same h (hS s1922)⟩)⟩
    have eso22 := hS s1922 _ _ eso
    have o22 := oH19.trans (same_hd s1922)
    have n23 : p23 ≠ d := k22.ne f23
    have g23 : H p23 = none := o22.free k22 f23
    have hbr22 := hbr.same (hS s1922)
    refine i_seqC (fun σ' H' => ∃ m pt ws tks y2 y3 y4 y5, Hd d H H' ∧ Dk H' d m ∧ m ≤ n + 4 ∧ hd d H' pt = some (.lst ws) ∧ Each (TkAt (hd d H')) ws tks ∧ Tks a b tks ∧ σ' = [some (.ref d), some (.ref p), y2, y3, y4, y5, some (.ref pt)]) ?_ ?_
    · walk_at "run"
      refine i_lenL (SqL.of (s23 _ _ (hd_same _ _ eso22))) ?_
      walk_at "run"
      have o2223 : Hd d H22 H23 := same_hd s23
      cases hbr22 with
      | one a0 ar j v h hv =>
        refine i_itDT (by simp) ?_
        refine i_itT ?_
        walk_at "run"
        refine i_tyL (SqL.of e23) ?_
        walk_at "run"
        refine i_ixL (SqL.of (s23 _ _ (hd_same _ _ eso22))) (atI_nat (j := 0) rfl) ?_
        walk_at "run"
        intro q1 G1 z1 r1 w1
        walk_at "run"
        refine i_append (r1 _ _ e23) (by simp only [List.length_singleton]; omega) ?_
        have oX : Hd d H22 (upd G1 p23 (.lst [.ref p22, .ref q1])) := (o2223.trans (same_hd r1)).new f23
        have kX := Dk.upd (o := .lst [.ref p22, .ref q1]) k22 (o2223.trans (same_hd r1)) f23 (k23.same r1)
        have nq : q1 ≠ p23 := ne_of w1 (r1 _ _ e23) (fun z => nomatch z)
        have eq1 : upd G1 p23 (.lst [.ref p22, .ref q1]) q1 = some (.tup [.str "side", v]) := by rw [upd_ne nq]; exact w1
        refine ⟨_, p23, [.ref p22, .ref q1], [[.wait 3 (.mk a0 (optS b j) :: brsO stopS ar)], [sayNo]], _, _, _, _, o22.trans oX, kX, by omega, by rw [hd_ne n23]; exact upd_same, ?_, ?_, rfl⟩
        · exact (Each.nil.snoc (TkAt.same hTk oX.same)).snoc ⟨q1, _, _, rfl, by rw [hd_ne (k23.ne z1)]; exact eq1, hv.same oX.same⟩
        · exact .one a0 ar j h
      | two v0 v1 v2 h0 h1 =>
        refine i_itDF (by simp) ?_
        walk_at "run"
        refine ⟨d, _, rfl, k23, by omega, fun r24 H24 hr24 o24 k24 => ?_⟩
        walk_at "run"
        have o2224 := o2223.trans o24
        have e24 := o24.1 _ _ n23 e23
        have eso24 := hd_same _ _ (o2224.same _ _ eso22)
        refine ite2 (fun hc => ?_) (fun hc => ?_)
        · walk_at "run"
          refine i_tyL (SqL.of e24) ?_
          walk_at "run"
          refine i_ixL (SqL.of eso24) (atI_nat (j := 0) rfl) ?_
          walk_at "run"
          intro q1 G1 z1 r1 w1
          walk_at "run"
          refine i_append (r1 _ _ e24) (by simp only [List.length_singleton]; omega) ?_
          have oX : Hd d H22 (upd G1 p23 (.lst [.ref p22, .ref q1])) := (o2224.trans (same_hd r1)).new f23
          have kX := Dk.upd (o := .lst [.ref p22, .ref q1]) k22 (o2224.trans (same_hd r1)) f23 (k24.same r1)
          have nq : q1 ≠ p23 := ne_of w1 (r1 _ _ e24) (fun z => nomatch z)
          have eq1 : upd G1 p23 (.lst [.ref p22, .ref q1]) q1 = some (.tup [.str "side", v0]) := by rw [upd_ne nq]; exact w1
          refine ⟨_, p23, [.ref p22, .ref q1], [[.wait 3 (brsO stopS a)], optS b 0], _, _, _, _, o22.trans oX, kX, by omega, by rw [hd_ne n23]; exact upd_same, ?_, ?_, rfl⟩
          · exact (Each.nil.snoc (TkAt.same hTk oX.same)).snoc ⟨q1, _, _, rfl, by rw [hd_ne (k24.ne z1)]; exact eq1, h0.same oX.same⟩
          · exact .two
        · walk_at "run"
          have h1' := h1.same o2224.same
          obtain ⟨lv, xs, hlv, exs, hxs⟩ := bat_iff.mp h1'
          have hbs24 := hbs.mono fun v x h => brat_same h ((hS s1922).trans o2224.same)
          have ebd24 := o2224.same _ _ (hS s1922 _ _ ebd)
          intro q1 G1 z1 r1 w1
          walk_at "run"
          intro q2 G2 z2 r2 w2
          walk_at "run"
          refine i_ixL (SqL.of ((r1.trans r2) _ _ eso24)) (v := .ref lv) (by rw [← hlv]; exact atI_nat (j := 1) rfl) ?_
          walk_at "run"
          have xl : xs.length = 1 := hxs.1
          refine i_plusL w2 ((r1.trans r2) _ _ (hd_same _ _ exs)) (by rw [xl]; simp only [List.length_singleton]; omega) ?_
          intro q3 G3 z3 r3 w3
          walk_at "run"
          intro q4 G4 z4 r4 w4
          walk_at "run"
          intro q5 G5 z5 r5 w5
          walk_at "run"
          intro q6 G6 z6 r6 w6
          walk_at "run"
          intro q7 G7 z7 r7 w7
          walk_at "run"
          have i1 := k24.same r1
          have i2 := i1.same r2
          have i3 := i2.same r3
          have i4 := i3.same r4
          have i5 := i4.same r5
          have i6 := i5.same r6
          have i7 := i6.same r7
          have j6 := r7
          have j5 := r6.trans j6
          have j4 := r5.trans j5
          have j3 := r4.trans j4
          have j2 := r3.trans j3
          have j1 := r2.trans j2
          have j0 := r1.trans j1
          have sW : SAt (hd d G7) (.ref q1) (.wait 3 (brsO stopS a)) := sat_wait.mpr ⟨q1, pb, ws, rfl, hd_new k24 z1 (j1 _ _ w1), hS j0 _ _ ebd24, hbs24.mono fun v x h => brat_same h (hS j0)⟩
          refine ⟨_, q7, _, [.wait 3 (brsO stopS a) :: optS b 1, []], _, _, _, _, o22.trans (o2224.trans (same_hd j0)), i7, by omega, hd_new i6 z7 w7, (Each.nil.snoc ?_).snoc ?_, .three, rfl⟩
          · exact ⟨q4, _, _, rfl, hd_new i3 z4 (j4 _ _ w4), bat_iff.mpr ⟨q3, _, rfl, hd_new i2 z3 (j3 _ _ w3), (Each.nil.snoc sW).append (hxs.mono fun v x h => SAt.same h (hS j0))⟩⟩
          · exact ⟨q6, _, _, rfl, hd_new i5 z6 (j6 _ _ w6), mk_body0 (hd_new i4 z5 (j5 _ _ w5))⟩
    rintro σ' H24 ⟨m24, pt, wt, tks, y2, y3, y4, y5, o24, k24, l24, e24, h24, ht, rfl⟩
    walk_at "run"
    intro p25 H25 f25 s25 e25
    walk_at "run"
    intro p26 H26 f26 s26 e26
    walk_at "run"
    have k25 := k24.same s25
    have s2426 := s25.trans s26
    exact q (.ref p26) tks m24 H26 (o24.trans (same_hd s2426)) (k25.same s26) (by omega) ⟨p26, pt, _, wt, rfl, hd_new k25 f26 e26, hS s2426 _ _ e24, h24.mono fun v x h => TkAt.same h (hS s2426)⟩ ht
theorem for_str {z : Str} {g : TG} {tb : TS} {D : Ends} {σ : St} {H : Hp} (Pv : Nat → St → Hp → Prop) (h0 : Pv 0 σ H)
    (hs : ∀ i c σ H, z.cps.toList[i]? = some c → Pv i σ H → g (.str ⟨#[c]⟩) σ H fun σ2 H2 => tb { D with nx := Pv (i + 1), ct := Pv (i + 1), bk := D.nx } σ2 H2) (hd : ∀ σ H, Pv z.cps.size σ H → D.nx σ H) : ForEnd (Its z) g tb D σ H := by
  refine ⟨fun i m σ H => m = z.cps.size - i ∧ i ≤ z.cps.size ∧ Pv i σ H, ⟨z.cps.size, by simp, Nat.zero_le _, h0⟩, ?_⟩
  rintro i m σ H ⟨rfl, hi, p⟩
  by_cases hlt : i < z.cps.size
  · refine .inr ⟨hlt, Pv (i + 1), fun σ' H' p' => ⟨z.cps.size - (i + 1), by omega, rfl, hlt, p'⟩, fun x H' y => ?_⟩
    obtain ⟨e, c, hc, rfl⟩ := y
    subst e
    exact hs i c σ _ (by simpa using hc) p
  · have e : i = z.cps.size := by omega
    subst e
    exact .inl ⟨Nat.le_refl _, hd σ H p⟩
def LS : List Str := LET.cps.toList.map fun c => ⟨#[c]⟩
def SMt (i : Nat) : List Str := LS ++ (LS.take i).flatMap fun x => LS.map (x ++ ·)
def SM : List Str := SMt 26
theorem sm_ws : SM.take 29 = WS := by decide +kernel
theorem sm_len : SM.length = 702 := by decide +kernel
theorem ls_len : LS.length = 26 := by decide +kernel
theorem let_size : LET.cps.size = 26 := by decide +kernel
theorem smt_len {i : Nat} : (SMt i).length ≤ 26 + 26 * i := by
  unfold SMt
  rw [List.length_append, ls_len, List.length_flatMap]
  have : ∀ l : List Str, (l.map fun x => (LS.map (x ++ ·)).length).sum = 26 * l.length := by
    intro l
    induction l with
    | nil => rfl
    | cons x l ih => rw [List.map_cons, List.sum_cons, ih, List.length_map, ls_len, List.length_cons]; omega
  rw [this, List.length_take]
  omega
theorem fil_head {ws r : List Str} : ∀ {l : List Str}, (∃ x ∈ l, x ∉ ws) → ∃ r', (l ++ r).filter (fun x => decide (x ∉ ws)) = l.getD (l.findIdx fun x => decide (x ∉ ws)) "" :: r'
  | [], h => by simp at h
  | y :: l, h => by
    by_cases hy : y ∈ ws
    · obtain ⟨x, hx, hn⟩ := h
      have hx' : x ∈ l := by
        rcases List.mem_cons.mp hx with e | e
        · exact absurd (e ▸ hy) hn
        · exact e
      obtain ⟨r', e⟩ := fil_head (ws := ws) (r := r) ⟨x, hx', hn⟩
      refine ⟨r', ?_⟩
      rw [List.cons_append, List.filter_cons, if_neg (by simpa using hy), e, List.findIdx_cons]
      simp [hy]
    · refine ⟨(l ++ r).filter (fun x => decide (x ∉ ws)), ?_⟩
      rw [List.cons_append, List.filter_cons, if_pos (by simpa using hy), List.findIdx_cons]
      simp [hy]
theorem spare_is {ws : List Str} (h : (Str.ofString "ac") ∉ ws) : ∃ r', SM.filter (fun x => decide (x ∉ ws)) = freeW ws :: r' := by
  have e : SM = WS ++ SM.drop 29 := by rw [← sm_ws, List.take_append_drop]
  rw [e]
  exact fil_head ⟨Str.ofString "ac", by decide +kernel, h⟩
theorem i_notInLs {K : PySem.W.Frag} {H : Hp} {Q : VK} {p : Addr} {ys : List Str} {w : Str} (h1 : SqL K H p (strsV ys)) (h : Q (.bl (!decide (w ∈ ys))) H) : rIn K true (.str w) (.ref p) H Q := ⟨p, strsV ys, rfl, .inl h1, rfl, strs_flat ys, by rw [inV_strs]; exact h⟩
def sp_due (K : PySem.W.Frag) : Sp := fun vs H Q _ => ∃ (a : Addr) (us : List V) (ps : List (List Pt)), vs = [.ref a] ∧ H a = some (.lst us) ∧ PsOk H us ps ∧ ps.length ≤ 1000 ∧ ∀ l vs ks ws H', H l = none → Same H H' → H' l = some (.lst vs) → Tr.AtsK K H' (evT ks ws) vs → IsE ps ks ws → Q (.ref l) H'
theorem ok_law_due (T : Txt K mg t) : FnOk P w K mg base CX0 2 t.a__law_due t.fd__law_due ["patterns"] (sp_due K) := by
  have G__law_letters := ok_law_letters (P := P) (w := w) (base := base) T
  refine T.F__law_due.ok sc_law_due (fun vs H Q E h => ?_) (fun cdv A outer s H vs Q E hr h => ?_)
  · obtain ⟨a, us, ps, rfl, _⟩ := h
    rfl
  · obtain ⟨a, us, ps, rfl, ha, hP, hl, q⟩ := h
    obtain ⟨hE, hok⟩ := hP
    refine ⟨_, (@pss_cons _ _ _ _ _ (@ps_set _ _ 1 _ _ _ _ sc_law_due.nd rfl (by first | exact Or.inl rfl | exact Or.inr rfl) (@pe_callB _ _ _ _ _ _ _ _ _ (cl_sortI (P := P) (w := w) rfl rfl rfl) (by rfl) T.z_sorted bb_sorted (@pa_cons _ _ _ _ _ (@pe_callTy _ _ _ _ _ _ _ _ _ (cl_setI (P := P) (w := w) K rfl rfl rfl) (by rfl) T.z_set bb_set (@pa_cons _ _ _ _ _ (pe_lc (Nt := ["pattern"]) (Nf := []) (caps := []) rfl (comp_ok (sc := defScope s_law_due) rfl rfl (by decide +kernel) (by decide +kernel) (by decide +kernel) rfl (by decide +kernel)) (kpi_list K (pv 0)) (fun _ _ _ _ _ => (pg_name (i := 0) (show (["pattern"] : List Str).Nodup by decide +kernel) rfl (by first | exact Or.inl rfl | exact Or.inr rfl))) (fun _ _ _ _ _ => (@pts_one _ _ _ (@pt_cmpR _ _ _ _ _ _ _ _ op_eq (@pe_ix _ _ _ _ _ _ _ (kix_tup K) (pv 0) (@pe_int _ _ _ _) (fun _ _ => rfl)) (@pe_str _ _ _ _) (nomark _)))) (fun _ _ _ _ _ => (@pe_ix _ _ _ _ _ _ _ (kix_tup K) (pv 0) (@pe_int _ _ _ _) (fun _ _ => rfl)))) (@pa_nil _) (by rfl)) (by decide) (by decide) (by rfl) (by rfl)) (@pa_nil _) (by rfl)) (by decide) (by decide) (by rfl) (by rfl)) (by rfl) (by first | exact Or.inl rfl | exact Or.inr rfl))
      (@pss_cons _ _ _ _ _ (ps_lc (i := 2) (Nt := ["key"]) (Nf := ["keys"]) (caps := [1]) rfl (comp_ok (sc := defScope s_law_due) rfl rfl (by decide +kernel) (by decide +kernel) (by decide +kernel) rfl (by decide +kernel)) (pi_range1 rfl T.z_range (@pa_cons _ _ _ _ _ (@pe_int _ _ _ _) (@pa_nil _) (by rfl))) (fun _ _ _ _ _ => (pg_name (i := 0) (show (["key", "keys"] : List Str).Nodup by decide +kernel) rfl (by first | exact Or.inl rfl | exact Or.inr rfl))) (fun _ _ _ _ _ => (@pts_one _ _ _ (@pt_cmpR _ _ _ _ _ _ _ _ (kop_notIn K) (pv 0) (pv 1) (by with_unfolding_all rfl)))) (fun _ _ _ _ _ => (pv 0)) sc_law_due.nd rfl (by first | exact Or.inl rfl | exact Or.inr rfl) rfl)
      (@pss_cons _ _ _ _ _ (@ps_set _ _ 3 _ _ _ _ sc_law_due.nd rfl (by first | exact Or.inl rfl | exact Or.inr rfl) (@pe_callB _ _ _ _ _ _ _ _ _ (cl_sortS (P := P) (w := w) rfl rfl rfl) (by rfl) T.z_sorted bb_sorted (@pa_cons _ _ _ _ _ (@pe_callTy _ _ _ _ _ _ _ _ _ (cl_setS (P := P) (w := w) K rfl rfl rfl) (by rfl) T.z_set bb_set (@pa_cons _ _ _ _ _ (pe_lc (Nt := ["pattern"]) (Nf := []) (caps := []) rfl (comp_ok (sc := defScope s_law_due) rfl rfl (by decide +kernel) (by decide +kernel) (by decide +kernel) rfl (by decide +kernel)) (kpi_list K (pv 0)) (fun _ _ _ _ _ => (pg_name (i := 0) (show (["pattern"] : List Str).Nodup by decide +kernel) rfl (by first | exact Or.inl rfl | exact Or.inr rfl))) (fun _ _ _ _ _ => (@pts_one _ _ _ (@pt_cmpR _ _ _ _ _ _ _ _ op_eq (@pe_ix _ _ _ _ _ _ _ (kix_tup K) (pv 0) (@pe_int _ _ _ _) (fun _ _ => rfl)) (@pe_str _ _ _ _) (nomark _)))) (fun _ _ _ _ _ => (@pe_ix _ _ _ _ _ _ _ (kix_tup K) (pv 0) (@pe_int _ _ _ _) (fun _ _ => rfl)))) (@pa_nil _) (by rfl)) (by decide) (by decide) (by rfl) (by rfl)) (@pa_nil _) (by rfl)) (by decide) (by decide) (by rfl) (by rfl)) (by rfl) (by first | exact Or.inl rfl | exact Or.inr rfl))
      (@pss_cons _ _ _ _ _ (@ps_set _ _ 4 _ _ _ _ sc_law_due.nd rfl (by first | exact Or.inl rfl | exact Or.inr rfl) (pe_call0 G__law_letters (hr.mono (by omega)) rfl T.m__law_letters T.F__law_letters.kp T.b__law_letters .nil pass0) (by rfl) (by first | exact Or.inl rfl | exact Or.inr rfl))
      (@pss_cons _ _ _ _ _ (ps_lc (i := 5) (Nt := ["letter"]) (Nf := []) (caps := []) rfl (comp_ok (sc := defScope s_law_due) rfl rfl (by decide +kernel) (by decide +kernel) (by decide +kernel) rfl (by decide +kernel)) (pi_str (pv 4)) (fun _ _ _ _ _ => (pg_name (i := 0) (show (["letter"] : List Str).Nodup by decide +kernel) rfl (by first | exact Or.inl rfl | exact Or.inr rfl))) (fun _ _ _ _ _ => (@pts_nil _)) (fun _ _ _ _ _ => (pv 0)) sc_law_due.nd rfl (by first | exact Or.inl rfl | exact Or.inr rfl) rfl)
      (@pss_cons _ _ _ _ _ (@ps_for _ _ _ _ _ _ _ _ PassesOwn.never rfl (pi_str (pv 4)) (pg_name (i := 6) sc_law_due.nd rfl (by first | exact Or.inl rfl | exact Or.inr rfl)) (@pss_one _ _ _ (@ps_set _ _ 5 _ _ _ _ sc_law_due.nd rfl (by first | exact Or.inl rfl | exact Or.inr rfl) (@pe_op _ _ _ _ _ _ _ _ op_plus (pv 5) (pe_lc (Nt := ["other"]) (Nf := ["one"]) (caps := [6]) rfl (comp_ok (sc := defScope s_law_due) rfl rfl (by decide +kernel) (by decide +kernel) (by decide +kernel) rfl (by decide +kernel)) (pi_str (pv 4)) (fun _ _ _ _ _ => (pg_name (i := 0) (show (["other", "one"] : List Str).Nodup by decide +kernel) rfl (by first | exact Or.inl rfl | exact Or.inr rfl))) (fun _ _ _ _ _ => (@pts_nil _)) (fun _ _ _ _ _ => (@pe_op _ _ _ _ _ _ _ _ op_plus (pv 1) (pv 0))))) (by rfl) (by first | exact Or.inl rfl | exact Or.inr rfl))) (by intro _; rfl))
      (@pss_cons _ _ _ _ _ (@ps_set _ _ 7 _ _ _ _ sc_law_due.nd rfl (by first | exact Or.inl rfl | exact Or.inr rfl) (@pe_ix _ _ _ _ _ _ _ (kix_list K) (pe_lc (Nt := ["word"]) (Nf := ["words"]) (caps := [3]) rfl (comp_ok (sc := defScope s_law_due) rfl rfl (by decide +kernel) (by decide +kernel) (by decide +kernel) rfl (by decide +kernel)) (kpi_list K (pv 5)) (fun _ _ _ _ _ => (pg_name (i := 0) (show (["word", "words"] : List Str).Nodup by decide +kernel) rfl (by first | exact Or.inl rfl | exact Or.inr rfl))) (fun _ _ _ _ _ => (@pts_one _ _ _ (@pt_cmpR _ _ _ _ _ _ _ _ (kop_notIn K) (pv 0) (pv 1) (by with_unfolding_all rfl)))) (fun _ _ _ _ _ => (pv 0))) (@pe_int _ _ _ _) (fun _ _ => rfl)) (by rfl) (by first | exact Or.inl rfl | exact Or.inr rfl))
      (@pss_cons _ _ _ _ _ (@ps_set _ _ 8 _ _ _ _ sc_law_due.nd rfl (by first | exact Or.inl rfl | exact Or.inr rfl) (@pe_op _ _ _ _ _ _ _ _ op_plus (@pe_lstN _ _ _ _ (@pa_cons _ _ _ _ _ (@pe_tupN _ _ _ _ _ (@pa_cons _ _ _ _ _ (@pe_str _ _ _ _) (@pa_nil _) (by rfl))) (@pa_nil _) (by rfl))) (pe_lc (Nt := ["key"]) (Nf := []) (caps := []) rfl (comp_ok (sc := defScope s_law_due) rfl rfl (by decide +kernel) (by decide +kernel) (by decide +kernel) rfl (by decide +kernel)) (kpi_list K (@pe_op _ _ _ _ _ _ _ _ op_plus (pv 1) (@pe_slice _ _ _ _ _ _ _ _ _ _ (ksl_list K) (pv 2) (@po_none _) (@po_some _ _ _ (@pe_int _ _ _ _))))) (fun _ _ _ _ _ => (pg_name (i := 0) (show (["key"] : List Str).Nodup by decide +kernel) rfl (by first | exact Or.inl rfl | exact Or.inr rfl))) (fun _ _ _ _ _ => (@pts_nil _)) (fun _ _ _ _ _ => (@pe_tupN _ _ _ _ _ (@pa_cons _ _ _ _ _ (@pe_str _ _ _ _) (@pa_cons _ _ _ _ _ (pv 0) (@pa_nil _) (by rfl)) (by rfl)))))) (by rfl) (by first | exact Or.inl rfl | exact Or.inr rfl))
      (@pss_one _ _ _ (@ps_ret _ _ _ _ (@pe_op _ _ _ _ _ _ _ _ op_plus (pv 8) (pe_lc (Nt := ["word"]) (Nf := []) (caps := []) rfl (comp_ok (sc := defScope s_law_due) rfl rfl (by decide +kernel) (by decide +kernel) (by decide +kernel) rfl (by decide +kernel)) (kpi_list K (@pe_op _ _ _ _ _ _ _ _ op_plus (pv 3) (@pe_lstN _ _ _ _ (@pa_cons _ _ _ _ _ (pv 7) (@pa_nil _) (by rfl))))) (fun _ _ _ _ _ => (pg_name (i := 0) (show (["word"] : List Str).Nodup by decide +kernel) rfl (by first | exact Or.inl rfl | exact Or.inr rfl))) (fun _ _ _ _ _ => (@pts_nil _)) (fun _ _ _ _ _ => (@pe_tupN _ _ _ _ _ (@pa_cons _ _ _ _ _ (@pe_str _ _ _ _) (@pa_cons _ _ _ _ _ (pv 0) (@pa_nil _) (by rfl)) (by rfl)))))))))))))))), ?_⟩
    have sl : (1000000 : Nat) ≤ sizeLine := le_line (Nat.le_refl _)
    have ul : us.length = ps.length := hE.1
    have n1 : Str.ofString "word" ≠ Str.ofString "key" := by decide +kernel
    have n2 : Str.ofString "other" ≠ Str.ofString "key" := by decide +kernel
    have n3 : Str.ofString "none" ≠ Str.ofString "key" := by decide +kernel
    have m1 : Str.ofString "key" ≠ Str.ofString "word" := by decide +kernel
    have m2 : Str.ofString "other" ≠ Str.ofString "word" := by decide +kernel
    have m3 : Str.ofString "none" ≠ Str.ofString "word" := by decide +kernel
    walk_at "go"
    refine ⟨⟨_, SqL.of ha⟩, cc_list (xs := us) (by omega) (fun i acc H' => H' = H ∧ i ≤ us.length ∧ acc.length ≤ i ∧ acc = intsV (keysOf (ps.take i))) ⟨rfl, Nat.zero_le _, Nat.le_refl _, rfl⟩ (fun i acc H' ⟨e, _, ea, _⟩ => ⟨ea, e ▸ SqL.of ha⟩) ?_ ?_⟩
    · rintro i v acc H' hv ⟨rfl, hi, ea, rfl⟩
      have hi' := (List.getElem?_eq_some_iff.mp hv).1
      obtain ⟨p, hp⟩ : ∃ p, ps[i]? = some p := ⟨_, List.getElem?_eq_getElem (by omega)⟩
      have hvp := hE.2 i v p hv hp
      have hpk := hok p (List.mem_of_getElem? hp)
      rw [List.take_add_one, hp, Option.toList_some]
      cases hpk with
      | key k h0 h1 =>
        obtain ⟨b, rfl, e⟩ := pat_key hvp
        walk_at "run"
        refine i_ixT (SqT.of e) (atI_nat (j := 0) rfl) ?_
        walk_at "run"
        refine i_itDT rfl ?_
        walk_at "run"
        refine i_ixT (SqT.of e) (atI_nat (j := 1) rfl) ?_
        refine ⟨rfl, hi', by simp; omega, ?_⟩
        simp [keysOf, keyP, intsV, List.filterMap_append]
      | word x hx =>
        obtain ⟨b, rfl, e⟩ := pat_word hvp
        walk_at "run"
        refine i_ixT (SqT.of e) (atI_nat (j := 0) rfl) ?_
        walk_at "run"
        refine i_itDF n1 ?_
        refine ⟨rfl, hi', by omega, ?_⟩
        simp [keysOf, wordP, intsV, List.filterMap_append]
      | other =>
        obtain ⟨b, rfl, e⟩ := pat_one hvp
        walk_at "run"
        refine i_ixT (SqT.of e) (atI_nat (j := 0) rfl) ?_
        walk_at "run"
        refine i_itDF n2 ?_
        refine ⟨rfl, hi', by omega, ?_⟩
        simp [keysOf, intsV, List.filterMap_append]
      | non =>
        obtain ⟨b, rfl, e⟩ := pat_one hvp
        walk_at "run"
        refine i_ixT (SqT.of e) (atI_nat (j := 0) rfl) ?_
        walk_at "run"
        refine i_itDF n3 ?_
        refine ⟨rfl, hi', by omega, ?_⟩
        simp [keysOf, intsV, List.filterMap_append]
    · rintro acc H' ⟨rfl, _, ea, rfl⟩ p1 H1 f1 s1 e1
      rw [ul, List.take_length] at e1 ea
      walk_at "run"
      refine ⟨p1, keysOf ps, rfl, SqL.of e1, by simp [intsV] at ea; omega, fun p2 H2 ks0 f2 s2 h2 nd2 mem2 => ?_⟩
      walk_at "run"
      have hk10 : ∀ x ∈ ks0, 0 ≤ x ∧ x < 10 := fun x hx => by
        have := hok _ (keysOf_mem.mp ((mem2 x).mp hx))
        generalize he : keyP x = pp at this
        cases this with
        | key k h0 h1 => simp only [keyP, List.cons.injEq, Pt.i.injEq, and_true, true_and] at he; subst he; exact ⟨h0, h1⟩
        | word y hy => simp [keyP, wordP] at he
        | other => simp [keyP] at he
        | non => simp [keyP] at he
      have kl := few_keys nd2 hk10
      refine ⟨p2, ks0, rfl, h2, by omega, fun pk ks H3 f3 s3 e3 pm3 so3 => ?_⟩
      walk_at "run"
      have s03 := s1.trans (s2.trans s3)
      have kl3 : ks.length ≤ 10 := by rw [pm3.length_eq]; exact kl
      refine cc_range (n := 10) (by omega) (fun i acc H' => H' = H3 ∧ i ≤ 10 ∧ acc.length ≤ i ∧ acc = ((allK.take i).filter fun k => decide (k ∉ ks)).map V.int) ⟨rfl, Nat.zero_le _, Nat.le_refl _, rfl⟩ (fun i acc H' ⟨_, _, e, _⟩ => e) ?_ ?_
      · rintro i acc H8 hi ⟨rfl, _, ea, rfl⟩
        walk_at "run"
        refine i_notInI (SqL.of e3) ?_
        walk_at "run"
        have hk : allK[i]? = some (0 + (i : Int)) := by
          unfold allK
          rw [List.getElem?_map, List.getElem?_range hi]
          simp
        rw [List.take_add_one, hk, Option.toList_some, List.filter_append]
        by_cases hin : (0 + (i : Int)) ∈ ks
        · refine i_itNF hin ?_
          refine ⟨rfl, hi, by omega, ?_⟩
          simp only [List.filter_cons, List.filter_nil, decide_not, decide_eq_true hin, Bool.not_true, Bool.false_eq_true, if_false, List.append_nil]
        · refine i_itNT hin ?_
          walk_at "run"
          refine ⟨rfl, hi, by rw [List.length_append, List.length_singleton]; omega, ?_⟩
          simp only [List.filter_cons, List.filter_nil, decide_not, decide_eq_false hin, Bool.not_false, if_true, List.map_append, List.map_cons, List.map_nil]
      rintro acc H8 ⟨rfl, _, ec, rfl⟩ p4 H4 f4 s4 e4
      rw [show allK.take 10 = allK from rfl] at e4
      walk_at "run"
      have s04 := s03.trans s4
      refine ⟨⟨_, SqL.of (s04 _ _ ha)⟩, cc_list (xs := us) (by omega) (fun i acc H' => H' = H4 ∧ i ≤ us.length ∧ acc.length ≤ i ∧ acc = strsV (wordsOf (ps.take i))) ⟨rfl, Nat.zero_le _, Nat.le_refl _, rfl⟩ (fun i acc H' ⟨e, _, ea, _⟩ => ⟨ea, e ▸ SqL.of (s04 _ _ ha)⟩) ?_ ?_⟩
      · rintro i v acc Hz hv ⟨rfl, hi, ea, rfl⟩
        have hi' := (List.getElem?_eq_some_iff.mp hv).1
        obtain ⟨p, hp⟩ : ∃ p, ps[i]? = some p := ⟨_, List.getElem?_eq_getElem (by omega)⟩
        have hvp := (hE.2 i v p hv hp).same s04
        have hpk := hok p (List.mem_of_getElem? hp)
        rw [List.take_add_one, hp, Option.toList_some]
        cases hpk with
        | key k h0 h1 =>
          obtain ⟨b, rfl, e⟩ := pat_key hvp
          walk_at "run"
          refine i_ixT (SqT.of e) (atI_nat (j := 0) rfl) ?_
          walk_at "run"
          refine i_itDF m1 ?_
          refine ⟨rfl, hi', by omega, ?_⟩
          simp [L2.wordsOf, keyP, strsV, List.filterMap_append]
        | word x hx =>
          obtain ⟨b, rfl, e⟩ := pat_word hvp
          walk_at "run"
          refine i_ixT (SqT.of e) (atI_nat (j := 0) rfl) ?_
          walk_at "run"
          refine i_itDT rfl ?_
          walk_at "run"
          refine i_ixT (SqT.of e) (atI_nat (j := 1) rfl) ?_
          refine ⟨rfl, hi', by simp; omega, ?_⟩
          simp [L2.wordsOf, wordP, strsV, List.filterMap_append]
        | other =>
          obtain ⟨b, rfl, e⟩ := pat_one hvp
          walk_at "run"
          refine i_ixT (SqT.of e) (atI_nat (j := 0) rfl) ?_
          walk_at "run"
          refine i_itDF m2 ?_
          refine ⟨rfl, hi', by omega, ?_⟩
          simp [L2.wordsOf, strsV, List.filterMap_append]
        | non =>
          obtain ⟨b, rfl, e⟩ := pat_one hvp
          walk_at "run"
          refine i_ixT (SqT.of e) (atI_nat (j := 0) rfl) ?_
          walk_at "run"
          refine i_itDF m3 ?_
          refine ⟨rfl, hi', by omega, ?_⟩
          simp [L2.wordsOf, strsV, List.filterMap_append]
      rintro acc Hz ⟨rfl, _, eb, rfl⟩ p5 H5 f5 s5 e5
      rw [ul, List.take_length] at e5 eb
      walk_at "run"
      refine ⟨p5, wordsOf ps, rfl, SqL.of e5, by simp [strsV] at eb; omega, fun p6 H6 ws0 f6 s6 h5 nd5 mem5 => ?_⟩
      walk_at "run"
      have hww : ∀ x ∈ ws0, x ∈ WW := fun x hx => by
        have := hok _ (wordsOf_mem.mp ((mem5 x).mp hx))
        generalize he : wordP x = pp at this
        cases this with
        | key k h0 h1 => simp [keyP, wordP] at he
        | word y hy => simp only [wordP, List.cons.injEq, Pt.s.injEq, and_true, true_and] at he; subst he; exact hy
        | other => simp [wordP] at he
        | non => simp [wordP] at he
      have wl := few_words nd5 hww
      refine ⟨p6, ws0, rfl, h5, by omega, fun pw ws H7 f7 s7 e7 pm7 so7 => ?_⟩
      walk_at "run"
      have s47 := s5.trans (s6.trans s7)
      have wl3 : ws.length ≤ 32 := by rw [pm7.length_eq]; exact wl
      have hac : (Str.ofString "ac") ∉ ws := fun h => absurd (hww _ (pm7.mem_iff.mp h)) (by decide +kernel)
      have isE : IsE ps ks ws := ⟨so3, pm3.nodup_iff.mpr nd2, fun x => pm3.mem_iff.trans ((mem2 x).trans keysOf_mem), so7, pm7.nodup_iff.mpr nd5, fun x => pm7.mem_iff.trans ((mem5 x).trans wordsOf_mem)⟩
      have s07 := s04.trans s47
      have ek7 := (s4.trans s47) _ _ e3
      have er7 := s47 _ _ e4
      refine ⟨rfl, ?_⟩
      walk_at "run"
      refine cc_str (z := LET) (by rw [let_size]; omega) (fun i acc H' => H' = H7 ∧ i ≤ 26 ∧ acc = strsV (LS.take i)) ⟨rfl, Nat.zero_le _, rfl⟩ (fun i acc H' ⟨_, _, e⟩ => by rw [e]; simp only [strsV, List.length_map, List.length_take]; omega) ?_ ?_
      · rintro i c acc H8 hc ⟨rfl, hi, rfl⟩
        have hci := (List.getElem?_eq_some_iff.mp hc).1
        walk_at "run"
        refine ⟨rfl, by simp only [Array.length_toList, let_size] at hci; omega, ?_⟩
        rw [List.take_add_one, show LS[i]? = some ⟨#[c]⟩ by unfold LS; rw [List.getElem?_map, hc]; rfl]
        simp [strsV]
      rintro acc H8 ⟨rfl, _, rfl⟩ p9 H9 f9 s9 e9
      rw [let_size, show LS.take 26 = LS by rw [← ls_len, List.take_length]] at e9
      walk_at "run"
      refine for_str (z := LET) (fun i σ' H' => ∃ p6 y6, i ≤ 26 ∧ Same H8 H' ∧ H' p6 = some (.lst (strsV (SMt i))) ∧ σ' = [some (.ref a), some (.ref pk), some (.ref p4), some (.ref pw), some (.str LET), some (.ref p6), y6, none, none]) ⟨p9, _, Nat.zero_le _, s9, by rw [e9]; simp [SMt], rfl⟩ ?_ ?_
      · rintro i c σ' H10 hc ⟨p10, y6, hi, s10, e10, rfl⟩
        have hci := (List.getElem?_eq_some_iff.mp hc).1
        have hi' : i < 26 := by simp only [Array.length_toList, let_size] at hci; omega
        have hLi : LS[i]? = some ⟨#[c]⟩ := by unfold LS; rw [List.getElem?_map, hc]; rfl
        have sl10 := smt_len (i := i)
        walk_at "run"
        refine cc_str (z := LET) (by rw [let_size]; omega) (fun j acc H' => H' = H10 ∧ j ≤ 26 ∧ acc = strsV ((LS.take j).map ((⟨#[c]⟩ : Str) ++ ·))) ⟨rfl, Nat.zero_le _, rfl⟩ (fun i acc H' ⟨_, _, e⟩ => by rw [e]; simp only [strsV, List.length_map, List.length_take]; omega) ?_ ?_
        · rintro j c2 acc H11 hc2 ⟨rfl, hj, rfl⟩
          have hcj := (List.getElem?_eq_some_iff.mp hc2).1
          walk_at "run"
          refine i_plusS (le_line (show 1 + 1 ≤ _ by omega)) ?_
          refine ⟨rfl, by simp only [Array.length_toList, let_size] at hcj; omega, ?_⟩
          rw [List.take_add_one, show LS[j]? = some ⟨#[c2]⟩ by unfold LS; rw [List.getElem?_map, hc2]; rfl]
          simp [strsV]
        rintro acc H11 ⟨rfl, _, rfl⟩ p12 H12 f12 s12 e12
        rw [let_size, show LS.take 26 = LS by rw [← ls_len, List.take_length]] at e12
        walk_at "run"
        refine i_plusL (s12 _ _ e10) e12 (by simp only [strsV, List.length_map, ls_len]; omega) ?_
        intro p13 H13 f13 s13 e13
        walk_at "run"
        refine ⟨p13, _, by omega, s10.trans (s12.trans s13), ?_, rfl⟩
        rw [e13]
        unfold SMt
        rw [List.take_add_one, hLi, Option.toList_some, List.flatMap_append]
        simp [strsV]
      rintro σ' H10 ⟨p10, y6, _, s10, e10, rfl⟩
      rw [let_size] at e10
      change H10 p10 = some (.lst (strsV SM)) at e10
      walk_at "run"
      have ek10 := s10 _ _ ek7
      have er10 := s10 _ _ er7
      have ew10 := s10 _ _ e7
      refine ⟨⟨_, SqL.of e10⟩, cc_list (xs := strsV SM) (by simp only [strsV, List.length_map, sm_len]; omega) (fun i acc H' => H' = H10 ∧ i ≤ SM.length ∧ acc.length ≤ i ∧ acc = strsV ((SM.take i).filter fun x => decide (x ∉ ws))) ⟨rfl, Nat.zero_le _, Nat.le_refl _, rfl⟩ (fun i acc H' ⟨e, _, ea, _⟩ => ⟨ea, e ▸ SqL.of e10⟩) ?_ ?_⟩
      · rintro i v acc H11 hv ⟨rfl, hi, ea, rfl⟩
        unfold strsV at hv
        rw [List.getElem?_map] at hv
        obtain ⟨x, hx, rfl⟩ := Option.map_eq_some_iff.mp hv
        have hi' := (List.getElem?_eq_some_iff.mp hx).1
        walk_at "run"
        refine i_notInLs (SqL.of ew10) ?_
        walk_at "run"
        rw [List.take_add_one, hx, Option.toList_some, List.filter_append]
        by_cases hin : x ∈ ws
        · refine i_itNF hin ?_
          refine ⟨rfl, hi', by omega, ?_⟩
          simp only [List.filter_cons, List.filter_nil, decide_not, decide_eq_true hin, Bool.not_true, Bool.false_eq_true, if_false, List.append_nil]
        · refine i_itNT hin ?_
          walk_at "run"
          refine ⟨rfl, hi', by rw [List.length_append, List.length_singleton]; omega, ?_⟩
          simp only [strsV, List.filter_cons, List.filter_nil, decide_not, decide_eq_false hin, Bool.not_false, if_true, List.map_append, List.map_cons, List.map_nil]
      rintro acc H11 ⟨rfl, _, _, rfl⟩ p12 H12 f12 s12 e12
      obtain ⟨rr, hrr⟩ := spare_is hac
      rw [show (strsV SM).length = SM.length by simp [strsV], List.take_length, hrr] at e12
      walk_at "run"
      refine i_ixL (SqL.of e12) (v := .str (freeW ws)) (atI_nat (j := 0) rfl) ?_
      walk_at "run"
      have s712 := s10.trans s12
      intro q0 H13 g0 t0 d0
      walk_at "run"
      intro q1 H14 g1 t1 d1
      walk_at "run"
      have t714 := s712.trans (t0.trans t1)
      refine i_slL (SqL.of (t714 _ _ er7)) ?_
      intro q2 H15 g2 t2 d2
      rw [show (1 : Int) = ((1 : Nat) : Int) from rfl, cut_to] at d2
      walk_at "run"
      have fkl : (freeK ks).length ≤ 1 := by unfold freeK; rw [List.length_take]; omega
      refine i_plusL ((t714.trans t2) _ _ ek7) d2 (by rw [show (intsV ks).length = ks.length by simp [intsV], List.length_map]; have := fkl; unfold freeK at this; omega) ?_
      intro q3 H16 g3 t3 d3
      have ek16 : H16 q3 = some (.lst (intsV (ks ++ freeK ks))) := by
        rw [d3]
        unfold freeK intsV
        rw [List.map_append]
      walk_at "run"
      refine ⟨⟨_, SqL.of ek16⟩, cc_list (xs := intsV (ks ++ freeK ks)) (by simp [intsV]; omega) (fun i acc H' => i ≤ (ks ++ freeK ks).length ∧ Same H16 H' ∧ acc.length = i ∧ Tr.AtsK K H' (((ks ++ freeK ks).take i).map keyE) acc) ⟨Nat.zero_le _, Same.refl _, rfl, rfl⟩ (fun i acc H' ⟨_, s', e, _⟩ => ⟨by omega, SqL.of (s' _ _ ek16)⟩) ?_ ?_⟩
      · rintro i v acc H17 hv ⟨hi, u2, el, hat⟩
        unfold intsV at hv
        rw [List.getElem?_map] at hv
        obtain ⟨x, hx, rfl⟩ := Option.map_eq_some_iff.mp hv
        walk_at "run"
        intro q4 H18 g4 t4 d4
        refine ⟨(List.getElem?_eq_some_iff.mp hx).1, u2.trans t4, by simp [el], ?_⟩
        rw [List.take_add_one, hx, Option.toList_some, List.map_append]
        exact atsK_snoc (atsK_mono t4.tups hat) (tupK2 d4)
      rintro acc H17 ⟨_, u2, el, hat⟩ q4 H18 g4 t4 d4
      rw [show (intsV (ks ++ freeK ks)).length = (ks ++ freeK ks).length by simp [intsV], List.take_length] at hat
      rw [show (intsV (ks ++ freeK ks)).length = (ks ++ freeK ks).length by simp [intsV]] at el
      walk_at "run"
      have t1418 := t2.trans (t3.trans (u2.trans t4))
      refine i_plusL (t1418 _ _ d1) d4 (by rw [el]; simp; omega) ?_
      intro q5 H19 g5 t5 d5
      walk_at "run"
      have hk19 := atsK_mono (t4.trans t5).tups hat
      have t1419 := t1418.trans t5
      have ew19 := (t714.trans t1419) _ _ e7
      intro q6 H20 g6 t6 d6
      walk_at "run"
      refine i_plusL (t6 _ _ ew19) d6 (by simp [strsV]; omega) ?_
      intro q7 H21 g7 t7 d7
      have ew21 : H21 q7 = some (.lst (strsV (ws ++ [freeW ws]))) := by rw [d7]; simp [strsV]
      walk_at "run"
      refine ⟨⟨_, SqL.of ew21⟩, cc_list (xs := strsV (ws ++ [freeW ws])) (by simp [strsV]; omega) (fun i acc H' => i ≤ (ws ++ [freeW ws]).length ∧ Same H21 H' ∧ acc.length = i ∧ Tr.AtsK K H' (((ws ++ [freeW ws]).take i).map wordE) acc) ⟨Nat.zero_le _, Same.refl _, rfl, rfl⟩ (fun i acc H' ⟨_, s', e, _⟩ => ⟨by omega, SqL.of (s' _ _ ew21)⟩) ?_ ?_⟩
      · rintro i v acc H22 hv ⟨hi, u5, el5, hat5⟩
        unfold strsV at hv
        rw [List.getElem?_map] at hv
        obtain ⟨x, hx, rfl⟩ := Option.map_eq_some_iff.mp hv
        walk_at "run"
        intro q8 H23 g8 t8 d8
        refine ⟨(List.getElem?_eq_some_iff.mp hx).1, u5.trans t8, by simp [el5], ?_⟩
        rw [List.take_add_one, hx, Option.toList_some, List.map_append]
        exact atsK_snoc (atsK_mono t8.tups hat5) (tupK2w d8)
      rintro acc5 H22 ⟨_, u5, el5, hat5⟩ q8 H23 g8 t8 d8
      rw [show (strsV (ws ++ [freeW ws])).length = (ws ++ [freeW ws]).length by simp [strsV], List.take_length] at hat5
      rw [show (strsV (ws ++ [freeW ws])).length = (ws ++ [freeW ws]).length by simp [strsV]] at el5
      walk_at "run"
      have t1923 := t6.trans (t7.trans (u5.trans t8))
      refine i_plusL (t1923 _ _ d5) d8 (by rw [el5]; simp only [List.length_append, List.length_singleton, List.length_cons, List.length_nil, el]; omega) ?_
      intro q9 H24 g9 t9 d9
      walk_at "run"
      have sB := s07.trans (t714.trans (t1419.trans t1923))
      refine q q9 _ ks ws H24 (sB.free g9) (sB.trans t9) d9 ?_ isE
      have hk24 := atsK_mono (t1923.trans t9).tups hk19
      have hw24 := atsK_mono (t8.trans t9).tups hat5
      have hq : quietT.AtK K H24 (.ref q0) := by
        simp only [quietT, Tr.AtK, Tr.AtsK]
        exact ⟨_, _, rfl, .inl ((t1.trans (t1419.trans (t1923.trans t9))) _ _ d0), _, _, rfl, rfl, rfl⟩
      unfold evT
      simp only [List.cons_append, List.nil_append, Tr.AtsK]
      exact ⟨_, _, rfl, hq, atsK_app hk24 hw24⟩
section
open PySem.Spec PyProof.Rows
def rEqTO : R2 := fun x y H Q => ∃ (a b l1 l2 m1 m2 : Addr) (ms ns : List Addr), x = .ref a ∧ y = .ref b ∧ H a = some (.tup [.ref l1, .ref l2]) ∧ H b = some (.tup [.ref m1, .ref m2]) ∧ H l1 = some (.lst (ms.map V.ref)) ∧ H m1 = some (.lst (ms.map V.ref)) ∧ H l2 = some (.lst (ns.map V.ref)) ∧ H m2 = some (.lst (ns.map V.ref)) ∧ Q (.bl true) H
theorem eqO {X : Cx} {pins} {σ : L2.St} {H : Hp} {s : Shared} (I : Inv X pins σ H s) {A : Around} {a b : Addr} {ms : List Addr} (e1 : H a = some (.lst (ms.map V.ref))) (e2 : H b = some (.lst (ms.map V.ref))) (hu : A.units + 4 < cLine) : SeqAt.EqAt A s (.ref a) (.ref b) true := by
  by_cases hab : a = b
  · subst hab
    exact SeqAt.EqAt.same _
  refine SeqAt.EqAt.of_refs hab ?_
  obtain ⟨is1, q1, p1, _⟩ := I.list (SqL.of e1)
  obtain ⟨is2, q2, p2, _⟩ := I.list (SqL.of e2)
  cases vals_refs q1
  cases vals_refs q2
  have := SeqAt.RcAt.lists (A := A) (s := s) (e := fun _ => true) p1.isList p2.isList rfl (by omega) (fun j h1 h2 => SeqAt.EqAt.same _)
  simpa [all_tt] using this
theorem kop_eqTO {X : Cx} (hu : X.A.units + 64 < cLine) : OpR X (compareOp .Eq) rEqTO := by
  intro pins s σ H x y v u Q I rx ry h
  obtain ⟨a, b, l1, l2, m1, m2, ms, ns, rfl, rfl, e1, e2, g1, g2, g3, g4, q⟩ := h
  cases rx
  cases ry
  obtain ⟨is1, q1, p1, _⟩ := I.tuple (SqT.of e1)
  obtain ⟨is2, q2, p2, _⟩ := I.tuple (SqT.of e2)
  cases vals_refs (ms := [l1, l2]) q1
  cases vals_refs (ms := [m1, m2]) q2
  have k1 := SeqAt.RcAt.tuples (A := X.A) (s := s) (e := fun _ => true) p1 p2 (by omega) (fun j h1 h2 => by
    match j, h1, h2 with
    | 0, _, _ => exact eqO I g1 g2 (by rw [in1_units]; omega)
    | 1, _, _ => exact eqO I g3 g4 (by rw [in1_units]; omega)
    | j + 2, h1, _ => exact absurd h1 (by simp))
  refine k1 X.prog X.w X.xe (EP X pins σ Q) ⟨.bl true, H, I, ?_, q⟩
  rfl
end
theorem tks_refs {H : Hp} : ∀ {ws : List V} {tks : List (List Stm)}, Each (TkAt H) ws tks → ∃ ms : List Addr, ws = ms.map V.ref
  | [], _, _ => ⟨[], rfl⟩
  | v :: ws, [], h => absurd h.1 (by simp)
  | v :: ws, t :: tks, h => by
    obtain ⟨ms, rfl⟩ := tks_refs (ws := ws) (tks := tks) ⟨by simpa using h.1, fun j a b e1 e2 => h.2 (j + 1) a b (by simpa using e1) (by simpa using e2)⟩
    obtain ⟨q, nm, bv, rfl, _⟩ := h.2 0 v t rfl rfl
    exact ⟨q :: ms, rfl⟩
def sp_law (K : PySem.W.Frag) : Sp := fun vs H Q _ => ∃ (a : Addr) (ns : List Int), vs = [.ref a] ∧ SqL K H a (ns.map V.int) ∧ ns.length ≤ 63 ∧ ∀ H', Q (.bl true) H'
theorem ok_law (T : Txt K mg t) : FnOk P w K mg base CX0 14 t.a_law t.fd_law ["script"] (sp_law K) := by
  have G__law_deck := ok_law_deck (P := P) (w := w) (base := base) T
  have G__law_due := ok_law_due (P := P) (w := w) (base := base) T
  have G__law_parts := ok_law_parts (P := P) (w := w) (base := base) T
  have G__law_script := ok_law_script (P := P) (w := w) (base := base) T
  have G_both_events := ok_both_events (P := P) (w := w) (base := base) T
  refine T.F_law.ok sc_law (fun vs H Q E h => ?_) (fun cdv A outer s H vs Q E hr h => ?_)
  · obtain ⟨a, ns, rfl, _⟩ := h
    rfl
  · obtain ⟨a, ns, rfl, hS, hl, q⟩ := h
    refine ⟨_, (@pss_cons _ _ _ _ _ (@ps_set _ _ 1 _ _ _ _ sc_law.nd rfl (by first | exact Or.inl rfl | exact Or.inr rfl) (@pe_call _ _ _ _ _ _ _ _ _ _ _ _ _ _ _ _ G__law_deck (hr.mono (by omega)) rfl T.m__law_deck T.F__law_deck.kp T.b__law_deck .nil pass0 (@pa_cons _ _ _ _ _ (pv 0) (@pa_nil _) (by rfl)) (by decide) (by rfl) (by rfl)) (by rfl) (by first | exact Or.inl rfl | exact Or.inr rfl))
      (@pss_cons _ _ _ _ _ (@ps_set _ _ 2 _ _ _ _ sc_law.nd rfl (by first | exact Or.inl rfl | exact Or.inr rfl) (@pe_call _ _ _ _ _ _ _ _ _ _ _ _ _ _ _ _ G__law_parts (hr.mono (by omega)) rfl T.m__law_parts T.F__law_parts.kp T.b__law_parts .nil pass0 (@pa_cons _ _ _ _ _ (pv 1) (@pa_nil _) (by rfl)) (by decide) (by rfl) (by rfl)) (by rfl) (by first | exact Or.inl rfl | exact Or.inr rfl))
      (@pss_cons _ _ _ _ _ (@ps_set _ _ 3 _ _ _ _ sc_law.nd rfl (by first | exact Or.inl rfl | exact Or.inr rfl) (@pe_call _ _ _ _ _ _ _ _ _ _ _ _ _ _ _ _ G__law_parts (hr.mono (by omega)) rfl T.m__law_parts T.F__law_parts.kp T.b__law_parts .nil pass0 (@pa_cons _ _ _ _ _ (pv 1) (@pa_nil _) (by rfl)) (by decide) (by rfl) (by rfl)) (by rfl) (by first | exact Or.inl rfl | exact Or.inr rfl))
      (@pss_cons _ _ _ _ _ (@ps_set _ _ 4 _ _ _ _ sc_law.nd rfl (by first | exact Or.inl rfl | exact Or.inr rfl) (@pe_call _ _ _ _ _ _ _ _ _ _ _ _ _ _ _ _ G__law_script (hr.mono (by omega)) rfl T.m__law_script T.F__law_script.kp T.b__law_script .nil pass0 (@pa_cons _ _ _ _ _ (pv 1) (@pa_cons _ _ _ _ _ (pv 2) (@pa_nil _) (by rfl)) (by rfl)) (by decide) (by rfl) (by rfl)) (by rfl) (by first | exact Or.inl rfl | exact Or.inr rfl))
      (@pss_cons _ _ _ _ _ (@ps_set _ _ 5 _ _ _ _ sc_law.nd rfl (by first | exact Or.inl rfl | exact Or.inr rfl) (@pe_call _ _ _ _ _ _ _ _ _ _ _ _ _ _ _ _ G__law_script (hr.mono (by omega)) rfl T.m__law_script T.F__law_script.kp T.b__law_script .nil pass0 (@pa_cons _ _ _ _ _ (pv 1) (@pa_cons _ _ _ _ _ (pv 3) (@pa_nil _) (by rfl)) (by rfl)) (by decide) (by rfl) (by rfl)) (by rfl) (by first | exact Or.inl rfl | exact Or.inr rfl))
      (@pss_cons _ _ _ _ _ (@ps_set _ _ 6 _ _ _ _ sc_law.nd rfl (by first | exact Or.inl rfl | exact Or.inr rfl) (@pe_call _ _ _ _ _ _ _ _ _ _ _ _ _ _ _ _ G__law_due (hr.mono (by omega)) rfl T.m__law_due T.F__law_due.kp T.b__law_due .nil pass0 (@pa_cons _ _ _ _ _ (@pe_op _ _ _ _ _ _ _ _ op_plus (@pe_op _ _ _ _ _ _ _ _ op_plus (@pe_op _ _ _ _ _ _ _ _ op_plus (@pe_ix _ _ _ _ _ _ _ (kix_list K) (pv 2) (@pe_int _ _ _ _) (fun _ _ => rfl)) (@pe_ix _ _ _ _ _ _ _ (kix_list K) (pv 2) (@pe_int _ _ _ _) (fun _ _ => rfl))) (@pe_ix _ _ _ _ _ _ _ (kix_list K) (pv 3) (@pe_int _ _ _ _) (fun _ _ => rfl))) (@pe_ix _ _ _ _ _ _ _ (kix_list K) (pv 3) (@pe_int _ _ _ _) (fun _ _ => rfl))) (@pa_nil _) (by rfl)) (by decide) (by rfl) (by rfl)) (by rfl) (by first | exact Or.inl rfl | exact Or.inr rfl))
      (@pss_cons _ _ _ _ _ (@ps_set _ _ 7 _ _ _ _ sc_law.nd rfl (by first | exact Or.inl rfl | exact Or.inr rfl) (@pe_tupN _ _ _ _ _ (@pa_cons _ _ _ _ _ (@pe_callTy _ _ _ _ _ _ _ _ _ (kcl_list K) (by rfl) T.z_list bb_list (@pa_cons _ _ _ _ _ (@pe_ix _ _ _ _ _ _ _ (kix_tup K) (pv 4) (@pe_int _ _ _ _) (fun _ _ => rfl)) (@pa_nil _) (by rfl)) (by decide) (by decide) (by rfl) (by rfl)) (@pa_cons _ _ _ _ _ (@pe_callTy _ _ _ _ _ _ _ _ _ (kcl_list K) (by rfl) T.z_list bb_list (@pa_cons _ _ _ _ _ (@pe_ix _ _ _ _ _ _ _ (kix_tup K) (pv 5) (@pe_int _ _ _ _) (fun _ _ => rfl)) (@pa_nil _) (by rfl)) (by decide) (by decide) (by rfl) (by rfl)) (@pa_nil _) (by rfl)) (by rfl))) (by rfl) (by first | exact Or.inl rfl | exact Or.inr rfl))
      (@pss_cons _ _ _ _ _ (@ps_set _ _ 8 _ _ _ _ sc_law.nd rfl (by first | exact Or.inl rfl | exact Or.inr rfl) (@pe_call _ _ _ _ _ _ _ _ _ _ _ _ _ _ _ _ G_both_events (hr.mono (by omega)) rfl T.m_both_events T.F_both_events.kp T.b_both_events .nil pass0 (@pa_cons _ _ _ _ _ (pv 4) (@pa_cons _ _ _ _ _ (pv 5) (@pa_nil _) (by rfl)) (by rfl)) (by decide) (by rfl) (by rfl)) (by rfl) (by first | exact Or.inl rfl | exact Or.inr rfl))
      (@pss_cons _ _ _ _ _ (@ps_if _ _ _ _ _ _ _ _ (@PW.pt _ _ _ (@pw_or _ _ _ _ _ _ _ (@pt_not _ _ _ _ (kpt_tru K (@pe_callB _ _ _ _ _ _ _ _ _ (kcl_isi K) (by rfl) T.z_isinstance bb_isinstance (@pa_cons _ _ _ _ _ (pv 8) (@pa_cons _ _ _ _ _ (pe_bltn (v := .ty "list") (by rfl) T.z_list bb_list rfl) (@pa_nil _) (by rfl)) (by rfl)) (by decide) (by decide) (by rfl) (by rfl)) (fun _ => rfl))) (@pw_or _ _ _ _ _ _ _ (@pt_cmpR _ _ _ _ _ _ _ _ (kop_neLK K (by exact hr.units)) (pv 8) (pv 6) (nomark _)) (@pw_or1 _ _ _ _ (@pt_cmpR _ _ _ _ _ _ _ _ (kop_neLK K (by exact hr.units)) (@pe_call _ _ _ _ _ _ _ _ _ _ _ _ _ _ _ _ G_both_events (hr.mono (by omega)) rfl T.m_both_events T.F_both_events.kp T.b_both_events .nil pass0 (@pa_cons _ _ _ _ _ (pv 5) (@pa_cons _ _ _ _ _ (pv 4) (@pa_nil _) (by rfl)) (by rfl)) (by decide) (by rfl) (by rfl)) (pv 6) (nomark _)))))) (@pss_one _ _ _ (@ps_ret _ _ _ _ (@pe_bl _ _ _ _))) (@pss_nil _))
      (@pss_cons _ _ _ _ _ (@ps_expr _ _ _ _ (kpe_bm0 K PySem.F.plainAttrs_list PySem.F.slot_list_clear PySem.F.type_list_clear mt_clear (pv 8)) (by rfl))
      (@pss_one _ _ _ (@ps_ret _ _ _ _ (@pe_and _ _ _ _ _ _ _ (@pe_cmpR _ _ _ _ _ _ _ _ (kop_eqLK K (by exact hr.units)) (@pe_call _ _ _ _ _ _ _ _ _ _ _ _ _ _ _ _ G_both_events (hr.mono (by omega)) rfl T.m_both_events T.F_both_events.kp T.b_both_events .nil pass0 (@pa_cons _ _ _ _ _ (pv 4) (@pa_cons _ _ _ _ _ (pv 5) (@pa_nil _) (by rfl)) (by rfl)) (by decide) (by rfl) (by rfl)) (pv 6) (nomark _)) (@pe_one _ _ _ _ _ (@pe_cmpR _ _ _ _ _ _ _ _ (kop_eqTO (by exact hr.units)) (@pe_tupN _ _ _ _ _ (@pa_cons _ _ _ _ _ (@pe_ix _ _ _ _ _ _ _ (kix_tup K) (pv 4) (@pe_int _ _ _ _) (fun _ _ => rfl)) (@pa_cons _ _ _ _ _ (@pe_ix _ _ _ _ _ _ _ (kix_tup K) (pv 5) (@pe_int _ _ _ _) (fun _ _ => rfl)) (@pa_nil _) (by rfl)) (by rfl))) (pv 7) (nomark _)))))))))))))))), ?_⟩
    have sl : (1000000 : Nat) ≤ sizeLine := le_line (Nat.le_refl _)
    walk_at "go"
    refine ⟨a, ns, rfl, hS, hl, fun d H1 f1 s1 k1 => ?_⟩
    walk_at "run"
    refine ⟨d, _, rfl, k1, by omega, fun pm a1 b1 m2 H2 o2 k2 l2 hp2 c2 => ?_⟩
    walk_at "run"
    refine ⟨d, _, rfl, k2, by omega, fun pn a2 b2 m3 H3 o3 k3 l3 hp3 c3 => ?_⟩
    walk_at "run"
    have hp2' := hp2.same o3.same
    refine ⟨d, pm, _, a1, b1, rfl, k3, by omega, hp2', c2, fun v1 tk1 m4 H4 o4 k4 l4 hs4 ht4 => ?_⟩
    walk_at "run"
    refine ⟨d, pn, _, a2, b2, rfl, k4, by omega, hp3.same o4.same, c3, fun v2 tk2 m5 H5 o5 k5 l5 hs5 ht5 => ?_⟩
    walk_at "run"
    obtain ⟨x1, x2, us1, us2, em, e1, e2, h1, h2⟩ := (hp2'.same (o4.trans o5).same).same hd_same
    obtain ⟨y1, y2, vs1, vs2, en, g1, g2, r1, r2⟩ := (hp3.same (o4.trans o5).same).same hd_same
    have S1 := (hs4.same o5.same).same hd_same
    have S2 := hs5.same hd_same
    clear hp2 hp2' hp3 hs4 hs5
    obtain ⟨ok1, in1⟩ := ht4.ok c2 h1.2 h2.2
    obtain ⟨ok2, in2⟩ := ht5.ok c3 r1.2 r2.2
    have nl1 := h1.len
    have nl2 := h2.len
    have nl3 := r1.len
    have nl4 := r2.len
    refine i_ixL (SqL.of em) (atI_nat (j := 0) rfl) ?_
    walk_at "run"
    refine i_ixL (SqL.of em) (atI_nat (j := 1) rfl) ?_
    walk_at "run"
    refine i_plusL e1 e2 (by omega) ?_
    intro p6 H6 f6 s6 e6
    walk_at "run"
    refine i_ixL (SqL.of (s6 _ _ en)) (atI_nat (j := 0) rfl) ?_
    walk_at "run"
    refine i_plusL e6 (s6 _ _ g1) (by rw [List.length_append]; omega) ?_
    intro p7 H7 f7 s7 e7
    walk_at "run"
    have s57 := s6.trans s7
    refine i_ixL (SqL.of (s57 _ _ en)) (atI_nat (j := 1) rfl) ?_
    walk_at "run"
    refine i_plusL e7 (s57 _ _ g2) (by simp only [List.length_append]; omega) ?_
    intro p8 H8 f8 s8 e8
    walk_at "run"
    have s58 := s57.trans s8
    have hps := (((h1.app h2).app r1).app r2).tups s58.tups
    refine ⟨p8, _, _, rfl, e8, hps, by simp only [List.length_append]; omega, fun pd dvs kd wd H9 f9 s9 e9 at9 isd => ?_⟩
    walk_at "run"
    have s59 := s58.trans s9
    have S1' := S1.same s59
    have S2' := S2.same s59
    obtain ⟨t1, lt1, xx1, ws1, rfl, et1, el1, hT1⟩ := S1.same s59
    obtain ⟨t2, lt2, xx2, ws2, rfl, et2, el2, hT2⟩ := S2.same s59
    obtain ⟨ms1, hms1⟩ := tks_refs hT1
    obtain ⟨ms2, hms2⟩ := tks_refs hT2
    rw [hms1] at el1
    rw [hms2] at el2
    refine i_ixT (SqT.of et1) (atI_nat (j := 1) rfl) ?_
    walk_at "run"
    refine i_listL (SqL.of el1) ?_
    intro p10 H10 f10 s10 e10
    walk_at "run"
    refine i_ixT (SqT.of (s10 _ _ et2)) (atI_nat (j := 1) rfl) ?_
    walk_at "run"
    refine i_listL (SqL.of (s10 _ _ el2)) ?_
    intro p11 H11 f11 s11 e11
    walk_at "run"
    intro p12 H12 f12 s12 e12
    walk_at "run"
    have s912 := s10.trans (s11.trans s12)
    refine ⟨_, _, tk1, tk2, rfl, S1'.same s912, S2'.same s912, ok1, ok2, fun pf fvs kf wf H13 f13 s13 e13 at13 isf => ?_⟩
    walk_at "run"
    have same1 : kf = kd ∧ wf = wd := isf.one isd fun x => by
      simp only [List.mem_append, in1, in2]
      constructor
      · rintro ((h | h) | (h | h)) <;> simp [h]
      · rintro (((h | h) | h) | h) <;> simp [h]
    obtain ⟨rfl, rfl⟩ := same1
    have at13d := atsK_mono (s912.trans s13).tups at9
    have e13d := (s912.trans s13) _ _ e9
    refine i_isiL e13 ?_
    walk_at "run"
    refine ⟨evT kf wf, pf, pd, _, _, rfl, rfl, e13, e13d, at13, at13d, ev_hs, ?_⟩
    walk_at "run"
    refine ⟨_, _, tk2, tk1, rfl, S2'.same (s912.trans s13), S1'.same (s912.trans s13), ok2, ok1, fun pg gvs kg wg H14 f14 s14 e14 at14 isg => ?_⟩
    walk_at "run"
    have same2 : kg = kf ∧ wg = wf := isg.one isd fun x => by
      simp only [List.mem_append, in1, in2]
      constructor
      · rintro ((h | h) | (h | h)) <;> simp [h]
      · rintro (((h | h) | h) | h) <;> simp [h]
    obtain ⟨rfl, rfl⟩ := same2
    refine ⟨evT kg wg, pg, pd, _, _, rfl, rfl, e14, s14 _ _ e13d, at14, atsK_mono s14.tups at13d, ev_hs, ?_⟩
    walk_at "run"
    refine i_tyL (SqL.of (s14 _ _ e13)) ?_
    walk_at "run"
    refine i_clear (s14 _ _ e13) ?_
    have s1215 : Same H12 (upd H14 pf (.lst [])) := (s13.trans s14).updNew f13
    generalize upd H14 pf (.lst []) = H15 at s1215
    walk_at "run"
    have s915 := s912.trans s1215
    refine ⟨_, _, tk1, tk2, rfl, S1'.same s915, S2'.same s915, ok1, ok2, fun ph hvs kh wh H16 f16 s16 e16 at16 ish => ?_⟩
    walk_at "run"
    have same3 : kh = kg ∧ wh = wg := ish.one isd fun x => by
      simp only [List.mem_append, in1, in2]
      constructor
      · rintro ((h | h) | (h | h)) <;> simp [h]
      · rintro (((h | h) | h) | h) <;> simp [h]
    obtain ⟨rfl, rfl⟩ := same3
    have s916 := s915.trans s16
    refine ⟨evT kh wh, ph, pd, _, _, rfl, rfl, e16, s916 _ _ e9, at16, atsK_mono s916.tups at9, ev_hs, ?_⟩
    walk_at "run"
    refine i_ixT (SqT.of (s916 _ _ et1)) (atI_nat (j := 1) rfl) ?_
    walk_at "run"
    refine i_ixT (SqT.of (s916 _ _ et2)) (atI_nat (j := 1) rfl) ?_
    walk_at "run"
    intro p17 H17 f17 s17 e17
    walk_at "run"
    have s917 := s916.trans s17
    have s1217 := s1215.trans (s16.trans s17)
    refine ⟨p17, p12, lt1, lt2, p10, p11, ms1, ms2, rfl, rfl, e17, s1217 _ _ e12, s917 _ _ el1, (s11.trans (s12.trans s1217)) _ _ e10, s917 _ _ el2, (s12.trans s1217) _ _ e11, ?_⟩
    walk_at "run"
    exact q _
end
theorem len_s {us : List Value} {n : Nat} (h : us.length = n + 1) : ∃ u r, us = u :: r := by
  cases us with
  | nil => cases h
  | cons u r => exact ⟨u, r, rfl⟩
theorem len_0 {us : List Value} (h : us.length = 0) : us = [] := by
  obtain rfl := List.length_eq_zero_iff.mp h
  exact rfl
theorem len_1 {us : List Value} (h : us.length = 1) : ∃ u0, us = [u0] := by
  obtain ⟨u0, us, rfl⟩ := len_s h; replace h := Nat.succ.inj h
  obtain rfl := List.length_eq_zero_iff.mp h
  exact ⟨u0, rfl⟩
theorem len_2 {us : List Value} (h : us.length = 2) : ∃ u0 u1, us = [u0, u1] := by
  obtain ⟨u0, us, rfl⟩ := len_s h; replace h := Nat.succ.inj h
  obtain ⟨u1, us, rfl⟩ := len_s h; replace h := Nat.succ.inj h
  obtain rfl := List.length_eq_zero_iff.mp h
  exact ⟨u0, u1, rfl⟩
theorem all_mk {l : PySem.W.OpenLaw} {w : World} {K : PySem.W.Frag} {h : Heap} {mg : Str → Option Value} {fa : Addr} (X : K.In h) (G : h.Ns mainGlobals mg) (hfa : mg "law" = some (.ref fa))
    {f0 : Addr} {od0 an0 : Option Addr} {sl0 : Array (Option Value)} {oc0 kV0 dc0 pm0 cd0 ct0 : Value}
    {f1 : Addr} {od1 an1 : Option Addr} {sl1 : Array (Option Value)} {oc1 kV1 dc1 pm1 cd1 ct1 : Value}
    {f2 : Addr} {od2 an2 : Option Addr} {sl2 : Array (Option Value)} {oc2 kV2 dc2 pm2 cd2 ct2 : Value}
    {f3 : Addr} {od3 an3 : Option Addr} {sl3 : Array (Option Value)} {oc3 kV3 dc3 pm3 cd3 ct3 : Value}
    {f4 : Addr} {od4 an4 : Option Addr} {sl4 : Array (Option Value)} {oc4 kV4 dc4 pm4 cd4 ct4 : Value}
    {f5 : Addr} {od5 an5 : Option Addr} {sl5 : Array (Option Value)} {oc5 kV5 dc5 pm5 cd5 ct5 : Value}
    {f6 : Addr} {od6 an6 : Option Addr} {sl6 : Array (Option Value)} {oc6 kV6 dc6 pm6 cd6 ct6 : Value}
    {f7 : Addr} {od7 an7 : Option Addr} {sl7 : Array (Option Value)} {oc7 kV7 dc7 pm7 cd7 ct7 : Value}
    {f8 : Addr} {od8 an8 : Option Addr} {sl8 : Array (Option Value)} {oc8 kV8 dc8 pm8 cd8 ct8 : Value}
    {f9 : Addr} {od9 an9 : Option Addr} {sl9 : Array (Option Value)} {oc9 kV9 dc9 pm9 cd9 ct9 : Value}
    {f10 : Addr} {od10 an10 : Option Addr} {sl10 : Array (Option Value)} {oc10 kV10 dc10 pm10 cd10 ct10 : Value}
    {f11 : Addr} {od11 an11 : Option Addr} {sl11 : Array (Option Value)} {oc11 kV11 dc11 pm11 cd11 ct11 : Value}
    {f12 : Addr} {od12 an12 : Option Addr} {sl12 : Array (Option Value)} {oc12 kV12 dc12 pm12 cd12 ct12 : Value}
    {f13 : Addr} {od13 an13 : Option Addr} {sl13 : Array (Option Value)} {oc13 kV13 dc13 pm13 cd13 ct13 : Value}
    {f14 : Addr} {od14 an14 : Option Addr} {sl14 : Array (Option Value)} {oc14 kV14 dc14 pm14 cd14 ct14 : Value}
    {f15 : Addr} {od15 an15 : Option Addr} {sl15 : Array (Option Value)} {oc15 kV15 dc15 pm15 cd15 ct15 : Value}
    (a0 : PySem.W.nsIn K mainGlobals "bodies_of" = some (some (.ref f0))) (l0 : K.lookup f0 = some ⟨oc0, od0, .func (PySem.W.fnOf "bodies_of" "bodies_of" (defArgs s_bodies_of) (defBody s_bodies_of) (defScope s_bodies_of) .none kV0 dc0 pm0 an0 cd0 ct0), sl0⟩) (c0 : PySem.W.codeIn K cd0 "bodies_of" = true) (k0 : PySem.W.keepIn K (.ref f0) = true)
    (a1 : PySem.W.nsIn K mainGlobals "statements_in" = some (some (.ref f1))) (l1 : K.lookup f1 = some ⟨oc1, od1, .func (PySem.W.fnOf "statements_in" "statements_in" (defArgs s_statements_in) (defBody s_statements_in) (defScope s_statements_in) .none kV1 dc1 pm1 an1 cd1 ct1), sl1⟩) (c1 : PySem.W.codeIn K cd1 "statements_in" = true) (k1 : PySem.W.keepIn K (.ref f1) = true)
    (a2 : PySem.W.nsIn K mainGlobals "events_of_patterns" = some (some (.ref f2))) (l2 : K.lookup f2 = some ⟨oc2, od2, .func (PySem.W.fnOf "events_of_patterns" "events_of_patterns" (defArgs s_events_of_patterns) (defBody s_events_of_patterns) (defScope s_events_of_patterns) .none kV2 dc2 pm2 an2 cd2 ct2), sl2⟩) (c2 : PySem.W.codeIn K cd2 "events_of_patterns" = true) (k2 : PySem.W.keepIn K (.ref f2) = true)
    (a3 : PySem.W.nsIn K mainGlobals "patterns_of" = some (some (.ref f3))) (l3 : K.lookup f3 = some ⟨oc3, od3, .func (PySem.W.fnOf "patterns_of" "patterns_of" (defArgs s_patterns_of) (defBody s_patterns_of) (defScope s_patterns_of) .none kV3 dc3 pm3 an3 cd3 ct3), sl3⟩) (c3 : PySem.W.codeIn K cd3 "patterns_of" = true) (k3 : PySem.W.keepIn K (.ref f3) = true)
    (a4 : PySem.W.nsIn K mainGlobals "first_free_word" = some (some (.ref f4))) (l4 : K.lookup f4 = some ⟨oc4, od4, .func (PySem.W.fnOf "first_free_word" "first_free_word" (defArgs s_first_free_word) (defBody s_first_free_word) (defScope s_first_free_word) .none kV4 dc4 pm4 an4 cd4 ct4), sl4⟩) (c4 : PySem.W.codeIn K cd4 "first_free_word" = true) (k4 : PySem.W.keepIn K (.ref f4) = true)
    (a5 : PySem.W.nsIn K mainGlobals "word_behind" = some (some (.ref f5))) (l5 : K.lookup f5 = some ⟨oc5, od5, .func (PySem.W.fnOf "word_behind" "word_behind" (defArgs s_word_behind) (defBody s_word_behind) (defScope s_word_behind) .none kV5 dc5 pm5 an5 cd5 ct5), sl5⟩) (c5 : PySem.W.codeIn K cd5 "word_behind" = true) (k5 : PySem.W.keepIn K (.ref f5) = true)
    (a6 : PySem.W.nsIn K mainGlobals "both_events" = some (some (.ref f6))) (l6 : K.lookup f6 = some ⟨oc6, od6, .func (PySem.W.fnOf "both_events" "both_events" (defArgs s_both_events) (defBody s_both_events) (defScope s_both_events) .none kV6 dc6 pm6 an6 cd6 ct6), sl6⟩) (c6 : PySem.W.codeIn K cd6 "both_events" = true) (k6 : PySem.W.keepIn K (.ref f6) = true)
    (a7 : PySem.W.nsIn K mainGlobals "_law_next" = some (some (.ref f7))) (l7 : K.lookup f7 = some ⟨oc7, od7, .func (PySem.W.fnOf "_law_next" "_law_next" (defArgs s_law_next) (defBody s_law_next) (defScope s_law_next) .none kV7 dc7 pm7 an7 cd7 ct7), sl7⟩) (c7 : PySem.W.codeIn K cd7 "_law_next" = true) (k7 : PySem.W.keepIn K (.ref f7) = true)
    (a8 : PySem.W.nsIn K mainGlobals "_law_deck" = some (some (.ref f8))) (l8 : K.lookup f8 = some ⟨oc8, od8, .func (PySem.W.fnOf "_law_deck" "_law_deck" (defArgs s_law_deck) (defBody s_law_deck) (defScope s_law_deck) .none kV8 dc8 pm8 an8 cd8 ct8), sl8⟩) (c8 : PySem.W.codeIn K cd8 "_law_deck" = true) (k8 : PySem.W.keepIn K (.ref f8) = true)
    (a9 : PySem.W.nsIn K mainGlobals "_law_letters" = some (some (.ref f9))) (l9 : K.lookup f9 = some ⟨oc9, od9, .func (PySem.W.fnOf "_law_letters" "_law_letters" (defArgs s_law_letters) (defBody s_law_letters) (defScope s_law_letters) .none kV9 dc9 pm9 an9 cd9 ct9), sl9⟩) (c9 : PySem.W.codeIn K cd9 "_law_letters" = true) (k9 : PySem.W.keepIn K (.ref f9) = true)
    (a10 : PySem.W.nsIn K mainGlobals "_law_words" = some (some (.ref f10))) (l10 : K.lookup f10 = some ⟨oc10, od10, .func (PySem.W.fnOf "_law_words" "_law_words" (defArgs s_law_words) (defBody s_law_words) (defScope s_law_words) .none kV10 dc10 pm10 an10 cd10 ct10), sl10⟩) (c10 : PySem.W.codeIn K cd10 "_law_words" = true) (k10 : PySem.W.keepIn K (.ref f10) = true)
    (a11 : PySem.W.nsIn K mainGlobals "_law_patterns" = some (some (.ref f11))) (l11 : K.lookup f11 = some ⟨oc11, od11, .func (PySem.W.fnOf "_law_patterns" "_law_patterns" (defArgs s_law_patterns) (defBody s_law_patterns) (defScope s_law_patterns) .none kV11 dc11 pm11 an11 cd11 ct11), sl11⟩) (c11 : PySem.W.codeIn K cd11 "_law_patterns" = true) (k11 : PySem.W.keepIn K (.ref f11) = true)
    (a12 : PySem.W.nsIn K mainGlobals "_law_parts" = some (some (.ref f12))) (l12 : K.lookup f12 = some ⟨oc12, od12, .func (PySem.W.fnOf "_law_parts" "_law_parts" (defArgs s_law_parts) (defBody s_law_parts) (defScope s_law_parts) .none kV12 dc12 pm12 an12 cd12 ct12), sl12⟩) (c12 : PySem.W.codeIn K cd12 "_law_parts" = true) (k12 : PySem.W.keepIn K (.ref f12) = true)
    (a13 : PySem.W.nsIn K mainGlobals "_law_script" = some (some (.ref f13))) (l13 : K.lookup f13 = some ⟨oc13, od13, .func (PySem.W.fnOf "_law_script" "_law_script" (defArgs s_law_script) (defBody s_law_script) (defScope s_law_script) .none kV13 dc13 pm13 an13 cd13 ct13), sl13⟩) (c13 : PySem.W.codeIn K cd13 "_law_script" = true) (k13 : PySem.W.keepIn K (.ref f13) = true)
    (a14 : PySem.W.nsIn K mainGlobals "_law_due" = some (some (.ref f14))) (l14 : K.lookup f14 = some ⟨oc14, od14, .func (PySem.W.fnOf "_law_due" "_law_due" (defArgs s_law_due) (defBody s_law_due) (defScope s_law_due) .none kV14 dc14 pm14 an14 cd14 ct14), sl14⟩) (c14 : PySem.W.codeIn K cd14 "_law_due" = true) (k14 : PySem.W.keepIn K (.ref f14) = true)
    (a15 : PySem.W.nsIn K mainGlobals "law" = some (some (.ref f15))) (l15 : K.lookup f15 = some ⟨oc15, od15, .func (PySem.W.fnOf "law" "law" (defArgs s_law) (defBody s_law) (defScope s_law) .none kV15 dc15 pm15 an15 cd15 ct15), sl15⟩) (c15 : PySem.W.codeIn K cd15 "law" = true) (k15 : PySem.W.keepIn K (.ref f15) = true)
    (z_dict : PySem.W.nsIn K mainGlobals "dict" = some none)
    (z_isinstance : PySem.W.nsIn K mainGlobals "isinstance" = some none)
    (z_len : PySem.W.nsIn K mainGlobals "len" = some none)
    (z_list : PySem.W.nsIn K mainGlobals "list" = some none)
    (z_max : PySem.W.nsIn K mainGlobals "max" = some none)
    (z_min : PySem.W.nsIn K mainGlobals "min" = some none)
    (z_range : PySem.W.nsIn K mainGlobals "range" = some none)
    (z_set : PySem.W.nsIn K mainGlobals "set" = some none)
    (z_sorted : PySem.W.nsIn K mainGlobals "sorted" = some none)
    (z_sum : PySem.W.nsIn K mainGlobals "sum" = some none)
    {u_LETTERS : Value} (m_LETTERS : PySem.W.nsIn K mainGlobals "LETTERS" = some (some u_LETTERS))
    (r_LETTERS : RelV (.str "abcdefghijklmnopqrstuvwxyz") u_LETTERS)
    {u_QUIET : Value} (m_QUIET : PySem.W.nsIn K mainGlobals "QUIET" = some (some u_QUIET))
    {ad_QUIET : Addr} (r_QUIET : RelV (.ref ad_QUIET) u_QUIET)
    {u_KEYS : Value} (m_KEYS : PySem.W.nsIn K mainGlobals "KEYS" = some (some u_KEYS))
    (r_KEYS : RelV (.int 10) u_KEYS)
    {its_QUIET : Array Value} {nn_QUIET : Nat} {od_QUIET : Option Addr} {sl_QUIET : Array (Option Value)} (l_QUIET : K.lookup ad_QUIET = some ⟨.type "tuple", od_QUIET, .seq its_QUIET nn_QUIET, sl_QUIET⟩) (h_QUIET : its_QUIET.size ≤ sizeLine ∧ Vals [.str "quiet"] its_QUIET.toList)
    : ∃ fd : FuncData, (∀ (s : Shared) (v : Value), BindsTo s fd ⟨[v], []⟩ [("script", v)]) ∧ ∀ base : Heap, K.In base → base.Ns mainGlobals mg → FnOk l.prog w K mg base CX0 14 fa fd ["script"] (sp_law K) := by
  have e := hfa.symm.trans (PySem.W.mg_of X G a15)
  cases e
  have F0 := fun_mk (st := s_bodies_of) l0 c0 k0
  have b0 := F0.binds (ps := ["statement"]) fun _ _ _ _ _ _ us hl => by obtain ⟨_, rfl⟩ := len_1 hl; rfl
  have F1 := fun_mk (st := s_statements_in) l1 c1 k1
  have b1 := F1.binds (ps := ["body"]) fun _ _ _ _ _ _ us hl => by obtain ⟨_, rfl⟩ := len_1 hl; rfl
  have F2 := fun_mk (st := s_events_of_patterns) l2 c2 k2
  have b2 := F2.binds (ps := ["patterns"]) fun _ _ _ _ _ _ us hl => by obtain ⟨_, rfl⟩ := len_1 hl; rfl
  have F3 := fun_mk (st := s_patterns_of) l3 c3 k3
  have b3 := F3.binds (ps := ["script"]) fun _ _ _ _ _ _ us hl => by obtain ⟨_, rfl⟩ := len_1 hl; rfl
  have F4 := fun_mk (st := s_first_free_word) l4 c4 k4
  have b4 := F4.binds (ps := ["words"]) fun _ _ _ _ _ _ us hl => by obtain ⟨_, rfl⟩ := len_1 hl; rfl
  have F5 := fun_mk (st := s_word_behind) l5 c5 k5
  have b5 := F5.binds (ps := ["word"]) fun _ _ _ _ _ _ us hl => by obtain ⟨_, rfl⟩ := len_1 hl; rfl
  have F6 := fun_mk (st := s_both_events) l6 c6 k6
  have b6 := F6.binds (ps := ["one", "other"]) fun _ _ _ _ _ _ us hl => by obtain ⟨_, _, rfl⟩ := len_2 hl; rfl
  have F7 := fun_mk (st := s_law_next) l7 c7 k7
  have b7 := F7.binds (ps := ["deck"]) fun _ _ _ _ _ _ us hl => by obtain ⟨_, rfl⟩ := len_1 hl; rfl
  have F8 := fun_mk (st := s_law_deck) l8 c8 k8
  have b8 := F8.binds (ps := ["script"]) fun _ _ _ _ _ _ us hl => by obtain ⟨_, rfl⟩ := len_1 hl; rfl
  have F9 := fun_mk (st := s_law_letters) l9 c9 k9
  have b9 := F9.binds (ps := []) fun _ _ _ _ _ _ us hl => by obtain ⟨rfl⟩ := len_0 hl; rfl
  have F10 := fun_mk (st := s_law_words) l10 c10 k10
  have b10 := F10.binds (ps := ["deck"]) fun _ _ _ _ _ _ us hl => by obtain ⟨_, rfl⟩ := len_1 hl; rfl
  have F11 := fun_mk (st := s_law_patterns) l11 c11 k11
  have b11 := F11.binds (ps := ["deck"]) fun _ _ _ _ _ _ us hl => by obtain ⟨_, rfl⟩ := len_1 hl; rfl
  have F12 := fun_mk (st := s_law_parts) l12 c12 k12
  have b12 := F12.binds (ps := ["deck"]) fun _ _ _ _ _ _ us hl => by obtain ⟨_, rfl⟩ := len_1 hl; rfl
  have F13 := fun_mk (st := s_law_script) l13 c13 k13
  have b13 := F13.binds (ps := ["deck", "parts"]) fun _ _ _ _ _ _ us hl => by obtain ⟨_, _, rfl⟩ := len_2 hl; rfl
  have F14 := fun_mk (st := s_law_due) l14 c14 k14
  have b14 := F14.binds (ps := ["patterns"]) fun _ _ _ _ _ _ us hl => by obtain ⟨_, rfl⟩ := len_1 hl; rfl
  have F15 := fun_mk (st := s_law) l15 c15 k15
  have b15 := F15.binds (ps := ["script"]) fun _ _ _ _ _ _ us hl => by obtain ⟨_, rfl⟩ := len_1 hl; rfl
  have TT : Txt K mg ⟨_, _, _, _, _, _, _, _, _, _, _, _, _, _, _, _, _, _, _, _, _, _, _, _, _, _, _, _, _, _, _, _, u_LETTERS, u_QUIET, u_KEYS, ad_QUIET⟩ := ⟨F0, PySem.W.mg_of X G a0, b0, F1, PySem.W.mg_of X G a1, b1, F2, PySem.W.mg_of X G a2, b2, F3, PySem.W.mg_of X G a3, b3, F4, PySem.W.mg_of X G a4, b4, F5, PySem.W.mg_of X G a5, b5, F6, PySem.W.mg_of X G a6, b6, F7, PySem.W.mg_of X G a7, b7, F8, PySem.W.mg_of X G a8, b8, F9, PySem.W.mg_of X G a9, b9, F10, PySem.W.mg_of X G a10, b10, F11, PySem.W.mg_of X G a11, b11, F12, PySem.W.mg_of X G a12, b12, F13, PySem.W.mg_of X G a13, b13, F14, PySem.W.mg_of X G a14, b14, F15, PySem.W.mg_of X G a15, b15, PySem.W.mg_none_of X G z_dict, PySem.W.mg_none_of X G z_isinstance, PySem.W.mg_none_of X G z_len, PySem.W.mg_none_of X G z_list, PySem.W.mg_none_of X G z_max, PySem.W.mg_none_of X G z_min, PySem.W.mg_none_of X G z_range, PySem.W.mg_none_of X G z_set, PySem.W.mg_none_of X G z_sorted, PySem.W.mg_none_of X G z_sum, PySem.W.mg_of X G m_LETTERS, r_LETTERS, PySem.W.mg_of X G m_QUIET, r_QUIET, PySem.W.mg_of X G m_KEYS, r_KEYS, ⟨_, its_QUIET, nn_QUIET, l_QUIET, rfl, rfl, h_QUIET.1, h_QUIET.2⟩⟩
  exact ⟨_, fun s v => .of_eq rfl, fun base _ _ => ok_law TT⟩
theorem walk {l : PySem.W.OpenLaw} {q : Program} {loose : List Str} {XP : (Str → Option Value) → Heap → Prop} {YP : World → Heap → Prop} {d : DefRec} {K : Params → PySem.W.Frag} (hn : l.most = some 63) (hdf : d.params.defaults = [])
    (hY : ∀ (w : World) (h : Heap), YP w h → (K w.params).In h)
    (F : ∀ (w : World) (mg : Str → Option Value) (fa : Addr) (h : Heap), (K w.params).In h → h.Ns mainGlobals mg → mg d.name = some (.ref fa) →
      ∃ fd : FuncData, (∀ (s : Shared) (u : Value), BindsTo s fd ⟨[u], []⟩ [("script", u)]) ∧ ∀ base : Heap, (K w.params).In base → base.Ns mainGlobals mg → FnOk l.prog w (K w.params) mg base CX0 14 fa fd ["script"] (sp_law (K w.params))) :
    PySem.W.WalkO q loose XP YP l.row.toRowW d [] (fun f vs => PySem.call f vs) :=
  L2.walk_of (n := 63) (k := 14) (x := "script") (CX := fun _ => CX0) (sp := fun w => sp_law (K w.params)) hn (by decide) hdf ⟨rfl, by decide, by decide⟩ hY F (fun _ _ a ns hl _ hS => ⟨a, ns, rfl, hS, hl, fun _ => rfl⟩) fun _ _ _ _ _ z => z
end K63
open PySem PySem.W PyProof.Rows
set_option maxRecDepth 100000 in
set_option maxHeartbeats 0 in
theorem PySem.Challenge.cw_callmill_k63_events_of_both_holds : PySem.Challenge.rw_callmill_k63_events_of_both.Holds := by
  w_on; o_law; k_head; (case hw => w_witness2)
  k_fill
  refine K63.walk (l := PySem.Challenge.rw_callmill_k63_events_of_both) rfl rfl (fun w h Y => PySem.W.kIn_of Y) ?F
  case F =>
    intro w mg fa h KX G hmg
    refine' K63.all_mk KX G hmg ?a0 ?l0 ?c0 ?k0 ?a1 ?l1 ?c1 ?k1 ?a2 ?l2 ?c2 ?k2 ?a3 ?l3 ?c3 ?k3 ?a4 ?l4 ?c4 ?k4 ?a5 ?l5 ?c5 ?k5 ?a6 ?l6 ?c6 ?k6 ?a7 ?l7 ?c7 ?k7 ?a8 ?l8 ?c8 ?k8 ?a9 ?l9 ?c9 ?k9 ?a10 ?l10 ?c10 ?k10 ?a11 ?l11 ?c11 ?k11 ?a12 ?l12 ?c12 ?k12 ?a13 ?l13 ?c13 ?k13 ?a14 ?l14 ?c14 ?k14 ?a15 ?l15 ?c15 ?k15 ?z_dict ?z_isinstance ?z_len ?z_list ?z_max ?z_min ?z_range ?z_set ?z_sorted ?z_sum ?m_LETTERS ?r_LETTERS ?m_QUIET ?r_QUIET ?m_KEYS ?r_KEYS ?l_QUIET ?h_QUIET
    (case a0 => k_is)
    (case l0 => k_is)
    (case c0 => k_is)
    (case k0 => k_is)
    (case a1 => k_is)
    (case l1 => k_is)
    (case c1 => k_is)
    (case k1 => k_is)
    (case a2 => k_is)
    (case l2 => k_is)
    (case c2 => k_is)
    (case k2 => k_is)
    (case a3 => k_is)
    (case l3 => k_is)
    (case c3 => k_is)
    (case k3 => k_is)
    (case a4 => k_is)
    (case l4 => k_is)
    (case c4 => k_is)
    (case k4 => k_is)
    (case a5 => k_is)
    (case l5 => k_is)
    (case c5 => k_is)
    (case k5 => k_is)
    (case a6 => k_is)
    (case l6 => k_is)
    (case c6 => k_is)
    (case k6 => k_is)
    (case a7 => k_is)
    (case l7 => k_is)
    (case c7 => k_is)
    (case k7 => k_is)
    (case a8 => k_is)
    (case l8 => k_is)
    (case c8 => k_is)
    (case k8 => k_is)
    (case a9 => k_is)
    (case l9 => k_is)
    (case c9 => k_is)
    (case k9 => k_is)
    (case a10 => k_is)
    (case l10 => k_is)
    (case c10 => k_is)
    (case k10 => k_is)
    (case a11 => k_is)
    (case l11 => k_is)
    (case c11 => k_is)
    (case k11 => k_is)
    (case a12 => k_is)
    (case l12 => k_is)
    (case c12 => k_is)
    (case k12 => k_is)
    (case a13 => k_is)
    (case l13 => k_is)
    (case c13 => k_is)
    (case k13 => k_is)
    (case a14 => k_is)
    (case l14 => k_is)
    (case c14 => k_is)
    (case k14 => k_is)
    (case a15 => k_is)
    (case l15 => k_is)
    (case c15 => k_is)
    (case k15 => k_is)
    (case z_dict => k_is)
    (case z_isinstance => k_is)
    (case z_len => k_is)
    (case z_list => k_is)
    (case z_max => k_is)
    (case z_min => k_is)
    (case z_range => k_is)
    (case z_set => k_is)
    (case z_sorted => k_is)
    (case z_sum => k_is)
    (case m_LETTERS => k_is)
    (case r_LETTERS => exact ⟨_, rfl⟩)
    (case m_QUIET => k_is)
    (case r_QUIET => exact rfl)
    (case m_KEYS => k_is)
    (case r_KEYS => exact ⟨_, rfl⟩)
    (case l_QUIET => k_is)
    (case h_QUIET => exact ⟨L2.le_line (by decide), .cons ⟨_, rfl⟩ (.nil)⟩)
