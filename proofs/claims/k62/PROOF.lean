import PyProof.Rows.All
import Wide.All
import OpenK.AllK
import Wide.FinOn
import Lean
import PyProof.EqAt
import PyProof.EqKinds
import PyProof.TupleCall
import PyProof.NeKinds
import PyProof.DictUpdate
import PyProof.AttrMissHeap
import KE.KDictOf
import PyProof.TupleIter
import PyProof.WalksEnum
import PyProof.EnumMake
import PyProof.Rows.EnumRows
import PyProof.Rows.MaxTwoN
import PyProof.ZipIter
import PyProof.IsRules
import PyProof.DictRoadsH
import Wide.Seal
import PyProof.MeetsDict
import PyProof.DictIter
import PyProof.DictWalks
import KE.KDictList
import PyProof.Rows.SumAny
import PyProof.ListRange
import PyProof.AutoSeq1
import PyProof.WalkInts
import PyProof.SeqI3
import KE.KTextTable
import PyProof.MeetsStr
import PyProof.StrCalls5
import PyProof.Rows.TupDisplay
import PyProof.Rows.TupAdd
import PyProof.Rows.StrNews2
import PyProof.StrBlockI
import PyProof.DictTruth
import PyProof.Rows.SortShell
import PyProof.DictValues
import PyProof.ConsumeS
import PyProof.Draws
import PyProof.Rows.SetFrom
import PyProof.FactsAll.set_1
import KE.KDictSum
import PyProof.Rows.SortStr
import PyProof.Rows.SortWalk
import PyProof.Rows.TmSorted
import PyProof.Rows.CallKwBuiltin
import KE.KSortKey
import PySem.Challenge.RW_callmill_k62_least_paper
set_option Elab.async false
set_option linter.all false
set_option maxRecDepth 100000
set_option maxHeartbeats 4000000
namespace L2
open PySem PySem.Spec PyProof.Rows
abbrev Key := Sum Int Str
def keyIs : Key → Value → Bool
  | .inl k, v => Value.isInt k v
  | .inr x, v => Value.isStrOf x v
def keyH (w : World) : Key → Int
  | .inl k => hashInt k
  | .inr x => hashStr w x
theorem keyIs_shape : ∀ {k : Key} {v : Value}, keyIs k v = true → (∃ i t, k = Sum.inl i ∧ v = Value.int i t) ∨ (∃ x t, k = Sum.inr x ∧ v = Value.str x t)
  | .inl i, v, h => by
    obtain ⟨t, e⟩ := Value.isInt_shape (k := i) (v := v) h
    exact .inl ⟨i, t, rfl, e⟩
  | .inr x, v, h => by
    obtain ⟨t, e⟩ := Value.isStrOf_shape (x := x) (v := v) h
    exact .inr ⟨x, t, rfl, e⟩
theorem keyIs_int (i : Int) (t : Tok) : keyIs (.inl i) (.int i t) = true := by simp [keyIs, Value.isInt]
theorem keyIs_str (x : Str) (t : Tok) : keyIs (.inr x) (.str x t) = true := by simp [keyIs, Value.isStrOf]
theorem key_ll (a b : Int) : decide ((Sum.inl a : Key) = Sum.inl b) = (a == b) := by
  by_cases e : a = b
  · subst e; simp
  · have h : ¬ (Sum.inl a : Key) = Sum.inl b := fun q => e (Sum.inl.inj q)
    rw [decide_eq_false h]
    exact (beq_eq_false_iff_ne.mpr e).symm
theorem key_rr (a b : Str) : decide ((Sum.inr a : Key) = Sum.inr b) = decide (a = b) := by
  by_cases e : a = b
  · subst e; simp
  · have h : ¬ (Sum.inr a : Key) = Sum.inr b := fun q => e (Sum.inr.inj q)
    rw [decide_eq_false h, decide_eq_false e]
theorem key_lr (a : Int) (b : Str) : decide ((Sum.inl a : Key) = Sum.inr b) = false := decide_eq_false (fun q => nomatch q)
theorem key_rl (a : Str) (b : Int) : decide ((Sum.inr a : Key) = Sum.inl b) = false := decide_eq_false (fun q => nomatch q)
def mixKind (prog : Program) (w : World) : PySem.KeyKind prog w Key where
  is := keyIs
  hash := keyH w
  inj := fun v a b ha hb => by
    rcases keyIs_shape ha with ⟨i, t, rfl, rfl⟩ | ⟨x, t, rfl, rfl⟩
    · rcases keyIs_shape hb with ⟨j, u, rfl, e⟩ | ⟨y, u, rfl, e⟩
      · injection e with e1 _; rw [e1]
      · exact nomatch e
    · rcases keyIs_shape hb with ⟨j, u, rfl, e⟩ | ⟨y, u, rfl, e⟩
      · exact nomatch e
      · injection e with e1 _; rw [e1]
  byValue := fun k v h => by
    rcases keyIs_shape h with ⟨i, t, rfl, rfl⟩ | ⟨x, t, rfl, rfl⟩ <;> rfl
  pyHash := fun hv h => by
    rcases keyIs_shape hv with ⟨i, t, rfl, rfl⟩ | ⟨x, t, rfl, rfl⟩
    · exact wpAny_pyHash_int h
    · exact wpAny_pyHash_str h
  eqBool := fun hu hv h => by
    rcases keyIs_shape hu with ⟨i, t, rfl, rfl⟩ | ⟨x, t, rfl, rfl⟩
    · rcases keyIs_shape hv with ⟨j, u, rfl, rfl⟩ | ⟨y, u, rfl, rfl⟩
      · rw [key_ll] at h; exact wpAny_eqBool_int h
      · rw [key_lr] at h; exact SeqAt.EqAt.int_str i t y u _ _ _ _ h
    · rcases keyIs_shape hv with ⟨j, u, rfl, rfl⟩ | ⟨y, u, rfl, rfl⟩
      · rw [key_rl] at h; exact SeqAt.EqAt.str_int x t j u _ _ _ _ h
      · rw [key_rr] at h; exact wpAny_eqBool_str h
  «strs» := fun k x t v h => by
    rcases keyIs_shape h with ⟨i, u, rfl, e⟩ | ⟨y, u, rfl, e⟩
    · exact nomatch e
    · injection e with e1 _
      subst e1
      cases v <;> rfl
theorem mixKind_int (prog : Program) (w : World) (i : Int) (t : Tok) : (mixKind prog w).is (.inl i) (.int i t) = true := keyIs_int i t
theorem mixKind_str (prog : Program) (w : World) (x : Str) (t : Tok) : (mixKind prog w).is (.inr x) (.str x t) = true := keyIs_str x t
end L2
namespace L2
open PySem PySem.Spec PyProof.Rows
inductive V where
  | non | bl (b : Bool) | int (i : Int) | str (x : Str) | byt (b : Array UInt8) | flt (b : UInt64) | ref (a : Addr) | ty (n : String)
  deriving DecidableEq
def RelV : V → Value → Prop
  | .non, u => u = Value.none
  | .bl b, u => u = Value.bool b
  | .int i, u => ∃ t, u = Value.int i t
  | .str x, u => ∃ t, u = Value.str x t
  | .byt b, u => ∃ t, u = Value.bytes b t
  | .flt b, u => ∃ t, u = Value.float b t
  | .ref a, u => u = Value.ref a
  | .ty n, u => u = Value.type n
abbrev Vals : List V → List Value → Prop := Paired RelV
theorem Vals.length {xs : List V} {us : List Value} (r : Vals xs us) : xs.length = us.length := Paired.length r
theorem Vals.get : ∀ {xs : List V} {us : List Value} {i : Nat} {x : V}, Vals xs us → xs[i]? = some x → ∃ u, us[i]? = some u ∧ RelV x u
  | _, _, _, _, .nil, e => by simp at e
  | _, _, 0, _, .cons r _, e => by simp at e; subst e; exact ⟨_, rfl, r⟩
  | _, _, i + 1, x, .cons _ t, e => by
    obtain ⟨u, h1, h2⟩ := Vals.get (i := i) (x := x) t (by simpa using e)
    exact ⟨u, by simpa using h1, h2⟩
theorem Vals.set {x : V} {u : Value} (r : RelV x u) : ∀ {xs : List V} {us : List Value} (i : Nat), Vals xs us → Vals (xs.set i x) (us.set i u)
  | _, _, _, .nil => .nil
  | _, _, 0, .cons _ t => .cons r t
  | _, _, i + 1, .cons q t => .cons q (Vals.set r i t)
theorem Vals.append : ∀ {xs ys : List V} {us ws : List Value}, Vals xs us → Vals ys ws → Vals (xs ++ ys) (us ++ ws)
  | _, _, _, _, .nil, s => s
  | _, _, _, _, .cons r t, s => .cons r (Vals.append t s)
theorem Vals.take : ∀ {xs : List V} {us : List Value} (n : Nat), Vals xs us → Vals (xs.take n) (us.take n)
  | _, _, 0, _ => .nil
  | _, _, _ + 1, .nil => .nil
  | _, _, n + 1, .cons r t => .cons r (Vals.take n t)
theorem Vals.drop : ∀ {xs : List V} {us : List Value} (n : Nat), Vals xs us → Vals (xs.drop n) (us.drop n)
  | _, _, 0, r => r
  | _, _, _ + 1, .nil => .nil
  | _, _, n + 1, .cons _ t => Vals.drop n t
def RelO : Option V → Option Value → Prop
  | some v, some u => RelV v u
  | none, none => True
  | _, _ => False
def KV {κ : Type} : List (κ × V) → List (κ × Value) → Prop := Paired fun (p : κ × V) (q : κ × Value) => p.1 = q.1 ∧ RelV p.2 q.2
def kV : Key → V
  | .inl i => .int i
  | .inr x => .str x
inductive HO where
  | lst (xs : List V)
  | tup (xs : List V)
  | dK (kvs : List (Key × V)) | dT (kvs : List (List Key × V))
  | set (S : Int → Bool) (n : Nat)
  | ins (C dx : Addr) (fs : List (Str × V))
  | own (x : Addr)
  | xd (fs : List (Str × V))
  | met (f x : Addr)
  | rng (lo hi : Int)
  | frz (o : Obj) (u : HO)
  | tbl (ps : Array Value)
  | ext (φ : Heap → Prop)
abbrev Hp := Addr → Option HO
def upd (H : Hp) (a : Addr) (o : HO) : Hp := fun b => if b = a then some o else H b
theorem upd_same {H : Hp} {a : Addr} {o : HO} : upd H a o a = some o := by unfold upd; rw [if_pos rfl]
theorem upd_ne {H : Hp} {a b : Addr} {o : HO} (h : b ≠ a) : upd H a o b = H b := by unfold upd; rw [if_neg h]
theorem upd_upd {H : Hp} {a : Addr} {o u : HO} : upd (upd H a o) a u = upd H a u := by
  funext b; unfold upd; split <;> rfl
theorem ne_of {H : Hp} {a b : Addr} {o u : HO} (h : H a = some o) (h' : H b = some u) (d : o ≠ u) : a ≠ b := by
  intro e; subst e; rw [h] at h'; exact d (Option.some.inj h')
theorem ne_of_none {H : Hp} {a b : Addr} {o : HO} (h : H a = some o) (h' : H b = none) : a ≠ b := by
  intro e; subst e; rw [h] at h'; cases h'
section
variable (P : Program) (w : World)
def ObjOk (H : Hp) (h : Heap) (a : Addr) : HO → Prop
  | .lst xs => xs.length ≤ sizeLine ∧ ∃ (its : List Value) (n : Nat), Vals xs its ∧ h.get? a = some { cls := .type "list", data := .seq its.toArray n }
  | .tup xs => xs.length ≤ sizeLine ∧ ∃ its : List Value, Vals xs its ∧ IsTup h a its.toArray
  | .dK kvs => kvs.length ≤ sizeLine ∧ (a == sysModules) = false ∧ ∃ vs, KV kvs vs ∧ h.DictOf (mixKind P w) a vs
  | .dT kvs => kvs.length ≤ sizeLine ∧ (a == sysModules) = false ∧ ∃ xs : List (List Key × Addr × Value),
      Paired (fun (p : List Key × V) (q : List Key × Addr × Value) => p.1 = q.1 ∧ H q.2.1 = some (.tup (p.1.map kV)) ∧ RelV p.2 q.2.2) kvs xs ∧
      ∃ o es ep, h.get? a = some o ∧ o.ExactDict ∧ o.data = .dict es ep ∧ es.toList = xs.map (entryOfKey (tupleKind (mixKind P w))) ∧ (xs.map (·.1)).Nodup
  | .set S n => h.SetOf (intKind P w) a S n
  | .ins C dx fs => H dx = some (.own a) ∧ fs.length ≤ 1000 ∧ dx ≠ a ∧ h.get? a = some (PySem.W.instObj C dx) ∧
      ∃ mA, h.Ns1 dx mA ∧ (∀ f, RelO (fs.lookup f) (mA f)) ∧ PySem.Within mA (fs.map (·.1))
  | .own _ => ∃ o, h.get? a = some o
  | .xd fs => ∃ mA, h.Ns1 a mA ∧ ∀ f, RelO (fs.lookup f) (mA f)
  | .rng lo hi => ∃ t u v, h.get? a = some { cls := .type "range", data := .fields #[.int lo t, .int hi u, .int 1 v] }
  | .frz o u => h.get? a = some o ∧ ObjOk H h a u
  | .tbl ps => h.get? a = some { cls := .none, data := .fields ps }
  | .met f x => h.get? a = some (PySem.W.methodObj (.ref f) (.ref x))
  | .ext φ => φ h ∧ (∃ o, h.get? a = some o) ∧ ∀ h1 h2 : Heap, φ h1 → (∀ o, h1.get? a = some o → h2.get? a = some o) → φ h2
def HOk (H : Hp) (h : Heap) : Prop := ∀ a o, H a = some o → ObjOk P w H h a o
end
section
variable {P : Program} {w : World} {H H' : Hp} {h h' : Heap} {a : Addr} {o : HO}
theorem ObjOk.lt (x : ObjOk P w H h a o) : a < h.objs.size := by
  cases o with
  | lst xs => obtain ⟨_, _, _, _, e⟩ := x; exact Heap.lt_size e
  | tup xs => obtain ⟨_, _, _, p⟩ := x; exact p.lt
  | dK kvs => obtain ⟨_, _, _, _, o, _, _, e, _⟩ := x; exact Heap.lt_size e
  | dT kvs => obtain ⟨_, _, _, _, o, _, _, e, _⟩ := x; exact Heap.lt_size e
  | set S n => obtain ⟨o, _, _, _, e, _⟩ := x; exact Heap.lt_size e
  | ins C dx fs => obtain ⟨_, _, _, e, _⟩ := x; exact Heap.lt_size e
  | own y => obtain ⟨_, e⟩ := x; exact Heap.lt_size e
  | xd fs => obtain ⟨_, ⟨_, _, _, e, _⟩, _⟩ := x; exact Heap.lt_size e
  | rng lo hi => obtain ⟨_, _, _, e⟩ := x; exact Heap.lt_size e
  | frz ob u => obtain ⟨e, _⟩ := x; exact Heap.lt_size e
  | tbl ps => exact Heap.lt_size (show h.get? a = some _ from x)
  | met f y => exact Heap.lt_size (show h.get? a = some _ from x)
  | ext φ => obtain ⟨_, ⟨_, e⟩, _⟩ := x; exact Heap.lt_size e
theorem Paired.mapP {α β : Type} {F G : α → β → Prop} : ∀ {l₁ : List α} {l₂ : List β}, Paired F l₁ l₂ → (∀ a b, F a b → G a b) → Paired G l₁ l₂
  | _, _, .nil, _ => .nil
  | _, _, .cons r t, f => .cons (f _ _ r) (Paired.mapP t f)
theorem ObjOk.stay (x : ObjOk P w H h a o) (k : ∀ b u, (b = a ∨ H b = some (.own a)) → h.get? b = some u → h'.get? b = some u)
    (ho : ∀ b, H b = some (.own a) → H' b = some (.own a)) (ht : ∀ b xs, H b = some (.tup xs) → H' b = some (.tup xs)) : ObjOk P w H' h' a o := by
  induction o with
  | lst xs => obtain ⟨z, its, n, r, e⟩ := x; exact ⟨z, its, n, r, k _ _ (.inl rfl) e⟩
  | tup xs => obtain ⟨z, its, r, ob, e, c⟩ := x; exact ⟨z, its, r, ob, k _ _ (.inl rfl) e, c⟩
  | dK kvs => obtain ⟨z, y, vs, r, ob, es, ep, e, c⟩ := x; exact ⟨z, y, vs, r, ob, es, ep, k _ _ (.inl rfl) e, c⟩
  | dT kvs =>
    obtain ⟨z, y, xs, r, ob, es, ep, e, c⟩ := x
    exact ⟨z, y, xs, Paired.mapP r fun p q z => ⟨z.1, ht _ _ z.2.1, z.2.2⟩, ob, es, ep, k _ _ (.inl rfl) e, c⟩
  | set S n => obtain ⟨ob, es, ep, t, e, c⟩ := x; exact ⟨ob, es, ep, t, k _ _ (.inl rfl) e, c⟩
  | ins C dx fs =>
    obtain ⟨d, z, ne, e, mA, ⟨od, es, ep, e2, c⟩, r⟩ := x
    exact ⟨ho _ d, z, ne, k _ _ (.inl rfl) e, mA, ⟨od, es, ep, k _ _ (.inr d) e2, c⟩, r⟩
  | own y => obtain ⟨ob, e⟩ := x; exact ⟨ob, k _ _ (.inl rfl) e⟩
  | xd fs => obtain ⟨mA, ⟨od, es, ep, e, c⟩, r⟩ := x; exact ⟨mA, ⟨od, es, ep, k _ _ (.inl rfl) e, c⟩, r⟩
  | rng lo hi => obtain ⟨t, u, v, e⟩ := x; exact ⟨t, u, v, k _ _ (.inl rfl) e⟩
  | frz ob u ih => obtain ⟨e, q⟩ := x; exact ⟨k _ _ (.inl rfl) e, ih q⟩
  | tbl ps =>
    have e : h.get? a = some { cls := .none, data := .fields ps } := x
    show h'.get? a = some { cls := .none, data := .fields ps }
    exact k a _ (.inl rfl) e
  | met f y =>
    have e : h.get? a = some (PySem.W.methodObj (.ref f) (.ref y)) := x
    show h'.get? a = some (PySem.W.methodObj (.ref f) (.ref y))
    exact k a _ (.inl rfl) e
  | ext φ => obtain ⟨p, ⟨o, e⟩, st⟩ := x; exact ⟨st _ _ p fun o q => k _ _ (.inl rfl) q, ⟨o, k _ _ (.inl rfl) e⟩, st⟩
theorem HOk.lt (x : HOk P w H h) (e : H a = some o) : a < h.objs.size := (x a o e).lt
theorem HOk.fresh (x : HOk P w H h) (e : h.objs.size ≤ a) : H a = none := by
  cases q : H a with
  | none => rfl
  | some u => exact absurd (Nat.lt_of_lt_of_le (x.lt q) e) (Nat.lt_irrefl _)
theorem HOk.kept (x : HOk P w H h) (k : ∀ b u, h.get? b = some u → h'.get? b = some u) : HOk P w H h' := fun a o e =>
  (x a o e).stay (fun b u _ q => k b u q) (fun _ q => q) fun _ _ q => q
theorem HOk.laid (x : HOk P w H h) (k : ∀ b u, h.get? b = some u → h'.get? b = some u) (hp : h.objs.size ≤ a) (new : ObjOk P w (upd H a o) h' a o) : HOk P w (upd H a o) h' := fun b u e => by
  have hn := x.fresh hp
  by_cases hb : b = a
  · subst hb; rw [upd_same] at e; cases e; exact new
  · rw [upd_ne hb] at e
    exact (x b u e).stay (fun c v _ q => k c v q) (fun c q => by rw [upd_ne (ne_of_none q hn)]; exact q) fun c xs q => by rw [upd_ne (ne_of_none q hn)]; exact q
end
def Rd (H : Hp) (a : Addr) (u : HO) : Prop := H a = some u ∨ ∃ o, H a = some (.frz o u)
theorem Rd.ok {P : Program} {w : World} {H : Hp} {h : Heap} {a : Addr} {u : HO} (r : Rd H a u) (x : HOk P w H h) : ObjOk P w H h a u := by
  rcases r with r | ⟨o, r⟩
  · exact x a u r
  · obtain ⟨_, q⟩ := x a _ r
    exact q
def Mut : Option HO → Prop
  | some (.lst _) => True
  | some (.dK _) => True
  | some (.dT _) => True
  | some (.set _ _) => True
  | some (.ins _ _ _) => True
  | some (.ext _) => True
  | _ => False
section
variable {P : Program} {w : World} {H : Hp} {h h' : Heap} {x e : Addr} {o' : HO}
theorem HOk.write (ok : HOk P w H h) (mu : Mut (H x)) (he : e = x ∨ H e = some (.own x)) (k : ∀ b u, b ≠ e → h.get? b = some u → h'.get? b = some u) (heo : ∃ u, h'.get? e = some u)
    (new : ObjOk P w (upd H x o') h' x o') : HOk P w (upd H x o') h' := fun b u q => by
  have nown : ∀ c y, H c = some (.own y) → c ≠ x := fun c y r z => by subst z; rw [r] at mu; exact mu
  have ntup : ∀ c xs, H c = some (.tup xs) → c ≠ x := fun c xs r z => by subst z; rw [r] at mu; exact mu
  by_cases hb : b = x
  · subst hb; rw [upd_same] at q; cases q; exact new
  · rw [upd_ne hb] at q
    by_cases hbe : b = e
    · have q' : H b = some (.own x) := by
        rcases he with z | z
        · exact absurd (hbe.trans z) hb
        · rw [hbe]; exact z
      rw [q] at q'; cases q'
      obtain ⟨v, hv⟩ := heo
      exact ⟨v, by rw [hbe]; exact hv⟩
    · refine (ok b u q).stay (fun c v hc r => k c v ?_ r) (fun c r => by rw [upd_ne (nown c b r)]; exact r) fun c xs r => by rw [upd_ne (ntup c xs r)]; exact r
      rcases hc with rfl | hc
      · exact hbe
      · rintro rfl
        rcases he with z | z
        · exact nown c b hc z
        · rw [hc] at z; cases z; exact hb rfl
end
structure Un (fs ex : List Addr) (H H' : Hp) (h h' : Heap) : Prop where
  keep : ∀ b o, h.get? b = some o → H b = none → b ∉ fs → b ∉ ex → h'.get? b = some o
  slot : ∀ b o, h.get? b = some o → H b = none → b ∈ fs → b ∉ ex → ∃ sl, h'.get? b = some { o with slots := sl }
  free : ∀ b o, h.get? b = some o → H b = none → b ∉ ex → H' b = none
  there : ∀ b o, h.get? b = some o → b ∉ ex → ∃ o', h'.get? b = some o'
  tups : ∀ b xs, H b = some (.tup xs) → H' b = some (.tup xs)
  frzs : ∀ b o u, H b = some (.frz o u) → H' b = some (.frz o u)
  tbls : ∀ b ps, H b = some (.tbl ps) → ∃ more, H' b = some (.tbl (ps ++ more))
section
variable {fs fs' ex ex' : List Addr} {H H1 H2 : Hp} {h h1 h2 h' : Heap} {a x e : Addr} {o : HO}
theorem Un.any (u : Un fs ex H H1 h h1) {b : Addr} {ob : Obj} (q : h.get? b = some ob) (n : H b = none) (hx : b ∉ ex) : ∃ sl, h1.get? b = some { ob with slots := sl } := by
  by_cases hb : b ∈ fs
  · exact u.slot b ob q n hb hx
  · exact ⟨ob.slots, u.keep b ob q n hb hx⟩
theorem Un.kept (k : ∀ b u, h.get? b = some u → h'.get? b = some u) : Un fs ex H H h h' :=
  ⟨fun b ob q _ _ _ => k b ob q, fun b ob q _ _ _ => ⟨ob.slots, k b ob q⟩, fun _ _ _ n _ => n, fun b ob q _ => ⟨ob, k b ob q⟩, fun _ _ q => q, fun _ _ _ q => q, fun _ ps q => ⟨#[], by rw [q]; simp⟩⟩
theorem Un.refl : Un fs ex H H h h := Un.kept fun _ _ q => q
theorem Un.laid (k : ∀ b u, h.get? b = some u → h'.get? b = some u) (hp : h.objs.size ≤ a) (hn : H a = none) : Un fs ex H (upd H a o) h h' where
  keep := fun b u q _ _ _ => k b u q
  slot := fun b u q _ _ _ => ⟨u.slots, k b u q⟩
  free := fun b u q n _ => by rw [upd_ne (Nat.ne_of_lt (Nat.lt_of_lt_of_le (Heap.lt_size q) hp))]; exact n
  there := fun b u q _ => ⟨u, k b u q⟩
  tups := fun b xs q => by rw [upd_ne (ne_of_none q hn)]; exact q
  frzs := fun b u xs q => by rw [upd_ne (ne_of_none q hn)]; exact q
  tbls := fun b ps q => ⟨#[], by rw [upd_ne (ne_of_none q hn), q]; simp⟩
theorem Un.write (mu : Mut (H x)) (he : e = x ∨ H e = some (.own x)) (k : ∀ b u, b ≠ e → h.get? b = some u → h'.get? b = some u) (heo : ∃ u, h'.get? e = some u) : Un fs ex H (upd H x o) h h' := by
  have hx : ∀ b, H b = none → b ≠ x := fun b n z => by subst z; rw [n] at mu; exact mu
  have hb : ∀ b, H b = none → b ≠ e := fun b n z => by
    subst z
    rcases he with r | r
    · exact hx b n r
    · rw [n] at r; cases r
  have hm : ∀ b u, H b = some u → ¬ Mut (some u) → b ≠ x := fun b u q nm z => by subst z; rw [q] at mu; exact nm mu
  refine ⟨fun b u q n _ _ => k b u (hb b n) q, fun b u q n _ _ => ⟨u.slots, k b u (hb b n) q⟩, fun b u q n _ => by rw [upd_ne (hx b n)]; exact n, fun b u q _ => ?_,
    fun b xs q => by rw [upd_ne (hm b _ q fun z => z)]; exact q, fun b u xs q => by rw [upd_ne (hm b _ q fun z => z)]; exact q, fun b ps q => ⟨#[], by rw [upd_ne (hm b _ q fun z => z), q]; simp⟩⟩
  by_cases hbe : b = e
  · subst hbe; exact heo
  · exact ⟨u, k b u hbe q⟩
end
def trk (h : Heap) (H : Hp) : List Addr := (List.range h.objs.size).filter fun a => (H a).isSome
def hidT (h : Heap) (H : Hp) : Heap := PySem.W.hideAll h (trk h H)
theorem hidT_size (h : Heap) (H : Hp) : (hidT h H).objs.size = h.objs.size := PySem.W.hideAll_size _ _
theorem hidT_get {h : Heap} {H : Hp} {b : Addr} {o : Obj} (e : h.get? b = some o) (n : H b = none) : (hidT h H).get? b = some o :=
  PySem.W.hideAll_get _ e fun hm => by
    have q : (H b).isSome = true := (List.mem_filter.mp hm).2
    rw [n] at q; simp at q
theorem of_hidT {h : Heap} {H : Hp} {b : Addr} {o : Obj} (e : (hidT h H).get? b = some o) : h.get? b = some o ∧ H b = none := by
  have e' : h.get? b = some o := PySem.W.of_hideAll (trk h H) e
  refine ⟨e', ?_⟩
  cases q : H b with
  | none => rfl
  | some x =>
    have hm : b ∈ trk h H := List.mem_filter.mpr ⟨List.mem_range.mpr (Heap.lt_size e'), by simp [q]⟩
    have z : (hidT h H).get? b = none := PySem.W.hideAll_none (trk h H) hm
    rw [z] at e; cases e
def allNews (g h : Heap) (L : Addr) : List (Addr × Obj) := (List.range h.objs.size).filterMap fun a => if a = L ∨ (g.get? a).isSome = true then none else (h.get? a).map fun o => (a, o)
def rest (g h : Heap) (L d : Addr) : List (Addr × Obj) := (allNews g h L).filter fun p => decide (p.1 ≠ d)
end L2
namespace L2
open PySem PySem.Spec PyProof.Rows
structure Mod (K : PySem.W.Frag) (mg : Str → Option Value) (base : Heap) : Prop where
  kin : K.In base
  glob : base.Ns mainGlobals mg
  blt : ∃ mb, base.Ns builtinsNs mb ∧ ∀ x : Str, x ≠ "__name__" → mb x = bootBuiltins x
  nolimit : base.NoLimit
structure Cx where
  prog : Program
  w : World
  K : PySem.W.Frag
  mg : Str → Option Value
  base : Heap
  A : Around
  N : List Str
  s₀ : Shared
  H₀ : Hp
  env : Env
  outer : List Env
  stack : List Env
  ex : List Addr
  fn : Str → Bool
  calm : Bool
  pn : List (Addr × Obj)
  xe : Value → Shared → Prop
def frs (l : List Env) : List Addr := l.filterMap (·.frame)
abbrev Cx.fs (X : Cx) : List Addr := frs X.outer
def Vis (sc : Scope) (x : Str) : Prop := sc.names.lookup x = some .local ∨ sc.names.lookup x = some .cell ∨ sc.names.lookup x = some .free
def Loc (sc : Scope) (x : Str) : Prop := sc.names.lookup x = some .local ∨ sc.names.lookup x = some .cell
def Look (env : Env) (h : Heap) (m : Str → Option Value) (x : Str) (u : Value) : Prop :=
  (env.kindOf x = some .local ∧ m x = some u) ∨ ((env.kindOf x = some .cell ∨ env.kindOf x = some .free) ∧ ∃ c, env.cells.lookup x = some c ∧ h.IsCell c (some u))
structure Cx.Ok (X : Cx) : Prop where
  mod : Mod X.K X.mg X.base
  kind : X.env.scope.kind = .function
  glob : X.env.globals = mainGlobals
  blt : X.env.builtins = builtinsNs
  above : X.s₀.heap.objs.size ≤ X.env.locals
  inj : ∀ x y c, X.env.cells.lookup x = some c → X.env.cells.lookup y = some c → x = y
  has : ∀ x, (X.env.kindOf x = some .cell ∨ X.env.kindOf x = some .free) → ∃ c, X.env.cells.lookup x = some c
  cab : ∀ x c, X.fn x = true → X.env.cells.lookup x = some c → X.s₀.heap.objs.size ≤ c
  hd : X.calm = true → X.A.handled = none
  frames : X.A.frames = some X.stack
  stk : X.stack = X.outer ∨ (X.stack = X.env :: X.outer ∧ X.env.frame = some X.env.locals)
  exf : ∀ b ∈ X.ex, b ≠ X.env.locals ∧ ∀ x c, X.env.cells.lookup x = some c → c ≠ b
  bs : ∀ b o, X.base.get? b = some o → X.s₀.heap.get? b = some o ∧ X.H₀ b = none
  bsz : X.base.objs.size ≤ X.s₀.heap.objs.size
  noex : ∀ b o, X.base.get? b = some o → b ∉ X.ex
  exfs : ∀ b ∈ X.ex, b ∉ X.fs
  funs : X.s₀.heap.FunFrames X.base X.outer
  frf : ∀ b ∈ X.fs, X.H₀ b = none
structure Inv (X : Cx) (pins : List (Addr × Obj)) (σ : List (Option V)) (H : Hp) (s : Shared) : Prop where
  ok : X.Ok
  os : s.os = X.s₀.os
  bare : AllBare s.gens
  base : Un X.fs X.ex X.H₀ H X.s₀.heap s.heap
  loc : ∃ m, s.heap.Ns X.env.locals m ∧ ∀ (i : Nat) (x : Str) (v : V), X.N[i]? = some x → σ[i]? = some (some v) → Vis X.env.scope x → ∃ u, RelV v u ∧ Look X.env s.heap m x u
  cell : ∀ x c, X.env.cells.lookup x = some c → ∃ v, s.heap.IsCell c v
  free : H X.env.locals = none
  freeC : ∀ x c, X.env.cells.lookup x = some c → H c = none
  pin : ∀ p ∈ X.pn ++ pins, s.heap.get? p.1 = some p.2 ∧ H p.1 = none ∧ p.1 ≠ X.env.locals ∧ p.1 ∉ X.fs ∧ ∀ v, p.2.data ≠ .cell v
  hok : HOk X.prog X.w H s.heap
  len : σ.length = X.N.length
section
variable {X : Cx} {pins : List (Addr × Obj)} {σ : List (Option V)} {H H' : Hp} {s : Shared} {h' : Heap}
theorem Cx.Ok.nofr (ok : X.Ok) {b : Addr} {o : Obj} (e : X.base.get? b = some o) : b ∉ X.fs := fun hb => by
  have := (ok.funs.mem hb).1
  rw [e] at this; cases this
theorem Inv.bs (I : Inv X pins σ H s) : ∀ b o, X.base.get? b = some o → s.heap.get? b = some o ∧ H b = none := fun b o e =>
  ⟨I.base.keep b o (I.ok.bs b o e).1 (I.ok.bs b o e).2 (I.ok.nofr e) (I.ok.noex b o e), I.base.free b o (I.ok.bs b o e).1 (I.ok.bs b o e).2 (I.ok.noex b o e)⟩
theorem Inv.bk (I : Inv X pins σ H s) : ∀ b o, X.base.get? b = some o → s.heap.get? b = some o := fun b o e => (I.bs b o e).1
theorem Inv.mod (I : Inv X pins σ H s) : Mod X.K X.mg X.base := I.ok.mod
theorem Inv.kIn (I : Inv X pins σ H s) : X.K.In s.heap := I.ok.mod.kin.keeps I.bk
theorem Inv.lt (I : Inv X pins σ H s) : X.env.locals < s.heap.objs.size := let ⟨_, hn, _⟩ := I.loc; hn.lt
theorem Inv.sz (I : Inv X pins σ H s) : X.s₀.heap.objs.size ≤ s.heap.objs.size := Nat.le_trans I.ok.above (Nat.le_of_lt I.lt)
theorem Inv.nofs (I : Inv X pins σ H s) {a : Addr} (h : s.heap.objs.size ≤ a) : a ∉ X.fs := fun hb => by
  obtain ⟨_, o, ho, _⟩ := I.ok.funs.mem hb
  exact absurd (Nat.lt_of_lt_of_le (Heap.lt_size ho) (Nat.le_trans I.sz h)) (Nat.lt_irrefl _)
theorem Inv.cne (I : Inv X pins σ H s) : ∀ x c, X.env.cells.lookup x = some c → c ≠ X.env.locals := fun x c e z => by
  obtain ⟨v, o, ho, hd⟩ := I.cell x c e
  obtain ⟨m, ⟨o', es, ep, ho', hd', _⟩, _⟩ := I.loc
  rw [z, ho'] at ho; cases ho; rw [hd'] at hd; cases hd
theorem Inv.funs (I : Inv X pins σ H s) : s.heap.FunFrames X.base X.outer := by
  have all : ∀ (l : List Env), (∀ b ∈ frs l, b ∈ X.fs) → X.s₀.heap.FunFrames X.base l → s.heap.FunFrames X.base l := by
    intro l
    induction l with
    | nil => intro _ _; trivial
    | cons env r ih =>
      intro hs hl
      obtain ⟨hk, ⟨L, o, hf, hn, ho, hd⟩, hr⟩ := hl
      have hL : L ∈ X.fs := hs L (by unfold frs; rw [List.filterMap_cons, hf]; exact List.mem_cons_self)
      obtain ⟨sl, e⟩ := I.base.slot L o ho (I.ok.frf L hL) hL fun z => I.ok.exfs L z hL
      exact ⟨hk, ⟨L, _, hf, hn, e, hd⟩, ih (fun b hb => hs b (by unfold frs; rw [List.filterMap_cons, hf]; exact List.mem_cons_of_mem _ hb)) hr⟩
  exact all X.outer (fun _ hb => hb) I.ok.funs
theorem Inv.stack (I : Inv X pins σ H s) : s.heap.FunFrames X.base X.stack := by
  rcases I.ok.stk with e | ⟨e, hf⟩
  · rw [e]; exact I.funs
  · rw [e]
    obtain ⟨m, hn, _⟩ := I.loc
    refine .cons (by rw [I.ok.kind]; decide) hf hn ?_ I.funs
    exact Heap.get?_none_of_le (Nat.le_trans I.ok.bsz I.ok.above)
theorem Inv.stkSub (I : Inv X pins σ H s) : ∀ b ∈ frs X.stack, b ∈ X.env.locals :: X.fs := fun b hb => by
  rcases I.ok.stk with e | ⟨e, hf⟩
  · rw [e] at hb; exact List.mem_cons_of_mem _ hb
  · rw [e] at hb
    unfold frs at hb
    rw [List.filterMap_cons, hf] at hb
    exact hb
theorem Inv.stkFree (I : Inv X pins σ H s) : ∀ b ∈ frs X.stack, H b = none := fun b hb => by
  rcases List.mem_cons.mp (I.stkSub b hb) with e | hb
  · rw [e]; exact I.free
  · obtain ⟨_, o, ho, _⟩ := I.ok.funs.mem hb
    exact I.base.free b o ho (I.ok.frf b hb) fun z => I.ok.exfs b z hb
theorem Inv.step {g' : Array GenState} {t' : Nat} {d' : Drawn} {ch : List Addr} (I : Inv X pins σ H s)
    (hch : ∀ b ∈ ch, (b ∈ X.ex ∨ X.s₀.heap.objs.size ≤ b) ∧ b ≠ X.env.locals ∧ (∀ x c, X.env.cells.lookup x = some c → c ≠ b) ∧ ∀ p ∈ X.pn ++ pins, p.1 ≠ b)
    (keep : ∀ b o, b ≠ X.env.locals → b ∉ X.fs → b ∉ ch → s.heap.get? b = some o → H b = none → h'.get? b = some o)
    (slot : ∀ b o, b ≠ X.env.locals → b ∈ X.fs → b ∉ ch → s.heap.get? b = some o → H b = none → ∃ sl, h'.get? b = some { o with slots := sl }) (free : ∀ b o, b ∉ ch → s.heap.get? b = some o → H b = none → H' b = none)
    (there : ∀ b o, b ∉ ch → s.heap.get? b = some o → ∃ o', h'.get? b = some o')
    (tups : ∀ b xs, H b = some (.tup xs) → H' b = some (.tup xs)) (frzs : ∀ b o u, H b = some (.frz o u) → H' b = some (.frz o u)) (tbls : ∀ b ps, H b = some (.tbl ps) → ∃ more, H' b = some (.tbl (ps ++ more)))
    (ns : ∀ m, s.heap.Ns X.env.locals m → h'.Ns X.env.locals m) (hok : HOk X.prog X.w H' h') (hg : AllBare g') :
    Inv X pins σ H' { s with heap := h', gens := g', drawn := d', toks := t' } := by
  have neL : ∀ b o, X.s₀.heap.get? b = some o → b ≠ X.env.locals := fun b o e => Nat.ne_of_lt (Nat.lt_of_lt_of_le (Heap.lt_size e) I.ok.above)
  have neC : ∀ b o, X.s₀.heap.get? b = some o → b ∉ X.ex → b ∉ ch := fun b o e hx hb => by
    rcases (hch b hb).1 with z | z
    · exact hx z
    · exact absurd (Nat.lt_of_lt_of_le (Heap.lt_size e) z) (Nat.lt_irrefl _)
  have cellK : ∀ x c, X.env.cells.lookup x = some c → ∀ v, s.heap.IsCell c v → h'.IsCell c v := fun x c e v ⟨o, ho, hd⟩ => by
    have nch : c ∉ ch := fun z => (hch c z).2.2.1 x c e rfl
    by_cases hc : c ∈ X.fs
    · obtain ⟨sl, q⟩ := slot c o (I.cne x c e) hc nch ho (I.freeC x c e)
      exact ⟨_, q, hd⟩
    · exact ⟨o, keep c o (I.cne x c e) hc nch ho (I.freeC x c e), hd⟩
  refine ⟨I.ok, I.os, hg, ⟨fun b o e n hb hx => ?_, fun b o e n hb hx => ?_, fun b o e n hx => ?_, fun b o e hx => ?_, fun b xs e => tups b xs (I.base.tups b xs e), fun b o xs e => frzs b o xs (I.base.frzs b o xs e), fun b ps e => ?_⟩, ?_, fun x c e => ?_, ?_, fun x c e => ?_, fun p hp => ?_, hok, I.len⟩
  · exact keep b o (neL b o e) hb (neC b o e hx) (I.base.keep b o e n hb hx) (I.base.free b o e n hx)
  · obtain ⟨sl, e1⟩ := I.base.slot b o e n hb hx
    obtain ⟨sl', e2⟩ := slot b _ (neL b o e) hb (neC b o e hx) e1 (I.base.free b o e n hx)
    exact ⟨sl', e2⟩
  · obtain ⟨o', e1⟩ := I.base.there b o e hx
    exact free b o' (neC b o e hx) e1 (I.base.free b o e n hx)
  · obtain ⟨o', e1⟩ := I.base.there b o e hx
    exact there b o' (neC b o e hx) e1
  · obtain ⟨m1, e1⟩ := I.base.tbls b ps e
    obtain ⟨m2, e2⟩ := tbls b _ e1
    exact ⟨m1 ++ m2, by rw [e2, Array.append_assoc]⟩
  · obtain ⟨m, hn, hl⟩ := I.loc
    refine ⟨m, ns m hn, fun i x v e1 e2 e3 => ?_⟩
    obtain ⟨u, r, l⟩ := hl i x v e1 e2 e3
    refine ⟨u, r, ?_⟩
    rcases l with l | ⟨k, c, e, z⟩
    · exact .inl l
    · exact .inr ⟨k, c, e, cellK x c e _ z⟩
  · obtain ⟨v, z⟩ := I.cell x c e
    exact ⟨v, cellK x c e v z⟩
  · obtain ⟨m, ⟨o, _, _, ho, _⟩, _⟩ := I.loc
    exact free _ o (fun z => (hch _ z).2.1 rfl) ho I.free
  · obtain ⟨v, o, ho, hd⟩ := I.cell x c e
    exact free c o (fun z => (hch c z).2.2.1 x c e rfl) ho (I.freeC x c e)
  · obtain ⟨e, n, ne, nf, d⟩ := I.pin p hp
    have nch : p.1 ∉ ch := fun z => (hch p.1 z).2.2.2 p hp rfl
    exact ⟨keep p.1 p.2 ne nf nch e n, free p.1 p.2 nch e n, ne, nf, d⟩
theorem Inv.un {t' : Nat} (I : Inv X pins σ H s) (u : Un X.fs [] H H' s.heap h') (hok : HOk X.prog X.w H' h') : Inv X pins σ H' { s with heap := h', toks := t' } := by
  obtain ⟨m, ⟨o, es, ep, ho, r⟩, _⟩ := id I.loc
  obtain ⟨sl, hL⟩ := u.any ho I.free (by simp)
  exact I.step (g' := s.gens) (d' := s.drawn) (ch := []) (fun _ z => nomatch z) (fun b o _ hb _ e n => u.keep b o e n hb (by simp)) (fun b o _ hb _ e n => u.slot b o e n hb (by simp)) (fun b o _ e n => u.free b o e n (by simp)) (fun b o _ e => u.there b o e (by simp)) u.tups u.frzs u.tbls (fun m' hm => by
    obtain ⟨o', es', ep', ho', r'⟩ := hm
    rw [ho] at ho'; cases ho'
    exact ⟨_, es', ep', hL, r'⟩) hok I.bare
theorem Inv.call {g' : Array GenState} {t' : Nat} {d' : Drawn} {ch : List Addr} (I : Inv X pins σ H s) (u : Un (frs X.stack) ch H H' s.heap h') (hok : HOk X.prog X.w H' h') (hg : AllBare g')
    (hch : ∀ b ∈ ch, (b ∈ X.ex ∨ X.s₀.heap.objs.size ≤ b) ∧ b ≠ X.env.locals ∧ (∀ x c, X.env.cells.lookup x = some c → c ≠ b) ∧ ∀ p ∈ X.pn ++ pins, p.1 ≠ b) :
    Inv X pins σ H' { s with heap := h', gens := g', drawn := d', toks := t' } := by
  obtain ⟨m, ⟨o, es, ep, ho, r⟩, _⟩ := id I.loc
  obtain ⟨sl, hL⟩ := u.any ho I.free fun z => (hch _ z).2.1 rfl
  exact I.step (ch := ch) hch (fun b o hL hb hc e n => u.keep b o e n (fun z => (List.mem_cons.mp (I.stkSub b z)).elim hL hb) hc) (fun b o _ _ hc e n => u.any e n hc) (fun b o hc e n => u.free b o e n hc) (fun b o hc e => u.there b o e hc) u.tups u.frzs u.tbls (fun m' hm => by
    obtain ⟨o', es', ep', ho', r'⟩ := hm
    rw [ho] at ho'; cases ho'
    exact ⟨_, es', ep', hL, r'⟩) hok hg
theorem Inv.turned {t' : Nat} {it : Addr} (I : Inv X pins σ H s) (k : ∀ b o, b ≠ it → s.heap.get? b = some o → h'.get? b = some o) (hn : H it = none) (hL : it ≠ X.env.locals)
    (h1 : it ∈ X.ex ∨ X.s₀.heap.objs.size ≤ it) (h2 : ∀ x c, X.env.cells.lookup x = some c → c ≠ it) (h3 : ∀ p ∈ X.pn ++ pins, p.1 ≠ it) : Inv X pins σ H { s with heap := h', toks := t' } := by
  have nit : ∀ b u, H b = some u → b ≠ it := fun b u e z => by rw [z, hn] at e; cases e
  refine I.step (g' := s.gens) (d' := s.drawn) (ch := [it]) (fun b hb => ?_) (fun b o _ _ hc e _ => k b o (fun z => hc (by simp [z])) e) (fun b o _ _ hc e _ => ⟨o.slots, k b o (fun z => hc (by simp [z])) e⟩) (fun _ _ _ _ n => n)
    (fun b o hc e => ⟨o, k b o (fun z => hc (by simp [z])) e⟩) (fun _ _ e => e) (fun _ _ _ e => e) (fun b ps e => ⟨#[], by rw [e]; simp⟩) (fun m hm => ?_) (fun b u e => ?_) I.bare
  · have e : b = it := by simpa using hb
    subst e
    exact ⟨h1, hL, h2, h3⟩
  · obtain ⟨o, es, ep, ho, r⟩ := hm
    exact ⟨o, es, ep, k _ o (Ne.symm hL) ho, r⟩
  · refine (I.hok b u e).stay (fun c v hc q => k c v ?_ q) (fun _ q => q) fun _ _ q => q
    rcases hc with z | z
    · rw [z]; exact nit b u e
    · exact nit c _ z
theorem Inv.tok (I : Inv X pins σ H s) (t : Nat) : Inv X pins σ H { s with toks := t } := I.un (h' := s.heap) (t' := t) Un.refl I.hok
theorem Inv.kept {t' : Nat} (I : Inv X pins σ H s) (k : ∀ b u, s.heap.get? b = some u → h'.get? b = some u) : Inv X pins σ H { s with heap := h', toks := t' } := I.un (Un.kept k) (I.hok.kept k)
theorem Inv.laid {a : Addr} {o : HO} {t' : Nat} (I : Inv X pins σ H s) (k : ∀ b u, s.heap.get? b = some u → h'.get? b = some u) (hp : s.heap.objs.size ≤ a) (new : ObjOk X.prog X.w (upd H a o) h' a o) :
    Inv X pins σ (upd H a o) { s with heap := h', toks := t' } := I.un (Un.laid k hp (I.hok.fresh hp)) (I.hok.laid k hp new)
theorem Inv.write {x e : Addr} {o : HO} {t' : Nat} (I : Inv X pins σ H s) (mu : Mut (H x)) (he : e = x ∨ H e = some (.own x)) (k : ∀ b u, b ≠ e → s.heap.get? b = some u → h'.get? b = some u) (heo : ∃ u, h'.get? e = some u)
    (new : ObjOk X.prog X.w (upd H x o) h' x o) : Inv X pins σ (upd H x o) { s with heap := h', toks := t' } := I.un (Un.write mu he k heo) (I.hok.write mu he k heo new)
theorem Inv.pins_of {pins' : List (Addr × Obj)} (I : Inv X pins σ H s) (h : ∀ p ∈ pins', s.heap.get? p.1 = some p.2 ∧ H p.1 = none ∧ p.1 ≠ X.env.locals ∧ p.1 ∉ X.fs ∧ ∀ v, p.2.data ≠ .cell v) : Inv X pins' σ H s :=
  ⟨I.ok, I.os, I.bare, I.base, I.loc, I.cell, I.free, I.freeC, fun p hp => (List.mem_append.mp hp).elim (fun z => I.pin p (List.mem_append_left _ z)) (h p), I.hok, I.len⟩
theorem nodup_ix {N : List Str} (hN : N.Nodup) {i j : Nat} {x : Str} (a : N[i]? = some x) (b : N[j]? = some x) : i = j := by
  obtain ⟨h1, e1⟩ := List.getElem?_eq_some_iff.mp a
  obtain ⟨h2, e2⟩ := List.getElem?_eq_some_iff.mp b
  exact (List.getElem_inj hN).mp (e1.trans e2.symm)
theorem store_ok2 {M : Model} {A : Around} {E : Value → Shared → Prop} {i : Nat} {x : Str} {v : V} {u : Value} {Q : Unit → Shared → Prop} (I : Inv X pins σ H s) (hN : X.N.Nodup) (hi : X.N[i]? = some x) (hx : Loc X.env.scope x) (r : RelV v u)
    (h : ∀ s', Inv X pins (σ.set i (some v)) H s' → (∃ a, Heap.SameBut a s.heap s'.heap ∧ (a = X.env.locals ∨ X.env.cells.lookup x = some a)) → Q () s') (hf : X.fn x = true ∨ X.env.scope.names.lookup x = some .local := by first | exact .inl rfl | exact .inr rfl | assumption) : wpAny M A (storeName X.env x u) Q E s := by
  obtain ⟨m, hn, hl⟩ := id I.loc
  have hcls : (X.env.scope.kind == .class || (X.env.scope.kind == .module && X.env.locals != X.env.globals)) = false := by rw [I.ok.kind]; rfl
  have hiσ : i < σ.length := by rw [I.len]; exact (List.getElem?_eq_some_iff.mp hi).1
  have cne := I.cne
  have tracked : ∀ {a : Addr} {h' : Heap}, (∃ o, s.heap.get? a = some o ∧ H a = none) → Heap.SameBut a s.heap h' → HOk X.prog X.w H h' := fun {a h'} ha hs b ob e => by
    obtain ⟨_, _, hfree⟩ := ha
    refine (I.hok b ob e).stay (fun c w' hc q => (hs.2 c ?_).trans q) (fun _ q => q) fun _ _ q => q
    rintro rfl
    rcases hc with rfl | hc
    · rw [hfree] at e; cases e
    · rw [hfree] at hc; cases hc
  rcases hx with hk | hk
  · refine wpAny_storeName_local hk hn (fun h' hn' hs => ?_) hcls
    obtain ⟨oL, _, _, hoL, _⟩ := id hn
    refine h _ ⟨I.ok, I.os, I.bare, ⟨fun b o e n hb hx => ?_, fun b o e n hb hx => ?_, I.base.free, fun b o e hx => ?_, I.base.tups, I.base.frzs, I.base.tbls⟩, ⟨_, hn', fun j y v' e1 e2 e3 => ?_⟩, fun y c e => ?_, I.free, I.freeC, fun p hp => ?_, tracked ⟨oL, hoL, I.free⟩ hs, by simpa using I.len⟩ ⟨_, hs, .inl rfl⟩
    · exact (hs.2 b (Nat.ne_of_lt (Nat.lt_of_lt_of_le (Heap.lt_size e) I.ok.above))).trans (I.base.keep b o e n hb hx)
    · obtain ⟨sl, e1⟩ := I.base.slot b o e n hb hx
      exact ⟨sl, (hs.2 b (Nat.ne_of_lt (Nat.lt_of_lt_of_le (Heap.lt_size e) I.ok.above))).trans e1⟩
    · obtain ⟨o', e1⟩ := I.base.there b o e hx
      exact ⟨o', (hs.2 b (Nat.ne_of_lt (Nat.lt_of_lt_of_le (Heap.lt_size e) I.ok.above))).trans e1⟩
    · by_cases hj : j = i
      · subst hj
        rw [hi] at e1; cases e1
        rw [List.getElem?_set_self hiσ] at e2
        cases e2
        exact ⟨u, r, .inl ⟨hk, by simp⟩⟩
      · rw [List.getElem?_set_ne (Ne.symm hj)] at e2
        obtain ⟨u', r', q⟩ := hl j y v' e1 e2 e3
        refine ⟨u', r', ?_⟩
        rcases q with ⟨k, e⟩ | ⟨k, c, e, z⟩
        · refine .inl ⟨k, ?_⟩
          have : y ≠ x := fun e => hj (nodup_ix hN e1 (e ▸ hi))
          simp [this, e]
        · exact .inr ⟨k, c, e, z.sameBut hs (cne y c e)⟩
    · obtain ⟨w', z⟩ := I.cell y c e
      exact ⟨w', z.sameBut hs (cne y c e)⟩
    · obtain ⟨e, n, ne, nf, d⟩ := I.pin p hp
      exact ⟨(hs.2 p.1 ne).trans e, n, ne, nf, d⟩
  · have hfn : X.fn x = true := by
      rcases hf with z | z
      · exact z
      · rw [z] at hk; cases hk
    obtain ⟨c, hc⟩ := I.ok.has x (.inl hk)
    obtain ⟨w', z⟩ := I.cell x c hc
    refine wpAny_storeName_cell I.ok.kind hk hc z (fun h' hc' hs => ?_)
    obtain ⟨oc, hoc, hocd⟩ := id z
    refine h { s with heap := h' } ⟨I.ok, I.os, I.bare, ⟨fun b o e n hb hx => ?_, fun b o e n hb hx => ?_, I.base.free, fun b o e hx => ?_, I.base.tups, I.base.frzs, I.base.tbls⟩, ⟨m, hn.sameBut hs (Ne.symm (cne x c hc)), fun j y v' e1 e2 e3 => ?_⟩, fun y c' e => ?_, I.free, I.freeC, fun p hp => ?_, tracked ⟨oc, hoc, I.freeC x c hc⟩ hs, by simpa using I.len⟩ ⟨c, hs, .inr hc⟩
    · exact (hs.2 b (Nat.ne_of_lt (Nat.lt_of_lt_of_le (Heap.lt_size e) (I.ok.cab x c hfn hc)))).trans (I.base.keep b o e n hb hx)
    · obtain ⟨sl, e1⟩ := I.base.slot b o e n hb hx
      exact ⟨sl, (hs.2 b (Nat.ne_of_lt (Nat.lt_of_lt_of_le (Heap.lt_size e) (I.ok.cab x c hfn hc)))).trans e1⟩
    · obtain ⟨o', e1⟩ := I.base.there b o e hx
      exact ⟨o', (hs.2 b (Nat.ne_of_lt (Nat.lt_of_lt_of_le (Heap.lt_size e) (I.ok.cab x c hfn hc)))).trans e1⟩
    · by_cases hj : j = i
      · subst hj
        rw [hi] at e1; cases e1
        rw [List.getElem?_set_self hiσ] at e2
        cases e2
        exact ⟨u, r, .inr ⟨.inl hk, c, hc, hc'⟩⟩
      · rw [List.getElem?_set_ne (Ne.symm hj)] at e2
        obtain ⟨u', r', q⟩ := hl j y v' e1 e2 e3
        refine ⟨u', r', ?_⟩
        rcases q with q | ⟨k, c', e, z'⟩
        · exact .inl q
        · refine .inr ⟨k, c', e, z'.sameBut hs ?_⟩
          rintro rfl
          exact hj (nodup_ix hN e1 (I.ok.inj _ _ _ e hc ▸ hi))
    · by_cases hcc : c' = c
      · subst hcc; exact ⟨_, hc'⟩
      · obtain ⟨w2, z2⟩ := I.cell y c' e
        exact ⟨w2, z2.sameBut hs hcc⟩
    · obtain ⟨e, n, ne, nf, d⟩ := I.pin p hp
      refine ⟨(hs.2 p.1 ?_).trans e, n, ne, nf, d⟩
      intro q
      rw [q, hoc] at e
      have q' : oc = p.2 := Option.some.inj e
      exact d w' (by rw [← q']; exact hocd)
theorem store_ok {M : Model} {A : Around} {E : Value → Shared → Prop} {i : Nat} {x : Str} {v : V} {u : Value} {Q : Unit → Shared → Prop} (I : Inv X pins σ H s) (hN : X.N.Nodup) (hi : X.N[i]? = some x) (hx : Loc X.env.scope x) (r : RelV v u)
    (h : ∀ s', Inv X pins (σ.set i (some v)) H s' → Q () s') (hf : X.fn x = true ∨ X.env.scope.names.lookup x = some .local := by first | exact .inl rfl | exact .inr rfl | assumption) : wpAny M A (storeName X.env x u) Q E s :=
  store_ok2 I hN hi hx r (fun s' I' _ => h s' I') hf
theorem Inv.call' {s' : Shared} {ch : List Addr} (I : Inv X pins σ H s) (ho : s'.os = s.os) (u : Un (frs X.stack) ch H H' s.heap s'.heap) (hok : HOk X.prog X.w H' s'.heap) (hg : AllBare s'.gens)
    (hch : ∀ b ∈ ch, (b ∈ X.ex ∨ X.s₀.heap.objs.size ≤ b) ∧ b ≠ X.env.locals ∧ (∀ x c, X.env.cells.lookup x = some c → c ≠ b) ∧ ∀ p ∈ X.pn ++ pins, p.1 ≠ b) : Inv X pins σ H' s' := by
  obtain ⟨h', g', d', t', o'⟩ := s'
  have e : o' = s.os := ho
  subst e
  exact I.call (g' := g') (t' := t') (d' := d') u hok hg hch
end
abbrev XK := Value → Option Addr → Hp → Prop
abbrev St := List (Option V)
abbrev VK := V → Hp → Prop
abbrev TE := St → Hp → VK → Prop
abbrev TT := St → Hp → (Bool → Hp → Prop) → Prop
abbrev TA := St → Hp → (List V → Hp → Prop) → Prop
structure Ends where
  nx : St → Hp → Prop
  rt : VK
  bk : St → Hp → Prop := fun _ _ => False
  ct : St → Hp → Prop := fun _ _ => False
abbrev TS := Ends → St → Hp → Prop
def EP (X : Cx) (pins : List (Addr × Obj)) (σ : St) (Q : VK) (u : Value) (s' : Shared) : Prop := ∃ v H', Inv X pins σ H' s' ∧ RelV v u ∧ Q v H'
def TP (X : Cx) (pins : List (Addr × Obj)) (σ : St) (Q : Bool → Hp → Prop) (b : Bool) (s' : Shared) : Prop := ∃ H', Inv X pins σ H' s' ∧ Q b H'
def AP (X : Cx) (pins : List (Addr × Obj)) (σ : St) (Q : List V → Hp → Prop) (us : List Value) (s' : Shared) : Prop := ∃ vs H', Inv X pins σ H' s' ∧ Vals vs us ∧ Q vs H'
def SP (X : Cx) (pins : List (Addr × Obj)) (D : Ends) (f : Flow) (s' : Shared) : Prop :=
  match f with
  | .next => ∃ σ' H', Inv X pins σ' H' s' ∧ D.nx σ' H'
  | .brk => ∃ σ' H', Inv X pins σ' H' s' ∧ D.bk σ' H'
  | .cont => ∃ σ' H', Inv X pins σ' H' s' ∧ D.ct σ' H'
  | .ret u => ∃ v σ' H', Inv X pins σ' H' s' ∧ RelV v u ∧ D.rt v H'
def PE (X : Cx) (e : Expr) (t : TE) : Prop :=
  ∀ (pins : List (Addr × Obj)) (s : Shared) (σ : St) (H : Hp) (Q : VK), Inv X pins σ H s → t σ H Q → wpAny (model X.prog X.w) X.A (eval e X.env) (EP X pins σ Q) X.xe s
def PT (X : Cx) (e : Expr) (t : TT) : Prop :=
  ∀ (pins : List (Addr × Obj)) (s : Shared) (σ : St) (H : Hp) (Q : Bool → Hp → Prop), Inv X pins σ H s → t σ H Q → wpAny (model X.prog X.w) X.A (isTrue e X.env (eval e X.env)) (TP X pins σ Q) X.xe s
def PW (X : Cx) (e : Expr) (t : TT) : Prop :=
  ∀ (whole : Sem Value) (pins : List (Addr × Obj)) (s : Shared) (σ : St) (H : Hp) (Q : Bool → Hp → Prop), Inv X pins σ H s → t σ H Q → wpAny (model X.prog X.w) X.A (isTrue e X.env whole) (TP X pins σ Q) X.xe s
theorem PW.pt {X : Cx} {e : Expr} {t : TT} (h : PW X e t) : PT X e t := h _
def PA (X : Cx) (es : List Expr) (t : TA) : Prop :=
  ∀ (pos : Pos) (pins : List (Addr × Obj)) (s : Shared) (σ : St) (H : Hp) (Q : List V → Hp → Prop), Inv X pins σ H s → t σ H Q → wpAny (model X.prog X.w) X.A (spliced (backTo pos (starEach es X.env))) (AP X pins σ Q) X.xe s
def PS (X : Cx) (st : Stmt) (t : TS) : Prop :=
  ∀ (pins : List (Addr × Obj)) (s : Shared) (σ : St) (H : Hp) (D : Ends), Inv X pins σ H s → t D σ H → wpAny (model X.prog X.w) X.A (exec st X.env) (SP X pins D) X.xe s
def PSs (X : Cx) (st : List Stmt) (t : TS) : Prop :=
  ∀ (pins : List (Addr × Obj)) (s : Shared) (σ : St) (H : Hp) (D : Ends), Inv X pins σ H s → t D σ H → wpAny (model X.prog X.w) X.A (execs st X.env) (SP X pins D) X.xe s
theorem thn {α : Type} {t : Sem α} {Q Q' : α → Shared → Prop} {M : Model} {A : Around} {E : Value → Shared → Prop} {s : Shared} (h : wpAny M A t Q E s) (hQ : ∀ a s, Q a s → Q' a s) : wpAny M A t Q' E s := wpAny_mono h hQ fun _ _ x => x
end L2
namespace L2
open PySem PySem.Spec PyProof.Rows
section
variable {X : Cx}
def tVar (i : Nat) : TE := fun σ H Q => ∃ v, σ[i]? = some (some v) ∧ Q v H
def tC (v : V) : TE := fun _ H Q => Q v H
theorem pe_var {i : Nat} {x : Str} {pos : Pos} (hN : X.N[i]? = some x) (hv : Vis X.env.scope x) (hd : (x == ("__debug__" : Str)) = false := by decide) (hcd : (x == ("__classdict__" : Str)) = false := by decide) : PE X (.Name x pos) (tVar i) := by
  intro pins s σ H Q I h
  obtain ⟨v, e, h⟩ := h
  obtain ⟨m, hn, hl⟩ := I.loc
  obtain ⟨u, r, l⟩ := hl i x v hN e hv
  have fin : EP X pins σ Q u s := ⟨v, H, I, r, h⟩
  rcases l with ⟨hk, hm⟩ | ⟨hk, c, hc, hcell⟩
  · exact wpAny_Name (wpAny_loadName_local I.ok.kind hk hn hm fin) hd
  · rcases hk with hk | hk
    · exact wpAny_Name (wpAny_loadName_cell I.ok.kind hk hc hcell fin) hd
    · exact wpAny_Name (wpAny_loadName_free I.ok.kind hk hc hcell fin hcd) hd
theorem pe_int {i j pos} : PE X (.Constant (.int i) j pos) (tC (.int i)) := fun _ _ _ H _ I h => wpAny_Constant_int ⟨.int i, H, I.tok _, ⟨_, rfl⟩, h⟩
theorem pe_bl {b j pos} : PE X (.Constant (.bool b) j pos) (tC (.bl b)) := fun _ _ _ H _ I h => Constant_bool ⟨.bl b, H, I, rfl, h⟩
theorem pe_non {j pos} : PE X (.Constant .none j pos) (tC .non) := fun _ _ _ H _ I h => Constant_none ⟨.non, H, I, rfl, h⟩
theorem pe_str {x j pos} : PE X (.Constant (.str x) j pos) (tC (.str x)) := fun _ _ _ H _ I h => Calls.Constant_str ⟨.str x, H, I.tok _, ⟨_, rfl⟩, h⟩
def Gl (X : Cx) (x : Str) : Prop := X.env.kindOf x = some .globalImplicit
theorem ld_glob {E : Value → Shared → Prop} {pins : List (Addr × Obj)} {s : Shared} {σ : St} {H : Hp} {x : Str} {u : Value} {pos : Pos} {Q : Value → Shared → Prop} (I : Inv X pins σ H s) (hg : Gl X x) (hm : X.mg x = some u) (h : Q u s)
    (hd : (x == ("__debug__" : Str)) = false := by decide) : wpAny (model X.prog X.w) X.A (eval (.Name x pos) X.env) Q E s :=
  Calls.Name_function_global I.ok.kind hg (Calls.loadGlobal_global (by rw [I.ok.glob]; exact I.mod.glob.keeps I.bk) hm h) hd
theorem ld_blt {E : Value → Shared → Prop} {pins : List (Addr × Obj)} {s : Shared} {σ : St} {H : Hp} {x : Str} {u : Value} {pos : Pos} {Q : Value → Shared → Prop} (I : Inv X pins σ H s) (hg : Gl X x) (hm : X.mg x = none) (hv : bootBuiltins x = some u) (h : Q u s)
    (hn : x ≠ "__name__" := by decide) (hd : (x == ("__debug__" : Str)) = false := by decide) : wpAny (model X.prog X.w) X.A (eval (.Name x pos) X.env) Q E s := by
  obtain ⟨mb, h1, h2⟩ := I.mod.blt
  exact Calls.Name_function_global I.ok.kind hg (Calls.loadGlobal_builtin (by rw [I.ok.glob]; exact I.mod.glob.keeps I.bk) hm (by rw [I.ok.blt]; exact h1.keeps I.bk) ((h2 x hn).trans hv) h) hd
theorem pe_bltn {x : Str} {v : V} {u : Value} {pos : Pos} (hg : Gl X x) (hm : X.mg x = none) (hv : bootBuiltins x = some u) (r : RelV v u) (hn : x ≠ "__name__" := by decide) (hd : (x == ("__debug__" : Str)) = false := by decide) : PE X (.Name x pos) (tC v) :=
  fun _ _ _ H _ I h => ld_blt I hg hm hv ⟨v, H, I, r, h⟩ hn hd
variable {a b : Expr} {ta tb : TE} {pos : Pos}
def PC (X : Cx) (op : CmpOp) (a b : Expr) (t : TE) : Prop :=
  ∀ (pins : List (Addr × Obj)) (s : Shared) (σ : St) (H : Hp) (Q : VK), Inv X pins σ H s → t σ H Q →
    wpAny (model X.prog X.w) X.A (eval a X.env) (fun v s₁ => wpAny (model X.prog X.w) X.A (eval b X.env) (fun u s₂ => wpAny (model X.prog X.w) X.A (compareOp op v u) (EP X pins σ Q) X.xe s₂) X.xe s₁) X.xe s
theorem nobehind (b : Expr) {op : CmpOp} (h : op ≠ .In) (h2 : op ≠ .NotIn) : behindInMarks op b = false := by
  have e1 : (op == CmpOp.In) = false := by cases op <;> first | rfl | exact absurd rfl h
  have e2 : (op == CmpOp.NotIn) = false := by cases op <;> first | rfl | exact absurd rfl h2
  cases b <;> simp [behindInMarks, e1, e2]
def tB (t : TE) : TT := fun σ H Q => t σ H fun x H1 => ∃ c, x = .bl c ∧ Q c H1
theorem pt_cmp {op : CmpOp} {t : TE} (h : PC X op a b t) (h1 : behindInMarks op b = false := by first | exact nobehind _ (by decide) (by decide) | rfl) : PT X (.Compare a [op] [b] pos) (tB t) := by
  intro pins s σ H Q I hw
  refine wpAny_isTrue_Compare1 (thn (h pins s σ H _ I hw) fun v s1 h1 => thn h1 fun u s2 h2 => thn h2 fun c s3 ⟨x, H1, I1, r1, q1⟩ => ?_) h1
  obtain ⟨d, rfl, q⟩ := q1
  cases r1
  exact wpAny_truthy_bool ⟨H1, I1, q⟩
variable {tA tB' : TT} {rest : List Expr}
def tOr (t u : TT) : TT := fun σ H Q => t σ H fun c H1 => if c = true then Q true H1 else u σ H1 Q
def tNot (t : TT) : TT := fun σ H Q => t σ H fun c H1 => Q (!c) H1
theorem pw_or1 (ha : PT X a tA) : PW X (.BoolOp .Or [a] pos) tA := by
  intro wh pins s σ H Q I h
  refine isTrue_or (thn (ha pins s σ H Q I h) fun c s1 e => ?_)
  cases c with
  | false => exact isTrue_or_nil e
  | true => exact e
theorem pw_or (ha : PT X a tA) (hb : PW X (.BoolOp .Or (b :: rest) pos) tB') : PW X (.BoolOp .Or (a :: b :: rest) pos) (tOr tA tB') := by
  intro wh pins s σ H Q I h
  refine isTrue_or (thn (ha pins s σ H _ I h) fun c s1 ⟨H1, I1, q1⟩ => ?_)
  cases c with
  | true => exact ⟨H1, I1, q1⟩
  | false => exact hb wh pins s1 σ H1 Q I1 q1
theorem pt_not (ha : PT X a tA) : PT X (.UnaryOp .Not a pos) (tNot tA) := by
  intro pins s σ H Q I h
  exact isTrue_not (ha pins s σ H (fun c H1 => Q (!c) H1) I h)
def tIf (t : TT) (ta tb : TE) : TE := fun σ H Q => t σ H fun c H1 => if c = true then ta σ H1 Q else tb σ H1 Q
theorem pe_ifExp {c : Expr} (hc : PT X c tA) (ha : PE X a ta) (hb : PE X b tb) : PE X (.IfExp c a b pos) (tIf tA ta tb) := by
  intro pins s σ H Q I h
  refine wpAny_IfExp (thn (hc pins s σ H _ I h) fun d s1 ⟨H1, I1, q1⟩ => ?_)
  cases d with
  | true => exact ha pins s1 σ H1 Q I1 q1
  | false => exact hb pins s1 σ H1 Q I1 q1
end
end L2
namespace L2
open PySem PySem.Spec PyProof.Rows
def SqL (K : PySem.W.Frag) (H : Hp) (a : Addr) (xs : List V) : Prop :=
  Rd H a (.lst xs) ∨
    ∃ (o : Obj) (its : Array Value) (n : Nat), K.lookup a = some o ∧ o.cls = .type "list" ∧ o.dict = none ∧ o.data = .seq its n ∧ its.size ≤ sizeLine ∧ Vals xs its.toList
def SqT (K : PySem.W.Frag) (H : Hp) (a : Addr) (xs : List V) : Prop :=
  Rd H a (.tup xs) ∨
    ∃ (o : Obj) (its : Array Value) (n : Nat), K.lookup a = some o ∧ o.cls = .type "tuple" ∧ o.data = .seq its n ∧ its.size ≤ sizeLine ∧ Vals xs its.toList
def absV : Value → Option V
  | .none => some .non
  | .bool b => some (.bl b)
  | .int i _ => some (.int i)
  | .str x _ => some (.str x)
  | .bytes b _ => some (.byt b)
  | .float b _ => some (.flt b)
  | .ref a => some (.ref a)
  | .type n => some (.ty n)
  | _ => none
theorem RelV.abs {x : V} {u : Value} (r : RelV x u) : absV u = some x := by
  cases x with
  | non => cases r; rfl
  | bl _ => cases r; rfl
  | int _ => obtain ⟨t, rfl⟩ := r; rfl
  | str _ => obtain ⟨t, rfl⟩ := r; rfl
  | byt _ => obtain ⟨t, rfl⟩ := r; rfl
  | flt _ => obtain ⟨t, rfl⟩ := r; rfl
  | ref _ => cases r; rfl
  | ty _ => cases r; rfl
theorem RelV.inj {x y : V} {u : Value} (r : RelV x u) (q : RelV y u) : x = y := Option.some.inj (r.abs.symm.trans q.abs)
theorem Vals.inj : ∀ {xs ys : List V} {us : List Value}, Vals xs us → Vals ys us → xs = ys
  | _, _, _, .nil, .nil => rfl
  | _, _, _, .cons r t, .cons r' t' => by rw [r.inj r', Vals.inj t t']
section
variable {X : Cx} {pins : List (Addr × Obj)} {σ : St} {H : Hp} {s : Shared} {a : Addr} {xs ys : List V}
theorem SqL.of {K : PySem.W.Frag} (h : H a = some (.lst xs)) : SqL K H a xs := .inl (.inl h)
theorem SqT.of {K : PySem.W.Frag} (h : H a = some (.tup xs)) : SqT K H a xs := .inl (.inl h)
theorem Inv.list (I : Inv X pins σ H s) (h : SqL X.K H a xs) : ∃ its : List Value, Vals xs its ∧ PlainL s.heap a its.toArray ∧ xs.length ≤ sizeLine := by
  rcases h with h | ⟨o, its, n, hk, hc, hd, hs, hz, r⟩
  · obtain ⟨z, its, n, r, e⟩ := h.ok I.hok
    exact ⟨its, r, ⟨_, n, e, rfl, rfl, rfl⟩, z⟩
  · refine ⟨its.toList, r, ⟨o, n, I.kIn a o hk, hc, hd, by simpa using hs⟩, ?_⟩
    have e := r.length
    simp only [Array.length_toList] at e
    omega
theorem Inv.tuple (I : Inv X pins σ H s) (h : SqT X.K H a xs) : ∃ its : List Value, Vals xs its ∧ IsTup s.heap a its.toArray ∧ xs.length ≤ sizeLine := by
  rcases h with h | ⟨o, its, n, hk, hc, hs, hz, r⟩
  · obtain ⟨z, its, r, p⟩ := h.ok I.hok
    exact ⟨its, r, p, z⟩
  · refine ⟨its.toList, r, ⟨o, I.kIn a o hk, hc, n, by simpa using hs⟩, ?_⟩
    have e := r.length
    simp only [Array.length_toList] at e
    omega
theorem Inv.list_inj (I : Inv X pins σ H s) (h : SqL X.K H a xs) (h' : SqL X.K H a ys) : xs = ys := by
  obtain ⟨its, r, ⟨o, n, e, _, _, d⟩, _⟩ := I.list h
  obtain ⟨its', r', ⟨o', n', e', _, _, d'⟩, _⟩ := I.list h'
  rw [e] at e'; cases e'
  rw [d] at d'
  injection d' with d1 _
  have : its = its' := by simpa using congrArg Array.toList d1
  subst this
  exact r.inj r'
end
abbrev Cx.wish (X : Cx) (E : Value → Shared → Prop) : Cx := { X with xe := E }
abbrev Cx.nox (X : Cx) : Cx := X.wish fun _ _ => False
theorem Cx.Ok.wish {X : Cx} (ok : X.Ok) (E : Value → Shared → Prop) : (X.wish E).Ok :=
  ⟨ok.mod, ok.kind, ok.glob, ok.blt, ok.above, ok.inj, ok.has, ok.cab, ok.hd, ok.frames, ok.stk, ok.exf, ok.bs, ok.bsz, ok.noex, ok.exfs, ok.funs, ok.frf⟩
theorem Cx.Ok.unwish {X : Cx} {E : Value → Shared → Prop} (ok : (X.wish E).Ok) : X.Ok :=
  ⟨ok.mod, ok.kind, ok.glob, ok.blt, ok.above, ok.inj, ok.has, ok.cab, ok.hd, ok.frames, ok.stk, ok.exf, ok.bs, ok.bsz, ok.noex, ok.exfs, ok.funs, ok.frf⟩
section
variable {X : Cx} {pins : List (Addr × Obj)} {σ : St} {H : Hp} {s : Shared} {E : Value → Shared → Prop}
theorem Inv.wish (I : Inv X pins σ H s) (E : Value → Shared → Prop) : Inv (X.wish E) pins σ H s := ⟨I.ok.wish E, I.os, I.bare, I.base, I.loc, I.cell, I.free, I.freeC, I.pin, I.hok, I.len⟩
theorem Inv.unwish (I : Inv (X.wish E) pins σ H s) : Inv X pins σ H s := ⟨I.ok.unwish, I.os, I.bare, I.base, I.loc, I.cell, I.free, I.freeC, I.pin, I.hok, I.len⟩
theorem SP.unwish {D : Ends} {f : Flow} {s' : Shared} (h : SP (X.wish E) pins D f s') : SP X pins D f s' := by
  cases f with
  | next => obtain ⟨σ', H', I, q⟩ := h; exact ⟨σ', H', I.unwish, q⟩
  | brk => obtain ⟨σ', H', I, q⟩ := h; exact ⟨σ', H', I.unwish, q⟩
  | cont => obtain ⟨σ', H', I, q⟩ := h; exact ⟨σ', H', I.unwish, q⟩
  | ret u => obtain ⟨v, σ', H', I, r, q⟩ := h; exact ⟨v, σ', H', I.unwish, r, q⟩
theorem PSs.nox {st : List Stmt} {t : TS} (h : PSs X.nox st t) : PSs X st t := fun pins s σ H D I hw =>
  wpAny_mono (h pins s σ H D (I.wish _) hw) (fun _ _ q => q.unwish) fun _ _ z => False.elim z
end
section
variable {X : Cx} {st : Stmt} {rest : List Stmt} {t u : TS} {e : Expr} {te : TE} {pos : Pos}
def tNext : TS := fun D σ H => D.nx σ H
def tSeq (t u : TS) : TS := fun D σ H => t { D with nx := u D } σ H
theorem pss_nil : PSs X [] tNext := fun _ _ σ H _ I h => wpAny_execs_nil ⟨σ, H, I, h⟩
theorem pss_cons (h1 : PS X st t) (h2 : PSs X rest u) : PSs X (st :: rest) (tSeq t u) := by
  intro pins s σ H D I h
  refine wpAny_execs_cons (thn (h1 pins s σ H { D with nx := u D } I h) fun f s1 q => ?_)
  cases f with
  | next =>
    obtain ⟨σ', H', I', q⟩ := q
    exact h2 pins s1 σ' H' D I' q
  | ret v => exact q
  | brk => exact q
  | cont => exact q
theorem pss_one (h1 : PS X st t) : PSs X [st] t := by
  intro pins s σ H D I h
  refine wpAny_execs_cons (thn (h1 pins s σ H D I h) fun f s1 q => ?_)
  cases f with
  | next => exact wpAny_execs_nil q
  | ret v => exact q
  | brk => exact q
  | cont => exact q
theorem Inv.quiet {pins : List (Addr × Obj)} {σ : St} {H : Hp} {s : Shared} (I : Inv X pins σ H s) : interactive X.env = false := by simp [interactive, I.ok.kind]
def tDrop (te : TE) : TS := fun D σ H => te σ H fun _ H1 => D.nx σ H1
theorem ps_expr (he : PE X e te) (hs : swapsWith e none pos.line X.env = pure false := by rfl) : PS X (.Expr e pos) (tDrop te) := by
  intro pins s σ H D I h
  exact wpAny_Expr_any (thn (he pins s σ H _ I h) fun v s1 ⟨x, H1, I1, r1, q1⟩ => ⟨σ, H1, I1, q1⟩) I.quiet hs
def tRet (te : TE) : TS := fun D σ H => te σ H D.rt
theorem ps_ret (he : PE X e te) : PS X (.Return (some e) pos) (tRet te) := by
  intro pins s σ H D I h
  exact wpAny_Return_some (thn (he pins s σ H _ I h) fun v s1 ⟨x, H1, I1, r1, q1⟩ => ⟨x, σ, H1, I1, r1, q1⟩)
def tIfS (c : TT) (t u : TS) : TS := fun D σ H => c σ H fun b H1 => if b = true then t D σ H1 else u D σ H1
theorem ps_if {c : Expr} {a b : List Stmt} {tc : TT} (hc : PT X c tc) (ha : PSs X a t) (hb : PSs X b u) : PS X (.If c a b pos) (tIfS tc t u) := by
  intro pins s σ H D I h
  refine wpAny_If (thn (hc pins s σ H _ I h) fun d s1 ⟨H1, I1, q1⟩ => ?_)
  cases d with
  | true => exact ha pins s1 σ H1 D I1 q1
  | false => exact hb pins s1 σ H1 D I1 q1
end
abbrev TG := V → St → Hp → (St → Hp → Prop) → Prop
abbrev TGs := List V → St → Hp → (St → Hp → Prop) → Prop
def PG (X : Cx) (target : Expr) (t : TG) : Prop :=
  ∀ (pins : List (Addr × Obj)) (s : Shared) (σ : St) (H : Hp) (v : V) (u : Value) (Q : St → Hp → Prop), Inv X pins σ H s → RelV v u → t v σ H Q →
    wpAny (model X.prog X.w) X.A (assign target X.env u) (fun _ s' => ∃ σ' H', Inv X pins σ' H' s' ∧ Q σ' H') X.xe s
def PGs (X : Cx) (ts : List Expr) (t : TGs) : Prop :=
  ∀ (pins : List (Addr × Obj)) (s : Shared) (σ : St) (H : Hp) (vs : List V) (us : List Value) (Q : St → Hp → Prop), Inv X pins σ H s → Vals vs us → t vs σ H Q →
    wpAny (model X.prog X.w) X.A (assignInOrder ((assignEach ts X.env).map (·.2)) us) (fun _ s' => ∃ σ' H', Inv X pins σ' H' s' ∧ Q σ' H') X.xe s
abbrev TSet := V → V → V → Hp → (Hp → Prop) → Prop
def PSet (X : Cx) (t : TSet) : Prop :=
  ∀ (pins : List (Addr × Obj)) (s : Shared) (σ : St) (H : Hp) (o i v : V) (ov iv u : Value) (Q : Hp → Prop), Inv X pins σ H s → RelV o ov → RelV i iv → RelV v u → t o i v H Q →
    wpAny (model X.prog X.w) X.A (setItem ov iv u) (fun _ s' => ∃ H', Inv X pins σ H' s' ∧ Q H') X.xe s
abbrev TIp := V → V → Hp → VK → Prop
def PIp (X : Cx) (op : Operator) (t : TIp) : Prop :=
  ∀ (pins : List (Addr × Obj)) (s : Shared) (σ : St) (H : Hp) (x y : V) (v u : Value) (Q : VK), Inv X pins σ H s → RelV x v → RelV y u → t x y H Q →
    wpAny (model X.prog X.w) X.A (inplaceOp op v u) (EP X pins σ Q) X.xe s
section
variable {X : Cx} {pos : Pos}
def gName (i : Nat) : TG := fun v σ H Q => Q (σ.set i (some v)) H
theorem pg_name {i : Nat} {x : Str} (hN : X.N.Nodup) (hi : X.N[i]? = some x) (hx : Loc X.env.scope x) (hf : X.fn x = true ∨ X.env.scope.names.lookup x = some .local := by first | exact .inl rfl | exact .inr rfl | assumption) : PG X (.Name x pos) (gName i) := by
  intro pins s σ H v u Q I r h
  exact wpAny_assign_Name (store_ok I hN hi hx r (fun s' I' => ⟨_, H, I', h⟩) hf)
def gNil : TGs := fun vs σ H Q => vs = [] ∧ Q σ H
def gCons (t : TG) (u : TGs) : TGs := fun vs σ H Q => ∃ v r, vs = v :: r ∧ t v σ H fun σ' H' => u r σ' H' Q
theorem pgs_nil : PGs X [] gNil := by
  intro pins s σ H vs us Q I r h
  obtain ⟨e, h⟩ := h
  subst e
  cases r
  exact assignInOrder_nil ⟨σ, H, I, h⟩
theorem pgs_cons {e : Expr} {es : List Expr} {t : TG} {u : TGs} (h1 : PG X e t) (h2 : PGs X es u)
    (hs : (assignEach (e :: es) X.env).map (·.2) = assign e X.env :: (assignEach es X.env).map (·.2) := by rfl) : PGs X (e :: es) (gCons t u) := by
  intro pins s σ H vs us Q I r h
  obtain ⟨v, vr, e1, h⟩ := h
  subst e1
  cases r with
  | cons r rr =>
    rw [hs]
    refine assignInOrder_cons (thn (h1 pins s σ H _ _ _ I r h) fun _ s1 ⟨σ1, H1, I1, q1⟩ => ?_)
    exact h2 pins s1 σ1 H1 _ _ Q I1 rr q1
def gTup (K : PySem.W.Frag) (n : Nat) (t : TGs) : TG := fun v σ H Q => ∃ a xs, v = .ref a ∧ SqT K H a xs ∧ xs.length = n ∧ t xs σ H Q
theorem pg_tup {es : List Expr} {k : Nat} {t : TGs} {n : Nat} (hc : X.calm = true) (h : PGs X es t)
    (hn : (assignEach es X.env).length = n := by rfl) (hst : (assignEach es X.env).findIdx? (·.1) = none := by rfl) : PG X (.Tuple es k pos) (gTup X.K n t) := by
  intro pins s σ H v u Q I r hw
  obtain ⟨a, xs, e1, hq, hl, hw⟩ := hw
  subst e1
  cases r
  obtain ⟨its, rv, ht, hz⟩ := I.tuple hq
  refine assign_Tuple_tuple (I.ok.hd hc) ht (by simp [hn, ← hl, rv.length]) hst fun h' hx => ?_
  have I1 : Inv X pins σ H { s with heap := h' } := I.kept (t' := s.toks) fun b o e => hx b o (Nat.ne_of_lt (Heap.lt_size e)) e
  exact h pins _ σ H xs _ Q I1 (by simpa using rv) hw
def gSub (to ti : TE) (t : TSet) : TG := fun v σ H Q => to σ H fun o H1 => ti σ H1 fun i H2 => t o i v H2 fun H3 => Q σ H3
theorem pg_sub {o i : Expr} {to ti : TE} {t : TSet} (ho : PE X o to) (hi : PE X i ti) (hs : PSet X t)
    (ha : ∀ v, assign (.Subscript o i pos) X.env v = (do
      let ov ← holding [v] (eval o X.env)
      let iv ← holding [v, ov] (eval i X.env)
      standAt pos
      holding [v, ov, iv] (setItem ov iv v)
      release [v, ov, iv] []) := by intro _; rfl) : PG X (.Subscript o i pos) (gSub to ti t) := by
  intro pins s σ H v u Q I r h
  rw [ha]
  refine wpAny_bind (wpAny_holding (thn (ho pins s σ H _ I h) fun ov s1 ⟨x, H1, I1, r1, q1⟩ => ?_))
  refine wpAny_bind (wpAny_holding (thn (hi pins s1 σ H1 _ I1 q1) fun iv s2 ⟨y, H2, I2, r2, q2⟩ => ?_))
  refine wpAny_bind (wpAny_standAt (wpAny_bind (wpAny_holding (thn (hs pins s2 σ H2 x y v ov iv u _ I2 r1 r2 r q2) fun _ s3 ⟨H3, I3, q3⟩ => ?_))))
  exact wpAny_release ⟨σ, H3, I3, q3⟩
def tAsg (te : TE) (g : TG) : TS := fun D σ H => te σ H fun x H1 => g x σ H1 D.nx
theorem ps_asg {tg e : Expr} {te : TE} {g : TG} (he : PE X e te) (hg : PG X tg g) (hs : swapsWithSole [tg] e pos.line X.env = pure false := by rfl) (hw : swappedStores [tg] e X.env = pure none := by rfl)
    (h1 : (assignEach [tg] X.env).map (·.2) = [assign tg X.env] := by rfl) : PS X (.Assign [tg] e pos) (tAsg te g) := by
  intro pins s σ H D I h
  refine wpAny_Assign_stores (thn (he pins s σ H _ I h) fun v s1 ⟨x, H1, I1, r1, q1⟩ => ?_) hs hw
  rw [h1]
  exact thn (hg pins s1 σ H1 x v _ I1 r1 q1) fun _ s2 q => q
theorem ps_set {i : Nat} {x : Str} {e : Expr} {te : TE} {pos' : Pos} (hN : X.N.Nodup) (hi : X.N[i]? = some x) (hx : Loc X.env.scope x) (he : PE X e te) (hs : swapsWith e (some (.Name x pos')) pos.line X.env = pure false := by rfl) (hf : X.fn x = true ∨ X.env.scope.names.lookup x = some .local := by first | exact .inl rfl | exact .inr rfl | assumption) :
    PS X (.Assign [.Name x pos'] e pos) (tAsg te (gName i)) := by
  intro pins s σ H D I h
  refine wpAny_Assign_Name (thn (he pins s σ H _ I h) fun v s1 ⟨y, H1, I1, r1, q1⟩ => ?_) hs
  exact store_ok I1 hN hi hx r1 (fun s2 I2 => ⟨_, H1, I2, q1⟩) hf
def tAug (i : Nat) (te : TE) (ti : TIp) : TS := fun D σ H => ∃ x, σ[i]? = some (some x) ∧ te σ H fun y H1 => ti x y H1 fun z H2 => D.nx (σ.set i (some z)) H2
theorem ps_aug {i : Nat} {x : Str} {e : Expr} {te : TE} {op : Operator} {ti : TIp} {pos' : Pos} (hN : X.N.Nodup) (hi : X.N[i]? = some x) (hx : Loc X.env.scope x) (he : PE X e te) (ho : PIp X op ti) (hf : X.fn x = true ∨ X.env.scope.names.lookup x = some .local := by first | exact .inl rfl | exact .inr rfl | assumption) :
    PS X (.AugAssign (.Name x pos') op e pos) (tAug i te ti) := by
  intro pins s σ H D I h
  obtain ⟨v, e1, h⟩ := h
  obtain ⟨m, hn, hl⟩ := I.loc
  have vis : Vis X.env.scope x := by rcases hx with k | k; exact .inl k; exact .inr (.inl k)
  obtain ⟨u, r, l⟩ := hl i x v hi e1 vis
  refine wpAny_AugAssign_Name ?_
  have go : wpAny (model X.prog X.w) X.A (eval e X.env) (fun w s₂ => wpAny (model X.prog X.w) X.A (inplaceOp op u w) (fun r s₃ => wpAny (model X.prog X.w) X.A (storeName X.env x r) (fun _ => SP X pins D .next) X.xe s₃) X.xe s₂) X.xe s := by
    refine thn (he pins s σ H _ I h) fun w s1 ⟨y, H1, I1, r1, q1⟩ => ?_
    refine thn (ho pins s1 σ H1 v y u w _ I1 r r1 q1) fun z s2 ⟨zv, H2, I2, r2, q2⟩ => ?_
    exact store_ok I2 hN hi hx r2 (fun s3 I3 => ⟨_, H2, I3, q2⟩) hf
  rcases l with ⟨hk, hm⟩ | ⟨hk, c, hc, hcell⟩
  · exact wpAny_loadName_local I.ok.kind hk hn hm go
  · rcases hk with hk | hk
    · exact wpAny_loadName_cell I.ok.kind hk hc hcell go
    · rcases hx with k | k
      · have : X.env.scope.names.lookup x = some .free := hk
        rw [k] at this; cases this
      · have : X.env.scope.names.lookup x = some .free := hk
        rw [k] at this; cases this
def ipI (f : Int → Int → Int) : TIp := fun x y H Q => ∃ i j, x = .int i ∧ y = .int j ∧ Q (.int (f i j)) H
theorem ip_add : PIp X .Add (ipI fun i j => i + j) := by
  intro pins s σ H x y v u Q I r1 r2 h
  obtain ⟨i, j, e1, e2, q⟩ := h
  subst e1; subst e2
  obtain ⟨t, rfl⟩ := r1
  obtain ⟨t', rfl⟩ := r2
  exact iadd_int ⟨.int _, H, I.tok _, ⟨_, rfl⟩, q⟩
end
section
variable {X : Cx} {pos : Pos}
def tWhile (c : TT) (tb : TS) : TS := fun D σ H => ∃ W : Nat → St → Hp → Prop, (∃ m, W m σ H) ∧ ∀ m σ H, W m σ H →
  c σ H fun b H1 => if b = true then ∃ N : St → Hp → Prop, (∀ σ' H', N σ' H' → ∃ m', m' < m ∧ W m' σ' H') ∧ tb { D with nx := N, ct := N, bk := D.nx } σ H1 else D.nx σ H1
theorem ps_while {c : Expr} {body : List Stmt} {tc : TT} {tb : TS} (hp : PassesOwn (model X.prog X.w) X.A X.env X.xe) (hc : PT X c tc) (hb : PSs X body tb) : PS X (.While c body [] pos) (tWhile tc tb) := by
  intro pins s σ H D I h
  obtain ⟨W, ⟨m0, w0⟩, turn⟩ := h
  refine wpAny_While (codeAny_whileLoop (fun n s' => ∃ σ' H', Inv X pins σ' H' s' ∧ W n σ' H') ?_ m0 ⟨σ, H, I, w0⟩)
  rintro n s1 ⟨σ1, H1, I1, w1⟩
  refine wpAny_passesOwn hp (thn (hc pins s1 σ1 H1 _ I1 (turn n σ1 H1 w1)) fun b s2 ⟨H2, I2, q2⟩ => ?_)
  cases b with
  | true =>
    obtain ⟨N, hN, q2⟩ := q2
    rw [if_pos rfl]
    refine wpAny_passesOwn hp (thn (hb pins s2 σ1 H2 _ I2 q2) fun f s3 q3 => ?_)
    cases f with
    | next =>
      obtain ⟨σ3, H3, I3, n3⟩ := q3
      obtain ⟨m', hm, w3⟩ := hN σ3 H3 n3
      exact ⟨m', hm, σ3, H3, I3, w3⟩
    | cont =>
      obtain ⟨σ3, H3, I3, n3⟩ := q3
      obtain ⟨m', hm, w3⟩ := hN σ3 H3 n3
      exact ⟨m', hm, σ3, H3, I3, w3⟩
    | brk => exact q3
    | ret v => exact q3
  | false =>
    rw [if_neg Bool.false_ne_true]
    exact wpAny_execs_nil ⟨σ1, H2, I2, q2⟩
end
structure It where
  go : Nat → Hp → Prop
  yld : Nat → Hp → V → Hp → Prop
  stop : Nat → Hp → Prop
def FpOk (X : Cx) (pins : List (Addr × Obj)) (H : Hp) (b : Addr) : Prop :=
  H b = none ∧ b ≠ X.env.locals ∧ b ∉ X.fs ∧ (b ∈ X.ex ∨ X.s₀.heap.objs.size ≤ b) ∧ (∀ x c, X.env.cells.lookup x = some c → c ≠ b) ∧ ∀ p ∈ X.pn ++ pins, p.1 ≠ b
theorem Inv.fpOk {X : Cx} {pins : List (Addr × Obj)} {σ : St} {H H' : Hp} {s : Shared} {b : Addr} (I : Inv X pins σ H s) (hb : s.heap.objs.size ≤ b) (hn : H' b = none) : FpOk X pins H' b := by
  refine ⟨hn, Nat.ne_of_gt (Nat.lt_of_lt_of_le I.lt hb), I.nofs hb, .inr (Nat.le_trans I.sz hb), fun x c e z => ?_, fun p hp z => ?_⟩
  · obtain ⟨v, q⟩ := I.cell x c e
    exact absurd (Nat.lt_of_lt_of_le q.lt (by rw [z]; exact hb)) (Nat.lt_irrefl _)
  · exact absurd (Nat.lt_of_lt_of_le (Heap.lt_size (I.pin p hp).1) (by rw [z]; exact hb)) (Nat.lt_irrefl _)
structure Turn (P : Program) (w : World) (K : PySem.W.Frag) (tg : Expr) (J : It) (fp : List Addr) (it : Addr) (tn : Nat → Heap → Prop) : Prop where
  mem : it ∈ fp
  obj : ∀ i h, tn i h → ∀ b ∈ fp, ∃ o, h.get? b = some o ∧ ∀ v, o.data ≠ .cell v
  keep : ∀ i h h', tn i h → (∀ b ∈ fp, ∀ o, h.get? b = some o → h'.get? b = some o) → tn i h'
  item : ∀ (X : Cx), X.prog = P → X.w = w → X.K = K → X.calm = true → ∀ (i : Nat) (pins : List (Addr × Obj)) (s : Shared) (σ : St) (H : Hp) (E : Value → Shared → Prop), Inv X pins σ H s → (∀ b ∈ fp, FpOk X pins H b) → tn i s.heap → J.go i H →
    wpAny (model P w) X.A (pyNext (.ref it)) (fun r s1 => ∃ u, r = some u ∧
      wpAny (model P w) X.A (letOwnedTupleGo tg (.ref it) u) (fun _ s2 => ∃ x H', Inv X pins σ H' s2 ∧ RelV x u ∧ J.yld i H x H' ∧ tn (i + 1) s2.heap ∧ ∀ b ∈ fp, H' b = none) E s1) E s
  done : ∀ (X : Cx), X.prog = P → X.w = w → X.K = K → X.calm = true → ∀ (i : Nat) (pins : List (Addr × Obj)) (s : Shared) (σ : St) (H : Hp) (E : Value → Shared → Prop), Inv X pins σ H s → (∀ b ∈ fp, FpOk X pins H b) → tn i s.heap → J.stop i H →
    wpAny (model P w) X.A (pyNext (.ref it)) (fun r s1 => r = none ∧ Inv X pins σ H s1) E s
  self : ∀ (A : Around) (i : Nat) (s : Shared) (Q : Value → Shared → Prop) (E : Value → Shared → Prop), tn i s.heap → Q (.ref it) s → wpAny (model P w) A (pyIter (.ref it)) Q E s
abbrev TI := St → Hp → (It → Hp → Prop) → Prop
def PIE (X : Cx) (pins : List (Addr × Obj)) (σ : St) (tg : Expr) (R : It → Hp → Prop) (itv : Value) (s2 : Shared) : Prop :=
  ∃ (it : Addr) (fp : List Addr) (tn : Nat → Heap → Prop) (J : It) (H' : Hp), itv = .ref it ∧ Inv X pins σ H' s2 ∧ Turn X.prog X.w X.K tg J fp it tn ∧ tn 0 s2.heap ∧ (∀ b ∈ fp, FpOk X pins H' b) ∧ R J H'
def PI (X : Cx) (tg iter : Expr) (wi : TI) : Prop :=
  ∀ (pins : List (Addr × Obj)) (s : Shared) (σ : St) (H : Hp) (R : It → Hp → Prop), Inv X pins σ H s → wi σ H R →
    wpAny (model X.prog X.w) X.A (eval iter X.env) (fun v s1 => wpAny (model X.prog X.w) X.A (pyIter v) (PIE X pins σ tg R) X.xe s1) X.xe s
theorem go_of {M : Model} {A : Around} {E : Value → Shared → Prop} {s : Shared} {tg : Expr} {it : Addr} {u : Value} {o : Obj} {n : String} {vs : Array Value} {Q : Unit → Shared → Prop} (ho : s.heap.get? it = some o) (hc : o.cls = .type n) (hd : o.data = .fields vs)
    (hn : ["enumerate", "zip", "dict_itemiterator", "dict_reverseitemiterator", "odict_iterator", "itertools.zip_longest", "itertools.pairwise"].contains n = false) (hQ : Q () s) : wpAny M A (letOwnedTupleGo tg (.ref it) u) Q E s := by
  unfold letOwnedTupleGo
  cases tg <;> first
    | exact wpAny_pure hQ
    | (cases u <;> first
        | exact wpAny_pure hQ
        | (refine wpAny_bind (wpAny_load ho ?_)
           rw [hc, hd]
           show wpAny M A (if (["enumerate", "zip", "dict_itemiterator", "dict_reverseitemiterator", "odict_iterator", "itertools.zip_longest", "itertools.pairwise"].contains n && vs[0]? == some (rawInt _)) = true then _ else _) Q E s
           rw [if_neg (by intro h; rw [hn, Bool.false_and] at h; cases h)]
           exact wpAny_pure hQ))
def Itl (K : PySem.W.Frag) (a : Addr) : It :=
  ⟨fun i H => ∃ xs x, SqL K H a xs ∧ xs[i]? = some x, fun i H x H' => H' = H ∧ ∀ xs, SqL K H a xs → xs[i]? = some x, fun i H => ∃ xs, SqL K H a xs ∧ xs.length ≤ i⟩
def Itr (lo : Int) (n : Nat) : It := ⟨fun i _ => i < n, fun i H x H' => H' = H ∧ x = .int (lo + i), fun i _ => n ≤ i⟩
theorem turn_list {P : Program} {w : World} {K : PySem.W.Frag} {tg : Expr} (a it : Addr) : Turn P w K tg (Itl K a) [it] it (fun i h => h.IsListIter it a i) where
  mem := by simp
  obj := fun i h st b hb => by
    have e : b = it := by simpa using hb
    subst e
    obtain ⟨o, e, c, d⟩ := st
    exact ⟨o, e, fun v z => by rw [d] at z; cases z⟩
  keep := fun i h h' st k => st.at fun o e => k it (by simp) o e
  item := by
    intro X hP hw hK hc i pins s σ H E I hf st hg
    subst hP hw hK
    obtain ⟨xs, x, hq, hx⟩ := hg
    obtain ⟨its, rv, p, hz⟩ := I.list hq
    obtain ⟨u, hu, ru⟩ := rv.get hx
    obtain ⟨f0, f1, f2, f3, f4, f5⟩ := hf it (by simp)
    refine wpAny_pyNext_list_item st p.isList (x := u) (by simpa using hu) fun h' st' sb => ?_
    have I1 : Inv X pins σ H { s with heap := h' } := I.turned (t' := s.toks) (fun b o hb e => (sb.2 b hb).trans e) f0 f1 f3 f4 f5
    obtain ⟨o, e, c, d⟩ := id st'
    exact ⟨u, rfl, go_of (s := { s with heap := h' }) e c d (by decide) ⟨x, H, I1, ru, ⟨rfl, fun ys hy => by rw [I.list_inj hy hq]; exact hx⟩, st', fun b hb => (hf b hb).1⟩⟩
  done := by
    intro X hP hw hK hc i pins s σ H E I hf st hg
    subst hP hw hK
    obtain ⟨xs, hq, hx⟩ := hg
    obtain ⟨its, rv, p, hz⟩ := I.list hq
    obtain ⟨f0, f1, f2, f3, f4, f5⟩ := hf it (by simp)
    have hl := rv.length
    exact wpAny_pyNext_list_end (I.ok.hd hc) st p.isList (by simp; omega) fun h' eb => ⟨rfl, I.turned (t' := s.toks) (fun b o hb e => eb b o hb e) f0 f1 f3 f4 f5⟩
  self := fun _ _ _ _ _ st h => wpAny_pyIter_listiter st h
theorem turn_range {P : Program} {w : World} {K : PySem.W.Frag} {tg : Expr} (it : Addr) (lo : Int) (n : Nat) : Turn P w K tg (Itr lo n) [it] it (fun i h => IsRangeIter h it (lo + (i : Nat) * 1) ((n : Int) - (i : Nat)) 1) where
  mem := by simp
  obj := fun i h st b hb => by
    have e : b = it := by simpa using hb
    subst e
    exact ⟨_, st, fun v z => by
      have z' : Data.fields _ = Data.cell v := z
      cases z'⟩
  keep := fun i h h' st k => k it (by simp) _ st
  item := by
    intro X hP hw hK hc i pins s σ H E I hf st hg
    subst hP hw hK
    obtain ⟨f0, f1, f2, f3, f4, f5⟩ := hf it (by simp)
    have W := Walks.range (prog := X.prog) (w := X.w) (I.ok.hd hc) it lo 1 n
    refine W.item i s _ _ hg st fun v h' tk hv st' kk => ?_
    obtain ⟨t, rfl⟩ := hv
    have I1 : Inv X pins σ H { s with heap := h', toks := tk } := I.turned (fun b o hb e => kk b o (by simpa using hb) e) f0 f1 f3 f4 f5
    refine ⟨_, rfl, go_of (s := { s with heap := h', toks := tk }) (n := "range_iterator") st' rfl rfl (by decide) ⟨.int (lo + i), H, I1, ⟨t, ?_⟩, ⟨rfl, rfl⟩, st', fun b hb => (hf b hb).1⟩⟩
    rw [Int.mul_one]
  done := by
    intro X hP hw hK hc i pins s σ H E I hf st hg
    subst hP hw hK
    obtain ⟨f0, f1, f2, f3, f4, f5⟩ := hf it (by simp)
    exact wpAny_pyNext_range_end (I.ok.hd hc) st (by have : n ≤ i := hg; omega) fun h' eb => ⟨rfl, I.turned (t' := s.toks) (fun b o hb e => eb b o hb e) f0 f1 f3 f4 f5⟩
  self := fun _ _ _ _ _ st h => wpAny_pyIter_rangeiter st h
end L2
namespace L2
open PySem PySem.Spec PyProof.Rows
section
variable {X : Cx} {tg : Expr}
def iList (K : PySem.W.Frag) (tl : TE) : TI := fun σ H R => tl σ H fun x H1 => ∃ a, x = .ref a ∧ (∃ xs, SqL K H1 a xs) ∧ R (Itl K a) H1
theorem pi_list {l : Expr} {tl : TE} (hl : PE X l tl) : PI X tg l (iList X.K tl) := by
  intro pins s σ H R I h
  refine thn (hl pins s σ H _ I h) fun v s1 ⟨x, H1, I1, r1, q1⟩ => ?_
  obtain ⟨a, e, ⟨xs, hq⟩, q⟩ := q1
  subst e
  cases r1
  obtain ⟨its, rv, p, hz⟩ := I1.list hq
  refine wpAny_pyIter_list p.isList ?_
  refine ⟨s1.heap.objs.size, [s1.heap.objs.size], _, _, H1, rfl, I1.kept (t' := s1.toks) fun b o e => Heap.get?_push_of_some _ e, turn_list a _, ⟨_, Heap.get?_push_size _ rfl, rfl, rfl⟩, fun b hb => ?_, q⟩
  have e : b = s1.heap.objs.size := by simpa using hb
  subst e
  exact I1.fpOk (Nat.le_refl _) (I1.hok.fresh (Nat.le_refl _))
theorem range_it {pins : List (Addr × Obj)} {σ : St} {H : Hp} {s : Shared} {R : It → Hp → Prop} {E : Value → Shared → Prop} {lo hi : Int} {t u v : Tok} {tk : Nat} (I : Inv X pins σ H s) (h1 : -(2 ^ 62) ≤ lo) (h2 : lo < 2 ^ 62) (h3 : -(2 ^ 62) ≤ hi) (h4 : hi < 2 ^ 62)
    (q : R (Itr lo (hi - lo).toNat) H) : wpAny (model X.prog X.w) X.A (pyIter (.ref s.heap.objs.size)) (PIE X pins σ tg R) E { s with heap := s.heap.push { cls := .type "range", data := .fields #[.int lo t, .int hi u, .int 1 v] }, toks := tk } := by
  refine wpAny_pyIter_range (IsRange.new ..) (small_one h1 h2 h3 h4) ?_
  have I1 : Inv X pins σ H { s with heap := s.heap.push { cls := .type "range", data := .fields #[.int lo t, .int hi u, .int 1 v] }, toks := tk } := I.kept fun b o e => Heap.get?_push_of_some _ e
  refine ⟨(s.heap.push { cls := .type "range", data := .fields #[.int lo t, .int hi u, .int 1 v] }).objs.size, [(s.heap.push { cls := .type "range", data := .fields #[.int lo t, .int hi u, .int 1 v] }).objs.size], _, _, H, rfl,
    I1.kept (t' := tk) fun b o e => Heap.get?_push_of_some _ e, turn_range _ lo (hi - lo).toNat, ?_, fun b hb => ?_, q⟩
  · have e1 : lo + ((0 : Nat) : Int) * 1 = lo := by simp
    have e2 : (((hi - lo).toNat : Nat) : Int) - ((0 : Nat) : Int) = Builtin.Range.rangeSize lo hi 1 := by rw [rangeSize_one]; split <;> omega
    show IsRangeIter _ _ (lo + ((0 : Nat) : Int) * 1) ((((hi - lo).toNat : Nat) : Int) - ((0 : Nat) : Int)) 1
    rw [e1, e2]
    exact Heap.get?_push_size _ rfl
  · have e : b = (s.heap.push { cls := .type "range", data := .fields #[.int lo t, .int hi u, .int 1 v] }).objs.size := by simpa using hb
    subst e
    exact I1.fpOk (Nat.le_refl _) (I1.hok.fresh (Nat.le_refl _))
def iRng1 (ta : TA) : TI := fun σ H R => ta σ H fun vs H1 => ∃ j : Int, vs = [.int j] ∧ -(2 ^ 62) ≤ j ∧ j < 2 ^ 62 ∧ R (Itr 0 j.toNat) H1
theorem pi_range1 {a : Expr} {ta : TA} {p pos : Pos} (hg : Gl X "range") (hm : X.mg "range" = none) (ha : PA X [a] ta) (hs : starEach [a] X.env = [(false, eval a X.env)] := by rfl) : PI X tg (.Call (.Name "range" p) [a] [] pos) (iRng1 ta) := by
  intro pins s σ H R I h
  refine Call_ (ld_blt I hg hm boot_range (PyProof.Rows.callWith_type1 (thn (ha pos pins s σ H _ I h) fun us s1 ⟨vs, H1, I1, r1, q1⟩ => ?_) hs rfl))
  obtain ⟨j, e, q1, q2, q⟩ := q1
  subst e
  cases r1 with
  | cons r rr =>
    cases rr
    obtain ⟨t, rfl⟩ := r
    exact call_range_1 (range_it I1 (by omega) (by omega) q1 q2 (by simpa using q))
def tFor (wi : TI) (g : TG) (tb : TS) : TS := fun D σ H => wi σ H fun J H1 => ∃ W : Nat → Nat → St → Hp → Prop, (∃ m, W 0 m σ H1) ∧ ∀ i m σ H, W i m σ H →
  (J.stop i H ∧ D.nx σ H) ∨ (J.go i H ∧ ∃ N : St → Hp → Prop, (∀ σ' H', N σ' H' → ∃ m', m' < m ∧ W (i + 1) m' σ' H') ∧ ∀ x H', J.yld i H x H' → g x σ H' fun σ2 H2 => tb { D with nx := N, ct := N, bk := D.nx } σ2 H2)
def pinsAt (fp : List Addr) (h : Heap) : List (Addr × Obj) := fp.filterMap fun b => (h.get? b).map fun o => (b, o)
theorem mem_pinsAt {fp : List Addr} {h : Heap} {b : Addr} {o : Obj} (hb : b ∈ fp) (e : h.get? b = some o) : (b, o) ∈ pinsAt fp h := List.mem_filterMap.mpr ⟨b, hb, by rw [e]; rfl⟩
theorem of_pinsAt {fp : List Addr} {h : Heap} {p : Addr × Obj} (hp : p ∈ pinsAt fp h) : p.1 ∈ fp ∧ h.get? p.1 = some p.2 := by
  obtain ⟨b, hb, e⟩ := List.mem_filterMap.mp hp
  cases q : h.get? b with
  | none => rw [q] at e; cases e
  | some o =>
    rw [q] at e
    have e' : (b, o) = p := Option.some.inj e
    subst e'
    exact ⟨hb, q⟩
theorem Inv.pinned {pins : List (Addr × Obj)} {σ : St} {H : Hp} {s : Shared} {fp : List Addr} (I : Inv X pins σ H s) (hf : ∀ b ∈ fp, FpOk X pins H b) (ho : ∀ b ∈ fp, ∃ o, s.heap.get? b = some o ∧ ∀ v, o.data ≠ .cell v) : Inv X (pins ++ pinsAt fp s.heap) σ H s :=
  I.pins_of fun p hp => (List.mem_append.mp hp).elim (fun z => I.pin p (List.mem_append_right _ z)) fun z => by
    obtain ⟨hb, e⟩ := of_pinsAt z
    obtain ⟨f0, f1, f2, _⟩ := hf p.1 hb
    obtain ⟨o, e', d⟩ := ho p.1 hb
    rw [e] at e'; cases e'
    exact ⟨e, f0, f1, f2, d⟩
theorem Inv.unpinned {pins pl : List (Addr × Obj)} {σ : St} {H : Hp} {s : Shared} (I : Inv X (pins ++ pl) σ H s) : Inv X pins σ H s := I.pins_of fun p hp => I.pin p (List.mem_append_right _ (List.mem_append_left _ hp))
theorem ps_for {iter : Expr} {body : List Stmt} {wi : TI} {g : TG} {tb : TS} {pos : Pos} (hp : PassesOwn (model X.prog X.w) X.A X.env X.xe) (hc : X.calm = true) (hi : PI X tg iter wi) (hg : PG X tg g) (hb : PSs X body tb)
    (hs : ∀ x, foldedSetIterable iter X.env x = pure x := by intro _; rfl) : PS X (.For tg iter body [] pos) (tFor wi g tb) := by
  intro pins s σ H D I h
  refine wpAny_For (thn (hi pins s σ H _ I h) fun v s1 h1 => thn h1 fun itv s2 h2 => ?_) hs
  obtain ⟨it, fp, tn, J, H2, e, I2, T, st2, f2, W, ⟨m0, w0⟩, turn⟩ := h2
  subst e
  have stat : ∀ {H' : Hp}, (∀ b ∈ fp, H' b = none) → ∀ b ∈ fp, FpOk X pins H' b := fun hn b hb => ⟨hn b hb, (f2 b hb).2⟩
  refine codeAny_forLoop_any (fun n s' => ∃ i σ' H', Inv X pins σ' H' s' ∧ tn i s'.heap ∧ (∀ b ∈ fp, H' b = none) ∧ W i n σ' H') ?_ m0 ⟨0, σ, H2, I2, st2, fun b hb => (f2 b hb).1, w0⟩
  rintro n s3 ⟨i, σ3, H3, I3, st3, fr3, w3⟩
  rcases turn i n σ3 H3 w3 with ⟨stop, qn⟩ | ⟨go, N, hN, step⟩
  · refine wpAny_passesOwn hp (thn (T.done X rfl rfl rfl hc i pins s3 σ3 H3 X.xe I3 (stat fr3) st3 stop) fun r s4 ⟨hr, I4⟩ => ?_)
    subst hr
    exact wpAny_execs_nil ⟨σ3, H3, I4, qn⟩
  · refine wpAny_passesOwn hp (thn (T.item X rfl rfl rfl hc i pins s3 σ3 H3 X.xe I3 (stat fr3) st3 go) fun r s4 ⟨u, hr, h4⟩ => ?_)
    subst hr
    refine wpAny_passesOwn hp (thn h4 fun _ s5 ⟨x, H5, I5, r5, y5, st5, fr5⟩ => ?_)
    have I5' := I5.pinned (stat fr5) (T.obj _ _ st5)
    refine wpAny_passesOwn hp (thn (hg _ s5 σ3 H5 x u _ I5' r5 (step x H5 y5)) fun _ s6 ⟨σ6, H6, I6, q6⟩ => ?_)
    refine wpAny_passesOwn hp (thn (hb _ s6 σ6 H6 _ I6 q6) fun f s7 q7 => ?_)
    have again : ∀ {σ7 : St} {H7 : Hp}, Inv X (pins ++ pinsAt fp s5.heap) σ7 H7 s7 → N σ7 H7 → ∃ m, m < n ∧ ∃ i σ' H', Inv X pins σ' H' s7 ∧ tn i s7.heap ∧ (∀ b ∈ fp, H' b = none) ∧ W i m σ' H' := fun {σ7 H7} I7 n7 => by
      obtain ⟨m', hm, w7⟩ := hN σ7 H7 n7
      refine ⟨m', hm, i + 1, σ7, H7, I7.unpinned, T.keep _ _ _ st5 fun b hb o e => (I7.pin (b, o) (List.mem_append_right _ (List.mem_append_right _ (mem_pinsAt hb e)))).1, fun b hb => ?_, w7⟩
      obtain ⟨o, e, d⟩ := T.obj _ _ st5 b hb
      exact (I7.pin (b, o) (List.mem_append_right _ (List.mem_append_right _ (mem_pinsAt hb e)))).2.1
    cases f with
    | next => obtain ⟨σ7, H7, I7, n7⟩ := q7; exact again I7 n7
    | cont => obtain ⟨σ7, H7, I7, n7⟩ := q7; exact again I7 n7
    | brk => obtain ⟨σ7, H7, I7, q7⟩ := q7; exact ⟨σ7, H7, I7.unpinned, q7⟩
    | ret v => obtain ⟨x7, σ7, H7, I7, r7, q7⟩ := q7; exact ⟨x7, σ7, H7, I7.unpinned, r7, q7⟩
end
theorem for_list {K : PySem.W.Frag} {a : Addr} {xs : List V} {g : TG} {tb : TS} {D : Ends} {σ : St} {H : Hp} (Pv : Nat → St → Hp → Prop) (h0 : Pv 0 σ H) (hl : ∀ i σ H, i ≤ xs.length → Pv i σ H → SqL K H a xs)
    (hs : ∀ i x σ H, xs[i]? = some x → Pv i σ H → g x σ H fun σ2 H2 => tb { D with nx := Pv (i + 1), ct := Pv (i + 1), bk := D.nx } σ2 H2) (hd : ∀ σ H, Pv xs.length σ H → D.nx σ H) :
    ∃ W : Nat → Nat → St → Hp → Prop, (∃ m, W 0 m σ H) ∧ ∀ i m σ H, W i m σ H →
      ((Itl K a).stop i H ∧ D.nx σ H) ∨ ((Itl K a).go i H ∧ ∃ N : St → Hp → Prop, (∀ σ' H', N σ' H' → ∃ m', m' < m ∧ W (i + 1) m' σ' H') ∧ ∀ x H', (Itl K a).yld i H x H' → g x σ H' fun σ2 H2 => tb { D with nx := N, ct := N, bk := D.nx } σ2 H2) := by
  refine ⟨fun i m σ H => m = xs.length - i ∧ i ≤ xs.length ∧ Pv i σ H, ⟨xs.length, by simp, Nat.zero_le _, h0⟩, ?_⟩
  rintro i m σ H ⟨rfl, hi, p⟩
  have q := hl i σ H hi p
  by_cases hlt : i < xs.length
  · refine .inr ⟨⟨xs, xs[i], q, by simp [hlt]⟩, Pv (i + 1), fun σ' H' p' => ⟨xs.length - (i + 1), by omega, rfl, hlt, p'⟩, fun x H' y => ?_⟩
    obtain ⟨e, y⟩ := y
    subst e
    exact hs i x σ _ (y xs q) p
  · have e : i = xs.length := by omega
    subst e
    exact .inl ⟨⟨xs, q, Nat.le_refl _⟩, hd σ H p⟩
theorem for_range {lo : Int} {n : Nat} {g : TG} {tb : TS} {D : Ends} {σ : St} {H : Hp} (Pv : Nat → St → Hp → Prop) (h0 : Pv 0 σ H)
    (hs : ∀ i σ H, i < n → Pv i σ H → g (.int (lo + i)) σ H fun σ2 H2 => tb { D with nx := Pv (i + 1), ct := Pv (i + 1), bk := D.nx } σ2 H2) (hd : ∀ σ H, Pv n σ H → D.nx σ H) :
    ∃ W : Nat → Nat → St → Hp → Prop, (∃ m, W 0 m σ H) ∧ ∀ i m σ H, W i m σ H →
      ((Itr lo n).stop i H ∧ D.nx σ H) ∨ ((Itr lo n).go i H ∧ ∃ N : St → Hp → Prop, (∀ σ' H', N σ' H' → ∃ m', m' < m ∧ W (i + 1) m' σ' H') ∧ ∀ x H', (Itr lo n).yld i H x H' → g x σ H' fun σ2 H2 => tb { D with nx := N, ct := N, bk := D.nx } σ2 H2) := by
  refine ⟨fun i m σ H => m = n - i ∧ i ≤ n ∧ Pv i σ H, ⟨n, by simp, Nat.zero_le _, h0⟩, ?_⟩
  rintro i m σ H ⟨rfl, hi, p⟩
  by_cases hlt : i < n
  · refine .inr ⟨hlt, Pv (i + 1), fun σ' H' p' => ⟨n - (i + 1), by omega, rfl, hlt, p'⟩, fun x H' y => ?_⟩
    obtain ⟨e, y⟩ := y
    subst e y
    exact hs i σ _ hlt p
  · have e : i = n := by omega
    subst e
    exact .inl ⟨Nat.le_refl _, hd σ H p⟩
end L2
namespace L2
open PySem PySem.Spec PyProof.Rows
abbrev R2 := V → V → Hp → VK → Prop
def OpR (X : Cx) (f : Value → Value → Sem Value) (r : R2) : Prop :=
  ∀ (pins : List (Addr × Obj)) (s : Shared) (σ : St) (H : Hp) (x y : V) (v u : Value) (Q : VK), Inv X pins σ H s → RelV x v → RelV y u → r x y H Q →
    wpAny (model X.prog X.w) X.A (f v u) (EP X pins σ Q) X.xe s
def CallR (X : Cx) (f : Value) (r : List V → Hp → VK → Prop) : Prop :=
  ∀ (pins : List (Addr × Obj)) (s : Shared) (σ : St) (H : Hp) (xs : List V) (us : List Value) (Q : VK), Inv X pins σ H s → Vals xs us → r xs H Q →
    wpAny (model X.prog X.w) X.A (call f us) (EP X pins σ Q) X.xe s
def TruR (X : Cx) (r : V → Hp → (Bool → Hp → Prop) → Prop) : Prop :=
  ∀ (pins : List (Addr × Obj)) (s : Shared) (σ : St) (H : Hp) (x : V) (v : Value) (Q : Bool → Hp → Prop), Inv X pins σ H s → RelV x v → r x H Q →
    wpAny (model X.prog X.w) X.A (truthy v) (TP X pins σ Q) X.xe s
def tOp (r : R2) (ta tb : TE) : TE := fun σ H Q => ta σ H fun x H1 => tb σ H1 fun y H2 => r x y H2 Q
def rI (C : Int → Int → Prop) (g : Int → Int → V) : R2 := fun x y H Q => ∃ i j, x = .int i ∧ y = .int j ∧ C i j ∧ Q (g i j) H
def rI0 (g : Int → Int → V) : R2 := fun x y H Q => ∃ i j, x = .int i ∧ y = .int j ∧ Q (g i j) H
section
variable {X : Cx} {a b c : Expr} {ta tb tc : TE} {pos : Pos}
theorem binT (ha : PE X a ta) (hb : PE X b tb) {pins : List (Addr × Obj)} {s : Shared} {σ : St} {H : Hp} {R : V → V → Hp → Prop} (I : Inv X pins σ H s)
    (h : ta σ H fun x H1 => tb σ H1 fun y H2 => R x y H2) {Q : Value → Shared → Prop} {f : Value → Value → Sem Value}
    (hf : ∀ v u s2 x y H2, Inv X pins σ H2 s2 → RelV x v → RelV y u → R x y H2 → wpAny (model X.prog X.w) X.A (f v u) Q X.xe s2) :
    wpAny (model X.prog X.w) X.A (eval a X.env) (fun v s₁ => wpAny (model X.prog X.w) X.A (eval b X.env) (fun u s₂ => wpAny (model X.prog X.w) X.A (f v u) Q X.xe s₂) X.xe s₁) X.xe s := by
  refine thn (ha pins s σ H _ I h) fun v s1 ⟨x, H1, I1, r1, q1⟩ => ?_
  refine thn (hb pins s1 σ H1 _ I1 q1) fun u s2 ⟨y, H2, I2, r2, q2⟩ => ?_
  exact hf v u s2 x y H2 I2 r1 r2 q2
theorem pe_op {op : Operator} {r : R2} (ho : OpR X (binaryOp op) r) (ha : PE X a ta) (hb : PE X b tb) : PE X (.BinOp a op b pos) (tOp r ta tb) := by
  intro pins s σ H Q I h
  exact wpAny_BinOp (binT ha hb I h fun v u s2 x y H2 I2 rx ry q => ho pins s2 σ H2 x y v u Q I2 rx ry q)
theorem opI {f : Value → Value → Sem Value} {C : Int → Int → Prop} {g : Int → Int → Int}
    (rule : ∀ (i j : Int) (t u : Tok) (s : Shared) (Q : Value → Shared → Prop) (E : Value → Shared → Prop), C i j → Q (.int (g i j) s.toks) { s with toks := s.toks + 1 } → wpAny (model X.prog X.w) X.A (f (.int i t) (.int j u)) Q E s) :
    OpR X f (rI C fun i j => .int (g i j)) := by
  intro pins s σ H x y v u Q I rx ry h
  obtain ⟨i, j, rfl, rfl, hc, q⟩ := h
  obtain ⟨t, rfl⟩ := rx
  obtain ⟨t', rfl⟩ := ry
  exact rule i j t t' s _ _ hc ⟨.int (g i j), H, I.tok _, ⟨_, rfl⟩, q⟩
theorem opI0 {f : Value → Value → Sem Value} {g : Int → Int → Int}
    (rule : ∀ (i j : Int) (t u : Tok) (s : Shared) (Q : Value → Shared → Prop) (E : Value → Shared → Prop), Q (.int (g i j) s.toks) { s with toks := s.toks + 1 } → wpAny (model X.prog X.w) X.A (f (.int i t) (.int j u)) Q E s) :
    OpR X f (rI0 fun i j => .int (g i j)) := by
  intro pins s σ H x y v u Q I rx ry h
  obtain ⟨i, j, rfl, rfl, q⟩ := h
  obtain ⟨t, rfl⟩ := rx
  obtain ⟨t', rfl⟩ := ry
  exact rule i j t t' s _ _ ⟨.int (g i j), H, I.tok _, ⟨_, rfl⟩, q⟩
theorem opB0 {f : Value → Value → Sem Value} {g : Int → Int → Bool}
    (rule : ∀ (i j : Int) (t u : Tok) (s : Shared) (Q : Value → Shared → Prop) (E : Value → Shared → Prop), Q (.bool (g i j)) s → wpAny (model X.prog X.w) X.A (f (.int i t) (.int j u)) Q E s) :
    OpR X f (rI0 fun i j => .bl (g i j)) := by
  intro pins s σ H x y v u Q I rx ry h
  obtain ⟨i, j, rfl, rfl, q⟩ := h
  obtain ⟨t, rfl⟩ := rx
  obtain ⟨t', rfl⟩ := ry
  exact rule i j t t' s _ _ ⟨.bl (g i j), H, I, rfl, q⟩
def CDiv (i j : Int) : Prop := 0 < j ∧ j < 1073741824
def CMul (i j : Int) : Prop := (-(2 ^ 64) < i ∧ i < 2 ^ 64) ∨ (-(2 ^ 64) < j ∧ j < 2 ^ 64)
theorem CMul.ok {i j : Int} (h : CMul i j) : IntMulOk i j := by
  rcases h with ⟨h1, h2⟩ | ⟨h1, h2⟩
  · exact .of_left (intBits_le_64 h1 h2)
  · exact .of_right (intBits_le_64 h1 h2)
theorem op_add : OpR X (binaryOp .Add) (rI0 fun i j => .int (i + j)) := opI0 fun _ _ _ _ _ _ _ q => add_int q
theorem op_fdiv : OpR X (binaryOp .FloorDiv) (rI CDiv fun i j => .int (i / j)) := opI fun i j _ _ _ _ _ hc q => by
  have h1 : (0 : Int) < j := hc.1
  have h2 : j < 1073741824 := hc.2
  exact floordiv_int (by omega) (by rw [Int.fdiv_eq_ediv_of_nonneg i (by omega)]; exact q) (.inl (PyProof.noPylong_small (by omega)))
theorem op_mod : OpR X (binaryOp .Mod) (rI (fun _ j => 0 < j) fun i j => .int (i % j)) := opI fun i j _ _ _ _ _ hc q => by
  have h1 : (0 : Int) < j := hc
  exact mod_int' (by omega) (by rw [Int.fmod_eq_emod_of_nonneg i (by omega)]; exact q)
end
def scal : V → V → Bool
  | .non, .non => true | .non, .int _ => true | .int _, .non => true | .non, .bl _ => true | .bl _, .non => true | .non, .str _ => true | .str _, .non => true
  | .int _, .int _ => true | .bl _, .bl _ => true | .str _, .str _ => true | .byt _, .byt _ => true
  | .int _, .str _ => true | .str _, .int _ => true | .bl _, .str _ => true | .str _, .bl _ => true
  | _, _ => false
def rEq : R2 := fun x y H Q => scal x y = true ∧ Q (.bl (decide (x = y))) H
def rNe : R2 := fun x y H Q => scal x y = true ∧ Q (.bl (!decide (x = y))) H
theorem dec_int {i j : Int} : decide (V.int i = V.int j) = (i == j) := by
  rw [Bool.eq_iff_iff]
  simp
theorem dec_bl {i j : Bool} : decide (V.bl i = V.bl j) = (i == j) := by
  rw [Bool.eq_iff_iff]
  simp
theorem dec_str {i j : Str} : decide (V.str i = V.str j) = (i == j) := by
  rw [Bool.eq_iff_iff]
  simp
theorem dec_byt {i j : Array UInt8} : decide (V.byt i = V.byt j) = (i.toList == j.toList) := by
  rw [Bool.eq_iff_iff]
  cases i
  cases j
  simp
section
variable {X : Cx} {a b c : Expr} {ta tb tc : TE} {pos : Pos}
theorem fin_bl {pins : List (Addr × Obj)} {σ : St} {H : Hp} {s : Shared} {Q : VK} {k k' : Bool} (I : Inv X pins σ H s) (q : Q (.bl k) H) (e : k = k') : EP X pins σ Q (.bool k') s := by
  subst e
  exact ⟨.bl k, H, I, rfl, q⟩
theorem op_eq : OpR X (compareOp .Eq) rEq := by
  intro pins s σ H x y v u Q I rx ry h
  obtain ⟨hs, q⟩ := h
  cases x with
  | non =>
    cases rx
    cases y with
    | non => cases ry; exact PySem.EqNone.eq_none_none (fin_bl I q (by simp))
    | bl j => cases ry; exact PySem.EqNone.eq_none_bool (fin_bl I q (by simp))
    | int j => obtain ⟨t', rfl⟩ := ry; exact PySem.EqNone.eq_none_int (fin_bl I q (by simp))
    | str j => obtain ⟨t', rfl⟩ := ry; exact PySem.EqNone.eq_none_str (fin_bl I q (by simp))
    | _ => exact absurd (show false = true from hs) Bool.false_ne_true
  | bl i =>
    cases rx
    cases y with
    | non => cases ry; exact PySem.EqNone.eq_bool_none (fin_bl I q (by simp))
    | bl j => cases ry; exact eq_bool (fin_bl I q dec_bl)
    | str j => obtain ⟨t', rfl⟩ := ry; exact PySem.EqMixed.eq_bool_str (fin_bl I q (by simp))
    | _ => exact absurd (show false = true from hs) Bool.false_ne_true
  | int i =>
    obtain ⟨t, rfl⟩ := rx
    cases y with
    | non => cases ry; exact PySem.EqNone.eq_int_none (fin_bl I q (by simp))
    | int j => obtain ⟨t', rfl⟩ := ry; exact eq_int (fin_bl I q dec_int)
    | str j => obtain ⟨t', rfl⟩ := ry; exact PySem.EqMixed.eq_int_str (fin_bl I q (by simp))
    | _ => exact absurd (show false = true from hs) Bool.false_ne_true
  | str i =>
    obtain ⟨t, rfl⟩ := rx
    cases y with
    | non => cases ry; exact PySem.EqNone.eq_str_none (fin_bl I q (by simp))
    | bl j => cases ry; exact PySem.EqMixed.eq_str_bool (fin_bl I q (by simp))
    | int j => obtain ⟨t', rfl⟩ := ry; exact PySem.EqMixed.eq_str_int (fin_bl I q (by simp))
    | str j => obtain ⟨t', rfl⟩ := ry; exact eq_str (fin_bl I q dec_str)
    | _ => exact absurd (show false = true from hs) Bool.false_ne_true
  | byt i =>
    obtain ⟨t, rfl⟩ := rx
    cases y with
    | byt j => obtain ⟨t', rfl⟩ := ry; exact PySem.W.eq_bytes (fin_bl I q dec_byt)
    | _ => exact absurd (show false = true from hs) Bool.false_ne_true
  | _ => cases y <;> exact absurd (show false = true from hs) Bool.false_ne_true
theorem op_ne : OpR X (compareOp .NotEq) rNe := by
  intro pins s σ H x y v u Q I rx ry h
  obtain ⟨hs, q⟩ := h
  cases x with
  | non =>
    cases rx
    cases y with
    | non => cases ry; exact PySem.EqNone.ne_none_none (fin_bl I q (by simp))
    | bl j => cases ry; exact PySem.EqNone.ne_none_bool (fin_bl I q (by simp))
    | int j => obtain ⟨t', rfl⟩ := ry; exact PySem.EqNone.ne_none_int (fin_bl I q (by simp))
    | str j => obtain ⟨t', rfl⟩ := ry; exact PySem.EqNone.ne_none_str (fin_bl I q (by simp))
    | _ => exact absurd (show false = true from hs) Bool.false_ne_true
  | bl i =>
    cases rx
    cases y with
    | non => cases ry; exact PySem.EqNone.ne_bool_none (fin_bl I q (by simp))
    | bl j => cases ry; exact ne_bool (fin_bl I q (congrArg not dec_bl))
    | str j => obtain ⟨t', rfl⟩ := ry; exact PySem.EqMixed.ne_bool_str (fin_bl I q (by simp))
    | _ => exact absurd (show false = true from hs) Bool.false_ne_true
  | int i =>
    obtain ⟨t, rfl⟩ := rx
    cases y with
    | non => cases ry; exact PySem.EqNone.ne_int_none (fin_bl I q (by simp))
    | int j => obtain ⟨t', rfl⟩ := ry; exact ne_int (fin_bl I q (congrArg not dec_int))
    | str j => obtain ⟨t', rfl⟩ := ry; exact PySem.EqMixed.ne_int_str (fin_bl I q (by simp))
    | _ => exact absurd (show false = true from hs) Bool.false_ne_true
  | str i =>
    obtain ⟨t, rfl⟩ := rx
    cases y with
    | non => cases ry; exact PySem.EqNone.ne_str_none (fin_bl I q (by simp))
    | bl j => cases ry; exact PySem.EqMixed.ne_str_bool (fin_bl I q (by simp))
    | int j => obtain ⟨t', rfl⟩ := ry; exact PySem.EqMixed.ne_str_int (fin_bl I q (by simp))
    | str j => obtain ⟨t', rfl⟩ := ry; exact ne_str (fin_bl I q (congrArg not dec_str))
    | _ => exact absurd (show false = true from hs) Bool.false_ne_true
  | byt i =>
    obtain ⟨t, rfl⟩ := rx
    cases y with
    | byt j => obtain ⟨t', rfl⟩ := ry; exact PySem.W.ne_bytes (fin_bl I q (congrArg not dec_byt))
    | _ => exact absurd (show false = true from hs) Bool.false_ne_true
  | _ => cases y <;> exact absurd (show false = true from hs) Bool.false_ne_true
theorem op_lt : OpR X (compareOp .Lt) (rI0 fun i j => .bl (decide (i < j))) := opB0 fun _ _ _ _ _ _ _ q => lt_int q
theorem op_gt : OpR X (compareOp .Gt) (rI0 fun i j => .bl (decide (j < i))) := opB0 fun _ _ _ _ _ _ _ q => gt_int q
theorem op_notN : OpR X (compareOp .IsNot) (fun x y H Q => y = .non ∧ Q (.bl (!decide (x = .non))) H) := by
  intro pins s σ H x y v u Q I rx ry h
  obtain ⟨rfl, q⟩ := h
  cases ry
  refine isnot_none_gen (fin_bl I q ?_)
  cases x <;> first
    | (cases rx; rfl)
    | (obtain ⟨t, rfl⟩ := rx; rfl)
theorem nomark (b : Expr) {op : CmpOp} (h : op ≠ .In := by decide) (h2 : op ≠ .NotIn := by decide) : behindInMarks op b = false := by
  have e1 : (op == CmpOp.In) = false := by cases op <;> first | rfl | exact absurd rfl h
  have e2 : (op == CmpOp.NotIn) = false := by cases op <;> first | rfl | exact absurd rfl h2
  cases b <;> simp [behindInMarks, e1, e2]
theorem pe_cmpR {op : CmpOp} {r : R2} (ho : OpR X (compareOp op) r) (ha : PE X a ta) (hb : PE X b tb) (hm : behindInMarks op b = false) : PE X (.Compare a [op] [b] pos) (tOp r ta tb) := by
  intro pins s σ H Q I h
  exact wpAny_Compare1 (binT ha hb I h fun v u s2 x y H2 I2 rx ry q => ho pins s2 σ H2 x y v u Q I2 rx ry q) hm
def tTest (t : TE) : TT := fun σ H Q => t σ H fun x H' => ∃ k, x = .bl k ∧ Q k H'
theorem pt_cmpR {op : CmpOp} {r : R2} (ho : OpR X (compareOp op) r) (ha : PE X a ta) (hb : PE X b tb) (hm : behindInMarks op b = false) : PT X (.Compare a [op] [b] pos) (tTest (tOp r ta tb)) := by
  intro pins s σ H Q I h
  refine wpAny_isTrue_Compare1 (thn (ha pins s σ H _ I h) fun v s1 ⟨x, H1, I1, r1, q1⟩ => thn (hb pins s1 σ H1 _ I1 q1) fun u s2 ⟨y, H2, I2, r2, q2⟩ =>
    thn (ho pins s2 σ H2 x y v u _ I2 r1 r2 q2) fun c s3 ⟨z, H3, I3, r3, k, e, q3⟩ => ?_) hm
  subst e
  cases r3
  exact wpAny_truthy_bool ⟨H3, I3, q3⟩
def TruV (K : PySem.W.Frag) (x : V) (H : Hp) (k : Bool) : Prop :=
  match x with
  | .non => k = false
  | .bl b => k = b
  | .int i => k = (i != 0)
  | .str y => y.length ≤ sizeLine ∧ k = ((y.length : Int) != 0)
  | .byt y => y.size ≤ sizeLine ∧ k = ((y.size : Int) != 0)
  | .ref p => (∃ xs, SqL K H p xs ∧ k = !xs.isEmpty) ∨ (∃ xs, SqT K H p xs ∧ k = !xs.isEmpty) ∨ ∃ kvs, H p = some (.dK kvs) ∧ k = !kvs.isEmpty
  | _ => False
theorem isEmpty_kv {κ : Type} {kvs : List (κ × V)} {vs : List (κ × Value)} (r : KV kvs vs) : (!vs.isEmpty) = !kvs.isEmpty := by
  cases r <;> rfl
theorem isEmpty_of {xs : List V} {its : List Value} (r : Vals xs its) : (!its.toArray.isEmpty) = !xs.isEmpty := by
  cases r <;> simp
theorem line63 : (sizeLine : Nat) < 2 ^ 63 := by rw [sizeLine_eq]; decide
theorem tru_ok : TruR X (fun x H Q => ∃ k, TruV X.K x H k ∧ Q k H) := by
  intro pins s σ H x v Q I rx h
  obtain ⟨k, e, q⟩ := h
  have hl := line63
  have hs : sizeLine = 16777216 := sizeLine_eq
  cases x with
  | non =>
    cases rx
    have e' : k = false := e
    subst e'
    exact truthy_none ⟨H, I, q⟩
  | bl b =>
    cases rx
    have e' : k = b := e
    subst e'
    exact wpAny_truthy_bool ⟨H, I, q⟩
  | int i =>
    obtain ⟨t, rfl⟩ := rx
    have e' : k = (i != 0) := e
    subst e'
    exact PySem.P.truthy_int ⟨H, I, q⟩
  | str y =>
    obtain ⟨t, rfl⟩ := rx
    obtain ⟨hy, e'⟩ : y.length ≤ sizeLine ∧ k = ((y.length : Int) != 0) := e
    subst e'
    exact PySem.P.truthy_str (by omega) ⟨H, I.tok _, q⟩
  | byt y =>
    obtain ⟨t, rfl⟩ := rx
    obtain ⟨hy, e'⟩ : y.size ≤ sizeLine ∧ k = ((y.size : Int) != 0) := e
    subst e'
    exact PySem.W.truthy_bytes (by omega) ⟨H, I.tok _, q⟩
  | ref p =>
    cases rx
    have e' : (∃ xs, SqL X.K H p xs ∧ k = !xs.isEmpty) ∨ (∃ xs, SqT X.K H p xs ∧ k = !xs.isEmpty) ∨ ∃ kvs, H p = some (.dK kvs) ∧ k = !kvs.isEmpty := e
    rcases e' with ⟨xs, hx, e'⟩ | ⟨xs, hx, e'⟩ | ⟨kvs, hx, e'⟩
    · subst e'
      obtain ⟨its, r, pl, hz⟩ := I.list hx
      have hlen := r.length
      exact wpAny_truthy_list pl.isList (by simp only [List.size_toArray]; omega) ⟨H, I.tok _, by rw [isEmpty_of r]; exact q⟩
    · subst e'
      obtain ⟨its, r, pl, hz⟩ := I.tuple hx
      have hlen := r.length
      exact truthy_tuple pl (by simp only [List.size_toArray]; omega) ⟨H, I.tok _, by rw [isEmpty_of r]; exact q⟩
    · subst e'
      obtain ⟨hz, hS, vs, r, m⟩ : kvs.length ≤ sizeLine ∧ (p == sysModules) = false ∧ ∃ vs, KV kvs vs ∧ s.heap.DictOf (mixKind X.prog X.w) p vs := I.hok p _ hx
      have hlen : kvs.length = vs.length := Paired.length r
      exact wpAny_truthy_dict hS m (by omega) ⟨H, I.tok _, by rw [isEmpty_kv r]; exact q⟩
  | _ => exact (show False from e).elim
theorem pt_truth (ha : PE X a ta) (he : ∀ whole, isTrue a X.env whole = (do let v ← whole; standAt a.pos; holding [v] (truthy v))) :
    PT X a (fun σ H Q => ta σ H fun x H' => ∃ k, TruV X.K x H' k ∧ Q k H') := by
  intro pins s σ H Q I h
  exact isTrue_plain (thn (ha pins s σ H _ I h) fun v s1 ⟨x, H1, I1, r1, q1⟩ => tru_ok pins s1 σ H1 x v Q I1 r1 q1) (he _)
theorem op_add_str : OpR X (binaryOp .Add) (fun x y H Q => ∃ i j, x = .str i ∧ y = .str j ∧ i.length + j.length ≤ sizeLine ∧ Q (.str (i ++ j)) H) := by
  intro pins s σ H x y v u Q I rx ry h
  obtain ⟨i, j, rfl, rfl, hz, q⟩ := h
  obtain ⟨t, rfl⟩ := rx
  obtain ⟨t', rfl⟩ := ry
  exact add_str (fun t' tk => ⟨.str (i ++ j), H, I.tok _, ⟨_, rfl⟩, q⟩) hz
theorem vals1 {x : V} {us : List Value} (r : Vals [x] us) : ∃ u, us = [u] ∧ RelV x u := by
  cases r with
  | cons r1 r2 => cases r2; exact ⟨_, rfl, r1⟩
theorem vals2 {x y : V} {us : List Value} (r : Vals [x, y] us) : ∃ u w', us = [u, w'] ∧ RelV x u ∧ RelV y w' := by
  cases r with
  | cons r1 r2 =>
    cases r2 with
    | cons r3 r4 => cases r4; exact ⟨_, _, rfl, r1, r3⟩
theorem call_int1 : CallR X (.type "int") (fun xs H Q => (∃ i, xs = [.int i] ∧ Q (.int i) H) ∨ ∃ k, xs = [.bl k] ∧ Q (.int (if k then 1 else 0)) H) := by
  intro pins s σ H xs us Q I r h
  rcases h with ⟨i, rfl, q⟩ | ⟨k, rfl, q⟩
  · obtain ⟨u, rfl, t, rfl⟩ := vals1 r
    exact call_int_int ⟨.int i, H, I, ⟨_, rfl⟩, q⟩
  · obtain ⟨u, rfl, r1⟩ := vals1 r
    cases r1
    exact call_int_bool ⟨.int (if k then 1 else 0), H, I.tok _, ⟨_, rfl⟩, q⟩
def LenV (K : PySem.W.Frag) (x : V) (H : Hp) (n : Nat) : Prop :=
  match x with
  | .str y => y.length ≤ sizeLine ∧ n = y.length
  | .byt y => y.size ≤ sizeLine ∧ n = y.size
  | .ref p => (∃ xs, SqL K H p xs ∧ n = xs.length) ∨ ∃ xs, SqT K H p xs ∧ n = xs.length
  | _ => False
theorem call_len : CallR X (.builtin "len") (fun xs H Q => ∃ x n, xs = [x] ∧ LenV X.K x H n ∧ Q (.int n) H) := by
  intro pins s σ H xs us Q I r h
  obtain ⟨x, n, rfl, e, q⟩ := h
  obtain ⟨u, rfl, rx⟩ := vals1 r
  have hl := line63
  have hs : sizeLine = 16777216 := sizeLine_eq
  cases x with
  | str y =>
    obtain ⟨t, rfl⟩ := rx
    obtain ⟨hy, e'⟩ : y.length ≤ sizeLine ∧ n = y.length := e
    subst e'
    exact len_str (by omega) ⟨.int _, H, I.tok _, ⟨_, rfl⟩, q⟩
  | byt y =>
    obtain ⟨t, rfl⟩ := rx
    obtain ⟨hy, e'⟩ : y.size ≤ sizeLine ∧ n = y.size := e
    subst e'
    exact PySem.W.len_bytes (by omega) ⟨.int _, H, I.tok _, ⟨_, rfl⟩, q⟩
  | ref p =>
    cases rx
    have e' : (∃ xs, SqL X.K H p xs ∧ n = xs.length) ∨ ∃ xs, SqT X.K H p xs ∧ n = xs.length := e
    rcases e' with ⟨xs, hx, e'⟩ | ⟨xs, hx, e'⟩
    · subst e'
      obtain ⟨its, r', pl, hz⟩ := I.list hx
      have hlen := r'.length
      exact Calls.call_len_list pl.isList (by simp only [List.size_toArray]; omega) ⟨.int xs.length, H, I.tok _, ⟨_, by simp only [List.size_toArray]; rw [hlen]⟩, q⟩
    · subst e'
      obtain ⟨its, r', pl, hz⟩ := I.tuple hx
      have hlen := r'.length
      exact len_tuple pl (by simp only [List.size_toArray]; omega) ⟨.int xs.length, H, I.tok _, ⟨_, by simp only [List.size_toArray]; rw [hlen]⟩, q⟩
  | _ => exact (show False from e).elim
end
end L2
namespace L2
open PySem PySem.Spec PyProof.Rows
structure ObjM (h : Heap) (x dx C : Addr) (mA : Str → Option Value) : Prop where
  obj : h.get? x = some (PySem.W.instObj C dx)
  ns : h.Ns1 dx mA
  ne : dx ≠ x
theorem lookIn_ns {h : Heap} {dx : Addr} {mA : Str → Option Value} (n : h.Ns1 dx mA) : ∃ od, h.get? dx = some od ∧ ∀ name, PySem.W.lookIn name od = some (mA name) := by
  obtain ⟨o, es, ep, ho, hd, hk, _, hm⟩ := n
  refine ⟨o, ho, fun name => ?_⟩
  have e := hm name
  unfold nsFind findBy at e
  rw [← Array.find?_toList] at e
  unfold PySem.W.lookIn
  rw [hd]
  dsimp only
  split
  · rename_i y q
    rw [q] at e
    exact congrArg some e
  · rename_i q
    rw [q] at e
    have a : es.toList.any (·.refKey) = false := by
      rw [List.any_eq_false]
      intro y hy
      obtain ⟨z, t, hkey⟩ := hk y (Array.mem_toList_iff.mp hy)
      simp [DictEntry.refKey, hkey]
    have a' : ¬ es.toList.any (·.refKey) = true := by rw [a]; exact Bool.false_ne_true
    rw [if_neg a']
    exact congrArg some e
theorem ObjM.look {h : Heap} {x dx C : Addr} {mA : Str → Option Value} (I : ObjM h x dx C mA) : ∃ od, PySem.W.InstAt h x (PySem.W.instObj C dx) C (some od) ∧ ∀ name, PySem.W.lookIn name od = some (mA name) :=
  let ⟨od, ho, hl⟩ := lookIn_ns I.ns
  ⟨od, ⟨I.obj, rfl, rfl, ho⟩, hl⟩
section
variable {prog : Program} {w : World} {A : Around} {E : Value → Shared → Prop} {s : Shared} {K : PySem.W.Frag} {x dx C f : Addr} {mA : Str → Option Value} {name : Str} {v : Value}
theorem get_map {expr : Bool} {Q : Value → Shared → Prop} (X : K.In s.heap) (I : ObjM s.heap x dx C mA) (hg : PySem.W.plainGet K C name = true) (hh : PySem.W.hasDictIn K C = true)
    (ha : PySem.W.findIn K (.ref C) name = some none) (hv : mA name = some v) (hv' : PySem.W.handedIn v = true) (h : Q v { s with toks := s.toks + 1 }) :
    wpAny (model prog w) A (getAttr (.ref x) name expr) Q E s := by
  obtain ⟨od, J, hl⟩ := I.look
  exact PySem.W.get_value X J (PySem.W.plainGet_of hg).1 (PySem.W.findObj_own hh ha rfl (by rw [hl, hv])) hv' h
theorem get_meth {pl : Sem Bool} {Q : Value × List Value → Shared → Prop} (X : K.In s.heap) (I : ObjM s.heap x dx C mA) (hg : PySem.W.plainGet K C name = true)
    (hf : PySem.W.findIn K (.ref C) name = some (some (.ref f))) (ht : PySem.W.isFn K (.ref f) = true) (hv : mA name = none) (h : Q (.ref f, [.ref x]) s) :
    wpAny (model prog w) A (getMethod (.ref x) name pl) Q E s := by
  obtain ⟨od, J, hl⟩ := I.look
  exact PySem.W.method_fn X J (PySem.W.plainGet_of hg).1 (PySem.W.plainGet_of hg).2 hf (beq_iff_eq.mp ht) (by show (PySem.W.lookIn name od).map (·.isSome) = some false; rw [hl, hv]; rfl) h
theorem set_map {ns : List Str} {Q : Unit → Shared → Prop} (X : K.In s.heap) (I : ObjM s.heap x dx C mA)
    (hs : PySem.W.findIn K (.ref C) "__setattr__" = some (some (.builtin "object.__setattr__"))) (hp : PySem.W.plainOver K C = true) (ht : PySem.W.takerIn K C name = some none) (hh : PySem.W.hasDictIn K C = true)
    (hw : PySem.Within mA ns) (hsz : ns.length ≤ sizeLine)
    (h : ∀ h', ObjM h' x dx C (fun y => if y = name then some v else mA y) → Heap.SameBut dx s.heap h' → Q () { s with heap := h', toks := s.toks + 2 }) :
    wpAny (model prog w) A (setAttr (.ref x) name v) Q E s := by
  obtain ⟨od, J, hl⟩ := I.look
  refine PySem.W.set_plain X J hs (PySem.W.osa_open (s := { s with toks := s.toks + 1 }) (r := none) X J hp ht fun b => ?_)
  obtain ⟨cd, hc, hd'⟩ := PySem.W.any_some hh
  have hx : s.heap.get? x = some ⟨.ref C, some dx, .plain, #[]⟩ := I.obj
  refine wpAny_bind (wpAny_pure (wpAny_bind (wpAny_bind (wpAny_loadPart hx (wpAny_bind (PySem.W.Looks.here (s := { s with toks := s.toks + 1 }) (PySem.W.looks_clsIn X hc) ?_))))))
  rw [hd']
  refine wpAny_pure (a := some dx) (wpAny_bind (wpAny_pure (wpAny_bind ?_)))
  refine wpAny_nsSet1 (s := { s with toks := s.toks + 1 }) I.ns fun h' hn2 hs2 => ?_
  obtain ⟨oD, esD, epD, hoD, hdD, hcD⟩ := hn2.count (PySem.Within.cons name v hw)
  refine wpAny_bind (wpAny_lookBehind hoD (by rw [hdD]; exact pastItsLine_dict (Nat.le_trans hcD (by rw [List.length_cons]; omega))) ?_)
  exact wpAny_pure (h _ ⟨(hs2.2 _ (Ne.symm I.ne)).trans I.obj, hn2, I.ne⟩ hs2)
theorem make_map {R : Result → Shared → Prop} {vs : List Value} {kw : List (Str × Value)} (X : K.In s.heap) (hm : PySem.W.makesIn K C = true)
    (hi : PySem.W.findIn K (.ref C) "__init__" = some (some (.ref f))) (hf : PySem.W.typeIn K (.ref f) = some (.type "function"))
    (h : codeAny (model prog w) (A.under (.builtin "type.__call__" ⟨.ref C :: vs, kw⟩)) (.call (.ref f) ⟨.ref (s.heap.objs.size + 1) :: vs, kw⟩) (PySem.W.InitBack (s.heap.objs.size + 1) R)
      { s with heap := (s.heap.push PySem.W.emptyDict).push (PySem.W.instObj C s.heap.objs.size) }) :
    codeAny (model prog w) A (.call (.ref C) ⟨vs, kw⟩) R s := by
  obtain ⟨hh, g, d, t, os⟩ := s
  exact PySem.W.make_core (PySem.W.makes_of X hm) (PySem.W.looks_findIn X hi) (fun self => PySem.W.bind_fn X self hf) (.inl rfl) h
end
def putF (f : Str) (v : V) : List (Str × V) → List (Str × V)
  | [] => [(f, v)]
  | (g, x) :: r => if g = f then (g, v) :: r else (g, x) :: putF f v r
theorem lookup_putF (f g : Str) (v : V) : ∀ fs : List (Str × V), (putF f v fs).lookup g = if g = f then some v else fs.lookup g
  | [] => by
    show List.lookup g [(f, v)] = _
    by_cases h : g = f
    · have hb : (g == f) = true := beq_iff_eq.mpr h
      simp only [List.lookup, hb, if_pos h]
    · have hb : (g == f) = false := beq_eq_false_iff_ne.mpr h
      simp only [List.lookup, hb, if_neg h]
  | (k, x) :: r => by
    have ih := lookup_putF f g v r
    rw [show putF f v ((k, x) :: r) = (if k = f then (k, v) :: r else (k, x) :: putF f v r) from rfl]
    by_cases hk : k = f
    · rw [if_pos hk]
      by_cases h : g = k
      · have hb : (g == k) = true := beq_iff_eq.mpr h
        simp only [List.lookup, hb, if_pos (h.trans hk)]
      · have hb : (g == k) = false := beq_eq_false_iff_ne.mpr h
        simp only [List.lookup, hb, if_neg (fun e : g = f => h (e.trans hk.symm))]
    · rw [if_neg hk]
      by_cases h : g = k
      · have hb : (g == k) = true := beq_iff_eq.mpr h
        simp only [List.lookup, hb, if_neg (fun e : g = f => hk (h.symm.trans e))]
      · have hb : (g == k) = false := beq_eq_false_iff_ne.mpr h
        simp only [List.lookup, hb]
        exact ih
theorem keys_putF (f : Str) (v : V) : ∀ fs : List (Str × V), f ∈ (putF f v fs).map (·.1) ∧ ∀ g, g ∈ fs.map (·.1) → g ∈ (putF f v fs).map (·.1)
  | [] => ⟨by simp [putF], fun g h => by simp at h⟩
  | (k, x) :: r => by
    obtain ⟨i1, i2⟩ := keys_putF f v r
    rw [show putF f v ((k, x) :: r) = (if k = f then (k, v) :: r else (k, x) :: putF f v r) from rfl]
    by_cases hk : k = f
    · rw [if_pos hk]
      subst hk
      exact ⟨by simp, fun g h => by simpa using h⟩
    · rw [if_neg hk]
      refine ⟨?_, fun g h => ?_⟩
      · rw [List.map_cons]
        exact List.mem_cons_of_mem _ i1
      · rw [List.map_cons] at h ⊢
        rcases List.mem_cons.mp h with e | e
        · exact List.mem_cons.mpr (.inl e)
        · exact List.mem_cons_of_mem _ (i2 g e)
theorem length_putF (f : Str) (v : V) : ∀ fs : List (Str × V), (putF f v fs).length ≤ fs.length + 1
  | [] => by simp [putF]
  | (k, x) :: r => by
    have ih := length_putF f v r
    rw [show putF f v ((k, x) :: r) = (if k = f then (k, v) :: r else (k, x) :: putF f v r) from rfl]
    by_cases hk : k = f
    · rw [if_pos hk, List.length_cons, List.length_cons]; omega
    · rw [if_neg hk, List.length_cons, List.length_cons]; omega
theorem RelO.some_of {v : V} {o : Option Value} (r : RelO (some v) o) : ∃ u, o = some u ∧ RelV v u := by
  cases o with
  | none => exact (show False from r).elim
  | some u => exact ⟨u, rfl, r⟩
theorem RelO.none_of {o : Option Value} (r : RelO none o) : o = none := by
  cases o with
  | none => rfl
  | some u => exact (show False from r).elim
theorem handed_of {v : V} {u : Value} (r : RelV v u) : PySem.W.handedIn u = true := by
  cases v with
  | non => cases (show u = Value.none from r); rfl
  | bl b => cases (show u = Value.bool b from r); rfl
  | int i => obtain ⟨t, e⟩ := (show ∃ t, u = Value.int i t from r); cases e; rfl
  | str x => obtain ⟨t, e⟩ := (show ∃ t, u = Value.str x t from r); cases e; rfl
  | byt b => obtain ⟨t, e⟩ := (show ∃ t, u = Value.bytes b t from r); cases e; rfl
  | flt b => obtain ⟨t, e⟩ := (show ∃ t, u = Value.float b t from r); cases e; rfl
  | ref a => cases (show u = Value.ref a from r); rfl
  | ty n => cases (show u = Value.type n from r); rfl
section
variable {P : Program} {w : World} {H H' : Hp} {h h' : Heap} {a C dx : Addr} {fs fs' : List (Str × V)}
theorem ins_get (hok : HOk P w H h) (e : H a = some (.ins C dx fs)) : ∃ mA, ObjM h a dx C mA ∧ (∀ f, RelO (fs.lookup f) (mA f)) ∧ PySem.Within mA (fs.map (·.1)) ∧ fs.length ≤ 1000 ∧ H dx = some (.own a) := by
  obtain ⟨d, z, ne, ob, mA, n, r, q⟩ := (show ObjOk P w H h a (.ins C dx fs) from hok a _ e)
  exact ⟨mA, ⟨ob, n, ne⟩, r, q, z, d⟩
end
structure Cls (K : PySem.W.Frag) (C : Addr) : Prop where
  pg : PySem.W.plainGet K C Str.empty = true
  hd : PySem.W.hasDictIn K C = true
  po : PySem.W.plainOver K C = true
  sa : PySem.W.findIn K (.ref C) "__setattr__" = some (some (.builtin "object.__setattr__"))
theorem Cls.get {K : PySem.W.Frag} {C : Addr} (c : Cls K C) (f : Str) : PySem.W.plainGet K C f = true := c.pg
def NoAttr (K : PySem.W.Frag) (C : Addr) (f : Str) : Prop := PySem.W.findIn K (.ref C) f = some none
theorem NoAttr.taker {K : PySem.W.Frag} {C : Addr} {f : Str} (n : NoAttr K C f) : PySem.W.takerIn K C f = some none := by
  unfold PySem.W.takerIn
  rw [show PySem.W.findIn K (.ref C) f = some none from n]
  rfl
structure Meth (K : PySem.W.Frag) (C : Addr) (m : Str) (f : Addr) : Prop where
  at_ : PySem.W.findIn K (.ref C) m = some (some (.ref f))
  fn : PySem.W.isFn K (.ref f) = true
  kp : PySem.W.keepIn K (.ref f) = true
section
variable {X : Cx} {pins : List (Addr × Obj)} {σ : St} {H : Hp} {s : Shared} {a C dx : Addr} {fs : List (Str × V)} {f : Str} {v : V} {A : Around} {E : Value → Shared → Prop}
theorem getattr_ok {b : Bool} {Q : Value → Shared → Prop} (I : Inv X pins σ H s) (e : H a = some (.ins C dx fs)) (c : Cls X.K C) (n : NoAttr X.K C f) (l : fs.lookup f = some v)
    (h : ∀ u s', Inv X pins σ H s' → RelV v u → Q u s') : wpAny (model X.prog X.w) A (getAttr (.ref a) f b) Q E s := by
  obtain ⟨mA, O, r, _, _, _⟩ := ins_get I.hok e
  obtain ⟨u, hu, ru⟩ := RelO.some_of (v := v) (o := mA f) (by rw [← l]; exact r f)
  exact get_map I.kIn O (c.get f) c.hd n hu (handed_of ru) (h u _ (I.tok _) ru)
theorem getmeth_ok {m : Str} {g : Addr} {pl : Sem Bool} {Q : Value × List Value → Shared → Prop} (I : Inv X pins σ H s) (e : H a = some (.ins C dx fs)) (c : Cls X.K C) (k : Meth X.K C m g) (l : fs.lookup m = none)
    (h : Q (.ref g, [.ref a]) s) : wpAny (model X.prog X.w) A (getMethod (.ref a) m pl) Q E s := by
  obtain ⟨mA, O, r, _, _, _⟩ := ins_get I.hok e
  have hn : mA m = none := RelO.none_of (by rw [← l]; exact r m)
  exact get_meth I.kIn O (c.get m) k.at_ k.fn hn h
theorem setattr_ok {y : V} {u : Value} {Q : Unit → Shared → Prop} (I : Inv X pins σ H s) (e : H a = some (.ins C dx fs)) (c : Cls X.K C) (n : NoAttr X.K C f) (hl : fs.length < 1000) (ry : RelV y u)
    (h : ∀ s', Inv X pins σ (upd H a (.ins C dx (putF f y fs))) s' → Q () s') : wpAny (model X.prog X.w) A (setAttr (.ref a) f u) Q E s := by
  obtain ⟨mA, O, r, wi, _, ho⟩ := ins_get I.hok e
  have hz : (fs.map (·.1)).length ≤ sizeLine := by rw [List.length_map, sizeLine_eq]; omega
  refine set_map I.kIn O c.sa c.po n.taker c.hd wi hz fun h' O' sb => h _ ?_
  have hd : ∃ o, h'.get? dx = some o := let ⟨o, _, _, e', _⟩ := O'.ns; ⟨o, e'⟩
  refine I.write (x := a) (e := dx) (by rw [e]; exact True.intro) (.inr ho) (fun b q hb z => (sb.2 b hb).trans z) hd ?_
  refine ⟨by rw [upd_ne O.ne]; exact ho, ?_, O.ne, O'.obj, _, O'.ns, fun g => ?_, fun g hg => ?_⟩
  · have := length_putF f y fs; omega
  · show RelO ((putF f y fs).lookup g) (if g = f then some u else mA g)
    rw [lookup_putF]
    by_cases q : g = f
    · rw [if_pos q, if_pos q]; exact ry
    · rw [if_neg q, if_neg q]; exact r g
  · by_cases q : g = f
    · rw [q]; exact (keys_putF f y fs).1
    · refine (keys_putF f y fs).2 g (wi g fun z => hg ?_)
      show (if g = f then some u else mA g) = none
      rw [if_neg q]; exact z
theorem Inv.made (I : Inv X pins σ H s) : Inv X pins σ (upd (upd H s.heap.objs.size (.own (s.heap.objs.size + 1))) (s.heap.objs.size + 1) (.ins C s.heap.objs.size []))
    { s with heap := (s.heap.push PySem.W.emptyDict).push (PySem.W.instObj C s.heap.objs.size) } := by
  have e1 : (s.heap.push PySem.W.emptyDict).get? s.heap.objs.size = some PySem.W.emptyDict := Heap.get?_push_size s.heap rfl
  have e2 : ((s.heap.push PySem.W.emptyDict).push (PySem.W.instObj C s.heap.objs.size)).get? (s.heap.objs.size + 1) = some (PySem.W.instObj C s.heap.objs.size) := by
    have := Heap.get?_push_size (s.heap.push PySem.W.emptyDict) (o := PySem.W.instObj C s.heap.objs.size) rfl
    rwa [Heap.size_push] at this
  have e3 : (s.heap.push PySem.W.emptyDict).Ns s.heap.objs.size (fun _ => none) := ⟨PySem.W.emptyDict, #[], _, e1, rfl, (fun e he => absurd he (by simp)), fun _ => rfl⟩
  have I1 := I.laid (a := s.heap.objs.size) (o := .own (s.heap.objs.size + 1)) (h' := s.heap.push PySem.W.emptyDict) (t' := s.toks) (fun b u q => Heap.get?_push_of_some _ q) (Nat.le_refl _) ⟨_, e1⟩
  refine I1.laid (a := s.heap.objs.size + 1) (o := .ins C s.heap.objs.size []) (t' := s.toks) (fun b u q => Heap.get?_push_of_some _ q) (Nat.le_of_eq (Heap.size_push _ _)) ?_
  have ne : s.heap.objs.size ≠ s.heap.objs.size + 1 := Nat.ne_of_lt (Nat.lt_succ_self _)
  refine ⟨by rw [upd_ne ne, upd_same], Nat.zero_le _, ne, e2, fun _ => none, (Heap.Ns1.of_empty e3).at fun o q => Heap.get?_push_of_some _ q, fun _ => True.intro, fun y hy => absurd rfl hy⟩
theorem attr_of {prog : Program} {w : World} {env : Env} {e : Expr} {f : Str} {pos : Pos} {s : Shared} {Q : Value → Shared → Prop} (hb : attributeBase e f env (eval e env) = eval e env)
    (h : wpAny (model prog w) A (eval e env) (fun o s₁ => wpAny (model prog w) A (getAttr o f true) Q E s₁) E s) : wpAny (model prog w) A (eval (.Attribute e f pos) env) Q E s :=
  Attribute_any_ h (by rw [arm_eval_Attribute, hb])
end
def tFld (K : PySem.W.Frag) (ta : TE) (f : Str) : TE := fun σ H Q => ta σ H fun x H1 => ∃ a C dx fs v, x = .ref a ∧ H1 a = some (.ins C dx fs) ∧ Cls K C ∧ NoAttr K C f ∧ fs.lookup f = some v ∧ Q v H1
def sFld (K : PySem.W.Frag) (ta tv : TE) (f : Str) : TS := fun D σ H => tv σ H fun y H1 => ta σ H1 fun x H2 => ∃ a C dx fs, x = .ref a ∧ H2 a = some (.ins C dx fs) ∧ Cls K C ∧ NoAttr K C f ∧ fs.length < 1000 ∧
  D.nx σ (upd H2 a (.ins C dx (putF f y fs)))
section
variable {X : Cx} {o e value : Expr} {f : Str} {pos pos' tpos : Pos} {ta tv : TE}
theorem pe_fld (he : PE X e ta) (hb : attributeBase e f X.env (eval e X.env) = eval e X.env) : PE X (.Attribute e f pos) (tFld X.K ta f) := by
  intro pins s σ H Q I h
  refine attr_of hb (thn (he pins s σ H _ I h) fun u s1 ⟨x, H1, I1, rx, a, C, dx, fs, v, ex, ea, c, n, l, q⟩ => ?_)
  subst ex
  obtain rfl : u = Value.ref a := rx
  exact getattr_ok I1 ea c n l fun u' s2 I2 ru => ⟨v, H1, I2, ru, q⟩
theorem ps_fld (ha : PE X o ta) (hv : PE X value tv) (hs : swapsWith value (some (.Attribute o f pos')) pos.line X.env = pure false) : PS X (.Assign [.Attribute o f pos'] value pos) (sFld X.K ta tv f) := by
  intro pins s σ H D I h
  refine plainObj_wpAny_Assign_Attribute (thn (hv pins s σ H _ I h) fun u s1 ⟨y, H1, I1, ry, q⟩ => thn (ha pins s1 σ H1 _ I1 q) fun ov s2 ⟨x, H2, I2, rx, a, C, dx, fs, ex, ea, c, n, l, q2⟩ => ?_) hs
  subst ex
  obtain rfl : ov = Value.ref a := rx
  exact setattr_ok I2 ea c n l ry fun s3 I3 => ⟨σ, _, I3, q2⟩
end
section
variable {X : Cx} {pins : List (Addr × Obj)} {σ : St} {H : Hp} {s : Shared} {A : Around} {E : Value → Shared → Prop} {Q : Value → Shared → Prop} {c : Value} {b : Bool}
inductive TyOf (K : PySem.W.Frag) (H : Hp) : V → Value → Prop where
  | non : TyOf K H .non (.type "NoneType")
  | bl (x : Bool) : TyOf K H (.bl x) (.type "bool")
  | int (i : Int) : TyOf K H (.int i) (.type "int")
  | str (x : Str) : TyOf K H (.str x) (.type "str")
  | flt (x : UInt64) : TyOf K H (.flt x) (.type "float")
  | lst {a : Addr} {xs : List V} (e : H a = some (.lst xs)) : TyOf K H (.ref a) (.type "list")
  | frz {a : Addr} {o : Obj} {xs : List V} (e : H a = some (.frz o (.lst xs))) : TyOf K H (.ref a) (.type "list")
  | tup {a : Addr} {xs : List V} (e : H a = some (.tup xs)) : TyOf K H (.ref a) (.type "tuple")
  | dK {a : Addr} {kvs : List (Key × V)} (e : H a = some (.dK kvs)) : TyOf K H (.ref a) (.type "dict")
  | dT {a : Addr} {kvs : List (List Key × V)} (e : H a = some (.dT kvs)) : TyOf K H (.ref a) (.type "dict")
  | ins {a C dx : Addr} {fs : List (Str × V)} (e : H a = some (.ins C dx fs)) (cl : Cls K C) (ha : PySem.W.findIn K (.ref C) "__class__" = some (some (.builtin "object.__class__")))
      (hn : PySem.W.specialIn K (.builtin "object.__class__") "__get__" = some (some (.builtin "getset_descriptor.__get__"))) (htk : PySem.W.takesIn K (.builtin "object.__class__") = some true)
      (hm : PySem.W.mroIn K C (.type "object") = some true) : TyOf K H (.ref a) (.ref C)
theorem isinst_ok {x : V} {u t : Value} (I : Inv X pins σ H s) (rx : RelV x u) (ty : TyOf X.K H x t) (e : PySem.W.kitOne X.K t c = some b) (h : ∀ tk, Q (.bool b) { s with toks := tk }) :
    wpAny (model X.prog X.w) A (call (.builtin "isinstance") [u, c]) Q E s := by
  cases ty with
  | non => cases (show u = Value.none from rx); exact PySem.W.kia_one PySem.W.kitx_none I.kIn True.intro e (fun z => nomatch z) h
  | bl y => cases (show u = Value.bool y from rx); exact PySem.W.kia_one PySem.W.kitx_bool I.kIn True.intro e (fun z => nomatch z) h
  | int i => obtain ⟨t, q⟩ := (show ∃ t, u = Value.int i t from rx); cases q; exact PySem.W.kia_one PySem.W.kitx_int I.kIn True.intro e (fun z => nomatch z) h
  | str y => obtain ⟨t, q⟩ := (show ∃ t, u = Value.str y t from rx); cases q; exact PySem.W.kia_one PySem.W.kitx_str I.kIn True.intro e (fun z => nomatch z) h
  | flt y => obtain ⟨t, q⟩ := (show ∃ t, u = Value.float y t from rx); cases q; exact PySem.W.kia_one PySem.W.kitx_float I.kIn True.intro e (fun z => nomatch z) h
  | @lst a xs ea =>
    cases (show u = Value.ref a from rx)
    obtain ⟨_, _, n, _, h1⟩ := (show ObjOk X.prog X.w H s.heap a (.lst xs) from I.hok a _ ea)
    exact PySem.W.kia_one PySem.W.kitx_list I.kIn ⟨_, h1, rfl⟩ e (fun z => nomatch z) h
  | @frz a ob xs ea =>
    cases (show u = Value.ref a from rx)
    obtain ⟨_, _, _, n, _, h1⟩ := (show ObjOk X.prog X.w H s.heap a (.frz ob (.lst xs)) from I.hok a _ ea)
    exact PySem.W.kia_one PySem.W.kitx_list I.kIn ⟨_, h1, rfl⟩ e (fun z => nomatch z) h
  | @tup a xs ea =>
    cases (show u = Value.ref a from rx)
    obtain ⟨_, _, _, p⟩ := (show ObjOk X.prog X.w H s.heap a (.tup xs) from I.hok a _ ea)
    obtain ⟨o, h1, h2, _⟩ := p
    exact PySem.W.kia_one PySem.W.kitx_tuple I.kIn ⟨o, h1, h2⟩ e (fun z => nomatch z) h
  | @dK a kvs ea =>
    cases (show u = Value.ref a from rx)
    obtain ⟨_, _, vs, _, p⟩ := (show ObjOk X.prog X.w H s.heap a (.dK kvs) from I.hok a _ ea)
    obtain ⟨o, es, ep, h1, h2, _⟩ := p
    exact PySem.W.kia_one PySem.W.kitx_dict I.kIn ⟨o, h1, h2.1⟩ e (fun z => nomatch z) h
  | @dT a kvs ea =>
    cases (show u = Value.ref a from rx)
    obtain ⟨_, _, xs, _, o, es, ep, h1, h2, _⟩ := (show ObjOk X.prog X.w H s.heap a (.dT kvs) from I.hok a _ ea)
    exact PySem.W.kia_one PySem.W.kitx_dict I.kIn ⟨o, h1, h2.1⟩ e (fun z => nomatch z) h
  | @ins a C dx fs ea cl ha hn htk hm =>
    cases (show u = Value.ref a from rx)
    obtain ⟨mA, O, _⟩ := ins_get I.hok ea
    obtain ⟨od, J, _⟩ := O.look
    exact PySem.W.kia_one (PySem.W.kitx_own (cl.get _) cl.hd ha hn htk hm) I.kIn J e (fun z => nomatch z) h
end
end L2
namespace L2
open PySem PySem.Spec PyProof.Rows
structure Room (k : Nat) (A : Around) : Prop where
  hd : A.handled = none
  dp : A.depth + 3 * k + 5 < recursionLimit
  un : A.units + 16 * k + 200 < cLine
theorem Room.mono {j k : Nat} {A : Around} (r : Room k A) (h : j ≤ k) : Room j A := ⟨r.hd, by have := r.dp; omega, by have := r.un; omega⟩
theorem Room.deeper {k : Nat} {A : Around} (r : Room (k + 1) A) (env : Env) : Room k (A.deeper env) :=
  ⟨r.hd, by have := r.dp; show A.depth + 1 + 3 * k + 5 < _; omega, by have := r.un; show A.units + 3 + 16 * k + 200 < _; omega⟩
theorem make_depth {A : Around} {C : Addr} {us : List Value} {kw : List (Str × Value)} : (A.under (.builtin "type.__call__" ⟨.ref C :: us, kw⟩)).depth = A.depth + 1 := by
  first | rfl | simp [Around.under, Code.weight, Code.isCreation, Code.isGuard, Code.isCaller, Code.frames, Code.isFrame, guardIds]
theorem make_units {A : Around} {C : Addr} {us : List Value} {kw : List (Str × Value)} : (A.under (.builtin "type.__call__" ⟨.ref C :: us, kw⟩)).units = A.units + 1 := by
  first | rfl | simp [Around.under, Code.cUnits, Code.frames, Code.isFrame]
theorem Room.make {k : Nat} {A : Around} (r : Room (k + 1) A) (C : Addr) (us : List Value) (kw : List (Str × Value)) : Room k (A.under (.builtin "type.__call__" ⟨.ref C :: us, kw⟩)) :=
  ⟨r.hd, by have := r.dp; rw [make_depth]; omega, by have := r.un; rw [make_units]; omega⟩
theorem Room.depth {k : Nat} {A : Around} (r : Room k A) : A.depth < recursionLimit := by have := r.dp; omega
theorem Room.units {k : Nat} {A : Around} (r : Room k A) : A.units + 64 < cLine := by have := r.un; omega
theorem Room.units0 {k : Nat} {A : Around} (r : Room k A) : A.units < cLine := by have := r.un; omega
def tNil : TA := fun _ H Q => Q [] H
def tCons (ta : TE) (tr : TA) : TA := fun σ H Q => ta σ H fun x H1 => tr σ H1 fun xs H2 => Q (x :: xs) H2
section
variable {X : Cx} {e : Expr} {es : List Expr} {te : TE} {t : TA} {pos : Pos}
theorem pa_nil : PA X [] tNil := fun _ _ _ _ H Q I h => Calls.spliced_nil ⟨[], H, I, .nil, h⟩
theorem pa_cons (ha : PE X e te) (hr : PA X es t) (hs : starEach (e :: es) X.env = (false, eval e X.env) :: starEach es X.env := by rfl) : PA X (e :: es) (tCons te t) := by
  intro pos pins s σ H Q I h
  rw [hs]
  show wpAny _ _ (spliced ((false, eval e X.env) :: backTo pos (starEach es X.env))) _ _ s
  refine Calls.spliced_cons (thn (ha pins s σ H _ I h) fun u s1 ⟨x, H1, I1, r1, q1⟩ => ?_)
  exact thn (hr pos pins s1 σ H1 _ I1 q1) fun us s2 ⟨xs, H2, I2, r2, q2⟩ => ⟨x :: xs, H2, I2, .cons r1 r2, q2⟩
end
abbrev Sp := List V → Hp → VK → XK → Prop
abbrev CXT := List Env → Hp → Shared → XK → Value → Shared → Prop
structure Env0 (P : Program) (w : World) (K : PySem.W.Frag) (mg : Str → Option Value) (base : Heap) (A : Around) (outer : List Env) (s : Shared) (H : Hp) : Prop where
  frames : A.frames = some outer
  mod : Mod K mg base
  bs : ∀ b o, base.get? b = some o → s.heap.get? b = some o ∧ H b = none
  bsz : base.objs.size ≤ s.heap.objs.size
  funs : s.heap.FunFrames base outer
  frf : ∀ b ∈ frs outer, H b = none
  hok : HOk P w H s.heap
  bare : AllBare s.gens
def CE (outer : List Env) (P : Program) (w : World) (H : Hp) (s : Shared) (Q : VK) (u : Value) (s' : Shared) : Prop :=
  ∃ v H', s'.os = s.os ∧ AllBare s'.gens ∧ Un (frs outer) [] H H' s.heap s'.heap ∧ HOk P w H' s'.heap ∧ RelV v u ∧ Q v H'
def CR (CX : CXT) (outer : List Env) (P : Program) (w : World) (H : Hp) (s : Shared) (Q : VK) (E : XK) (r : Result) (s' : Shared) : Prop :=
  match r with
  | .ok (.ret u) => CE outer P w H s Q u s'
  | .ok _ => False
  | .error e => CX outer H s E e s'
structure FnOk (P : Program) (w : World) (K : PySem.W.Frag) (mg : Str → Option Value) (base : Heap) (CX : CXT) (k : Nat) (f : Addr) (fd : FuncData) (ps : List Str) (sp : Sp) : Prop where
  len : ∀ vs H Q E, sp vs H Q E → vs.length = ps.length
  run : ∀ (A : Around) (outer : List Env) (s : Shared) (H : Hp) (args : Args) (us : List Value) (vs : List V) (Q : VK) (E : XK), Room k A → Env0 P w K mg base A outer s H → BindsTo s fd args (ps.zip us) → Vals vs us → sp vs H Q E →
    codeAny (model P w) A (.call (.ref f) args) (CR CX outer P w H s Q E) s
theorem Env0.make {P : Program} {w : World} {K : PySem.W.Frag} {mg : Str → Option Value} {base : Heap} {A : Around} {outer : List Env} {s : Shared} {H : Hp} (e : Env0 P w K mg base A outer s H) (C : Addr) (us : List Value) (kw : List (Str × Value)) :
    Env0 P w K mg base (A.under (.builtin "type.__call__" ⟨.ref C :: us, kw⟩)) outer s H := ⟨by first | exact e.frames | (simpa [Around.under, Code.envs, Code.isFrame, pushEnvs] using e.frames), e.mod, e.bs, e.bsz, e.funs, e.frf, e.hok, e.bare⟩
section
variable {X : Cx} {pins : List (Addr × Obj)} {σ : St} {H : Hp} {s s' : Shared}
theorem Inv.env0 (I : Inv X pins σ H s) : Env0 X.prog X.w X.K X.mg X.base X.A X.stack s H :=
  ⟨I.ok.frames, I.ok.mod, I.bs, Nat.le_trans I.ok.bsz I.sz, I.stack, I.stkFree, I.hok, I.bare⟩
theorem Inv.after {Q : VK} {u : Value} (I : Inv X pins σ H s) (h : CE X.stack X.prog X.w H s Q u s') : EP X pins σ Q u s' := by
  obtain ⟨v, H', os, bare, un, hok, r, q⟩ := h
  obtain ⟨hh, g, d, t, os'⟩ := s'
  obtain rfl : os' = s.os := os
  exact ⟨v, H', I.call (h' := hh) (g' := g) (d' := d) (t' := t) (ch := []) un hok bare (fun b z => absurd z (by simp)), r, q⟩
end
def tCall (sp : Sp) (dvs : List V) (E : XK) (t : TA) : TE := fun σ H Q => t σ H fun vs H1 => sp (vs ++ dvs) H1 Q E
def tMeth (C : Addr) (m : Str) (sp : Sp) (dvs : List V) (E : XK) (ta : TE) (t : TA) : TE := fun σ H Q => ta σ H fun x H1 => ∃ a dx fs, x = .ref a ∧ H1 a = some (.ins C dx fs) ∧ fs.lookup m = none ∧
  t σ H1 fun vs H2 => sp (x :: (vs ++ dvs)) H2 Q E
def tMake (C : Addr) (sp : Sp) (dvs : List V) (E : XK) (t : TA) : TE := fun σ H Q => t σ H fun vs H1 => ∀ x dx, H1 x = none → H1 dx = none → dx ≠ x →
  sp (.ref x :: (vs ++ dvs)) (upd (upd H1 dx (.own x)) x (.ins C dx [])) (fun v H2 => v = .non ∧ Q (.ref x) H2) E
def Binds (K : PySem.W.Frag) (fd : FuncData) (ps : List Str) (ds : List Value) : Prop :=
  ∀ (s : Shared) (us : List Value), K.In s.heap → (us ++ ds).length = ps.length → BindsTo s fd ⟨us, []⟩ (ps.zip (us ++ ds))
theorem Binds.all {K : PySem.W.Frag} {fd : FuncData} {ps : List Str} (h : ∀ us : List Value, us.length = ps.length → bindArgs fd ⟨us, []⟩ = pure (ps.zip us)) : Binds K fd ps [] := fun s us _ hl => by
  rw [List.append_nil] at hl ⊢
  exact .of_eq (h us hl)
def Passes (CX : CXT) (X : Cx) (E : XK) : Prop := ∀ (pins : List (Addr × Obj)) (σ : St) (H : Hp) (s : Shared) (e : Value) (s' : Shared), Inv X pins σ H s → CX X.stack H s E e s' → X.xe e s'
section
variable {X : Cx} {CX : CXT} {k : Nat} {f C : Addr} {fd : FuncData} {ps : List Str} {sp : Sp} {dvs : List V} {ds : List Value} {E : XK} {x m : Str} {p pos apos : Pos} {e o : Expr} {es : List Expr} {ta : TE} {t : TA}
theorem run_fn {pins : List (Addr × Obj)} {σ : St} {H : Hp} {s : Shared} {Q : VK} {us : List Value} {vs : List V} (F : FnOk X.prog X.w X.K X.mg X.base CX k f fd ps sp) (hr : Room k X.A) (hb : Binds X.K fd ps ds) (hd : Vals dvs ds) (hx : Passes CX X E)
    (I : Inv X pins σ H s) (r : Vals vs us) (h : sp (vs ++ dvs) H Q E) : wpAny (model X.prog X.w) X.A (call (.ref f) us) (EP X pins σ Q) X.xe s := by
  have r2 : Vals (vs ++ dvs) (us ++ ds) := r.append hd
  have hl : (us ++ ds).length = ps.length := by rw [← r2.length]; exact F.len _ _ _ _ h
  refine wpAny_call (codeAny_mono (F.run X.A X.stack s H ⟨us, []⟩ (us ++ ds) (vs ++ dvs) Q E hr I.env0 (hb s us I.kIn hl) r2 h) fun r s' hq => ?_)
  cases r with
  | error e => exact hx pins σ H s e s' I hq
  | ok fl =>
    cases fl with
    | ret u => exact I.after hq
    | next => exact False.elim hq
    | brk => exact False.elim hq
    | cont => exact False.elim hq
theorem pe_call (F : FnOk X.prog X.w X.K X.mg X.base CX k f fd ps sp) (hr : Room k X.A) (hg : Gl X x) (hm : X.mg x = some (.ref f)) (hk : PySem.W.keepIn X.K (.ref f) = true) (hb : Binds X.K fd ps ds) (hd : Vals dvs ds) (hx : Passes CX X E)
    (ha : PA X (e :: es) t) (hdb : (x == ("__debug__" : Str)) = false := by decide) (he : starEach (e :: es) X.env = (false, eval e X.env) :: starEach es X.env := by rfl) (hpl : (backTo pos (starEach es X.env)).any (·.1) = false := by rfl) :
    PE X (.Call (.Name x p) (e :: es) [] pos) (tCall sp dvs E t) := by
  intro pins s σ H Q I h
  refine wpAny_Call_Name_kw (ld_glob I hg hm ?_ hdb)
  refine PySem.W.callWith_K (h₀ := X.base) I.ok.mod.kin hk (thn (ha pos pins s σ H _ I h) fun us s1 ⟨vs, H1, I1, r, q⟩ => ⟨I1.kIn, ?_⟩) he hpl
  exact run_fn F hr hb hd hx I1 r q
theorem pe_meth {pl : Sem Bool} (he : PE X o ta) (c : Cls X.K C) (hm : Meth X.K C m f) (F : FnOk X.prog X.w X.K X.mg X.base CX k f fd ps sp) (hr : Room k X.A) (hb : Binds X.K fd ps ds) (hd : Vals dvs ds) (hx : Passes CX X E) (ha : PA X (e :: es) t)
    (hst : starEach (e :: es) X.env = (false, eval e X.env) :: starEach es X.env := by rfl) (hpl : (backTo pos (starEach es X.env)).any (·.1) = false := by rfl)
    (ht : eval (.Call (.Attribute o m apos) (e :: es) [] pos) X.env = (do
      let ov ← eval o X.env
      standAt apos.atName
      let (f, first) ← holding [ov] (getMethod ov m pl)
      callWith pos f first (backTo pos (starEach (e :: es) X.env)) (backToKw pos (keywordEach [] X.env))) := by rfl) :
    PE X (.Call (.Attribute o m apos) (e :: es) [] pos) (tMeth C m sp dvs E ta t) := by
  intro pins s σ H Q I h
  refine PySem.W.methodCall_KW (pl := pl) (thn (he pins s σ H _ I h) fun u s1 ⟨x, H1, I1, rx, a, dx, fs, ex, ea, l, q⟩ => ?_) ht
  subst ex
  obtain rfl : u = Value.ref a := rx
  refine getmeth_ok I1 ea c hm l ?_
  refine PySem.W.callWith_K (first := [.ref a]) (h₀ := X.base) I.ok.mod.kin hm.kp (thn (ha pos pins s1 σ H1 _ I1 q) fun us s2 ⟨vs, H2, I2, r, q2⟩ => ⟨I2.kIn, ?_⟩) hst hpl
  exact run_fn (us := .ref a :: us) (vs := .ref a :: vs) F hr hb hd hx I2 (.cons rfl r) q2
structure Mk (K : PySem.W.Frag) (C f : Addr) : Prop where
  makes : PySem.W.makesIn K C = true
  init : PySem.W.findIn K (.ref C) "__init__" = some (some (.ref f))
  fn : PySem.W.isFn K (.ref f) = true
  kp : PySem.W.keepIn K (.ref C) = true
theorem run_make {pins : List (Addr × Obj)} {σ : St} {H : Hp} {s : Shared} {Q : VK} {us : List Value} {vs : List V} (M : Mk X.K C f) (F : FnOk X.prog X.w X.K X.mg X.base CX k f fd ps sp) (hr : Room (k + 1) X.A) (hb : Binds X.K fd ps ds) (hd : Vals dvs ds)
    (hx : Passes CX X E) (I : Inv X pins σ H s) (r : Vals vs us)
    (h : ∀ x dx, H x = none → H dx = none → dx ≠ x → sp (.ref x :: (vs ++ dvs)) (upd (upd H dx (.own x)) x (.ins C dx [])) (fun v H2 => v = .non ∧ Q (.ref x) H2) E) :
    wpAny (model X.prog X.w) X.A (call (.ref C) us) (EP X pins σ Q) X.xe s := by
  have hq := h (s.heap.objs.size + 1) s.heap.objs.size (I.hok.fresh (Nat.le_succ _)) (I.hok.fresh (Nat.le_refl _)) (Nat.ne_of_lt (Nat.lt_succ_self _))
  have I2 := Inv.made (C := C) I
  have r2 : Vals (V.ref (s.heap.objs.size + 1) :: (vs ++ dvs)) (Value.ref (s.heap.objs.size + 1) :: (us ++ ds)) := .cons rfl (r.append hd)
  have hl : (Value.ref (s.heap.objs.size + 1) :: us ++ ds).length = ps.length := by
    have e := r2.length
    rw [F.len _ _ _ _ hq] at e
    exact e.symm
  refine wpAny_call (make_map (f := f) I.kIn M.makes M.init (beq_iff_eq.mp M.fn) (codeAny_mono (F.run _ X.stack _ _ ⟨Value.ref (s.heap.objs.size + 1) :: us, []⟩ (Value.ref (s.heap.objs.size + 1) :: (us ++ ds)) _ _ E (hr.make C us [])
    (I2.env0.make C us []) (hb _ (Value.ref (s.heap.objs.size + 1) :: us) I2.kIn hl) r2 hq) fun r s' hq' => ?_))
  cases r with
  | error e => exact hx pins σ _ _ e s' I2 hq'
  | ok fl =>
    cases fl with
    | ret u =>
      obtain ⟨v, H', I3, rv, ev, q3⟩ := I2.after hq'
      subst ev
      exact ⟨rv, ⟨V.ref (s.heap.objs.size + 1), H', I3, rfl, q3⟩⟩
    | next => exact False.elim hq'
    | brk => exact False.elim hq'
    | cont => exact False.elim hq'
theorem pe_make (M : Mk X.K C f) (F : FnOk X.prog X.w X.K X.mg X.base CX k f fd ps sp) (hr : Room (k + 1) X.A) (hg : Gl X x) (hm : X.mg x = some (.ref C)) (hb : Binds X.K fd ps ds) (hd : Vals dvs ds) (hx : Passes CX X E)
    (ha : PA X (e :: es) t) (hdb : (x == ("__debug__" : Str)) = false := by decide) (he : starEach (e :: es) X.env = (false, eval e X.env) :: starEach es X.env := by rfl) (hpl : (backTo pos (starEach es X.env)).any (·.1) = false := by rfl) :
    PE X (.Call (.Name x p) (e :: es) [] pos) (tMake C sp dvs E t) := by
  intro pins s σ H Q I h
  refine wpAny_Call_Name_kw (ld_glob I hg hm ?_ hdb)
  refine PySem.W.callWith_K (h₀ := X.base) I.ok.mod.kin M.kp (thn (ha pos pins s σ H _ I h) fun us s1 ⟨vs, H1, I1, r, q⟩ => ⟨I1.kIn, ?_⟩) he hpl
  exact run_make M F hr hb hd hx I1 r q
end
section
variable {X : Cx} {CX : CXT} {k : Nat} {f C : Addr} {fd : FuncData} {ps ks : List Str} {sp : Sp} {E : XK} {x m : Str} {p pos apos kpos : Pos} {e o : Expr} {es : List Expr} {kws : List Keyword} {te ta : TE} {t tk : TA} {nm : Option Str}
variable {g : List Value → List Value → List Value} {gV : List V → List V → List V}
end
structure FnScope (N P : List Str) (sc : Scope) : Prop where
  kind : sc.kind = .function
  co : sc.isCoroutine = false
  gen : sc.isGenerator = false
  nd : N.Nodup
  pre : N.take P.length = P
  par : ∀ x ∈ P, sc.names.lookup x = some .local ∨ sc.names.lookup x = some .cell
  nofree : ∀ y ∈ sc.names, y.2 ≠ .free
theorem bindL_out {kindOf : Str → Option NameKind} {x : Str} : ∀ {binds : List (Str × Value)} {m : Str → Option Value}, (∀ v, (x, v) ∉ binds) → bindL kindOf binds m x = m x
  | [], _, _ => rfl
  | (n, v) :: r, m, h => by
    unfold bindL
    rw [bindL_out fun w hw => h w (List.mem_cons_of_mem _ hw)]
    split
    · have : x ≠ n := by rintro rfl; exact h v List.mem_cons_self
      simp [this]
    · rfl
theorem bindC_out {kindOf : Str → Option NameKind} {x : Str} : ∀ {binds : List (Str × Value)} {m : Str → Option Value}, (∀ v, (x, v) ∉ binds) → bindC kindOf binds m x = m x
  | [], _, _ => rfl
  | (n, v) :: r, m, h => by
    unfold bindC
    rw [bindC_out fun w hw => h w (List.mem_cons_of_mem _ hw)]
    split
    · rfl
    · have : x ≠ n := by rintro rfl; exact h v List.mem_cons_self
      simp [this]
theorem bindL_get {kindOf : Str → Option NameKind} {x : Str} {v : Value} : ∀ {P : List Str} {vs : List Value} {i : Nat} {m : Str → Option Value}, P.Nodup → P[i]? = some x → vs[i]? = some v → kindOf x = some .local →
    bindL kindOf (P.zip vs) m x = some v
  | [], _, _, _, _, h, _, _ => by simp at h
  | _ :: _, [], _, _, _, _, h, _ => by simp at h
  | p :: P, w :: vs, 0, m, nd, h1, h2, hk => by
    simp at h1 h2; subst h1; subst h2
    show bindL kindOf ((p, w) :: P.zip vs) m p = _
    unfold bindL
    rw [bindL_out fun v hv => (List.nodup_cons.mp nd).1 (List.of_mem_zip hv).1, if_pos hk]
    simp
  | p :: P, w :: vs, i + 1, m, nd, h1, h2, hk => by
    show bindL kindOf ((p, w) :: P.zip vs) m x = _
    unfold bindL
    exact bindL_get (i := i) (List.nodup_cons.mp nd).2 (by simpa using h1) (by simpa using h2) hk
theorem bindC_get {kindOf : Str → Option NameKind} {x : Str} {v : Value} : ∀ {P : List Str} {vs : List Value} {i : Nat} {m : Str → Option Value}, P.Nodup → P[i]? = some x → vs[i]? = some v → kindOf x ≠ some .local →
    bindC kindOf (P.zip vs) m x = some v
  | [], _, _, _, _, h, _, _ => by simp at h
  | _ :: _, [], _, _, _, _, h, _ => by simp at h
  | p :: P, w :: vs, 0, m, nd, h1, h2, hk => by
    simp at h1 h2; subst h1; subst h2
    show bindC kindOf ((p, w) :: P.zip vs) m p = _
    unfold bindC
    rw [bindC_out fun v hv => (List.nodup_cons.mp nd).1 (List.of_mem_zip hv).1, if_neg hk]
    simp
  | p :: P, w :: vs, i + 1, m, nd, h1, h2, hk => by
    show bindC kindOf ((p, w) :: P.zip vs) m x = _
    unfold bindC
    exact bindC_get (i := i) (List.nodup_cons.mp nd).2 (by simpa using h1) (by simpa using h2) hk
def start (N : List Str) (vs : List V) : St := vs.map some ++ List.replicate (N.length - vs.length) none
def cxOf (CX : CXT) (P : Program) (w : World) (K : PySem.W.Frag) (mg : Str → Option Value) (base : Heap) (N : List Str) (qual : Str) (scope : Scope) (f : Addr) (cd : Value) (A : Around) (outer : List Env) (s : Shared) (H : Hp) (E : XK) : Cx where
  prog := P
  w := w
  K := K
  mg := mg
  base := base
  A := A.deeper (envOfC qual scope s.heap.objs.size f cd)
  N := N
  s₀ := s
  H₀ := H
  env := envOfC qual scope s.heap.objs.size f cd
  outer := outer
  stack := envOfC qual scope s.heap.objs.size f cd :: outer
  ex := []
  calm := true
  fn := fun _ => true
  pn := []
  xe := fun e s' => wpAny (model P w) (A.deeper (envOfC qual scope s.heap.objs.size f cd)) (leaving (envOfC qual scope s.heap.objs.size f cd) e) (fun _ s'' => CX outer H s E e s'') (fun e' s'' => CX outer H s E e' s'') s'
theorem cell_has {sc : Scope} {n : Nat} {x : Str} (h : sc.names.lookup x = some .cell) : ∃ c, (cellsFrom n sc.names []).lookup x = some c := by
  have q := PySem.W.cellsFrom_some sc.names n [] (.inl h)
  exact Option.isSome_iff_exists.mp q
theorem inv_start {CX : CXT} {P : Program} {w : World} {K : PySem.W.Frag} {mg : Str → Option Value} {base : Heap} {N ps : List Str} {qual : Str} {scope : Scope} {f : Addr} {cd : Value} {A : Around} {outer : List Env} {s s1 : Shared} {H : Hp} {E : XK} {us : List Value} {vs : List V}
    (S : FnScope N ps scope) (hd : A.handled = none) (e0 : Env0 P w K mg base A outer s H) (hl : vs.length = ps.length) (r : Vals vs us)
    (x : InCallC s s.heap.objs.size (bindL (envOfC qual scope s.heap.objs.size f cd).kindOf (ps.zip us) fun _ => none) (cellsFrom (s.heap.objs.size + 1) scope.names []) (bindC (envOfC qual scope s.heap.objs.size f cd).kindOf (ps.zip us) fun _ => none) s1) :
    Inv (cxOf CX P w K mg base N qual scope f cd A outer s H E) [] (start N vs) H s1 := by
  have hpl : ps.length ≤ N.length := by have := congrArg List.length S.pre; rw [List.length_take] at this; omega
  obtain ⟨h1, tk, rfl, hk⟩ := x.done
  have noA : ∀ b : Addr, b ∉ (cxOf CX P w K mg base N qual scope f cd A outer s H E).ex := fun b z => absurd (show b ∈ ([] : List Addr) from z) (by simp)
  refine ⟨⟨e0.mod, S.kind, rfl, rfl, Nat.le_refl _, fun y z c h1 h2 => ?_, fun y hy => ?_, fun y c _ h => ?_, fun _ => hd, Around.frames_deeper e0.frames, .inr ⟨rfl, rfl⟩, fun b z => absurd z (noA b), e0.bs, e0.bsz, fun b _ _ => noA b, fun b z => absurd z (noA b), e0.funs, e0.frf⟩,
    rfl, e0.bare, Un.kept hk, ⟨_, x.toInCall.ns, fun i y v h1 h2 h3 => ?_⟩, fun y c h => ⟨_, x.cell y c h⟩, e0.hok.fresh (Nat.le_refl _), fun y c h => ?_, fun p hp => absurd (show p ∈ ([] : List (Addr × Obj)) from hp) (by simp), e0.hok.kept hk, ?_⟩
  · exact name_of_addr x.apart (PySem.mem_of_lookup h1) (PySem.mem_of_lookup h2)
  · have hy : scope.names.lookup y = some .cell ∨ scope.names.lookup y = some .free := hy
    rcases hy with hy | hy
    · exact cell_has hy
    · exact absurd rfl (S.nofree _ (PySem.mem_of_lookup hy))
  · exact Nat.le_of_lt (x.above y c (PySem.mem_of_lookup h))
  · have hi : i < vs.length := by
      unfold start at h2
      by_cases hi : i < vs.length
      · exact hi
      · rw [List.getElem?_append_right (by simpa using hi)] at h2
        rw [List.getElem?_replicate] at h2
        split at h2 <;> cases h2
    have ha : vs[i]? = some v := by
      unfold start at h2
      rw [List.getElem?_append_left (by simpa using hi), List.getElem?_map] at h2
      cases e : vs[i]? with
      | none => rw [e] at h2; cases h2
      | some a => rw [e] at h2; cases h2; rfl
    obtain ⟨u, hu, rv⟩ := r.get ha
    have hp : ps[i]? = some y := by
      rw [← S.pre, List.getElem?_take_of_lt (by omega)]; exact h1
    have ndP : ps.Nodup := by rw [← S.pre]; exact S.nd.sublist (List.take_sublist _ _)
    refine ⟨u, rv, ?_⟩
    rcases S.par y (List.mem_of_getElem? hp) with k | k
    · exact .inl ⟨k, bindL_get ndP hp hu k⟩
    · obtain ⟨c, e⟩ := cell_has (n := s.heap.objs.size + 1) k
      refine .inr ⟨.inl k, c, e, ?_⟩
      have q := x.cell y c e
      rw [bindC_get ndP hp hu (by show scope.names.lookup y ≠ _; rw [k]; decide)] at q
      exact q
  · exact e0.hok.fresh (Nat.le_of_lt (x.above y c (PySem.mem_of_lookup h)))
  · unfold start
    show _ = N.length
    rw [List.length_append, List.length_map, List.length_replicate]
    omega
theorem fn_of {CX : CXT} {P : Program} {w : World} {K : PySem.W.Frag} {mg : Str → Option Value} {base : Heap} {k : Nat} {f : Addr} {name qual : Str} {params : Arguments} {body : List Stmt} {scope : Scope} {dV kV doc pm cdv ct oc : Value} {an od : Option Addr}
    {osl : Array (Option Value)} {N ps : List Str} {sp : Sp} (lk : K.lookup f = some ⟨oc, od, .func (PySem.W.fnOf name qual params body scope dV kV doc pm an cdv ct), osl⟩) (hcd : PySem.W.codeIn K cdv qual = true) (S : FnScope N ps scope)
    (len : ∀ vs H Q E, sp vs H Q E → vs.length = ps.length)
    (hbody : ∀ (A : Around) (outer : List Env) (s : Shared) (H : Hp) (vs : List V) (Q : VK) (E : XK), Room k (A.deeper (envOfC qual scope s.heap.objs.size f cdv)) → sp vs H Q E →
      ∃ t, PSs (cxOf CX P w K mg base N qual scope f cdv A outer s H E) body t ∧ t { nx := fun _ H' => Q .non H', rt := Q } (start N vs) H) :
    FnOk P w K mg base CX (k + 1) f (PySem.W.fnOf name qual params body scope dV kV doc pm an cdv ct) ps sp := by
  refine ⟨len, fun A outer s H args us vs Q E hr e0 hb r hsp => ?_⟩
  have hl := len _ _ _ _ hsp
  have KX : K.In s.heap := e0.mod.kin.keeps fun b o e => (e0.bs b o e).1
  have lim : s.heap.NoLimit := e0.mod.nolimit.keeps fun b o e => (e0.bs b o e).1
  have hkind : ∀ y ∈ ps.zip us, scope.names.lookup y.1 = some .local ∨ (scope.names.lookup y.1 = some .cell ∧ ((cellsFrom (s.heap.objs.size + 1) scope.names []).lookup y.1).isSome = true) := fun ⟨n, v⟩ hy => by
    rcases S.par n (List.of_mem_zip hy).1 with q | q
    · exact .inl q
    · exact .inr ⟨q, PySem.W.cellsFrom_some _ _ _ (.inl q)⟩
  refine codeAny_call_function hr.depth (KX _ _ lk) rfl S.co S.gen rfl (PySem.W.codeRec_of KX hcd) (hb _ _ _ _ ?_)
  refine wpAny_newFunctionEnv_cells S.kind hkind fun env he s1 x => ?_
  subst he
  refine ⟨lim.keeps x.toInCall.keep, codeAny_func ?_⟩
  obtain ⟨t, ht, hq⟩ := hbody A outer s H vs Q E (hr.deeper _) hsp
  have I : Inv (cxOf CX P w K mg base N qual scope f cdv A outer s H E) [] (start N vs) H s1 := inv_start S hr.hd e0 hl r x
  refine wpAny_mono (ht [] s1 (start N vs) H _ I hq) (fun fl s' hs => ?_) fun e s' hs => hs
  have fin : ∀ {σ' : St} {H' : Hp} {v : V} {u : Value}, Inv (cxOf CX P w K mg base N qual scope f cdv A outer s H E) [] σ' H' s' → RelV v u → Q v H' → CE outer P w H s Q u s' :=
    fun {σ' H' v u} J rv q => ⟨v, H', J.os, J.bare, J.base, J.hok, rv, q⟩
  cases fl with
  | ret u =>
    obtain ⟨v, σ', H', J, rv, q⟩ := hs
    exact fin J rv q
  | next =>
    obtain ⟨σ', H', J, q⟩ := hs
    exact fin (v := V.non) (u := Value.none) J rfl q
  | brk =>
    obtain ⟨_, _, _, q⟩ := hs
    exact False.elim q
  | cont =>
    obtain ⟨_, _, _, q⟩ := hs
    exact False.elim q
end L2
namespace L2
open PySem PySem.Spec PyProof.Rows
section
variable {X : Cx} {x : Str} {p pos : Pos} {e : Expr} {es : List Expr} {t : TA} {id T : String} {r : List V → Hp → VK → Prop}
def tCB (r : List V → Hp → VK → Prop) (t : TA) : TE := fun σ H Q => t σ H fun vs H1 => r vs H1 Q
theorem pe_callB (hc : CallR X (.builtin id) r) (hg : Gl X x) (hm : X.mg x = none) (hv : bootBuiltins x = some (.builtin id)) (ha : PA X (e :: es) t) (hn : x ≠ "__name__" := by decide) (hdb : (x == ("__debug__" : Str)) = false := by decide)
    (he : starEach (e :: es) X.env = (false, eval e X.env) :: starEach es X.env := by rfl) (hpl : (backTo pos (starEach es X.env)).any (·.1) = false := by rfl) : PE X (.Call (.Name x p) (e :: es) [] pos) (tCB r t) := by
  intro pins s σ H Q I h
  refine wpAny_Call_Name_kw (ld_blt I hg hm hv ?_ hn hdb)
  exact PyProof.Rows.callWith_builtin1 (thn (ha pos pins s σ H _ I h) fun us s1 ⟨vs, H1, I1, r1, q1⟩ => hc pins s1 σ H1 vs us Q I1 r1 q1) he hpl
theorem pe_callTy (hc : CallR X (.type T) r) (hg : Gl X x) (hm : X.mg x = none) (hv : bootBuiltins x = some (.type T)) (ha : PA X (e :: es) t) (hn : x ≠ "__name__" := by decide) (hdb : (x == ("__debug__" : Str)) = false := by decide)
    (he : starEach (e :: es) X.env = (false, eval e X.env) :: starEach es X.env := by rfl) (hpl : (backTo pos (starEach es X.env)).any (·.1) = false := by rfl) : PE X (.Call (.Name x p) (e :: es) [] pos) (tCB r t) := by
  intro pins s σ H Q I h
  refine wpAny_Call_Name_kw (ld_blt I hg hm hv ?_ hn hdb)
  exact PyProof.Rows.callWith_type1 (thn (ha pos pins s σ H _ I h) fun us s1 ⟨vs, H1, I1, r1, q1⟩ => hc pins s1 σ H1 vs us Q I1 r1 q1) he hpl
end
end L2
namespace HT
open PySem PyProof.Rows
section
open PySem.SeqAt
open PySem.AutoSeq1 (wpAny_loadPart')
open PySem.MeetsSeq PySem.MeetsSeq2 PySem.MeetsSeq3
end
section
variable {prog : Program} {w : World} {A : Around} {E : Value → Shared → Prop} {s : Shared}
def sIx (n d : Nat) : Option Int → Nat
  | none => d
  | some v => if v < 0 then (v + (n : Int)).toNat else min v.toNat n
theorem sIx_none (n d : Nat) : sIx n d none = d := rfl
theorem sIx_nat (n d k : Nat) : sIx n d (some (k : Int)) = min k n := by
  show (if (k : Int) < 0 then ((k : Int) + (n : Int)).toNat else min (k : Int).toNat n) = min k n
  rw [if_neg (by omega), Int.toNat_natCast]
end
end HT
namespace L2
open PySem PySem.Spec PyProof.Rows
abbrev TO := St → Hp → (Option Int → Hp → Prop) → Prop
def PO (X : Cx) (e : Option Expr) (t : TO) : Prop :=
  ∀ (pins : List (Addr × Obj)) (s : Shared) (σ : St) (H : Hp) (Q : Option Int → Hp → Prop), Inv X pins σ H s → t σ H Q →
    wpAny (model X.prog X.w) X.A (evalPart e X.env) (fun u s' => ∃ o H', Inv X pins σ H' s' ∧ IsPart u o ∧ Q o H') X.xe s
def tNoPart : TO := fun _ H Q => Q none H
def tPart (t : TE) : TO := fun σ H Q => t σ H fun x H1 => ∃ i, x = .int i ∧ Q (some i) H1
theorem intsAre_of {ns : List Int} : ∀ {us : List Value}, Vals (ns.map V.int) us → IntsAre us ns := by
  induction ns with
  | nil => intro us r; rw [List.map_nil] at r; cases r; exact .nil
  | cons n ns ih =>
    intro us r
    rw [List.map_cons] at r
    cases r with
    | cons r1 r2 =>
      obtain ⟨t, e⟩ := r1
      subst e
      exact .cons n t (ih r2)
section
variable {X : Cx} {e : Expr} {te : TE} {lo hi : Option Expr} {tl th : TO} {pos p2 : Pos}
theorem po_none : PO X none tNoPart := by
  intro pins s σ H Q I h
  rw [evalPart_none]
  exact wpAny_pure ⟨none, H, I, .none, h⟩
theorem po_some (h : PE X e te) : PO X (some e) (tPart te) := by
  intro pins s σ H Q I hw
  rw [evalPart_some]
  refine thn (h pins s σ H _ I hw) fun u s1 ⟨x, H1, I1, r1, q1⟩ => ?_
  obtain ⟨i, rfl, q⟩ := q1
  obtain ⟨t, rfl⟩ := r1
  exact ⟨some i, H1, I1, .int i t, q⟩
def SlR (X : Cx) (r : V → Option Int → Option Int → Hp → VK → Prop) : Prop :=
  ∀ (pins : List (Addr × Obj)) (s : Shared) (σ : St) (H : Hp) (x : V) (v vl vu : Value) (lo hi : Option Int) (sl : Addr) (Q : VK), Inv X pins σ H s → RelV x v → s.heap.IsSliceOf sl vl vu .none → IsPart vl lo → IsPart vu hi → r x lo hi H Q →
    ∃ T id, typeLookup (.type T) "__getitem__" = pure (some (.builtin id)) ∧ s.TypeIs v T ∧ wpAny (model X.prog X.w) X.A (getItem v (.ref sl)) (EP X pins σ Q) X.xe s
def tSl (r : V → Option Int → Option Int → Hp → VK → Prop) (te : TE) (tl th : TO) : TE := fun σ H Q => te σ H fun x H1 => tl σ H1 fun l H2 => th σ H2 fun u H3 => r x l u H3 Q
theorem pe_slice {r : V → Option Int → Option Int → Hp → VK → Prop} (hr : SlR X r) (he : PE X e te) (hl : PO X lo tl) (hu : PO X hi th) : PE X (.Subscript e (.Slice lo hi none p2) pos) (tSl r te tl th) := by
  intro pins s σ H Q I h
  refine Subscript_ (thn (he pins s σ H _ I h) fun v s1 ⟨x, H1, I1, r1, q1⟩ => ?_)
  refine wpAny_Slice (thn (hl pins s1 σ H1 _ I1 q1) fun vl s2 ⟨l, H2, I2, pl, q2⟩ => thn (hu pins s2 σ H2 _ I2 q2) fun vu s3 ⟨u, H3, I3, pu, q3⟩ => ?_)
  rw [evalPart_none]
  refine wpAny_pure ?_
  have I4 : Inv X pins σ H3 { s3 with heap := s3.heap.push { cls := .type "slice", data := .fields #[vl, vu, .none] } } := I3.kept (t' := s3.toks) fun b ob q => Heap.get?_push_of_some _ q
  obtain ⟨T, id, hT, ht, hg⟩ := hr pins { s3 with heap := s3.heap.push { cls := .type "slice", data := .fields #[vl, vu, .none] } } σ H3 x v vl vu l u s3.heap.objs.size Q I4 r1 (Heap.IsSliceOf.new ..) pl pu q3
  show wpAny (model X.prog X.w) X.A (subscriptTail e (.Slice lo hi none p2) v (.ref s3.heap.objs.size)) (EP X pins σ Q) X.xe { s3 with heap := s3.heap.push { cls := .type "slice", data := .fields #[vl, vu, .none] } }
  exact tail_any (ops := [.ref s3.heap.objs.size, v]) ht hT hg (by with_unfolding_all rfl)
def cutV (xs : List V) (lo hi : Option Int) : List V := (xs.drop (HT.sIx xs.length 0 lo)).take (HT.sIx xs.length xs.length hi - HT.sIx xs.length 0 lo)
theorem cutV_length (xs : List V) (lo hi : Option Int) : (cutV xs lo hi).length ≤ xs.length := by
  unfold cutV
  rw [List.length_take, List.length_drop]
  omega
end
end L2
namespace L2
open PySem PySem.Spec PyProof.Rows
def ixN (n : Nat) (i : Int) : Option Nat := if 0 ≤ i then (if i < n then some i.toNat else none) else if -(n : Int) ≤ i then some (i + n).toNat else none
def atI {α : Type} (xs : List α) (i : Int) : Option α := (ixN xs.length i).bind fun j => xs[j]?
theorem ixN_seq {n : Nat} {i : Int} {j : Nat} (h : ixN n i = some j) : seqIndex? i n = some j ∧ j < n ∧ -(n : Int) ≤ i ∧ i < n := by
  unfold ixN at h
  by_cases h0 : 0 ≤ i
  · rw [if_pos h0] at h
    by_cases h1 : i < n
    · rw [if_pos h1] at h
      have e : i.toNat = j := Option.some.inj h
      exact ⟨by rw [seqIndex_of h0 h1, e], by omega, by omega, h1⟩
    · rw [if_neg h1] at h; cases h
  · rw [if_neg h0] at h
    by_cases h1 : -(n : Int) ≤ i
    · rw [if_pos h1] at h
      have e : (i + n).toNat = j := Option.some.inj h
      exact ⟨by rw [seqIndex_neg (by omega) h1, e], by omega, h1, by omega⟩
    · rw [if_neg h1] at h; cases h
theorem atI_get {α : Type} {xs : List α} {i : Int} {v : α} (h : atI xs i = some v) : ∃ j, seqIndex? i xs.length = some j ∧ xs[j]? = some v ∧ j < xs.length ∧ -(xs.length : Int) ≤ i ∧ i < xs.length := by
  unfold atI at h
  cases e : ixN xs.length i with
  | none => rw [e] at h; cases h
  | some j =>
    rw [e] at h
    obtain ⟨h1, h2, h3, h4⟩ := ixN_seq e
    exact ⟨j, h1, h, h2, h3, h4⟩
theorem atI_nat {α : Type} {xs : List α} {j : Nat} {v : α} (h : xs[j]? = some v) : atI xs (j : Int) = some v := by
  have hj : j < xs.length := (List.getElem?_eq_some_iff.mp h).1
  have e : ixN xs.length (j : Int) = some j := by
    unfold ixN
    rw [if_pos (by omega), if_pos (by omega)]; simp
  unfold atI; rw [e]; exact h
def PlainIx (b : Expr) : Prop := ∀ o i, subscripted b false o i = operate [o, i] (getItem o i)
def IxR (X : Cx) (r : R2) : Prop :=
  ∀ (value slice : Expr) (pins : List (Addr × Obj)) (s : Shared) (σ : St) (H : Hp) (x y : V) (v u : Value) (Q : VK), Inv X pins σ H s → RelV x v → RelV y u → r x y H Q →
    subscripted slice false v u = operate [v, u] (getItem v u) → wpAny (model X.prog X.w) X.A (subscriptTail value slice v u) (EP X pins σ Q) X.xe s
def MtR (X : Cx) (id : String) (r : V → List V → Hp → VK → Prop) : Prop :=
  ∀ (pins : List (Addr × Obj)) (s : Shared) (σ : St) (H : Hp) (x : V) (xs : List V) (v : Value) (us : List Value) (Q : VK), Inv X pins σ H s → RelV x v → Vals xs us → r x xs H Q →
    wpAny (model X.prog X.w) X.A (call (.builtin id) (v :: us)) (EP X pins σ Q) X.xe s
section
variable {X : Cx} {a b : Expr} {ta tb : TE} {pos : Pos}
theorem pe_ix {r : R2} (hr : IxR X r) (ha : PE X a ta) (hb : PE X b tb) (hs : PlainIx b) : PE X (.Subscript a b pos) (tOp r ta tb) := by
  intro pins s σ H Q I h
  exact Subscript_ (binT ha hb I h fun v u s2 x y H2 I2 rx ry q => hr a b pins s2 σ H2 x y v u Q I2 rx ry q (hs _ _))
def rIxL (K : PySem.W.Frag) : R2 := fun x y H Q => ∃ p xs i v, x = .ref p ∧ y = .int i ∧ SqL K H p xs ∧ atI xs i = some v ∧ Q v H
def rIxT (K : PySem.W.Frag) : R2 := fun x y H Q => ∃ p xs i v, x = .ref p ∧ y = .int i ∧ SqT K H p xs ∧ atI xs i = some v ∧ Q v H
theorem ix_list : IxR X (rIxL X.K) := by
  intro value slice pins s σ H x y v u Q I rx ry h hs
  obtain ⟨p, xs, i, z, rfl, rfl, hq, he, q⟩ := h
  cases rx
  obtain ⟨t, rfl⟩ := ry
  obtain ⟨its, r, pl, hz⟩ := I.list hq
  obtain ⟨j, h1, h2, h3, h4, h5⟩ := atI_get he
  obtain ⟨w, ew, rw'⟩ := r.get h2
  have hl := r.length
  have hn := line63
  have fin : EP X pins σ Q w s := ⟨z, H, I, rw', q⟩
  by_cases h0 : 0 ≤ i
  · have hj : i.toNat = j := by
      rw [seqIndex_of h0 h5] at h1
      exact Option.some.inj h1
    exact item_listR pl.isList h0 (by omega) (by rw [hj]; simpa using ew) fin hs
  · have hj : (i + (its.toArray.size : Int)).toNat = j := by
      rw [seqIndex_neg (by omega) h4] at h1
      rw [List.size_toArray, ← hl]
      exact Option.some.inj h1
    exact subscriptTail_builtinR (x := w) pl.isList.typeIs slot_list_getitem.lookup
      (wpAny_getItem_list_neg (Q := fun r s' => r = w ∧ EP X pins σ Q r s') pl.isList (by omega) (by rw [List.size_toArray] <;> omega) (by omega) (by rw [hj]; simpa using ew) ⟨rfl, fin⟩) hs
theorem ix_tup : IxR X (rIxT X.K) := by
  intro value slice pins s σ H x y v u Q I rx ry h hs
  obtain ⟨p, xs, i, z, rfl, rfl, hq, he, q⟩ := h
  cases rx
  obtain ⟨t, rfl⟩ := ry
  obtain ⟨its, r, pl, hz⟩ := I.tuple hq
  obtain ⟨j, h1, h2, h3, h4, h5⟩ := atI_get he
  obtain ⟨w, ew, rw'⟩ := r.get h2
  have hl := r.length
  have hn := line63
  have fin : EP X pins σ Q w s := ⟨z, H, I, rw', q⟩
  exact subscriptTail_builtinR (x := w) pl.typeIs slot_tuple_getitem.lookup
    (getItem_tuple (j := j) (Q := fun r s' => r = w ∧ EP X pins σ Q r s') pl (by omega) (by omega) (by rw [List.size_toArray, ← hl]; exact h1) (by simpa using ew) ⟨rfl, fin⟩) hs
theorem mapSeq_set (its : List Value) (n j : Nat) (u : Value) : Obj.mapSeq (·.setIfInBounds j u) { cls := .type "list", data := .seq its.toArray n } = { cls := .type "list", data := .seq (its.set j u).toArray n } := by
  simp [Obj.mapSeq]
theorem Inv.lst {pins : List (Addr × Obj)} {σ : St} {H : Hp} {s : Shared} {p : Addr} {xs : List V} (I : Inv X pins σ H s) (h : H p = some (.lst xs)) :
    ∃ (its : List Value) (n : Nat), Vals xs its ∧ s.heap.get? p = some { cls := .type "list", data := .seq its.toArray n } ∧ xs.length ≤ sizeLine := by
  obtain ⟨z, its, n, r, e⟩ := I.hok p _ h
  exact ⟨its, n, r, e, z⟩
theorem Inv.lstUpd {pins : List (Addr × Obj)} {σ : St} {H : Hp} {s : Shared} {p : Addr} {xs ys : List V} {its its' : List Value} {n n' : Nat} {f : Obj → Obj} (I : Inv X pins σ H s) (h : H p = some (.lst xs))
    (ho : s.heap.get? p = some { cls := .type "list", data := .seq its.toArray n }) (hf : f { cls := .type "list", data := .seq its.toArray n } = { cls := .type "list", data := .seq its'.toArray n' }) (r : Vals ys its') (hz : ys.length ≤ sizeLine) (t : Nat) :
    Inv X pins σ (upd H p (.lst ys)) { s with heap := s.heap.update p f, toks := t } := by
  have e : (s.heap.update p f).get? p = some { cls := .type "list", data := .seq its'.toArray n' } := by
    rw [Heap.get?_update_self f ho (by rw [hf] <;> rfl), hf]
  refine I.write (x := p) (e := p) (by rw [h]; trivial) (.inl rfl) (fun b u hb q => (Heap.get?_update_other _ _ (Ne.symm hb)).trans q) ⟨_, e⟩ ?_
  exact ⟨hz, its', n', r, e⟩
def rSetL : V → V → V → Hp → (Hp → Prop) → Prop := fun o i v H Q => ∃ p xs k j, o = .ref p ∧ i = .int k ∧ H p = some (.lst xs) ∧ ixN xs.length k = some j ∧ Q (upd H p (.lst (xs.set j v)))
theorem set_list : PSet X rSetL := by
  intro pins s σ H o i v ov iv u Q I ro ri rv h
  obtain ⟨p, xs, k, j, rfl, rfl, hp, hj, q⟩ := h
  cases ro
  obtain ⟨t, rfl⟩ := ri
  obtain ⟨its, n, r, ho, hz⟩ := I.lst hp
  obtain ⟨h1, h2, h3, h4⟩ := ixN_seq hj
  have hl := r.length
  have hn := line63
  have I' : Inv X pins σ (upd H p (.lst (xs.set j v))) { s with heap := s.heap.update p (Obj.mapSeq (·.setIfInBounds j u)) } :=
    I.lstUpd hp ho (mapSeq_set its n j u) (r.set rv j) (by rw [List.length_set]; exact hz) s.toks
  by_cases h0 : 0 ≤ k
  · have hk : k.toNat = j := by
      rw [seqIndex_of h0 h4] at h1
      exact Option.some.inj h1
    exact PySem.W.ki_setAt ho h0 (by omega) (by rw [List.size_toArray, ← hl]; exact h4) (by rw [hk]; exact ⟨_, I', q⟩)
  · have hk : (k + (its.toArray.size : Int)).toNat = j := by
      rw [seqIndex_neg (by omega) h3] at h1
      rw [List.size_toArray, ← hl]
      exact Option.some.inj h1
    exact PySem.W.ki_setBack ho (by omega) (by rw [List.size_toArray, ← hl]; exact h3) (by omega) (by rw [hk]; exact ⟨_, I', q⟩)
theorem slice_bounds (lo hi : Option Int) (n : Nat) : (sliceBounds lo hi none n).1 = ((HT.sIx n 0 lo : Nat) : Int) ∧ (sliceBounds lo hi none n).2.1 = ((HT.sIx n n hi : Nat) : Int) ∧ (sliceBounds lo hi none n).2.2 = 1 := by
  refine ⟨?_, ?_, rfl⟩
  · cases lo with
    | none => simp [sliceBounds, HT.sIx]
    | some i =>
      simp only [sliceBounds, HT.sIx, Option.getD_none, show (1 : Int) > 0 by decide, if_true]
      by_cases h : i < 0
      · simp only [h, if_true] <;> omega
      · simp only [h, if_false] <;> omega
  · cases hi with
    | none => simp [sliceBounds, HT.sIx]
    | some i =>
      simp only [sliceBounds, HT.sIx, Option.getD_none, show (1 : Int) > 0 by decide, if_true]
      by_cases h : i < 0
      · simp only [h, if_true] <;> omega
      · simp only [h, if_false] <;> omega
theorem slicePick_cut (its : List Value) (lo hi : Option Int) : slicePick its.toArray lo hi none = ((its.drop (HT.sIx its.length 0 lo)).take (HT.sIx its.length its.length hi - HT.sIx its.length 0 lo)).toArray := by
  obtain ⟨h1, h2, h3⟩ := slice_bounds lo hi its.toArray.size
  unfold slicePick
  rw [h1, h2, h3]
  simp only [sliceRange_one, pick_run, List.size_toArray] <;> rfl
def rSlL (K : PySem.W.Frag) : V → Option Int → Option Int → Hp → VK → Prop := fun x lo hi H Q => ∃ a xs, x = .ref a ∧ SqL K H a xs ∧ ∀ p, H p = none → Q (.ref p) (upd H p (.lst (cutV xs lo hi)))
theorem sl_list : SlR X (rSlL X.K) := by
  intro pins s σ H x v vl vu lo hi sl Q I rx hs pl pu h
  obtain ⟨a, xs, rfl, hx, q⟩ := h
  cases rx
  obtain ⟨its, r, ht, hz⟩ := I.list hx
  have hlen := r.length
  refine ⟨"list", _, slot_list_getitem.lookup, ht.isList.typeIs, ?_⟩
  refine wpAny_getItem_list_slice ht.isList hs pl pu .none (by simp) ?_ (by rw [List.size_toArray] <;> omega)
  rw [slicePick_cut, ← hlen]
  refine ⟨.ref s.heap.objs.size, _, I.laid (t' := s.toks) (o := .lst (cutV xs lo hi)) (fun b ob q => Heap.get?_push_of_some _ q) (Nat.le_refl _) ?_, rfl, q _ (I.hok.fresh (Nat.le_refl _))⟩
  exact ⟨Nat.le_trans (cutV_length xs lo hi) hz, _, 0, (r.drop (HT.sIx xs.length 0 lo)).take (HT.sIx xs.length xs.length hi - HT.sIx xs.length 0 lo), Heap.get?_push_size _ rfl⟩
theorem call_list_of : CallR X (.type "list") (fun xs H Q => ∃ p ys, xs = [.ref p] ∧ (SqL X.K H p ys ∨ SqT X.K H p ys) ∧ ∀ l, H l = none → Q (.ref l) (upd H l (.lst ys))) := by
  intro pins s σ H xs us Q I r h
  obtain ⟨p, ys, rfl, hq, q⟩ := h
  obtain ⟨u, rfl, rx⟩ := vals1 r
  cases rx
  have fin : ∀ (its : List Value), Vals ys its → ys.length ≤ sizeLine → ∀ (h' : Heap) (c' : Nat), (∀ b o', s.heap.get? b = some o' → h'.get? b = some o') →
      h'.get? s.heap.objs.size = some { cls := .type "list", dict := none, data := .seq its.toArray c', slots := #[] } → EP X pins σ Q (.ref s.heap.objs.size) { s with heap := h' } := fun its r' hz h' c' kp e =>
    ⟨.ref s.heap.objs.size, _, I.laid (t' := s.toks) kp (Nat.le_refl _) (show ObjOk X.prog X.w _ h' _ (.lst ys) from ⟨hz, its, c', r', e⟩), rfl, q _ (I.hok.fresh (Nat.le_refl _))⟩
  rcases hq with hq | hq
  · obtain ⟨its, r', pl, hz⟩ := I.list hq
    have hlen := r'.length
    obtain ⟨o, ho, hc, n, hd⟩ := pl.isList
    exact call_list_seq p (.inl rfl) ho hc hd (fun h' c' kp e => fin its r' hz h' c' kp e) (by simp only [List.size_toArray] <;> omega)
  · obtain ⟨its, r', pl, hz⟩ := I.tuple hq
    have hlen := r'.length
    obtain ⟨o, ho, hc, n, hd⟩ := pl
    exact call_list_seq p (.inr rfl) ho hc hd (fun h' c' kp e => fin its r' hz h' c' kp e) (by simp only [List.size_toArray] <;> omega)
theorem call_tuple_of : CallR X (.type "tuple") (fun xs H Q => ∃ p ys, xs = [.ref p] ∧ ((SqL X.K H p ys ∧ ∀ l, H l = none → Q (.ref l) (upd H l (.tup ys))) ∨ (SqT X.K H p ys ∧ Q (.ref p) H))) := by
  intro pins s σ H xs us Q I r h
  obtain ⟨p, ys, rfl, h⟩ := h
  obtain ⟨u, rfl, rx⟩ := vals1 r
  cases rx
  rcases h with ⟨hq, q⟩ | ⟨hq, q⟩
  · obtain ⟨its, r', pl, hz⟩ := I.list hq
    have hlen := r'.length
    refine call_tuple_list pl.isList (fun h' kp => ?_) (by simp only [List.size_toArray] <;> omega)
    have I1 : Inv X pins σ H { s with heap := h' } := I.kept (t' := s.toks) kp
    have I2 : Inv X pins σ (upd H h'.objs.size (.tup ys)) { s with heap := h'.push { cls := .type "tuple", data := .seq its.toArray } } :=
      I1.laid (t' := s.toks) (fun b o e => Heap.get?_push_of_some _ e) (Nat.le_refl _) (show ObjOk X.prog X.w _ _ _ (.tup ys) from ⟨hz, its, r', IsTup.new _ _⟩)
    exact ⟨.ref h'.objs.size, _, I2, rfl, q _ (I1.hok.fresh (Nat.le_refl _))⟩
  · obtain ⟨its, r', pl, hz⟩ := I.tuple hq
    exact call_tuple_same pl ⟨.ref p, H, I, rfl, q⟩
def tyV (K : PySem.W.Frag) (T : String) (x : V) (H : Hp) : Prop := match x with
  | .str _ => T = "str"
  | .int _ => T = "int"
  | .ref p => (T = "list" ∧ ∃ xs, SqL K H p xs) ∨ (T = "tuple" ∧ ∃ o, K.lookup p = some o ∧ o.cls = .type "tuple" ∧ o.dict = none) ∨
      (T = "dict" ∧ ((∃ kvs, H p = some (.dK kvs)) ∨ ∃ kvs, H p = some (.dT kvs))) ∨ (T = "set" ∧ ∃ S n, H p = some (.set S n))
  | _ => False
theorem tyV_is {pins : List (Addr × Obj)} {σ : St} {H : Hp} {s : Shared} {T : String} {x : V} {v : Value} (I : Inv X pins σ H s) (r : RelV x v) (ty : tyV X.K T x H) :
    s.TypeIs v T ∧ ∀ a, v = .ref a → ∃ ob, s.heap.get? a = some ob ∧ ob.dict = none := by
  cases x with
  | str z =>
    obtain ⟨t, rfl⟩ := r
    cases (show T = "str" from ty)
    exact ⟨typeIs_str s z t, fun _ e => nomatch e⟩
  | int i =>
    obtain ⟨t, rfl⟩ := r
    cases (show T = "int" from ty)
    exact ⟨typeIs_int s i t, fun _ e => nomatch e⟩
  | ref p =>
    cases r
    rcases ty with ⟨rfl, xs, hq⟩ | ⟨rfl, o, hk, hc, hd⟩ | ⟨rfl, hk⟩ | ⟨rfl, S, n, hk⟩
    · obtain ⟨its, _, pl, _⟩ := I.list hq
      refine ⟨pl.isList.typeIs, fun a e => ?_⟩
      cases e
      obtain ⟨o, n, e, c, hd, _⟩ := pl
      exact ⟨o, e, hd⟩
    · refine ⟨⟨o, I.kIn p o hk, hc⟩, fun a e => ?_⟩
      cases e
      exact ⟨o, I.kIn _ o hk, hd⟩
    · have z : ∃ o, s.heap.get? p = some o ∧ o.ExactDict := by
        rcases hk with ⟨kvs, hk⟩ | ⟨kvs, hk⟩
        · obtain ⟨_, _, _, _, o, _, _, e, ex, _⟩ := I.hok p _ hk
          exact ⟨o, e, ex⟩
        · obtain ⟨_, _, _, _, o, _, _, e, ex, _⟩ := I.hok p _ hk
          exact ⟨o, e, ex⟩
      obtain ⟨o, e, ex⟩ := z
      refine ⟨⟨o, e, ex.1⟩, fun a e2 => ?_⟩
      cases e2
      exact ⟨o, e, ex.2.1⟩
    · obtain ⟨o, _, _, _, e, ex, _⟩ := I.hok p _ hk
      refine ⟨⟨o, e, ex.1⟩, fun a e2 => ?_⟩
      cases e2
      exact ⟨o, e, ex.2.1⟩
  | _ => exact False.elim ty
def tBM0 (K : PySem.W.Frag) (T : String) (r : V → List V → Hp → VK → Prop) (to : TE) : TE := fun σ H Q => to σ H fun x H1 => tyV K T x H1 ∧ r x [] H1 Q
def tBM (K : PySem.W.Frag) (T : String) (r : V → List V → Hp → VK → Prop) (to : TE) (t : TA) : TE := fun σ H Q => to σ H fun x H1 => tyV K T x H1 ∧ t σ H1 fun xs H2 => r x xs H2 Q
variable {o e : Expr} {es : List Expr} {to : TE} {t : TA} {name : Str} {apos cpos : Pos} {T id : String} {r : V → List V → Hp → VK → Prop}
theorem pe_bm0 (pa : PlainAttrs T) (slot : Slot T name id) (hty : typeOf (.builtin id) = pure (.type "method_descriptor")) (hm : MtR X id r) (ho : PE X o to)
    (hbase : attributeBase o name X.env (eval o X.env) = eval o X.env := by rfl) (hline : (apos.endLine == cpos.line) = true := by rfl) : PE X (.Call (.Attribute o name apos) [] [] cpos) (tBM0 X.K T r to) := by
  intro pins s σ H Q I h
  refine wpAny_Call_method0_late hbase hline (thn (ho pins s σ H _ I h) fun v s1 ⟨x, H1, I1, r1, ty, q1⟩ => ?_)
  obtain ⟨h1, h2⟩ := tyV_is I1 r1 ty
  exact ⟨T, id, pa, slot, hty, h1, h2, Calls.callWith_builtin rfl (PySem.evalArgs_none (hm pins s1 σ H1 x [] v [] Q I1 r1 .nil q1))⟩
theorem pe_bm (pa : PlainAttrs T) (slot : Slot T name id) (hty : typeOf (.builtin id) = pure (.type "method_descriptor")) (hm : MtR X id r) (ho : PE X o to) (ha : PA X (e :: es) t)
    (hbase : attributeBase o name X.env (eval o X.env) = eval o X.env := by rfl)
    (hfew : ((backTo cpos (starEach (e :: es) X.env)).all (fun x => !x.1) && (backToKw cpos (keywordEach [] X.env)).all (fun x => x.1.isSome)
      && decide ((e :: es).length + ([] : List Keyword).length + (if ([] : List Keyword).isEmpty then 0 else 1) < 30)) = true := by rfl)
    (hline : (apos.endLine == cpos.line) = true := by rfl) (hs : starEach (e :: es) X.env = (false, eval e X.env) :: starEach es X.env := by rfl) (hplain : (backTo cpos (starEach es X.env)).any (·.1) = false := by rfl) :
    PE X (.Call (.Attribute o name apos) (e :: es) [] cpos) (tBM X.K T r to t) := by
  intro pins s σ H Q I h
  refine wpAny_Call_method_late hbase hfew hline rfl (thn (ho pins s σ H _ I h) fun v s1 ⟨x, H1, I1, r1, ty, q1⟩ => ?_)
  obtain ⟨h1, h2⟩ := tyV_is I1 r1 ty
  refine ⟨T, id, pa, slot, hty, h1, h2, ?_⟩
  have hA := ha cpos pins s1 σ H1 _ I1 q1
  rw [hs] at hA ⊢
  refine Calls.callWith_builtin (by show (false || (backTo cpos (starEach es X.env)).any (·.1)) = false; rw [hplain] <;> rfl) (Calls.evalArgs_plain ?_)
  exact thn hA fun us s2 ⟨vs, H2, I2, r2, q2⟩ => hm pins s2 σ H2 x vs v us Q I2 r1 r2 q2
/- xs.append(e), list.index on a module's tuple .. are MtR facts of 06m -/
end
end L2
namespace L2
open PySem PySem.Spec PyProof.Rows
def MtM (X : Cx) (id : String) (r : V → List V → Hp → VK → Prop) : Prop :=
  ∀ (pins : List (Addr × Obj)) (s : Shared) (σ : St) (H : Hp) (x : V) (xs : List V) (v : Value) (us : List Value) (Q : VK), Inv X pins σ H s → RelV x v → Vals xs us → r x xs H Q →
    wpAny (model X.prog X.w) X.A (call (.builtin id) (v :: us)) (EP X pins σ Q) X.xe s
theorem Vals.one : ∀ {x : V} {us : List Value}, Vals [x] us → ∃ u, us = [u] ∧ RelV x u
  | _, _, .cons r .nil => ⟨_, rfl, r⟩
theorem Vals.zero : ∀ {us : List Value}, Vals [] us → us = []
  | _, .nil => rfl
theorem Vals.dropLast {xs : List V} {us : List Value} (h : Vals xs us) : Vals xs.dropLast us.dropLast := by
  induction h with
  | nil => exact .nil
  | cons r t ih =>
    cases t with
    | nil => exact .nil
    | cons q t' => exact .cons r ih
theorem erase_last {α : Type} (l : List α) : l.eraseIdx (l.length - 1) = l.dropLast := by
  induction l with
  | nil => rfl
  | cons a r ih =>
    cases r with
    | nil => rfl
    | cons b r =>
      have e : (a :: b :: r).length - 1 = ((b :: r).length - 1) + 1 := by
        have h1 : (a :: b :: r).length = r.length + 2 := rfl
        have h2 : (b :: r).length = r.length + 1 := rfl
        omega
      rw [e, List.eraseIdx_cons_succ, ih]
      all_goals rfl
section
variable {X : Cx} {pins : List (Addr × Obj)} {σ : St} {H : Hp} {s : Shared} {l b : Addr} {xs ys zs : List V}
theorem Inv.lset {its its' : List Value} {n : Nat} {f : Array Value → Array Value} {t' : Nat} (I : Inv X pins σ H s) (hH : H l = some (.lst xs))
    (e : s.heap.get? l = some { cls := .type "list", data := .seq its.toArray n }) (hf : f its.toArray = its'.toArray) (hv : Vals ys its') (hz : ys.length ≤ sizeLine) :
    Inv X pins σ (upd H l (.lst ys)) { s with heap := s.heap.update l (Obj.mapSeq f), toks := t' } := by
  have q := PySem.IsL.update e f
  rw [hf] at q
  refine I.write (x := l) (e := l) (by rw [hH]; exact trivial) (.inl rfl) (fun b' u hb hu => (Heap.get?_update_other s.heap (Obj.mapSeq f) (Ne.symm hb)).trans hu) ⟨_, q⟩ ?_
  exact ⟨hz, its', _, hv, q⟩
theorem Inv.lnew {its : List Value} {t' : Nat} (I : Inv X pins σ H s) (hv : Vals ys its) (hz : ys.length ≤ sizeLine) :
    Inv X pins σ (upd H s.heap.objs.size (.lst ys)) { s with heap := s.heap.push { cls := .type "list", data := .seq its.toArray }, toks := t' } :=
  I.laid (fun _ _ q => Heap.get?_push_of_some _ q) (Nat.le_refl _) ⟨hz, its, 0, hv, Heap.get?_push_size _ rfl⟩
theorem Inv.fresh (I : Inv X pins σ H s) : H s.heap.objs.size = none := I.hok.fresh (Nat.le_refl _)
theorem Inv.lstM (I : Inv X pins σ H s) (hH : H l = some (.lst xs)) : xs.length ≤ sizeLine ∧ ∃ (its : List Value) (n : Nat), Vals xs its ∧ xs.length = its.length ∧ s.heap.get? l = some { cls := .type "list", data := .seq its.toArray n } := by
  obtain ⟨z, its, n, r, e⟩ := I.hok l _ hH
  exact ⟨z, its, n, r, r.length, e⟩
theorem notLongL {n : Nat} (h : n ≤ sizeLine) : Builtin.List.listTooLong n = false := by
  unfold Builtin.List.listTooLong
  exact decide_eq_false (by omega)
end
section
variable {X : Cx}
def rAppend : V → List V → Hp → VK → Prop := fun x vs H Q => ∃ l xs y, x = .ref l ∧ vs = [y] ∧ H l = some (.lst xs) ∧ xs.length < sizeLine ∧ Q .non (upd H l (.lst (xs ++ [y])))
theorem mt_append : MtM X "list.append" rAppend := by
  intro pins s σ H x vs v us Q I rx rv h
  obtain ⟨l, xs, y, rfl, rfl, hH, hz, q⟩ := h
  cases rx
  obtain ⟨u, rfl, ru⟩ := rv.one
  obtain ⟨z, its, n, r, hl, e⟩ := I.lstM hH
  refine call_meets F.slot_list_append ⟨_, e, rfl⟩ F.entry_list_append (F.args_list_append_2 _ _) (PySem.list_append l its.toArray n u (by rw [List.size_toArray]; omega)) ⟨e, ?_⟩
  refine ⟨.non, _, I.lset (its' := its ++ [u]) hH e (by simp) (r.append (.cons ru .nil)) ?_, rfl, q⟩
  rw [List.length_append, List.length_singleton]
  omega
def rExtend : V → List V → Hp → VK → Prop := fun x vs H Q => ∃ l b xs zs, x = .ref l ∧ vs = [.ref b] ∧ H l = some (.lst xs) ∧ H b = some (.lst zs) ∧ xs.length + zs.length ≤ sizeLine ∧ Q .non (upd H l (.lst (xs ++ zs)))
theorem mt_extend : MtM X "list.extend" rExtend := by
  intro pins s σ H x vs v us Q I rx rv h
  obtain ⟨l, b, xs, zs, rfl, rfl, hH, hB, hz, q⟩ := h
  cases rx
  obtain ⟨u, rfl, ru⟩ := rv.one
  cases ru
  obtain ⟨z, its, n, r, hl, e⟩ := I.lstM hH
  obtain ⟨z2, its2, n2, r2, hl2, e2⟩ := I.lstM hB
  have hsz : its.toArray.size + its2.toArray.size ≤ sizeLine := by rw [List.size_toArray, List.size_toArray]; omega
  have hlong : ¬ (!its.toArray.isEmpty && Builtin.List.listTooLong (its.toArray.size + its2.toArray.size)) = true := by
    rw [notLongL hsz, Bool.and_false]
    exact Bool.false_ne_true
  refine call_meets F.slot_list_extend ⟨_, e, rfl⟩ F.entry_list_extend (F.args_list_extend_2 _ _)
    (AutoSeq1.list_extend_list_list_0 l its.toArray n b its2.toArray n2 hlong (by rw [List.size_toArray]; omega) (by omega)) ⟨e, e2, ?_⟩
  refine ⟨.non, _, I.lset (its' := its ++ its2) hH e (by simp) (r.append r2) ?_, rfl, q⟩
  rw [List.length_append]
  omega
def rPop : V → List V → Hp → VK → Prop := fun x vs H Q => ∃ l xs y, x = .ref l ∧ vs = [] ∧ H l = some (.lst xs) ∧ xs[xs.length - 1]? = some y ∧ Q y (upd H l (.lst xs.dropLast))
theorem mt_pop : MtM X "list.pop" rPop := by
  intro pins s σ H x vs v us Q I rx rv h
  obtain ⟨l, xs, y, rfl, rfl, hH, hy, q⟩ := h
  cases rx
  have hus := rv.zero
  subst hus
  obtain ⟨z, its, n, r, hl, e⟩ := I.lstM hH
  obtain ⟨u, hu, ru⟩ := r.get hy
  have hy' : its.toArray[its.toArray.size - 1]? = some u := by
    show its.toArray[its.length - 1]? = some u
    rw [← Array.getElem?_toList, ← hl]
    exact hu
  refine call_meets F.slot_list_pop ⟨_, e, rfl⟩ F.entry_list_pop (F.args_list_pop_1 _) (MeetsSeq.list_pop_last l its.toArray n u hy' (by rw [List.size_toArray]; omega)) ⟨e, ?_⟩
  refine ⟨y, _, I.lset (its' := its.dropLast) hH e ?_ r.dropLast ?_, ru, q⟩
  · show its.toArray.eraseIdxIfInBounds (its.toArray.size - 1) = its.dropLast.toArray
    rw [List.size_toArray, List.eraseIdxIfInBounds_toArray, erase_last]
  · rw [List.length_dropLast]
    omega
def rCat : R2 := fun x y H Q => ∃ l b xs zs, x = .ref l ∧ y = .ref b ∧ H l = some (.lst xs) ∧ H b = some (.lst zs) ∧ xs.length + zs.length ≤ sizeLine ∧ ∀ p, H p = none → Q (.ref p) (upd H p (.lst (xs ++ zs)))
theorem op_cat : OpR X (binaryOp .Add) rCat := by
  intro pins s σ H x y v u Q I rx ry h
  obtain ⟨l, b, xs, zs, rfl, rfl, hH, hB, hz, q⟩ := h
  cases rx
  cases ry
  obtain ⟨z, its, n, r, hl, e⟩ := I.lstM hH
  obtain ⟨z2, its2, n2, r2, hl2, e2⟩ := I.lstM hB
  refine PySem.P.add_list e e2 ?_ (by rw [List.size_toArray, List.size_toArray]; omega)
  have ea : its.toArray ++ its2.toArray = (its ++ its2).toArray := by simp
  rw [ea]
  exact ⟨.ref _, _, I.lnew (t' := s.toks) (r.append r2) (by rw [List.length_append]; omega), rfl, q _ I.fresh⟩
end
section
variable {prog : Program} {w : World} {A : Around} {E : Value → Shared → Prop} {s : Shared}
set_option maxRecDepth 100000 in
end
section
variable {X : Cx}
end
end L2
namespace Att
open PySem PySem.W PySem.Calls PyProof.Rows
theorem ints_of_wellAll {P : Params} {h : Heap} : ∀ (ns : List Int) (vs : List Value), WellAll P h vs (ns.map WData.int) → IntsAre vs ns := by
  intro ns
  induction ns with
  | nil =>
    intro vs w
    rw [List.map_nil] at w
    cases w
    exact .nil
  | cons n ns ih =>
    intro vs w
    rw [List.map_cons] at w
    cases w with
    | cons a b =>
      cases a
      exact .cons _ _ (ih _ b)
theorem script_of {l : OpenLaw} {n : Nat} (hn : l.most = some n) {P : Params} {h : Heap} {args : List WData} {vals : List Value}
    (hpre : l.row.toRowW.claim.pre args = true) (hwl : WellAll P h vals args) :
    ∃ a vs ns, vals = [Value.ref a] ∧ args = [WData.list (ns.map WData.int)] ∧ h.get? a = some { cls := .type "list", data := .seq vs.toArray } ∧ IntsAre vs ns ∧ ns.length ≤ n := by
  have hsh : WShape.hasAll [] args [.list .int] = true := (pre_splitW hpre).1
  have hc : l.pre.holds [] { args := args } = true := (pre_splitW hpre).2
  obtain ⟨d, r, rfl, h1, h2⟩ := hasAllW_cons hsh
  obtain rfl := hasAllW_nil h2
  obtain ⟨xs, rfl, h3⟩ := hasW_list h1
  obtain ⟨ns, rfl⟩ := items_int h3
  have hlen : ns.length ≤ n := by
    unfold OpenLaw.pre at hc
    have h4 : (WTm.not (.lt (.lit (.int (n : Int))) (.len (.arg 0)))).holds [] { args := [.list (ns.map .int)] } = true := by
      have h4 := (holds_andW hc).1
      rw [hn] at h4
      exact h4
    have h5 := condW_of h4 (w_not (w_lt w_lit (w_len_list (w_arg rfl))))
    rw [List.length_map] at h5
    refine Nat.le_of_not_lt fun q => ?_
    have q' : (n : Int) < ((ns.length : Nat) : Int) := by omega
    first
      | (rw [decide_eq_true q'] at h5; exact absurd h5 (by decide))
      | (simp at h5; omega)
  cases hwl with
  | cons w1 w2 =>
    cases w2
    cases w1 with
    | list ho hall => exact ⟨_, _, ns, rfl, rfl, ho, ints_of_wellAll ns _ hall, hlen⟩
theorem post_true (l : OpenLaw) (args : List WData) : l.row.toRowW.claim.post args (.bool true) args = true :=
  postW_of (r := l.row.toRowW) (X := (true == true))
    (show WShape.has [] (.bool true) .bool = true by first | rfl | decide | simp [WShape.has, WShape.arms, WShape.armsAll])
    (show (WTm.eq .res (.lit (.bool true))).value [] { args := args, res := some (.bool true), after := args } = some (.bool (true == true)) from w_eq_bool (w_res rfl) w_lit) rfl
theorem attach_call {l : OpenLaw} {n : Nat} {q : Program} {loose : List Str} {XP : (Str → Option Value) → Heap → Prop} {YP : World → Heap → Prop} {d : DefRec}
    (hn : l.most = some n) (hdf : d.params.defaults = [])
    (call : ∀ (w : World) (s₀ s₁ : Shared) (mg mb : Str → Option Value) (fa : Addr) (o : Obj) (pm cd doc : Value) (a : Addr) (vs : List Value) (ns : List Int),
      Ground q loose [] XP w s₀ mg mb s₁.heap → YP w s₁.heap →
      s₁.heap.get? fa = some o → o.data = .func (docDef d.name d.params d.body d.scope pm cd doc) → s₁.heap.CodeRec cd d.name → mg d.name = some (.ref fa) →
      s₁.heap.get? a = some { cls := .type "list", data := .seq vs.toArray } → IntsAre vs ns → ns.length ≤ n → s₁.gens = #[] →
      codeAny (model l.prog w) callerA (.call (.ref fa) ⟨[.ref a], []⟩) (fun r s' => r = .ok (.ret (.bool true)) ∧ OldK s₁.heap s'.heap ∧ s'.os = s₁.os ∧ AllBare s'.gens) s₁) :
    WalkO q loose XP YP l.row.toRowW d [] (fun f vs => PySem.call f vs) := by
  intro w s₀ s₁ mg mb G Y fa o pm cd doc dV kV ho hd hcd hD hmg hg args vals as hpre hlay hrd hwl hlo
  obtain rfl : dV = .none := Dflts.none hD hdf
  obtain rfl : kV = .none := Dflts.noKw hD
  obtain ⟨a, vs, ns, rfl, rfl, hobj, hints, hlen⟩ := script_of hn hpre hwl
  refine enter_call (codeAny_mono (call w s₀ s₁ mg mb fa o pm cd doc a vs ns G Y ho (fd_plain hd) hcd hmg hobj hints hlen hg) fun r s' hq => ?_)
  obtain ⟨rfl, h2, h3, h4⟩ := hq
  exact ⟨.inl ⟨.bool true, .bool true, [], rfl, fun _ => rfl, .bool true, post_true l _, fun _ => ⟨List.Pairwise.nil, fun _ hm => (nomatch hm)⟩⟩, h2, h3, h4⟩
section
variable {prog : Program} {w : World} {A : Around} {E : Value → Shared → Prop} {s : Shared} {K : Frag}
end
end Att
namespace L2
open PySem PySem.Spec PyProof.Rows
theorem vals_ints : ∀ {vs : List Value} {ns : List Int}, IntsAre vs ns → Vals (ns.map V.int) vs
  | _, _, .nil => .nil
  | _, _, .cons n t h => .cons ⟨t, rfl⟩ (vals_ints h)
def Only (H : Hp) : Prop := ∀ b, H b = none ∨ ∃ o xs, H b = some (.frz o (.lst xs))
theorem law_call {P : Program} {w : World} {K : PySem.W.Frag} {mg mb : Str → Option Value} {CX : CXT} {k : Nat} {fa a : Addr} {fd : FuncData} {x : Str} {sp : Sp} {s₁ : Shared} {vs : List Value} {ns : List Int}
    (KX : K.In s₁.heap) (hns : s₁.heap.Ns mainGlobals mg) (hb : s₁.heap.Ns builtinsNs mb) (hbb : ∀ x : Str, x ≠ "__name__" → mb x = bootBuiltins x) (hlim : s₁.heap.NoLimit) (hg : s₁.gens = #[])
    (ha : s₁.heap.get? a = some { cls := .type "list", data := .seq vs.toArray }) (hi : IntsAre vs ns) (hl : ns.length ≤ sizeLine) (hr : Room k callerA)
    (F : ∀ base : Heap, K.In base → base.Ns mainGlobals mg → FnOk P w K mg base CX k fa fd [x] sp) (hbind : ∀ (s : Shared) (u : Value), BindsTo s fd ⟨[u], []⟩ [(x, u)])
    (hsp : ∀ H : Hp, Only H → SqL K H a (ns.map V.int) → sp [.ref a] H (fun v _ => v = .bl true) fun _ _ _ => False)
    (hCX : ∀ H e s', CX [] H s₁ (fun _ _ _ => False) e s' → False) :
    codeAny (model P w) callerA (.call (.ref fa) ⟨[.ref a], []⟩) (fun r s' => r = .ok (.ret (.bool true)) ∧ OldK s₁.heap s'.heap ∧ s'.os = s₁.os ∧ AllBare s'.gens) s₁ := by
  have rv := vals_ints hi
  have lenV := hi.length
  have core : ∀ H : Hp, Only H → SqL K H a (ns.map V.int) → HOk P w H s₁.heap → (∀ b, H b ≠ none → b = a) → (H a ≠ none → K.lookup a = none) →
      codeAny (model P w) callerA (.call (.ref fa) ⟨[.ref a], []⟩) (fun r s' => r = .ok (.ret (.bool true)) ∧ OldK s₁.heap s'.heap ∧ s'.os = s₁.os ∧ AllBare s'.gens) s₁ := by
    intro H hO hS hok hA hK
    have base_of : ∀ {b : Addr} {o : Obj}, s₁.heap.get? b = some o → H b = none → (hidT s₁.heap H).get? b = some o := fun e n => hidT_get e n
    have noA : ∀ {b : Addr} {o : Obj} {es : Array DictEntry} {ep : Nat}, s₁.heap.get? b = some o → o.data = .dict es ep → H b = none := fun {b o es ep} e d => by
      cases q : H b with
      | none => rfl
      | some u =>
        have e' : b = a := hA b (by rw [q]; simp)
        subst e'
        rw [ha] at e; cases e
        have d' : Data.seq vs.toArray _ = Data.dict es ep := d
        cases d'
    have nsK : ∀ {b : Addr} {m : Str → Option Value}, s₁.heap.Ns b m → (hidT s₁.heap H).Ns b m := fun {b m} ⟨o, es, ep, e, d, r⟩ => ⟨o, es, ep, base_of e (noA e d), d, r⟩
    have hKb : K.In (hidT s₁.heap H) := fun b o e => base_of (KX b o e) (by
      cases q : H b with
      | none => rfl
      | some u =>
        have e' : b = a := hA b (by rw [q]; simp)
        subst e'
        rw [hK (by rw [q]; simp)] at e; cases e)
    have hM : Mod K mg (hidT s₁.heap H) := ⟨hKb, nsK hns, ⟨mb, nsK hb, hbb⟩, let ⟨mc, h1, h2⟩ := hlim; ⟨mc, nsK h1, h2⟩⟩
    have e0 : Env0 P w K mg (hidT s₁.heap H) callerA [] s₁ H := ⟨rfl, hM, fun b o e => of_hidT e, Nat.le_of_eq (hidT_size _ _), trivial, fun b hb => absurd (show b ∈ ([] : List Addr) from hb) (by simp), hok, .of_eq hg⟩
    refine codeAny_mono ((F _ hKb (nsK hns)).run callerA [] s₁ H ⟨[.ref a], []⟩ [.ref a] [.ref a] _ _ hr e0 (hbind s₁ (.ref a)) (.cons rfl .nil) (hsp H hO hS)) fun r s' h => ?_
    cases r with
    | error e => exact (hCX H e s' h).elim
    | ok fl =>
      cases fl with
      | next => exact False.elim h
      | brk => exact False.elim h
      | cont => exact False.elim h
      | ret u =>
        obtain ⟨v, H', os, bare, un, hok', r', q⟩ := h
        have q' : v = .bl true := q
        subst q'
        obtain rfl : u = Value.bool true := r'
        refine ⟨rfl, OldK.of_keep fun b o e => ?_, os, bare⟩
        cases q : H b with
        | none => exact un.keep b o e q (by intro z; exact absurd (show b ∈ ([] : List Addr) from z) (by simp)) (by simp)
        | some u =>
          rcases hO b with z | ⟨ob, xs, z⟩
          · rw [q] at z; cases z
          · have z2 := un.frzs b ob _ z
            obtain ⟨e1, _⟩ := hok b _ z
            obtain ⟨e2, _⟩ := hok' b _ z2
            rw [e] at e1; cases e1
            exact e2
  cases hk : K.lookup a with
  | some o =>
    have e := KX a o hk
    rw [ha] at e
    cases e
    refine core (fun _ => none) (fun _ => .inl rfl) (.inr ⟨_, vs.toArray, _, hk, rfl, rfl, rfl, by rw [List.size_toArray, lenV]; exact hl, by simpa using rv⟩) (fun b u z => by have z' : (none : Option HO) = some u := z; cases z') (fun b z => absurd rfl z) fun z => absurd rfl z
  | none =>
    refine core (fun b => if b = a then some (.frz { cls := .type "list", data := .seq vs.toArray } (.lst (ns.map V.int))) else none) (fun b => ?_) (.inl (.inr ⟨{ cls := .type "list", data := .seq vs.toArray }, if_pos rfl⟩)) (fun b u z => ?_) (fun b z => ?_) fun _ => hk
    · by_cases hb : b = a
      · exact .inr ⟨_, _, if_pos hb⟩
      · exact .inl (if_neg hb)
    · by_cases hb : b = a
      · have z' := (if_pos hb).symm.trans z
        cases z'
        subst hb
        exact ⟨ha, by rw [List.length_map]; exact hl, vs, _, rv, ha⟩
      · have z' := (if_neg hb).symm.trans z
        cases z'
    · by_cases hb : b = a
      · exact hb
      · exact absurd (if_neg hb) z
end L2
namespace L2
open PySem PySem.Spec PyProof.Rows
theorem walk_of {l : PySem.W.OpenLaw} {n k : Nat} {q : Program} {loose : List Str} {XP : (Str → Option Value) → Heap → Prop} {YP : World → Heap → Prop} {d : DefRec} {K : Params → PySem.W.Frag} {CX : World → CXT} {sp : World → Sp} {x : Str}
    (hn : l.most = some n) (hn2 : n ≤ sizeLine) (hdf : d.params.defaults = []) (hr : Room k callerA)
    (hY : ∀ (w : World) (h : Heap), YP w h → (K w.params).In h)
    (F : ∀ (w : World) (mg : Str → Option Value) (fa : Addr) (h : Heap), (K w.params).In h → h.Ns mainGlobals mg → mg d.name = some (.ref fa) →
      ∃ fd : FuncData, (∀ (s : Shared) (u : Value), BindsTo s fd ⟨[u], []⟩ [(x, u)]) ∧
        ∀ base : Heap, (K w.params).In base → base.Ns mainGlobals mg → FnOk l.prog w (K w.params) mg base (CX w) k fa fd [x] (sp w))
    (hsp : ∀ (w : World) (H : Hp) (a : Addr) (ns : List Int), ns.length ≤ n → Only H → SqL (K w.params) H a (ns.map V.int) → sp w [.ref a] H (fun v _ => v = .bl true) fun _ _ _ => False)
    (hCX : ∀ (w : World) (H : Hp) (s : Shared) (e : Value) (s' : Shared), CX w [] H s (fun _ _ _ => False) e s' → False) :
    PySem.W.WalkO q loose XP YP l.row.toRowW d [] (fun f vs => PySem.call f vs) := by
  refine Att.attach_call hn hdf fun w s₀ s₁ mg mb fa o pm cd doc a vs ns G Y ho hd hcd hmg hobj hints hlen hg => ?_
  have KX := hY w _ Y
  obtain ⟨fd, hb, hF⟩ := F w mg fa _ KX G.T.g hmg
  exact law_call KX G.T.g G.T.b G.T.builtins G.T.nolimit hg hobj hints (Nat.le_trans hlen hn2) hr hF hb (fun H hO hS => hsp w H a ns hlen hO hS) fun H e s' => hCX w H s₁ e s'
end L2
namespace L2
open PySem PySem.Spec PyProof.Rows
def inClass (s : Stmt) (j : Nat) : Stmt := match s with
  | .ClassDef _ _ _ body _ _ _ _ _ _ _ => body.getD j (.Pass ⟨0, 0, 0, 0⟩)
  | _ => .Pass ⟨0, 0, 0, 0⟩
def defArgs (s : Stmt) : Arguments := match s with
  | .FunctionDef _ a _ _ _ _ _ _ _ _ => a
  | _ => { posonlyargs := [], args := [], vararg := none, kwonlyargs := [], kw_defaults := [], kwarg := none, defaults := [] }
def defBody (s : Stmt) : List Stmt := match s with
  | .FunctionDef _ _ b _ _ _ _ _ _ _ => b
  | _ => []
def defScope (s : Stmt) : Scope := match s with
  | .FunctionDef _ _ _ _ _ _ sc _ _ _ => sc
  | _ => { kind := .function, names := [], isGenerator := false, isCoroutine := false }
abbrev CX0 : CXT := fun _ _ _ _ _ _ => False
abbrev E0 : XK := fun _ _ _ => False
theorem pass0 {X : Cx} : Passes CX0 X E0 := fun _ _ _ _ _ _ _ h => h.elim
structure Fun (K : PySem.W.Frag) (x qual : Str) (st : Stmt) (f : Addr) (fd : FuncData) : Prop where
  ex : ∃ (oc : Value) (od : Option Addr) (kV doc pm : Value) (an : Option Addr) (cdv ct : Value) (osl : Array (Option Value)),
    fd = PySem.W.fnOf x qual (defArgs st) (defBody st) (defScope st) .none kV doc pm an cdv ct ∧ K.lookup f = some ⟨oc, od, .func fd, osl⟩ ∧ PySem.W.codeIn K cdv qual = true
  kp : PySem.W.keepIn K (.ref f) = true
section
variable {P : Program} {w : World} {K : PySem.W.Frag} {mg : Str → Option Value} {base : Heap}
theorem Fun.ok {x qual : Str} {st : Stmt} {f : Addr} {fd : FuncData} {N ps : List Str} {k : Nat} {sp : Sp} (F : Fun K x qual st f fd) (S : FnScope N ps (defScope st)) (len : ∀ vs H Q E, sp vs H Q E → vs.length = ps.length)
    (hbody : ∀ (cdv : Value) (A : Around) (outer : List Env) (s : Shared) (H : Hp) (vs : List V) (Q : VK) (E : XK), Room k (A.deeper (envOfC qual (defScope st) s.heap.objs.size f cdv)) → sp vs H Q E →
      ∃ t, PSs (cxOf CX0 P w K mg base N qual (defScope st) f cdv A outer s H E).nox (defBody st) t ∧ t { nx := fun _ H' => Q .non H', rt := Q } (start N vs) H) : FnOk P w K mg base CX0 (k + 1) f fd ps sp := by
  obtain ⟨oc, od, kV, doc, pm, an, cdv, ct, osl, rfl, lk, hcd⟩ := F.ex
  refine fn_of lk hcd S len fun A outer s H vs Q E hr hsp => ?_
  obtain ⟨t, h, q⟩ := hbody cdv A outer s H vs Q E hr hsp
  exact ⟨t, h.nox, q⟩
theorem Fun.binds {x qual : Str} {st : Stmt} {f : Addr} {fd : FuncData} {ps : List Str} (F : Fun K x qual st f fd)
    (h : ∀ (kV doc pm : Value) (an : Option Addr) (cdv ct : Value) (us : List Value), us.length = ps.length → bindArgs (PySem.W.fnOf x qual (defArgs st) (defBody st) (defScope st) .none kV doc pm an cdv ct) ⟨us, []⟩ = pure (ps.zip us)) : Binds K fd ps [] := by
  obtain ⟨oc, od, kV, doc, pm, an, cdv, ct, osl, rfl, lk, hcd⟩ := F.ex
  exact .all (h kV doc pm an cdv ct)
theorem fun_mk {x qual : Str} {st : Stmt} {f : Addr} {oc : Value} {od an : Option Addr} {osl : Array (Option Value)} {kV doc pm cdv ct : Value} (l : K.lookup f = some ⟨oc, od, .func (PySem.W.fnOf x qual (defArgs st) (defBody st) (defScope st) .none kV doc pm an cdv ct), osl⟩)
    (c : PySem.W.codeIn K cdv qual = true) (k : PySem.W.keepIn K (.ref f) = true) : Fun K x qual st f (PySem.W.fnOf x qual (defArgs st) (defBody st) (defScope st) .none kV doc pm an cdv ct) := ⟨⟨oc, od, kV, doc, pm, an, cdv, ct, osl, rfl, l, c⟩, k⟩
end
theorem hu_of {A : Around} {k : Nat} (hr : Room k A) : A.units + 1 < cLine := Nat.lt_of_le_of_lt (Nat.add_le_add_left (by decide : 1 ≤ 64) _) hr.units
section
variable {X : Cx}
theorem pv (i : Nat) {x : Str} {pos : Pos} (hN : X.N[i]? = some x := by rfl) (hv : Vis X.env.scope x := by first | exact Or.inl rfl | exact Or.inr (Or.inl rfl) | exact Or.inr (Or.inr rfl)) (hd : (x == ("__debug__" : Str)) = false := by decide)
    (hcd : (x == ("__classdict__" : Str)) = false := by decide) : PE X (.Name x pos) (tVar i) := pe_var hN hv hd hcd
end
theorem iteF {A B : Prop} (h : B) : if false = true then A else B := by
  rw [if_neg Bool.false_ne_true]
  exact h
theorem iteT {A B : Prop} (h : A) : if true = true then A else B := by
  rw [if_pos rfl]
  exact h
theorem ite2 {c A B : Prop} [Decidable c] (h1 : c → A) (h2 : ¬ c → B) : if c then A else B := by
  by_cases h : c
  · rw [if_pos h]
    exact h1 h
  · rw [if_neg h]
    exact h2 h
def Same (H H' : Hp) : Prop := ∀ b o, H b = some o → H' b = some o
theorem Same.refl (H : Hp) : Same H H := fun _ _ h => h
theorem Same.trans {H H1 H2 : Hp} (a : Same H H1) (b : Same H1 H2) : Same H H2 := fun c o h => b c o (a c o h)
theorem Same.free {H H' : Hp} (e : Same H H') {l : Addr} (h : H' l = Option.none) : H l = Option.none := by
  cases q : H l with
  | none => rfl
  | some o =>
    rw [e l o q] at h
    cases h
theorem Same.seq {K : PySem.W.Frag} {H H' : Hp} {a : Addr} {xs : List V} (e : Same H H') (h : SqL K H a xs) : SqL K H' a xs := by
  rcases h with (h | ⟨o, h⟩) | h
  · exact .inl (.inl (e _ _ h))
  · exact .inl (.inr ⟨o, e _ _ h⟩)
  · exact .inr h
end L2
namespace L2
open PySem PySem.Spec PyProof.Rows
section
variable {κ : Type} [DecidableEq κ]
def valV (kvs : List (κ × V)) (k : κ) : Option V := (kvs.find? fun kv => decide (kv.1 = k)).map (·.2)
def putK (kvs : List (κ × V)) (k : κ) (v : V) : List (κ × V) :=
  if (kvs.any fun kv => decide (kv.1 = k)) = true then kvs.map (fun kv => if kv.1 = k then (kv.1, v) else kv) else kvs ++ [(k, v)]
theorem valV_nil {k : κ} : valV ([] : List (κ × V)) k = none := rfl
theorem valV_pos {p : κ × V} {r : List (κ × V)} {k : κ} (e : p.1 = k) : valV (p :: r) k = some p.2 := by simp [valV, List.find?_cons, e]
theorem valV_neg {p : κ × V} {r : List (κ × V)} {k : κ} (e : ¬ p.1 = k) : valV (p :: r) k = valV r k := by simp [valV, List.find?_cons, e]
theorem valV_any (k : κ) : ∀ kvs : List (κ × V), (kvs.any fun kv => decide (kv.1 = k)) = (valV kvs k).isSome
  | [] => rfl
  | p :: r => by
    rw [List.any_cons]
    by_cases e : p.1 = k
    · simp only [valV_pos e, decide_eq_true e, Bool.true_or, Option.isSome_some]
    · rw [valV_neg e, decide_eq_false e, Bool.false_or]; exact valV_any k r
theorem valV_map (k j : κ) (y : V) : ∀ kvs : List (κ × V), valV (kvs.map fun kv => if kv.1 = k then (kv.1, y) else kv) j = (valV kvs j).map fun x => if j = k then y else x
  | [] => rfl
  | p :: r => by
    have ih := valV_map k j y r
    rw [List.map_cons]
    by_cases h : p.1 = k
    · rw [if_pos h]
      by_cases e : p.1 = j
      · rw [valV_pos (p := (p.1, y)) e, valV_pos e, Option.map_some, if_pos (e.symm.trans h)]
      · rw [valV_neg (p := (p.1, y)) e, valV_neg e, ih]
    · rw [if_neg h]
      by_cases e : p.1 = j
      · rw [valV_pos (p := p) e, valV_pos e, Option.map_some, if_neg (fun z => h (e.trans z))]
      · rw [valV_neg (p := p) e, valV_neg e, ih]
theorem valV_snoc (k j : κ) (y : V) : ∀ kvs : List (κ × V), valV kvs k = none → valV (kvs ++ [(k, y)]) j = if j = k then some y else valV kvs j
  | [], _ => by
    by_cases e : k = j
    · rw [if_pos e.symm]; exact valV_pos (p := (k, y)) e
    · rw [if_neg (fun z => e z.symm)]; exact valV_neg (p := (k, y)) e
  | p :: r, hn => by
    rw [List.cons_append]
    have hk : ¬ p.1 = k := fun z => by rw [valV_pos z] at hn; cases hn
    rw [valV_neg hk] at hn
    have ih := valV_snoc k j y r hn
    by_cases e : p.1 = j
    · rw [valV_pos e, valV_pos e, if_neg (fun z => hk (e.trans z))]
    · rw [valV_neg e, valV_neg e, ih]
theorem valV_put (kvs : List (κ × V)) (k j : κ) (y : V) : valV (putK kvs k y) j = if j = k then some y else valV kvs j := by
  unfold putK
  by_cases a : (kvs.any fun kv => decide (kv.1 = k)) = true
  · rw [if_pos a, valV_map]
    rw [valV_any] at a
    by_cases e : j = k
    · obtain ⟨x, hx⟩ := Option.isSome_iff_exists.mp a
      rw [if_pos e, e, hx, Option.map_some, if_pos rfl]
    · rw [if_neg e]
      cases valV kvs j with
      | none => rfl
      | some x => rw [Option.map_some, if_neg e]
  · rw [if_neg a]
    refine valV_snoc k j y kvs ?_
    rw [valV_any] at a
    cases q : valV kvs k with
    | none => rfl
    | some x => rw [q] at a; exact (a rfl).elim
theorem length_putK (kvs : List (κ × V)) (k : κ) (v : V) : (putK kvs k v).length ≤ kvs.length + 1 := by
  unfold putK
  split
  · rw [List.length_map]; omega
  · rw [List.length_append, List.length_cons, List.length_nil]; omega
theorem putK_new {kvs : List (κ × V)} {k : κ} (v : V) (h : valV kvs k = none) : putK kvs k v = kvs ++ [(k, v)] := by
  unfold putK
  rw [valV_any, h]
  exact if_neg (by decide)
theorem RelO.isSome_eq {o : Option V} {u : Option Value} (r : RelO o u) : o.isSome = u.isSome := by
  cases o with
  | none => cases u with
    | none => rfl
    | some _ => exact (show False from r).elim
  | some _ => cases u with
    | none => exact (show False from r).elim
    | some _ => rfl
theorem KV.val {kvs : List (κ × V)} {vs : List (κ × Value)} (r : KV kvs vs) (k : κ) : RelO (valV kvs k) (valueAt vs k) := by
  unfold KV at r
  induction r with
  | nil => exact True.intro
  | @cons p q ps qs h t ih =>
    obtain ⟨h1, h2⟩ := h
    by_cases e : p.1 = k
    · have e' : q.1 = k := h1.symm.trans e
      have b : valueAt (q :: qs) k = some q.2 := by simp [valueAt, List.find?_cons, e']
      rw [valV_pos e, b]; exact h2
    · have e' : ¬ q.1 = k := fun z => e (h1.trans z)
      have b : valueAt (q :: qs) k = valueAt qs k := by simp [valueAt, List.find?_cons, e']
      rw [valV_neg e, b]; exact ih
theorem KV.any {kvs : List (κ × V)} {vs : List (κ × Value)} (r : KV kvs vs) (k : κ) : (kvs.any fun kv => decide (kv.1 = k)) = vs.any fun kv => decide (kv.1 = k) := by
  unfold KV at r
  induction r with
  | nil => rfl
  | cons h t ih => rw [List.any_cons, List.any_cons, ih, h.1]
theorem KV.repl {kvs : List (κ × V)} {vs : List (κ × Value)} (r : KV kvs vs) (k : κ) {y : V} {u : Value} (ry : RelV y u) :
    KV (kvs.map fun kv => if kv.1 = k then (kv.1, y) else kv) (vs.map fun kv => if kv.1 = k then (kv.1, u) else kv) := by
  unfold KV at r ⊢
  induction r with
  | nil => exact .nil
  | @cons p q ps qs h t ih =>
    rw [List.map_cons, List.map_cons]
    refine .cons ?_ ih
    obtain ⟨h1, h2⟩ := h
    by_cases e : p.1 = k
    · rw [if_pos e, if_pos (h1.symm.trans e)]; exact ⟨h1, ry⟩
    · rw [if_neg e, if_neg (fun z => e (h1.trans z))]; exact ⟨h1, h2⟩
theorem KV.put {kvs : List (κ × V)} {vs : List (κ × Value)} (r : KV kvs vs) (k : κ) {y : V} {u : Value} (ry : RelV y u) : KV (putK kvs k y) (stored vs k u) := by
  unfold putK stored
  rw [r.any k]
  by_cases e : (vs.any fun kv => decide (kv.1 = k)) = true
  · rw [if_pos e, if_pos e]; exact r.repl k ry
  · rw [if_neg e, if_neg e]; exact Paired.snoc r ⟨rfl, ry⟩
theorem KV.keys {kvs : List (κ × V)} {vs : List (κ × Value)} (r : KV kvs vs) : kvs.map (·.1) = vs.map (·.1) := by
  unfold KV at r
  induction r with
  | nil => rfl
  | cons h t ih => rw [List.map_cons, List.map_cons, ih, h.1]
theorem KV.length {kvs : List (κ × V)} {vs : List (κ × Value)} (r : KV kvs vs) : kvs.length = vs.length := Paired.length r
end
theorem kV_is {P : Program} {w : World} {k : Key} {u : Value} (r : RelV (kV k) u) : (mixKind P w).is k u = true := by
  cases k with
  | inl i => obtain ⟨t, e⟩ := (show ∃ t, u = Value.int i t from r); subst e; exact mixKind_int P w i t
  | inr x => obtain ⟨t, e⟩ := (show ∃ t, u = Value.str x t from r); subst e; exact mixKind_str P w x t
theorem items_are {P : Program} {w : World} : ∀ {ks : List Key} {us : List Value}, Vals (ks.map kV) us → ItemsAre (mixKind P w) ks us
  | [], _, r => by rw [List.map_nil] at r; cases r; exact .nil
  | k :: ks, _, r => by
    rw [List.map_cons] at r
    cases r with
    | cons h t => exact .cons (kV_is h) (items_are t)
abbrev KT (H : Hp) : List (List Key × V) → List (List Key × Addr × Value) → Prop := Paired fun p q => p.1 = q.1 ∧ H q.2.1 = some (.tup (p.1.map kV)) ∧ RelV p.2 q.2.2
theorem KT.val {H : Hp} {kvs : List (List Key × V)} {xs : List (List Key × Addr × Value)} (r : KT H kvs xs) (k : List Key) : RelO (valV kvs k) ((atKey xs k).map (·.2)) := by
  induction r with
  | nil => exact True.intro
  | @cons p q ps qs h t ih =>
    obtain ⟨h1, _, h2⟩ := h
    by_cases e : p.1 = k
    · have e' : q.1 = k := h1.symm.trans e
      have b : atKey (q :: qs) k = some q.2 := by simp [atKey, List.find?_cons, e']
      rw [valV_pos e, b]; exact h2
    · have e' : ¬ q.1 = k := fun z => e (h1.trans z)
      have b : atKey (q :: qs) k = atKey qs k := by simp [atKey, List.find?_cons, e']
      rw [valV_neg e, b]; exact ih
theorem KT.repl {H : Hp} {kvs : List (List Key × V)} {xs : List (List Key × Addr × Value)} (r : KT H kvs xs) (k : List Key) {y : V} {u : Value} (ry : RelV y u) :
    KT H (kvs.map fun kv => if kv.1 = k then (kv.1, y) else kv) (xs.map (putAt k u)) := by
  induction r with
  | nil => exact .nil
  | @cons p q ps qs h t ih =>
    rw [List.map_cons, List.map_cons]
    refine .cons ?_ ih
    obtain ⟨h1, h2, h3⟩ := h
    unfold putAt
    by_cases e : p.1 = k
    · rw [if_pos e, if_pos (h1.symm.trans e)]; exact ⟨h1, h2, ry⟩
    · rw [if_neg e, if_neg (fun z => e (h1.trans z))]; exact ⟨h1, h2, h3⟩
theorem KT.put {H : Hp} {kvs : List (List Key × V)} {xs : List (List Key × Addr × Value)} (r : KT H kvs xs) (k : List Key) {b : Addr} {y : V} {u : Value} (hb : H b = some (.tup (k.map kV))) (ry : RelV y u) :
    KT H (putK kvs k y) (storedH xs k b u) := by
  have e : (kvs.any fun kv => decide (kv.1 = k)) = (atKey xs k).isSome := by
    rw [valV_any, (r.val k).isSome_eq, Option.isSome_map]
  unfold putK storedH
  rw [e]
  by_cases q : (atKey xs k).isSome = true
  · rw [if_pos q, if_pos q]; exact r.repl k ry
  · rw [if_neg q, if_neg q]; exact Paired.snoc r ⟨rfl, hb, ry⟩
theorem KT.keeps {H H' : Hp} {kvs : List (List Key × V)} {xs : List (List Key × Addr × Value)} (r : KT H kvs xs) (ht : ∀ b ys, H b = some (.tup ys) → H' b = some (.tup ys)) : KT H' kvs xs :=
  Paired.mapP r fun _ _ z => ⟨z.1, ht _ _ z.2.1, z.2.2⟩
section
variable {P : Program} {w : World} {H : Hp} {h : Heap} {a : Addr}
theorem rd_of {u : HO} (ok : HOk P w H h) (e : Rd H a u) : ObjOk P w H h a u := e.ok ok
theorem dk_rd {kvs : List (Key × V)} (ok : HOk P w H h) (e : Rd H a (.dK kvs)) : kvs.length ≤ sizeLine ∧ (a == sysModules) = false ∧ ∃ vs, KV kvs vs ∧ h.DictOf (mixKind P w) a vs :=
  show ObjOk P w H h a (.dK kvs) from rd_of ok e
theorem dk_of {kvs : List (Key × V)} (ok : HOk P w H h) (e : H a = some (.dK kvs)) : kvs.length ≤ sizeLine ∧ (a == sysModules) = false ∧ ∃ vs, KV kvs vs ∧ h.DictOf (mixKind P w) a vs := dk_rd ok (.inl e)
theorem key_of {ks : List Key} (ok : HOk P w H h) (e : H a = some (.tup (ks.map kV))) : (tupleKind (mixKind P w)).is h ks a := by
  obtain ⟨_, its, r, o, h1, h2, n, h3⟩ := (show ObjOk P w H h a (.tup (ks.map kV)) from ok a _ e)
  exact ⟨o, its.toArray, n, h1, h2, h3, by simpa using items_are r⟩
theorem dt_rd {kvs : List (List Key × V)} (ok : HOk P w H h) (e : Rd H a (.dT kvs)) : kvs.length ≤ sizeLine ∧ (a == sysModules) = false ∧
    ∃ xs, KT H kvs xs ∧ h.DictOfH (tupleKind (mixKind P w)) a xs := by
  obtain ⟨z, y, xs, r, o, es, ep, h1, h2, h3, h4, h5⟩ := (show ObjOk P w H h a (.dT kvs) from rd_of ok e)
  refine ⟨z, y, xs, r, o, es, ep, h1, h2, h3, h4, fun x hx => ?_, h5⟩
  have all : ∀ {l : List (List Key × V)} {m : List (List Key × Addr × Value)}, KT H l m → ∀ x ∈ m, (tupleKind (mixKind P w)).is h x.1 x.2.1 := by
    intro l m q
    induction q with
    | nil => intro x hx; exact nomatch hx
    | @cons p q ps qs hq t ih =>
      intro x hx
      rcases List.mem_cons.mp hx with e | hx
      · subst e
        exact key_of ok (by rw [← hq.1]; exact hq.2.1)
      · exact ih x hx
  exact all r x hx
theorem dt_of {kvs : List (List Key × V)} (ok : HOk P w H h) (e : H a = some (.dT kvs)) : kvs.length ≤ sizeLine ∧ (a == sysModules) = false ∧
    ∃ xs, KT H kvs xs ∧ h.DictOfH (tupleKind (mixKind P w)) a xs := dt_rd ok (.inl e)
end
def DGet (H : Hp) (a : Addr) (y : V) (r : Option V) : Prop :=
  (∃ kvs k, Rd H a (.dK kvs) ∧ y = kV k ∧ r = valV kvs k) ∨ ∃ kvs k b, Rd H a (.dT kvs) ∧ y = .ref b ∧ H b = some (.tup (k.map kV)) ∧ r = valV kvs k
def DPut (H : Hp) (a : Addr) (y v : V) (H' : Hp) : Prop :=
  (∃ kvs k, H a = some (.dK kvs) ∧ y = kV k ∧ kvs.length < sizeLine ∧ H' = upd H a (.dK (putK kvs k v))) ∨
  ∃ kvs k b, H a = some (.dT kvs) ∧ y = .ref b ∧ H b = some (.tup (k.map kV)) ∧ kvs.length < sizeLine ∧ H' = upd H a (.dT (putK kvs k v))
theorem DGet.k {H : Hp} {a : Addr} {kvs : List (Key × V)} {k : Key} (e : H a = some (.dK kvs)) : DGet H a (kV k) (valV kvs k) := .inl ⟨kvs, k, .inl e, rfl, rfl⟩
theorem DPut.k {H : Hp} {a : Addr} {kvs : List (Key × V)} {k : Key} {v : V} (e : H a = some (.dK kvs)) (hl : kvs.length < sizeLine) : DPut H a (kV k) v (upd H a (.dK (putK kvs k v))) := .inl ⟨kvs, k, e, rfl, hl, rfl⟩
section
variable {X : Cx} {pins : List (Addr × Obj)} {σ : St} {H : Hp} {s : Shared} {a : Addr} {y v : V} {u r : Value} {o : Option V} {A : Around} {E : Value → Shared → Prop}
theorem Inv.big (I : Inv X pins σ H s) : sysModules < s.heap.objs.size := by
  have h : mainGlobals < s.heap.objs.size := (I.mod.glob.keeps I.bk).lt
  exact Nat.lt_trans (by decide) h
theorem d_getItem {Q : Value → Shared → Prop} (hu : A.units + 1 < cLine) (I : Inv X pins σ H s) (g : DGet H a y (some v)) (ry : RelV y u) (h : ∀ w' s', Inv X pins σ H s' → RelV v w' → Q w' s') :
    wpAny (model X.prog X.w) A (getItem (.ref a) u) Q E s := by
  rcases g with ⟨kvs, k, e, ey, l⟩ | ⟨kvs, k, b, e, ey, eb, l⟩
  · subst ey
    obtain ⟨z, hd, vs, rel, dd⟩ := dk_rd I.hok e
    obtain ⟨w', hw, rw'⟩ := RelO.some_of (v := v) (o := valueAt vs k) (by rw [l]; exact rel.val k)
    exact wpAny_getItem_of (kV_is ry) dd.mapOf hw (h w' _ (I.tok _) rw')
  · subst ey
    cases (show u = Value.ref b from ry)
    obtain ⟨z, hd, xs, rel, dd⟩ := dt_rd I.hok e
    obtain ⟨w', hw, rw'⟩ := RelO.some_of (v := v) (o := (atKey xs k).map (·.2)) (by rw [l]; exact rel.val k)
    obtain ⟨p, hp, hp2⟩ := Option.map_eq_some_iff.mp hw
    refine wpAny_getItem_heap (tupleKind_room_in1 hu) (key_of I.hok eb) dd hp ?_
    rw [hp2]
    exact h w' _ (I.tok _) rw'
theorem d_in {Q : Value → Shared → Prop} (hu : A.units + 1 < cLine) (I : Inv X pins σ H s) (g : DGet H a y o) (ry : RelV y u) (h : ∀ s', Inv X pins σ H s' → Q (.bool o.isSome) s') :
    wpAny (model X.prog X.w) A (compareOp .In u (.ref a)) Q E s := by
  rcases g with ⟨kvs, k, e, ey, l⟩ | ⟨kvs, k, b, e, ey, eb, l⟩
  · subst ey
    obtain ⟨z, hd, vs, rel, dd⟩ := dk_rd I.hok e
    refine wpAny_in_of (kV_is ry) hd dd.mapOf ?_
    rw [← (rel.val k).isSome_eq, ← l]
    exact h _ (I.tok _)
  · subst ey
    cases (show u = Value.ref b from ry)
    obtain ⟨z, hd, xs, rel, dd⟩ := dt_rd I.hok e
    refine wpAny_in_heap (tupleKind_room_in1 hu) (key_of I.hok eb) hd dd ?_
    have q := (rel.val k).isSome_eq
    rw [Option.isSome_map] at q
    rw [← q, ← l]
    exact h _ (I.tok _)
theorem d_notIn {Q : Value → Shared → Prop} (hu : A.units + 1 < cLine) (I : Inv X pins σ H s) (g : DGet H a y o) (ry : RelV y u) (h : ∀ s', Inv X pins σ H s' → Q (.bool (!o.isSome)) s') :
    wpAny (model X.prog X.w) A (compareOp .NotIn u (.ref a)) Q E s := by
  rcases g with ⟨kvs, k, e, ey, l⟩ | ⟨kvs, k, b, e, ey, eb, l⟩
  · subst ey
    obtain ⟨z, hd, vs, rel, dd⟩ := dk_rd I.hok e
    refine wpAny_notIn_of (kV_is ry) hd dd.mapOf ?_
    rw [← (rel.val k).isSome_eq, ← l]
    exact h _ (I.tok _)
  · subst ey
    cases (show u = Value.ref b from ry)
    obtain ⟨z, hd, xs, rel, dd⟩ := dt_rd I.hok e
    refine wpAny_notIn_heap (tupleKind_room_in1 hu) (key_of I.hok eb) hd dd ?_
    have q := (rel.val k).isSome_eq
    rw [Option.isSome_map] at q
    rw [← q, ← l]
    exact h _ (I.tok _)
theorem d_write {h' : Heap} {t' : Nat} {ob : HO} (I : Inv X pins σ H s) (mu : Mut (H a)) (hs : Heap.SameBut a s.heap h') (he : ∃ q, h'.get? a = some q) (new : ObjOk X.prog X.w (upd H a ob) h' a ob) :
    Inv X pins σ (upd H a ob) { s with heap := h', toks := t' } :=
  I.write (x := a) (e := a) mu (.inl rfl) (fun b q hb z => (hs.2 b hb).trans z) he new
theorem dk_new {P : Program} {w : World} {H' : Hp} {h' : Heap} {kvs : List (Key × V)} {vs : List (Key × Value)} (z : kvs.length ≤ sizeLine) (hd : (a == sysModules) = false) (rel : KV kvs vs) (dd : h'.DictOf (mixKind P w) a vs) :
    ObjOk P w H' h' a (.dK kvs) := ⟨z, hd, vs, rel, dd⟩
theorem d_setItem {H' : Hp} {Q : Unit → Shared → Prop} (hu : A.units + 1 < cLine) (I : Inv X pins σ H s) (g : DPut H a y v H') (ry : RelV y u) (rv : RelV v r) (h : ∀ s', Inv X pins σ H' s' → Q () s') :
    wpAny (model X.prog X.w) A (setItem (.ref a) u r) Q E s := by
  rcases g with ⟨kvs, k, e, ey, l, eH⟩ | ⟨kvs, k, b, e, ey, eb, l, eH⟩
  · subst ey eH
    obtain ⟨z, hd, vs, rel, dd⟩ := dk_of I.hok e
    have hz : vs.length ≤ sizeLine := by rw [← rel.length]; exact z
    have hl : (putK kvs k v).length ≤ sizeLine := by have := length_putK kvs k v; omega
    refine wpAny_setItem_pairs (hsz := hz) (kV_is ry) dd fun h' dd' hs => h _ ?_
    have he : ∃ q, h'.get? a = some q := let ⟨q, _, _, hq, _⟩ := dd'; ⟨q, hq⟩
    exact d_write I (by rw [e]; exact True.intro) hs he (dk_new hl hd (rel.put k rv) dd')
  · subst ey eH
    cases (show u = Value.ref b from ry)
    obtain ⟨z, hd, xs, rel, dd⟩ := dt_of I.hok e
    have hz : xs.length ≤ sizeLine := by rw [← Paired.length rel]; exact z
    have hl : (putK kvs k v).length ≤ sizeLine := by have := length_putK kvs k v; omega
    refine wpAny_setItem_heap (hsz := hz) (tupleKind_room_in1 hu) (key_of I.hok eb) dd fun h' dd' hs => h _ ?_
    obtain ⟨q, es, ep, hq, h2, h3, h4, _, h5⟩ := dd'
    refine d_write I (by rw [e]; exact True.intro) hs ⟨q, hq⟩ ⟨hl, hd, _, (rel.put k eb rv).keeps fun c ys ec => ?_, q, es, ep, hq, h2, h3, h4, h5⟩
    rw [upd_ne (ne_of ec e (fun z => nomatch z))]
    exact ec
end
section
variable {X : Cx} {pins : List (Addr × Obj)} {σ : St} {H : Hp} {s : Shared} {a : Addr} {kvs : List (Key × V)} {k : Key} {u : Value} {A : Around} {E : Value → Shared → Prop}
theorem d_len {Q : Value → Shared → Prop} (I : Inv X pins σ H s) (e : Rd H a (.dK kvs)) (h : ∀ t s', Inv X pins σ H s' → Q (.int kvs.length t) s') : wpAny (model X.prog X.w) A (call (.builtin "len") [.ref a]) Q E s := by
  obtain ⟨z, hd, vs, rel, dd⟩ := dk_rd I.hok e
  refine call_len_dict hd dd (by rw [← rel.length]; rw [sizeLine_eq] at z; omega) ?_
  rw [← rel.length]
  exact h _ _ (I.tok _)
end
def NoSl (i : Expr) : Prop := ∀ ov iv, subscripted i false ov iv = operate [ov, iv] (getItem ov iv)
theorem subD_of {prog : Program} {w : World} {A : Around} {E : Value → Shared → Prop} {s : Shared} {env : Env} {value slice : Expr} {pos : Pos} {T id : String} {Q : Value → Shared → Prop}
    (hl : typeLookup (.type T) "__getitem__" = pure (some (.builtin id))) (hs : NoSl slice)
    (h : wpAny (model prog w) A (eval value env) (fun o s₁ => wpAny (model prog w) A (eval slice env) (fun i s₂ => s₂.TypeIs o T ∧ wpAny (model prog w) A (getItem o i) Q E s₂) E s₁) E s) :
    wpAny (model prog w) A (eval (.Subscript value slice pos) env) Q E s := by
  refine Subscript_ (wpAny_mono h (fun o s₁ h₁ => wpAny_mono h₁ (fun i s₂ h₂ => ?_) fun _ _ x => x) fun _ _ x => x)
  obtain ⟨hT, h₂⟩ := h₂
  unfold subscriptTail
  refine wpAny_bind ?_
  rw [getitemInPython_of_ne hT.not_modules]
  refine wpAny_bind (wpAny_specialOf hT hl ?_)
  have fin : wpAny (model prog w) A (subscripted slice false o i) (fun r s₃ => wpAny (model prog w) A (letTemporaryGo value o r >>= fun _ => pure r) Q E s₃) E s₂ := by
    rw [hs o i]
    exact wpAny_operating (wpAny_mono h₂ (fun r s₃ h₃ => wpAny_bind (wpAny_letTemporaryGo (wpAny_pure h₃))) fun _ _ x => x)
  first
    | exact wpAny_pure (wpAny_bind fin)
    | exact wpAny_bind (wpAny_pure (wpAny_bind fin))
    | exact wpAny_bind fin
theorem dict_typeIs {X : Cx} {pins : List (Addr × Obj)} {σ : St} {H : Hp} {s : Shared} {a : Addr} {y : V} {o : Option V} (I : Inv X pins σ H s) (g : DGet H a y o) : s.TypeIs (.ref a) "dict" := by
  rcases g with ⟨kvs, k, e, _, _⟩ | ⟨kvs, k, b, e, _, _, _⟩
  · obtain ⟨_, _, vs, _, dd⟩ := dk_rd I.hok e
    exact dd.typeIs
  · obtain ⟨_, _, xs, _, dd⟩ := dt_rd I.hok e
    exact dd.typeIs
def tDGet (td ty : TE) : TE := fun σ H Q => td σ H fun x H1 => ty σ H1 fun y H2 => ∃ a v, x = .ref a ∧ DGet H2 a y (some v) ∧ Q v H2
def tDIn (ty td : TE) : TE := fun σ H Q => ty σ H fun y H1 => td σ H1 fun x H2 => ∃ a o, x = .ref a ∧ DGet H2 a y o ∧ Q (.bl o.isSome) H2
def tDNotIn (ty td : TE) : TE := fun σ H Q => ty σ H fun y H1 => td σ H1 fun x H2 => ∃ a o, x = .ref a ∧ DGet H2 a y o ∧ Q (.bl (!o.isSome)) H2
def sDPut (td ty tv : TE) : TS := fun D σ H => tv σ H fun v H1 => td σ H1 fun x H2 => ty σ H2 fun y H3 => ∃ a H4, x = .ref a ∧ DPut H3 a y v H4 ∧ D.nx σ H4
section
variable {X : Cx} {o i e value : Expr} {pos pos' tpos : Pos} {td ty tv : TE}
theorem pe_dget (hu : X.A.units + 1 < cLine) (ho : PE X o td) (hi : PE X i ty) (hs : NoSl i) : PE X (.Subscript o i pos) (tDGet td ty) := by
  intro pins s σ H Q I h
  refine subD_of PySem.F.slot_dict_getitem.lookup hs (thn (ho pins s σ H _ I h) fun u s1 ⟨x, H1, I1, rx, q1⟩ => thn (hi pins s1 σ H1 _ I1 q1) fun iv s2 ⟨y, H2, I2, ry, a, v, ex, g, q2⟩ => ?_)
  subst ex
  obtain rfl : u = Value.ref a := rx
  exact ⟨dict_typeIs I2 g, d_getItem hu I2 g ry fun w' s3 I3 rw' => ⟨v, H2, I3, rw', q2⟩⟩
theorem pc_din (hu : X.A.units + 1 < cLine) (hi : PE X i ty) (ho : PE X o td) : PC X .In i o (tDIn ty td) := by
  intro pins s σ H Q I h
  refine thn (hi pins s σ H _ I h) fun iv s1 ⟨y, H1, I1, ry, q1⟩ => thn (ho pins s1 σ H1 _ I1 q1) fun u s2 ⟨x, H2, I2, rx, a, ov, ex, g, q2⟩ => ?_
  subst ex
  obtain rfl : u = Value.ref a := rx
  exact d_in hu I2 g ry fun s3 I3 => ⟨.bl ov.isSome, H2, I3, rfl, q2⟩
theorem pc_dnotin (hu : X.A.units + 1 < cLine) (hi : PE X i ty) (ho : PE X o td) : PC X .NotIn i o (tDNotIn ty td) := by
  intro pins s σ H Q I h
  refine thn (hi pins s σ H _ I h) fun iv s1 ⟨y, H1, I1, ry, q1⟩ => thn (ho pins s1 σ H1 _ I1 q1) fun u s2 ⟨x, H2, I2, rx, a, ov, ex, g, q2⟩ => ?_
  subst ex
  obtain rfl : u = Value.ref a := rx
  exact d_notIn hu I2 g ry fun s3 I3 => ⟨.bl (!ov.isSome), H2, I3, rfl, q2⟩
theorem ps_dput (hu : X.A.units + 1 < cLine) (ho : PE X o td) (hi : PE X i ty) (hv : PE X value tv) (hs : swapsWith value (some (.Subscript o i pos')) pos.line X.env = pure false) :
    PS X (.Assign [.Subscript o i pos'] value pos) (sDPut td ty tv) := by
  intro pins s σ H D I h
  refine wpAny_Assign_Subscript (thn (hv pins s σ H _ I h) fun r s1 ⟨v, H1, I1, rv, q1⟩ => thn (ho pins s1 σ H1 _ I1 q1) fun u s2 ⟨x, H2, I2, rx, q2⟩ => thn (hi pins s2 σ H2 _ I2 q2) fun iv s3 ⟨y, H3, I3, ry, a, H4, ex, g, q3⟩ => ?_) hs
  subst ex
  obtain rfl : u = Value.ref a := rx
  exact d_setItem hu I3 g ry rv fun s4 I4 => ⟨σ, H4, I4, q3⟩
end
theorem dk_empty {P : Program} {w : World} {H : Hp} (h : Heap) (hb : sysModules < h.objs.size) : ObjOk P w H (h.push { cls := .type "dict", data := .dict #[] }) h.objs.size (.dK []) :=
  ⟨Nat.zero_le _, beq_eq_false_iff_ne.mpr (Ne.symm (Nat.ne_of_lt hb)), [], .nil, Heap.DictOf.new h⟩
def tDNewK : TE := fun _ H Q => ∀ p, H p = none → Q (.ref p) (upd H p (.dK []))
section
variable {X : Cx} {pos : Pos}
theorem pe_dnewK : PE X (.Dict [] [] pos) tDNewK := fun pins s σ H Q I h =>
  wpAny_Dict_empty ⟨.ref s.heap.objs.size, _, I.laid (a := s.heap.objs.size) (o := .dK []) (t' := s.toks) (fun _ _ q => Heap.get?_push_of_some _ q) (Nat.le_refl _) (dk_empty s.heap I.big), rfl, h _ (I.hok.fresh (Nat.le_refl _))⟩
end
def tPairs : List (TE × TE) → St → Hp → (List (V × V) → Hp → Prop) → Prop
  | [], _, H, Q => Q [] H
  | (tk, tv) :: r, σ, H, Q => tk σ H fun x H1 => tv σ H1 fun y H2 => tPairs r σ H2 fun ps H3 => Q ((x, y) :: ps) H3
abbrev VV : List (V × V) → List (Value × Value) → Prop := Paired fun p q => RelV p.1 q.1 ∧ RelV p.2 q.2
def PPs (X : Cx) (pos : Pos) (keys : List (Option Expr)) (values : List Expr) (trs : List (TE × TE)) : Prop :=
  ∀ (pins : List (Addr × Obj)) (s : Shared) (σ : St) (H : Hp) (Q : List (V × V) → Hp → Prop), Inv X pins σ H s → tPairs trs σ H Q →
    wpAny (model X.prog X.w) X.A (evalPairs (pairTrees keys values X.env pos)) (fun vs s' => ∃ ps H', Inv X pins σ H' s' ∧ VV ps vs ∧ Q ps H') X.xe s
theorem pps_nil {X : Cx} {pos : Pos} : PPs X pos [] [] [] := fun pins s σ H Q I h => pairTrees_nil_walk ⟨[], H, I, .nil, h⟩
theorem pps_cons {X : Cx} {pos : Pos} {k v : Expr} {ks : List (Option Expr)} {vs : List Expr} {tk tv : TE} {trs : List (TE × TE)} (hk : PE X k tk) (hv : PE X v tv) (hr : PPs X pos ks vs trs) :
    PPs X pos (some k :: ks) (v :: vs) ((tk, tv) :: trs) := fun pins s σ H Q I h =>
  pairTrees_cons_walk (thn (hk pins s σ H _ I h) fun u s1 ⟨x, H1, I1, rx, q1⟩ => thn (hv pins s1 σ H1 _ I1 q1) fun w2 s2 ⟨y, H2, I2, ry, q2⟩ =>
    thn (hr pins s2 σ H2 _ I2 q2) fun ws s3 ⟨ps, H3, I3, rel, q3⟩ => ⟨(x, y) :: ps, H3, I3, .cons ⟨rx, ry⟩ rel, q3⟩)
def mergeK (kvs more : List (Key × V)) : List (Key × V) := more.foldl (fun acc kv => putK acc kv.1 kv.2) kvs
theorem KV.merge : ∀ {more : List (Key × V)} {rs : List (Key × Value)} {kvs : List (Key × V)} {vs : List (Key × Value)}, KV more rs → KV kvs vs → KV (mergeK kvs more) (merged vs rs) := by
  intro more rs kvs vs r
  unfold KV at r
  induction r generalizing kvs vs with
  | nil => intro q; exact q
  | @cons p q ps qs h t ih =>
    intro r0
    have e : KV (putK kvs p.1 p.2) (stored vs q.1 q.2) := by
      have := r0.put p.1 h.2
      rw [← h.1]; exact this
    exact ih e
theorem length_mergeK : ∀ (more kvs : List (Key × V)), (mergeK kvs more).length ≤ kvs.length + more.length
  | [], kvs => by show kvs.length ≤ kvs.length + 0; omega
  | p :: r, kvs => by
    have h1 := length_mergeK r (putK kvs p.1 p.2)
    have h2 := length_putK kvs p.1 p.2
    show (mergeK (putK kvs p.1 p.2) r).length ≤ _
    rw [List.length_cons]; omega
theorem carries_of {P : Program} {w : World} : ∀ {kvs : List (Key × V)} {ws : List (Value × Value)}, VV (kvs.map fun kv => (kV kv.1, kv.2)) ws → ∃ rs, Carries (mixKind P w) ws rs ∧ KV kvs rs
  | [], _, r => by rw [List.map_nil] at r; cases r; exact ⟨[], True.intro, .nil⟩
  | p :: kvs, _, r => by
    rw [List.map_cons] at r
    cases r with
    | @cons a b as bs h t =>
      obtain ⟨rs, c, q⟩ := carries_of (P := P) (w := w) t
      obtain ⟨b1, b2⟩ := b
      exact ⟨(p.1, b2) :: rs, ⟨kV_is h.1, rfl, c⟩, .cons ⟨rfl, h.2⟩ q⟩
def tDisp (trs : List (TE × TE)) : TE := fun σ H Q => ∀ p, H p = none → tPairs trs σ (upd H p (.dK [])) fun ps H2 => H2 p = some (.dK []) ∧ ∃ kvs : List (Key × V), ps = kvs.map (fun kv => (kV kv.1, kv.2)) ∧ kvs.length ≤ 15 ∧ Q (.ref p) (upd H2 p (.dK (mergeK [] kvs)))
theorem pe_disp {X : Cx} {pos : Pos} {keys : List (Option Expr)} {values : List Expr} {trs : List (TE × TE)} (h : PPs X pos keys values trs) (hall : keys.all (·.isSome) = true) (hl : keys.length = values.length) (h0 : keys ≠ [])
    (h15 : keys.length ≤ 15) : PE X (.Dict keys values pos) (tDisp trs) := by
  intro pins s σ H Q I q
  have hn := I.hok.fresh (Nat.le_refl s.heap.objs.size)
  have I1 := I.laid (a := s.heap.objs.size) (o := .dK []) (h' := s.heap.push { cls := .type "dict", data := .dict #[] }) (t' := s.toks) (fun _ _ q => Heap.get?_push_of_some _ q) (Nat.le_refl _) (dk_empty s.heap I.big)
  refine wpAny_Dict_walk (knd := mixKind X.prog X.w) hall hl h0 h15 (thn (h pins _ σ _ _ I1 (q _ hn)) fun ws s2 ⟨ps, H2, I2, rel, e, kvs, ep, lk, q2⟩ => ?_)
  subst ep
  obtain ⟨rs, c, rk⟩ := carries_of (P := X.prog) (w := X.w) rel
  obtain ⟨z, hd, vs0, r0, dd⟩ := dk_of I2.hok e
  cases r0
  refine ⟨rs, c, dd, fun h' dd' hs => ⟨.ref s.heap.objs.size, _, ?_, rfl, q2⟩⟩
  have hz : (mergeK [] kvs).length ≤ sizeLine := by
    have h1 := length_mergeK kvs []
    rw [List.length_nil] at h1
    rw [sizeLine_eq]; omega
  have he : ∃ q, h'.get? s.heap.objs.size = some q := let ⟨q, _, _, hq, _⟩ := dd'; ⟨q, hq⟩
  exact d_write I2 (by rw [e]; exact True.intro) hs he (dk_new hz hd (rk.merge .nil) dd')
structure M2 (X : Cx) (o : Expr) (m : Str) (apos : Pos) (e f : Expr) (cpos : Pos) : Prop where
  base : attributeBase o m X.env (eval o X.env) = eval o X.env
  few : ((backTo cpos (starEach [e, f] X.env)).all (fun x => !x.1) && (backToKw cpos (keywordEach [] X.env)).all (fun x => x.1.isSome)
    && decide (([e, f] : List Expr).length + ([] : List Keyword).length + (if ([] : List Keyword).isEmpty then 0 else 1) < 30)) = true
  line : (apos.endLine == cpos.line) = true
  trees : backTo cpos (starEach [e, f] X.env) = [(false, eval e X.env), (false, eval f X.env)]
section
variable {X : Cx} {pins : List (Addr × Obj)} {σ : St} {H : Hp} {s : Shared} {a : Addr} {y d : V} {u r : Value} {o : Option V} {A : Around} {E : Value → Shared → Prop}
end
section
variable {X : Cx} {o e f : Expr} {apos cpos : Pos} {td ty tx : TE}
end
section
variable {X : Cx} {pins : List (Addr × Obj)} {σ : St} {H : Hp} {s : Shared} {a : Addr} {kvs : List (Key × V)} {A : Around} {E : Value → Shared → Prop}
end
section
variable {X : Cx} {pins : List (Addr × Obj)} {σ : St} {H : Hp} {s : Shared} {a : Addr} {y : V} {u : Value} {A : Around} {E : Value → Shared → Prop}
end
end L2
namespace L2
open PySem PySem.Spec PyProof.Rows
section
variable {κ : Type} [DecidableEq κ]
theorem valV_not {kvs : List (κ × V)} {k : κ} (h : valV kvs k = none) : ¬ k ∈ kvs.map (·.1) := by
  intro m
  obtain ⟨p, hp, e⟩ := List.mem_map.mp m
  have q : (kvs.any fun kv => decide (kv.1 = k)) = true := List.any_eq_true.mpr ⟨p, hp, decide_eq_true e⟩
  rw [valV_any, h] at q
  exact absurd q (by simp)
theorem valV_in {kvs : List (κ × V)} {k : κ} {v : V} (h : valV kvs k = some v) : k ∈ kvs.map (·.1) := by
  have q : (kvs.any fun kv => decide (kv.1 = k)) = true := by
    rw [valV_any, h]
    all_goals rfl
  obtain ⟨p, hp, e⟩ := List.any_eq_true.mp q
  exact List.mem_map.mpr ⟨p, hp, of_decide_eq_true e⟩
theorem nd_snoc : ∀ {l : List κ} {k : κ}, l.Nodup → ¬ k ∈ l → (l ++ [k]).Nodup
  | [], k, _, _ => by simp
  | a :: r, k, h, hk => by
    obtain ⟨h1, h2⟩ := List.nodup_cons.mp h
    show (a :: (r ++ [k])).Nodup
    refine List.nodup_cons.mpr ⟨fun m => ?_, nd_snoc h2 fun m => hk (List.mem_cons.mpr (Or.inr m))⟩
    rcases List.mem_append.mp m with q | q
    · exact h1 q
    · exact hk (List.mem_cons.mpr (Or.inl (List.mem_singleton.mp q).symm))
end
end L2
namespace L2
open PySem PySem.Spec PyProof.Rows
def cxC (X : Cx) (N : List Str) (scope : Scope) (cl : List (Str × Addr)) (C : Addr) (s0 : Shared) (H0 : Hp) (ex : List Addr) : Cx :=
  { X with N := N, s₀ := s0, H₀ := H0, env := compEnvC scope cl C X.env, outer := X.stack, stack := X.stack, ex := ex, fn := fun _ => false, pn := [], xe := fun _ _ => False }
theorem closure_ok {env : Env} (has : ∀ x, (env.kindOf x = some .cell ∨ env.kindOf x = some .free) → ∃ c, env.cells.lookup x = some c) {scope : Scope}
    (hf : ∀ y ∈ scope.names, y.2 = .free → env.kindOf y.1 = some .cell ∨ env.kindOf y.1 = some .free) :
    ∃ cl, closureFor scope env = pure cl ∧ (∀ x c, cl.lookup x = some c → env.cells.lookup x = some c) ∧ (∀ y ∈ scope.names, y.2 = .free → ∃ c, cl.lookup y.1 = some c) := by
  have gen : ∀ (names : List (Str × NameKind)) (cs : List (Str × Addr)), (∀ y ∈ names, y.2 = .free → env.kindOf y.1 = some .cell ∨ env.kindOf y.1 = some .free) →
      (∀ x c, cs.lookup x = some c → env.cells.lookup x = some c) →
      ∃ cl, (forIn (m := Sem) names cs fun p r => do
          match p with
          | (name, kind) => if kind == .free then do let c ← cellOf env name; pure (ForInStep.yield ((name, c) :: r)) else pure (ForInStep.yield r)) = pure cl ∧
        (∀ x c, cl.lookup x = some c → env.cells.lookup x = some c) ∧ (∀ x c, cs.lookup x = some c → ∃ c, cl.lookup x = some c) ∧ (∀ y ∈ names, y.2 = .free → ∃ c, cl.lookup y.1 = some c) := by
    intro names
    induction names with
    | nil => intro cs _ h; exact ⟨cs, rfl, h, fun x c e => ⟨c, e⟩, fun y hy => nomatch hy⟩
    | cons p r ih =>
      intro cs hp h
      obtain ⟨n, k⟩ := p
      by_cases hk : k = .free
      · subst hk
        obtain ⟨c, hc⟩ := has n (hp (n, .free) List.mem_cons_self rfl)
        have h' : ∀ x d, ((n, c) :: cs).lookup x = some d → env.cells.lookup x = some d := by
          intro x d e
          rw [List.lookup_cons] at e
          cases hx : x == n with
          | true =>
            rw [hx] at e
            have : x = n := by simpa using hx
            cases e; rw [this]; exact hc
          | false => rw [hx] at e; exact h x d e
        obtain ⟨cl, e1, e2, e3, e4⟩ := ih ((n, c) :: cs) (fun y hy => hp y (List.mem_cons_of_mem _ hy)) h'
        have hn : ∃ d, cl.lookup n = some d := e3 n c (by simp [List.lookup_cons])
        refine ⟨cl, ?_, e2, fun x d e => ?_, fun y hy hyk => ?_⟩
        · rw [List.forIn_cons]
          have : cellOf env n = pure c := by unfold cellOf; rw [hc]
          simp only [beq_self_eq_true, if_true, this]
          exact e1
        · by_cases hx : x = n
          · subst hx; exact hn
          · exact e3 x d (by rw [List.lookup_cons]; have : (x == n) = false := by simpa using hx
                             rw [this]; exact e)
        · rcases List.mem_cons.mp hy with rfl | hy
          · exact hn
          · exact e4 y hy hyk
      · obtain ⟨cl, e1, e2, e3, e4⟩ := ih cs (fun y hy => hp y (List.mem_cons_of_mem _ hy)) h
        refine ⟨cl, ?_, e2, e3, fun y hy hyk => ?_⟩
        · rw [List.forIn_cons]
          have : (k == NameKind.free) = false := by simpa using hk
          simp only [this]
          exact e1
        · rcases List.mem_cons.mp hy with rfl | hy
          · exact absurd hyk hk
          · exact e4 y hy hyk
  obtain ⟨cl, e1, e2, _, e4⟩ := gen scope.names [] hf (fun x c e => nomatch e)
  refine ⟨cl, ?_, e2, e4⟩
  unfold closureFor
  simp only []
  exact congrArg (· >>= fun cs => pure cs) e1 |>.trans rfl
end L2
namespace L2
open PySem PySem.Spec PyProof.Rows
theorem relabel_kind {scope : Scope} {env : Env} {x : Str} {k : NameKind} (h : (relabel scope env).names.lookup x = some k) (hk : k = .cell ∨ k = .free) (nc : ∀ y ∈ scope.names, y.2 ≠ .cell) : ∃ y ∈ scope.names, y.1 = x ∧ y.2 = .free := by
  have gen : ∀ names : List (Str × NameKind), (names.map fun (n, k) => if (k == NameKind.free && env.scope.kind == .function && env.kindOf n == some .cell) then (n, NameKind.cell) else (n, k)).lookup x = some k → (∀ y ∈ names, y.2 ≠ .cell) →
      ∃ y ∈ names, y.1 = x ∧ y.2 = .free := by
    intro names
    induction names with
    | nil => intro h _; cases h
    | cons p r ih =>
      obtain ⟨n, j⟩ := p
      intro h nc
      rw [List.map_cons, List.lookup_cons] at h
      have e1 : (if (j == NameKind.free && env.scope.kind == .function && env.kindOf n == some .cell) = true then (n, NameKind.cell) else (n, j)).1 = n := by split <;> rfl
      dsimp only at h
      rw [e1] at h
      cases hx : x == n with
      | false =>
        rw [hx] at h
        obtain ⟨y, hy, q⟩ := ih h fun y hy => nc y (List.mem_cons_of_mem _ hy)
        exact ⟨y, List.mem_cons_of_mem _ hy, q⟩
      | true =>
        rw [hx] at h
        have ex : x = n := by simpa using hx
        have hj : j = .free := by
          by_cases hc : (j == NameKind.free && env.scope.kind == .function && env.kindOf n == some .cell) = true
          · have := (Bool.and_eq_true _ _).mp ((Bool.and_eq_true _ _).mp hc).1
            simpa using this.1
          · rw [if_neg hc] at h
            cases h
            rcases hk with z | z
            · exact absurd z (nc (n, j) List.mem_cons_self)
            · exact z
        exact ⟨(n, j), List.mem_cons_self, ex.symm, hj⟩
  exact gen scope.names h nc
section
variable {X : Cx} {pins : List (Addr × Obj)} {σ : St} {H : Hp} {s : Shared} {N : List Str} {scope : Scope} {cl : List (Str × Addr)} {C : Addr} {ex : List Addr}
theorem cxC_ok (I : Inv X pins σ H s) (hC : s.heap.objs.size ≤ C) (hkind : scope.kind = .function) (nc : ∀ y ∈ scope.names, y.2 ≠ .cell)
    (hcl : ∀ x c, cl.lookup x = some c → X.env.cells.lookup x = some c) (hcf : ∀ y ∈ scope.names, y.2 = .free → ∃ c, cl.lookup y.1 = some c)
    (hex : ∀ b ∈ ex, FpOk X pins H b) (hexl : ∀ b ∈ ex, b < s.heap.objs.size) : (cxC X N scope cl C s H ex).Ok where
  mod := I.ok.mod
  kind := hkind
  glob := I.ok.glob
  blt := I.ok.blt
  above := hC
  inj := fun x y c h1 h2 => I.ok.inj x y c (hcl x c h1) (hcl y c h2)
  has := fun x hx => by
    have hx' : ∃ k, (relabel scope X.env).names.lookup x = some k ∧ (k = .cell ∨ k = .free) := by
      rcases hx with h | h
      · exact ⟨_, h, .inl rfl⟩
      · exact ⟨_, h, .inr rfl⟩
    obtain ⟨k, h, hk⟩ := hx'
    obtain ⟨y, hy, e1, e2⟩ := relabel_kind h hk nc
    rw [← e1]
    exact hcf y hy e2
  cab := fun x c h => by cases h
  hd := I.ok.hd
  frames := I.ok.frames
  stk := .inl rfl
  exf := fun b hb => ⟨Nat.ne_of_lt (Nat.lt_of_lt_of_le (hexl b hb) hC), fun x c e => (hex b hb).2.2.2.2.1 x c (hcl x c e)⟩
  bs := I.bs
  bsz := Nat.le_trans I.ok.bsz I.sz
  noex := fun b o e hb => by
    rcases (hex b hb).2.2.2.1 with z | z
    · exact I.ok.noex b o e z
    · have h1 := Heap.lt_size e
      have h2 := I.ok.bsz
      exact absurd (Nat.lt_of_lt_of_le h1 (Nat.le_trans h2 z)) (Nat.lt_irrefl _)
  exfs := fun b hb z => by
    have h1 := I.stkSub b z
    rcases List.mem_cons.mp h1 with z | z
    · exact (hex b hb).2.1 z
    · exact (hex b hb).2.2.1 z
  funs := I.stack
  frf := I.stkFree
def capV (caps : List Nat) (σ : St) : St := caps.map fun j => (σ[j]?).join
def cSt (n : Nat) (caps : List Nat) (σ : St) : St := List.replicate n none ++ capV caps σ
theorem cxC_inv {caps : List Nat} {Nt Nf : List Str} {s1 : Shared} {m : Str → Option Value} (I : Inv X pins σ H s) (ok : (cxC X (Nt ++ Nf) scope cl C s H ex).Ok)
    (hcl : ∀ x c, cl.lookup x = some c → X.env.cells.lookup x = some c)
    (hcap : caps.map (fun j => X.N[j]?) = Nf.map some)
    (hvis : ∀ x ∈ Nf, scope.names.lookup x = some .free) (hXv : ∀ x ∈ Nf, X.env.kindOf x = some .cell ∨ X.env.kindOf x = some .free) (hcf : ∀ x ∈ Nf, ∃ c, cl.lookup x = some c)
    (hos : s1.os = s.os) (hgens : s1.gens = s.gens) (hk : ∀ b o, s.heap.get? b = some o → s1.heap.get? b = some o) (hns : s1.heap.Ns C m) (hC : s.heap.objs.size ≤ C) :
    Inv (cxC X (Nt ++ Nf) scope cl C s H ex) [] (cSt Nt.length caps σ) H s1 := by
  have hlen : caps.length = Nf.length := by
    have := congrArg List.length hcap
    simpa using this
  refine ⟨ok, hos, by rw [hgens]; exact I.bare, Un.kept hk, ⟨m, hns, fun i x v h1 h2 h3 => ?_⟩, fun x c e => ?_, I.hok.fresh hC, fun x c e => I.freeC x c (hcl x c e), fun p hp => absurd (show p ∈ ([] : List (Addr × Obj)) from hp) (by simp), I.hok.kept hk, ?_⟩
  · -- a captured name
    have hi : Nt.length ≤ i := by
      refine Nat.le_of_not_lt fun q => ?_
      unfold cSt at h2
      rw [List.getElem?_append_left (by simpa using q), List.getElem?_replicate] at h2
      split at h2 <;> cases h2
    have h1' : Nf[i - Nt.length]? = some x := by
      have : (Nt ++ Nf)[i]? = some x := h1
      rwa [List.getElem?_append_right hi] at this
    unfold cSt at h2
    rw [List.getElem?_append_right (by simpa using hi)] at h2
    have e0 : i - (List.replicate Nt.length (none : Option V)).length = i - Nt.length := by simp
    rw [e0] at h2
    generalize hj : i - Nt.length = j at h1' h2
    unfold capV at h2
    rw [List.getElem?_map] at h2
    cases hc : caps[j]? with
    | none => rw [hc] at h2; cases h2
    | some jj =>
      rw [hc] at h2
      have h2' : (σ[jj]?).join = some v := Option.some.inj h2
      have h2'' : σ[jj]? = some (some v) := by
        cases q : σ[jj]? with
        | none => rw [q] at h2'; cases h2'
        | some z => rw [q] at h2'; cases z with
          | none => cases h2'
          | some z' => cases h2'; rfl
      have hN : X.N[jj]? = some x := by
        have q := congrArg (fun l => l[j]?) hcap
        simp only [List.getElem?_map, hc, h1', Option.map_some] at q
        exact Option.some.inj q
      have hx : x ∈ Nf := List.mem_of_getElem? h1'
      have hXk := hXv x hx
      obtain ⟨mX, _, hl⟩ := I.loc
      obtain ⟨u, ru, lk⟩ := hl jj x v hN h2'' (by
        rcases hXk with z | z
        · exact .inr (.inl z)
        · exact .inr (.inr z))
      refine ⟨u, ru, .inr ?_⟩
      rcases lk with ⟨z, _⟩ | ⟨_, c, hc1, hcell⟩
      · rcases hXk with y | y <;> (rw [z] at y; cases y)
      · obtain ⟨c', hc'⟩ := hcf x hx
        have e := hcl x c' hc'
        rw [hc1] at e; cases e
        refine ⟨?_, c, hc', ?_⟩
        · rcases h3 with z | z | z
          · -- not a local of the block
            exfalso
            have hfree := hvis x hx
            have z' : (relabel scope X.env).names.lookup x = some .local := z
            have gen : ∀ names : List (Str × NameKind), names.lookup x = some .free → (names.map fun (n, k) => if (k == NameKind.free && X.env.scope.kind == .function && X.env.kindOf n == some .cell) then (n, NameKind.cell) else (n, k)).lookup x ≠ some .local := by
              intro names
              induction names with
              | nil => intro h; cases h
              | cons p r ih =>
                obtain ⟨n, k⟩ := p
                intro h
                rw [List.map_cons, List.lookup_cons]
                rw [List.lookup_cons] at h
                have e1 : (if (k == NameKind.free && X.env.scope.kind == .function && X.env.kindOf n == some .cell) = true then (n, NameKind.cell) else (n, k)).1 = n := by split <;> rfl
                dsimp only
                rw [e1]
                cases hx : x == n with
                | false => rw [hx] at h; exact ih h
                | true =>
                  rw [hx] at h
                  cases h
                  show some (if _ then (n, NameKind.cell) else (n, NameKind.free)).2 ≠ some .local
                  split <;> (intro q; cases q)
            exact gen scope.names hfree z'
          · exact .inl z
          · exact .inr z
        · obtain ⟨o, eo, d⟩ := hcell
          exact ⟨o, hk _ _ eo, d⟩
  · obtain ⟨v, q⟩ := I.cell x c (hcl x c e)
    obtain ⟨o, eo, d⟩ := q
    exact ⟨v, o, hk _ _ eo, d⟩
  · show (cSt Nt.length caps σ).length = (Nt ++ Nf).length
    unfold cSt capV
    simp [hlen]
end
end L2
namespace L2
open PySem PySem.Spec PyProof.Rows
abbrev askIfs (ifs : List Expr) (env : Env) : Sem Bool := forIn ifs true fun c r => if r = true then do let ok ← isTrue c env (eval c env); pure (ForInStep.yield ok) else pure (ForInStep.yield r)
abbrev NoX : Value → Shared → Prop := fun _ _ => False
theorem compLoop_any {P : Program} {w : World} {B : Around} {R : Result → Shared → Prop} {s : Shared} {y tg l : Expr} {cs : List Expr} {sc : Scope} {ps : Pos} {iv av : Value} {en : Env} (G : Nat → Shared → Prop)
    (one : ∀ n s, G n s → wpAny (model P w) B (pyNext iv) (fun r s1 => match r with
      | none => R (.ok .next) s1
      | some v => wpAny (model P w) B (letOwnedTupleGo tg iv v) (fun _ s1 => wpAny (model P w) B (assign tg en v) (fun _ s2 => wpAny (model P w) B (askIfs cs en) (fun k s3 =>
            if k = true then wpAny (model P w) B (eval y en) (fun x s4 => wpAny (model P w) B (call (.builtin "list.append") [av, x]) (fun _ s5 => ∃ m, m < n ∧ G m s5) NoX s4) NoX s3
            else ∃ m, m < n ∧ G m s3) NoX s2) NoX s1) NoX s1) NoX s) (n : Nat) (h : G n s) :
    codeAny (model P w) B (.compLoop (.ListComp y [⟨tg, l, cs, 0⟩] sc ps) 0 iv av en) R s := by
  refine codeAny_loop rfl G (fun n s hG => ?_) n h
  show wpAny _ B ((compTurn (.ListComp y [⟨tg, l, cs, 0⟩] sc ps) 0 iv av en).onRaise (fun x => do noteFrame x en; theTreesLotGoes x)) _ _ s
  refine wpAny_noted ?_
  rw [compTurn_list]
  refine wpAny_bind (wpAny_standAt (wpAny_bind (wpAny_mono (one n s hG) (fun r s1 h1 => ?_) fun _ _ z => z.elim)))
  cases r with
  | none => exact wpAny_pure h1
  | some v =>
    refine wpAny_bind (wpAny_mono h1 (fun _ s1' h1' => ?_) fun _ _ z => z.elim)
    refine wpAny_bind (wpAny_mono h1' (fun _ s2 h2 => wpAny_bind (wpAny_mono h2 (fun k s3 h3 => ?_) fun _ _ z => z.elim)) fun _ _ z => z.elim)
    cases k with
    | false => exact wpAny_pure ⟨rfl, h3⟩
    | true => exact wpAny_bind (wpAny_bind (wpAny_mono h3 (fun x s4 h4 => wpAny_bind (wpAny_mono h4 (fun _ s5 h5 => wpAny_pure (wpAny_pure ⟨rfl, h5⟩)) fun _ _ z => z.elim)) fun _ _ z => z.elim))
def PTs (X : Cx) (ifs : List Expr) (t : TT) : Prop :=
  ∀ (pins : List (Addr × Obj)) (s : Shared) (σ : St) (H : Hp) (Q : Bool → Hp → Prop), Inv X pins σ H s → t σ H Q →
    wpAny (model X.prog X.w) X.A (askIfs ifs X.env) (TP X pins σ Q) X.xe s
def tNoIf : TT := fun _ H Q => Q true H
theorem pts_nil {X : Cx} : PTs X [] tNoIf := fun pins s σ H Q I h => wpAny_tests_nil ⟨H, I, h⟩
theorem pts_one {X : Cx} {c : Expr} {t : TT} (h : PT X c t) : PTs X [c] t := fun pins s σ H Q I q => wpAny_tests_one (h pins s σ H Q I q)
section
variable {X : Cx} {pins : List (Addr × Obj)} {σ : St} {H : Hp} {s : Shared}
theorem Inv.adopt {D : Addr} {o : HO} (I : Inv X pins σ H s) (hD : H D = none) (h1 : X.s₀.heap.objs.size ≤ D) (h2 : D ≠ X.env.locals) (h3 : ∀ x c, X.env.cells.lookup x = some c → c ≠ D) (h4 : ∀ p ∈ X.pn ++ pins, p.1 ≠ D)
    (new : ObjOk X.prog X.w (upd H D o) s.heap D o) : Inv X pins σ (upd H D o) s := by
  have old : ∀ {b : Addr} {q : Obj}, X.s₀.heap.get? b = some q → b ≠ D := fun e => Nat.ne_of_lt (Nat.lt_of_lt_of_le (Heap.lt_size e) h1)
  refine ⟨I.ok, I.os, I.bare, ⟨I.base.keep, I.base.slot, fun b q e n hx => by rw [upd_ne (old e)]; exact I.base.free b q e n hx, I.base.there, fun b xs e => ?_, fun b q u e => ?_, fun b ps e => ?_⟩, I.loc, I.cell, by rw [upd_ne (Ne.symm h2)]; exact I.free, fun x c e => by rw [upd_ne (h3 x c e)]; exact I.freeC x c e, fun p hp => ?_, fun b u e => ?_, I.len⟩
  · have e' := I.base.tups b xs e
    rw [upd_ne (ne_of_none e' hD)]; exact e'
  · have e' := I.base.frzs b q u e
    rw [upd_ne (ne_of_none e' hD)]; exact e'
  · obtain ⟨more, e'⟩ := I.base.tbls b ps e
    exact ⟨more, by rw [upd_ne (ne_of_none e' hD)]; exact e'⟩
  · obtain ⟨a1, a2, a3, a4, a5⟩ := I.pin p hp
    exact ⟨a1, by rw [upd_ne (h4 p hp)]; exact a2, a3, a4, a5⟩
  · by_cases hb : b = D
    · subst hb; rw [upd_same] at e; cases e; exact new
    · rw [upd_ne hb] at e
      exact (I.hok b u e).stay (fun c v _ q => q) (fun c q => by rw [upd_ne (ne_of_none q hD)]; exact q) fun c xs q => by rw [upd_ne (ne_of_none q hD)]; exact q
def tLC (wi : TI) (g : TG) (tt : TT) (te : TE) (n : Nat) (caps : List Nat) : TE := fun σ H Q => wi σ H fun J H1 => ∃ W : Nat → Nat → List V → St → Hp → Prop, (∃ m, W 0 m [] (cSt n caps σ) H1) ∧ ∀ i m acc σ' H', W i m acc σ' H' →
  (J.stop i H' ∧ ∀ l, H' l = none → Q (.ref l) (upd H' l (.lst acc))) ∨
  (J.go i H' ∧ acc.length < sizeLine ∧ ∃ N : List V → St → Hp → Prop, (∀ ac σ2 H2, N ac σ2 H2 → ∃ m', m' < m ∧ W (i + 1) m' ac σ2 H2) ∧ ∀ x H2, J.yld i H' x H2 → g x σ' H2 fun σ3 H3 => tt σ3 H3 fun b H4 => if b = true then te σ3 H4 fun y H5 => N (acc ++ [y]) σ3 H5 else N acc σ3 H4)
structure CompOk (X : Cx) (scope : Scope) (Nt Nf : List Str) (caps : List Nat) : Prop where
  kind : scope.kind = .function
  nc : ∀ y ∈ scope.names, y.2 ≠ .cell
  nm : ∀ y ∈ scope.names, y.2 = .local → scope.names.lookup y.1 = some .local
  fr : ∀ y ∈ scope.names, y.2 = .free → X.env.kindOf y.1 = some .cell ∨ X.env.kindOf y.1 = some .free
  cap : caps.map (fun j => X.N[j]?) = Nf.map some
  vis : ∀ x ∈ Nf, scope.names.lookup x = some .free
theorem comp_block {tg iter elt : Expr} {ifs : List Expr} {scope : Scope} {pos : Pos} {g : TG} {tt : TT} {te : TE} {Nt Nf : List Str} {caps : List Nat} {cl : List (Str × Addr)} {it : Addr} {fp : List Addr} {tn : Nat → Heap → Prop} {J : It} {Q : VK} {E : Value → Shared → Prop}
    {RR : Value → Addr → Result → Shared → Prop}
    (hc : X.calm = true) (S : CompOk X scope Nt Nf caps)
    (hg : ∀ cl C s0 H0 ex, PG (cxC X (Nt ++ Nf) scope cl C s0 H0 ex) tg g)
    (ht : ∀ cl C s0 H0 ex, PTs (cxC X (Nt ++ Nf) scope cl C s0 H0 ex) ifs tt)
    (he : ∀ cl C s0 H0 ex, PE (cxC X (Nt ++ Nf) scope cl C s0 H0 ex) elt te)
    (hcl : ∀ x c, cl.lookup x = some c → X.env.cells.lookup x = some c) (hcf : ∀ y ∈ scope.names, y.2 = .free → ∃ c, cl.lookup y.1 = some c)
    (I : Inv X pins σ H s) (T : Turn X.prog X.w X.K tg J fp it tn) (st : tn 0 s.heap) (hfp : ∀ b ∈ fp, FpOk X pins H b)
    (hW : ∃ W : Nat → Nat → List V → St → Hp → Prop, (∃ m, W 0 m [] (cSt Nt.length caps σ) H) ∧ ∀ i m acc σ' H', W i m acc σ' H' →
      (J.stop i H' ∧ ∀ l, H' l = none → Q (.ref l) (upd H' l (.lst acc))) ∨
      (J.go i H' ∧ acc.length < sizeLine ∧ ∃ N : List V → St → Hp → Prop, (∀ ac σ2 H2, N ac σ2 H2 → ∃ m', m' < m ∧ W (i + 1) m' ac σ2 H2) ∧ ∀ x H2, J.yld i H' x H2 → g x σ' H2 fun σ3 H3 => tt σ3 H3 fun b H4 => if b = true then te σ3 H4 fun y H5 => N (acc ++ [y]) σ3 H5 else N acc σ3 H4))
    (fin : ∀ D C m s' H', Inv X pins σ H' s' → Q (.ref D) H' → s'.heap.Ns C m → H' C = none → C ≠ X.env.locals → X.s₀.heap.objs.size ≤ C → (∀ x c, X.env.cells.lookup x = some c → c ≠ C) → (∀ p ∈ X.pn ++ pins, p.1 ≠ C) → RR (.ref D) C (.ok .next) s') :
    wpAny (model X.prog X.w) X.A (newList []) (fun acc s₃ => wpAny (model X.prog X.w) X.A (newFunctionEnv scope X.env.globals cl [] X.env.qual none .none (some X.env)) (fun cenv s₄ =>
      codeAny (model X.prog X.w) X.A (.compStart (.ListComp elt [⟨tg, iter, ifs, 0⟩] scope pos) 0 (.ref it) acc { cenv with scope := relabel scope X.env }) (RR acc cenv.locals) s₄) E s₃) E s := by
  obtain ⟨W, ⟨m0, w0⟩, turn⟩ := hW
  refine wpAny_newObj_type (wpAny_newFunctionEnv S.nc (by intro y hy; simp at hy) (fun h₁ hns₁ hsb₁ => ?_) S.kind)
  dsimp only at hns₁ hsb₁ ⊢
  generalize hH2 : s.heap.push { cls := .type "list", dict := none, data := .seq ([] : List Value).toArray } = P2 at hns₁ hsb₁ ⊢
  have hCs : P2.objs.size = s.heap.objs.size + 1 := by rw [← hH2, Heap.size_push]
  have hDC : s.heap.objs.size ≠ P2.objs.size := by rw [hCs]; exact Nat.ne_of_lt (Nat.lt_succ_self _)
  have hCle : s.heap.objs.size ≤ P2.objs.size := by rw [hCs]; exact Nat.le_succ _
  have below : ∀ b, b < s.heap.objs.size → b ≠ P2.objs.size := fun b hb => by rw [hCs]; exact Nat.ne_of_lt (Nat.lt_succ_of_lt hb)
  have old : ∀ b o, s.heap.get? b = some o → h₁.get? b = some o := fun b o e => hsb₁.extBut b o (below b (Heap.lt_size e)) (Heap.get?_push_of_some _ (hH2 ▸ Heap.get?_push_of_some _ e))
  have hacc : h₁.PlainList s.heap.objs.size #[] := ⟨_, hsb₁.extBut _ _ hDC (Heap.get?_push_of_some _ (hH2 ▸ Heap.get?_push_size _ rfl))⟩
  have fpl : ∀ b ∈ fp, b < s.heap.objs.size := fun b hb => by
    obtain ⟨o, e, _⟩ := T.obj _ _ st b hb
    exact Heap.lt_size e
  have st₁ : tn 0 h₁ := T.keep _ _ _ st fun b _ o e => old b o e
  generalize hCe : P2.objs.size = C at hns₁ hsb₁ hDC hCle below ⊢
  generalize hDe : s.heap.objs.size = D at hacc hDC hCle ⊢
  have hDl : X.env.locals < D := by rw [← hDe]; exact I.lt
  have hDs : X.s₀.heap.objs.size ≤ D := by rw [← hDe]; exact I.sz
  have hcD : ∀ x c, X.env.cells.lookup x = some c → c < D := fun x c e => by
    obtain ⟨v, q⟩ := I.cell x c e
    rw [← hDe]; exact q.lt
  have hpD : ∀ p ∈ X.pn ++ pins, p.1 < D := fun p hp => by rw [← hDe]; exact Heap.lt_size (I.pin p hp).1
  let Y : Cx := cxC X (Nt ++ Nf) scope cl C s H fp
  have okY : Y.Ok := cxC_ok I (by rw [hDe]; exact hCle) S.kind S.nc hcl hcf hfp fpl
  have hfsY : ∀ b, b ∈ Y.fs → b < D := fun b hb => by
    rcases List.mem_cons.mp (I.stkSub b hb) with z | z
    · rw [z]; exact hDl
    · refine Nat.lt_of_lt_of_le ?_ hDs
      have := (I.ok.funs.mem z)
      refine Nat.lt_of_not_le fun q => ?_
      exact absurd z (fun z => by
        have := I.nofs (a := b)
        by_cases hb2 : s.heap.objs.size ≤ b
        · exact this hb2 z
        · obtain ⟨_, o, e, _⟩ := I.ok.funs.mem z
          exact absurd (Heap.lt_size e) (Nat.not_lt.mpr q))
  have loop : ∀ s₃ : Shared, s₃ = { s with heap := h₁, toks := s.toks + ([] : List (Str × Value)).length } →
      codeAny (model X.prog X.w) X.A (.compLoop (.ListComp elt [⟨tg, iter, ifs, 0⟩] scope pos) 0 (.ref it) (.ref D) Y.env) (RR (.ref D) C) s₃ := by
    rintro s₃ rfl
    have I0 : Inv Y [] (cSt Nt.length caps σ) H { s with heap := h₁, toks := s.toks + ([] : List (Str × Value)).length } :=
      cxC_inv I okY hcl S.cap S.vis (fun x hx => S.fr (x, .free) (PySem.mem_of_lookup (S.vis x hx)) rfl) (fun x hx => hcf (x, .free) (PySem.mem_of_lookup (S.vis x hx)) rfl) rfl rfl old hns₁ (by rw [hDe]; exact hCle)
    have fpY : ∀ {H' : Hp}, (∀ b ∈ fp, H' b = none) → ∀ b ∈ fp, FpOk Y [] H' b := fun hn b hb =>
      ⟨hn b hb, Nat.ne_of_lt (Nat.lt_of_lt_of_le (fpl b hb) (by rw [hDe]; exact hCle)), okY.exfs b hb, .inl hb, fun x c e => (hfp b hb).2.2.2.2.1 x c (hcl x c e), fun p hp => absurd (show p ∈ ([] : List (Addr × Obj)) from hp) (by simp)⟩
    have fpD : ∀ b ∈ fp, b ≠ D := fun b hb => Nat.ne_of_lt (by rw [← hDe]; exact fpl b hb)
    refine compLoop_any (fun n s' => ∃ i acc its σ' H', Inv Y [] σ' H' s' ∧ tn i s'.heap ∧ (∀ b ∈ fp, H' b = none) ∧ s'.heap.PlainList D its ∧ H' D = none ∧ Vals acc its.toList ∧ acc.length ≤ sizeLine ∧ W i n acc σ' H') ?_ m0
      ⟨0, [], #[], cSt Nt.length caps σ, H, I0, st₁, fun b hb => (hfp b hb).1, hacc, by rw [← hDe]; exact I.hok.fresh (Nat.le_refl _), .nil, Nat.zero_le _, w0⟩
    rintro n s3 ⟨i, acc, its, σ3, H3, I3, st3, fr3, ⟨nd, e3⟩, hD3, rv3, hl3, w3⟩
    have cD : C ≠ D := Ne.symm hDC
    have pinOk : ∀ {H' : Hp} {s' : Shared} {o : Obj}, s'.heap.get? D = some o → H' D = none → (∀ v, o.data ≠ .cell v) → s'.heap.get? D = some o ∧ H' D = none ∧ D ≠ Y.env.locals ∧ D ∉ Y.fs ∧ ∀ v, o.data ≠ .cell v := fun e n d =>
      ⟨e, n, hDC, fun z => absurd (hfsY D z) (Nat.lt_irrefl _), d⟩
    have I3' : Inv Y [(D, { cls := .type "list", data := .seq its nd })] σ3 H3 s3 := I3.pins_of fun p hp => by
      obtain rfl : p = (D, ({ cls := .type "list", data := .seq its nd } : Obj)) := List.mem_singleton.mp hp
      exact pinOk e3 hD3 (fun v z => by cases z)
    have fpY' : ∀ {H' : Hp}, (∀ b ∈ fp, H' b = none) → ∀ b ∈ fp, FpOk Y [(D, { cls := .type "list", data := .seq its nd })] H' b := fun hn b hb => by
      obtain ⟨a1, a2, a3, a4, a5, _⟩ := fpY hn b hb
      refine ⟨a1, a2, a3, a4, a5, fun p hp => ?_⟩
      obtain rfl : p = (D, ({ cls := .type "list", data := .seq its nd } : Obj)) := List.mem_singleton.mp hp
      exact Ne.symm (fpD b hb)
    rcases turn i n acc σ3 H3 w3 with ⟨stop, qn⟩ | ⟨go, hlt, N, hN, step⟩
    · refine thn (T.done Y rfl rfl rfl hc i _ s3 σ3 H3 _ I3' (fpY' fr3) st3 stop) fun r s4 ⟨hr, I4⟩ => ?_
      subst hr
      have e4 := (I4.pin (D, { cls := .type "list", data := .seq its nd }) (List.mem_append_right _ List.mem_cons_self)).1
      have IX : Inv X pins σ H3 s4 := I.call' (ch := fp) I4.os I4.base I4.hok I4.bare fun b hb => by
        obtain ⟨_, a2, _, a4, a5, a6⟩ := hfp b hb
        exact ⟨a4, a2, a5, a6⟩
      have IA := IX.adopt (o := .lst acc) hD3 hDs (Nat.ne_of_gt hDl) (fun x c e => Nat.ne_of_lt (hcD x c e)) (fun p hp => Nat.ne_of_lt (hpD p hp)) ⟨hl3, its.toList, nd, rv3, e4⟩
      obtain ⟨m, nsC, _⟩ := I4.loc
      refine fin D C m s4 _ IA (qn D hD3) nsC (by rw [upd_ne cD]; exact I4.free) ?_ ?_ ?_ ?_
      · exact Nat.ne_of_gt (Nat.lt_of_lt_of_le hDl hCle)
      · exact Nat.le_trans hDs hCle
      · exact fun x c e => Nat.ne_of_lt (Nat.lt_of_lt_of_le (hcD x c e) hCle)
      · exact fun p hp => Nat.ne_of_lt (Nat.lt_of_lt_of_le (hpD p hp) hCle)
    · refine thn (T.item Y rfl rfl rfl hc i _ s3 σ3 H3 _ I3' (fpY' fr3) st3 go) fun r s4 ⟨u, hr, h4⟩ => ?_
      subst hr
      refine thn h4 fun _ s5 ⟨x, H5, I5, r5, y5, st5, fr5⟩ => ?_
      have I5' := I5.pinned (fpY' fr5) (T.obj _ _ st5)
      refine thn (hg cl C s H fp _ s5 σ3 H5 x u _ I5' r5 (step x H5 y5)) fun _ s6 ⟨σ6, H6, I6, q6⟩ => ?_
      refine thn (ht cl C s H fp _ s6 σ6 H6 _ I6 q6) fun b s7 ⟨H7, I7, q7⟩ => ?_
      have back : ∀ {σ' : St} {H' : Hp} {s' : Shared}, Inv Y ([(D, { cls := .type "list", data := .seq its nd })] ++ pinsAt fp s5.heap) σ' H' s' →
          s'.heap.get? D = some { cls := .type "list", data := .seq its nd } ∧ H' D = none ∧ tn (i + 1) s'.heap ∧ ∀ b ∈ fp, H' b = none := fun {σ' H' s'} J7 => by
        have hd := J7.pin (D, { cls := .type "list", data := .seq its nd }) (List.mem_append_right _ (List.mem_append_left _ List.mem_cons_self))
        refine ⟨hd.1, hd.2.1, T.keep _ _ _ st5 fun b hb o e => (J7.pin (b, o) (List.mem_append_right _ (List.mem_append_right _ (mem_pinsAt hb e)))).1, fun b hb => ?_⟩
        obtain ⟨o, e, d⟩ := T.obj _ _ st5 b hb
        exact (J7.pin (b, o) (List.mem_append_right _ (List.mem_append_right _ (mem_pinsAt hb e)))).2.1
      cases b with
      | false =>
        rw [if_neg Bool.false_ne_true]
        rw [if_neg Bool.false_ne_true] at q7
        obtain ⟨m', hm, w7⟩ := hN _ _ _ q7
        obtain ⟨b1, b2, b3, b4⟩ := back I7
        exact ⟨m', hm, i + 1, acc, its, σ6, H7, I7.pins_of (fun p hp => nomatch hp), b3, b4, ⟨nd, b1⟩, b2, rv3, hl3, w7⟩
      | true =>
        rw [if_pos rfl]
        rw [if_pos rfl] at q7
        refine thn (he cl C s H fp _ s7 σ6 H7 _ I7 q7) fun u8 s8 ⟨y, H8, I8, r8, n8⟩ => ?_
        obtain ⟨m', hm, w8⟩ := hN _ _ _ n8
        obtain ⟨b1, b2, b3, b4⟩ := back I8
        have hsz : its.size ≤ sizeLine := by
          have h1 := rv3.length
          have h2 : its.toList.length = its.size := by simp
          omega
        refine wpAny_list_append_plain (hsz := hsz) ⟨nd, b1⟩ fun h' pl' sb' => ?_
        have I8' : Inv Y [] σ6 H8 s8 := I8.pins_of (fun p hp => nomatch hp)
        refine ⟨m', hm, i + 1, acc ++ [y], its.push u8, σ6, H8, I8'.turned (t' := s8.toks) (fun b o hb e => (sb'.2 b hb).trans e) b2 hDC (.inr (by show s.heap.objs.size ≤ D; rw [hDe]; exact Nat.le_refl _)) (fun x c e => Nat.ne_of_lt (hcD x c (hcl x c e))) (fun p hp => absurd (show p ∈ ([] : List (Addr × Obj)) from hp) (by simp)), ?_, b4, pl', b2, ?_, ?_, w8⟩
        · exact T.keep _ _ _ b3 fun b hb o e => (sb'.2 b (fpD b hb)).trans e
        · rw [Array.toList_push]
          exact rv3.append (.cons r8 .nil)
        · rw [List.length_append, List.length_singleton]
          omega
  exact codeAny_compStart_list (loop _ rfl) (T.self _ _ _ _ _ st₁ (loop _ rfl))
theorem pe_lc {tg iter elt : Expr} {ifs : List Expr} {scope : Scope} {pos : Pos} {wi : TI} {g : TG} {tt : TT} {te : TE} {Nt Nf : List Str} {caps : List Nat} (hc : X.calm = true) (S : CompOk X scope Nt Nf caps) (hi : PI X tg iter wi)
    (hg : ∀ cl C s0 H0 ex, PG (cxC X (Nt ++ Nf) scope cl C s0 H0 ex) tg g)
    (ht : ∀ cl C s0 H0 ex, PTs (cxC X (Nt ++ Nf) scope cl C s0 H0 ex) ifs tt)
    (he : ∀ cl C s0 H0 ex, PE (cxC X (Nt ++ Nf) scope cl C s0 H0 ex) elt te)
    (hs : ∀ x, foldedSetIterable iter X.env x = pure x := by intro _; rfl) : PE X (.ListComp elt [⟨tg, iter, ifs, 0⟩] scope pos) (tLC wi g tt te Nt.length caps) := by
  intro pins s σ H Q I h
  obtain ⟨cl, hclos, hcl, hcf⟩ := closure_ok I.ok.has S.fr
  rw [eval_ListComp]
  refine wpAny_comprehension_free (use := none) rfl hs hclos S.kind S.nm (thn (hi pins s σ H _ I h) fun v s1 h1 => thn h1 fun itv s2 h2 => ?_)
  obtain ⟨it, fp, tn, J, H2, e, I2, T, st2, f2, hW⟩ := h2
  subst e
  refine comp_block (RR := fun acc C => compPost (model X.prog X.w) X.A X.xe none (EP X pins σ Q) acc C) (Q := Q) hc S hg ht he hcl hcf I2 T st2 f2 hW ?_
  intro D C m s' H' I' q nsC hCn hCl hCs hCc hCp
  exact ⟨m, nsC, fun h' sb => ⟨.ref D, H', I'.turned (t' := s'.toks) (fun b o hb e => (sb.2 b hb).trans e) hCn hCl (.inr hCs) hCc hCp, rfl, q⟩⟩
theorem ps_lc {tg iter elt : Expr} {ifs : List Expr} {scope : Scope} {pos spos py : Pos} {y : Str} {i : Nat} {wi : TI} {g : TG} {tt : TT} {te : TE} {Nt Nf : List Str} {caps : List Nat} (hc : X.calm = true) (S : CompOk X scope Nt Nf caps) (hi : PI X tg iter wi)
    (hg : ∀ cl C s0 H0 ex, PG (cxC X (Nt ++ Nf) scope cl C s0 H0 ex) tg g)
    (ht : ∀ cl C s0 H0 ex, PTs (cxC X (Nt ++ Nf) scope cl C s0 H0 ex) ifs tt)
    (he : ∀ cl C s0 H0 ex, PE (cxC X (Nt ++ Nf) scope cl C s0 H0 ex) elt te)
    (hN : X.N.Nodup) (hy : X.N[i]? = some y) (hx : Loc X.env.scope y)
    (hsw : swapsWith (.ListComp elt [⟨tg, iter, ifs, 0⟩] scope pos) (some (.Name y py)) spos.line X.env = pure true)
    (hf : X.fn y = true ∨ X.env.scope.names.lookup y = some .local := by first | exact .inl rfl | exact .inr rfl | assumption)
    (hs : ∀ x, foldedSetIterable iter X.env x = pure x := by intro _; rfl) : PS X (.Assign [.Name y py] (.ListComp elt [⟨tg, iter, ifs, 0⟩] scope pos) spos) (tAsg (tLC wi g tt te Nt.length caps) (gName i)) := by
  intro pins s σ H D I h
  obtain ⟨cl, hclos, hcl, hcf⟩ := closure_ok I.ok.has S.fr
  rw [exec_Assign_Name_used _ _ _ _ hsw]
  refine wpAny_bind (wpAny_standAt (wpAny_bind ?_))
  show wpAny _ X.A (do let _ ← comprehension (.ListComp elt [⟨tg, iter, ifs, 0⟩] scope pos) scope X.env _ (newList []) false (eval iter X.env) (some (assign (.Name y py) X.env))) _ _ s
  refine wpAny_bind (wpAny_mono (wpAny_comprehension_free (use := some (assign (.Name y py) X.env)) (Q := fun _ s' => SP X pins D .next s') rfl hs hclos S.kind S.nm
    (thn (hi pins s σ H _ I h) fun v s1 h1 => thn h1 fun itv s2 h2 => ?_)) (fun _ s' hq => wpAny_pure (wpAny_pure hq)) fun _ _ e => e)
  obtain ⟨it, fp, tn, J, H2, e, I2, T, st2, f2, hW⟩ := h2
  subst e
  refine comp_block (RR := fun acc C => compPost (model X.prog X.w) X.A X.xe (some (assign (.Name y py) X.env)) (fun _ s' => SP X pins D .next s') acc C) (Q := fun x H1 => gName i x σ H1 D.nx) hc S hg ht he hcl hcf I2 T st2 f2 hW ?_
  intro l C m s' H' I' q nsC hCn hCl hCs hCc hCp
  show wpAny _ X.A (assign (.Name y py) X.env (.ref l)) _ _ _
  refine wpAny_assign_Name (store_ok2 (v := .ref l) I' hN hy hx rfl (fun s'' I'' ⟨a, sb, ha⟩ => ?_) hf)
  have haC : C ≠ a := by
    rcases ha with z | z
    · rw [z]; exact hCl
    · exact fun e => hCc y a z e.symm
  refine ⟨m, nsC.sameBut sb haC, fun h' sb' => ⟨_, H', I''.turned (t' := s''.toks) (fun b o hb e => (sb'.2 b hb).trans e) hCn hCl (.inr hCs) hCc hCp, q⟩⟩
end
end L2
namespace L2
open PySem PySem.Spec PyProof.Rows
section
variable {X : Cx} {tg : Expr}
end
section
variable {X : Cx}
def strsV (ys : List Str) : List V := ys.map V.str
def CBig (i j : Int) : Prop := (i.natAbs < 2 ^ 4096 ∧ j.natAbs < 2 ^ 4096) ∨ CMul i j
theorem bits_le {i : Int} {n : Nat} (h : i.natAbs < 2 ^ n) : Builtin.Int.intBits i ≤ n := by
  unfold Builtin.Int.intBits
  split
  · exact Nat.zero_le _
  · rename_i h0
    have h1 : i.natAbs ≠ 0 := by simpa using h0
    have := (Nat.log2_lt h1).mpr h
    omega
theorem CBig.ok {i j : Int} (h : CBig i j) : IntMulOk i j := by
  rcases h with ⟨h1, h2⟩ | h
  · exact IntMulOk.of_bits (Nat.le_trans (bits_le h1) (by decide)) (Nat.le_trans (bits_le h2) (by decide))
  · exact h.ok
theorem op_big : OpR X (binaryOp .Mult) (rI CBig fun i j => .int (i * j)) := opI fun _ _ _ _ _ _ _ hc q => mul_int q hc.ok
theorem call_isi : CallR X (.builtin "isinstance") (fun xs H Q => ∃ x n t b, xs = [x, .ty n] ∧ TyOf X.K H x t ∧ PySem.W.kitOne X.K t (.type n) = some b ∧ Q (.bl b) H) := by
  intro pins s σ H xs us Q I r h
  obtain ⟨x, n, t, b, rfl, ty, e, q⟩ := h
  obtain ⟨u, w', rfl, rx, ry⟩ := vals2 r
  cases (show w' = Value.type n from ry)
  exact isinst_ok I rx ty e fun tk => ⟨.bl b, H, I.tok _, rfl, q⟩
def rEqS (K : PySem.W.Frag) (neg : Bool) : R2 := fun x y H Q => ∃ l b ys zs, x = .ref l ∧ y = .ref b ∧ SqL K H l (strsV ys) ∧ SqL K H b (strsV zs) ∧ Q (.bl (if neg then !decide (ys = zs) else decide (ys = zs))) H
theorem strs_at : ∀ {ys : List Str} {us : List Value}, Vals (strsV ys) us → ∀ (i : Nat) (h : i < us.length), ∃ y t, ys[i]? = some y ∧ us[i] = .str y t
  | [], _, r, i, h => by cases r; simp at h
  | y :: ys, _, r, i, h => by
    cases r with
    | cons r1 r2 =>
      cases i with
      | zero =>
        obtain ⟨t, rfl⟩ := r1
        exact ⟨y, t, rfl, rfl⟩
      | succ i => exact strs_at (ys := ys) r2 i (by simpa using h)
theorem range_eqS : ∀ (ys zs : List Str), ys.length = zs.length → ((List.range ys.length).all fun i => decide (ys[i]? = zs[i]?)) = decide (ys = zs) := by
  intro ys zs hl
  rw [Bool.eq_iff_iff, List.all_eq_true, decide_eq_true_iff]
  constructor
  · intro h
    refine List.ext_getElem? fun i => ?_
    by_cases hi : i < ys.length
    · exact of_decide_eq_true (h i (List.mem_range.mpr hi))
    · rw [List.getElem?_eq_none (by omega), List.getElem?_eq_none (by omega)]
  · intro h i _
    subst h
    simp
end
section
variable {X : Cx} {e : Expr} {te : TE} {pos : Pos}
end
end L2
namespace L2
open PySem PySem.Spec PyProof.Rows
abbrev New (H : Hp) (o : HO) (Q : VK) : Prop := ∀ p H', H p = none → Same H H' → H' p = some o → Q (.ref p) H'
theorem Same.new {H : Hp} {p : Addr} {o : HO} (h : H p = none) : Same H (upd H p o) := fun b u e => by rw [upd_ne (ne_of_none e h)]; exact e
theorem New.to {H : Hp} {Q : VK} {o : HO} (h : New H o Q) : ∀ p, H p = none → Q (.ref p) (upd H p o) := fun p hp => h p _ hp (Same.new hp) upd_same
section
variable {X : Cx} {es : List Expr} {t : TA} {pos : Pos}
def tLstN (t : TA) : TE := fun σ H Q => t σ H fun xs H1 => xs.length ≤ sizeLine ∧ New H1 (.lst xs) Q
def tTupN (t : TA) : TE := fun σ H Q => t σ H fun xs H1 => xs.length ≤ sizeLine ∧ New H1 (.tup xs) Q
theorem pe_tupN {x1} (h : PA X es t) : PE X (.Tuple es x1 pos) (tTupN t) := by
  intro pins s σ H Q I hq
  refine wpAny_Tuple_spliced (thn (h pos pins s σ H _ I hq) fun us s1 ⟨xs, H1, I1, r, z, q⟩ => ⟨by rw [← r.length]; exact z, ?_⟩)
  refine ⟨.ref s1.heap.objs.size, upd H1 s1.heap.objs.size (.tup xs), I1.laid (t' := s1.toks) (fun b u e => Heap.get?_push_of_some _ e) (Nat.le_refl _) ?_, rfl, New.to q _ (I1.hok.fresh (Nat.le_refl _))⟩
  exact ⟨z, us, r, ⟨_, Heap.get?_push_size _ rfl, rfl, _, rfl⟩⟩
theorem pe_lstN (h : PA X es t) : PE X (.List es pos) (tLstN t) := by
  intro pins s σ H Q I hq
  refine wpAny_List_spliced (thn (h pos pins s σ H _ I hq) fun us s1 ⟨xs, H1, I1, r, z, q⟩ => ⟨by rw [← r.length]; exact z, ?_⟩)
  refine ⟨.ref s1.heap.objs.size, upd H1 s1.heap.objs.size (.lst xs), I1.laid (t' := s1.toks) (fun b u e => Heap.get?_push_of_some _ e) (Nat.le_refl _) ?_, rfl, New.to q _ (I1.hok.fresh (Nat.le_refl _))⟩
  exact ⟨z, us, 0, r, Heap.get?_push_size _ rfl⟩
def rSlN (K : PySem.W.Frag) : V → Option Int → Option Int → Hp → VK → Prop := fun x lo hi H Q => ∃ a xs, x = .ref a ∧ SqL K H a xs ∧ New H (.lst (cutV xs lo hi)) Q
theorem sl_listN : SlR X (rSlN X.K) := by
  intro pins s σ H x v vl vu lo hi sl Q I rx hs pl pu h
  obtain ⟨a, xs, e, h1, h2⟩ := h
  exact sl_list pins s σ H x v vl vu lo hi sl Q I rx hs pl pu ⟨a, xs, e, h1, New.to h2⟩
theorem call_listN : CallR X (.type "list") (fun xs H Q => ∃ p ys, xs = [.ref p] ∧ (SqL X.K H p ys ∨ SqT X.K H p ys) ∧ New H (.lst ys) Q) := by
  intro pins s σ H xs us Q I r h
  obtain ⟨p, ys, e, h1, h2⟩ := h
  exact call_list_of pins s σ H xs us Q I r ⟨p, ys, e, h1, New.to h2⟩
theorem call_tupleN : CallR X (.type "tuple") (fun xs H Q => ∃ p ys, xs = [.ref p] ∧ SqL X.K H p ys ∧ New H (.tup ys) Q) := by
  intro pins s σ H xs us Q I r h
  obtain ⟨p, ys, e, h1, h2⟩ := h
  exact call_tuple_of pins s σ H xs us Q I r ⟨p, ys, e, .inl ⟨h1, New.to h2⟩⟩
end
def rIsi (K : PySem.W.Frag) : List V → Hp → VK → Prop := fun xs H Q => ∃ x n t b, xs = [x, .ty n] ∧ TyOf K H x t ∧ PySem.W.kitOne K t (.type n) = some b ∧ Q (.bl b) H
def tTru (K : PySem.W.Frag) (ta : TE) : TT := fun σ H Q => ta σ H fun x H' => ∃ k, TruV K x H' k ∧ Q k H'
def rLen (K : PySem.W.Frag) : List V → Hp → VK → Prop := fun xs H Q => ∃ x n, xs = [x] ∧ LenV K x H n ∧ Q (.int n) H
def rToInt : List V → Hp → VK → Prop := fun xs H Q => (∃ i, xs = [.int i] ∧ Q (.int i) H) ∨ ∃ k, xs = [.bl k] ∧ Q (.int (if k then 1 else 0)) H
def rListN (K : PySem.W.Frag) : List V → Hp → VK → Prop := fun xs H Q => ∃ p ys, xs = [.ref p] ∧ (SqL K H p ys ∨ SqT K H p ys) ∧ New H (.lst ys) Q
def rTupleN (K : PySem.W.Frag) : List V → Hp → VK → Prop := fun xs H Q => ∃ p ys, xs = [.ref p] ∧ SqL K H p ys ∧ New H (.tup ys) Q
section
variable {X : Cx} {a : Expr} {ta : TE}
theorem cl_isi : CallR X (.builtin "isinstance") (rIsi X.K) := call_isi
theorem pt_tru (ha : PE X a ta) (he : ∀ whole, isTrue a X.env whole = (do let v ← whole; standAt a.pos; holding [v] (truthy v))) : PT X a (tTru X.K ta) := pt_truth ha he
theorem cl_len : CallR X (.builtin "len") (rLen X.K) := call_len
theorem cl_int : CallR X (.type "int") rToInt := call_int1
theorem cl_list : CallR X (.type "list") (rListN X.K) := call_listN
theorem cl_tuple : CallR X (.type "tuple") (rTupleN X.K) := call_tupleN
end
def rPlus : R2 := fun x y H Q => match x, y with
  | .int i, .int j => Q (.int (i + j)) H
  | .str i, .str j => i.length + j.length ≤ sizeLine ∧ Q (.str (i ++ j)) H
  | .ref l, .ref b => ∃ xs zs, H l = some (.lst xs) ∧ H b = some (.lst zs) ∧ xs.length + zs.length ≤ sizeLine ∧ New H (.lst (xs ++ zs)) Q
  | _, _ => False
def rTimes : R2 := fun x y H Q => match x, y with
  | .int i, .int j => CBig i j ∧ Q (.int (i * j)) H
  | .str z, .int n => MulOk z n ∧ Q (.str (Txt.mul z n)) H
  | _, _ => False
def rStr : List V → Hp → VK → Prop := fun xs H Q => match xs with
  | [.int i] => i.natAbs.log2 < 1920 ∧ Q (.str (toString i)) H
  | [.str z] => Q (.str z) H
  | _ => False
section
variable {X : Cx}
theorem op_plus : OpR X (binaryOp .Add) rPlus := by
  intro pins s σ H x y v u Q I rx ry h
  cases x with
  | int i => cases y with
    | int j => exact op_add pins s σ H _ _ v u Q I rx ry ⟨i, j, rfl, rfl, h⟩
    | _ => exact (show False from h).elim
  | str i => cases y with
    | str j => exact op_add_str pins s σ H _ _ v u Q I rx ry ⟨i, j, rfl, rfl, h⟩
    | _ => exact (show False from h).elim
  | ref l => cases y with
    | ref b =>
      obtain ⟨xs, zs, h1, h2, h3, h4⟩ := h
      exact op_cat pins s σ H _ _ v u Q I rx ry ⟨l, b, xs, zs, rfl, rfl, h1, h2, h3, New.to h4⟩
    | _ => exact (show False from h).elim
  | _ => exact (show False from h).elim
theorem op_times : OpR X (binaryOp .Mult) rTimes := by
  intro pins s σ H x y v u Q I rx ry h
  cases x with
  | int i => cases y with
    | int j => exact op_big pins s σ H _ _ v u Q I rx ry ⟨i, j, rfl, rfl, h⟩
    | _ => exact (show False from h).elim
  | str z => cases y with
    | int n =>
      obtain ⟨t, rfl⟩ := rx
      obtain ⟨t', rfl⟩ := ry
      exact SB.mul h.1 fun t2 k => ⟨.str _, H, I.tok _, ⟨_, rfl⟩, h.2⟩
    | _ => exact (show False from h).elim
  | _ => exact (show False from h).elim
theorem comp_ok {scope sc : Scope} {Nt Nf : List Str} {caps : List Nat} (hsc : X.env.scope = sc) (kind : scope.kind = .function) (nc : ∀ y ∈ scope.names, y.2 ≠ .cell) (nm : ∀ y ∈ scope.names, y.2 = .local → scope.names.lookup y.1 = some .local)
    (fr : ∀ y ∈ scope.names, y.2 = .free → sc.names.lookup y.1 = some .cell ∨ sc.names.lookup y.1 = some .free) (cap : caps.map (fun j => X.N[j]?) = Nf.map some) (vis : ∀ x ∈ Nf, scope.names.lookup x = some .free) : CompOk X scope Nt Nf caps :=
  ⟨kind, nc, nm, fun y hy h => by show X.env.scope.names.lookup y.1 = _ ∨ X.env.scope.names.lookup y.1 = _; rw [hsc]; exact fr y hy h, cap, vis⟩
abbrev LcEnd (J : It) (te : TE) (tt : TT) (caps : List Nat) (σ : St) (H : Hp) (Q : VK) : Prop := ∃ W : Nat → Nat → List V → St → Hp → Prop, (∃ m, W 0 m [] (cSt 1 caps σ) H) ∧ ∀ i m acc σ' H', W i m acc σ' H' →
  (J.stop i H' ∧ ∀ l, H' l = none → Q (.ref l) (upd H' l (.lst acc))) ∨
  (J.go i H' ∧ acc.length < sizeLine ∧ ∃ N : List V → St → Hp → Prop, (∀ ac σ2 H2, N ac σ2 H2 → ∃ m', m' < m ∧ W (i + 1) m' ac σ2 H2) ∧ ∀ x H2, J.yld i H' x H2 → gName 0 x σ' H2 fun σ3 H3 => tt σ3 H3 fun b H4 => if b = true then te σ3 H4 fun y H5 => N (acc ++ [y]) σ3 H5 else N acc σ3 H4)
theorem lc_any {J : It} {te : TE} {tt : TT} {caps : List Nat} {σ : St} {H : Hp} {Q : VK} (n : Nat) (hz : n ≤ sizeLine) (Pv : Nat → List V → Hp → Prop) (h0 : Pv 0 [] H) (hl : ∀ i acc H, Pv i acc H → acc.length ≤ i)
    (hgo : ∀ i acc H, i < n → Pv i acc H → J.go i H) (hst : ∀ acc H, Pv n acc H → J.stop n H)
    (hs : ∀ i x acc H H2, i < n → Pv i acc H → J.yld i H x H2 → tt (some x :: capV caps σ) H2 fun b H4 => if b = true then te (some x :: capV caps σ) H4 fun y H5 => Pv (i + 1) (acc ++ [y]) H5 else Pv (i + 1) acc H4)
    (hd : ∀ acc H, Pv n acc H → New H (.lst acc) Q) : LcEnd J te tt caps σ H Q := by
  refine ⟨fun i m acc σ' H => m = n - i ∧ i ≤ n ∧ (∃ v, σ' = v :: capV caps σ) ∧ Pv i acc H, ⟨n, by simp, Nat.zero_le _, ⟨none, rfl⟩, h0⟩, ?_⟩
  rintro i m acc σ' H' ⟨rfl, hi, ⟨v, rfl⟩, p⟩
  by_cases hlt : i < n
  · refine .inr ⟨hgo i acc H' hlt p, ?_, fun ac σ2 H2 => (∃ v, σ2 = v :: capV caps σ) ∧ Pv (i + 1) ac H2, fun ac σ2 H2 ⟨e, p'⟩ => ⟨n - (i + 1), by omega, rfl, hlt, e, p'⟩, fun x H2 y => ?_⟩
    · have := hl i acc H' p
      omega
    · have eN : ∀ ac H5, ((∃ u, some x :: capV caps σ = u :: capV caps σ) ∧ Pv (i + 1) ac H5) = Pv (i + 1) ac H5 := fun ac H5 => propext ⟨And.right, fun p => ⟨⟨_, rfl⟩, p⟩⟩
      show tt (some x :: capV caps σ) H2 fun b H4 => if b = true then te (some x :: capV caps σ) H4 fun y H5 => ((∃ u, some x :: capV caps σ = u :: capV caps σ) ∧ Pv (i + 1) (acc ++ [y]) H5) else ((∃ u, some x :: capV caps σ = u :: capV caps σ) ∧ Pv (i + 1) acc H4)
      simp only [eN]
      exact hs i x acc H' H2 hlt p y
  · have e : i = n := by omega
    subst e
    exact .inl ⟨hst acc H' p, New.to (hd acc H' p)⟩
theorem lc_list {K : PySem.W.Frag} {a : Addr} {xs : List V} {te : TE} {tt : TT} {caps : List Nat} {σ : St} {H : Hp} {Q : VK} (hz : xs.length ≤ sizeLine) (Pv : Nat → List V → Hp → Prop) (h0 : Pv 0 [] H) (hl : ∀ i acc H, Pv i acc H → acc.length ≤ i ∧ SqL K H a xs)
    (hs : ∀ i x acc H, xs[i]? = some x → Pv i acc H → tt (some x :: capV caps σ) H fun b H4 => if b = true then te (some x :: capV caps σ) H4 fun y H5 => Pv (i + 1) (acc ++ [y]) H5 else Pv (i + 1) acc H4)
    (hd : ∀ acc H, Pv xs.length acc H → New H (.lst acc) Q) : LcEnd (Itl K a) te tt caps σ H Q := by
  refine lc_any xs.length hz Pv h0 (fun i acc H p => (hl i acc H p).1) (fun i acc H hi p => ⟨xs, xs[i], (hl i acc H p).2, by simp [hi]⟩) (fun acc H p => ⟨xs, (hl _ acc H p).2, Nat.le_refl _⟩) ?_ hd
  rintro i x acc H1 H2 hi p ⟨rfl, y⟩
  exact hs i x acc _ (y xs (hl i acc _ p).2) p
theorem lc_range {lo : Int} {n : Nat} {te : TE} {tt : TT} {caps : List Nat} {σ : St} {H : Hp} {Q : VK} (hz : n ≤ sizeLine) (Pv : Nat → List V → Hp → Prop) (h0 : Pv 0 [] H) (hl : ∀ i acc H, Pv i acc H → acc.length ≤ i)
    (hs : ∀ i acc H, i < n → Pv i acc H → tt (some (.int (lo + i)) :: capV caps σ) H fun b H4 => if b = true then te (some (.int (lo + i)) :: capV caps σ) H4 fun y H5 => Pv (i + 1) (acc ++ [y]) H5 else Pv (i + 1) acc H4)
    (hd : ∀ acc H, Pv n acc H → New H (.lst acc) Q) : LcEnd (Itr lo n) te tt caps σ H Q := by
  refine lc_any n hz Pv h0 hl (fun i acc H hi p => hi) (fun acc H p => Nat.le_refl _) ?_ hd
  rintro i x acc H1 H2 hi p ⟨rfl, rfl⟩
  exact hs i acc _ hi p
end
end L2
namespace L2
open PySem
theorem ex_some_and {α : Type} {a : α} {p : α → Prop} : (∃ v, some (some a) = some (some v) ∧ p v) ↔ p a := ⟨fun ⟨_, e, h⟩ => by cases e; exact h, fun h => ⟨a, rfl, h⟩⟩
def ForEnd (J : It) (g : TG) (tb : TS) (D : Ends) (σ : St) (H1 : Hp) : Prop := ∃ W : Nat → Nat → St → Hp → Prop, (∃ m, W 0 m σ H1) ∧ ∀ i m σ H, W i m σ H →
  (J.stop i H ∧ D.nx σ H) ∨ (J.go i H ∧ ∃ N : St → Hp → Prop, (∀ σ' H', N σ' H' → ∃ m', m' < m ∧ W (i + 1) m' σ' H') ∧ ∀ x H', J.yld i H x H' → g x σ H' fun σ2 H2 => tb { D with nx := N, ct := N, bk := D.nx } σ2 H2)
def CompEnd (J : It) (g : TG) (tt : TT) (te : TE) (n : Nat) (caps : List Nat) (σ : St) (H : Hp) (Q : VK) : Prop := ∃ W : Nat → Nat → List V → St → Hp → Prop, (∃ m, W 0 m [] (cSt n caps σ) H) ∧ ∀ i m acc σ' H', W i m acc σ' H' →
  (J.stop i H' ∧ ∀ l, H' l = none → Q (.ref l) (upd H' l (.lst acc))) ∨
  (J.go i H' ∧ acc.length < sizeLine ∧ ∃ N : List V → St → Hp → Prop, (∀ ac σ2 H2, N ac σ2 H2 → ∃ m', m' < m ∧ W (i + 1) m' ac σ2 H2) ∧ ∀ x H2, J.yld i H' x H2 → g x σ' H2 fun σ3 H3 => tt σ3 H3 fun b H4 => if b = true then te σ3 H4 fun y H5 => N (acc ++ [y]) σ3 H5 else N acc σ3 H4)
section
variable {K : PySem.W.Frag} {a : Addr} {xs : List V} {te : TE} {tt : TT} {caps : List Nat} {σ : St} {H : Hp} {Q : VK} {z : Str} {lo : Int} {n : Nat}
theorem cc_list (hz : xs.length ≤ sizeLine) (Pv : Nat → List V → Hp → Prop) (h0 : Pv 0 [] H) (hl : ∀ i acc H, Pv i acc H → acc.length ≤ i ∧ SqL K H a xs)
    (hs : ∀ i x acc H, xs[i]? = some x → Pv i acc H → tt (some x :: capV caps σ) H fun b H4 => if b = true then te (some x :: capV caps σ) H4 fun y H5 => Pv (i + 1) (acc ++ [y]) H5 else Pv (i + 1) acc H4)
    (hd : ∀ acc H, Pv xs.length acc H → New H (.lst acc) Q) : CompEnd (Itl K a) (gName 0) tt te 1 caps σ H Q := lc_list hz Pv h0 hl hs hd
theorem cc_range (hz : n ≤ sizeLine) (Pv : Nat → List V → Hp → Prop) (h0 : Pv 0 [] H) (hl : ∀ i acc H, Pv i acc H → acc.length ≤ i)
    (hs : ∀ i acc H, i < n → Pv i acc H → tt (some (.int (lo + i)) :: capV caps σ) H fun b H4 => if b = true then te (some (.int (lo + i)) :: capV caps σ) H4 fun y H5 => Pv (i + 1) (acc ++ [y]) H5 else Pv (i + 1) acc H4)
    (hd : ∀ acc H, Pv n acc H → New H (.lst acc) Q) : CompEnd (Itr lo n) (gName 0) tt te 1 caps σ H Q := lc_range hz Pv h0 hl hs hd
end
theorem cxOf_K {CX : CXT} {P : Program} {w : World} {K : PySem.W.Frag} {mg : Str → Option Value} {base : Heap} {N : List Str} {qual : Str} {scope : Scope} {f : Addr} {cd : Value} {A : Around} {outer : List Env} {s : Shared} {H : Hp} {E : XK} :
    (cxOf CX P w K mg base N qual scope f cd A outer s H E).K = K := rfl
theorem cxC_K {X : Cx} {N : List Str} {scope : Scope} {cl : List (Str × Addr)} {C : Addr} {s0 : Shared} {H0 : Hp} {ex : List Addr} : (cxC X N scope cl C s0 H0 ex).K = X.K := rfl
section
variable {X : Cx}
theorem kix_list (K : PySem.W.Frag) (hK : X.K = K := by rfl) : IxR X (rIxL K) := hK ▸ ix_list
theorem kix_tup (K : PySem.W.Frag) (hK : X.K = K := by rfl) : IxR X (rIxT K) := hK ▸ ix_tup
theorem ksl_list (K : PySem.W.Frag) (hK : X.K = K := by rfl) : SlR X (rSlN K) := hK ▸ sl_listN
theorem kcl_isi (K : PySem.W.Frag) (hK : X.K = K := by rfl) : CallR X (.builtin "isinstance") (rIsi K) := hK ▸ cl_isi
theorem kcl_len (K : PySem.W.Frag) (hK : X.K = K := by rfl) : CallR X (.builtin "len") (rLen K) := hK ▸ cl_len
theorem kcl_list (K : PySem.W.Frag) (hK : X.K = K := by rfl) : CallR X (.type "list") (rListN K) := hK ▸ cl_list
theorem kcl_tuple (K : PySem.W.Frag) (hK : X.K = K := by rfl) : CallR X (.type "tuple") (rTupleN K) := hK ▸ cl_tuple
theorem kpt_tru (K : PySem.W.Frag) {a : Expr} {ta : TE} (ha : PE X a ta) (he : ∀ whole, isTrue a X.env whole = (do let v ← whole; standAt a.pos; holding [v] (truthy v))) (hK : X.K = K := by rfl) : PT X a (tTru K ta) := hK ▸ pt_tru ha he
theorem kpi_list (K : PySem.W.Frag) {tg l : Expr} {tl : TE} (hl : PE X l tl) (hK : X.K = K := by rfl) : PI X tg l (iList K tl) := hK ▸ pi_list hl
theorem kpg_tup (K : PySem.W.Frag) {pos : Pos} {es : List Expr} {k : Nat} {t : TGs} {n : Nat} (hc : X.calm = true) (h : PGs X es t) (hn : (assignEach es X.env).length = n := by rfl) (hst : (assignEach es X.env).findIdx? (·.1) = none := by rfl) (hK : X.K = K := by rfl) :
    PG X (.Tuple es k pos) (gTup K n t) := hK ▸ pg_tup hc h hn hst
theorem kpe_bm0 (K : PySem.W.Frag) {o : Expr} {to : TE} {name : Str} {apos cpos : Pos} {T id : String} {r : V → List V → Hp → VK → Prop} (pa : PlainAttrs T) (slot : Slot T name id) (hty : typeOf (.builtin id) = pure (.type "method_descriptor")) (hm : MtR X id r) (ho : PE X o to)
    (hbase : attributeBase o name X.env (eval o X.env) = eval o X.env := by rfl) (hline : (apos.endLine == cpos.line) = true := by rfl) (hK : X.K = K := by rfl) : PE X (.Call (.Attribute o name apos) [] [] cpos) (tBM0 K T r to) := hK ▸ pe_bm0 pa slot hty hm ho hbase hline
theorem kpe_bm (K : PySem.W.Frag) {o e : Expr} {es : List Expr} {to : TE} {t : TA} {name : Str} {apos cpos : Pos} {T id : String} {r : V → List V → Hp → VK → Prop} (pa : PlainAttrs T) (slot : Slot T name id) (hty : typeOf (.builtin id) = pure (.type "method_descriptor")) (hm : MtR X id r) (ho : PE X o to) (ha : PA X (e :: es) t)
    (hbase : attributeBase o name X.env (eval o X.env) = eval o X.env := by rfl)
    (hfew : ((backTo cpos (starEach (e :: es) X.env)).all (fun x => !x.1) && (backToKw cpos (keywordEach [] X.env)).all (fun x => x.1.isSome) && decide ((e :: es).length + ([] : List Keyword).length + (if ([] : List Keyword).isEmpty then 0 else 1) < 30)) = true := by rfl)
    (hline : (apos.endLine == cpos.line) = true := by rfl) (hs : starEach (e :: es) X.env = (false, eval e X.env) :: starEach es X.env := by rfl) (hplain : (backTo cpos (starEach es X.env)).any (·.1) = false := by rfl) (hK : X.K = K := by rfl) :
    PE X (.Call (.Attribute o name apos) (e :: es) [] cpos) (tBM K T r to t) := hK ▸ pe_bm pa slot hty hm ho ha hbase hfew hline hs hplain
end
theorem bb_len : bootBuiltins "len" = some (.builtin "len") := by decide +kernel
theorem bb_isinstance : bootBuiltins "isinstance" = some (.builtin "isinstance") := by decide +kernel
theorem bb_sorted : bootBuiltins "sorted" = some (.builtin "sorted") := by decide +kernel
theorem bb_sum : bootBuiltins "sum" = some (.builtin "sum") := by decide +kernel
theorem bb_min : bootBuiltins "min" = some (.builtin "min") := by decide +kernel
theorem bb_max : bootBuiltins "max" = some (.builtin "max") := by decide +kernel
theorem bb_int : bootBuiltins "int" = some (.type "int") := by decide +kernel
theorem bb_bool : bootBuiltins "bool" = some (.type "bool") := by decide +kernel
theorem bb_list : bootBuiltins "list" = some (.type "list") := by decide +kernel
theorem bb_tuple : bootBuiltins "tuple" = some (.type "tuple") := by decide +kernel
theorem bb_dict : bootBuiltins "dict" = some (.type "dict") := by decide +kernel
theorem bb_range : bootBuiltins "range" = some (.type "range") := by decide +kernel
end L2
namespace L2
open PySem
end L2
local macro_rules | `(tactic| walk_at "rd") => `(tactic| simp only [L2.tCB, L2.tCons, L2.tNil, L2.tVar, L2.rStr, L2.tNoIf, L2.capV, List.map_nil, List.getElem?_cons_zero, L2.ex_some_and, if_true])
namespace L2
open PySem
theorem le_line {n : Nat} (h : n ≤ 1000000) : n ≤ sizeLine := Nat.le_trans h (by decide)
theorem cut_to {ns : List Int} {k : Nat} : cutV (ns.map V.int) none (some (k : Int)) = (ns.take k).map V.int := by
  unfold cutV
  rw [HT.sIx_none, HT.sIx_nat, List.drop_zero, Nat.sub_zero, List.length_map, List.map_take]
  by_cases h : k ≤ ns.length
  · rw [Nat.min_eq_left h]
  · rw [Nat.min_eq_right (by omega), List.take_of_length_le (by simp), List.take_of_length_le (by simp; omega)]
end L2
namespace L2
open PySem
theorem nox_K {X : Cx} : X.nox.K = X.K := rfl
theorem wish_K {X : Cx} {E : Value → Shared → Prop} : (X.wish E).K = X.K := rfl
section
variable {σ : St} {H : Hp} {Q : VK} {D : Ends} {nn bb cc : St → Hp → Prop} {rr : VK} {t u : TS} {ta tb tc te : TE} {tA tB : TT} {g : TG} {QT : Bool → Hp → Prop} {QA : List V → Hp → Prop} {QS : St → Hp → Prop}
theorem i_seq (h : t ⟨u ⟨nn, rr, bb, cc⟩, rr, bb, cc⟩ σ H) : tSeq t u ⟨nn, rr, bb, cc⟩ σ H := h
theorem i_asg (h : te σ H fun x H1 => g x σ H1 nn) : tAsg te g ⟨nn, rr, bb, cc⟩ σ H := h
theorem i_name {i : Nat} {v : V} (h : QS (σ.set i (some v)) H) : gName i v σ H QS := h
theorem i_var {i : Nat} {v : V} (e : σ[i]? = some (some v)) (h : Q v H) : tVar i σ H Q := ⟨v, e, h⟩
theorem i_c {v : V} (h : Q v H) : tC v σ H Q := h
theorem i_op {r : R2} (h : ta σ H fun x H1 => tb σ H1 fun y H2 => r x y H2 Q) : tOp r ta tb σ H Q := h
theorem i_rI {C : Int → Int → Prop} {f : Int → Int → V} {i j : Int} (c : C i j) (h : Q (f i j) H) : rI C f (.int i) (.int j) H Q := ⟨i, j, rfl, rfl, c, h⟩
theorem i_rI0 {f : Int → Int → V} {i j : Int} (h : Q (f i j) H) : rI0 f (.int i) (.int j) H Q := ⟨i, j, rfl, rfl, h⟩
theorem i_plusI {i j : Int} (h : Q (.int (i + j)) H) : rPlus (.int i) (.int j) H Q := h
theorem i_timesI {i j : Int} (c : CBig i j) (h : Q (.int (i * j)) H) : rTimes (.int i) (.int j) H Q := ⟨c, h⟩
theorem decI (i j : Int) : decide (V.int i = V.int j) = decide (i = j) := by rw [Bool.eq_iff_iff]; simp
theorem decS (i j : Str) : decide (V.str i = V.str j) = decide (i = j) := by rw [Bool.eq_iff_iff]; simp
theorem decB (i j : Bool) : decide (V.bl i = V.bl j) = decide (i = j) := by rw [Bool.eq_iff_iff]; simp
theorem i_eqI {i j : Int} (h : Q (.bl (decide (i = j))) H) : rEq (.int i) (.int j) H Q := ⟨rfl, by rw [decI]; exact h⟩
theorem i_eqS {i j : Str} (h : Q (.bl (decide (i = j))) H) : rEq (.str i) (.str j) H Q := ⟨rfl, by rw [decS]; exact h⟩
theorem i_neB {i j : Bool} (h : Q (.bl (!decide (i = j))) H) : rNe (.bl i) (.bl j) H Q := ⟨rfl, by rw [decB]; exact h⟩
theorem i_test (h : te σ H fun x H' => ∃ k, x = .bl k ∧ QT k H') : tTest te σ H QT := h
theorem i_bl {k : Bool} {p : Bool → Prop} (h : p k) : ∃ j, V.bl k = V.bl j ∧ p j := ⟨k, rfl, h⟩
theorem i_ifS (h : tA σ H fun b H1 => if b = true then t D σ H1 else u D σ H1) : tIfS tA t u D σ H := h
theorem i_if (h : tA σ H fun b H1 => if b = true then ta σ H1 Q else tb σ H1 Q) : tIf tA ta tb σ H Q := h
theorem i_ret (h : te σ H rr) : tRet te ⟨nn, rr, bb, cc⟩ σ H := h
theorem i_next (h : nn σ H) : tNext ⟨nn, rr, bb, cc⟩ σ H := h
theorem i_drop (h : te σ H fun _ H1 => nn σ H1) : tDrop te ⟨nn, rr, bb, cc⟩ σ H := h
theorem i_cons {tr : TA} (h : te σ H fun x H1 => tr σ H1 fun xs H2 => QA (x :: xs) H2) : tCons te tr σ H QA := h
theorem i_nil (h : QA [] H) : tNil σ H QA := h
theorem i_cb {r : List V → Hp → VK → Prop} {ts : TA} (h : ts σ H fun vs H1 => r vs H1 Q) : tCB r ts σ H Q := h
theorem i_call {sp : Sp} {dvs : List V} {E : XK} {ts : TA} (h : ts σ H fun vs H1 => sp (vs ++ dvs) H1 Q E) : tCall sp dvs E ts σ H Q := h
theorem i_lst {ts : TA} (h : ts σ H fun xs H1 => xs.length ≤ sizeLine ∧ New H1 (.lst xs) Q) : tLstN ts σ H Q := h
theorem i_tup {ts : TA} (h : ts σ H fun xs H1 => xs.length ≤ sizeLine ∧ New H1 (.tup xs) Q) : tTupN ts σ H Q := h
theorem i_szA {n : Nat} {P : Prop} (h : n ≤ sizeLine) (p : P) : n ≤ sizeLine ∧ P := ⟨h, p⟩
theorem i_rgA {j : Int} {P : Prop} (h : -(2 ^ 62) ≤ j) (h' : j < 2 ^ 62) (p : P) : -(2 ^ 62) ≤ j ∧ j < 2 ^ 62 ∧ P := ⟨h, h', p⟩
theorem i_noIf (h : QT true H) : tNoIf σ H QT := h
theorem i_not (h : tA σ H fun c H1 => QT (!c) H1) : tNot tA σ H QT := h
theorem i_or (h : tA σ H fun c H1 => if c = true then QT true H1 else tB σ H1 QT) : tOr tA tB σ H QT := h
theorem i_for {wi : TI} (h : wi σ H fun J H1 => ForEnd J g t D σ H1) : tFor wi g t D σ H := h
theorem i_lc {wi : TI} {n : Nat} {caps : List Nat} (h : wi σ H fun J H1 => CompEnd J g tA te n caps σ H1 Q) : tLC wi g tA te n caps σ H Q := h
theorem i_rng1 {R : It → Hp → Prop} {ts : TA} (h : ts σ H fun vs H1 => ∃ j : Int, vs = [.int j] ∧ -(2 ^ 62) ≤ j ∧ j < 2 ^ 62 ∧ R (Itr 0 j.toNat) H1) : iRng1 ts σ H R := h
theorem i_iList {K : PySem.W.Frag} {R : It → Hp → Prop} (h : te σ H fun x H1 => ∃ a, x = .ref a ∧ (∃ xs, SqL K H1 a xs) ∧ R (Itl K a) H1) : iList K te σ H R := h
theorem i_rng {j : Int} {p : Int → Prop} (h : p j) : ∃ i : Int, [V.int j] = [V.int i] ∧ p i := ⟨j, rfl, h⟩
theorem i_ref {a : Addr} {p : Addr → Prop} (h : p a) : ∃ b, V.ref a = V.ref b ∧ p b := ⟨a, rfl, h⟩
theorem i_bm {K : PySem.W.Frag} {T : String} {r : V → List V → Hp → VK → Prop} {to : TE} {ts : TA} (h : to σ H fun x H1 => tyV K T x H1 ∧ ts σ H1 fun xs H2 => r x xs H2 Q) : tBM K T r to ts σ H Q := h
theorem i_bm0 {K : PySem.W.Frag} {T : String} {r : V → List V → Hp → VK → Prop} {to : TE} (h : to σ H fun x H1 => tyV K T x H1 ∧ r x [] H1 Q) : tBM0 K T r to σ H Q := h
theorem i_ixL {K : PySem.W.Frag} {p : Addr} {xs : List V} {i : Int} {v : V} (h1 : SqL K H p xs) (h2 : atI xs i = some v) (h : Q v H) : rIxL K (.ref p) (.int i) H Q := ⟨p, xs, i, v, rfl, rfl, h1, h2, h⟩
theorem i_ixT {K : PySem.W.Frag} {p : Addr} {xs : List V} {i : Int} {v : V} (h1 : SqT K H p xs) (h2 : atI xs i = some v) (h : Q v H) : rIxT K (.ref p) (.int i) H Q := ⟨p, xs, i, v, rfl, rfl, h1, h2, h⟩
theorem i_sl {r : V → Option Int → Option Int → Hp → VK → Prop} {tl th : TO} (h : te σ H fun x H1 => tl σ H1 fun l H2 => th σ H2 fun u H3 => r x l u H3 Q) : tSl r te tl th σ H Q := h
theorem i_nopart {QO : Option Int → Hp → Prop} (h : QO none H) : tNoPart σ H QO := h
theorem i_part {QO : Option Int → Hp → Prop} (h : te σ H fun x H1 => ∃ i, x = .int i ∧ QO (some i) H1) : tPart te σ H QO := h
theorem i_ix1 {i : Int} {p : Int → Prop} (h : p i) : ∃ j, V.int i = V.int j ∧ p j := ⟨i, rfl, h⟩
theorem i_slL {K : PySem.W.Frag} {a : Addr} {xs : List V} {lo hi : Option Int} (h1 : SqL K H a xs) (h : New H (.lst (cutV xs lo hi)) Q) : rSlN K (.ref a) lo hi H Q := ⟨a, xs, rfl, h1, h⟩
theorem i_itT {A B : Prop} (h : A) : if true = true then A else B := iteT h
theorem i_itF {A B : Prop} (h : B) : if false = true then A else B := iteF h
theorem i_itnT {A B : Prop} (h : B) : if (!true) = true then A else B := iteF h
theorem i_itDT {c A B : Prop} [Decidable c] (hc : c) (h : A) : if decide c = true then A else B := by rw [decide_eq_true hc]; exact iteT h
theorem i_itDF {c A B : Prop} [Decidable c] (hc : ¬ c) (h : B) : if decide c = true then A else B := by rw [decide_eq_false hc]; exact iteF h
theorem i_itNT {c A B : Prop} [Decidable c] (hc : ¬ c) (h : A) : if (!decide c) = true then A else B := by rw [decide_eq_false hc]; exact iteT h
theorem i_itNF {c A B : Prop} [Decidable c] (hc : c) (h : B) : if (!decide c) = true then A else B := by rw [decide_eq_true hc]; exact iteF h
theorem i_asgT {K : PySem.W.Frag} {n : Nat} {ts : TGs} {a : Addr} {xs : List V} (h1 : SqT K H a xs) (h2 : xs.length = n) (h : ts xs σ H QS) : gTup K n ts (.ref a) σ H QS := ⟨a, xs, rfl, h1, h2, h⟩
theorem i_gnil (h : QS σ H) : gNil [] σ H QS := ⟨rfl, h⟩
theorem i_gcons {gt : TG} {us : TGs} {v : V} {r : List V} (h : gt v σ H fun σ' H' => us r σ' H' QS) : gCons gt us (v :: r) σ H QS := ⟨v, r, rfl, h⟩
theorem i_isiIB {K : PySem.W.Frag} {z : Int} (h : Q (.bl false) H) : rIsi K [V.int z, V.ty "bool"] H Q := ⟨_, _, _, false, rfl, .int z, by rfl, h⟩
theorem i_isiL {K : PySem.W.Frag} {a : Addr} {xs : List V} (e : H a = some (.lst xs)) (h : Q (.bl true) H) : rIsi K [V.ref a, V.ty "list"] H Q := ⟨_, _, _, true, rfl, .lst e, rfl, h⟩
theorem i_tru {K : PySem.W.Frag} (h : te σ H fun x H' => ∃ k, TruV K x H' k ∧ QT k H') : tTru K te σ H QT := h
theorem i_truB {K : PySem.W.Frag} {k : Bool} {p : Bool → Prop} (h : p k) : ∃ j, TruV K (.bl k) H j ∧ p j := ⟨k, rfl, h⟩
theorem i_lenL {K : PySem.W.Frag} {p : Addr} {xs : List V} (h1 : SqL K H p xs) (h : Q (.int xs.length) H) : rLen K [V.ref p] H Q := ⟨_, _, rfl, .inl ⟨xs, h1, rfl⟩, h⟩
theorem i_intB {k : Bool} (h : Q (.int (if k then 1 else 0)) H) : rToInt [V.bl k] H Q := .inr ⟨k, rfl, h⟩
theorem i_listL {K : PySem.W.Frag} {p : Addr} {ys : List V} (h1 : SqL K H p ys) (h : New H (.lst ys) Q) : rListN K [.ref p] H Q := ⟨p, ys, rfl, .inl h1, h⟩
theorem i_tupleL {K : PySem.W.Frag} {p : Addr} {ys : List V} (h1 : SqL K H p ys) (h : New H (.tup ys) Q) : rTupleN K [.ref p] H Q := ⟨p, ys, rfl, h1, h⟩
end
end L2
namespace L2
open PySem PySem.Spec PyProof.Rows
section
variable {X : Cx}
end
theorem cc_pairs {K : PySem.W.Frag} {a : Addr} {xs : List V} {te : TE} {tt : TT} {caps : List Nat} {σ : St} {H : Hp} {Q : VK} (hz : xs.length ≤ sizeLine) (Pv : Nat → List V → Hp → Prop) (h0 : Pv 0 [] H) (hl : ∀ i acc H, Pv i acc H → acc.length ≤ i ∧ SqL K H a xs)
    (hs : ∀ i x acc H, xs[i]? = some x → Pv i acc H → ∃ p u v, x = .ref p ∧ SqT K H p [u, v] ∧ tt (some u :: some v :: capV caps σ) H fun b H4 => if b = true then te (some u :: some v :: capV caps σ) H4 fun y H5 => Pv (i + 1) (acc ++ [y]) H5 else Pv (i + 1) acc H4)
    (hd : ∀ acc H, Pv xs.length acc H → New H (.lst acc) Q) : CompEnd (Itl K a) (gTup K 2 (gCons (gName 0) (gCons (gName 1) gNil))) tt te 2 caps σ H Q := by
  refine ⟨fun i m acc σ' H => m = xs.length - i ∧ i ≤ xs.length ∧ (∃ u v, σ' = u :: v :: capV caps σ) ∧ Pv i acc H, ⟨xs.length, by simp, Nat.zero_le _, ⟨none, none, rfl⟩, h0⟩, ?_⟩
  rintro i m acc σ' H' ⟨rfl, hi, ⟨u0, v0, rfl⟩, p⟩
  obtain ⟨hl1, hq⟩ := hl i acc H' p
  by_cases hlt : i < xs.length
  · refine .inr ⟨⟨xs, xs[i], hq, by simp [hlt]⟩, by omega, fun ac σ2 H2 => (∃ u v, σ2 = u :: v :: capV caps σ) ∧ Pv (i + 1) ac H2, fun ac σ2 H2 ⟨e, p'⟩ => ⟨xs.length - (i + 1), by omega, rfl, hlt, e, p'⟩, fun x H2 y => ?_⟩
    obtain ⟨e, y⟩ := y
    subst e
    obtain ⟨q, u, v, rfl, hT, hst⟩ := hs i x acc _ (y xs hq) p
    have eN : ∀ ac H5, ((∃ u1 v1, some u :: some v :: capV caps σ = u1 :: v1 :: capV caps σ) ∧ Pv (i + 1) ac H5) = Pv (i + 1) ac H5 := fun ac H5 => propext ⟨And.right, fun p => ⟨⟨_, _, rfl⟩, p⟩⟩
    refine ⟨q, [u, v], rfl, hT, rfl, u, [v], rfl, v, [], rfl, rfl, ?_⟩
    show tt (some u :: some v :: capV caps σ) _ fun b H4 => if b = true then te (some u :: some v :: capV caps σ) H4 fun y H5 => ((∃ u1 v1, some u :: some v :: capV caps σ = u1 :: v1 :: capV caps σ) ∧ Pv (i + 1) (acc ++ [y]) H5) else ((∃ u1 v1, some u :: some v :: capV caps σ = u1 :: v1 :: capV caps σ) ∧ Pv (i + 1) acc H4)
    simp only [eN]
    exact hst
  · have e : i = xs.length := by omega
    subst e
    exact .inl ⟨⟨xs, hq, Nat.le_refl _⟩, New.to (hd acc H' p)⟩
section
variable {σ : St} {H : Hp} {Q : VK}
theorem i_append {l : Addr} {xs : List V} {y : V} (h1 : H l = some (.lst xs)) (hz : xs.length < sizeLine) (h : Q .non (upd H l (.lst (xs ++ [y])))) : rAppend (.ref l) [y] H Q := ⟨l, xs, y, rfl, rfl, h1, hz, h⟩
theorem i_pop {l : Addr} {xs : List V} {y : V} (h1 : H l = some (.lst (xs ++ [y]))) (h : Q y (upd H l (.lst xs))) : rPop (.ref l) [] H Q := ⟨l, xs ++ [y], y, rfl, rfl, h1, by simp, by simpa using h⟩
theorem i_tyL {K : PySem.W.Frag} {l : Addr} {xs : List V} {P : Prop} (h1 : SqL K H l xs) (h : P) : tyV K "list" (.ref l) H ∧ P := ⟨.inl ⟨rfl, xs, h1⟩, h⟩
end
def Tups (H H' : Hp) : Prop := ∀ b xs, H b = some (.tup xs) → H' b = some (.tup xs)
theorem Same.tups {H H' : Hp} (s : Same H H') : Tups H H' := fun b xs h => s b _ h
theorem Tups.trans {H H1 H2 : Hp} (a : Tups H H1) (b : Tups H1 H2) : Tups H H2 := fun c xs h => b c xs (a c xs h)
theorem Tups.upd {H : Hp} {l : Addr} {xs : List V} {o : HO} (h : H l = some (.lst xs)) : Tups H (upd H l o) := fun b ys e => by rw [upd_ne (ne_of e h (fun z => nomatch z))]; exact e
end L2
namespace L2
open PySem
theorem Same.updNew {H H1 : Hp} {l : Addr} {o : HO} (s : Same H H1) (h : H l = none) : Same H (upd H1 l o) := fun b u e => by rw [upd_ne (ne_of_none e h)]; exact s b u e
inductive Ex where
  | num (i : Int)
  | box (n : Str)
  | two (k : Bool) (a b : Ex)
end L2
namespace L2
open PySem PySem.Spec PyProof.Rows
inductive Cd where
  | cmp (k : Bool) (a b : Ex)
  | nt (c : Cd)
  | both (c d : Cd)
end L2
namespace L2
open PySem PySem.Spec PyProof.Rows
def jl (c : Nat) : List (List Nat) → List Nat
  | [] => []
  | [x] => x
  | x :: y :: r => x ++ c :: jl c (y :: r)
end L2
namespace L2
open PySem
inductive Th where
  | ex (e : Ex)
  | cd (c : Cd)
end L2
namespace L2
open PySem
theorem i_dget {σ : St} {H : Hp} {Q : VK} {td ty : TE} (h : td σ H fun x H1 => ty σ H1 fun y H2 => ∃ a v, x = .ref a ∧ DGet H2 a y (some v) ∧ Q v H2) : tDGet td ty σ H Q := h
end L2
namespace L2
open PySem PySem.Spec PyProof.Rows
theorem kop_neS {X : Cx} (K : PySem.W.Frag) (hu : X.A.units < cLine) (hK : X.K = K := by rfl) : OpR X (compareOp .NotEq) (rEqS K true) := by
  subst hK
  intro pins s σ H x y v u Q I rx ry h
  obtain ⟨l, b, ys, zs, rfl, rfl, h1, h2, q⟩ := h
  cases rx
  cases ry
  obtain ⟨is1, r1, p1, _⟩ := I.list h1
  obtain ⟨is2, r2, p2, _⟩ := I.list h2
  have e1 : ys.length = is1.length := by have := r1.length; simpa [strsV] using this
  have e2 : zs.length = is2.length := by have := r2.length; simpa [strsV] using this
  by_cases hl : ys.length = zs.length
  · have := SeqAt.RcNeAt.lists (A := X.A) (s := s) (e := fun i => decide (ys[i]? = zs[i]?)) p1.isList p2.isList (by simp; omega) hu (fun j h1 h2 => by
      obtain ⟨y, t, ey, eu⟩ := strs_at r1 j (by simpa using h1)
      obtain ⟨z, t', ez, ew⟩ := strs_at r2 j (by simpa using h2)
      have : decide (ys[j]? = zs[j]?) = (y == z) := by rw [ey, ez, Bool.eq_iff_iff]; simp
      rw [this]
      have g1 : is1.toArray[j] = .str y t := by simpa using eu
      have g2 : is2.toArray[j] = .str z t' := by simpa using ew
      rw [g1, g2]
      exact SeqAt.EqAt.str_str y t z t')
    rw [show is1.toArray.size = ys.length by simp [e1], range_eqS ys zs hl] at this
    exact this _ _ _ _ ⟨.bl _, H, I, rfl, q⟩
  · have hne : ys ≠ zs := fun e => hl (by rw [e])
    rw [decide_eq_false hne] at q
    exact SeqAt.RcNeAt.lists_lengths p1.isList p2.isList (by simp; omega) hu _ _ _ _ ⟨.bl _, H, I, rfl, q⟩
theorem i_neL {K : PySem.W.Frag} {H : Hp} {Q : VK} {l b : Addr} {ys zs : List Str} (h1 : SqL K H l (strsV ys)) (h2 : SqL K H b (strsV zs)) (h : Q (.bl (!decide (ys = zs))) H) : rEqS K true (.ref l) (.ref b) H Q := ⟨l, b, ys, zs, rfl, rfl, h1, h2, h⟩
end L2
namespace L2
open PySem
inductive Tr where
  | non
  | int (i : Int)
  | str (s : Str)
  | tup (xs : List Tr)
  | lst (xs : List Tr)
mutual
def Tr.At (H : Hp) : Tr → V → List Addr → Prop
  | .non, v, fs => v = .non ∧ fs = []
  | .int i, v, fs => v = .int i ∧ fs = []
  | .str s, v, fs => v = .str s ∧ fs = []
  | .tup xs, v, fs => ∃ a vs, v = .ref a ∧ H a = some (.tup vs) ∧ Tr.Ats H xs vs fs
  | .lst xs, v, fs => ∃ a vs gs, v = .ref a ∧ H a = some (.lst vs) ∧ Tr.Ats H xs vs gs ∧ fs = a :: gs
def Tr.Ats (H : Hp) : List Tr → List V → List Addr → Prop
  | [], vs, fs => vs = [] ∧ fs = []
  | x :: xs, vs, fs => ∃ v ws f g, vs = v :: ws ∧ fs = f ++ g ∧ Tr.At H x v f ∧ Tr.Ats H xs ws g
end
def Keep (fs : List Addr) (H H' : Hp) : Prop := Tups H H' ∧ ∀ a ∈ fs, ∀ xs, H a = some (.lst xs) → H' a = some (.lst xs)
theorem Same.keep {H H' : Hp} (s : Same H H') (fs : List Addr) : Keep fs H H' := ⟨s.tups, fun a _ xs h => s a _ h⟩
theorem Keep.sub {fs gs : List Addr} {H H' : Hp} (k : Keep fs H H') (h : ∀ a ∈ gs, a ∈ fs) : Keep gs H H' := ⟨k.1, fun a m => k.2 a (h a m)⟩
mutual
theorem Tr.At.mono {H H' : Hp} : ∀ {x : Tr} {v : V} {fs : List Addr}, x.At H v fs → Keep fs H H' → x.At H' v fs
  | .non, _, _, h, _ => by simpa only [Tr.At] using h
  | .int _, _, _, h, _ => by simpa only [Tr.At] using h
  | .str _, _, _, h, _ => by simpa only [Tr.At] using h
  | .tup xs, v, fs, h, k => by
    simp only [Tr.At] at h ⊢
    obtain ⟨a, vs, e, g, r⟩ := h
    exact ⟨a, vs, e, k.1 _ _ g, Tr.Ats.mono r k⟩
  | .lst xs, v, fs, h, k => by
    simp only [Tr.At] at h ⊢
    obtain ⟨a, vs, gs, e, g, r, rfl⟩ := h
    exact ⟨a, vs, gs, e, k.2 _ (by simp) _ g, Tr.Ats.mono r (k.sub fun b m => by simp [m]), rfl⟩
theorem Tr.Ats.mono {H H' : Hp} : ∀ {xs : List Tr} {vs : List V} {fs : List Addr}, Tr.Ats H xs vs fs → Keep fs H H' → Tr.Ats H' xs vs fs
  | [], _, _, h, _ => by simpa only [Tr.Ats] using h
  | x :: xs, vs, fs, h, k => by
    simp only [Tr.Ats] at h ⊢
    obtain ⟨v, ws, f, g, e, rfl, a, b⟩ := h
    exact ⟨v, ws, f, g, e, rfl, Tr.At.mono a (k.sub fun c m => by simp [m]), Tr.Ats.mono b (k.sub fun c m => by simp [m])⟩
end
theorem Tr.Ats.snoc {H : Hp} : ∀ {xs : List Tr} {vs : List V} {fs gs : List Addr} {x : Tr} {v : V}, Tr.Ats H xs vs fs → x.At H v gs → Tr.Ats H (xs ++ [x]) (vs ++ [v]) (fs ++ gs)
  | [], vs, fs, gs, x, v, h, a => by
    simp only [Tr.Ats] at h
    obtain ⟨rfl, rfl⟩ := h
    simp only [List.nil_append, Tr.Ats]
    exact ⟨v, [], gs, [], rfl, by simp, a, rfl, rfl⟩
  | y :: xs, vs, fs, gs, x, v, h, a => by
    simp only [Tr.Ats] at h
    obtain ⟨w, ws, f, g, rfl, rfl, b, c⟩ := h
    simp only [List.cons_append, Tr.Ats]
    exact ⟨w, ws ++ [v], f, g ++ gs, rfl, by simp, b, c.snoc a⟩
theorem Tr.Ats.len {H : Hp} : ∀ {xs : List Tr} {vs : List V} {fs : List Addr}, Tr.Ats H xs vs fs → vs.length = xs.length
  | [], vs, fs, h => by
    simp only [Tr.Ats] at h
    obtain ⟨rfl, rfl⟩ := h
    rfl
  | y :: xs, vs, fs, h => by
    simp only [Tr.Ats] at h
    obtain ⟨w, ws, f, g, rfl, rfl, b, c⟩ := h
    simp [c.len]
theorem Tr.Ats.get {H : Hp} : ∀ {xs : List Tr} {vs : List V} {fs : List Addr}, Tr.Ats H xs vs fs → ∀ (i : Nat) (v : V), vs[i]? = some v → ∃ x f, xs[i]? = some x ∧ x.At H v f ∧ ∀ a ∈ f, a ∈ fs
  | [], vs, fs, h, i, v, e => by
    simp only [Tr.Ats] at h
    obtain ⟨rfl, rfl⟩ := h
    simp at e
  | y :: xs, vs, fs, h, i, v, e => by
    simp only [Tr.Ats] at h
    obtain ⟨w, ws, f, g, rfl, rfl, b, c⟩ := h
    cases i with
    | zero =>
      simp at e
      subst e
      exact ⟨y, f, rfl, b, fun a m => by simp [m]⟩
    | succ i =>
      obtain ⟨x, f', h1, h2, h3⟩ := c.get i v (by simpa using e)
      exact ⟨x, f', by simpa using h1, h2, fun a m => by simp [h3 a m]⟩
end L2
namespace L2
open PySem PySem.Spec PyProof.Rows
mutual
def Tr.h : Tr → Nat
  | .non => 0
  | .int _ => 0
  | .str _ => 0
  | .tup xs => Tr.hs xs + 1
  | .lst xs => Tr.hs xs + 1
def Tr.hs : List Tr → Nat
  | [] => 0
  | x :: xs => max x.h (Tr.hs xs)
end
theorem all_tt (n : Nat) : ((List.range n).all fun _ => true) = true := by simp
theorem in1_units (A : Around) : A.in1.units = A.units + 1 := rfl
section
variable {X : Cx} {pins : List (Addr × Obj)} {σ : St} {H : Hp} {s : Shared}
mutual
theorem Tr.eqAt (I : Inv X pins σ H s) : ∀ {t : Tr} {A : Around} {v w : V} {fs gs : List Addr} {u z : Value}, t.At H v fs → t.At H w gs → RelV v u → RelV w z → A.units + t.h < cLine → SeqAt.EqAt A s u z true
  | .non, A, v, w, fs, gs, u, z, h1, h2, r1, r2, hu => by
    simp only [Tr.At] at h1 h2
    obtain ⟨rfl, -⟩ := h1
    obtain ⟨rfl, -⟩ := h2
    cases r1
    cases r2
    exact SeqAt.EqAt.same _
  | .int i, A, v, w, fs, gs, u, z, h1, h2, r1, r2, hu => by
    simp only [Tr.At] at h1 h2
    obtain ⟨rfl, -⟩ := h1
    obtain ⟨rfl, -⟩ := h2
    obtain ⟨t1, rfl⟩ := r1
    obtain ⟨t2, rfl⟩ := r2
    have := SeqAt.EqAt.int_int (A := A) (s := s) i t1 i t2
    simpa using this
  | .str i, A, v, w, fs, gs, u, z, h1, h2, r1, r2, hu => by
    simp only [Tr.At] at h1 h2
    obtain ⟨rfl, -⟩ := h1
    obtain ⟨rfl, -⟩ := h2
    obtain ⟨t1, rfl⟩ := r1
    obtain ⟨t2, rfl⟩ := r2
    have := SeqAt.EqAt.str_str (A := A) (s := s) i t1 i t2
    simpa using this
  | .tup xs, A, v, w, fs, gs, u, z, h1, h2, r1, r2, hu => by
    simp only [Tr.At] at h1 h2
    obtain ⟨a, vs, rfl, e1, c1⟩ := h1
    obtain ⟨b, ws, rfl, e2, c2⟩ := h2
    cases r1
    cases r2
    by_cases hab : a = b
    · subst hab
      exact SeqAt.EqAt.same _
    refine SeqAt.EqAt.of_refs hab ?_
    obtain ⟨is1, q1, p1, _⟩ := I.tuple (SqT.of e1)
    obtain ⟨is2, q2, p2, _⟩ := I.tuple (SqT.of e2)
    simp only [Tr.h] at hu
    have hl : is1.length = is2.length := by rw [← q1.length, ← q2.length, c1.len, c2.len]
    have := SeqAt.RcAt.tuples (A := A) (s := s) (e := fun _ => true) p1 p2 (by omega) (fun j h1 h2 => by
      have := Tr.eqAts I (A := A.in1) c1 c2 q1 q2 (by rw [in1_units]; omega) j (by simpa using h1) (by simpa using h2)
      simpa using this)
    simpa [hl, all_tt] using this
  | .lst xs, A, v, w, fs, gs, u, z, h1, h2, r1, r2, hu => by
    simp only [Tr.At] at h1 h2
    obtain ⟨a, vs, _, rfl, e1, c1, _⟩ := h1
    obtain ⟨b, ws, _, rfl, e2, c2, _⟩ := h2
    cases r1
    cases r2
    by_cases hab : a = b
    · subst hab
      exact SeqAt.EqAt.same _
    refine SeqAt.EqAt.of_refs hab ?_
    obtain ⟨is1, q1, p1, _⟩ := I.list (SqL.of e1)
    obtain ⟨is2, q2, p2, _⟩ := I.list (SqL.of e2)
    simp only [Tr.h] at hu
    have hl : is1.length = is2.length := by rw [← q1.length, ← q2.length, c1.len, c2.len]
    have := SeqAt.RcAt.lists (A := A) (s := s) (e := fun _ => true) p1.isList p2.isList (by simpa using hl) (by omega) (fun j h1 h2 => by
      have := Tr.eqAts I (A := A.in1) c1 c2 q1 q2 (by rw [in1_units]; omega) j (by simpa using h1) (by simpa using h2)
      simpa using this)
    simpa [all_tt] using this
theorem Tr.eqAts (I : Inv X pins σ H s) : ∀ {ts : List Tr} {A : Around} {vs ws : List V} {fs gs : List Addr} {us zs : List Value}, Tr.Ats H ts vs fs → Tr.Ats H ts ws gs → Vals vs us → Vals ws zs → A.units + Tr.hs ts < cLine →
    ∀ (j : Nat) (h1 : j < us.length) (h2 : j < zs.length), SeqAt.EqAt A s us[j] zs[j] true
  | [], A, vs, ws, fs, gs, us, zs, c1, c2, q1, q2, hu, j, h1, h2 => by
    simp only [Tr.Ats] at c1
    obtain ⟨rfl, -⟩ := c1
    cases q1
    exact absurd h1 (by simp)
  | t :: ts, A, vs, ws, fs, gs, us, zs, c1, c2, q1, q2, hu, j, h1, h2 => by
    simp only [Tr.Ats] at c1 c2
    obtain ⟨v, vs, f, g, rfl, rfl, a1, b1⟩ := c1
    obtain ⟨w, ws, f', g', rfl, rfl, a2, b2⟩ := c2
    cases q1 with
    | cons r1 q1 =>
    cases q2 with
    | cons r2 q2 =>
    simp only [Tr.hs] at hu
    cases j with
    | zero => exact Tr.eqAt I a1 a2 r1 r2 (by omega)
    | succ j => exact Tr.eqAts I b1 b2 q1 q2 (by omega) j (by simpa using h1) (by simpa using h2)
end
end
end L2
namespace L2
open PySem PySem.Spec PyProof.Rows
section
variable {prog : Program} {w : World} {A : Around} {E : Value → Shared → Prop}
end
section
variable {X : Cx} {pos : Pos}
end
end L2
namespace L2
open PySem PySem.Spec PyProof.Rows
theorem i_extend {H : Hp} {Q : VK} {l b : Addr} {xs zs : List V} (h1 : H l = some (.lst xs)) (h2 : H b = some (.lst zs)) (hz : xs.length + zs.length ≤ sizeLine) (h : Q .non (upd H l (.lst (xs ++ zs)))) : rExtend (.ref l) [.ref b] H Q := ⟨l, b, xs, zs, rfl, rfl, h1, h2, hz, h⟩
end L2
namespace L2
open PySem
end L2
namespace L2
open PySem
end L2
namespace L2
open PySem
section
variable {H : Hp} {v : V} {fs : List Addr}
end
end L2
namespace L2
open PySem
section
variable {H : Hp} {v : V} {fs : List Addr}
end
end L2
namespace L2
open PySem PySem.Spec PyProof.Rows
section
variable {X : Cx}
end
end L2
namespace L2
def keptP (ws : List (Option Nat)) (n : Nat) : List Nat := (List.range n).filter fun i => decide (ws[i]? = some none)
def kept (ws : List (Option Nat)) : List Nat := keptP ws ws.length
end L2
namespace L2
open PySem
section
variable {prog : Program} {w : World} {K : Type} [DecidableEq K] {knd : KeyKind prog w K} {A : Around} {E : Value → Shared → Prop} {s : Shared}
theorem plain_dul : plainId "dict.update.loop" = true := by decide +kernel
theorem entry_dul : entryFor table "dict.update.loop" = some Builtin.«dict.update.loop» := entryFor_of_fast (by kernel_rfl)
theorem miss_keys : typeLookup (.type "list") "keys" = pure none := am_miss_of_fast (by decide +kernel)
theorem getAttr?_miss_list {a : Addr} {o : Obj} {xs : Array Value} {k : Nat} {name : Str} {Q : Option Value → Shared → Prop}
    (hx : s.heap.get? a = some o) (hc : o.cls = .type "list") (hdat : o.data = .seq xs k) (hd : o.dict = none) (hmiss : typeLookup (.type "list") name = pure none) (hname : (["__module__", "__name__", "__qualname__", "__doc__", "__annotations__"] : List Str).contains name = false) (hA : A.handled = none)
    (h : ∀ h' tk, (∀ b o, s.heap.get? b = some o → h'.get? b = some o) → Q none { s with heap := h', toks := tk }) (hsz : name.length + 100 ≤ sizeLine := by size_fits) :
    wpAny (model prog w) A (getAttr? (.ref a) name) Q E s := by
  obtain ⟨c, dct, dat, sl⟩ := o
  simp only at hc hdat hd
  subst hc hdat hd
  obtain ⟨hp, g, d, tk, os⟩ := s
  have hT : ∀ tk', (⟨hp, g, d, tk', os⟩ : Shared).TypeIs (.ref a) "list" := fun _ => ⟨_, hx, rfl⟩
  have f1 := sub_AttributeError
  have f3 := F.slot_list_getattribute.lookup
  have f4 := F.slot_list_getattribute.bind (.ref a)
  have f5 := am_list_getattr_none
  unfold getAttr? getAttrBy? getAttrBy
  repeat (any_goals (first | assumption | exact hT _ | ((with_reducible show wpAny _ _ (call (Value.builtin "list.__getattribute__") _ _) _ _ _); refine call_meets F.slot_list_getattribute (hT _) am_entry_list_getattribute (F.args_list_getattribute_2 _ _) (meets_getattribute_miss_list a xs k sl name _ hmiss hname hsz) ⟨hx, hA, fun h' tk' e hx' => ?_⟩) | wp_step))
  obtain ⟨t', u', he⟩ := hx'.there
  show wpAny _ _ (getattributeRaised _ _ _ _ _ _ _) _ _ _
  unfold getattributeRaised
  repeat (any_goals (first | assumption | wp_step))
  exact h _ _ hx'.keeps
end
end L2
namespace L2
open PySem
section
variable {prog : Program} {w : World} {K : Type} [DecidableEq K] {knd : KeyKind prog w K} {A : Around} {E : Value → Shared → Prop} {s : Shared}
def PairsAt (knd : KeyKind prog w K) (h : Heap) (items : Array Value) (ps : List (K × Value)) (no : List Addr) : Prop :=
  ps.length = items.size ∧ ∀ (j : Nat) (x : Value), items[j]? = some x → ∃ T k key v, x = .ref T ∧ T ∉ no ∧ h.IsTuple T #[key, v] ∧ knd.is k key = true ∧ ps[j]? = some (k, v)
theorem PairsAt.mono {h h' : Heap} {items : Array Value} {ps : List (K × Value)} {no : List Addr} (p : PairsAt knd h items ps no) (k : ∀ b o, b ∉ no → h.get? b = some o → h'.get? b = some o) : PairsAt knd h' items ps no :=
  ⟨p.1, fun j x e => by
    obtain ⟨T, k1, key, v, h1, h2, ⟨o, h3, h3'⟩, h4, h5⟩ := p.2 j x e
    exact ⟨T, k1, key, v, h1, h2, ⟨o, k T o h2 h3, h3'⟩, h4, h5⟩⟩
theorem update_loop {R : Result → Shared → Prop} {d it l : Addr} {items : Array Value} {ps : List (K × Value)} {res : Value} (hdi : d ≠ it) (hli : l ≠ it) (hld : l ≠ d) (hA : A.handled = none) :
    ∀ (n i : Nat) (s : Shared) (kvs : List (K × Value)), items.size - i = n → i ≤ items.size → s.heap.IsListIter it l i → s.heap.IsList l items → s.heap.DictOf knd d kvs → kvs.length + n ≤ sizeLine → PairsAt knd s.heap items ps [d, it] →
    (∀ h' tk, h'.DictOf knd d (merged kvs (ps.drop i)) → (∀ b o, b ≠ d → b ≠ it → s.heap.get? b = some o → h'.get? b = some o) → R (.ok (.ret res)) { s with heap := h', toks := tk }) →
    codeAny (model prog w) A (.builtin "dict.update.loop" ⟨[.ref d, .ref it, rawInt i, res], []⟩) R s := by
  intro n
  induction n with
  | zero =>
    intro i s kvs hn hi hit hl hd hz hp hR
    have e : i = items.size := by omega
    subst e
    refine codeAny_builtin entry_dul ?_
    rw [Around.under_plainId plain_dul _]
    show wpAny _ A.in1 (pyNext (.ref it) >>= _) _ _ s
    refine wpAny_bind (wpAny_pyNext_list_end (by exact hA) hit hl (Array.getElem?_eq_none (Nat.le_refl _)) fun h' hx => ?_)
    show wpAny _ _ (Builtin.Dict.addKeywords d [] >>= _) _ _ _
    refine wpAny_bind (wpAny_pure (wpAny_pure ?_))
    refine hR h' s.toks ?_ fun b o _ h2 e => hx b o h2 e
    rw [List.drop_of_length_le (Nat.le_of_eq hp.1)]
    exact hd.extBut hx hdi
  | succ n ih =>
    intro i s kvs hn hi hit hl hd hz hp hR
    have hlt : i < items.size := by omega
    obtain ⟨T, k, key, v, e1, e2, hT, hk, hv⟩ := hp.2 i items[i] (by simp [hlt])
    refine codeAny_builtin entry_dul ?_
    rw [Around.under_plainId plain_dul _]
    show wpAny _ A.in1 (pyNext (.ref it) >>= _) _ _ s
    refine wpAny_bind (wpAny_pyNext_list_item hit hl (x := items[i]) (by simp [hlt]) fun h1 hit1 hs1 => ?_)
    rw [e1]
    have hTd : T ≠ d := fun z => e2 (by simp [z])
    have hTi : T ≠ it := fun z => e2 (by simp [z])
    obtain ⟨oT, hoT, cT, nT, dT⟩ := hT
    have hoT1 : h1.get? T = some oT := (hs1.2 T hTi).trans hoT
    have tT : ({ s with heap := h1 } : Shared).TypeIs (.ref T) "tuple" := ⟨oT, hoT1, cT⟩
    show wpAny _ _ (holding [Value.ref T] _ >>= _) _ _ _
    refine wpAny_bind (wpAny_holding ?_)
    refine wpAny_bind (wpAny_tryCatch ?_)
    unfold Builtin.Dict.pairItems
    refine wpAny_bind (wpAny_typeOf tT ?_)
    rw [if_pos (by decide)]
    refine wpAny_bind (wpAny_seqItems hoT1 dT (wpAny_pure ?_))
    show wpAny _ _ (holding [key, v] (dictSet d key v)) _ _ _
    refine wpAny_holding ?_
    have hd1 : h1.DictOf knd d kvs := hd.sameBut hs1 hdi
    refine wpAny_dictSet_pairs (hsz := by omega) hk hd1 fun h2 hd2 hs2 => ?_
    refine wpAny_pure ⟨plainId_quiet plain_dul _, ?_⟩
    have kp : ∀ b o, b ≠ d → b ≠ it → s.heap.get? b = some o → h2.get? b = some o := fun b o hb1 hb2 e => (hs2.2 b hb1).trans ((hs1.2 b hb2).trans e)
    have hit2 : h2.IsListIter it l (i + 1) := let ⟨o, e, r⟩ := hit1; ⟨o, (hs2.2 it (Ne.symm hdi)).trans e, r⟩
    have hl2 : h2.IsList l items := let ⟨o, e, r⟩ := hl; ⟨o, kp l o hld hli e, r⟩
    have := ih (i + 1) { s with heap := h2, toks := s.toks + 1 } (stored kvs k v) (by omega) (by omega) hit2 hl2 hd2 (by have := stored_length_le kvs k v; omega) (hp.mono fun b o hb e => kp b o (fun z => hb (by simp [z])) (fun z => hb (by simp [z])) e) (fun h' tk hd' kp' => ?_)
    · exact this
    · refine hR h' tk ?_ fun b o h3 h4 e => kp' b o h3 h4 (kp b o h3 h4 e)
      have hdr : ps.drop i = (k, v) :: ps.drop (i + 1) := by
        obtain ⟨hj, ej⟩ := List.getElem?_eq_some_iff.mp hv
        rw [List.drop_eq_getElem_cons hj, ej]
      rw [hdr]
      exact hd'
theorem call_dict_pairs {l : Addr} {o : Obj} {items : Array Value} {n : Nat} {ps : List (K × Value)} {Q : Value → Shared → Prop} (ho : s.heap.get? l = some o) (hc : o.cls = .type "list") (hd : o.dict = none) (hdat : o.data = .seq items n)
    (hA : A.handled = none) (hp : PairsAt knd s.heap items ps []) (hz : items.size ≤ sizeLine)
    (h : ∀ h' tk, h'.DictOf knd s.heap.objs.size (merged [] ps) → (∀ b o, s.heap.get? b = some o → h'.get? b = some o) → Q (.ref s.heap.objs.size) { s with heap := h', toks := tk }) :
    wpAny (model prog w) A (call (.type "dict") [.ref l]) Q E s := by
  refine callType_codes (Q₁ := fun obj s₁ => obj = .ref s.heap.objs.size ∧ s₁ = { s with heap := s.heap.push { cls := .type "dict", data := .dict #[] } }) F.kt_called_dict (F.kt_typeCall_dict_1 _) F.entry_dict_init (kt_code_dict_new _ ⟨rfl, rfl⟩) ?_
  rintro obj s₁ ⟨rfl, rfl⟩
  have hnew : (s.heap.push { cls := .type "dict", data := .dict #[] }).DictOf knd s.heap.objs.size [] := Heap.DictOf.new s.heap
  have hlt := Heap.lt_size ho
  have ho' : (s.heap.push { cls := .type "dict", data := .dict #[] }).get? l = some o := Heap.get?_push_of_some _ ho
  refine ⟨hnew.typeIs, F.args_dict_init_2 _ _, ?_⟩
  unfold Builtin.«dict.__init__»
  refine wpAny_bind ?_
  unfold Builtin.Dict.selfAndRest
  refine wpAny_bind (wpAny_notOrdered_dict hnew.typeIs ?_)
  show wpAny _ _ (pure (s.heap.objs.size, [Value.ref l])) _ _ _
  refine wpAny_pure ?_
  show wpAny _ _ (Builtin.Dict.updateFrom "dict.__init__" s.heap.objs.size (.ref l) [] .none) _ _ _
  unfold Builtin.Dict.updateFrom
  refine wpAny_bind (wpAny_typeOf (T := "list") ⟨o, ho', hc⟩ ?_)
  rw [if_pos (by decide)]
  refine wpAny_bind (getAttr?_miss_list ho' hc hdat hd miss_keys (by decide) (by exact hA) fun h1 tk1 k1 => ?_)
  show wpAny _ _ (rule _ >>= _) _ _ _
  refine wpAny_bind (wpAny_rule ?_)
  have k0 : ∀ b q, s.heap.get? b = some q → h1.get? b = some q := fun b q e => k1 b q (Heap.get?_push_of_some _ e)
  have hl1 : h1.IsList l items := ⟨o, k0 l o ho, hc, n, hdat⟩
  refine wpAny_bind (wpAny_pyIter_list hl1 (wpAny_pure ⟨plainId_quiet plain_dul _, ?_⟩))
  have hd1 : h1.DictOf knd s.heap.objs.size [] := by
    obtain ⟨q, es, ep, e1, e2, e3⟩ := hnew
    exact ⟨q, es, ep, k1 _ _ e1, e2, e3⟩
  have hds : s.heap.objs.size < h1.objs.size := by
    obtain ⟨q, es, ep, e1, _⟩ := hd1
    exact Heap.lt_size e1
  have hl1s : l < h1.objs.size := Heap.lt_size (k0 l o ho)
  refine update_loop (knd := knd) (items := items) (ps := ps) (d := s.heap.objs.size) (it := h1.objs.size) (l := l) (Nat.ne_of_lt hds) (Nat.ne_of_lt hl1s) (Nat.ne_of_lt hlt) (by exact hA) items.size 0 _ [] (by omega) (Nat.zero_le _) ⟨_, Heap.get?_push_size _ rfl, rfl, rfl⟩ (hl1.push _) (hd1.push _) (by simpa using hz) ⟨hp.1, fun j x e => ?_⟩ fun h' tk hd' kp => ?_
  · obtain ⟨T, k, key, v, e1, _, ⟨oT, e2, e3⟩, e4, e5⟩ := hp.2 j x e
    refine ⟨T, k, key, v, e1, ?_, ⟨oT, Heap.get?_push_of_some _ (k0 _ _ e2), e3⟩, e4, e5⟩
    have h1 := Heap.lt_size e2
    have h2 := Heap.lt_size (k0 _ _ e2)
    simp only [List.mem_cons, List.not_mem_nil, or_false, not_or]
    exact ⟨Nat.ne_of_lt h1, Nat.ne_of_lt h2⟩
  · exact ⟨rfl, h h' tk hd' fun b q e => kp b q (Nat.ne_of_lt (Heap.lt_size e)) (Nat.ne_of_lt (Heap.lt_size (k0 _ _ e))) (Heap.get?_push_of_some _ (k0 b q e))⟩
end
end L2
namespace L2
open PySem PySem.Spec PyProof.Rows
section
variable {X : Cx} {pins : List (Addr × Obj)} {σ : St} {H : Hp} {s : Shared}
theorem Inv.turnedL {t' : Nat} {h' : Heap} {ch : List Addr} (I : Inv X pins σ H s) (k : ∀ b o, b ∉ ch → s.heap.get? b = some o → h'.get? b = some o) (hf : ∀ b ∈ ch, FpOk X pins H b) : Inv X pins σ H { s with heap := h', toks := t' } := by
  have nit : ∀ b u, H b = some u → b ∉ ch := fun b u e z => by rw [(hf b z).1] at e; cases e
  refine I.step (g' := s.gens) (d' := s.drawn) (ch := ch) (fun b hb => ⟨(hf b hb).2.2.2.1, (hf b hb).2.1, (hf b hb).2.2.2.2.1, (hf b hb).2.2.2.2.2⟩) (fun b o _ _ hc e _ => k b o hc e) (fun b o _ _ hc e _ => ⟨o.slots, k b o hc e⟩) (fun _ _ _ _ n => n)
    (fun b o hc e => ⟨o, k b o hc e⟩) (fun _ _ e => e) (fun _ _ _ e => e) (fun b ps e => ⟨#[], by rw [e]; simp⟩) (fun m hm => ?_) (fun b u e => ?_) I.bare
  · obtain ⟨o, es, ep, ho, r⟩ := hm
    exact ⟨o, es, ep, k _ o (fun z => (hf _ z).2.1 rfl) ho, r⟩
  · refine (I.hok b u e).stay (fun c v hc q => k c v ?_ q) (fun _ q => q) fun _ _ q => q
    rcases hc with z | z
    · rw [z]; exact nit b u e
    · exact nit c _ z
end
def Ite (K : PySem.W.Frag) (a : Addr) : It :=
  ⟨fun i H => ∃ xs x, SqL K H a xs ∧ xs[i]? = some x, fun i H v H' => ∃ p y, v = .ref p ∧ H p = none ∧ Same H H' ∧ H' p = some (.tup [.int (i : Nat), y]) ∧ ∀ xs, SqL K H a xs → xs[i]? = some y, fun i H => ∃ xs, SqL K H a xs ∧ xs.length ≤ i⟩
theorem turn_enum {P : Program} {w : World} {K : PySem.W.Frag} {elts : List Expr} {x1 : Nat} {pos : Pos} (a e it : Addr) (hne : e ≠ it) :
    Turn P w K (.Tuple elts x1 pos) (Ite K a) [e, it] e (fun i h => (∃ old, IsEnum h e it (i : Nat) old) ∧ h.IsListIter it a i) where
  mem := by simp
  obj := fun i h st b hb => by
    obtain ⟨⟨old, he⟩, o, e2, c, d⟩ := st
    rcases (by simpa using hb : b = e ∨ b = it) with rfl | rfl
    · exact ⟨_, he, fun v z => by cases z⟩
    · exact ⟨o, e2, fun v z => by rw [d] at z; cases z⟩
  keep := fun i h h' st k => ⟨let ⟨old, he⟩ := st.1; ⟨old, k e (by simp) _ he⟩, st.2.at fun o x => k it (by simp) o x⟩
  item := by
    intro X hP hw hK hc i pins s σ H E I hf st hg
    subst hP hw hK
    obtain ⟨xs, x, hq, hx⟩ := hg
    obtain ⟨its, rv, p, hz⟩ := I.list hq
    obtain ⟨u, hu, ru⟩ := rv.get hx
    obtain ⟨⟨old, he⟩, hit⟩ := st
    have helt : e < s.heap.objs.size := Heap.lt_size he
    have hilt : it < s.heap.objs.size := by obtain ⟨_, q, _⟩ := hit; exact Heap.lt_size q
    refine wpAny_pyNext_enum_item he hit p.isList (x := u) (by simpa using hu) hne fun h' ho hit' hT hsz hk => ?_
    have fr : H s.heap.objs.size = none := I.hok.fresh (Nat.le_refl _)
    have I1 : Inv X pins σ H { s with heap := h', toks := s.toks + 1 } := I.turnedL (ch := [e, it]) (fun b o hb q => hk b o (fun z => hb (by simp [z])) (fun z => hb (by simp [z])) q) hf
    have I2 : Inv X pins σ (upd H s.heap.objs.size (.tup [.int (i : Nat), x])) { s with heap := h', toks := s.toks + 1 } := I1.adopt (o := .tup [.int (i : Nat), x]) fr I.sz (Nat.ne_of_gt I.lt) (fun y c ec z => by
        obtain ⟨v, q⟩ := I.cell y c ec
        exact absurd q.lt (by rw [z]; exact Nat.lt_irrefl _)) (fun q hq z => absurd (Heap.lt_size (I.pin q hq).1) (by rw [z]; exact Nat.lt_irrefl _))
      ⟨le_line (by simp), [.int (i : Nat) s.toks, u], .cons ⟨_, rfl⟩ (.cons ru .nil), ⟨_, hT, rfl, _, rfl⟩⟩
    have ne : ∀ b ∈ [e, it], b ≠ s.heap.objs.size := fun b hb => by
      rcases (by simpa using hb : b = e ∨ b = it) with rfl | rfl
      · exact Nat.ne_of_lt helt
      · exact Nat.ne_of_lt hilt
    have hf2 : ∀ b ∈ [e, it], FpOk X pins (upd H s.heap.objs.size (.tup [.int (i : Nat), x])) b := fun b hb => ⟨by rw [upd_ne (ne b hb)]; exact (hf b hb).1, (hf b hb).2⟩
    refine ⟨_, rfl, wpAny_letOwnedTupleGo_enum ho fun h2 he2 hs2 => ⟨.ref s.heap.objs.size, _, I2.turnedL (t' := s.toks + 1) (ch := [e]) (fun b o hb q => (hs2.2 b (fun z => hb (by simp [z]))).trans q) (fun b hb => hf2 b (by simp at hb; simp [hb])), rfl, ⟨s.heap.objs.size, x, rfl, fr, Same.new fr, upd_same, fun ys hy => by rw [I.list_inj hy hq]; exact hx⟩, ⟨⟨_, by simpa using he2⟩, hit'.at fun o q => (hs2.2 it (Ne.symm hne)).trans q⟩, fun b hb => (hf2 b hb).1⟩⟩
  done := by
    intro X hP hw hK hc i pins s σ H E I hf st hg
    subst hP hw hK
    obtain ⟨xs, hq, hx⟩ := hg
    obtain ⟨its, rv, p, hz⟩ := I.list hq
    obtain ⟨⟨old, he⟩, hit⟩ := st
    have hl := rv.length
    exact wpAny_pyNext_enum_end (I.ok.hd hc) he hit p.isList (by simp; omega) fun h' eb => ⟨rfl, I.turnedL (t' := s.toks) (ch := [it]) (fun b o hb q => eb b o (fun z => hb (by simp [z])) q) (fun b hb => hf b (by simp at hb; simp [hb]))⟩
  self := fun A i s Q E st h => let ⟨old, he⟩ := st.1; wpAny_pyIter_enum he h
section
variable {X : Cx} {elts : List Expr} {x1 : Nat} {tpos : Pos}
def iEnum (K : PySem.W.Frag) (ta : TA) : TI := fun σ H R => ta σ H fun vs H1 => ∃ a, vs = [.ref a] ∧ (∃ xs, SqL K H1 a xs) ∧ R (Ite K a) H1
theorem pi_enum (K : PySem.W.Frag) {a : Expr} {ta : TA} {p pos : Pos} (hg : Gl X "enumerate") (hm : X.mg "enumerate" = none) (ha : PA X [a] ta) (hs : starEach [a] X.env = [(false, eval a X.env)] := by rfl) (hK : X.K = K := by rfl) : PI X (.Tuple elts x1 tpos) (.Call (.Name "enumerate" p) [a] [] pos) (iEnum K ta) := by
  subst hK
  intro pins s σ H R I h
  refine Call_ (ld_blt I hg hm boot_enumerate (PyProof.Rows.callWith_type1 (thn (ha pos pins s σ H _ I h) fun us s1 ⟨vs, H1, I1, r1, q1⟩ => ?_) hs rfl))
  obtain ⟨l, e, ⟨xs, hq⟩, q⟩ := q1
  subst e
  obtain ⟨u, rfl, ru⟩ := vals1 r1
  cases ru
  obtain ⟨its, rv, pl, hz⟩ := I1.list hq
  refine call_enumerate_list pl.isList fun h' he hit hsz hk => ?_
  refine wpAny_pyIter_enum he ?_
  refine ⟨s1.heap.objs.size + 1, [s1.heap.objs.size + 1, s1.heap.objs.size], _, _, H1, rfl, I1.kept (t' := s1.toks) hk, turn_enum l _ _ (Nat.succ_ne_self _), ⟨⟨_, he⟩, hit⟩, fun b hb => ?_, q⟩
  have hb' : s1.heap.objs.size ≤ b := by
    rcases (by simpa using hb : b = s1.heap.objs.size + 1 ∨ b = s1.heap.objs.size) with rfl | rfl <;> omega
  exact I1.fpOk hb' (I1.hok.fresh hb')
theorem i_enum {K : PySem.W.Frag} {σ : St} {H : Hp} {R : It → Hp → Prop} {ts : TA} (h : ts σ H fun vs H1 => ∃ a, vs = [.ref a] ∧ (∃ xs, SqL K H1 a xs) ∧ R (Ite K a) H1) : iEnum K ts σ H R := h
theorem i_lref {a : Addr} {p : Addr → Prop} (h : p a) : ∃ b, [V.ref a] = [V.ref b] ∧ p b := ⟨a, rfl, h⟩
theorem cc_enum {K : PySem.W.Frag} {a : Addr} {xs : List V} {te : TE} {tt : TT} {caps : List Nat} {σ : St} {H : Hp} {Q : VK} (hz : xs.length ≤ sizeLine) (Pv : Nat → List V → Hp → Prop) (h0 : Pv 0 [] H) (hl : ∀ i acc H, Pv i acc H → acc.length ≤ i ∧ SqL K H a xs)
    (hs : ∀ i x acc H H2, xs[i]? = some x → Pv i acc H → Same H H2 → tt (some (.int (i : Nat)) :: some x :: capV caps σ) H2 fun b H4 => if b = true then te (some (.int (i : Nat)) :: some x :: capV caps σ) H4 fun y H5 => Pv (i + 1) (acc ++ [y]) H5 else Pv (i + 1) acc H4)
    (hd : ∀ acc H, Pv xs.length acc H → New H (.lst acc) Q) : CompEnd (Ite K a) (gTup K 2 (gCons (gName 0) (gCons (gName 1) gNil))) tt te 2 caps σ H Q := by
  refine ⟨fun i m acc σ' H => m = xs.length - i ∧ i ≤ xs.length ∧ (∃ u v, σ' = u :: v :: capV caps σ) ∧ Pv i acc H, ⟨xs.length, by simp, Nat.zero_le _, ⟨none, none, rfl⟩, h0⟩, ?_⟩
  rintro i m acc σ' H' ⟨rfl, hi, ⟨u0, v0, rfl⟩, p⟩
  obtain ⟨hl1, hq⟩ := hl i acc H' p
  by_cases hlt : i < xs.length
  · refine .inr ⟨⟨xs, xs[i], hq, by simp [hlt]⟩, by omega, fun ac σ2 H2 => (∃ u v, σ2 = u :: v :: capV caps σ) ∧ Pv (i + 1) ac H2, fun ac σ2 H2 ⟨e, p'⟩ => ⟨xs.length - (i + 1), by omega, rfl, hlt, e, p'⟩, fun x H2 y => ?_⟩
    obtain ⟨q, z, rfl, hn, sm, hT, hy⟩ := y
    have hst := hs i z acc H' H2 (hy xs hq) p sm
    have eN : ∀ ac H5, ((∃ u1 v1, some (V.int (i : Nat)) :: some z :: capV caps σ = u1 :: v1 :: capV caps σ) ∧ Pv (i + 1) ac H5) = Pv (i + 1) ac H5 := fun ac H5 => propext ⟨And.right, fun p => ⟨⟨_, _, rfl⟩, p⟩⟩
    refine ⟨q, [.int (i : Nat), z], rfl, SqT.of hT, rfl, .int (i : Nat), [z], rfl, z, [], rfl, rfl, ?_⟩
    show tt (some (.int (i : Nat)) :: some z :: capV caps σ) _ fun b H4 => if b = true then te (some (.int (i : Nat)) :: some z :: capV caps σ) H4 fun y H5 => ((∃ u1 v1, some (V.int (i : Nat)) :: some z :: capV caps σ = u1 :: v1 :: capV caps σ) ∧ Pv (i + 1) (acc ++ [y]) H5) else ((∃ u1 v1, some (V.int (i : Nat)) :: some z :: capV caps σ = u1 :: v1 :: capV caps σ) ∧ Pv (i + 1) acc H4)
    simp only [eN]
    exact hst
  · have e : i = xs.length := by omega
    subst e
    exact .inl ⟨⟨xs, hq, Nat.le_refl _⟩, New.to (hd acc H' p)⟩
end
inductive PrK (H : Hp) : List V → List (Key × V) → Prop
  | nil : PrK H [] []
  | cons {p : Addr} {k : Key} {v : V} {vs : List V} {kvs : List (Key × V)} : H p = some (.tup [kV k, v]) → PrK H vs kvs → PrK H (.ref p :: vs) ((k, v) :: kvs)
theorem PrK.mono {H H' : Hp} (t : Tups H H') {vs : List V} {kvs : List (Key × V)} (h : PrK H vs kvs) : PrK H' vs kvs := by
  induction h with
  | nil => exact .nil
  | cons e _ ih => exact .cons (t _ _ e) ih
theorem PrK.snoc {H : Hp} {vs : List V} {kvs : List (Key × V)} {p : Addr} {k : Key} {v : V} (h : PrK H vs kvs) (e : H p = some (.tup [kV k, v])) : PrK H (vs ++ [.ref p]) (kvs ++ [(k, v)]) := by
  induction h with
  | nil => exact .cons e .nil
  | cons e' _ ih => exact .cons e' ih
def rDictP (K : PySem.W.Frag) : List V → Hp → VK → Prop := fun xs H Q => ∃ l vs kvs, xs = [.ref l] ∧ SqL K H l vs ∧ PrK H vs kvs ∧ New H (.dK (mergeK [] kvs)) Q
section
variable {X : Cx}
theorem PrK.at_ {pins : List (Addr × Obj)} {σ : St} {H : Hp} {s : Shared} (I : Inv X pins σ H s) : ∀ {vs : List V} {kvs : List (Key × V)} {us : List Value}, PrK H vs kvs → Vals vs us →
    ∃ ps : List (Key × Value), KV kvs ps ∧ ps.length = us.length ∧ ∀ (j : Nat) (x : Value), us[j]? = some x → ∃ T k key v, x = .ref T ∧ T ∉ ([] : List Addr) ∧ s.heap.IsTuple T #[key, v] ∧ (mixKind X.prog X.w).is k key = true ∧ ps[j]? = some (k, v)
  | _, _, _, .nil, r => by
    cases r
    exact ⟨[], .nil, rfl, fun j x e => by simp at e⟩
  | _, _, _, .cons (p := p) (k := k) (v := v) e h, r => by
    cases r with
    | cons r1 r2 =>
      cases r1
      obtain ⟨ps, h1, h2, h3⟩ := PrK.at_ I h r2
      obtain ⟨its, q1, q2, _⟩ := I.tuple (SqT.of e)
      obtain ⟨u1, u2, rfl, ra, rb⟩ := vals2 q1
      refine ⟨(k, u2) :: ps, .cons ⟨rfl, rb⟩ h1, by simp [h2], fun j x ej => ?_⟩
      cases j with
      | zero =>
        simp at ej
        subst ej
        exact ⟨p, k, u1, u2, rfl, by simp, q2, kV_is ra, rfl⟩
      | succ j => exact h3 j x (by simpa using ej)
theorem kcl_dict (K : PySem.W.Frag) (hh : X.calm = true := by rfl) (hK : X.K = K := by rfl) : CallR X (.type "dict") (rDictP K) := by
  subst hK
  intro pins s σ H xs us Q I r h
  obtain ⟨l, vs, kvs, rfl, hq, hp, q⟩ := h
  obtain ⟨u, rfl, ru⟩ := vals1 r
  cases ru
  obtain ⟨its, rv, ⟨o, n, e1, e2, e3, e4⟩, hz⟩ := I.list hq
  obtain ⟨ps, k1, k2, k3⟩ := PrK.at_ I hp rv
  have hl := rv.length
  refine call_dict_pairs (knd := mixKind X.prog X.w) e1 e2 e3 e4 (I.ok.hd hh) ⟨by simpa using k2, fun j x e => k3 j x (by simpa using e)⟩ (by simpa using hl ▸ hz) fun h' tk hd kk => ?_
  have hz2 : (mergeK [] kvs).length ≤ sizeLine := by
    have h1 := length_mergeK kvs []
    have h2 : kvs.length = ps.length := k1.length
    simp only [List.length_nil] at h1
    omega
  refine ⟨.ref s.heap.objs.size, upd H s.heap.objs.size (.dK (mergeK [] kvs)), I.laid (t' := tk) kk (Nat.le_refl _) (dk_new hz2 (beq_eq_false_iff_ne.mpr (Ne.symm (Nat.ne_of_lt I.big))) (k1.merge .nil) hd), rfl, New.to q _ (I.hok.fresh (Nat.le_refl _))⟩
theorem i_dictP {K : PySem.W.Frag} {H : Hp} {Q : VK} {l : Addr} {vs : List V} {kvs : List (Key × V)} (h1 : SqL K H l vs) (h2 : PrK H vs kvs) (h : New H (.dK (mergeK [] kvs)) Q) : rDictP K [.ref l] H Q := ⟨l, vs, kvs, rfl, h1, h2, h⟩
def rMin2 : List V → Hp → VK → Prop := fun xs H Q => ∃ a b : Int, xs = [.int a, .int b] ∧ Q (.int (min a b)) H
theorem kcall_min2 (hh : X.calm = true := by rfl) : CallR X (.builtin "min") rMin2 := by
  intro pins s σ H xs us Q I r h
  obtain ⟨a, b, rfl, q⟩ := h
  obtain ⟨u, v, rfl, ⟨t1, rfl⟩, ⟨t2, rfl⟩⟩ := vals2 r
  refine min_two_ints (I.ok.hd hh) fun h' tk hk => ?_
  have I1 : Inv X pins σ H { s with heap := h', toks := tk } := I.kept hk
  by_cases c : b < a
  · rw [if_pos c]
    exact ⟨.int b, H, I1, ⟨_, rfl⟩, by rw [show min a b = b by omega] at q; exact q⟩
  · rw [if_neg c]
    exact ⟨.int a, H, I1, ⟨_, rfl⟩, by rw [show min a b = a by omega] at q; exact q⟩
theorem i_min2 {H : Hp} {Q : VK} {a b : Int} (h : Q (.int (min a b)) H) : rMin2 [.int a, .int b] H Q := ⟨a, b, rfl, h⟩
def rNotN : R2 := fun x y H Q => y = .non ∧ Q (.bl (!decide (x = .non))) H
theorem kop_notN : OpR X (compareOp .IsNot) rNotN := op_notN
theorem i_notN {x : V} {H : Hp} {Q : VK} (h : Q (.bl (!decide (x = .non))) H) : rNotN x .non H Q := ⟨rfl, h⟩
theorem i_isiT {K : PySem.W.Frag} {H : Hp} {Q : VK} {a : Addr} {xs : List V} (e : H a = some (.tup xs)) (h : Q (.bl true) H) : rIsi K [V.ref a, V.ty "tuple"] H Q := ⟨_, _, _, true, rfl, .tup e, rfl, h⟩
theorem i_gsub {to ti : TE} {t : TSet} {v : V} {σ : St} {H : Hp} {Q : St → Hp → Prop} (h : to σ H fun o H1 => ti σ H1 fun i H2 => t o i v H2 fun H3 => Q σ H3) : gSub to ti t v σ H Q := h
theorem i_setL {H : Hp} {Q : Hp → Prop} {p : Addr} {xs : List V} {k : Int} {j : Nat} {v : V} (h1 : H p = some (.lst xs)) (h2 : ixN xs.length k = some j) (h : Q (upd H p (.lst (xs.set j v)))) : rSetL (.ref p) (.int k) v H Q := ⟨p, xs, k, j, rfl, rfl, h1, h2, h⟩
def tSeqC (t u : TS) : TS := fun D σ H => ∃ R : St → Hp → Prop, t { D with nx := R } σ H ∧ ∀ σ' H', R σ' H' → u D σ' H'
theorem pss_consC {st : Stmt} {rest : List Stmt} {t u : TS} (h1 : PS X st t) (h2 : PSs X rest u) : PSs X (st :: rest) (tSeqC t u) := by
  intro pins s σ H D I h
  obtain ⟨R, ha, hb⟩ := h
  refine wpAny_execs_cons (thn (h1 pins s σ H _ I ha) fun f s1 q => ?_)
  cases f with
  | next => obtain ⟨σ1, H1, I1, q1⟩ := q; exact h2 pins s1 σ1 H1 D I1 (hb σ1 H1 q1)
  | brk => exact q
  | cont => exact q
  | ret v => exact q
theorem i_seqC {t u : TS} {nn bb cc : St → Hp → Prop} {rr : VK} {σ : St} {H : Hp} (R : St → Hp → Prop) (h1 : t ⟨R, rr, bb, cc⟩ σ H) (h2 : ∀ σ' H', R σ' H' → u ⟨nn, rr, bb, cc⟩ σ' H') : tSeqC t u ⟨nn, rr, bb, cc⟩ σ H := ⟨R, h1, h2⟩
theorem i_while {c : TT} {tb : TS} {nn bb cc : St → Hp → Prop} {rr : VK} {σ : St} {H : Hp} (W : Nat → St → Hp → Prop) (m : Nat) (h0 : W m σ H)
    (hs : ∀ m σ H, W m σ H → c σ H fun b H1 => if b = true then ∃ N : St → Hp → Prop, (∀ σ' H', N σ' H' → ∃ m', m' < m ∧ W m' σ' H') ∧ tb ⟨N, rr, nn, N⟩ σ H1 else nn σ H1) : tWhile c tb ⟨nn, rr, bb, cc⟩ σ H := ⟨W, ⟨m, h0⟩, hs⟩
end
end L2
namespace L2
open PySem
section
variable {H : Hp} {x : Tr} {xs : List Tr} {v : V} {vs ws : List V}
theorem ats_nil0 : Tr.Ats H [] vs [] ↔ vs = [] := by simp [Tr.Ats]
theorem ats_cons0 : Tr.Ats H (x :: xs) vs [] ↔ ∃ v ws, vs = v :: ws ∧ x.At H v [] ∧ Tr.Ats H xs ws [] := by
  simp only [Tr.Ats]
  constructor
  · rintro ⟨v, ws, f, g, h1, h2, h3, h4⟩
    obtain ⟨rfl, rfl⟩ := List.append_eq_nil_iff.mp h2.symm
    exact ⟨v, ws, h1, h3, h4⟩
  · rintro ⟨v, ws, h1, h3, h4⟩
    exact ⟨v, ws, [], [], h1, rfl, h3, h4⟩
theorem at_tup0 : (Tr.tup xs).At H v [] ↔ ∃ a vs, v = .ref a ∧ H a = some (.tup vs) ∧ Tr.Ats H xs vs [] := by simp only [Tr.At]
theorem at_int0 {i : Int} : (Tr.int i).At H v [] ↔ v = .int i := by simp [Tr.At]
end
section
variable {H : Hp} {v : V} {a : Addr}
theorem int_at {i : Int} : (Tr.int i).At H (.int i) [] := at_int0.mpr rfl
end
def natsV (l : List Nat) : List V := l.map fun k => V.int (k : Nat)
theorem natsV_len (l : List Nat) : (natsV l).length = l.length := by simp [natsV]
theorem atI_nats {l : List Nat} {k : Nat} (h : k < l.length) : atI (natsV l) (k : Nat) = some (.int (l.getD k 0 : Nat)) := atI_nat (by simp [natsV, h])
theorem natsV_snoc (l : List Nat) (k : Nat) : natsV l ++ [V.int (k : Nat)] = natsV (l ++ [k]) := by simp [natsV]
def natsT (l : List Nat) : List Tr := l.map fun k => Tr.int (k : Nat)
theorem ats_nats {H : Hp} : ∀ l : List Nat, Tr.Ats H (natsT l) (natsV l) []
  | [] => by simp [natsT, natsV, Tr.Ats]
  | k :: l => ats_cons0.mpr ⟨_, _, rfl, int_at, ats_nats l⟩
theorem hs_nats : ∀ l : List Nat, Tr.hs (natsT l) = 0
  | [] => by simp [natsT, Tr.hs]
  | k :: l => by
    have := hs_nats l
    simp only [natsT, List.map_cons, Tr.hs, Tr.h] at this ⊢
    omega
def wayV : Option Nat → V
  | none => .non
  | some k => .int (k : Nat)
def waysV (ws : List (Option Nat)) : List V := ws.map wayV
end L2
namespace L2
open PySem PySem.Spec PyProof.Rows
def tDNewN : TE := fun _ H Q => New H (.dK []) Q
theorem pe_dnewN {X : Cx} {pos : Pos} : PE X (.Dict [] [] pos) tDNewN := fun pins s σ H Q I h => pe_dnewK pins s σ H Q I (New.to h)
section
variable {σ : St} {H : Hp} {Q : VK} {QT : Bool → Hp → Prop} {td ty tv te : TE} {nn bb cc : St → Hp → Prop} {rr : VK}
theorem i_dnew (h : New H (.dK []) Q) : tDNewN σ H Q := h
theorem i_tB (h : te σ H fun x H1 => ∃ c, x = .bl c ∧ QT c H1) : tB te σ H QT := h
theorem i_din (h : ty σ H fun y H1 => td σ H1 fun x H2 => ∃ a o, x = .ref a ∧ DGet H2 a y o ∧ Q (.bl o.isSome) H2) : tDIn ty td σ H Q := h
theorem i_dnotin (h : ty σ H fun y H1 => td σ H1 fun x H2 => ∃ a o, x = .ref a ∧ DGet H2 a y o ∧ Q (.bl (!o.isSome)) H2) : tDNotIn ty td σ H Q := h
theorem i_dput (h : tv σ H fun v H1 => td σ H1 fun x H2 => ty σ H2 fun y H3 => ∃ a H4, x = .ref a ∧ DPut H3 a y v H4 ∧ nn σ H4) : sDPut td ty tv ⟨nn, rr, bb, cc⟩ σ H := h
theorem tups_updD {d : Addr} {kvs : List (Key × V)} {o : HO} (h : H d = some (.dK kvs)) : Tups H (upd H d o) := fun b ys e => by rw [upd_ne (ne_of e h (fun z => nomatch z))]; exact e
end
end L2
namespace L2
def addAll (row : List Nat) (ks : List Nat) : List Nat := ks.foldl (fun r k => if k ∈ r then r else r ++ [k]) row
theorem addAll_snoc (row ks : List Nat) (k : Nat) : addAll row (ks ++ [k]) = if k ∈ addAll row ks then addAll row ks else addAll row ks ++ [k] := by
  unfold addAll
  rw [List.foldl_append]
  rfl
theorem addAll_ok {n : Nat} {row : List Nat} (hn : row.Nodup) (hl : ∀ k ∈ row, k < n) : ∀ (ks : List Nat), (∀ k ∈ ks, k < n) → (∃ t, addAll row ks = row ++ t) ∧ (addAll row ks).Nodup ∧ (∀ k ∈ addAll row ks, k < n) ∧ ∀ k ∈ ks, k ∈ addAll row ks := by
  have gen : ∀ (m : Nat) (ks : List Nat), ks.length = m → (∀ k ∈ ks, k < n) → (∃ t, addAll row ks = row ++ t) ∧ (addAll row ks).Nodup ∧ (∀ k ∈ addAll row ks, k < n) ∧ ∀ k ∈ ks, k ∈ addAll row ks := by
    intro m
    induction m with
    | zero =>
      intro ks hk _
      rw [List.length_eq_zero_iff] at hk
      subst hk
      exact ⟨⟨[], by simp [addAll]⟩, hn, hl, by simp⟩
    | succ m ih =>
      intro ks hk hlt
      obtain ⟨ls, k, rfl⟩ : ∃ l k, ks = l ++ [k] := ⟨ks.dropLast, ks.getLast (by intro z; rw [z] at hk; simp at hk), (List.dropLast_concat_getLast _).symm⟩
      obtain ⟨⟨t, h1⟩, h2, h3, h4⟩ := ih ls (by simpa using hk) (fun x hx => hlt x (by simp [hx]))
      rw [addAll_snoc]
      by_cases hk : k ∈ addAll row ls
      · rw [if_pos hk]
        refine ⟨⟨t, h1⟩, h2, h3, fun x hx => ?_⟩
        rcases List.mem_append.mp hx with hx | hx
        · exact h4 x hx
        · rw [List.mem_singleton.mp hx]; exact hk
      · rw [if_neg hk]
        refine ⟨⟨t ++ [k], by rw [h1, List.append_assoc]⟩, ?_, ?_, ?_⟩
        · rw [List.nodup_append]
          refine ⟨h2, by simp, fun a ha b hb => ?_⟩
          rw [List.mem_singleton.mp hb]
          exact fun z => hk (z ▸ ha)
        · intro x hx
          rcases List.mem_append.mp hx with hx | hx
          · exact h3 x hx
          · rw [List.mem_singleton.mp hx]; exact hlt k (by simp)
        · intro x hx
          rcases List.mem_append.mp hx with hx | hx
          · exact List.mem_append_left _ (h4 x hx)
          · rw [List.mem_singleton.mp hx]; simp
  exact fun ks => gen ks.length ks rfl
theorem pigeon : ∀ (n : Nat) (l : List Nat), l.Nodup → (∀ k ∈ l, k < n) → l.length ≤ n
  | 0, l, _, h => by
    cases l with
    | nil => simp
    | cons a l => exact absurd (h a (by simp)) (Nat.not_lt_zero _)
  | n + 1, l, hn, h => by
    by_cases hm : n ∈ l
    · have h1 := List.length_erase_of_mem hm
      have h2 := pigeon n (l.erase n) (hn.erase n) (fun k hk => by
        have h3 := hn.mem_erase_iff.mp hk
        have := h k h3.2
        have := h3.1
        omega)
      have : 0 < l.length := List.length_pos_of_mem hm
      omega
    · have := pigeon n l hn (fun k hk => by
        have h1 := h k hk
        have : k ≠ n := fun z => hm (z ▸ hk)
        omega)
      omega
def bfs (nx : Nat → List Nat) : Nat → Nat → List Nat → List Nat
  | 0, _, row => row
  | fuel + 1, p, row => match row[p]? with
    | none => row
    | some k => bfs nx fuel (p + 1) (addAll row (nx k))
structure Bf (nx : Nat → List Nat) (n p : Nat) (row : List Nat) : Prop where
  nd : row.Nodup
  lt : ∀ k ∈ row, k < n
  le : p ≤ row.length
  cl : ∀ (i k : Nat), i < p → row[i]? = some k → ∀ j ∈ nx k, j ∈ row
theorem Bf.step {nx : Nat → List Nat} {n p k : Nat} {row : List Nat} (h : Bf nx n p row) (e : row[p]? = some k) (hx : ∀ j ∈ nx k, j < n) : Bf nx n (p + 1) (addAll row (nx k)) := by
  obtain ⟨⟨t, h1⟩, h2, h3, h4⟩ := addAll_ok h.nd h.lt (nx k) hx
  have hp := (List.getElem?_eq_some_iff.mp e).1
  refine ⟨h2, h3, by rw [h1, List.length_append]; omega, fun i k' hi ek j hj => ?_⟩
  have hi' : i < row.length := by omega
  rw [h1, List.getElem?_append_left hi'] at ek
  by_cases hip : i < p
  · rw [h1]; exact List.mem_append_left _ (h.cl i k' hip ek j hj)
  · have : i = p := by omega
    subst this
    rw [e] at ek
    cases ek
    exact h4 j hj
theorem Bf.few {nx : Nat → List Nat} {n p : Nat} {row : List Nat} (h : Bf nx n p row) : row.length ≤ n := pigeon n row h.nd h.lt
theorem Bf.end_ {nx : Nat → List Nat} {n : Nat} (hx : ∀ k, k < n → ∀ j ∈ nx k, j < n) : ∀ (fuel p : Nat) (row : List Nat), Bf nx n p row → n + 1 ≤ fuel + p → Bf nx n (bfs nx fuel p row).length (bfs nx fuel p row)
  | 0, p, row, h, hf => absurd (Nat.le_trans h.le h.few) (by omega)
  | fuel + 1, p, row, h, hf => by
    unfold bfs
    cases e : row[p]? with
    | none =>
      have : p = row.length := by
        have := List.getElem?_eq_none_iff.mp e
        have := h.le
        omega
      rw [this] at h
      exact h
    | some k => exact Bf.end_ hx fuel (p + 1) _ (h.step e (hx k (h.lt k (List.mem_of_getElem? e)))) (by omega)
theorem bfs_go {nx : Nat → List Nat} {fuel p k : Nat} {row : List Nat} (e : row[p]? = some k) : bfs nx (fuel + 1) p row = bfs nx fuel (p + 1) (addAll row (nx k)) := by
  conv => lhs; unfold bfs
  rw [e]
theorem bfs_stop {nx : Nat → List Nat} {fuel p : Nat} {row : List Nat} (e : row.length ≤ p) : bfs nx fuel p row = row := by
  cases fuel with
  | zero => rfl
  | succ fuel =>
    unfold bfs
    rw [List.getElem?_eq_none e]
theorem idx_get {row : List Nat} {k : Nat} (h : k ∈ row) : row[row.idxOf k]? = some k := by
  have h1 := List.idxOf_lt_length_of_mem h
  rw [List.getElem?_eq_getElem h1]
  simp
theorem idx_of {row : List Nat} (hn : row.Nodup) {i k : Nat} (e : row[i]? = some k) : row.idxOf k = i := by
  have hm : k ∈ row := List.mem_of_getElem? e
  have h1 := idx_get hm
  obtain ⟨a1, b1⟩ := List.getElem?_eq_some_iff.mp e
  obtain ⟨a2, b2⟩ := List.getElem?_eq_some_iff.mp h1
  have := List.nodup_iff_pairwise_ne.mp hn
  rw [List.pairwise_iff_getElem] at this
  rcases Nat.lt_trichotomy (row.idxOf k) i with h | h | h
  · exact absurd (b2.trans b1.symm) (this _ _ a2 a1 h)
  · exact h
  · exact absurd (b1.trans b2.symm) (this _ _ a1 a2 h)
end L2
namespace L2
open PySem PySem.Spec PyProof.Rows
section
variable {X : Cx} {σ : St} {H : Hp} {Q : VK} {QT : Bool → Hp → Prop} {td ty tv te : TE} {nn bb cc : St → Hp → Prop} {rr : VK}
theorem i_disp1 {i : Nat} {k : Key} {y : V} (e : σ[i]? = some (some (kV k))) (h : New H (.dK [(k, y)]) Q) : tDisp [(tVar i, tC y)] σ H Q := fun p hp => ⟨kV k, e, upd_same, [(k, y)], rfl, by simp, by rw [upd_upd]; exact New.to h p hp⟩
theorem i_aug1 {i : Nat} {a c : Int} {f : Int → Int → Int} (e : σ[i]? = some (some (.int a))) (h : nn (σ.set i (some (.int (f a c)))) H) : tAug i (tC (.int c)) (ipI f) ⟨nn, rr, bb, cc⟩ σ H := ⟨_, e, a, c, rfl, rfl, h⟩
def SetI (H : Hp) (d : Addr) (row : List Nat) : Prop := ∃ kvs, H d = some (.dK kvs) ∧ kvs.length ≤ row.length ∧ ∀ k : Nat, (valV kvs (Sum.inl (k : Int))).isSome = decide (k ∈ row)
theorem i_setNotInI {d : Addr} {row : List Nat} {k : Nat} {p : Bool → Prop} (h1 : SetI H d row) (h : p (!decide (k ∈ row))) : ∃ a o, V.ref d = .ref a ∧ DGet H a (.int (k : Nat)) o ∧ ∃ c, V.bl (!o.isSome) = .bl c ∧ p c := by
  obtain ⟨kvs, h2, _, h3⟩ := h1
  exact ⟨d, _, rfl, .inl ⟨kvs, Sum.inl (k : Int), .inl h2, rfl, rfl⟩, _, rfl, by rw [h3]; exact h⟩
theorem SetI.put {d : Addr} {row : List Nat} {k : Nat} {v : V} (h : SetI H d row) (hz : row.length < 1000000) : ∃ H4, DPut H d (.int (k : Nat)) v H4 ∧ SetI H4 d (row ++ [k]) ∧ ∃ o, H4 = upd H d (.dK o) := by
  obtain ⟨kvs, h2, h3, h4⟩ := h
  refine ⟨_, .inl ⟨kvs, Sum.inl (k : Int), h2, rfl, Nat.lt_of_lt_of_le (show kvs.length < 1000000 by omega) (le_line (Nat.le_refl _)), rfl⟩, ⟨putK kvs (Sum.inl (k : Int)) v, upd_same, ?_, fun s => ?_⟩, _, rfl⟩
  · have := length_putK kvs (Sum.inl (k : Int)) v
    simp only [List.length_append, List.length_cons, List.length_nil]
    omega
  · rw [valV_put]
    by_cases e : s = k
    · subst e
      rw [if_pos rfl]
      simp
    · rw [if_neg (fun z => e (by have := Sum.inl.inj z; omega)), h4]
      simp [e]
theorem setI_one {d : Addr} {k : Nat} {v : V} (h : H d = some (.dK [(Sum.inl (k : Int), v)])) : SetI H d [k] := ⟨_, h, Nat.le_refl _, fun s => by
  by_cases e : s = k
  · subst e
    rw [valV_pos rfl]
    simp
  · rw [valV_neg (fun z => e (by have := Sum.inl.inj z; omega)), valV_nil]
    simp [e]⟩
end
end L2
namespace L2
open PySem PySem.Spec PyProof.Rows
def Itz (K : PySem.W.Frag) (a b : Addr) : It :=
  ⟨fun i H => ∃ xs ys x y, SqL K H a xs ∧ SqL K H b ys ∧ xs[i]? = some x ∧ ys[i]? = some y, fun i H v H' => ∃ p x y, v = .ref p ∧ H p = none ∧ Same H H' ∧ H' p = some (.tup [x, y]) ∧ (∀ xs, SqL K H a xs → xs[i]? = some x) ∧ ∀ ys, SqL K H b ys → ys[i]? = some y, fun i H => ∃ xs ys, SqL K H a xs ∧ SqL K H b ys ∧ (xs.length ≤ i ∨ ys.length ≤ i)⟩
theorem turn_zip {P : Program} {w : World} {K : PySem.W.Frag} {elts : List Expr} {x1 : Nat} {pos : Pos} (a b z TI TO i1 i2 : Addr) (D : ZipApart z TI TO i1 i2 a b) :
    Turn P w K (.Tuple elts x1 pos) (Itz K a b) [z, TI, TO, i1, i2] z (fun i h => IsZip h z TI TO .none ∧ IsPair h TI (.ref i1) (.ref i2) ∧ (∃ a b, IsPair h TO a b) ∧ h.IsListIter i1 a i ∧ h.IsListIter i2 b i) where
  mem := by simp
  obj := fun i h st c hc => by
    obtain ⟨hz, hTI, ⟨a, b, hTO⟩, ⟨o1, h1, _, d1⟩, o2, h2, _, d2⟩ := st
    rcases (by simpa using hc : c = z ∨ c = TI ∨ c = TO ∨ c = i1 ∨ c = i2) with rfl | rfl | rfl | rfl | rfl
    · exact ⟨_, hz, fun v q => by cases q⟩
    · exact ⟨_, hTI, fun v q => by cases q⟩
    · exact ⟨_, hTO, fun v q => by cases q⟩
    · exact ⟨_, h1, fun v q => by rw [d1] at q; cases q⟩
    · exact ⟨_, h2, fun v q => by rw [d2] at q; cases q⟩
  keep := fun i h h' st k => by
    obtain ⟨hz, hTI, ⟨a, b, hTO⟩, h1, h2⟩ := st
    exact ⟨k z (by simp) _ hz, k TI (by simp) _ hTI, ⟨a, b, k TO (by simp) _ hTO⟩, h1.at fun o x => k i1 (by simp) o x, h2.at fun o x => k i2 (by simp) o x⟩
  item := by
    intro X hP hw hK hc i pins s σ H E I hf st hg
    subst hP hw hK
    obtain ⟨xs, ys, x, y, hqa, hqb, hx, hy⟩ := hg
    obtain ⟨it1, rv1, p1, hz1⟩ := I.list hqa
    obtain ⟨it2, rv2, p2, hz2⟩ := I.list hqb
    obtain ⟨u1, hu1, ru1⟩ := rv1.get hx
    obtain ⟨u2, hu2, ru2⟩ := rv2.get hy
    obtain ⟨hz, hTI, ⟨a', b', hTO⟩, h1, h2⟩ := st
    have fr : H s.heap.objs.size = none := I.hok.fresh (Nat.le_refl _)
    have lt : ∀ c ∈ [z, TI, TO, i1, i2], c < s.heap.objs.size := fun c hc => by
      obtain ⟨o1, e1, _⟩ := h1
      obtain ⟨o2, e2, _⟩ := h2
      rcases (by simpa using hc : c = z ∨ c = TI ∨ c = TO ∨ c = i1 ∨ c = i2) with rfl | rfl | rfl | rfl | rfl
      · exact Heap.lt_size hz
      · exact Heap.lt_size hTI
      · exact Heap.lt_size hTO
      · exact Heap.lt_size e1
      · exact Heap.lt_size e2
    refine wpAny_pyNext_zip_item D hz hTI hTO h1 h2 p1.isList p2.isList (x := u1) (y := u2) (by simpa using hu1) (by simpa using hu2) fun h' a1 a2 a3 a4 a5 a6 hk => ?_
    have I1 : Inv X pins σ H { s with heap := h' } := I.turnedL (t' := s.toks) (ch := [z, TI, TO, i1, i2]) (fun c o hc q => hk c o (fun e => hc (by simp [e])) (fun e => hc (by simp [e])) (fun e => hc (by simp [e])) (fun e => hc (by simp [e])) q) hf
    have I2 : Inv X pins σ (upd H s.heap.objs.size (.tup [x, y])) { s with heap := h' } := I1.adopt (o := .tup [x, y]) fr I.sz (Nat.ne_of_gt I.lt) (fun n c ec e => by
        obtain ⟨v, q⟩ := I.cell n c ec
        exact absurd q.lt (by rw [e]; exact Nat.lt_irrefl _)) (fun q hq e => absurd (Heap.lt_size (I.pin q hq).1) (by rw [e]; exact Nat.lt_irrefl _))
      ⟨le_line (by simp), [u1, u2], .cons ru1 (.cons ru2 .nil), ⟨_, a5, rfl, _, rfl⟩⟩
    have hf2 : ∀ c ∈ [z, TI, TO, i1, i2], FpOk X pins (upd H s.heap.objs.size (.tup [x, y])) c := fun c hc => ⟨by rw [upd_ne (Nat.ne_of_lt (lt c hc))]; exact (hf c hc).1, (hf c hc).2⟩
    refine ⟨_, rfl, wpAny_letOwnedTupleGo_zip a1 fun h2' hz' hs' => ⟨.ref s.heap.objs.size, _, I2.turnedL (t' := s.toks) (ch := [z]) (fun c o hc q => (hs'.2 c (fun e => hc (by simp [e]))).trans q) (fun c hc => hf2 c (by simp at hc; simp [hc])), rfl, ⟨s.heap.objs.size, x, y, rfl, fr, Same.new fr, upd_same, fun q hq => by rw [I.list_inj hq hqa]; exact hx, fun q hq => by rw [I.list_inj hq hqb]; exact hy⟩, ⟨hz', hs'.extBut _ _ D.TIz (hk _ _ D.TIz D.TITO D.TIi1 D.TIi2 hTI), ⟨_, _, hs'.extBut _ _ D.TOz a2⟩, a3.extBut hs'.extBut D.i1z, a4.extBut hs'.extBut D.i2z⟩, fun c hc => (hf2 c hc).1⟩⟩
  done := by
    intro X hP hw hK hc i pins s σ H E I hf st hg
    subst hP hw hK
    obtain ⟨xs, ys, hqa, hqb, hx⟩ := hg
    obtain ⟨it1, rv1, p1, hz1⟩ := I.list hqa
    obtain ⟨it2, rv2, p2, hz2⟩ := I.list hqb
    obtain ⟨hz, hTI, ⟨a', b', hTO⟩, h1, h2⟩ := st
    have l1 := rv1.length
    have l2 := rv2.length
    exact wpAny_pyNext_zip_end (I.ok.hd hc) D hz hTI hTO h1 h2 p1.isList p2.isList (hx.elim (fun e => .inl (by simp; omega)) fun e => .inr (by simp; omega)) fun h' hk => ⟨rfl, I.turnedL (t' := s.toks) (ch := [z, TI, TO, i1, i2]) (fun c o hc q => hk c o (fun e => hc (by simp [e])) (fun e => hc (by simp [e])) (fun e => hc (by simp [e])) (fun e => hc (by simp [e])) q) hf⟩
  self := fun A i s Q E st h => wpAny_pyIter_zip st.1 h
section
variable {X : Cx} {elts : List Expr} {x1 : Nat} {tpos : Pos}
def iZip (K : PySem.W.Frag) (ta : TA) : TI := fun σ H R => ta σ H fun vs H1 => ∃ a b, vs = [.ref a, .ref b] ∧ (∃ xs, SqL K H1 a xs) ∧ (∃ ys, SqL K H1 b ys) ∧ R (Itz K a b) H1
theorem boot_zip0 : bootBuiltins "zip" = some (.type "zip") := by decide +kernel
theorem pi_zip (K : PySem.W.Frag) {a b : Expr} {ta : TA} {p pos : Pos} (hg : Gl X "zip") (hm : X.mg "zip" = none) (ha : PA X [a, b] ta) (hs : starEach [a, b] X.env = [(false, eval a X.env), (false, eval b X.env)] := by rfl) (hs2 : starEach [b] X.env = [(false, eval b X.env)] := by rfl) (hK : X.K = K := by rfl) :
    PI X (.Tuple elts x1 tpos) (.Call (.Name "zip" p) [a, b] [] pos) (iZip K ta) := by
  subst hK
  intro pins s σ H R I h
  refine Call_ (ld_blt I hg hm boot_zip0 (PyProof.Rows.callWith_type1 (thn (ha pos pins s σ H _ I h) fun us s1 ⟨vs, H1, I1, r1, q1⟩ => ?_) (by rw [hs, hs2]) (by rw [hs2]; rfl)))
  obtain ⟨l1, l2, e, ⟨xs, hq1⟩, ⟨ys, hq2⟩, q⟩ := q1
  subst e
  obtain ⟨u1, u2, rfl, r2, r3⟩ := vals2 r1
  cases r2
  cases r3
  obtain ⟨it1, rv1, p1, hz1⟩ := I1.list hq1
  obtain ⟨it2, rv2, p2, hz2⟩ := I1.list hq2
  have a1 : l1 < s1.heap.objs.size := by obtain ⟨_, e, _⟩ := p1.isList; exact Heap.lt_size e
  have a2 : l2 < s1.heap.objs.size := by obtain ⟨_, e, _⟩ := p2.isList; exact Heap.lt_size e
  refine call_zip_2 p1.isList p2.isList fun h' b1 b2 b3 b4 b5 b6 hk => ?_
  refine wpAny_pyIter_zip b1 ?_
  have ge : ∀ c ∈ [s1.heap.objs.size + 4, s1.heap.objs.size + 2, s1.heap.objs.size + 3, s1.heap.objs.size, s1.heap.objs.size + 1], s1.heap.objs.size ≤ c := fun c hc => by
    simp only [List.mem_cons, List.not_mem_nil, or_false] at hc
    rcases hc with rfl | rfl | rfl | rfl | rfl
    · exact Nat.le_add_right _ _
    · exact Nat.le_add_right _ _
    · exact Nat.le_add_right _ _
    · exact Nat.le_refl _
    · exact Nat.le_add_right _ _
  have fp : ∀ c ∈ [s1.heap.objs.size + 4, s1.heap.objs.size + 2, s1.heap.objs.size + 3, s1.heap.objs.size, s1.heap.objs.size + 1], FpOk X pins H1 c := fun c hc => I1.fpOk (ge c hc) (I1.hok.fresh (ge c hc))
  generalize s1.heap.objs.size = m at a1 a2 b1 b2 b3 b4 b5 b6 fp ⊢
  have D : ZipApart (m + 4) (m + 2) (m + 3) m (m + 1) l1 l2 := by
    have h1 : l1 < m := a1
    have h2 : l2 < m := a2
    constructor <;> first | exact Nat.ne_of_lt (Nat.lt_of_lt_of_le h1 (Nat.le_add_right _ _)) | exact Nat.ne_of_lt (Nat.lt_of_lt_of_le h2 (Nat.le_add_right _ _)) | exact Nat.ne_of_lt h1 | exact Nat.ne_of_lt h2 | (intro e; simp at e) | (intro e; exact absurd e (by omega))
  refine ⟨m + 4, [m + 4, m + 2, m + 3, m, m + 1], _, _, H1, rfl, I1.kept (t' := s1.toks) hk, turn_zip l1 l2 _ _ _ _ _ D, ⟨b1, b2, ⟨_, _, b3⟩, b4, b5⟩, fp, q⟩
end
end L2
namespace L2
open PySem PySem.Spec PyProof.Rows
end L2
namespace L2
open PySem PySem.Spec PyProof.Rows
theorem for_zip {K : PySem.W.Frag} {a b : Addr} {xs ys : List V} {g : TG} {tb : TS} {D : Ends} {σ : St} {H : Hp} (hz : xs.length = ys.length) (Pv : Nat → St → Hp → Prop) (h0 : Pv 0 σ H) (hl : ∀ i σ H, i ≤ xs.length → Pv i σ H → SqL K H a xs ∧ SqL K H b ys)
    (hs : ∀ i x y σ H q H2, xs[i]? = some x → ys[i]? = some y → Pv i σ H → Same H H2 → H2 q = some (.tup [x, y]) → g (.ref q) σ H2 fun σ1 H1 => tb { D with nx := Pv (i + 1), ct := Pv (i + 1), bk := D.nx } σ1 H1)
    (hd : ∀ σ H, Pv xs.length σ H → D.nx σ H) : ForEnd (Itz K a b) g tb D σ H := by
  refine ⟨fun i m σ H => m = xs.length - i ∧ i ≤ xs.length ∧ Pv i σ H, ⟨xs.length, by simp, Nat.zero_le _, h0⟩, ?_⟩
  rintro i m σ' H' ⟨rfl, hi, p⟩
  obtain ⟨hq1, hq2⟩ := hl i σ' H' hi p
  by_cases hlt : i < xs.length
  · have hlt2 : i < ys.length := by omega
    refine .inr ⟨⟨xs, ys, xs[i], ys[i], hq1, hq2, by simp [hlt], by simp [hlt2]⟩, Pv (i + 1), fun σ2 H2 p' => ⟨xs.length - (i + 1), by omega, rfl, hlt, p'⟩, fun v H2 y => ?_⟩
    obtain ⟨q, x, y, rfl, hn, sm, hT, hx, hy⟩ := y
    exact hs i x y σ' H' q H2 (hx xs hq1) (hy ys hq2) p sm hT
  · have e : i = xs.length := by omega
    subst e
    exact .inl ⟨⟨xs, ys, hq1, hq2, .inl (Nat.le_refl _)⟩, hd σ' H' p⟩
theorem i_zip {K : PySem.W.Frag} {σ : St} {H : Hp} {R : It → Hp → Prop} {ts : TA} (h : ts σ H fun vs H1 => ∃ a b, vs = [.ref a, .ref b] ∧ (∃ xs, SqL K H1 a xs) ∧ (∃ ys, SqL K H1 b ys) ∧ R (Itz K a b) H1) : iZip K ts σ H R := h
end L2
namespace L2
open PySem
end L2
namespace L2
open PySem PySem.Spec PyProof.Rows
def rNeLs : R2 := fun x y H Q => ∃ t fs gs, (Tr.lst t).At H x fs ∧ (Tr.lst t).At H y gs ∧ Tr.hs t ≤ 60 ∧ Q (.bl false) H
theorem kop_neLs {X : Cx} (hu : X.A.units + 64 < cLine) : OpR X (compareOp .NotEq) rNeLs := by
  intro pins s σ H x y v u Q I rx ry h
  obtain ⟨t, fs, gs, h1, h2, hh, q⟩ := h
  simp only [Tr.At] at h1 h2
  obtain ⟨a, vs, _, rfl, e1, c1, _⟩ := h1
  obtain ⟨b, ws, _, rfl, e2, c2, _⟩ := h2
  cases rx
  cases ry
  obtain ⟨is1, q1, p1, _⟩ := I.list (SqL.of e1)
  obtain ⟨is2, q2, p2, _⟩ := I.list (SqL.of e2)
  have hl : is1.length = is2.length := by rw [← q1.length, ← q2.length, c1.len, c2.len]
  have := SeqAt.RcNeAt.lists (A := X.A) (s := s) (e := fun _ => true) p1.isList p2.isList (by simpa using hl) (by omega) (fun j h1 h2 => by
    have := Tr.eqAts I (A := X.A.in1) c1 c2 q1 q2 (by rw [in1_units]; omega) j (by simpa using h1) (by simpa using h2)
    simpa using this) X.prog X.w X.xe (EP X pins σ Q)
  refine this ⟨.bl false, H, I, ?_, q⟩
  rw [show ((List.range is1.toArray.size).all fun _ => true) = true by simp]
  rfl
theorem i_neLs {H : Hp} {Q : VK} {x y : V} {t : List Tr} {fs gs : List Addr} (h1 : (Tr.lst t).At H x fs) (h2 : (Tr.lst t).At H y gs) (hh : Tr.hs t ≤ 60) (h : Q (.bl false) H) : rNeLs x y H Q := ⟨t, fs, gs, h1, h2, hh, h⟩
end L2
namespace L2
open PySem PySem.Spec PyProof.Rows
noncomputable instance trDec : DecidableEq Tr := fun _ _ => Classical.propDecidable _
def IntIn (z : Int) (u : Value) : Prop := (∃ t, u = .int z t) ∨ ∃ b : Bool, u = .bool b ∧ z = (if b = true then 1 else 0)
mutual
def Tr.In (h : Heap) : Tr → Value → Prop
  | .non, u => u = .none
  | .int z, u => IntIn z u
  | .str x, u => ∃ t, u = .str x t
  | .tup ts, u => ∃ a us, u = .ref a ∧ h.IsTuple a us ∧ Tr.Ins h ts us.toList
  | .lst _, _ => False
def Tr.Ins (h : Heap) : List Tr → List Value → Prop
  | [], us => us = []
  | t :: ts, us => ∃ u r, us = u :: r ∧ Tr.In h t u ∧ Tr.Ins h ts r
end
theorem Tr.Ins.len {h : Heap} : ∀ {ts : List Tr} {us : List Value}, Tr.Ins h ts us → us.length = ts.length
  | [], us, e => by simp only [Tr.Ins] at e; rw [e]; rfl
  | t :: ts, us, e => by
    simp only [Tr.Ins] at e
    obtain ⟨u, r, rfl, _, e⟩ := e
    simp [e.len]
theorem Tr.Ins.get {h : Heap} : ∀ {ts : List Tr} {us : List Value}, Tr.Ins h ts us → ∀ (j : Nat) (h1 : j < us.length) (h2 : j < ts.length), Tr.In h ts[j] us[j]
  | [], us, e, j, h1, h2 => absurd h2 (Nat.not_lt_zero _)
  | t :: ts, us, e, j, h1, h2 => by
    simp only [Tr.Ins] at e
    obtain ⟨u, r, rfl, e1, e⟩ := e
    cases j with
    | zero => exact e1
    | succ j => exact e.get j (by simpa using h1) (by simpa using h2)
theorem isTuple_inj {h : Heap} {a : Addr} {us vs : Array Value} (x : h.IsTuple a us) (y : h.IsTuple a vs) : us = vs := by
  obtain ⟨o, e, _, n, d⟩ := x
  obtain ⟨o', e', _, n', d'⟩ := y
  rw [e] at e'; cases e'
  rw [d] at d'
  injection d' with d1 _
mutual
theorem Tr.In.inj {h : Heap} : ∀ {t r : Tr} {u : Value}, Tr.In h t u → Tr.In h r u → t = r
  | .non, r, u, e, f => by
    simp only [Tr.In] at e
    subst e
    cases r <;> simp [Tr.In, IntIn] at f ⊢
  | .int z, r, u, e, f => by
    simp only [Tr.In] at e
    rcases e with ⟨t, rfl⟩ | ⟨b, rfl, rfl⟩
    · cases r <;> simp [Tr.In, IntIn] at f ⊢
      exact f
    · cases r <;> simp [Tr.In, IntIn] at f ⊢
      exact f.symm
  | .str x, r, u, e, f => by
    simp only [Tr.In] at e
    obtain ⟨t, rfl⟩ := e
    cases r <;> simp [Tr.In, IntIn] at f ⊢
    exact f
  | .lst _, r, u, e, f => e.elim
  | .tup ts, .tup rs, u, e, f => by
    simp only [Tr.In] at e f
    obtain ⟨a, us, rfl, e2, e3⟩ := e
    obtain ⟨b, vs, hb, f2, f3⟩ := f
    cases hb
    cases isTuple_inj e2 f2
    rw [Tr.Ins.inj e3 f3]
  | .tup ts, .non, u, e, f => by
    simp only [Tr.In] at e f
    obtain ⟨a, us, rfl, e2, e3⟩ := e
    cases f
  | .tup ts, .int _, u, e, f => by
    simp only [Tr.In] at e f
    obtain ⟨a, us, rfl, e2, e3⟩ := e
    rcases f with ⟨_, f⟩ | ⟨_, f, _⟩ <;> cases f
  | .tup ts, .str _, u, e, f => by
    simp only [Tr.In] at e f
    obtain ⟨a, us, rfl, e2, e3⟩ := e
    obtain ⟨_, f⟩ := f
    cases f
  | .tup ts, .lst _, u, e, f => f.elim
theorem Tr.Ins.inj {h : Heap} : ∀ {ts rs : List Tr} {us : List Value}, Tr.Ins h ts us → Tr.Ins h rs us → ts = rs
  | [], rs, us, e, f => by
    simp only [Tr.Ins] at e
    subst e
    cases rs with
    | nil => rfl
    | cons r rs => simp [Tr.Ins] at f
  | t :: ts, rs, us, e, f => by
    simp only [Tr.Ins] at e
    obtain ⟨u, r, rfl, e1, e2⟩ := e
    cases rs with
    | nil => simp [Tr.Ins] at f
    | cons q qs =>
      simp only [Tr.Ins] at f
      obtain ⟨u', r', hh, f1, f2⟩ := f
      cases hh
      rw [e1.inj f1, Tr.Ins.inj e2 f2]
end
theorem at_no_lst {H : Hp} {ts : List Tr} {v : V} {h : (Tr.lst ts).At H v []} : False := by
  simp only [Tr.At] at h
  obtain ⟨a, vs, _, rfl, e1, c1, e⟩ := h
  simp at e
section
variable {X : Cx} {pins : List (Addr × Obj)} {σ : St} {H : Hp} {s : Shared}
mutual
theorem Tr.At.isIn (I : Inv X pins σ H s) : ∀ {t : Tr} {v : V} {u : Value}, t.At H v [] → RelV v u → Tr.In s.heap t u
  | .non, v, u, h, r => by
    obtain ⟨rfl, -⟩ := (by simpa only [Tr.At] using h)
    cases r
    exact rfl
  | .int z, v, u, h, r => by
    obtain ⟨rfl, -⟩ := (by simpa only [Tr.At] using h)
    obtain ⟨t, rfl⟩ := r
    exact .inl ⟨t, rfl⟩
  | .str z, v, u, h, r => by
    obtain ⟨rfl, -⟩ := (by simpa only [Tr.At] using h)
    obtain ⟨t, rfl⟩ := r
    exact ⟨t, rfl⟩
  | .lst _, v, u, h, r => (at_no_lst (h := h)).elim
  | .tup ts, v, u, h, r => by
    simp only [Tr.At] at h
    obtain ⟨a, vs, rfl, e1, c1⟩ := h
    cases r
    obtain ⟨is1, q1, p1, _⟩ := I.tuple (SqT.of e1)
    simp only [Tr.In]
    exact ⟨a, is1.toArray, rfl, p1, by simpa using Tr.Ats.isIns I c1 q1⟩
theorem Tr.Ats.isIns (I : Inv X pins σ H s) : ∀ {ts : List Tr} {vs : List V} {us : List Value}, Tr.Ats H ts vs [] → Vals vs us → Tr.Ins s.heap ts us
  | [], vs, us, c, q => by
    simp only [Tr.Ats] at c
    obtain ⟨rfl, -⟩ := c
    cases q
    exact rfl
  | t :: ts, vs, us, c, q => by
    simp only [Tr.Ats] at c
    obtain ⟨v, vs, f, g, rfl, e, a1, b1⟩ := c
    have hf : f = [] ∧ g = [] := by simpa using e.symm
    obtain ⟨rfl, rfl⟩ := hf
    cases q with
    | cons r1 q1 =>
    simp only [Tr.Ins]
    exact ⟨_, _, rfl, a1.isIn I r1, b1.isIns I q1⟩
end
end
theorem all_range {n : Nat} {e : Nat → Bool} : (List.range n).all e = true ↔ ∀ j, j < n → e j = true := by simp [List.all_eq_true]
theorem trs_eq {ts rs : List Tr} : ((List.range (min ts.length rs.length)).all (fun j => decide (ts.getD j .non = rs.getD j .non)) && ts.length == rs.length) = decide (ts = rs) := by
  rw [Bool.eq_iff_iff, Bool.and_eq_true, all_range, decide_eq_true_iff, beq_iff_eq]
  constructor
  · rintro ⟨h1, h2⟩
    refine List.ext_getElem h2 fun j h3 h4 => ?_
    have := of_decide_eq_true (h1 j (by omega))
    simpa [h3, h4] using this
  · rintro rfl
    exact ⟨fun j _ => decide_eq_true rfl, rfl⟩
section
variable {s : Shared}
mutual
theorem Tr.In.eqAt : ∀ {t r : Tr} {A : Around} {u z : Value}, Tr.In s.heap t u → Tr.In s.heap r z → A.units + t.h + r.h < cLine → SeqAt.EqAt A s u z (decide (t = r))
  | .non, r, A, u, z, h1, h2, hu => by
    simp only [Tr.In] at h1
    subst h1
    cases r with
    | non =>
      simp only [Tr.In] at h2
      subst h2
      rw [decide_eq_true rfl]
      exact SeqAt.EqAt.same _
    | int i =>
      rw [decide_eq_false (by simp)]
      rcases h2 with ⟨t2, rfl⟩ | ⟨b2, rfl, rfl⟩
      · exact SeqAt.EqAt.none_int _ _
      · exact SeqAt.EqAt.none_bool _
    | str i =>
      obtain ⟨t2, rfl⟩ := h2
      rw [decide_eq_false (by simp)]
      exact SeqAt.EqAt.none_str _ _
    | tup rs =>
      simp only [Tr.In] at h2
      obtain ⟨a, us, rfl, p, _⟩ := h2
      rw [decide_eq_false (by simp)]
      exact SeqAt.EqAt.none_tuple p (by omega)
    | lst rs => exact h2.elim
  | .int i, r, A, u, z, h1, h2, hu => by
    cases r with
    | non =>
      simp only [Tr.In] at h2
      subst h2
      rw [decide_eq_false (by simp)]
      rcases h1 with ⟨t1, rfl⟩ | ⟨b1, rfl, rfl⟩
      · exact SeqAt.EqAt.int_none _ _
      · exact SeqAt.EqAt.bool_none _
    | int j =>
      rw [show decide (Tr.int i = Tr.int j) = (i == j) from Bool.eq_iff_iff.mpr (by simp)]
      rcases h1 with ⟨t1, rfl⟩ | ⟨b1, rfl, rfl⟩
      · rcases h2 with ⟨t2, rfl⟩ | ⟨b2, rfl, rfl⟩
        · exact SeqAt.EqAt.int_int _ _ _ _
        · exact SeqAt.EqAt.int_bool _ _ _
      · rcases h2 with ⟨t2, rfl⟩ | ⟨b2, rfl, rfl⟩
        · exact SeqAt.EqAt.bool_int _ _ _
        · have := SeqAt.EqAt.bool_bool (A := A) (s := s) b1 b2
          cases b1 <;> cases b2 <;> exact this
    | str j =>
      obtain ⟨t2, rfl⟩ := h2
      rw [decide_eq_false (by simp)]
      rcases h1 with ⟨t1, rfl⟩ | ⟨b1, rfl, rfl⟩
      · exact SeqAt.EqAt.int_str _ _ _ _
      · exact SeqAt.EqAt.bool_str _ _ _
    | tup rs =>
      simp only [Tr.In] at h2
      obtain ⟨a, us, rfl, p, _⟩ := h2
      rw [decide_eq_false (by simp)]
      rcases h1 with ⟨t1, rfl⟩ | ⟨b1, rfl, rfl⟩
      · exact SeqAt.EqAt.int_tuple _ _ p (by omega)
      · exact SeqAt.EqAt.bool_tuple _ p (by omega)
    | lst rs => exact h2.elim
  | .str i, r, A, u, z, h1, h2, hu => by
    obtain ⟨t1, rfl⟩ := h1
    cases r with
    | non =>
      simp only [Tr.In] at h2
      subst h2
      rw [decide_eq_false (by simp)]
      exact SeqAt.EqAt.str_none _ _
    | int j =>
      rw [decide_eq_false (by simp)]
      rcases h2 with ⟨t2, rfl⟩ | ⟨b2, rfl, rfl⟩
      · exact SeqAt.EqAt.str_int _ _ _ _
      · exact SeqAt.EqAt.str_bool _ _ _
    | str j =>
      obtain ⟨t2, rfl⟩ := h2
      have := SeqAt.EqAt.str_str (A := A) (s := s) i t1 j t2
      rw [show (i == j) = decide (Tr.str i = Tr.str j) from Bool.eq_iff_iff.mpr (by simp)] at this
      exact this
    | tup rs =>
      simp only [Tr.In] at h2
      obtain ⟨a, us, rfl, p, _⟩ := h2
      rw [decide_eq_false (by simp)]
      exact SeqAt.EqAt.str_tuple _ _ p (by omega)
    | lst rs => exact h2.elim
  | .lst _, r, A, u, z, h1, h2, hu => h1.elim
  | .tup ts, r, A, u, z, h1, h2, hu => by
    have h1' := h1
    simp only [Tr.In] at h1
    obtain ⟨a, us, rfl, p1, c1⟩ := h1
    cases r with
    | non =>
      simp only [Tr.In] at h2
      subst h2
      rw [decide_eq_false (by simp)]
      exact SeqAt.EqAt.tuple_none p1 (by omega)
    | int j =>
      rw [decide_eq_false (by simp)]
      rcases h2 with ⟨t2, rfl⟩ | ⟨b2, rfl, rfl⟩
      · exact SeqAt.EqAt.tuple_int _ _ p1 (by omega)
      · exact SeqAt.EqAt.tuple_bool _ p1 (by omega)
    | str j =>
      obtain ⟨t2, rfl⟩ := h2
      rw [decide_eq_false (by simp)]
      exact SeqAt.EqAt.tuple_str _ _ p1 (by omega)
    | lst rs => exact h2.elim
    | tup rs =>
      have h2' := h2
      simp only [Tr.In] at h2
      obtain ⟨b, vs, rfl, p2, c2⟩ := h2
      by_cases hab : a = b
      · subst hab
        rw [decide_eq_true (h1'.inj h2')]
        exact SeqAt.EqAt.same _
      refine SeqAt.EqAt.of_refs hab ?_
      simp only [Tr.h] at hu
      have l1 := c1.len
      have l2 := c2.len
      simp only [Array.length_toList] at l1 l2
      have := SeqAt.RcAt.tuples (A := A) (s := s) (e := fun j => decide (ts.getD j .non = rs.getD j .non)) p1 p2 (by omega) (fun j h1 h2 => by
        have := Tr.Ins.eqAts (A := A.in1) c1 c2 (by rw [in1_units]; omega) j (by simpa using h1) (by simpa using h2)
        simpa using this)
      rw [l1, l2, trs_eq] at this
      rw [show decide (Tr.tup ts = Tr.tup rs) = decide (ts = rs) from Bool.eq_iff_iff.mpr (by simp)]
      exact this
theorem Tr.Ins.eqAts : ∀ {ts rs : List Tr} {A : Around} {us zs : List Value}, Tr.Ins s.heap ts us → Tr.Ins s.heap rs zs → A.units + Tr.hs ts + Tr.hs rs < cLine →
    ∀ (j : Nat) (h1 : j < us.length) (h2 : j < zs.length), SeqAt.EqAt A s us[j] zs[j] (decide (ts.getD j .non = rs.getD j .non))
  | [], rs, A, us, zs, c1, c2, hu, j, h1, h2 => by
    simp only [Tr.Ins] at c1
    subst c1
    exact absurd h1 (by simp)
  | t :: ts, [], A, us, zs, c1, c2, hu, j, h1, h2 => by
    simp only [Tr.Ins] at c2
    subst c2
    exact absurd h2 (by simp)
  | t :: ts, r :: rs, A, us, zs, c1, c2, hu, j, h1, h2 => by
    simp only [Tr.Ins] at c1 c2
    obtain ⟨u, us, rfl, a1, b1⟩ := c1
    obtain ⟨z, zs, rfl, a2, b2⟩ := c2
    simp only [Tr.hs] at hu
    cases j with
    | zero =>
      have := a1.eqAt a2 (A := A) (by omega)
      simpa using this
    | succ j =>
      have := b1.eqAts b2 (A := A) (by omega) j (by simpa using h1) (by simpa using h2)
      simpa using this
end
end
mutual
def Tr.hash (P : Params) : Tr → Int
  | .non => PySem.W.hashW P .none
  | .int z => PySem.W.hashW P (.int z)
  | .str x => PySem.W.hashW P (.str x)
  | .tup ts => reduceHash (Builtin.Tuple.tupleHashOf (Tr.hashes P ts))
  | .lst _ => 0
def Tr.hashes (P : Params) : List Tr → List Int
  | [] => []
  | t :: ts => Tr.hash P t :: Tr.hashes P ts
end
section
variable {prog : Program} {w : World} {E : Value → Shared → Prop}
mutual
theorem Tr.In.pyHash : ∀ {t : Tr} {A : Around} {s : Shared} {u : Value} {Q : Int → Shared → Prop}, Tr.In s.heap t u → A.units + t.h < cLine → (∀ n, Q (t.hash w.params) { s with toks := n }) → wpAny (model prog w) A (pyHash u) Q E s
  | .non, A, s, u, Q, e, hu, h => by
    simp only [Tr.In] at e
    subst e
    exact PySem.W.pyHash_laid .none _ A s Q rfl .none (by simp only [PySem.W.WData.depth]; omega) h
  | .int z, A, s, u, Q, e, hu, h => by
    rcases e with ⟨t, rfl⟩ | ⟨b, rfl, rfl⟩
    · exact PySem.W.pyHash_laid (.int z) _ A s Q rfl (.int z t) (by simp only [PySem.W.WData.depth]; omega) h
    · refine PySem.W.pyHash_laid (.bool b) _ A s Q rfl (.bool b) (by simp only [PySem.W.WData.depth]; omega) fun tk => ?_
      have := h tk
      cases b <;> exact this
  | .str z, A, s, u, Q, e, hu, h => by
    obtain ⟨t, rfl⟩ := e
    exact PySem.W.pyHash_laid (.str z) _ A s Q rfl (.str z t) (by simp only [PySem.W.WData.depth]; omega) h
  | .lst _, A, s, u, Q, e, hu, h => e.elim
  | .tup ts, A, s, u, Q, e, hu, h => by
    simp only [Tr.In] at e
    obtain ⟨a, us, rfl, ⟨o, p1, p2, n, p3⟩, c⟩ := e
    simp only [Tr.h] at hu
    refine PySem.W.pyHash_slot (T := "tuple") ⟨o, p1, p2⟩ F.slot_tuple_hash F.entry_tuple_hash (F.args_tuple_hash_1 _) (beq_builtin_none _) (.inr (by omega)) ?_
    show wpAny _ A.in1 (Builtin.Tuple.tupleItemsOf (.ref a) >>= _) _ _ s
    refine wpAny_bind (wpAny_tupleItemsOf p1 p3 (wpAny_bind ?_))
    rw [← Array.forIn_toList]
    refine Tr.Ins.pyHashes (b := #[]) c (by rw [in1_units]; omega) fun tk b hb => ?_
    have hb' : b.toList = Tr.hashes w.params ts := by simpa using hb
    show wpAny _ A.in1 (retInt (Builtin.Tuple.tupleHashOf b.toList)) _ _ _
    rw [hb']
    exact wpAny_bind (wpAny_mkInt (wpAny_pure ⟨_, _, rfl, h (_)⟩))
theorem Tr.Ins.pyHashes : ∀ {ts : List Tr} {A : Around} {s : Shared} {us : List Value} {b : Array Int} {Q : Array Int → Shared → Prop}, Tr.Ins s.heap ts us → A.units + Tr.hs ts < cLine →
    (∀ n b', b'.toList = b.toList ++ Tr.hashes w.params ts → Q b' { s with toks := n }) →
    wpAny (model prog w) A (forIn us b fun x r => do let h ← pyHash x; pure PUnit.unit; pure (ForInStep.yield (r.push h))) Q E s
  | [], A, s, us, b, Q, e, hu, h => by
    simp only [Tr.Ins] at e
    subst e
    exact wpAny_pure (h s.toks b (by simp [Tr.hashes]))
  | t :: ts, A, s, us, b, Q, e, hu, h => by
    simp only [Tr.Ins] at e
    obtain ⟨u, us, rfl, a1, b1⟩ := e
    simp only [Tr.hs] at hu
    rw [List.forIn_cons]
    refine wpAny_bind (wpAny_bind (a1.pyHash (by omega) fun tk => wpAny_bind (wpAny_pure (wpAny_pure ?_))))
    exact b1.pyHashes (s := { s with toks := tk }) (by omega) fun n b' hb => h n b' (by simp [hb, Tr.hashes])
end
end
end L2
namespace L2
open PySem PySem.Spec PyProof.Rows
section
variable {prog : Program} {w : World} {E : Value → Shared → Prop}
mutual
theorem Tr.In.quiet : ∀ {t : Tr} {A : Around} {s : Shared} {u : Value} {Q : Bool → Shared → Prop} {n : Nat}, Tr.In s.heap t u → t.h ≤ n → Q true s → wpAny (model prog w) A (eqIsQuiet n u) Q E s
  | .non, A, s, u, Q, n, e, hn, h => by
    simp only [Tr.In] at e
    subst e
    rw [eqIsQuiet_byValue n (v := .none) rfl]
    exact wpAny_pure h
  | .int z, A, s, u, Q, n, e, hn, h => by
    rcases e with ⟨t, rfl⟩ | ⟨b, rfl, rfl⟩
    · rw [eqIsQuiet_byValue n (v := .int z t) rfl]
      exact wpAny_pure h
    · rw [eqIsQuiet_byValue n (v := .bool b) rfl]
      exact wpAny_pure h
  | .str z, A, s, u, Q, n, e, hn, h => by
    obtain ⟨t, rfl⟩ := e
    rw [eqIsQuiet_byValue n (v := .str z t) rfl]
    exact wpAny_pure h
  | .lst _, A, s, u, Q, n, e, hn, h => e.elim
  | .tup ts, A, s, u, Q, n, e, hn, h => by
    simp only [Tr.In] at e
    obtain ⟨a, us, rfl, ⟨o, p1, p2, m, p3⟩, c⟩ := e
    simp only [Tr.h] at hn
    obtain ⟨n, rfl⟩ : ∃ k, n = k + 1 := ⟨n - 1, by omega⟩
    have hT : s.TypeIs (.ref a) "tuple" := ⟨o, p1, p2⟩
    unfold eqIsQuiet
    refine wpAny_bind (wpAny_specialOf hT (F.slot_tuple_eq.lookup) ?_)
    show wpAny _ A (isInstance (.ref a) (.type "tuple") >>= _) _ _ s
    refine wpAny_bind (wpAny_isInstance hT (isSubtype_tuple_tuple) ?_)
    simp only [Bool.false_eq_true, Bool.not_true, if_false]
    refine wpAny_bind (wpAny_seqItems p1 p3 (wpAny_bind ?_))
    show wpAny _ _ (forIn us _ _) _ _ s
    rw [← Array.forIn_toList]
    refine wpAny_forIn_list _ (fun rest r s' => r.1 = none ∧ s' = s ∧ ∃ ts', Tr.Ins s.heap ts' rest ∧ ∀ t ∈ ts', ∃ k, ∃ hk : k < ts.length, t = ts[k]) _ ?_ ?_ _ _ ⟨rfl, rfl, ts, c, fun t ht => by
      obtain ⟨k, hk, e⟩ := List.mem_iff_getElem.mp ht
      exact ⟨k, hk, e.symm⟩⟩
    · rintro v rest r s' ⟨hr, rfl, ts', c', hm⟩
      cases ts' with
      | nil => simp [Tr.Ins] at c'
      | cons t ts' =>
        simp only [Tr.Ins] at c'
        obtain ⟨u', r', hh, a1, b1⟩ := c'
        cases hh
        obtain ⟨k, hk, rfl⟩ := hm t List.mem_cons_self
        refine wpAny_bind (Tr.Ins.quietAt (n := n) c k hk a1 (by omega) ?_)
        simp only [Bool.false_eq_true, Bool.not_true, if_false]
        exact wpAny_pure ⟨rfl, rfl, ts', b1, fun t' ht' => hm t' (List.mem_cons_of_mem _ ht')⟩
    · rintro ⟨r1, r2⟩ s' ⟨hr, rfl, _⟩
      simp only at hr
      subst hr
      exact wpAny_pure h
theorem Tr.Ins.quietAt : ∀ {ts : List Tr} {A : Around} {s : Shared} {us : List Value} {u : Value} {Q : Bool → Shared → Prop} {n : Nat}, Tr.Ins s.heap ts us → ∀ (k : Nat) (hk : k < ts.length), Tr.In s.heap ts[k] u → Tr.hs ts ≤ n → Q true s →
    wpAny (model prog w) A (eqIsQuiet n u) Q E s
  | [], A, s, us, u, Q, n, e, k, hk, a1, hn, h => absurd hk (Nat.not_lt_zero _)
  | t :: ts, A, s, us, u, Q, n, e, k, hk, a1, hn, h => by
    simp only [Tr.Ins] at e
    obtain ⟨u', us, rfl, a2, b2⟩ := e
    simp only [Tr.hs] at hn
    cases k with
    | zero => exact Tr.In.quiet (t := t) a1 (by omega) h
    | succ k => exact Tr.Ins.quietAt b2 k (by simpa using hk) a1 (by omega) h
end
end
structure Ents (P : Params) (h : Heap) (es : Array DictEntry) (ts : List Tr) : Prop where
  len : es.size = ts.length
  at_ : ∀ (j : Nat) (e : DictEntry), es[j]? = some e → ∃ t : Tr, ts[j]? = some t ∧ e.hash = t.hash P ∧ Tr.In h t e.key ∧ t.h ≤ 8
  nd : ts.Nodup
theorem Ents.of {P : Params} {h : Heap} {es : Array DictEntry} {ts : List Tr} (x : Ents P h es ts) {j : Nat} {t : Tr} (e : ts[j]? = some t) : ∃ en, es[j]? = some en ∧ en.hash = t.hash P ∧ Tr.In h t en.key ∧ t.h ≤ 8 := by
  have hj : j < es.size := by rw [x.len]; exact (List.getElem?_eq_some_iff.mp e).1
  obtain ⟨t', e', h2⟩ := x.at_ j es[j] (Array.getElem?_eq_getElem hj)
  rw [e] at e'
  cases e'
  exact ⟨_, Array.getElem?_eq_getElem hj, h2⟩
theorem Ents.one {P : Params} {h : Heap} {es : Array DictEntry} {ts : List Tr} (x : Ents P h es ts) {i j : Nat} {t : Tr} (e : ts[i]? = some t) (f : ts[j]? = some t) : i = j := by
  obtain ⟨h1, e⟩ := List.getElem?_eq_some_iff.mp e
  obtain ⟨h2, f⟩ := List.getElem?_eq_some_iff.mp f
  have pw := List.pairwise_iff_getElem.mp x.nd
  rcases Nat.lt_trichotomy i j with h | h | h
  · exact absurd (e.trans f.symm) (pw i j h1 h2 h)
  · exact h
  · exact absurd (f.trans e.symm) (pw j i h2 h1 h)
section
variable {prog : Program} {w : World} {E : Value → Shared → Prop} {A : Around} {s : Shared} {d : Addr} {o : Obj} {es : Array DictEntry} {ep : Nat} {ts : List Tr} {t : Tr} {u : Value}
theorem mem_places {f : Nat → Option Int} {n i : Nat} {h : Int} : i ∈ placesWithHash n f h ↔ i < n ∧ f i = some h := by simp [placesWithHash, List.mem_filter]
theorem places_nd {f : Nat → Option Int} {n : Nat} {h : Int} : (placesWithHash n f h).Nodup := List.Pairwise.filter _ List.nodup_range
theorem find_tr {Q : Option Nat → Shared → Prop} (ho : s.heap.get? d = some o) (hd : o.data = .dict es ep) (x : Ents w.params s.heap es ts) (hk : Tr.In s.heap t u) (h8 : t.h ≤ 8) (hu : A.units + 16 < cLine)
    (hnone : (∀ j : Nat, ts[j]? ≠ some t) → Q none s) (hsome : ∀ j : Nat, ts[j]? = some t → Q (some j) s) : wpAny (model prog w) A (dictFind d u (t.hash w.params)) Q E s := by
  have hin : ∀ j : Nat, ts[j]? = some t → j ∈ placesWithHash es.size (fun i => es[i]?.map (·.hash)) (t.hash w.params) := fun j hj => by
    obtain ⟨en, e1, e2, _⟩ := x.of hj
    exact mem_places.mpr ⟨(Array.getElem?_eq_some_iff.mp e1).1, by rw [e1]; exact congrArg some e2⟩
  have hex : ∀ i ∈ placesWithHash es.size (fun i => es[i]?.map (·.hash)) (t.hash w.params), ∃ en t', es[i]? = some en ∧ ts[i]? = some t' ∧ en.hash = t.hash w.params ∧ Tr.In s.heap t' en.key ∧ t'.h ≤ 8 := fun i hi => by
    obtain ⟨hi, h2⟩ := mem_places.mp hi
    have e1 := Array.getElem?_eq_getElem hi
    obtain ⟨t', e2, e3, e4, e5⟩ := x.at_ i _ e1
    rw [e1] at h2
    exact ⟨_, t', e1, e2, Option.some.inj h2, e4, e5⟩
  have hnd : (placesWithHash es.size (fun i => es[i]?.map (·.hash)) (t.hash w.params)).Nodup := places_nd
  generalize hP : placesWithHash es.size (fun i => es[i]?.map (·.hash)) (t.hash w.params) = ps at hin hex hnd
  have eqa : ∀ {t' : Tr} {z : Value}, Tr.In s.heap t' z → t'.h ≤ 8 → SeqAt.EqAt A s z u (decide (t' = t)) := fun a b => a.eqAt hk (by omega)
  have plain : wpAny (model prog w) A (dictWalkPlain d u (t.hash w.params) es ps) Q E s := by
    unfold dictWalkPlain
    refine wpAny_bind ?_
    refine wpAny_forIn_list _ (fun rest b s' => s' = s ∧ b = (none, ()) ∧ (∀ i ∈ rest, i ∈ ps) ∧ ∀ j : Nat, ts[j]? = some t → j ∈ rest) _ ?_ ?_ _ _ ⟨rfl, rfl, fun _ z => z, hin⟩
    · rintro i rest b s' ⟨rfl, rfl, hr, hj⟩
      obtain ⟨en, t', e1, e2, e3, e4, e5⟩ := hex i (hr i List.mem_cons_self)
      rw [e1]
      dsimp only
      rw [if_pos (by rw [e3]; exact beq_self_eq_true _)]
      refine wpAny_bind (wpAny_dictEpoch ho hd (wpAny_bind (eqa e4 e5 _ _ _ _ (wpAny_bind (wpAny_dictEpoch ho hd ?_)))))
      show wpAny _ A (if (ep != ep) = true then _ else _) _ E _
      rw [if_neg (by simp)]
      by_cases hkk : t' = t
      · subst hkk
        rw [decide_eq_true rfl]
        exact wpAny_bind (wpAny_rule (wpAny_pure (wpAny_pure (hsome i e2))))
      · rw [decide_eq_false hkk]
        refine wpAny_bind (wpAny_rule (wpAny_pure ⟨rfl, rfl, fun i hi => hr i (List.mem_cons_of_mem _ hi), fun j h2 => ?_⟩))
        rcases List.mem_cons.mp (hj j h2) with rfl | h3
        · rw [e2] at h2
          exact absurd (Option.some.inj h2) hkk
        · exact h3
    · rintro b s' ⟨rfl, rfl, _, hj⟩
      exact wpAny_pure (hnone fun j h2 => absurd (hj j h2) (by simp))
  have hany : ∀ a, u = .ref a → ¬ (es.any fun e => e.key == u && e.hash != t.hash w.params) = true := by
    rintro a rfl
    rw [← Array.any_toList, List.any_eq_true]
    rintro ⟨e, hin', hc⟩
    obtain ⟨j, hj, rfl⟩ := Array.mem_iff_getElem.mp (Array.mem_toList_iff.mp hin')
    obtain ⟨t', _, f2, f3, _⟩ := x.at_ j _ (Array.getElem?_eq_getElem hj)
    simp only [Bool.and_eq_true, beq_iff_eq, bne_iff_ne, ne_eq] at hc
    rw [hc.1] at f3
    exact hc.2 (by rw [f2, f3.inj hk])
  have hst : ∀ v ∈ ps.filterMap (fun i => es[i]?.map (·.key)), ∃ t', Tr.In s.heap t' v ∧ t'.h ≤ 8 := by
    intro v hv
    obtain ⟨i, hi, hv⟩ := List.mem_filterMap.mp hv
    obtain ⟨en, t', e1, _, _, e4, e5⟩ := hex i hi
    rw [e1] at hv
    cases hv
    exact ⟨t', e4, e5⟩
  have tell : ∀ {Q : Bool → Shared → Prop}, Q false s → wpAny (model prog w) A (tableMayTell u (ps.filterMap fun i => es[i]?.map (·.key))) Q E s := by
    intro Q q
    unfold tableMayTell
    split
    · exact wpAny_pure q
    · refine wpAny_bind (hk.quiet h8 ?_)
      simp only [Bool.false_eq_true, Bool.not_true, if_false]
      refine wpAny_bind (wpAny_forIn_list _ (fun rest r s' => s' = s ∧ r = (none, ()) ∧ ∀ v ∈ rest, ∃ t', Tr.In s.heap t' v ∧ t'.h ≤ 8) _ ?_ ?_ _ _ ⟨rfl, rfl, hst⟩)
      · rintro v rest r s' ⟨rfl, rfl, hr⟩
        obtain ⟨t', b1, b2⟩ := hr v List.mem_cons_self
        refine wpAny_bind (b1.quiet b2 ?_)
        simp only [Bool.false_eq_true, Bool.not_true, if_false]
        exact wpAny_pure ⟨rfl, rfl, fun z hz => hr z (List.mem_cons_of_mem _ hz)⟩
      · rintro r s' ⟨rfl, rfl, _⟩
        exact wpAny_pure q
  unfold dictFind
  try (with_reducible refine wpAny_holding ?_)
  refine wpAny_bind (wpAny_dictEntries ho (hd) ?_)
  extract_lets places st hit0 jp3 jp2 jp1
  have hpl : places = ps := hP
  have hS : ps.filterMap (fun i => es[i]?.map (·.key)) = st := by rw [← hpl]
  rw [hS] at tell
  clear hst
  have h3 : wpAny (model prog w) A (jp3 false) Q E s := by
    dsimp only [jp3]
    rw [if_neg (by simp), hpl]
    refine wpAny_bind (wpAny_forIn_list _ (fun rest b s' => s' = s ∧ rest.Nodup ∧ ∃ hit : Option Nat, b = (none, hit) ∧ (∀ i ∈ rest, i ∈ ps) ∧
     ((hit = none ∧ ∀ j : Nat, ts[j]? = some t → j ∈ rest) ∨ ∃ j : Nat, hit = some j ∧ ts[j]? = some t ∧ j ∉ rest)) _ ?_ ?_ _ _ ⟨rfl, hnd, none, rfl, fun _ z => z, .inl ⟨rfl, hin⟩⟩)
    · rintro i rest b s' ⟨rfl, hnd', hit, rfl, hr, hH⟩
      have hni : i ∉ rest := (List.nodup_cons.mp hnd').1
      have hnr : rest.Nodup := (List.nodup_cons.mp hnd').2
      have hr' : ∀ j ∈ rest, j ∈ ps := fun j hj => hr j (List.mem_cons_of_mem _ hj)
      obtain ⟨en, t', e1, e2, e3, e4, e5⟩ := hex i (hr i List.mem_cons_self)
      rw [e1]
      dsimp only
      rw [if_pos (by rw [e3]; exact beq_self_eq_true _)]
      refine wpAny_bind (wpAny_dictEpoch ho hd (wpAny_bind (eqa e4 e5 _ _ _ _ (wpAny_bind (wpAny_dictEpoch ho hd ?_)))))
      show wpAny _ A (if (ep != ep) = true then _ else _) _ E _
      rw [if_neg (by simp)]
      by_cases hkk : t' = t
      · subst hkk
        rw [decide_eq_true rfl]
        rcases hH with ⟨rfl, hj⟩ | ⟨j, rfl, hj, hjr⟩
        · rw [if_pos rfl]
          simp only [Bool.false_eq_true, Option.isSome_none, if_false]
          refine wpAny_bind ((wpAny_rule) ?_)
          split
          · exact wpAny_pure (wpAny_pure (hsome i e2))
          · exact wpAny_pure ⟨rfl, hnr, some i, rfl, hr', .inr ⟨i, rfl, e2, hni⟩⟩
        · exact absurd (x.one e2 hj ▸ List.mem_cons_self) hjr
      · rw [decide_eq_false hkk]
        rw [if_neg (by simp)]
        refine wpAny_bind ((wpAny_rule) ?_)
        rw [if_neg (by simp)]
        refine wpAny_pure ⟨rfl, hnr, hit, rfl, hr', ?_⟩
        rcases hH with ⟨rfl, hj⟩ | ⟨j, rfl, hj, hjr⟩
        · refine .inl ⟨rfl, fun j h2 => ?_⟩
          rcases List.mem_cons.mp (hj j h2) with rfl | h3
          · rw [e2] at h2
            exact absurd (Option.some.inj h2) hkk
          · exact h3
        · exact .inr ⟨j, rfl, hj, fun z => hjr (List.mem_cons_of_mem _ z)⟩
    · rintro b s' ⟨rfl, _, hit, rfl, _, hH⟩
      rcases hH with ⟨rfl, hj⟩ | ⟨j, rfl, hj, _⟩
      · exact wpAny_pure (hnone fun j h2 => absurd (hj j h2) (by simp))
      · exact wpAny_pure (hsome j hj)
  clear_value jp3
  have h2 : wpAny (model prog w) A (jp2 ()) Q E s := by
    dsimp only [jp2]
    by_cases hone : (st == [u]) = true
    · rw [if_pos hone]
      exact wpAny_bind (wpAny_pure h3)
    · rw [if_neg hone]
      exact wpAny_bind (tell h3)
  clear_value jp2
  have h1 : wpAny (model prog w) A (jp1 ()) Q E s := by
    dsimp only [jp1]
    by_cases hall : (u :: st).all carriedByValue = true
    · rw [if_pos hall, hpl]
      exact plain
    rw [if_neg hall]
    split
    · rename_i a
      rw [if_neg (hany a rfl)]
      exact h2
    · exact h2
  clear_value jp1
  split
  · rename_i y tk
    by_cases hx : (es.all fun e => isExactStrKey e.key) = true
    · rw [if_pos hx]
      have ht : t = .str y := hk.inj (r := .str y) ⟨tk, rfl⟩
      subst ht
      have hstr : ∀ (j : Nat) (hj : j < es.size), es[j].key.isStr y = decide (ts[j]? = some (.str y)) := fun j hj => by
        obtain ⟨t', f1, f2, f3, _⟩ := x.at_ j _ (Array.getElem?_eq_getElem hj)
        have hx' := Array.all_eq_true.mp hx j hj
        rw [f1]
        cases hq : es[j].key with
        | str z tz =>
          rw [hq] at f3
          obtain rfl : t' = .str z := f3.inj (r := .str z) ⟨tz, rfl⟩
          show (z == y) = _
          exact Bool.eq_iff_iff.mpr (by simp)
        | _ => rw [hq] at hx'; cases hx'
      unfold foundByValue
      cases hf : es.findIdx? (fun e => e.key.isStr y) with
      | none =>
        refine wpAny_pure (hnone fun j hj => ?_)
        obtain ⟨en, g1, _⟩ := x.of hj
        obtain ⟨hl, _⟩ := Array.getElem?_eq_some_iff.mp g1
        have := Array.findIdx?_eq_none_iff.mp hf es[j] (Array.getElem_mem hl)
        rw [hstr j hl, decide_eq_true hj] at this
        cases this
      | some i =>
        obtain ⟨hlt, hi, _⟩ := Array.findIdx?_eq_some_iff_getElem.mp hf
        rw [hstr i hlt] at hi
        have hi := of_decide_eq_true hi
        obtain ⟨t', f1, f2, f3, f4⟩ := x.at_ i _ (Array.getElem?_eq_getElem hlt)
        rw [hi] at f1
        cases f1
        simp only [Array.getElem?_eq_getElem hlt]
        refine wpAny_bind (wpAny_dictEpoch ho hd (wpAny_bind (eqa f3 f4 _ _ _ _ (wpAny_bind (wpAny_dictEpoch ho hd ?_)))))
        show wpAny _ A (if (ep != ep) = true then _ else _) _ E _
        rw [if_neg (by simp), decide_eq_true rfl]
        exact wpAny_bind (wpAny_rule (wpAny_pure (hsome i hi)))
    · rw [if_neg hx]
      exact h1
  · exact h1
end
end L2
namespace L2
open PySem PySem.Spec PyProof.Rows
structure DtR (P : Params) (m : List (Tr × V × V)) (es : Array DictEntry) : Prop where
  len : es.size = m.length
  at_ : ∀ (j : Nat) (x : Tr × V × V), m[j]? = some x → ∃ e, es[j]? = some e ∧ e.hash = x.1.hash P ∧ RelV x.2.1 e.key ∧ RelV x.2.2 e.val
def DtP (P : Params) (a : Addr) (m : List (Tr × V × V)) : Heap → Prop := fun h => m.length ≤ sizeLine ∧ (a == sysModules) = false ∧ ∃ o es ep, h.get? a = some o ∧ o.ExactDict ∧ o.data = .dict es ep ∧ DtR P m es
abbrev DtO (P : Params) (a : Addr) (m : List (Tr × V × V)) : HO := .ext (DtP P a m)
theorem DtP.one {P : Params} {a : Addr} {m : List (Tr × V × V)} (h1 h2 : Heap) (x : DtP P a m h1) (k : ∀ o, h1.get? a = some o → h2.get? a = some o) : DtP P a m h2 := by
  obtain ⟨z, y, o, es, ep, e, r⟩ := x
  exact ⟨z, y, o, es, ep, k _ e, r⟩
theorem dto_ok {Pr : Program} {w : World} {H : Hp} {h : Heap} {P : Params} {a : Addr} {m : List (Tr × V × V)} (x : DtP P a m h) : ObjOk Pr w H h a (DtO P a m) := by
  refine ⟨x, ?_, DtP.one⟩
  obtain ⟨_, _, o, _, _, e, _⟩ := x
  exact ⟨o, e⟩
def DtE (P : Params) (H : Hp) (a : Addr) (m : List (Tr × V × V)) : Prop := ∃ φ, H a = some (.ext φ) ∧ ∀ h, φ h → DtP P a m h
theorem DtE.of {P : Params} {H : Hp} {a : Addr} {m : List (Tr × V × V)} (h : H a = some (DtO P a m)) : DtE P H a m := ⟨_, h, fun _ x => x⟩
theorem DtE.mut {P : Params} {H : Hp} {a : Addr} {m : List (Tr × V × V)} (h : DtE P H a m) : Mut (H a) := by
  obtain ⟨φ, e, _⟩ := h
  rw [e]
  exact True.intro
def DtAt (P : Params) (H : Hp) (a : Addr) (kvs : List (Tr × V)) : Prop := ∃ m : List (Tr × V × V), m.map (fun x => (x.1, x.2.2)) = kvs ∧ DtE P H a m ∧ (∀ x ∈ m, x.1.At H x.2.1 [] ∧ x.1.h ≤ 8) ∧ (m.map (·.1)).Nodup
noncomputable def putM (m : List (Tr × V × V)) (t : Tr) (y v : V) : List (Tr × V × V) := if t ∈ m.map (·.1) then m.map (fun x => if x.1 = t then (x.1, x.2.1, v) else x) else m ++ [(t, y, v)]
theorem putM_kvs (m : List (Tr × V × V)) (t : Tr) (y v : V) : (putM m t y v).map (fun x => (x.1, x.2.2)) = putK (m.map fun x => (x.1, x.2.2)) t v := by
  have hany : ((m.map fun x => (x.1, x.2.2)).any fun kv => decide (kv.1 = t)) = decide (t ∈ m.map (·.1)) := by
    rw [Bool.eq_iff_iff, List.any_eq_true, decide_eq_true_iff, List.mem_map]
    constructor
    · rintro ⟨p, hp, e⟩
      obtain ⟨x, hx, rfl⟩ := List.mem_map.mp hp
      exact ⟨x, hx, of_decide_eq_true e⟩
    · rintro ⟨x, hx, e⟩
      exact ⟨_, List.mem_map_of_mem hx, decide_eq_true e⟩
  unfold putM putK
  rw [hany]
  by_cases h : t ∈ m.map (·.1)
  · rw [if_pos h, if_pos (decide_eq_true h), List.map_map, List.map_map]
    refine List.map_congr_left fun x _ => ?_
    simp only [Function.comp]
    split <;> rfl
  · rw [if_neg h, if_neg (by rw [decide_eq_false h]; exact Bool.false_ne_true), List.map_append]
    rfl
theorem putM_nd {m : List (Tr × V × V)} (t : Tr) (y v : V) (h : (m.map (·.1)).Nodup) : ((putM m t y v).map (·.1)).Nodup := by
  unfold putM
  by_cases ht : t ∈ m.map (·.1)
  · rw [if_pos ht, List.map_map]
    rw [show m.map ((·.1) ∘ fun x => if x.1 = t then (x.1, x.2.1, v) else x) = m.map (·.1) from List.map_congr_left fun x _ => by simp only [Function.comp]; split <;> rfl]
    exact h
  · rw [if_neg ht, List.map_append]
    exact nd_snoc h ht
theorem putM_all {m : List (Tr × V × V)} {t : Tr} {y v : V} {p : Tr → V → Prop} (h : ∀ x ∈ m, p x.1 x.2.1) (hy : p t y) : ∀ x ∈ putM m t y v, p x.1 x.2.1 := by
  intro x hx
  unfold putM at hx
  by_cases ht : t ∈ m.map (·.1)
  · rw [if_pos ht] at hx
    obtain ⟨z, hz, rfl⟩ := List.mem_map.mp hx
    split <;> exact h z hz
  · rw [if_neg ht] at hx
    rcases List.mem_append.mp hx with hx | hx
    · exact h x hx
    · rw [List.mem_singleton.mp hx]; exact hy
theorem dt_same {P : Params} {H H' : Hp} {a : Addr} {kvs : List (Tr × V)} (x : DtAt P H a kvs) (s : Same H H') : DtAt P H' a kvs := by
  obtain ⟨m, e1, ⟨φ, e2, hφ⟩, e3, e4⟩ := x
  exact ⟨m, e1, ⟨φ, s _ _ e2, hφ⟩, fun x hx => ⟨(e3 x hx).1.mono (s.keep _), (e3 x hx).2⟩, e4⟩
def TK (H : Hp) (t : Tr) (y : V) : Prop := t.At H y [] ∧ t.h ≤ 8
theorem valV_get {m : List (Tr × V × V)} (hn : (m.map (·.1)).Nodup) {j : Nat} {x : Tr × V × V} (e : m[j]? = some x) : valV (m.map fun x => (x.1, x.2.2)) x.1 = some x.2.2 := by
  induction m generalizing j with
  | nil => simp at e
  | cons z m ih =>
    rw [List.map_cons, List.nodup_cons] at hn
    cases j with
    | zero =>
      obtain rfl : z = x := by simpa using e
      exact valV_pos rfl
    | succ j =>
      have e' : m[j]? = some x := by simpa using e
      rw [List.map_cons, valV_neg (fun q => hn.1 (by
        show z.1 ∈ _
        rw [show z.1 = x.1 from q]
        exact List.mem_map_of_mem (List.mem_of_getElem? e')))]
      exact ih hn.2 e'
theorem valV_none {m : List (Tr × V × V)} {t : Tr} (h : ∀ j : Nat, (m.map (·.1))[j]? ≠ some t) : valV (m.map fun x => (x.1, x.2.2)) t = none ∧ t ∉ m.map (·.1) := by
  have hn : t ∉ m.map (·.1) := fun z => by
    obtain ⟨j, hj, e⟩ := List.mem_iff_getElem.mp z
    exact h j (by rw [List.getElem?_eq_getElem hj, e])
  refine ⟨?_, hn⟩
  unfold valV
  rw [List.find?_eq_none.mpr]
  · rfl
  · intro p hp
    obtain ⟨x, hx, rfl⟩ := List.mem_map.mp hp
    simp only [decide_eq_true_iff]
    exact fun z => hn (z ▸ List.mem_map_of_mem hx)
section
variable {X : Cx} {pins : List (Addr × Obj)} {σ : St} {H : Hp} {s : Shared} {a : Addr} {t : Tr} {y v : V} {u r : Value} {A : Around} {E : Value → Shared → Prop} {kvs : List (Tr × V)} {m : List (Tr × V × V)}
theorem dt_ents (I : Inv X pins σ H s) (e2 : DtE X.w.params H a m) (e3 : ∀ x ∈ m, x.1.At H x.2.1 [] ∧ x.1.h ≤ 8) (e4 : (m.map (·.1)).Nodup) :
    ∃ o es ep, s.heap.get? a = some o ∧ o.ExactDict ∧ o.data = .dict es ep ∧ DtR X.w.params m es ∧ Ents X.w.params s.heap es (m.map (·.1)) ∧ m.length ≤ sizeLine ∧ (a == sysModules) = false := by
  obtain ⟨φ, e2, hφ⟩ := e2
  obtain ⟨z1, z2, o, es, ep, q1, q2, q3, q4⟩ := hφ _ (I.hok a _ e2).1
  refine ⟨o, es, ep, q1, q2, q3, q4, ⟨by rw [q4.len, List.length_map], fun j e he => ?_, e4⟩, z1, z2⟩
  have hj : j < m.length := by rw [← q4.len]; exact (Array.getElem?_eq_some_iff.mp he).1
  obtain ⟨e', f1, f2, f3, f4⟩ := q4.at_ j m[j] (List.getElem?_eq_getElem hj)
  rw [he] at f1
  cases f1
  have := e3 m[j] (List.getElem_mem hj)
  exact ⟨m[j].1, by rw [List.getElem?_map, List.getElem?_eq_getElem hj]; rfl, f2, this.1.isIn I f3, this.2⟩
theorem dtr_snoc {P : Params} {es : Array DictEntry} {e : DictEntry} (x : DtR P m es) (h1 : e.hash = t.hash P) (h2 : RelV y e.key) (h3 : RelV v e.val) : DtR P (m ++ [(t, y, v)]) (es.push e) := by
  refine ⟨by simp [x.len], fun j z hz => ?_⟩
  by_cases hj : j < m.length
  · rw [List.getElem?_append_left hj] at hz
    obtain ⟨e', f1, f2⟩ := x.at_ j z hz
    exact ⟨e', by rw [Array.getElem?_push, if_neg (by rw [x.len]; omega)]; exact f1, f2⟩
  · rw [List.getElem?_append_right (by omega)] at hz
    have hj2 : j - m.length = 0 := by
      refine Nat.eq_zero_of_not_pos fun z => ?_
      rw [List.getElem?_eq_none (by simp; omega)] at hz
      cases hz
    rw [hj2] at hz
    cases hz
    exact ⟨e, by rw [Array.getElem?_push, if_pos (by rw [x.len]; omega)], h1, h2, h3⟩
end
end L2
namespace L2
open PySem PySem.Spec PyProof.Rows
def RawD (h : Heap) (d : Addr) (es : Array DictEntry) (ep : Nat) : Prop := ∃ o, h.get? d = some o ∧ o.ExactDict ∧ o.data = .dict es ep
theorem RawD.ty {s : Shared} {d : Addr} {es : Array DictEntry} {ep : Nat} (x : RawD s.heap d es ep) : s.TypeIs (.ref d) "dict" := let ⟨o, e, c, _⟩ := x; ⟨o, e, c.1⟩
theorem RawD.keep {h h' : Heap} {d : Addr} {es : Array DictEntry} {ep : Nat} (x : RawD h d es ep) (k : ∀ o, h.get? d = some o → h'.get? d = some o) : RawD h' d es ep := let ⟨o, e, r⟩ := x; ⟨o, k o e, r⟩
theorem RawD.lt {h : Heap} {d : Addr} {es : Array DictEntry} {ep : Nat} (x : RawD h d es ep) : d < h.objs.size := let ⟨_, e, _⟩ := x; Heap.lt_size e
section
variable {prog : Program} {w : World} {A : Around} {E : Value → Shared → Prop} {s : Shared} {d it : Addr} {es : Array DictEntry} {ep i : Nat}
theorem raw_iter {Q : Value → Shared → Prop} (lo : (d == sysModules) = false) (x : RawD s.heap d es ep)
    (q : Q (.ref s.heap.objs.size) { s with heap := s.heap.push { cls := .type "dict_keyiterator", data := .fields #[.ref d, .int 0 0, .int es.size 0, .int ep 0] } }) : wpAny (model prog w) A (pyIter (.ref d)) Q E s := by
  have T := x.ty
  obtain ⟨o, e1, e2, e3⟩ := x
  refine wpAny_pyIter_slot T F.slot_dict_iter (wpAny_call_entry F.slot_dict_iter T F.entry_dict_iter ?_ (F.args_dict_iter_1 _))
  unfold Builtin.«dict.__iter__»
  refine wpAny_bind ?_
  unfold Builtin.Dict.dictSlotNone
  refine wpAny_bind (wpAny_notOrdered_dict T ?_)
  refine (show wpAny _ _ (pure (Value.ref d)) _ _ s from wpAny_pure ?_)
  show wpAny _ A.in1 (Builtin.Dict.showsAll d >>= _) _ _ s
  unfold Builtin.Dict.showsAll
  rw [if_neg (by rw [lo]; simp)]
  refine wpAny_bind ((wpAny_pure) (wpAny_bind (wpAny_dictEntries e1 e3 (wpAny_bind (wpAny_dictEpoch e1 e3 (wpAny_bind (wpAny_newObj_type (wpAny_pure ⟨_, rfl, "dict_keyiterator", _, ⟨_, Heap.get?_push_size _ rfl, rfl⟩, F.slot_dict_keyiterator_next.lookup, ?_⟩))))))))
  simpa [rawInt] using q
theorem raw_item {Q : Option Value → Shared → Prop} {e : DictEntry} (hit : s.heap.IsKeyIter it d i es.size ep) (x : RawD s.heap d es ep) (he : es[i]? = some e)
    (q : ∀ h', h'.IsKeyIter it d (i + 1) es.size ep → Heap.SameBut it s.heap h' → Q (some e.key) { s with heap := h' }) : wpAny (model prog w) A (pyNext (.ref it)) Q E s := by
  have T := hit.typeIs
  obtain ⟨o, ho, hc, hd⟩ := id hit
  obtain ⟨od, g1, g2, g3⟩ := x
  have hlt : i < es.size := (Array.getElem?_eq_some_iff.mp he).1
  unfold pyNext
  refine wpAny_bind (wpAny_attempt (wpAny_callSpecial?_slot (name := Str.ofString "__next__") T F.slot_dict_keyiterator_next (wpAny_call_entry F.slot_dict_keyiterator_next T F.entry_dict_keyiterator_next ?_ (F.args_dict_keyiterator_next_1 _))))
  refine wpAny_bind ((wpAny_pure) (wpAny_bind (wpAny_bind ?_)))
  first | refine wpAny_bind (wpAny_typeNameOfWhole_keyiter T (wpAny_pure ?_)) | refine wpAny_bind (wpAny_typeNameOf_keyiter T (wpAny_pure ?_))
  refine wpAny_bind (wpAny_fieldsOf ho (hd) ?_)
  simp only [show Builtin.Dict_items.ownsTuple "dict_keyiterator" = false by decide, Bool.false_eq_true, if_false]
  show wpAny _ A.in1 (if (Value.ref d == Value.none) = true then _ else _) _ _ s
  rw [if_neg (fun z : (Value.ref d == Value.none) = true => Bool.false_ne_true z)]
  refine wpAny_bind ((wpAny_pure) (wpAny_bind (wpAny_dictEntries g1 g3 ?_)))
  rw [if_neg (by simp)]
  refine wpAny_bind ((wpAny_pure) (wpAny_bind (wpAny_dictEpoch g1 g3 ?_)))
  rw [if_neg (by simp)]
  refine wpAny_pure ?_
  simp only [show ¬ ((i : Int) < 0) by omega, if_false, Int.toNat_natCast, he]
  refine wpAny_bind ?_
  first | refine wpAny_bind (wpAny_typeNameOfWhole_keyiter T (wpAny_pure ?_)) | refine wpAny_bind (wpAny_typeNameOf_keyiter T (wpAny_pure ?_))
  refine wpAny_bind (wpAny_isOneOf_keyiter T ?_)
  show wpAny _ A.in1 (setField (.ref it) 1 (rawInt ((i : Int) + 1)) >>= _) _ _ s
  refine wpAny_bind (wpAny_setField ho (hd) (by simp) ?_)
  have hit2 : (s.heap.update it (Obj.mapFields (·.setIfInBounds 1 (rawInt ((i : Int) + 1))))).IsKeyIter it d (i + 1) es.size ep :=
    ⟨_, Heap.get?_update_self _ ho (Obj.isFreed_of_fields (Obj.data_mapFields hd _)), (Obj.cls_mapFields ..).trans hc, by rw [Obj.data_mapFields hd]; simp [rawInt]⟩
  refine wpAny_bind (wpAny_holding (wpAny_bind (wpAny_isOneOf_keyiter (s := { s with heap := s.heap.update it (Obj.mapFields (·.setIfInBounds 1 (rawInt ((i : Int) + 1)))) }) hit2.typeIs ?_)))
  show wpAny _ A.in1 (pure e.key) _ _ _
  exact wpAny_pure (wpAny_pure ⟨_, rfl, wpAny_pure (q _ hit2 (Heap.SameBut.update ..))⟩)
theorem raw_end {Q : Option Value → Shared → Prop} (hh : A.handled = none) (hit : s.heap.IsKeyIter it d i es.size ep) (x : RawD s.heap d es ep) (he : es.size ≤ i)
    (q : ∀ h', Heap.ExtBut it s.heap h' → Q none { s with heap := h' }) : wpAny (model prog w) A (pyNext (.ref it)) Q E s := by
  have T := hit.typeIs
  obtain ⟨o, ho, hc, hd⟩ := id hit
  obtain ⟨od, g1, g2, g3⟩ := x
  unfold pyNext
  refine wpAny_bind (wpAny_attempt (wpAny_callSpecial?_slot (name := Str.ofString "__next__") T F.slot_dict_keyiterator_next (wpAny_call_entry F.slot_dict_keyiterator_next T F.entry_dict_keyiterator_next ?_ (F.args_dict_keyiterator_next_1 _))))
  refine wpAny_bind ((wpAny_pure) (wpAny_bind (wpAny_bind ?_)))
  first | refine wpAny_bind (wpAny_typeNameOfWhole_keyiter T (wpAny_pure ?_)) | refine wpAny_bind (wpAny_typeNameOf_keyiter T (wpAny_pure ?_))
  refine wpAny_bind (wpAny_fieldsOf ho (hd) ?_)
  simp only [show Builtin.Dict_items.ownsTuple "dict_keyiterator" = false by decide, Bool.false_eq_true, if_false]
  show wpAny _ A.in1 (if (Value.ref d == Value.none) = true then _ else _) _ _ s
  rw [if_neg (fun z : (Value.ref d == Value.none) = true => Bool.false_ne_true z)]
  refine wpAny_bind ((wpAny_pure) (wpAny_bind (wpAny_dictEntries g1 g3 ?_)))
  rw [if_neg (by simp)]
  refine wpAny_bind ((wpAny_pure) (wpAny_bind (wpAny_dictEpoch g1 g3 ?_)))
  rw [if_neg (by simp)]
  refine wpAny_pure ?_
  simp only [show ¬ ((i : Int) < 0) by omega, if_false, Int.toNat_natCast, Array.getElem?_eq_none he]
  refine wpAny_bind ?_
  first | refine wpAny_bind (wpAny_typeNameOfWhole_keyiter T (wpAny_pure ?_)) | refine wpAny_bind (wpAny_typeNameOf_keyiter T (wpAny_pure ?_))
  show wpAny _ A.in1 (setField (.ref it) 0 .none >>= _) _ _ s
  refine wpAny_bind (wpAny_setField ho (hd) (by simp) ?_)
  show wpAny _ A.in1 (newExc (.type "StopIteration") [] >>= _) _ _ _
  refine wpAny_bind ?_
  simp only [newExc, newTuple]
  refine wpAny_bind (wpAny_newObj_type ?_ (by size_fits))
  refine wpAny_bind (m := firstArgMember _ _) (wpAny_of_eq (a := Value.none) (by first | rfl | (simp only [firstArgMember]; rfl)) (wpAny_newObj_type ?_ (by size_fits)))
  simp only [raiseNew]
  refine wpAny_bind (wpAny_handled ?_)
  rw [show A.in1.handled = none from hh]
  refine wpAny_bind ((wpAny_pure) ((wpAny_throw) ?_))
  refine wpAny_bind (wpAny_isInstance (b := true) (T := "StopIteration") ⟨_, Heap.get?_push_size _ rfl, rfl⟩ isSubtype_stop ?_)
  exact wpAny_pure (q _ (((Heap.SameBut.update ..).extBut.push _).push _))
end
theorem vals_of : ∀ {xs : List V} {us : List Value}, xs.length = us.length → (∀ (j : Nat) x u, xs[j]? = some x → us[j]? = some u → RelV x u) → Vals xs us
  | [], [], _, _ => .nil
  | x :: xs, u :: us, hl, h => .cons (h 0 x u rfl rfl) (vals_of (by simpa using hl) fun j y z hy hz => h (j + 1) y z (by simpa using hy) (by simpa using hz))
  | [], _ :: _, hl, _ => by simp at hl
  | _ :: _, [], hl, _ => by simp at hl
section
variable {X : Cx} {pins : List (Addr × Obj)} {σ : St} {H : Hp} {s : Shared} {a : Addr} {t : Tr} {y v z : V} {u r : Value} {A : Around} {E : Value → Shared → Prop} {kvs : List (Tr × V)} {m : List (Tr × V × V)}
theorem dt_raw (I : Inv X pins σ H s) (g : DtAt X.w.params H a kvs) : ∃ es ep, RawD s.heap a es ep ∧ (a == sysModules) = false ∧ es.size = kvs.length ∧ kvs.length ≤ sizeLine := by
  obtain ⟨m, rfl, e2, e3, e4⟩ := g
  obtain ⟨o, es, ep, q1, q2, q3, q4, q5, z1, z2⟩ := dt_ents I e2 e3 e4
  exact ⟨es, ep, ⟨o, q1, q2, q3⟩, z2, by rw [q4.len, List.length_map], by rw [List.length_map]; exact z1⟩
theorem dt_setDef {Q : Value → Shared → Prop} (hu : A.units + 20 < cLine) (I : Inv X pins σ H s) (e2 : DtE X.w.params H a m) (e3 : ∀ x ∈ m, x.1.At H x.2.1 [] ∧ x.1.h ≤ 8) (e4 : (m.map (·.1)).Nodup) (hz : m.length < sizeLine)
    (hk : TK H t y) (ry : RelV y u) (rz : RelV z r) (h1 : ∀ v w' s', valV (m.map fun x => (x.1, x.2.2)) t = some v → Inv X pins σ H s' → RelV v w' → Q w' s')
    (h2 : ∀ s', valV (m.map fun x => (x.1, x.2.2)) t = none → Inv X pins σ (upd H a (DtO X.w.params a (m ++ [(t, y, z)]))) s' → Q r s') :
    wpAny (model X.prog X.w) A (call (.builtin "dict.setdefault") [.ref a, u, r]) Q E s := by
  obtain ⟨_, _, x, lo, _, _⟩ := dt_raw I ⟨m, rfl, e2, e3, e4⟩
  obtain ⟨o, es, ep, q1, q2, q3, q4, q5, z1, z2⟩ := dt_ents I e2 e3 e4
  have hin := hk.1.isIn I ry
  refine wpAny_call_entry PySem.F.slot_dict_setdefault x.ty PySem.F.entry_dict_setdefault ?_ (PySem.F.args_dict_setdefault_3 _ _ _)
  unfold Builtin.«dict.setdefault»
  refine wpAny_bind ?_
  unfold Builtin.Dict.keyAndDefault
  refine wpAny_bind (wpAny_notOrdered_dict x.ty ?_)
  refine (show wpAny _ _ (pure (a, u, some r)) _ _ s from wpAny_pure ?_)
  show wpAny _ A.in1 (if (a == sysModules) = true then _ else (dictSetDefault a u r >>= _)) _ _ s
  rw [if_neg (by rw [lo]; simp)]
  refine wpAny_bind ?_
  unfold dictSetDefault
  try (with_reducible refine wpAny_holding ?_)
  refine wpAny_bind (hin.pyHash (by have := hk.2; rw [in1_units]; omega) fun n => ?_)
  refine wpAny_bind (find_tr (s := { s with toks := n }) q1 q3 q5 hin hk.2 (by rw [in1_units]; omega) (fun hn => ?_) fun j hj => ?_)
  · refine wpAny_bind (wpAny_rule (wpAny_bind (wpAny_updateDictKeys (s := { s with toks := n }) q1 q3 (wpAny_pure (wpAny_pure ⟨r, rfl, h2 _ (valV_none hn).1 (d_write (I.tok n) e2.mut (Heap.SameBut.update ..) ?_ (dto_ok ⟨by simp; omega, z2, _, _, ep + 1, Heap.get?_update_self _ q1 (Obj.isFreed_of_dict (Obj.data_mapDictKeys q3 _)), q2.mapDictKeys _, Obj.data_mapDictKeys q3 _, ?_⟩))⟩)) (by rw [q4.len]; omega))))
    · exact ⟨_, Heap.get?_update_self _ q1 (Obj.isFreed_of_dict (Obj.data_mapDictKeys q3 _))⟩
    · exact dtr_snoc q4 rfl ry rz
  · rw [List.getElem?_map] at hj
    obtain ⟨p, hp, rfl⟩ := Option.map_eq_some_iff.mp hj
    obtain ⟨en, f1, f2, f3, f4⟩ := q4.at_ j p hp
    refine wpAny_bind (wpAny_dictEntries (s := { s with toks := n }) q1 q3 ?_)
    rw [f1]
    exact wpAny_bind (wpAny_rule (wpAny_pure (wpAny_pure ⟨_, rfl, h1 _ _ _ (valV_get e4 hp) (I.tok _) f4⟩)))
end
end L2
namespace L2
open PySem PySem.Spec PyProof.Rows
theorem tups_updE {H : Hp} {a : Addr} {φ : Heap → Prop} {o : HO} (h : H a = some (.ext φ)) : Tups H (upd H a o) := fun b ys e => by rw [upd_ne (ne_of e h (fun z => nomatch z))]; exact e
theorem tr_tups {H H' : Hp} {t : Tr} {v : V} (h : t.At H v []) (k : Tups H H') : t.At H' v [] := h.mono ⟨k, fun _ m => absurd m (by simp)⟩
theorem tr_tups_s {H H' : Hp} {ts : List Tr} {vs : List V} (h : Tr.Ats H ts vs []) (k : Tups H H') : Tr.Ats H' ts vs [] := h.mono ⟨k, fun _ m => absurd m (by simp)⟩
theorem DtAt.mono {P : Params} {H H' : Hp} {a : Addr} {kvs : List (Tr × V)} (g : DtAt P H a kvs) (k : Tups H H') (e : H' a = H a) : DtAt P H' a kvs := by
  obtain ⟨m, e1, ⟨φ, e2, hφ⟩, e3, e4⟩ := g
  exact ⟨m, e1, ⟨φ, e.trans e2, hφ⟩, fun x hx => ⟨tr_tups (e3 x hx).1 k, (e3 x hx).2⟩, e4⟩
theorem dt_putM {P : Params} {H : Hp} {a : Addr} {m : List (Tr × V × V)} {t : Tr} {y v : V} (e2 : DtE P H a m) (e3 : ∀ x ∈ m, x.1.At H x.2.1 [] ∧ x.1.h ≤ 8) (e4 : (m.map (·.1)).Nodup) (hk : TK H t y) :
    DtAt P (upd H a (DtO P a (putM m t y v))) a (putK (m.map fun x => (x.1, x.2.2)) t v) := by
  obtain ⟨φ, e2, hφ⟩ := e2
  refine ⟨_, putM_kvs m t y v, .of upd_same, ?_, putM_nd t y v e4⟩
  exact putM_all (p := fun t y => t.At (upd H a (DtO P a (putM m _ _ _))) y [] ∧ t.h ≤ 8) (fun x hx => ⟨tr_tups (e3 x hx).1 (tups_updE e2), (e3 x hx).2⟩) ⟨tr_tups hk.1 (tups_updE e2), hk.2⟩
theorem putM_new {m : List (Tr × V × V)} {t : Tr} {y v : V} (h : valV (m.map fun x => (x.1, x.2.2)) t = none) : putM m t y v = m ++ [(t, y, v)] := by
  unfold putM
  rw [if_neg]
  intro z
  obtain ⟨x, hx, rfl⟩ := List.mem_map.mp z
  have := valV_not h
  exact this (by
    rw [List.map_map]
    exact List.mem_map_of_mem (f := fun x => x.1) hx)
def tTNew (P : Params) : TE := fun _ H Q => ∀ p o, H p = none → DtAt P (upd H p o) p [] → Q (.ref p) (upd H p o)
def tTSetD (P : Params) (td ty tx : TE) : TE := fun σ H Q => td σ H fun x H1 => ∃ a kvs, x = .ref a ∧ DtAt P H1 a kvs ∧ ty σ H1 fun y H2 => tx σ H2 fun z H3 => ∃ kvs' t, DtAt P H3 a kvs' ∧ TK H3 t y ∧ kvs'.length < sizeLine ∧
  (∀ v, valV kvs' t = some v → Q v H3) ∧ (valV kvs' t = none → ∀ o, DtAt P (upd H3 a o) a (kvs' ++ [(t, z)]) → Q z (upd H3 a o))
section
variable {X : Cx} {o i e f value : Expr} {pos pos' apos cpos : Pos} {td ty tv tx : TE} {P : Params}
theorem dt_new0 (h : Heap) (P : Params) (hb : sysModules < h.objs.size) : DtP P h.objs.size [] (h.push { cls := .type "dict", data := .dict #[] }) :=
  ⟨Nat.zero_le _, beq_eq_false_iff_ne.mpr (Ne.symm (Nat.ne_of_lt hb)), _, #[], 0, Heap.get?_push_size _ rfl, ⟨rfl, rfl, rfl⟩, rfl, rfl, fun j x hx => by simp at hx⟩
theorem pe_tnew (P : Params) : PE X (.Dict [] [] pos) (tTNew P) := fun pins s σ H Q I h =>
  wpAny_Dict_empty ⟨.ref s.heap.objs.size, _, I.laid (a := s.heap.objs.size) (o := DtO P s.heap.objs.size []) (t' := s.toks) (fun _ _ q => Heap.get?_push_of_some _ q) (Nat.le_refl _) (dto_ok (dt_new0 s.heap P I.big)), rfl,
    h _ _ (I.hok.fresh (Nat.le_refl _)) ⟨[], rfl, .of upd_same, fun x hx => absurd hx (by simp), List.nodup_nil⟩⟩
theorem pe_tsetd (hP : X.w.params = P) (hu : X.A.units + 64 < cLine) (ho : PE X o td) (he : PE X e ty) (hf : PE X f tx) (m : M2 X o "setdefault" apos e f cpos) : PE X (.Call (.Attribute o "setdefault" apos) [e, f] [] cpos) (tTSetD P td ty tx) := by
  subst hP
  intro pins s σ H Q I h
  refine wpAny_Call_method m.base m.few m.line PySem.F.plainAttrs_dict PySem.F.slot_dict_setdefault PySem.F.type_dict_setdefault (thn (ho pins s σ H _ I h) fun u s1 ⟨x, H1, I1, rx, a, kvs, ex, g1, q1⟩ => ?_)
  subst ex
  obtain rfl : u = Value.ref a := rx
  obtain ⟨es, ep, x, _⟩ := dt_raw I1 g1
  refine ⟨x.ty, (fun b q => by cases q; obtain ⟨ob, h1, h2, _⟩ := x; exact ⟨ob, h1, h2.2.1⟩), ?_⟩
  rw [m.trees]
  refine Calls.callWith_builtin rfl (Calls.evalArgs_plain (Calls.spliced_cons (thn (he pins s1 σ H1 _ I1 q1) fun iv s2 ⟨y, H2, I2, ry, q2⟩ => Calls.spliced_cons (thn (hf pins s2 σ H2 _ I2 q2) fun fv s3 ⟨z, H3, I3, rz, kvs', t, g, hk, hz, n1, n2⟩ => Calls.spliced_nil ?_))))
  obtain ⟨mm, rfl, e2, e3, e4⟩ := g
  rw [List.length_map] at hz
  refine dt_setDef (by omega) I3 e2 e3 e4 hz hk ry rz (fun v w' s' hv I' rv => ⟨v, H3, I', rv, n1 v hv⟩) fun s' hv I' => ⟨z, _, I', rz, n2 hv _ ?_⟩
  have := dt_putM (v := z) e2 e3 e4 hk
  rw [putM_new hv, putK_new z hv] at this
  exact this
end
def rNotInF (K : PySem.W.Frag) : R2 := fun x y H Q => ∃ (t : Tr) (ts : List Tr) (a : Addr) (vs : List V), t.At H x [] ∧ y = .ref a ∧ SqL K H a vs ∧ Tr.Ats H ts vs [] ∧ t.h ≤ 20 ∧ Tr.hs ts ≤ 20 ∧ Q (.bl (!decide (t ∈ ts))) H
def rSum (K : PySem.W.Frag) : List V → Hp → VK → Prop := fun xs H Q => ∃ (a : Addr) (ns : List Int), xs = [.ref a] ∧ SqL K H a (ns.map V.int) ∧ Q (.int ns.sum) H
section
variable {X : Cx}
theorem hs_mem {ts : List Tr} {t : Tr} (h : t ∈ ts) : t.h ≤ Tr.hs ts := by
  induction ts with
  | nil => cases h
  | cons x xs ih =>
    simp only [Tr.hs]
    rcases List.mem_cons.mp h with rfl | h
    · omega
    · have := ih h; omega
theorem ins_mem {h : Heap} {ts : List Tr} {us : List Value} (x : Tr.Ins h ts us) {z : Value} (hz : z ∈ us) : ∃ t ∈ ts, Tr.In h t z := by
  obtain ⟨j, hj, rfl⟩ := List.mem_iff_getElem.mp hz
  have hj' : j < ts.length := by rw [← x.len]; exact hj
  exact ⟨ts[j], List.getElem_mem hj', x.get j hj hj'⟩
theorem kop_notInF (K : PySem.W.Frag) (hu : X.A.units + 64 < cLine) (hK : X.K = K := by rfl) : OpR X (compareOp .NotIn) (rNotInF K) := by
  classical
  subst hK
  intro pins s σ H x y v u Q I rx ry h
  obtain ⟨t, ts, a, vs, h1, rfl, h2, h3, l1, l2, q⟩ := h
  cases ry
  obtain ⟨its, v1, p1, _⟩ := I.list h2
  have hin := h1.isIn I rx
  have his := h3.isIns I v1
  refine SeqAt.notIn_listAt (fun z => decide (∃ r, Tr.In s.heap r z ∧ r = t)) p1.isList (fun z hz => ?_) ?_
  · obtain ⟨r, hr, hz'⟩ := ins_mem his (by simpa using hz)
    have := hz'.eqAt hin (A := X.A.in1) (by have := hs_mem hr; rw [in1_units]; omega)
    rw [show decide (∃ q, Tr.In s.heap q z ∧ q = t) = decide (r = t) from Bool.eq_iff_iff.mpr (by
      simp only [decide_eq_true_iff]
      exact ⟨fun ⟨q, a, b⟩ => (hz'.inj a).trans b, fun e => ⟨r, hz', e⟩⟩)]
    exact this
  · refine ⟨.bl (!decide (t ∈ ts)), H, I, ?_, q⟩
    rw [show its.toArray.any (fun z => decide (∃ r, Tr.In s.heap r z ∧ r = t)) = decide (t ∈ ts) from ?_]
    · rfl
    rw [← Array.any_toList, Bool.eq_iff_iff, List.any_eq_true, decide_eq_true_iff]
    constructor
    · rintro ⟨z, hz, e⟩
      obtain ⟨r, hr, rfl⟩ := of_decide_eq_true e
      obtain ⟨r', hm, hr'⟩ := ins_mem his (by simpa using hz)
      exact hr'.inj hr ▸ hm
    · intro hm
      obtain ⟨j, hj, rfl⟩ := List.mem_iff_getElem.mp hm
      have hj' : j < its.length := by rw [his.len]; exact hj
      exact ⟨its[j], by simp, decide_eq_true ⟨_, his.get j hj' hj, rfl⟩⟩
theorem cl_sum (hc : X.calm = true) : CallR X (.builtin "sum") (rSum X.K) := by
  intro pins s σ H xs us Q I r h
  obtain ⟨a, ns, rfl, hS, q⟩ := h
  cases r with
  | cons r1 r2 =>
  cases r2
  cases r1
  obtain ⟨its, v1, p1, _⟩ := I.list hS
  have hi := intsAre_of v1
  obtain ⟨ys, e⟩ := hi.allInts.items
  have hn := nums_intItems (xs := ys)
  rw [← e, show its.toArray.toList = its from rfl, hi.numsOf] at hn
  refine sum_intListG (xs := ys) (I.ok.hd hc) (e ▸ p1.isList) fun h' tk t' hk => ⟨.int ns.sum, H, I.kept hk, ⟨t', ?_⟩, q⟩
  rw [preSum_eq, List.take_of_length_le (by simp), hn]
end
end L2
namespace L2
open PySem PySem.Spec PyProof.Rows
section
variable {P : Params} {σ : St} {H : Hp} {Q : VK} {td ty tx tv : TE} {nn bb cc : St → Hp → Prop} {rr : VK}
theorem i_tnew (h : ∀ p o, H p = none → DtAt P (upd H p o) p [] → Q (.ref p) (upd H p o)) : tTNew P σ H Q := h
theorem i_tsetd (h : td σ H fun x H1 => ∃ a kvs, x = .ref a ∧ DtAt P H1 a kvs ∧ ty σ H1 fun y H2 => tx σ H2 fun z H3 => ∃ kvs' t, DtAt P H3 a kvs' ∧ TK H3 t y ∧ kvs'.length < sizeLine ∧
  (∀ v, valV kvs' t = some v → Q v H3) ∧ (valV kvs' t = none → ∀ o, DtAt P (upd H3 a o) a (kvs' ++ [(t, z)]) → Q z (upd H3 a o))) : tTSetD P td ty tx σ H Q := h
end
def rNeNil (K : PySem.W.Frag) : R2 := fun x y H Q => ∃ a b xs, x = .ref a ∧ y = .ref b ∧ SqL K H a xs ∧ SqL K H b [] ∧ Q (.bl (!xs.isEmpty)) H
section
variable {X : Cx}
theorem kop_neNil (K : PySem.W.Frag) (hu : X.A.units + 64 < cLine) (hK : X.K = K := by rfl) : OpR X (compareOp .NotEq) (rNeNil K) := by
  subst hK
  intro pins s σ H x y v u Q I rx ry h
  obtain ⟨a, b, xs, rfl, rfl, h1, h2, q⟩ := h
  cases rx
  cases ry
  obtain ⟨is1, q1, p1, _⟩ := I.list h1
  obtain ⟨is2, q2, p2, _⟩ := I.list h2
  cases q2
  cases q1 with
  | nil =>
    have := SeqAt.RcNeAt.lists (A := X.A) (s := s) (e := fun _ => true) p1.isList p2.isList rfl (by omega) (fun j h1 _ => absurd h1 (by simp))
    exact this X.prog X.w X.xe (EP X pins σ Q) ⟨.bl false, H, I, rfl, q⟩
  | cons r1 r2 =>
    have := SeqAt.RcNeAt.lists_lengths (A := X.A) (s := s) p1.isList p2.isList (by simp) (by omega)
    exact this X.prog X.w X.xe (EP X pins σ Q) ⟨.bl true, H, I, rfl, q⟩
theorem kcl_sum (K : PySem.W.Frag) (h : X.calm = true := by rfl) (hK : X.K = K := by rfl) : CallR X (.builtin "sum") (rSum K) := hK ▸ cl_sum h
end
section
variable {K : PySem.W.Frag} {H : Hp} {Q : VK}
theorem i_neNil {a b : Addr} {xs : List V} (h1 : SqL K H a xs) (h2 : SqL K H b []) (h : Q (.bl (!xs.isEmpty)) H) : rNeNil K (.ref a) (.ref b) H Q := ⟨a, b, xs, rfl, rfl, h1, h2, h⟩
theorem i_sum {a : Addr} {ns : List Int} (h1 : SqL K H a (ns.map V.int)) (h : Q (.int ns.sum) H) : rSum K [.ref a] H Q := ⟨a, ns, rfl, h1, h⟩
theorem i_notInF {x : V} {a : Addr} {t : Tr} {ts : List Tr} {vs : List V} (h1 : t.At H x []) (h2 : SqL K H a vs) (h3 : Tr.Ats H ts vs []) (l1 : t.h ≤ 20) (l2 : Tr.hs ts ≤ 20) (h : Q (.bl (!decide (t ∈ ts))) H) : rNotInF K x (.ref a) H Q := ⟨t, ts, a, vs, h1, rfl, h2, h3, l1, l2, h⟩
end
end L2
namespace L2
open PySem PySem.Spec PyProof.Rows
def Off (d l : Addr) (H H' : Hp) : Prop := ∀ b o, b ≠ d → b ≠ l → H b = some o → H' b = some o
structure Deck (H : Hp) (d l : Addr) (n : Nat) : Prop where
  ex : ∃ (ms : List Int) (z : Int), H d = some (.lst [.ref l, .int (n : Nat), .int z]) ∧ H l = some (.lst (ms.map V.int)) ∧ ms.length ≤ 100
theorem Deck.ne {H : Hp} {d l : Addr} {n : Nat} (k : Deck H d l n) : d ≠ l := by
  obtain ⟨ms, z, h1, h2, _⟩ := k.ex
  rintro rfl
  rw [h1] at h2
  injection h2 with h2
  injection h2 with h2
  cases ms with
  | nil => simp at h2
  | cons m ms => simp at h2
theorem Off.trans {d l : Addr} {H H1 H2 : Hp} (a : Off d l H H1) (b : Off d l H1 H2) : Off d l H H2 := fun c o h1 h2 e => b c o h1 h2 (a c o h1 h2 e)
theorem Same.off {d l : Addr} {H H' : Hp} (s : Same H H') : Off d l H H' := fun b o _ _ e => s b o e
theorem Off.tups {d l : Addr} {H H' : Hp} {n : Nat} (f : Off d l H H') (k : Deck H d l n) : Tups H H' := fun b ys e => by
  obtain ⟨ms, z, h1, h2, _⟩ := k.ex
  exact f b _ (ne_of e h1 (fun z => nomatch z)) (ne_of e h2 (fun z => nomatch z)) e
theorem Deck.same {H H' : Hp} {d l : Addr} {n : Nat} (k : Deck H d l n) (s : Same H H') : Deck H' d l n := by
  obtain ⟨ms, z, h1, h2, h3⟩ := k.ex
  exact ⟨ms, z, s _ _ h1, s _ _ h2, h3⟩
theorem Deck.new {H : Hp} {d l p : Addr} {n : Nat} (k : Deck H d l n) (h : H p = none) : p ≠ d ∧ p ≠ l := by
  obtain ⟨ms, z, h1, h2, _⟩ := k.ex
  exact ⟨(ne_of_none h1 h).symm, (ne_of_none h2 h).symm⟩
theorem Off.free {d l p : Addr} {H H' : Hp} {n : Nat} (f : Off d l H H') (k : Deck H' d l n) (h : H' p = none) : H p = none := by
  obtain ⟨x1, x2⟩ := k.new h
  cases e : H p with
  | none => rfl
  | some o => rw [f p o x1 x2 e] at h; cases h
end L2
namespace L2
open PySem PySem.Spec PyProof.Rows
section
variable {X : Cx} {o e value : Expr} {f : Str} {pos pos' : Pos} {ta tv : TE}
theorem kpe_fld (K : PySem.W.Frag) (he : PE X e ta) (hb : attributeBase e f X.env (eval e X.env) = eval e X.env) (hK : X.K = K := by rfl) : PE X (.Attribute e f pos) (tFld K ta f) := hK ▸ pe_fld he hb
theorem kps_fld (K : PySem.W.Frag) (ha : PE X o ta) (hv : PE X value tv) (hs : swapsWith value (some (.Attribute o f pos')) pos.line X.env = pure false) (hK : X.K = K := by rfl) : PS X (.Assign [.Attribute o f pos'] value pos) (sFld K ta tv f) := hK ▸ ps_fld ha hv hs
end
section
variable {K : PySem.W.Frag} {σ : St} {H : Hp} {Q : VK} {ta tv : TE} {t : TA} {f m : Str} {C : Addr} {sp : Sp} {dvs : List V} {E : XK} {nn bb cc : St → Hp → Prop} {rr : VK}
theorem i_fld (h : ta σ H fun x H1 => ∃ a C dx fs v, x = .ref a ∧ H1 a = some (.ins C dx fs) ∧ Cls K C ∧ NoAttr K C f ∧ fs.lookup f = some v ∧ Q v H1) : tFld K ta f σ H Q := h
theorem i_sfld (h : tv σ H fun y H1 => ta σ H1 fun x H2 => ∃ a C dx fs, x = .ref a ∧ H2 a = some (.ins C dx fs) ∧ Cls K C ∧ NoAttr K C f ∧ fs.length < 1000 ∧ nn σ (upd H2 a (.ins C dx (putF f y fs)))) : sFld K ta tv f ⟨nn, rr, bb, cc⟩ σ H := h
theorem i_meth (h : ta σ H fun x H1 => ∃ a dx fs, x = .ref a ∧ H1 a = some (.ins C dx fs) ∧ fs.lookup m = none ∧ t σ H1 fun vs H2 => sp (x :: (vs ++ dvs)) H2 Q E) : tMeth C m sp dvs E ta t σ H Q := h
theorem i_make (h : t σ H fun vs H1 => ∀ x dx, H1 x = none → H1 dx = none → dx ≠ x → sp (.ref x :: (vs ++ dvs)) (upd (upd H1 dx (.own x)) x (.ins C dx [])) (fun v H2 => v = .non ∧ Q (.ref x) H2) E) : tMake C sp dvs E t σ H Q := h
end
theorem tups_updI {H : Hp} {a C dx : Addr} {fs : List (Str × V)} {o : HO} (h : H a = some (.ins C dx fs)) : Tups H (upd H a o) := fun b ys e => by rw [upd_ne (ne_of e h (fun z => nomatch z))]; exact e
end L2
namespace L2
open PySem PySem.Spec PyProof.Rows
inductive Tw where
  | sc (v : V)
  | tup (xs : List Tw)
  | lst (xs : List Tw)
def Scal : V → Prop
  | .non | .int _ | .str _ | .bl _ => True
  | _ => False
mutual
def Tw.At (H : Hp) : Tw → V → List Addr → Prop
  | .sc x, v, fs => v = x ∧ Scal x ∧ fs = []
  | .tup xs, v, fs => ∃ a vs, v = .ref a ∧ H a = some (.tup vs) ∧ Tw.Ats H xs vs fs
  | .lst xs, v, fs => ∃ a vs gs, v = .ref a ∧ H a = some (.lst vs) ∧ Tw.Ats H xs vs gs ∧ fs = a :: gs
def Tw.Ats (H : Hp) : List Tw → List V → List Addr → Prop
  | [], vs, fs => vs = [] ∧ fs = []
  | x :: xs, vs, fs => ∃ v ws f g, vs = v :: ws ∧ fs = f ++ g ∧ Tw.At H x v f ∧ Tw.Ats H xs ws g
end
theorem Tw.Ats.len {H : Hp} : ∀ {xs : List Tw} {vs : List V} {fs : List Addr}, Tw.Ats H xs vs fs → vs.length = xs.length
  | [], vs, fs, h => by simp only [Tw.Ats] at h; rw [h.1]; rfl
  | x :: xs, vs, fs, h => by
    simp only [Tw.Ats] at h
    obtain ⟨v, ws, f, g, rfl, rfl, _, b⟩ := h
    simp [b.len]
mutual
def Tw.h : Tw → Nat
  | .sc _ => 0
  | .tup xs => Tw.hs xs + 1
  | .lst xs => Tw.hs xs + 1
def Tw.hs : List Tw → Nat
  | [] => 0
  | x :: xs => max x.h (Tw.hs xs)
end
theorem scal_eq {A : Around} {s : Shared} {x : V} {u z : Value} (h : Scal x) (r1 : RelV x u) (r2 : RelV x z) : SeqAt.EqAt A s u z true := by
  cases x with
  | non => cases r1; cases r2; exact SeqAt.EqAt.same _
  | int i =>
    obtain ⟨t1, rfl⟩ := r1
    obtain ⟨t2, rfl⟩ := r2
    have := SeqAt.EqAt.int_int (A := A) (s := s) i t1 i t2
    simpa using this
  | str i =>
    obtain ⟨t1, rfl⟩ := r1
    obtain ⟨t2, rfl⟩ := r2
    have := SeqAt.EqAt.str_str (A := A) (s := s) i t1 i t2
    simpa using this
  | bl b =>
    cases (show u = Value.bool b from r1)
    cases (show z = Value.bool b from r2)
    exact SeqAt.EqAt.same _
  | _ => exact h.elim
section
variable {X : Cx} {pins : List (Addr × Obj)} {σ : St} {H : Hp} {s : Shared}
mutual
theorem Tw.eqAt (I : Inv X pins σ H s) : ∀ {t : Tw} {A : Around} {v w : V} {fs gs : List Addr} {u z : Value}, t.At H v fs → t.At H w gs → RelV v u → RelV w z → A.units + t.h < cLine → SeqAt.EqAt A s u z true
  | .sc x, A, v, w, fs, gs, u, z, h1, h2, r1, r2, hu => by
    simp only [Tw.At] at h1 h2
    obtain ⟨rfl, sc, -⟩ := h1
    obtain ⟨rfl, -, -⟩ := h2
    exact scal_eq sc r1 r2
  | .tup xs, A, v, w, fs, gs, u, z, h1, h2, r1, r2, hu => by
    simp only [Tw.At] at h1 h2
    obtain ⟨a, vs, rfl, e1, c1⟩ := h1
    obtain ⟨b, ws, rfl, e2, c2⟩ := h2
    cases r1
    cases r2
    by_cases hab : a = b
    · subst hab
      exact SeqAt.EqAt.same _
    refine SeqAt.EqAt.of_refs hab ?_
    obtain ⟨is1, q1, p1, _⟩ := I.tuple (SqT.of e1)
    obtain ⟨is2, q2, p2, _⟩ := I.tuple (SqT.of e2)
    simp only [Tw.h] at hu
    have hl : is1.length = is2.length := by rw [← q1.length, ← q2.length, c1.len, c2.len]
    have := SeqAt.RcAt.tuples (A := A) (s := s) (e := fun _ => true) p1 p2 (by omega) (fun j h1 h2 => by
      have := Tw.eqAts I (A := A.in1) c1 c2 q1 q2 (by rw [in1_units]; omega) j (by simpa using h1) (by simpa using h2)
      simpa using this)
    simpa [hl, all_tt] using this
  | .lst xs, A, v, w, fs, gs, u, z, h1, h2, r1, r2, hu => by
    simp only [Tw.At] at h1 h2
    obtain ⟨a, vs, _, rfl, e1, c1, _⟩ := h1
    obtain ⟨b, ws, _, rfl, e2, c2, _⟩ := h2
    cases r1
    cases r2
    by_cases hab : a = b
    · subst hab
      exact SeqAt.EqAt.same _
    refine SeqAt.EqAt.of_refs hab ?_
    obtain ⟨is1, q1, p1, _⟩ := I.list (SqL.of e1)
    obtain ⟨is2, q2, p2, _⟩ := I.list (SqL.of e2)
    simp only [Tw.h] at hu
    have hl : is1.length = is2.length := by rw [← q1.length, ← q2.length, c1.len, c2.len]
    have := SeqAt.RcAt.lists (A := A) (s := s) (e := fun _ => true) p1.isList p2.isList (by simpa using hl) (by omega) (fun j h1 h2 => by
      have := Tw.eqAts I (A := A.in1) c1 c2 q1 q2 (by rw [in1_units]; omega) j (by simpa using h1) (by simpa using h2)
      simpa using this)
    simpa [all_tt] using this
theorem Tw.eqAts (I : Inv X pins σ H s) : ∀ {ts : List Tw} {A : Around} {vs ws : List V} {fs gs : List Addr} {us zs : List Value}, Tw.Ats H ts vs fs → Tw.Ats H ts ws gs → Vals vs us → Vals ws zs → A.units + Tw.hs ts < cLine →
    ∀ (j : Nat) (h1 : j < us.length) (h2 : j < zs.length), SeqAt.EqAt A s us[j] zs[j] true
  | [], A, vs, ws, fs, gs, us, zs, c1, c2, q1, q2, hu, j, h1, h2 => by
    simp only [Tw.Ats] at c1
    obtain ⟨rfl, -⟩ := c1
    cases q1
    exact absurd h1 (by simp)
  | t :: ts, A, vs, ws, fs, gs, us, zs, c1, c2, q1, q2, hu, j, h1, h2 => by
    simp only [Tw.Ats] at c1 c2
    obtain ⟨v, vs, f, g, rfl, rfl, a1, b1⟩ := c1
    obtain ⟨w, ws, f', g', rfl, rfl, a2, b2⟩ := c2
    cases q1 with
    | cons r1 q1 =>
    cases q2 with
    | cons r2 q2 =>
    simp only [Tw.hs] at hu
    cases j with
    | zero => exact Tw.eqAt I a1 a2 r1 r2 (by omega)
    | succ j => exact Tw.eqAts I b1 b2 q1 q2 (by omega) j (by simpa using h1) (by simpa using h2)
end
def rNeW : R2 := fun x y H Q => ∃ t fs gs, (Tw.tup t).At H x fs ∧ (Tw.tup t).At H y gs ∧ Tw.hs t ≤ 50 ∧ Q (.bl false) H
theorem tw_rc (I : Inv X pins σ H s) {A : Around} {t : List Tw} {x y : V} {v u : Value} {fs gs : List Addr} (rx : RelV x v) (ry : RelV y u) (h1 : (Tw.tup t).At H x fs) (h2 : (Tw.tup t).At H y gs) (hu : A.units + Tw.hs t + 4 < cLine) : SeqAt.RcAt A s v u true ∧ SeqAt.RcNeAt A s v u false := by
  simp only [Tw.At] at h1 h2
  obtain ⟨a, vs, rfl, e1, c1⟩ := h1
  obtain ⟨b, ws, rfl, e2, c2⟩ := h2
  cases rx
  cases ry
  obtain ⟨is1, q1, p1, _⟩ := I.tuple (SqT.of e1)
  obtain ⟨is2, q2, p2, _⟩ := I.tuple (SqT.of e2)
  have hl : is1.length = is2.length := by rw [← q1.length, ← q2.length, c1.len, c2.len]
  have hh : ∀ (j : Nat) (h1 : j < is1.toArray.size) (h2 : j < is2.toArray.size), SeqAt.EqAt A.in1 s is1.toArray[j] is2.toArray[j] ((fun _ => true) j) := fun j h1 h2 => by
    have := Tw.eqAts I (A := A.in1) c1 c2 q1 q2 (by rw [in1_units]; omega) j (by simpa using h1) (by simpa using h2)
    simpa using this
  have k1 := SeqAt.RcAt.tuples (A := A) (s := s) (e := fun _ => true) p1 p2 (by omega) hh
  have k2 := SeqAt.RcNeAt.tuples (A := A) (s := s) (e := fun _ => true) p1 p2 (by omega) hh
  rw [show ((List.range (min is1.toArray.size is2.toArray.size)).all (fun _ => true) && is1.toArray.size == is2.toArray.size) = true by simp [hl]] at k1 k2
  exact ⟨k1, k2⟩
theorem kop_neW (hu : X.A.units + 64 < cLine) : OpR X (compareOp .NotEq) rNeW := by
  intro pins s σ H x y v u Q I rx ry h
  obtain ⟨t, fs, gs, h1, h2, hh, q⟩ := h
  exact (tw_rc I rx ry h1 h2 (A := X.A) (by omega)).2 X.prog X.w X.xe (EP X pins σ Q) ⟨.bl false, H, I, rfl, q⟩
theorem i_neW {H : Hp} {Q : VK} {x y : V} {t : List Tw} {fs gs : List Addr} (h1 : (Tw.tup t).At H x fs) (h2 : (Tw.tup t).At H y gs) (hh : Tw.hs t ≤ 50) (h : Q (.bl false) H) : rNeW x y H Q := ⟨t, fs, gs, h1, h2, hh, h⟩
end
end L2
namespace L2
open PySem PySem.Spec PyProof.Rows
def rInsert0 : V → List V → Hp → VK → Prop := fun x vs H Q => ∃ l xs y, x = .ref l ∧ vs = [.int 0, y] ∧ H l = some (.lst xs) ∧ xs.length < sizeLine ∧ Q .non (upd H l (.lst (y :: xs)))
def rRange1 : List V → Hp → VK → Prop := fun xs H Q => ∃ n : Nat, xs = [.int (n : Nat)] ∧ n ≤ 1000000 ∧ New H (.rng 0 (n : Nat)) Q
def rListR : List V → Hp → VK → Prop := fun xs H Q => ∃ (a : Addr) (n : Nat), xs = [.ref a] ∧ H a = some (.rng 0 (n : Nat)) ∧ n ≤ 1000000 ∧ New H (.lst (natsV (List.range n))) Q
section
variable {X : Cx}
theorem mt_insert0 : MtM X "list.insert" rInsert0 := by
  intro pins s σ H x vs v us Q I rx rv h
  obtain ⟨l, xs, y, rfl, rfl, hH, hz, q⟩ := h
  cases rx
  cases rv with
  | cons r1 r2 =>
  cases r2 with
  | cons r2 r3 =>
  cases r3
  obtain ⟨t0, rfl⟩ := r1
  obtain ⟨z, its, n, r, hl, e⟩ := I.lstM hH
  refine call_meets F.slot_list_insert ⟨_, e, rfl⟩ F.entry_list_insert (F.args_list_insert_3 _ _ _) (PySem.AutoSeq1.list_insert_list_int_val_1 l its.toArray n 0 t0 _ (by decide) (by rw [List.size_toArray]; omega)) ⟨e, ?_⟩
  refine ⟨.non, _, I.lset (its' := _ :: its) hH e (by simp) (.cons r2 r) ?_, rfl, q⟩
  rw [List.length_cons]
  omega
theorem cl_range1 : CallR X (.type "range") rRange1 := by
  intro pins s σ H xs us Q I r h
  obtain ⟨n, rfl, hn, q⟩ := h
  cases r with
  | cons r1 r2 =>
  cases r2
  obtain ⟨t, rfl⟩ := r1
  refine call_range_1 ⟨.ref s.heap.objs.size, upd H s.heap.objs.size (.rng 0 (n : Nat)), I.laid (fun b o e => Heap.get?_push_of_some _ e) (Nat.le_refl _) ⟨_, _, _, Heap.get?_push_size _ rfl⟩, rfl, New.to q _ I.fresh⟩
theorem cl_listR (hc : X.calm = true) : CallR X (.type "list") rListR := by
  intro pins s σ H xs us Q I r h
  obtain ⟨a, n, rfl, e, hn, q⟩ := h
  cases r with
  | cons r1 r2 =>
  cases r2
  cases r1
  obtain ⟨t, u, v, hg⟩ := I.hok a _ e
  refine call_list_range (n := n) (I.ok.hd hc) hg (small_one (by omega) (by omega) (by omega) (by omega)) (by rw [rangeSize_one]; split <;> omega) (by omega) fun h' tk acc c hk hS hacc => ⟨.ref s.heap.objs.size, _, I.laid (a := s.heap.objs.size) (t' := tk) hk (Nat.le_refl _) ?_, rfl, New.to q _ I.fresh⟩
  refine ⟨le_line (by simp [natsV]; omega), acc.toList, c, ?_, by simpa using hS⟩
  refine vals_of (by simp [natsV, hacc.1]) fun j x1 x2 hx1 hx2 => ?_
  have hj : j < n := by
    have := (List.getElem?_eq_some_iff.mp hx1).1
    simpa [natsV] using this
  obtain ⟨t2, rfl⟩ := hacc.2 j x2 (by rw [← Array.getElem?_toList]; exact hx2)
  have : x1 = .int (j : Nat) := by simpa [natsV, hj] using hx1.symm
  subst this
  exact ⟨t2, by simp⟩
end
theorem for_enum {K : PySem.W.Frag} {a : Addr} {xs : List V} {g : TG} {tb : TS} {D : Ends} {σ : St} {H : Hp} (Pv : Nat → St → Hp → Prop) (h0 : Pv 0 σ H) (hl : ∀ i σ H, i ≤ xs.length → Pv i σ H → SqL K H a xs)
    (hs : ∀ i x σ H q H2, xs[i]? = some x → Pv i σ H → Same H H2 → H2 q = some (.tup [.int (i : Nat), x]) → g (.ref q) σ H2 fun σ1 H1 => tb { D with nx := Pv (i + 1), ct := Pv (i + 1), bk := D.nx } σ1 H1)
    (hd : ∀ σ H, Pv xs.length σ H → D.nx σ H) : ForEnd (Ite K a) g tb D σ H := by
  refine ⟨fun i m σ H => m = xs.length - i ∧ i ≤ xs.length ∧ Pv i σ H, ⟨xs.length, by simp, Nat.zero_le _, h0⟩, ?_⟩
  rintro i m σ' H' ⟨rfl, hi, p⟩
  have hq := hl i σ' H' hi p
  by_cases hlt : i < xs.length
  · refine .inr ⟨⟨xs, xs[i], hq, by simp [hlt]⟩, Pv (i + 1), fun σ2 H2 p' => ⟨xs.length - (i + 1), by omega, rfl, hlt, p'⟩, fun v H2 y => ?_⟩
    obtain ⟨q, x, rfl, hn, sm, hT, hx⟩ := y
    exact hs i x σ' H' q H2 (hx xs hq) p sm hT
  · have e : i = xs.length := by omega
    subst e
    exact .inl ⟨⟨xs, hq, Nat.le_refl _⟩, hd σ' H' p⟩
section
variable {K : PySem.W.Frag} {H : Hp} {Q : VK}
theorem i_insert0 {l : Addr} {xs : List V} {y : V} (h1 : H l = some (.lst xs)) (hz : xs.length < sizeLine) (h : Q .non (upd H l (.lst (y :: xs)))) : rInsert0 (.ref l) [.int 0, y] H Q := ⟨l, xs, y, rfl, rfl, h1, hz, h⟩
theorem i_range1 {n : Nat} (hn : n ≤ 1000000) (h : New H (.rng 0 (n : Nat)) Q) : rRange1 [.int (n : Nat)] H Q := ⟨n, rfl, hn, h⟩
theorem i_listR {a : Addr} {n : Nat} (e : H a = some (.rng 0 (n : Nat))) (hn : n ≤ 1000000) (h : New H (.lst (natsV (List.range n))) Q) : rListR [.ref a] H Q := ⟨a, n, rfl, e, hn, h⟩
end
end L2
namespace L2
open PySem PySem.Spec PyProof.Rows
end L2
namespace L2
open PySem PySem.Spec PyProof.Rows
section
variable {X : Cx} {tg : Expr}
end
section
variable {σ : St} {H : Hp} {R : It → Hp → Prop} {ts : TA}
end
def relabelS (scope sc0 : Scope) : Scope := relabel scope { scope := sc0, locals := 0, globals := 0, cells := [] }
theorem cxC_scope {X : Cx} {N : List Str} {scope sc0 : Scope} {cl : List (Str × Addr)} {C : Addr} {s0 : Shared} {H0 : Hp} {ex : List Addr} (h : X.env.scope = sc0) : (cxC X N scope cl C s0 H0 ex).env.scope = relabelS scope sc0 := by
  subst h
  rfl
end L2
namespace L2
open PySem PySem.Spec PyProof.Rows
section
variable {X : Cx}
end
section
variable {K : PySem.W.Frag} {H : Hp} {Q : VK}
end
end L2
namespace L2
open PySem PySem.Spec PyProof.Rows
section
variable {X : Cx} {e st : Expr} {te ts : TE} {p2 pos : Pos}
end
end L2
namespace L2
open PySem PySem.Spec PyProof.Rows
section
variable {prog : Program} {w : World} {z TI TO i1 i2 i3 l1 l2 l3 : Addr} {xs ys us : Array Value} {st1 st2 st3 : Nat → Heap → Prop}
end
end L2
namespace L2
open PySem PySem.Spec PyProof.Rows
section
variable {X : Cx} {elts : List Expr} {x1 : Nat} {tpos : Pos}
end
end L2
namespace L2
open PySem PySem.Spec PyProof.Rows
section
variable {X : Cx} {k v : Expr} {pos : Pos} {tk tv : TE} {P : Params}
end
end L2
namespace L2
open PySem PySem.Spec PyProof.Rows
def Each {α β : Type} (R : α → β → Prop) (vs : List α) (xs : List β) : Prop := vs.length = xs.length ∧ ∀ (j : Nat) (v : α) (x : β), vs[j]? = some v → xs[j]? = some x → R v x
section
variable {α β : Type} {R : α → β → Prop} {vs : List α} {xs : List β}
theorem Each.nil : Each R ([] : List α) ([] : List β) := ⟨rfl, fun j v x h => by simp at h⟩
theorem Each.mono {R' : α → β → Prop} (h : Each R vs xs) (k : ∀ v x, R v x → R' v x) : Each R' vs xs := ⟨h.1, fun j v x h1 h2 => k v x (h.2 j v x h1 h2)⟩
theorem Each.append {ws : List α} {ys : List β} (h : Each R vs xs) (k : Each R ws ys) : Each R (vs ++ ws) (xs ++ ys) := by
  refine ⟨by simp [h.1, k.1], fun j v x h1 h2 => ?_⟩
  by_cases hj : j < vs.length
  · rw [List.getElem?_append_left hj] at h1
    rw [List.getElem?_append_left (by rw [← h.1]; exact hj)] at h2
    exact h.2 j v x h1 h2
  · rw [List.getElem?_append_right (by omega)] at h1
    rw [List.getElem?_append_right (by rw [← h.1]; omega), ← h.1] at h2
    exact k.2 _ v x h1 h2
theorem Each.snoc {v : α} {x : β} (h : Each R vs xs) (k : R v x) : Each R (vs ++ [v]) (xs ++ [x]) := h.append ⟨rfl, fun j w y h1 h2 => by
  cases j with
  | zero => cases h1; cases h2; exact k
  | succ j => simp at h1⟩
theorem Each.get {j : Nat} {x : β} (h : Each R vs xs) (k : xs[j]? = some x) : ∃ v, vs[j]? = some v ∧ R v x := by
  have hj : j < vs.length := by rw [h.1]; exact (List.getElem?_eq_some_iff.mp k).1
  exact ⟨vs[j], List.getElem?_eq_getElem hj, h.2 j _ x (List.getElem?_eq_getElem hj) k⟩
end
abbrev RRow := List Str × Nat
abbrev RRoom := Bool × List RRow
def RowAt (H : Hp) (v : V) (x : RRow) : Prop := ∃ k sl, v = .ref k ∧ H k = some (.tup [.ref sl, .int (x.2 : Nat)]) ∧ H sl = some (.lst (strsV x.1))
def RoomAt (H : Hp) (v : V) (r : RRoom) : Prop := ∃ q g ps, v = .ref q ∧ H q = some (.tup [.bl r.1, .ref g]) ∧ H g = some (.lst ps) ∧ Each (RowAt H) ps r.2
theorem RowAt.same {H H' : Hp} {v : V} {x : RRow} (h : RowAt H v x) (s : Same H H') : RowAt H' v x := by
  obtain ⟨k, sl, e, h1, h2⟩ := h
  exact ⟨k, sl, e, s _ _ h1, s _ _ h2⟩
theorem RoomAt.same {H H' : Hp} {v : V} {r : RRoom} (h : RoomAt H v r) (s : Same H H') : RoomAt H' v r := by
  obtain ⟨q, g, ps, e, h1, h2, h3⟩ := h
  exact ⟨q, g, ps, e, s _ _ h1, s _ _ h2, h3.mono fun v x hx => hx.same s⟩
structure TblOk (many : Nat) (rs : List RRoom) : Prop where
  nm : many ≤ 100
  nr : rs.length ≤ 300
  rows : ∀ r ∈ rs, r.2.length = many ∧ ∀ x ∈ r.2, x.2 < rs.length
section
variable {f : Nat → Option Nat} {rep rk : Nat → Nat}
end
def hF (d : Addr) : List (Str × V) := putF "heads" (.ref d) []
def But (d : Addr) (H H' : Hp) : Prop := ∀ b o, b ≠ d → H b = some o → H' b = some o
theorem But.refl {d : Addr} {H : Hp} : But d H H := fun _ _ _ e => e
theorem But.trans {d : Addr} {H H1 H2 : Hp} (a : But d H H1) (b : But d H1 H2) : But d H H2 := fun c o h e => b c o h (a c o h e)
theorem Same.but {d : Addr} {H H' : Hp} (s : Same H H') : But d H H' := fun b o _ e => s b o e
theorem But.upd {d : Addr} {H H' : Hp} {o : HO} (b : But d H H') : But d H (upd H' d o) := fun c u h e => by rw [upd_ne h]; exact b c u h e
abbrev Pr := Nat × Nat
def roomA (rs : List RRoom) (x : Nat) : RRoom := rs.getD x (false, [])
def rowA (rs : List RRoom) (x j : Nat) : RRow := (roomA rs x).2.getD j ([], 0)
theorem rowA_lt {rs : List RRoom} {many x j : Nat} (ok : TblOk many rs) (hx : x < rs.length) (hj : j < many) : (rowA rs x j).2 < rs.length ∧ rs[x]? = some (roomA rs x) ∧ (roomA rs x).2[j]? = some (rowA rs x j) := by
  have e : rs[x]? = some (roomA rs x) := by unfold roomA; simp [hx]
  obtain ⟨h1, h2⟩ := ok.rows _ (List.mem_of_getElem? e)
  have e2 : (roomA rs x).2[j]? = some (rowA rs x j) := by unfold rowA; simp [h1, hj]
  exact ⟨h2 _ (List.mem_of_getElem? e2), e, e2⟩
def pairT (p : Pr) : Tr := .tup [.int (p.1 : Nat), .int (p.2 : Nat)]
end L2
namespace L2
open PySem PySem.Spec PyProof.Rows
section
variable {X : Cx}
end
section
variable {H : Hp} {Q : VK}
end
section
variable {X : Cx} {pins : List (Addr × Obj)} {σ : St} {H : Hp} {s : Shared}
end
end L2
namespace L2
open PySem PySem.Spec PyProof.Rows
section
variable {X : Cx} {pins : List (Addr × Obj)} {σ : St} {H : Hp} {s : Shared} {a : Addr} {t : Tr} {y v z : V} {u r : Value} {A : Around} {E : Value → Shared → Prop} {kvs : List (Tr × V)} {m : List (Tr × V × V)}
end
section
variable {X : Cx} {o i e f value : Expr} {pos pos' apos cpos : Pos} {td ty tv tx : TE} {P : Params}
end
section
variable {K : PySem.W.Frag} {P : Params} {σ : St} {H : Hp} {Q : VK} {td ty tx tv : TE}
end
end L2
namespace L2
open PySem PySem.Spec PyProof.Rows
section
variable {prog : Program} {w : World} {A : Around} {E : Value → Shared → Prop} {s : Shared}
end
section
variable {X : Cx} {elts : List Expr} {x1 : Nat} {tpos : Pos}
end
end L2
namespace L2
open PySem PySem.Spec PyProof.Rows
end L2
namespace L2
open PySem PySem.Spec PyProof.Rows
def rEqLs : R2 := fun x y H Q => ∃ t fs gs, (Tr.lst t).At H x fs ∧ (Tr.lst t).At H y gs ∧ Tr.hs t ≤ 60 ∧ Q (.bl true) H
theorem kop_eqLs {X : Cx} (hu : X.A.units + 64 < cLine) : OpR X (compareOp .Eq) rEqLs := by
  intro pins s σ H x y v u Q I rx ry h
  obtain ⟨t, fs, gs, h1, h2, hh, q⟩ := h
  simp only [Tr.At] at h1 h2
  obtain ⟨a, vs, _, rfl, e1, c1, _⟩ := h1
  obtain ⟨b, ws, _, rfl, e2, c2, _⟩ := h2
  cases rx
  cases ry
  obtain ⟨is1, q1, p1, _⟩ := I.list (SqL.of e1)
  obtain ⟨is2, q2, p2, _⟩ := I.list (SqL.of e2)
  have hl : is1.length = is2.length := by rw [← q1.length, ← q2.length, c1.len, c2.len]
  have := SeqAt.RcAt.lists (A := X.A) (s := s) (e := fun _ => true) p1.isList p2.isList (by simpa using hl) (by omega) (fun j h1 h2 => by
    have := Tr.eqAts I (A := X.A.in1) c1 c2 q1 q2 (by rw [in1_units]; omega) j (by simpa using h1) (by simpa using h2)
    simpa using this) X.prog X.w X.xe (EP X pins σ Q)
  refine this ⟨.bl true, H, I, ?_, q⟩
  rw [show ((List.range is1.toArray.size).all fun _ => true) = true by simp]
  rfl
theorem i_eqLs {H : Hp} {Q : VK} {x y : V} {t : List Tr} {fs gs : List Addr} (h1 : (Tr.lst t).At H x fs) (h2 : (Tr.lst t).At H y gs) (hh : Tr.hs t ≤ 60) (h : Q (.bl true) H) : rEqLs x y H Q := ⟨t, fs, gs, h1, h2, hh, h⟩
end L2
namespace L2
open PySem PySem.Spec PyProof.Rows
end L2
namespace L2
open PySem PySem.Spec PyProof.Rows
section
variable {prog : Program} {w : World} {A : Around} {E : Value → Shared → Prop} {s : Shared} {d : Addr} {es : Array DictEntry} {ep : Nat}
theorem raw_len {Q : Value → Shared → Prop} (lo : (d == sysModules) = false) (x : RawD s.heap d es ep) (hz : (es.size : Int) < 2 ^ 63) (h : Q (.int es.size (s.toks + 1)) { s with toks := s.toks + 1 + 1 }) : wpAny (model prog w) A (call (.builtin "len") [.ref d]) Q E s := by
  have T := x.ty
  obtain ⟨o, e1, e2, e3⟩ := x
  refine Calls.call_function_entry kind_len plain_len entry_len (args_len1 _) ?_
  unfold Builtin.«len»
  refine wpAny_bind (m := oneArg "len" _) (wpAny_pure ?_)
  refine wpAny_bind (m := callSpecial? (.ref d) (Str.ofString "__len__")) (wpAny_callSpecial?_slot (name := Str.ofString "__len__") T F.slot_dict_len (wpAny_call_entry F.slot_dict_len T F.entry_dict_len ?_ (F.args_dict_len_1 _)))
  unfold Builtin.«dict.__len__»
  show wpAny _ _ (dictSize d >>= _) _ _ s
  unfold dictSize
  refine wpAny_bind (wpAny_bind (wpAny_dictEntries e1 e3 (wpAny_pure ?_)))
  show wpAny _ _ (Builtin.Dict.pendingCount d >>= _) _ _ s
  refine wpAny_bind (wpAny_pendingCount_other lo ?_)
  show wpAny _ _ (retInt _) _ _ s
  unfold retInt
  refine wpAny_bind (wpAny_mkInt (wpAny_pure ⟨_, rfl, ?_⟩))
  rw [show ((es.size : Nat) : Int) + ((0 : Nat) : Int) = ((es.size : Nat) : Int) by simp]
  refine wpAny_bind (wpAny_holding (wpAny_pure ?_))
  refine wpAny_bind (wpAny_letGo ?_)
  show wpAny _ _ (if ((es.size : Nat) : Int) < 0 then _ else _) _ _ _
  rw [if_neg (by omega)]
  show wpAny _ _ (if ((es.size : Nat) : Int) ≥ 2 ^ 63 then _ else _) _ _ _
  rw [if_neg (by omega)]
  exact wpAny_bind (wpAny_mkInt (wpAny_pure ⟨_, rfl, h⟩))
end
end L2
namespace L2
open PySem PySem.Spec PyProof.Rows
end L2
namespace L2
open PySem PySem.Spec PyProof.Rows
section
variable {prog : Program} {w : World} {A : Around} {E : Value → Shared → Prop} {s : Shared} {d it : Addr} {es : Array DictEntry} {ep i : Nat}
theorem rawv_item {Q : Option Value → Shared → Prop} {e : DictEntry} (hit : s.heap.IsValIter it d i es.size ep) (x : RawD s.heap d es ep) (he : es[i]? = some e)
    (q : ∀ h', h'.IsValIter it d (i + 1) es.size ep → Heap.SameBut it s.heap h' → Q (some e.val) { s with heap := h' }) : wpAny (model prog w) A (pyNext (.ref it)) Q E s := by
  have T := hit.typeIs
  obtain ⟨o, ho, hc, hd⟩ := id hit
  obtain ⟨od, g1, g2, g3⟩ := x
  have hlt : i < es.size := (Array.getElem?_eq_some_iff.mp he).1
  unfold pyNext
  refine wpAny_bind (wpAny_attempt (wpAny_callSpecial?_slot (name := Str.ofString "__next__") T F.slot_dict_valueiterator_next (wpAny_call_entry F.slot_dict_valueiterator_next T F.entry_dict_valueiterator_next ?_ (F.args_dict_valueiterator_next_1 _))))
  refine wpAny_bind ((wpAny_pure) (wpAny_bind (wpAny_bind ?_)))
  first | refine wpAny_bind (wpAny_typeNameOfWhole_valiter T (wpAny_pure ?_)) | refine wpAny_bind (wpAny_typeNameOf_valiter T (wpAny_pure ?_))
  refine wpAny_bind (wpAny_fieldsOf ho (hd) ?_)
  simp only [show Builtin.Dict_items.ownsTuple "dict_valueiterator" = false by decide, Bool.false_eq_true, if_false]
  show wpAny _ A.in1 (if (Value.ref d == Value.none) = true then _ else _) _ _ s
  rw [if_neg (fun z : (Value.ref d == Value.none) = true => Bool.false_ne_true z)]
  refine wpAny_bind ((wpAny_pure) (wpAny_bind (wpAny_dictEntries g1 g3 ?_)))
  rw [if_neg (by simp)]
  refine wpAny_bind ((wpAny_pure) (wpAny_bind (wpAny_dictEpoch g1 g3 ?_)))
  rw [if_neg (by simp)]
  refine wpAny_pure ?_
  simp only [show ¬ ((i : Int) < 0) by omega, if_false, Int.toNat_natCast, he]
  refine wpAny_bind ?_
  first | refine wpAny_bind (wpAny_typeNameOfWhole_valiter T (wpAny_pure ?_)) | refine wpAny_bind (wpAny_typeNameOf_valiter T (wpAny_pure ?_))
  refine wpAny_bind (wpAny_isOneOf_valiter T ?_)
  show wpAny _ A.in1 (setField (.ref it) 1 (rawInt ((i : Int) + 1)) >>= _) _ _ s
  refine wpAny_bind (wpAny_setField ho (hd) (by simp) ?_)
  have hit2 : (s.heap.update it (Obj.mapFields (·.setIfInBounds 1 (rawInt ((i : Int) + 1))))).IsValIter it d (i + 1) es.size ep :=
    ⟨_, Heap.get?_update_self _ ho (Obj.isFreed_of_fields (Obj.data_mapFields hd _)), (Obj.cls_mapFields ..).trans hc, by rw [Obj.data_mapFields hd]; simp [rawInt]⟩
  refine wpAny_bind (wpAny_holding (wpAny_bind (wpAny_isOneOf_valiter (s := { s with heap := s.heap.update it (Obj.mapFields (·.setIfInBounds 1 (rawInt ((i : Int) + 1)))) }) hit2.typeIs ?_)))
  rw [if_neg (by decide)]
  refine wpAny_bind (wpAny_isOneOf_valiter (s := { s with heap := s.heap.update it (Obj.mapFields (·.setIfInBounds 1 (rawInt ((i : Int) + 1)))) }) hit2.typeIs ?_)
  show wpAny _ A.in1 (pure e.val) _ _ _
  exact wpAny_pure (wpAny_pure ⟨_, rfl, wpAny_pure (q _ hit2 (Heap.SameBut.update ..))⟩)
theorem rawv_end {Q : Option Value → Shared → Prop} (hh : A.handled = none) (hit : s.heap.IsValIter it d i es.size ep) (x : RawD s.heap d es ep) (he : es.size ≤ i)
    (q : ∀ h', Heap.ExtBut it s.heap h' → Q none { s with heap := h' }) : wpAny (model prog w) A (pyNext (.ref it)) Q E s := by
  have T := hit.typeIs
  obtain ⟨o, ho, hc, hd⟩ := id hit
  obtain ⟨od, g1, g2, g3⟩ := x
  unfold pyNext
  refine wpAny_bind (wpAny_attempt (wpAny_callSpecial?_slot (name := Str.ofString "__next__") T F.slot_dict_valueiterator_next (wpAny_call_entry F.slot_dict_valueiterator_next T F.entry_dict_valueiterator_next ?_ (F.args_dict_valueiterator_next_1 _))))
  refine wpAny_bind ((wpAny_pure) (wpAny_bind (wpAny_bind ?_)))
  first | refine wpAny_bind (wpAny_typeNameOfWhole_valiter T (wpAny_pure ?_)) | refine wpAny_bind (wpAny_typeNameOf_valiter T (wpAny_pure ?_))
  refine wpAny_bind (wpAny_fieldsOf ho (hd) ?_)
  simp only [show Builtin.Dict_items.ownsTuple "dict_valueiterator" = false by decide, Bool.false_eq_true, if_false]
  show wpAny _ A.in1 (if (Value.ref d == Value.none) = true then _ else _) _ _ s
  rw [if_neg (fun z : (Value.ref d == Value.none) = true => Bool.false_ne_true z)]
  refine wpAny_bind ((wpAny_pure) (wpAny_bind (wpAny_dictEntries g1 g3 ?_)))
  rw [if_neg (by simp)]
  refine wpAny_bind ((wpAny_pure) (wpAny_bind (wpAny_dictEpoch g1 g3 ?_)))
  rw [if_neg (by simp)]
  refine wpAny_pure ?_
  simp only [show ¬ ((i : Int) < 0) by omega, if_false, Int.toNat_natCast, Array.getElem?_eq_none he]
  refine wpAny_bind ?_
  first | refine wpAny_bind (wpAny_typeNameOfWhole_valiter T (wpAny_pure ?_)) | refine wpAny_bind (wpAny_typeNameOf_valiter T (wpAny_pure ?_))
  show wpAny _ A.in1 (setField (.ref it) 0 .none >>= _) _ _ s
  refine wpAny_bind (wpAny_setField ho (hd) (by simp) ?_)
  show wpAny _ A.in1 (newExc (.type "StopIteration") [] >>= _) _ _ _
  refine wpAny_bind ?_
  simp only [newExc, newTuple]
  refine wpAny_bind (wpAny_newObj_type ?_ (by size_fits))
  refine wpAny_bind (m := firstArgMember _ _) (wpAny_of_eq (a := Value.none) (by first | rfl | (simp only [firstArgMember]; rfl)) (wpAny_newObj_type ?_ (by size_fits)))
  simp only [raiseNew]
  refine wpAny_bind (wpAny_handled ?_)
  rw [show A.in1.handled = none from hh]
  refine wpAny_bind ((wpAny_pure) ((wpAny_throw) ?_))
  refine wpAny_bind (wpAny_isInstance (b := true) (T := "StopIteration") ⟨_, Heap.get?_push_size _ rfl, rfl⟩ isSubtype_stop ?_)
  exact wpAny_pure (q _ (((Heap.SameBut.update ..).extBut.push _).push _))
theorem rawv_walks (hh : A.handled = none) (hne : d ≠ it) : Walks prog w A it [it, d] [it] es.size (fun i v => ∃ e, es[i]? = some e ∧ v = e.val) (fun i h => h.IsValIter it d i es.size ep ∧ RawD h d es ep) where
  sub := fun b hb => by simp at hb; simp [hb]
  frame := fun _ _ _ st hk => ⟨st.1.at fun o e => hk it (by simp) o e, st.2.keep fun o e => hk d (by simp) o e⟩
  item := fun i s Q E hi st hQ => rawv_item st.1 st.2 (Array.getElem?_eq_getElem hi) fun h' hit' hs => hQ _ h' s.toks ⟨_, Array.getElem?_eq_getElem hi, rfl⟩ ⟨hit', st.2.keep fun o e => hs.extBut d o hne e⟩ fun b o hb e => hs.extBut b o (fun h => hb (by simp [h])) e
  done := fun s Q E st hQ => rawv_end hh st.1 st.2 (Nat.le_refl _) fun h' he' => hQ h' s.toks fun b o hb e => he' b o (fun h => hb (by simp [h])) e
  self := fun _ _ _ _ st hQ => wpAny_pyIter_valiter st.1 hQ
end
end L2
namespace L2
open PySem PySem.Spec PyProof.Rows
def ViewAt (H : Hp) (p d : Addr) : Prop := H p = some (.ext fun h => h.IsValuesView p d)
def tTVals (P : Params) (td : TE) : TE := fun σ H Q => td σ H fun x H1 => ∃ a kvs, x = .ref a ∧ DtAt P H1 a kvs ∧ ∀ p H', H1 p = none → Same H1 H' → ViewAt H' p a → Q (.ref p) H'
theorem i_tvals {P : Params} {td : TE} {σ : St} {H : Hp} {Q : VK} (h : td σ H fun x H1 => ∃ a kvs, x = .ref a ∧ DtAt P H1 a kvs ∧ ∀ p H', H1 p = none → Same H1 H' → ViewAt H' p a → Q (.ref p) H') : tTVals P td σ H Q := h
section
variable {X : Cx} {P : Params} {o : Expr} {td : TE} {apos cpos : Pos}
theorem pe_tvals (hP : X.w.params = P) (ho : PE X o td) (hbase : attributeBase o "values" X.env (eval o X.env) = eval o X.env := by rfl) (hline : (apos.endLine == cpos.line) = true := by rfl) : PE X (.Call (.Attribute o "values" apos) [] [] cpos) (tTVals P td) := by
  subst hP
  intro pins s σ H Q I h
  refine wpAny_Call_method0_late hbase hline (thn (ho pins s σ H _ I h) fun v s1 ⟨x, H1, I1, r1, a, kvs, ex, g1, q1⟩ => ?_)
  subst ex
  obtain rfl : v = Value.ref a := r1
  obtain ⟨es, ep, x, lo, _⟩ := dt_raw I1 g1
  refine ⟨"dict", "dict.values", PySem.F.plainAttrs_dict, PySem.F.slot_dict_values, PySem.F.type_dict_values, x.ty, (fun b q => by cases q; obtain ⟨ob, h1, h2, _⟩ := x; exact ⟨ob, h1, h2.2.1⟩), Calls.callWith_builtin rfl (PySem.evalArgs_none ?_)⟩
  refine wpAny_call_entry PySem.F.slot_dict_values x.ty PySem.F.entry_dict_values ?_ (PySem.F.args_dict_values_1 _)
  unfold Builtin.«dict.values»
  refine wpAny_bind ?_
  unfold Builtin.Dict.noArgs
  refine wpAny_bind (wpAny_notOrdered_dict x.ty ?_)
  show wpAny _ _ (pure a) _ _ s1
  refine wpAny_pure ?_
  show wpAny _ _ (Builtin.Dict.showsAll a >>= _) _ _ s1
  unfold Builtin.Dict.showsAll
  rw [if_neg (by rw [lo]; exact Bool.false_ne_true)]
  refine wpAny_bind (wpAny_pure (wpAny_bind (wpAny_newObj_type (wpAny_pure ⟨_, rfl, ?_⟩))))
  have hp := I1.hok.fresh (Nat.le_refl s1.heap.objs.size)
  have vw : (s1.heap.push { cls := .type "dict_values", data := .fields #[.ref a] }).IsValuesView s1.heap.objs.size a := ⟨_, Heap.get?_push_size _ rfl, rfl, rfl⟩
  have I2 := I1.laid (t' := s1.toks) (h' := s1.heap.push { cls := .type "dict_values", data := .fields #[.ref a] }) (a := s1.heap.objs.size) (o := .ext fun h => h.IsValuesView s1.heap.objs.size a) (fun b u e => Heap.get?_push_of_some _ e) (Nat.le_refl _) ⟨vw, let ⟨ob, e, _⟩ := vw; ⟨ob, e⟩, fun h1 h2 ⟨ob, e, r⟩ k => ⟨ob, k _ e, r⟩⟩
  exact ⟨.ref s1.heap.objs.size, _, I2, rfl, q1 _ _ hp (Same.new hp) upd_same⟩
end
section
variable {prog : Program} {w : World} {A : Around} {E : Value → Shared → Prop} {s : Shared} {d v : Addr} {es : Array DictEntry} {ep : Nat}
theorem rawv_iter {Q : Value → Shared → Prop} (hv : s.heap.IsValuesView v d) (x : RawD s.heap d es ep) (q : Q (.ref s.heap.objs.size) { s with heap := s.heap.push { cls := .type "dict_valueiterator", data := .fields #[.ref d, .int 0 0, .int es.size 0, .int ep 0] } }) : wpAny (model prog w) A (pyIter (.ref v)) Q E s := by
  obtain ⟨ov, hov, hcv, hdv⟩ := id hv
  obtain ⟨o, ho, hc, hdat⟩ := id x
  refine wpAny_pyIter_slot hv.typeIs F.slot_dict_values_iter (wpAny_call_entry F.slot_dict_values_iter hv.typeIs F.entry_dict_values_iter ?_ (F.args_dict_values_iter_1 _))
  unfold Builtin.«dict_values.__iter__»
  refine wpAny_bind (wpAny_pure (wpAny_bind ?_))
  unfold Builtin.Dict_items.dictOf
  refine wpAny_bind (wpAny_field hov hdv (x := .ref d) rfl (wpAny_pure (wpAny_bind ?_)))
  unfold Builtin.Dict_items.newIterator
  refine wpAny_bind (wpAny_dictEntries ho hdat (wpAny_bind (wpAny_dictEpoch ho hdat ?_)))
  simp only [show Builtin.Dict_items.ownsTuple "dict_valueiterator" = false by decide, Bool.false_eq_true, if_false]
  refine wpAny_newObj_type (wpAny_pure ⟨_, rfl, "dict_valueiterator", _, ⟨_, Heap.get?_push_size _ rfl, rfl⟩, F.slot_dict_valueiterator_next.lookup, ?_⟩)
  simpa [rawInt] using q
theorem rawv_src : PySem.W.KdlSrc prog w "dict_values" v d es.size (fun i x => ∃ e, es[i]? = some e ∧ x = e.val) (fun h => h.IsValuesView v d ∧ RawD h d es ep) where
  type := fun _ hm => hm.1.typeIs
  there := fun _ hm => ⟨let ⟨_, ho, _⟩ := hm.1; Heap.lt_size ho, hm.2.lt⟩
  keep := fun _ _ hm hk => ⟨let ⟨o, ho, x⟩ := hm.1; ⟨o, hk v (.inl rfl) o ho, x⟩, hm.2.keep fun o e => hk d (.inr rfl) o e⟩
  notList := by decide
  notTuple := by decide
  hint := fun _ _ _ _ hm hq => PySem.W.kdl_hint_values hm.1.typeIs hq
  iter := fun _ s hh hm => ⟨_, _, (fun _ _ hq => rawv_iter hm.1 hm.2 hq), rawv_walks hh (Nat.ne_of_lt hm.2.lt), ⟨⟨_, Heap.get?_push_size _ rfl, rfl, rfl⟩, hm.2.keep fun o e => Heap.get?_push_of_some _ e⟩⟩
end
end L2
namespace L2
open PySem PySem.Spec PyProof.Rows
def rListV (P : Params) : List V → Hp → VK → Prop := fun vs H Q => ∃ (p d : Addr) (kvs : List (Tr × V)), vs = [V.ref p] ∧ ViewAt H p d ∧ DtAt P H d kvs ∧ New H (.lst (kvs.map (·.2))) Q
section
variable {X : Cx} {P : Params}
theorem cl_listV (hP : X.w.params = P) (hc : X.calm = true) : CallR X (.type "list") (rListV P) := by
  subst hP
  intro pins s σ H xs us Q I r h
  obtain ⟨p, d, kvs, rfl, hv, ⟨m, rfl, e2, e3, e4⟩, q⟩ := h
  cases r with
  | cons r1 r2 =>
  cases r2
  cases r1
  obtain ⟨o, es, ep, q1, q2, q3, q4, q5, z1, z2⟩ := dt_ents I e2 e3 e4
  have vw : s.heap.IsValuesView p d := (I.hok p _ hv).1
  refine PySem.W.kdl_call (rawv_src (es := es) (ep := ep)) (I.ok.hd hc) ⟨vw, o, q1, q2, q3⟩ (by rw [q4.len]; exact z1) fun h' tk acc c hk hS hacc => ?_
  have hp := I.fresh
  have hl : acc.size = m.length := hacc.1.trans q4.len
  have I2 := I.laid (a := s.heap.objs.size) (o := .lst ((m.map fun x => (x.1, x.2.2)).map (·.2))) (t' := tk) hk (Nat.le_refl _) ⟨by rw [List.length_map, List.length_map]; exact z1, acc.toList, c, vals_of (by simp [hl]) fun j x1 x2 hx1 hx2 => by
    rw [List.getElem?_map, List.getElem?_map] at hx1
    obtain ⟨y, hy, rfl⟩ := Option.map_eq_some_iff.mp hx1
    obtain ⟨x, hx, rfl⟩ := Option.map_eq_some_iff.mp hy
    obtain ⟨e, he, rfl⟩ := hacc.2 j x2 (by rw [← Array.getElem?_toList]; exact hx2)
    obtain ⟨en, f1, f2, f3, f4⟩ := q4.at_ j x hx
    rw [he] at f1
    cases f1
    exact f4, by simpa using hS⟩
  exact ⟨.ref s.heap.objs.size, _, I2, rfl, q _ _ hp (Same.new hp) upd_same⟩
end
end L2
namespace L2
open PySem PySem.Spec PyProof.Rows
open AutoSeq1 (wpAny_loadPart')
end L2
namespace L2
open PySem PySem.Spec PyProof.Rows
section
variable {X : Cx} {elts : List Expr} {x1 : Nat} {tpos : Pos}
end
end L2
namespace L2
open PySem PySem.Spec PyProof.Rows
section
variable {prog : Program} {w : World}
variable {A : Around} {E : Value → Shared → Prop} {s : Shared}
end
end L2
namespace L2
open PySem PySem.Spec PyProof.Rows
section
variable {prog : Program} {w : World} {A : Around} {R : Result → Shared → Prop} {I : Addr} {fp wr : List Addr} {G : Array GenState → Array GenState → Prop} {n : Nat} {P : Nat → Value → Prop} {St : Nat → Shared → Prop}
end
end L2
namespace L2
open PySem PySem.Spec PyProof.Rows
section
variable {prog : Program} {w : World} {A : Around} {E : Value → Shared → Prop} {s : Shared}
end
end L2
namespace L2
open PySem PySem.Spec PyProof.Rows
section
variable {M : Model} {A : Around} {E : Value → Shared → Prop} {s : Shared}
end
section
variable {prog : Program} {w : World} {A : Around} {E : Value → Shared → Prop} {s : Shared} {S it : Addr} {o : Obj} {es : Array (Int × Value)} {ep : Nat} {t : SetTable}
end
end L2
namespace L2
open PySem PySem.Spec PyProof.Rows
section
variable {prog : Program} {w : World} {A : Around} {E : Value → Shared → Prop} {s : Shared} {S it tp : Addr} {o : Obj} {es : Array (Int × Value)} {ep i : Nat} {t : SetTable} {first : Value}
end
end L2
namespace L2
open PySem PySem.Spec PyProof.Rows
section
variable {prog : Program} {w : World} {A : Around} {E : Value → Shared → Prop} {s : Shared} {S it tp : Addr} {o : Obj} {es : Array (Int × Value)} {ep i : Nat} {t : SetTable} {first : Value}
end
end L2
namespace L2
open PySem PySem.Spec PyProof.Rows
section
variable {prog : Program} {w : World} {A : Around} {E : Value → Shared → Prop} {s : Shared} {S it tp : Addr} {o : Obj} {es : Array (Int × Value)} {ep i : Nat} {t : SetTable} {first : Value}
end
end L2
namespace L2
open PySem PySem.Spec PyProof.Rows
section
variable {prog : Program} {w : World} {A : Around} {E : Value → Shared → Prop} {s : Shared} {S : Addr} {es : Array (Int × Value)}
end
end L2
namespace L2
open PySem PySem.Spec PyProof.Rows
section
variable {prog : Program} {w : World} {A : Around} {E : Value → Shared → Prop} {s : Shared} {S : Addr} {es : Array (Int × Value)}
end
end L2
namespace L2
open PySem PySem.Spec PyProof.Rows
section
variable {X : Cx} {P : Program} {w : World}
end
end L2
namespace L2
open PySem PySem.Spec PyProof.Rows
end L2
namespace L2
open PySem PySem.Spec PyProof.Rows
section
variable {X : Cx}
end
end L2
namespace L2
open PySem PySem.Spec PyProof.Rows
end L2
namespace L2
open PySem PySem.Spec PyProof.Rows
end L2
namespace L2
open PySem PySem.Spec PyProof.Rows
def Evs (many : Nat) (w : List Nat) : Prop := ∀ j ∈ w, j < many
end L2
namespace L2
open PySem PySem.Spec PyProof.Rows
end L2
namespace L2
open PySem PySem.Spec PyProof.Rows
section
variable {rs : List RRoom} {many : Nat} {p : Pr}
theorem evs_cons {j : Nat} {w : List Nat} (h : j < many) (h2 : Evs many w) : Evs many (j :: w) := fun i hi => by
  rcases List.mem_cons.mp hi with rfl | hi
  · exact h
  · exact h2 i hi
variable {N k : Nat} {dv : Pr → Option Nat}
end
end L2
namespace L2
open PySem PySem.Spec PyProof.Rows
section
variable {prog : Program} {w : World} {A : Around} {E : Value → Shared → Prop} {s : Shared}
end
section
variable {X : Cx} {P : Params}
end
end L2
namespace L2
open PySem PySem.Spec PyProof.Rows
section
variable {prog : Program} {w : World} {A : Around} {R : Result → Shared → Prop} {J : Addr} {fp wr : List Addr} {n : Nat} {P : Nat → Value → Prop} {St : Nat → Heap → Prop}
end
section
variable {prog : Program} {w : World} {A : Around} {E : Value → Shared → Prop} {s : Shared}
end
section
variable {X : Cx} {e d : Expr} {t tk : TA} {p kp pos : Pos}
end
end L2
namespace L2
open PySem PySem.Spec PyProof.Rows
def rMax2 : List V → Hp → VK → Prop := fun xs H Q => ∃ a b : Int, xs = [.int a, .int b] ∧ Q (.int (max a b)) H
section
variable {X : Cx}
theorem kcall_max2 (hh : X.calm = true := by rfl) : CallR X (.builtin "max") rMax2 := by
  intro pins s σ H xs us Q I r h
  obtain ⟨a, b, rfl, q⟩ := h
  obtain ⟨u, v, rfl, ⟨t1, rfl⟩, ⟨t2, rfl⟩⟩ := vals2 r
  refine max_two_ints (I.ok.hd hh) fun h' tk hk => ?_
  have I1 : Inv X pins σ H { s with heap := h', toks := tk } := I.kept hk
  by_cases c : b > a
  · rw [if_pos c]
    exact ⟨.int b, H, I1, ⟨_, rfl⟩, by rw [show max a b = b by omega] at q; exact q⟩
  · rw [if_neg c]
    exact ⟨.int a, H, I1, ⟨_, rfl⟩, by rw [show max a b = a by omega] at q; exact q⟩
theorem i_max2 {H : Hp} {Q : VK} {a b : Int} (h : Q (.int (max a b)) H) : rMax2 [.int a, .int b] H Q := ⟨a, b, rfl, h⟩
end
mutual
def toW : Tr → Tw
  | .non => .sc .non
  | .int i => .sc (.int i)
  | .str s => .sc (.str s)
  | .tup ts => .tup (toWs ts)
  | .lst ts => .lst (toWs ts)
def toWs : List Tr → List Tw
  | [] => []
  | t :: ts => toW t :: toWs ts
end
mutual
theorem toW_at {H : Hp} : ∀ {t : Tr} {v : V} {fs : List Addr}, t.At H v fs → (toW t).At H v fs
  | .non, v, fs, h => by
    simp only [Tr.At] at h
    simp only [toW, Tw.At]
    exact ⟨h.1, True.intro, h.2⟩
  | .int i, v, fs, h => by
    simp only [Tr.At] at h
    simp only [toW, Tw.At]
    exact ⟨h.1, True.intro, h.2⟩
  | .str s, v, fs, h => by
    simp only [Tr.At] at h
    simp only [toW, Tw.At]
    exact ⟨h.1, True.intro, h.2⟩
  | .tup ts, v, fs, h => by
    simp only [Tr.At] at h
    simp only [toW, Tw.At]
    obtain ⟨a, vs, e, g, r⟩ := h
    exact ⟨a, vs, e, g, toWs_at r⟩
  | .lst ts, v, fs, h => by
    simp only [Tr.At] at h
    simp only [toW, Tw.At]
    obtain ⟨a, vs, gs, e, g, r, f⟩ := h
    exact ⟨a, vs, gs, e, g, toWs_at r, f⟩
theorem toWs_at {H : Hp} : ∀ {ts : List Tr} {vs : List V} {fs : List Addr}, Tr.Ats H ts vs fs → Tw.Ats H (toWs ts) vs fs
  | [], vs, fs, h => by
    simp only [Tr.Ats] at h
    simp only [toWs, Tw.Ats]
    exact h
  | t :: ts, vs, fs, h => by
    simp only [Tr.Ats] at h
    simp only [toWs, Tw.Ats]
    obtain ⟨v, ws, f, g, e1, e2, a, b⟩ := h
    exact ⟨v, ws, f, g, e1, e2, toW_at a, toWs_at b⟩
end
mutual
theorem toW_h : ∀ t : Tr, (toW t).h = t.h
  | .non => by simp [toW, Tw.h, Tr.h]
  | .int _ => by simp [toW, Tw.h, Tr.h]
  | .str _ => by simp [toW, Tw.h, Tr.h]
  | .tup ts => by simp [toW, Tw.h, Tr.h, toWs_h ts]
  | .lst ts => by simp [toW, Tw.h, Tr.h, toWs_h ts]
theorem toWs_h : ∀ ts : List Tr, Tw.hs (toWs ts) = Tr.hs ts
  | [] => by simp [toWs, Tw.hs, Tr.hs]
  | t :: ts => by simp [toWs, Tw.hs, Tr.hs, toW_h t, toWs_h ts]
end
end L2
namespace L2
section
variable {α : Type} {n many : Nat} {w : Nat → Nat → Nat} {lab : Nat → α}
def Apart (lab : Nat → α) (w : Nat → Nat → Nat) : Nat → Nat → List Nat → Prop
  | a, b, [] => lab a ≠ lab b
  | a, b, j :: v => Apart lab w (w a j) (w b j) v
def ApartR (lab : Nat → α) (w : Nat → Nat → Nat) (many a b : Nat) : Prop := ∃ v, Evs many v ∧ Apart lab w a b v
theorem ApartR.cons {a b j : Nat} (hj : j < many) (h : ApartR lab w many (w a j) (w b j)) : ApartR lab w many a b := by
  obtain ⟨v, h1, h2⟩ := h
  exact ⟨j :: v, evs_cons hj h1, h2⟩
structure Grp (lab : Nat → α) (w : Nat → Nat → Nat) (n many : Nat) (g : Nat → Nat) (T : Nat → Prop) : Prop where
  same : ∀ a b, a < n → b < n → g a = g b → lab a = lab b
  led : ∀ a b, a < n → b < n → g a = g b → ¬ T a → ¬ T b → ∀ j, j < many → g (w a j) = g (w b j)
  apart : ∀ a b, a < n → b < n → g a ≠ g b → ApartR lab w many a b
theorem Grp.part {g g' : Nat → Nat} {T T' : Nat → Prop} {G : Nat} (h : Grp lab w n many g T) (hw : ∀ a j, a < n → j < many → w a j < n)
    (h1 : ∀ a, a < n → g a ≠ G → g' a = g a) (h2 : ∀ a b, a < n → b < n → g a = G → g b = G → (g' a = g' b ↔ ∀ j, j < many → g (w a j) = g (w b j))) (h3 : ∀ a b, a < n → b < n → g a = G → g b ≠ G → g' a ≠ g' b)
    (h4 : ∀ a, a < n → (T a ∧ g a ≠ G) ∨ (∃ j, j < many ∧ g' (w a j) ≠ g (w a j)) → T' a) : Grp lab w n many g' T' := by
  have fin : ∀ a b, a < n → b < n → g' a = g' b → g a = g b := fun a b ha hb e => by
    by_cases ea : g a = G
    · by_cases eb : g b = G
      · rw [ea, eb]
      · exact absurd e (h3 a b ha hb ea eb)
    · by_cases eb : g b = G
      · exact absurd e.symm (h3 b a hb ha eb ea)
      · rw [← h1 a ha ea, ← h1 b hb eb, e]
  refine ⟨fun a b ha hb e => h.same a b ha hb (fin a b ha hb e), fun a b ha hb e ta tb j hj => ?_, fun a b ha hb e => ?_⟩
  · have na : g' (w a j) = g (w a j) := Classical.not_not.mp fun z => ta (h4 a ha (.inr ⟨j, hj, z⟩))
    have nb : g' (w b j) = g (w b j) := Classical.not_not.mp fun z => tb (h4 b hb (.inr ⟨j, hj, z⟩))
    rw [na, nb]
    have eg := fin a b ha hb e
    by_cases ea : g a = G
    · exact (h2 a b ha hb ea (eg ▸ ea)).mp e j hj
    · exact h.led a b ha hb eg (fun z => ta (h4 a ha (.inl ⟨z, ea⟩))) (fun z => tb (h4 b hb (.inl ⟨z, fun y => ea (eg.trans y)⟩))) j hj
  · by_cases eg : g a = g b
    · have ea : g a = G := Classical.not_not.mp fun z => e (by rw [h1 a ha z, h1 b hb (fun y => z (eg.trans y)), eg])
      have : ¬ ∀ j, j < many → g (w a j) = g (w b j) := fun z => e ((h2 a b ha hb ea (eg ▸ ea)).mpr z)
      obtain ⟨j, hj⟩ := Classical.not_forall.mp this
      obtain ⟨hj, hne⟩ := Classical.not_imp.mp hj
      exact ApartR.cons hj (h.apart _ _ (hw a j ha hj) (hw b j hb hj) hne)
    · exact h.apart a b ha hb eg
theorem Grp.done {g : Nat → Nat} {T : Nat → Prop} (h : Grp lab w n many g T) (hw : ∀ a j, a < n → j < many → w a j < n) (hT : ∀ a, a < n → ¬ T a) {a b : Nat} (ha : a < n) (hb : b < n) : g a = g b ↔ ¬ ApartR lab w many a b := by
  constructor
  · rintro e ⟨v, h1, h2⟩
    induction v generalizing a b with
    | nil => exact h2 (h.same a b ha hb e)
    | cons j v ih =>
      have hj := h1 j List.mem_cons_self
      exact ih (hw a j ha hj) (hw b j hb hj) (h.led a b ha hb e (hT a ha) (hT b hb) j hj) (fun i hi => h1 i (List.mem_cons_of_mem _ hi)) h2
  · intro z
    exact Classical.not_not.mp fun e => z (h.apart a b ha hb e)
end
section
variable {rs : List RRoom} {many : Nat}
def labR (rs : List RRoom) (many x : Nat) : Bool × List (List PySem.Str) := ((roomA rs x).1, (List.range many).map fun j => (rowA rs x j).1)
def wayR (rs : List RRoom) (x j : Nat) : Nat := (rowA rs x j).2
theorem labR_eq {x y : Nat} (h : labR rs many x = labR rs many y) : (roomA rs x).1 = (roomA rs y).1 ∧ ∀ j, j < many → (rowA rs x j).1 = (rowA rs y j).1 := by
  have e1 : (labR rs many x).1 = (labR rs many y).1 := by rw [h]
  refine ⟨e1, fun j hj => ?_⟩
  have e : (List.range many).map (fun j => (rowA rs x j).1) = (List.range many).map (fun j => (rowA rs y j).1) := congrArg Prod.snd h
  have := List.map_inj_left.mp e j (List.mem_range.mpr hj)
  exact this
theorem apart_map {α : Type} {lab lab' : Nat → α} {w w' : Nat → Nat → Nat} {n : Nat} (f : Nat → Nat) (hl : ∀ a, a < n → lab' a = lab (f a)) (hw : ∀ a j, a < n → j < many → w' a j < n ∧ f (w' a j) = w (f a) j) : ∀ {v : List Nat} {a b : Nat}, a < n → b < n → Evs many v → (Apart lab' w' a b v ↔ Apart lab w (f a) (f b) v)
  | [], a, b, ha, hb, _ => by
    show lab' a ≠ lab' b ↔ lab (f a) ≠ lab (f b)
    rw [hl a ha, hl b hb]
  | j :: v, a, b, ha, hb, h => by
    have hj := h j List.mem_cons_self
    show Apart lab' w' (w' a j) (w' b j) v ↔ Apart lab w (w (f a) j) (w (f b) j) v
    rw [← (hw a j ha hj).2, ← (hw b j hb hj).2]
    exact apart_map f hl hw (hw a j ha hj).1 (hw b j hb hj).1 fun i hi => h i (List.mem_cons_of_mem _ hi)
end
end L2
namespace L2
open PySem PySem.Spec PyProof.Rows
def Old (h₀ h : Heap) : Prop := ∀ b o, h₀.get? b = some o → h.get? b = some o
theorem Old.upd {h₀ h : Heap} {a : Addr} {f : Obj → Obj} (k : Old h₀ h) (n : h₀.get? a = none) : Old h₀ (h.update a f) := fun b o e => (Heap.get?_update_other _ _ (fun z : a = b => by rw [z, e] at n; cases n)).trans (k b o e)
theorem Old.push {h₀ h : Heap} {o' : Obj} (k : Old h₀ h) : Old h₀ (h.push o') := fun b o e => Heap.get?_push_of_some _ (k b o e)
section
variable {prog : Program} {w : World} {A : Around} {E : Value → Shared → Prop} {s : Shared} {h₀ : Heap} {a kS : Addr} {vs : List Value} {kz : List Int} {keys : Array Value} {e e1 : Nat} {P : PySem.Fin → Shared → Prop}
theorem ks_tail {st : SortSt} (old : Old h₀ s.heap) (nk : s.heap.get? kS = some (seqObj "list" keys e)) (na : s.heap.get? a = some (seqObj "list" #[] e1)) (fk : h₀.get? kS = none) (fa : h₀.get? a = none) (ne : kS ≠ a) (hk : IntsAre keys.toList kz) (hz : kz.length = vs.length) (h64 : vs.length < 64)
    (hp : (arrOf st).Perm (keys.zip vs.toArray)) (hs : SortedTo (arrOf st) (arrOf st).size) (hf : failedOf st = none) (h : ∀ h' tk out c, Old h₀ h' → h'.get? a = some (seqObj "list" out c) → KskOut false kz vs out.toList → P (.done (.ret .none)) { s with heap := h', toks := tk }) :
    wpAny (model prog w) A (ksk_tail a false e1 (.ref kS) st) P E s := by
  have z1 : keys.size = vs.length := by have := hk.length; rw [Array.length_toList] at this; omega
  have z2 : ((arrOf st).map (·.2)).size = vs.length := by rw [Array.size_map, hp.size_eq, Array.size_zip, z1, List.size_toArray, Nat.min_self]
  have z3 : (1000 : Nat) ≤ sizeLine := le_line (by decide)
  have na1 : (s.heap.update kS (Obj.mapSeq fun _ => (#[] : Array Value))).get? a = some (seqObj "list" #[] e1) := (Heap.get?_update_other _ _ ne).trans na
  unfold ksk_tail
  simp only [Bool.false_eq_true, if_false]
  refine wpAny_bind (listUpdate_at nk rfl (wpAny_bind (wpAny_letGo (wpAny_bind (seqEpoch_at na1 rfl (wpAny_bind (listUpdate_at na1 rfl ?_ (Nat.zero_le _) (by rw [z2]; omega))))))) (by rw [z1]; omega) (Nat.zero_le _))
  rw [hf]
  simp only [Bool.false_eq_true, bne_self_eq_false, if_false]
  exact wpAny_pure (h _ _ _ _ ((old.upd fk).upd fa) (get?_update_seq na1 fun _ => (arrOf st).map (·.2)) (ksk_out (b := false) hk hp hs))
theorem ks_end (old : Old h₀ s.heap) (nk : s.heap.get? kS = some (seqObj "list" keys e)) (na : s.heap.get? a = some (seqObj "list" #[] e1)) (fk : h₀.get? kS = none) (fa : h₀.get? a = none) (ne : kS ≠ a) (hk : IntsAre keys.toList kz) (hz : kz.length = vs.length) (h64 : vs.length < 64)
    (h : ∀ h' tk out c, Old h₀ h' → h'.get? a = some (seqObj "list" out c) → KskOut false kz vs out.toList → P (.done (.ret .none)) { s with heap := h', toks := tk }) :
    wpAny (model prog w) A (ksk_end a false vs.toArray e1 (.ref kS) keys) P E s := by
  have z1 : keys.size = vs.length := by have := hk.length; rw [Array.length_toList] at this; omega
  have z2 : (keys.zip vs.toArray).size = vs.length := by rw [Array.size_zip, z1, List.size_toArray, Nat.min_self]
  unfold ksk_end
  simp only [Bool.false_eq_true, if_false]
  by_cases h2 : vs.toArray.size < 2
  · rw [if_pos h2, if_pos h2]
    refine wpAny_bind (wpAny_pure ?_)
    rw [StateT.run_pure]
    refine wpAny_bind (wpAny_pure (ks_tail (st := SortSt.mk' general' (keys.zip vs.toArray) #[] 7 none) old nk na fk fa ne hk hz h64 (Array.Perm.refl _) (fun i j hij hj => ?_) rfl h))
    have hj2 : j < (keys.zip vs.toArray).size := hj
    rw [List.size_toArray] at h2
    obtain rfl : i = j := by omega
    exact Int.le_refl _
  · rw [if_neg h2, if_neg h2]
    rw [List.size_toArray] at h2
    rw [ksk_kind hk (by omega)]
    refine wpAny_bind (wpAny_pure (wpAny_bind (wpAny_mono (wpS_sortRuns (a₀ := keys.zip vs.toArray) (st := SortSt.mk' oneType' (keys.zip vs.toArray) #[] 7 none) (Q := fun _ st' => (arrOf st').Perm (keys.zip vs.toArray) ∧ failedOf st' = none ∧ SortedTo (arrOf st') (keys.zip vs.toArray).size)
      (ksk_intKeys hk) ⟨Array.Perm.refl _, rfl, rfl, rfl⟩ (by omega) (by omega) fun st' a1 a2 a3 => ⟨a1, a2, a3⟩) ?_ fun _ _ e => e)))
    rintro ⟨⟨⟩, st'⟩ s' ⟨rfl, hp, hf, hs⟩
    exact ks_tail old nk na fk fa ne hk hz h64 hp (by rw [hp.size_eq]; exact hs) hf h
theorem ks_rest {f : Value} (old : Old h₀ s.heap) (nk : s.heap.get? kS = some (seqObj "list" #[] 0)) (na : s.heap.get? a = some (seqObj "list" #[] e1)) (fk : h₀.get? kS = none) (fa : h₀.get? a = none) (ne : kS ≠ a) (hz : kz.length = vs.length) (h64 : vs.length < 64)
    (turn : ∀ (i : Nat) (v : Value) (k : Int), vs[i]? = some v → kz[i]? = some k → ∀ (h : Heap) (tk : Nat), Old h₀ h → wpAny (model prog w) A (call f [v]) (fun u s' => ∃ t tk', u = .int k t ∧ s' = { s with heap := h, toks := tk' }) (fun _ _ => False) { s with heap := h, toks := tk })
    (h : ∀ h' tk out c, Old h₀ h' → h'.get? a = some (seqObj "list" out c) → KskOut false kz vs out.toList → P (.done (.ret .none)) { s with heap := h', toks := tk }) :
    wpAny (model prog w) A (ksk_rest a f false vs.toArray e1 (.ref kS)) P E s := by
  have z3 : (1000 : Nat) ≤ sizeLine := le_line (by decide)
  unfold ksk_rest
  refine wpAny_bind (wpAny_rule ?_)
  rw [List.forIn_toArray]
  refine wpAny_bind (ksk_fold (fun i s' => ∃ h' tk kA e, s' = { s with heap := h', toks := tk } ∧ Old h₀ h' ∧ h'.get? kS = some (seqObj "list" kA e) ∧ h'.get? a = some (seqObj "list" #[] e1) ∧ IntsAre kA.toList (kz.take i)) vs 0 s ⟨s.heap, s.toks, #[], 0, rfl, old, nk, na, by simpa using IntsAre.nil⟩ ?_ ?_)
  · rintro j x s' hx ⟨h', tk, kA, e, rfl, o', nk', na', hk⟩
    simp only [Nat.zero_add] at hk ⊢
    have hj : j < vs.length := (List.getElem?_eq_some_iff.mp hx).1
    obtain ⟨k, hkj⟩ : ∃ k, kz[j]? = some k := ⟨_, List.getElem?_eq_getElem (by omega)⟩
    have z1 : kA.size ≤ vs.length := by have := hk.length; rw [Array.length_toList, List.length_take] at this; omega
    refine wpAny_bind (wpAny_attempt (wpAny_mono (turn j x k hx hkj h' tk o') (fun v s'' he => ?_) fun _ _ hF => hF.elim))
    obtain ⟨t, tk2, rfl, rfl⟩ := he
    dsimp only
    refine wpAny_bind (listUpdate_at nk' rfl (wpAny_pure ⟨rfl, _, _, kA.push (.int k t), _, rfl, o'.upd fk, get?_update_seq nk' (·.push (.int k t)), (Heap.get?_update_other _ _ ne).trans na', ?_⟩) (by omega) (by rw [Array.size_push]; omega))
    rw [show kz.take (j + 1) = kz.take j ++ [k] by rw [List.take_add_one, hkj]; simp, Array.toList_push]
    exact ksk_snoc hk
  · rintro s' ⟨h', tk, kA, e, rfl, o', nk', na', hk⟩
    rw [show kz.take (0 + vs.length) = kz from List.take_of_length_le (by omega)] at hk
    exact wpAny_bind (listItems_at nk' rfl (ks_end o' nk' na' fk fa ne hk hz h64 h))
end
end L2
namespace L2
open PySem PySem.Spec PyProof.Rows
section
variable {prog : Program} {w : World} {A : Around} {E : Value → Shared → Prop} {s : Shared} {h₀ : Heap} {a l : Addr} {vs : List Value} {kz : List Int} {P : PySem.Fin → Shared → Prop}
theorem ks_sort {f : Value} {n : Nat} (old : Old h₀ s.heap) (ho : s.heap.get? a = some (seqObj "list" vs.toArray n)) (fa : h₀.get? a = none) (hb : h₀.objs.size ≤ s.heap.objs.size) (hz : kz.length = vs.length) (h64 : vs.length < 64)
    (turn : ∀ (i : Nat) (v : Value) (k : Int), vs[i]? = some v → kz[i]? = some k → ∀ (h : Heap) (tk : Nat), Old h₀ h → wpAny (model prog w) A (call f [v]) (fun u s' => ∃ t tk', u = .int k t ∧ s' = { s with heap := h, toks := tk' }) (fun _ _ => False) { s with heap := h, toks := tk })
    (h : ∀ h' tk out c, Old h₀ h' → h'.get? a = some (seqObj "list" out c) → KskOut false kz vs out.toList → P (.done (.ret .none)) { s with heap := h', toks := tk }) :
    wpAny (model prog w) A (ksk_tree a f false) P E s := by
  have z3 : (1000 : Nat) ≤ sizeLine := le_line (by decide)
  have ha : a < s.heap.objs.size := Heap.lt_size ho
  obtain ⟨e1, ho1⟩ : ∃ e1, (s.heap.update a (Obj.mapSeq fun _ => (#[] : Array Value))).get? a = some (seqObj "list" #[] e1) := ⟨_, get?_update_seq ho fun _ => #[]⟩
  have zk : ((s.heap.update a (Obj.mapSeq fun _ => (#[] : Array Value))).push (seqObj "tuple" vs.toArray 0)).objs.size = s.heap.objs.size + 1 := by rw [size_push', Heap.size_update]
  unfold ksk_tree
  refine wpAny_bind (listItems_at ho rfl (wpAny_bind (listUpdate_at ho rfl (wpAny_bind (seqEpoch_at ho1 rfl (wpAny_bind (wpAny_newTuple (wpAny_bind (wpAny_newList (wpAny_holding ?_) (Nat.zero_le _))) (by show vs.length ≤ _; omega))))) (by rw [List.size_toArray]; omega) (Nat.zero_le _))))
  exact ks_rest (s := { s with heap := ((s.heap.update a (Obj.mapSeq fun _ => (#[] : Array Value))).push (seqObj "tuple" vs.toArray 0)).push (seqObj "list" #[] 0) }) (old.upd fa).push.push (Heap.get?_push_size _ rfl) (Heap.get?_push_of_some _ (Heap.get?_push_of_some _ ho1)) (Heap.get?_none_of_le (by rw [zk]; omega)) fa (by rw [zk]; exact Nat.ne_of_gt (Nat.lt_succ_of_lt ha)) hz h64 turn h
theorem ks_sorted {f : Value} {kw : List (Str × Value)} {Q : Value → Shared → Prop} (hl : s.heap.IsList l vs.toArray) (hz : kz.length = vs.length) (h64 : vs.length < 64) (ha1 : argsOk "sorted" ⟨[.ref l], kw⟩) (ha2 : ∀ x, argsOk "list.sort" ⟨[.ref x], kw⟩) (ht : ∀ x, Builtin.«list.sort» ⟨[.ref x], kw⟩ = ksk_tree x f false)
    (turn : ∀ (i : Nat) (v : Value) (k : Int), vs[i]? = some v → kz[i]? = some k → ∀ (h : Heap) (tk : Nat), Old s.heap h → wpAny (model prog w) A.in1.in1 (call f [v]) (fun u s' => ∃ t tk', u = .int k t ∧ s' = { s with heap := h, toks := tk' }) (fun _ _ => False) { s with heap := h, toks := tk })
    (h : ∀ h' tk out c, Old s.heap h' → h'.get? (s.heap.objs.size + 1) = some (seqObj "list" out c) → KskOut false kz vs out.toList → Q (.ref (s.heap.objs.size + 1)) { s with heap := h', toks := tk }) :
    wpAny (model prog w) A (call (.builtin "sorted") [.ref l] kw) Q E s := by
  have z3 : (1000 : Nat) ≤ sizeLine := le_line (by decide)
  refine call_function_entry_kw kind_sorted plain_sorted entry_sorted ha1 ?_
  unfold Builtin.«sorted»
  refine wpAny_bind (m := checkCount "sorted" 1 1 _) (wpAny_pure (wpAny_bind (collect_list hl (wpAny_bind (wpAny_newList ?_ (by omega))) (by omega))))
  have zs : ((s.heap.push (seqObj "list" #[] 0)).update s.heap.objs.size (Obj.mapSeq (· ++ vs.toArray))).objs.size = s.heap.objs.size + 1 := by rw [Heap.size_update, size_push']
  have hoL : (((s.heap.push (seqObj "list" #[] 0)).update s.heap.objs.size (Obj.mapSeq (· ++ vs.toArray))).push (seqObj "list" vs.toArray 0)).get? (s.heap.objs.size + 1) = some (seqObj "list" vs.toArray 0) := zs ▸ Heap.get?_push_size _ rfl
  have old : Old s.heap (((s.heap.push (seqObj "list" #[] 0)).update s.heap.objs.size (Obj.mapSeq (· ++ vs.toArray))).push (seqObj "list" vs.toArray 0)) := ((show Old s.heap (s.heap.push (seqObj "list" #[] 0)) from fun b o e => Heap.get?_push_of_some _ e).upd (Heap.get?_none_of_le (Nat.le_refl _))).push
  show wpAny (model prog w) A.in1 _ _ E { s with heap := ((s.heap.push (seqObj "list" #[] 0)).update s.heap.objs.size (Obj.mapSeq (· ++ vs.toArray))).push (seqObj "list" vs.toArray 0) }
  rw [zs]
  refine wpAny_bind (wpAny_holding (wpAny_call_entry_kw slot_list_sort ⟨_, hoL, rfl⟩ entry_list_sort ?_ (ha2 _)))
  show wpAny (model prog w) A.in1.in1 (Builtin.«list.sort» ⟨[.ref (s.heap.objs.size + 1)], kw⟩) _ E _
  rw [ht (s.heap.objs.size + 1)]
  refine ks_sort (s := { s with heap := ((s.heap.push (seqObj "list" #[] 0)).update s.heap.objs.size (Obj.mapSeq (· ++ vs.toArray))).push (seqObj "list" vs.toArray 0) }) old hoL (Heap.get?_none_of_le (Nat.le_succ _)) (by rw [size_push', zs]; omega) hz h64 turn fun h' tk out c o' e' k' => ⟨_, rfl, ?_⟩
  exact wpAny_pure ⟨_, rfl, h h' tk out c o' e' k'⟩
end
end L2
namespace L2
open PySem PySem.Spec PyProof.Rows
theorem perm_lift {α β : Type} {g : α → β} {ps qs : List β} (h : ps.Perm qs) : ∀ {ls : List α}, ls.map g = qs → ∃ ms : List α, ms.Perm ls ∧ ms.map g = ps := by
  induction h with
  | nil =>
    intro ls e
    obtain rfl := List.map_eq_nil_iff.mp e
    exact ⟨[], .nil, rfl⟩
  | cons x _ ih =>
    intro ls e
    obtain ⟨a, ls', rfl, rfl, e2⟩ := List.map_eq_cons_iff.mp e
    obtain ⟨ms, h1, h2⟩ := ih e2
    exact ⟨a :: ms, h1.cons a, by rw [List.map_cons, h2]⟩
  | swap x y l =>
    intro ls e
    obtain ⟨a, ls', rfl, rfl, e2⟩ := List.map_eq_cons_iff.mp e
    obtain ⟨b, ls2, rfl, rfl, e3⟩ := List.map_eq_cons_iff.mp e2
    exact ⟨b :: a :: ls2, .swap a b ls2, by simp [e3]⟩
  | trans _ _ ih1 ih2 =>
    intro ls e
    obtain ⟨ms, h1, h2⟩ := ih2 e
    obtain ⟨ns, h3, h4⟩ := ih1 h2
    exact ⟨ns, h3.trans h1, h4⟩
theorem refs_vals : ∀ {ls : List (Addr × List V)} {its : List Value}, Vals (ls.map fun x => V.ref x.1) its → its = ls.map fun x => Value.ref x.1
  | [], its, h => by cases h; rfl
  | x :: ls, its, h => by
    cases h with
    | cons r1 r2 =>
      cases r1
      rw [refs_vals r2]
      rfl
theorem valsR : ∀ (ls : List (Addr × List V)), Vals (ls.map fun x => V.ref x.1) (ls.map fun x => Value.ref x.1)
  | [] => .nil
  | x :: ls => .cons rfl (valsR ls)
def tSortLen (K : PySem.W.Frag) (t : TA) : TE := fun σ H Q => t σ H fun xs H1 => ∃ (a : Addr) (ls : List (Addr × List V)), xs = [.ref a] ∧ SqL K H1 a (ls.map fun x => V.ref x.1) ∧ (∀ x ∈ ls, H1 x.1 = some (.lst x.2)) ∧ ls.length < 64 ∧
  ∀ (p : Addr) (ms : List (Addr × List V)) (H' : Hp), H1 p = none → Same H1 H' → H' p = some (.lst (ms.map fun x => V.ref x.1)) → ms.Perm ls → ms.Pairwise (fun x y => x.2.length ≤ y.2.length) → Q (.ref p) H'
section
variable {X : Cx} {e : Expr} {t : TA} {p p2 kp pos : Pos}
theorem pe_sortLen (K : PySem.W.Frag) (hK : X.K = K) (hg : Gl X "sorted") (hm : X.mg "sorted" = none) (hv : bootBuiltins "sorted" = some (.builtin "sorted")) (hg2 : Gl X "len") (hm2 : X.mg "len" = none) (hv2 : bootBuiltins "len" = some (.builtin "len")) (ha : PA X [e] t)
    (he : starEach [e] X.env = (false, eval e X.env) :: starEach [] X.env := by rfl) : PE X (.Call (.Name "sorted" p) [e] [⟨some "key", .Name "len" p2, kp⟩] pos) (tSortLen K t) := by
  subst hK
  intro pins s σ H Q I h
  refine wpAny_Call_Name_kw (ld_blt I hg hm hv ?_ (by decide) (by decide))
  refine PyProof.Rows.callWith_kw (thn (ha pos pins s σ H _ I h) fun us s1 ⟨vs, H1, I1, r1, a, ls, e1, hS, hls, h64, q⟩ => kws_cons (ld_blt I1 hg2 hm2 hv2 (kws_nil ?_) (by decide) (by decide))) (by rw [he]; rfl) (by rw [he]; rfl)
  subst e1
  obtain ⟨u, rfl, ru⟩ := vals1 r1
  cases ru
  obtain ⟨its, v1, p1, _⟩ := I1.list hS
  obtain rfl := refs_vals v1
  refine ks_sorted (f := .builtin "len") (kz := ls.map fun x => (x.2.length : Int)) (vs := ls.map fun x => Value.ref x.1) p1.isList (by simp) (by simpa using h64) (ksk_s1 _ _) (fun x => ksk_l1 _ _) (fun x => ksk_t4 _ _) ?_ ?_
  · intro i v k hv hk hp tk old
    rw [List.getElem?_map] at hv hk
    obtain ⟨x, hx, rfl⟩ := Option.map_eq_some_iff.mp hv
    rw [hx] at hk
    cases hk
    obtain ⟨xs, w1, w2, w3⟩ := I1.list (SqL.of (hls x (List.mem_of_getElem? hx)))
    have hl : xs.length = x.2.length := w1.length.symm
    obtain ⟨o, g1, g2, n, g3⟩ := w2.isList
    refine Calls.call_len_list (items := xs.toArray) ⟨o, old _ _ g1, g2, n, g3⟩ ?_ ⟨tk + 1, _, by rw [List.size_toArray, hl], rfl⟩
    have := sizeLine_eq
    simp only [List.size_toArray]
    omega
  · rintro h' tk out c old e' ⟨ps, hp, ho, hpw⟩
    have ez : (ls.map fun x => (x.2.length : Int)).zip (ls.map fun x => Value.ref x.1) = ls.map fun x => ((x.2.length : Int), Value.ref x.1) := by
      rw [List.zip_map']
    rw [ez] at hp
    obtain ⟨ms, m1, rfl⟩ := perm_lift hp rfl
    have hf := I1.hok.fresh (Nat.le_succ s1.heap.objs.size)
    have hml : ms.length < 64 := by rw [m1.length_eq]; exact h64
    refine ⟨.ref (s1.heap.objs.size + 1), upd H1 (s1.heap.objs.size + 1) (.lst (ms.map fun x => V.ref x.1)), I1.laid (t' := tk) old (Nat.le_succ _) ⟨by simp; have := sizeLine_eq; omega, out.toList, c, ?_, by rw [Array.toArray_toList]; exact e'⟩, rfl, q _ ms _ hf (Same.new hf) upd_same m1 ?_⟩
    · rw [ho, List.map_map]
      exact valsR ms
    · rw [List.pairwise_map] at hpw
      exact hpw.imp fun h => by simpa using h
end
end L2
namespace L2
open PySem PySem.Spec PyProof.Rows
mutual
def Tr.AtB (H : Hp) : Tr → V → Prop
  | .non, v => v = .non
  | .int z, v => v = .int z ∨ ∃ b : Bool, v = .bl b ∧ z = (if b = true then 1 else 0)
  | .str x, v => v = .str x
  | .tup ts, v => ∃ a vs, v = .ref a ∧ H a = some (.tup vs) ∧ Tr.AtsB H ts vs
  | .lst _, _ => False
def Tr.AtsB (H : Hp) : List Tr → List V → Prop
  | [], vs => vs = []
  | t :: ts, vs => ∃ v r, vs = v :: r ∧ Tr.AtB H t v ∧ Tr.AtsB H ts r
end
mutual
theorem Tr.AtB.tups {H H' : Hp} (k : Tups H H') : ∀ {t : Tr} {v : V}, t.AtB H v → t.AtB H' v
  | .non, v, h => h
  | .int z, v, h => h
  | .str x, v, h => h
  | .lst _, v, h => h
  | .tup ts, v, h => by
    simp only [Tr.AtB] at h ⊢
    obtain ⟨a, vs, h1, h2, h3⟩ := h
    exact ⟨a, vs, h1, k _ _ h2, Tr.AtsB.tups k h3⟩
theorem Tr.AtsB.tups {H H' : Hp} (k : Tups H H') : ∀ {ts : List Tr} {vs : List V}, Tr.AtsB H ts vs → Tr.AtsB H' ts vs
  | [], vs, h => h
  | t :: ts, vs, h => by
    simp only [Tr.AtsB] at h ⊢
    obtain ⟨v, r, h1, h2, h3⟩ := h
    exact ⟨v, r, h1, h2.tups k, Tr.AtsB.tups k h3⟩
end
theorem Tr.AtsB.snoc {H : Hp} : ∀ {ts : List Tr} {vs : List V} {t : Tr} {v : V}, Tr.AtsB H ts vs → t.AtB H v → Tr.AtsB H (ts ++ [t]) (vs ++ [v])
  | [], vs, t, v, h, h' => by
    simp only [Tr.AtsB] at h
    subst h
    exact ⟨v, [], rfl, h', rfl⟩
  | x :: ts, vs, t, v, h, h' => by
    simp only [Tr.AtsB, List.cons_append] at h ⊢
    obtain ⟨y, r, rfl, h2, h3⟩ := h
    exact ⟨y, _, rfl, h2, h3.snoc h'⟩
theorem Tr.AtsB.get {H : Hp} : ∀ {ts : List Tr} {vs : List V}, Tr.AtsB H ts vs → ∀ (i : Nat) (v : V), vs[i]? = some v → ∃ t, ts[i]? = some t ∧ t.AtB H v
  | [], vs, h, i, v, e => by
    simp only [Tr.AtsB] at h
    subst h
    simp at e
  | t :: ts, vs, h, i, v, e => by
    simp only [Tr.AtsB] at h
    obtain ⟨y, r, rfl, h2, h3⟩ := h
    cases i with
    | zero =>
      simp at e
      subst e
      exact ⟨t, rfl, h2⟩
    | succ i =>
      obtain ⟨t', a, b⟩ := h3.get i v (by simpa using e)
      exact ⟨t', by simpa using a, b⟩
theorem Tr.AtsB.len {H : Hp} : ∀ {ts : List Tr} {vs : List V}, Tr.AtsB H ts vs → vs.length = ts.length
  | [], vs, h => by
    simp only [Tr.AtsB] at h
    subst h
    rfl
  | t :: ts, vs, h => by
    simp only [Tr.AtsB] at h
    obtain ⟨y, r, rfl, h2, h3⟩ := h
    simp [h3.len]
section
variable {X : Cx} {pins : List (Addr × Obj)} {σ : St} {H : Hp} {s : Shared}
mutual
theorem Tr.AtB.isIn (I : Inv X pins σ H s) : ∀ {t : Tr} {v : V} {u : Value}, t.AtB H v → RelV v u → Tr.In s.heap t u
  | .non, v, u, h, r => by
    simp only [Tr.AtB] at h
    subst h
    cases r
    exact rfl
  | .int z, v, u, h, r => by
    simp only [Tr.AtB] at h
    rcases h with rfl | ⟨b, rfl, hb⟩
    · obtain ⟨t, rfl⟩ := r
      exact .inl ⟨t, rfl⟩
    · cases r
      exact .inr ⟨b, rfl, hb⟩
  | .str z, v, u, h, r => by
    simp only [Tr.AtB] at h
    subst h
    obtain ⟨t, rfl⟩ := r
    exact ⟨t, rfl⟩
  | .lst _, v, u, h, r => by simp only [Tr.AtB] at h
  | .tup ts, v, u, h, r => by
    simp only [Tr.AtB] at h
    obtain ⟨a, vs, rfl, e1, c1⟩ := h
    cases r
    obtain ⟨is1, q1, p1, _⟩ := I.tuple (SqT.of e1)
    simp only [Tr.In]
    exact ⟨a, is1.toArray, rfl, p1, by simpa using Tr.AtsB.isIns I c1 q1⟩
theorem Tr.AtsB.isIns (I : Inv X pins σ H s) : ∀ {ts : List Tr} {vs : List V} {us : List Value}, Tr.AtsB H ts vs → Vals vs us → Tr.Ins s.heap ts us
  | [], vs, us, c, q => by
    simp only [Tr.AtsB] at c
    subst c
    cases q
    exact rfl
  | t :: ts, vs, us, c, q => by
    simp only [Tr.AtsB] at c
    obtain ⟨v, vs, rfl, a1, b1⟩ := c
    cases q with
    | cons r1 r2 =>
      simp only [Tr.Ins]
      exact ⟨_, _, rfl, Tr.AtB.isIn I a1 r1, Tr.AtsB.isIns I b1 r2⟩
end
end
def TKB (H : Hp) (t : Tr) (y : V) : Prop := t.AtB H y ∧ t.h ≤ 8
def DbAt (P : Params) (H : Hp) (a : Addr) (kvs : List (Tr × V)) : Prop := ∃ m : List (Tr × V × V), m.map (fun x => (x.1, x.2.2)) = kvs ∧ DtE P H a m ∧ (∀ x ∈ m, TKB H x.1 x.2.1) ∧ (m.map (·.1)).Nodup
theorem DbAt.of0 {P : Params} {H : Hp} {a : Addr} (x : DtAt P H a []) : DbAt P H a [] := by
  obtain ⟨m, e1, e2, e3, e4⟩ := x
  obtain rfl : m = [] := by simpa using e1
  exact ⟨[], rfl, e2, fun x hx => absurd hx (by simp), e4⟩
def tBGet (P : Params) (td ty : TE) : TE := fun σ H Q => td σ H fun x H1 => ty σ H1 fun y H2 => ∃ a kvs t v, x = .ref a ∧ DbAt P H2 a kvs ∧ TKB H2 t y ∧ valV kvs t = some v ∧ Q v H2
def tBSetD (P : Params) (td ty tx : TE) : TE := fun σ H Q => td σ H fun x H1 => ∃ a kvs, x = .ref a ∧ DbAt P H1 a kvs ∧ ty σ H1 fun y H2 => tx σ H2 fun z H3 => ∃ kvs' t, DbAt P H3 a kvs' ∧ TKB H3 t y ∧ kvs'.length < sizeLine ∧
  (∀ v, valV kvs' t = some v → Q v H3) ∧ (valV kvs' t = none → ∀ o, DbAt P (upd H3 a o) a (kvs' ++ [(t, z)]) → Q z (upd H3 a o))
section
variable {X : Cx} {pins : List (Addr × Obj)} {σ : St} {H : Hp} {s : Shared} {a : Addr} {t : Tr} {y v z : V} {u r : Value} {A : Around} {E : Value → Shared → Prop} {kvs : List (Tr × V)} {m : List (Tr × V × V)}
theorem db_ents (I : Inv X pins σ H s) (e2 : DtE X.w.params H a m) (e3 : ∀ x ∈ m, TKB H x.1 x.2.1) (e4 : (m.map (·.1)).Nodup) :
    ∃ o es ep, s.heap.get? a = some o ∧ o.ExactDict ∧ o.data = .dict es ep ∧ DtR X.w.params m es ∧ Ents X.w.params s.heap es (m.map (·.1)) ∧ m.length ≤ sizeLine ∧ (a == sysModules) = false := by
  obtain ⟨φ, e2, hφ⟩ := e2
  obtain ⟨z1, z2, o, es, ep, q1, q2, q3, q4⟩ := hφ _ (I.hok a _ e2).1
  refine ⟨o, es, ep, q1, q2, q3, q4, ⟨by rw [q4.len, List.length_map], fun j e he => ?_, e4⟩, z1, z2⟩
  have hj : j < m.length := by rw [← q4.len]; exact (Array.getElem?_eq_some_iff.mp he).1
  obtain ⟨e', f1, f2, f3, f4⟩ := q4.at_ j m[j] (List.getElem?_eq_getElem hj)
  rw [he] at f1
  cases f1
  have := e3 m[j] (List.getElem_mem hj)
  exact ⟨m[j].1, by rw [List.getElem?_map, List.getElem?_eq_getElem hj]; rfl, f2, this.1.isIn I f3, this.2⟩
theorem db_get {Q : Option Value → Shared → Prop} (hu : A.units + 16 < cLine) (I : Inv X pins σ H s) (g : DbAt X.w.params H a kvs) (hk : TKB H t y) (ry : RelV y u) (h : ∀ o s', Inv X pins σ H s' → RelO (valV kvs t) o → Q o s') :
    wpAny (model X.prog X.w) A (dictGet a u) Q E s := by
  obtain ⟨m, rfl, e2, e3, e4⟩ := g
  obtain ⟨o, es, ep, q1, q2, q3, q4, q5, _⟩ := db_ents I e2 e3 e4
  have hin := hk.1.isIn I ry
  unfold dictGet
  try (with_reducible refine wpAny_holding ?_)
  refine wpAny_bind (hin.pyHash (by have := hk.2; omega) fun n => wpAny_bind (find_tr (s := { s with toks := n }) q1 q3 q5 hin hk.2 hu (fun hn => ?_) fun j hj => ?_))
  · refine wpAny_pure (h _ _ (I.tok _) ?_)
    rw [(valV_none hn).1]
    exact True.intro
  · rw [List.getElem?_map] at hj
    obtain ⟨x, hx, rfl⟩ := Option.map_eq_some_iff.mp hj
    obtain ⟨en, f1, f2, f3, f4⟩ := q4.at_ j x hx
    refine wpAny_bind (wpAny_dictEntries (s := { s with toks := n }) q1 q3 ?_)
    rw [f1]
    refine wpAny_pure (h _ _ (I.tok _) ?_)
    rw [valV_get e4 hx]
    exact f4
theorem db_raw (I : Inv X pins σ H s) (g : DbAt X.w.params H a kvs) : ∃ es ep, RawD s.heap a es ep ∧ (a == sysModules) = false ∧ es.size = kvs.length ∧ kvs.length ≤ sizeLine := by
  obtain ⟨m, rfl, e2, e3, e4⟩ := g
  obtain ⟨o, es, ep, q1, q2, q3, q4, q5, z1, z2⟩ := db_ents I e2 e3 e4
  exact ⟨es, ep, ⟨o, q1, q2, q3⟩, z2, by rw [q4.len, List.length_map], by rw [List.length_map]; exact z1⟩
theorem db_getItem {Q : Value → Shared → Prop} (hu : A.units + 20 < cLine) (I : Inv X pins σ H s) (g : DbAt X.w.params H a kvs) (hk : TKB H t y) (ry : RelV y u) (hv : valV kvs t = some v) (h : ∀ w' s', Inv X pins σ H s' → RelV v w' → Q w' s') :
    wpAny (model X.prog X.w) A (getItem (.ref a) u) Q E s := by
  obtain ⟨_, _, x, _, _, _⟩ := db_raw I g
  have T := x.ty
  unfold getItem
  try (with_reducible refine wpAny_holding ?_)
  refine wpAny_bind (wpAny_sequenceKey T (by decide) (wpAny_bind (wpAny_callSpecial?_slot (name := Str.ofString "__getitem__") T slot_dict_getitem (wpAny_call_entry slot_dict_getitem T entry_dict_getitem ?_ (args_dict_getitem _ _)))))
  show wpAny _ A.in1 (dictGet a u >>= _) _ _ s
  refine wpAny_bind (db_get (by rw [in1_units]; omega) I g hk ry fun o s' I' ro => ?_)
  rw [hv] at ro
  obtain ⟨w', rfl, rw'⟩ := ro.some_of
  exact wpAny_pure ⟨w', rfl, wpAny_pure (h w' s' I' rw')⟩
theorem db_setDef {Q : Value → Shared → Prop} (hu : A.units + 20 < cLine) (I : Inv X pins σ H s) (e2 : DtE X.w.params H a m) (e3 : ∀ x ∈ m, TKB H x.1 x.2.1) (e4 : (m.map (·.1)).Nodup) (hz : m.length < sizeLine)
    (hk : TKB H t y) (ry : RelV y u) (rz : RelV z r) (h1 : ∀ v w' s', valV (m.map fun x => (x.1, x.2.2)) t = some v → Inv X pins σ H s' → RelV v w' → Q w' s')
    (h2 : ∀ s', valV (m.map fun x => (x.1, x.2.2)) t = none → Inv X pins σ (upd H a (DtO X.w.params a (m ++ [(t, y, z)]))) s' → Q r s') :
    wpAny (model X.prog X.w) A (call (.builtin "dict.setdefault") [.ref a, u, r]) Q E s := by
  obtain ⟨_, _, x, lo, _, _⟩ := db_raw I ⟨m, rfl, e2, e3, e4⟩
  obtain ⟨o, es, ep, q1, q2, q3, q4, q5, z1, z2⟩ := db_ents I e2 e3 e4
  have hin := hk.1.isIn I ry
  refine wpAny_call_entry PySem.F.slot_dict_setdefault x.ty PySem.F.entry_dict_setdefault ?_ (PySem.F.args_dict_setdefault_3 _ _ _)
  unfold Builtin.«dict.setdefault»
  refine wpAny_bind ?_
  unfold Builtin.Dict.keyAndDefault
  refine wpAny_bind (wpAny_notOrdered_dict x.ty ?_)
  refine (show wpAny _ _ (pure (a, u, some r)) _ _ s from wpAny_pure ?_)
  show wpAny _ A.in1 (if (a == sysModules) = true then _ else (dictSetDefault a u r >>= _)) _ _ s
  rw [if_neg (by rw [lo]; simp)]
  refine wpAny_bind ?_
  unfold dictSetDefault
  try (with_reducible refine wpAny_holding ?_)
  refine wpAny_bind (hin.pyHash (by have := hk.2; rw [in1_units]; omega) fun n => ?_)
  refine wpAny_bind (find_tr (s := { s with toks := n }) q1 q3 q5 hin hk.2 (by rw [in1_units]; omega) (fun hn => ?_) fun j hj => ?_)
  · refine wpAny_bind (wpAny_rule (wpAny_bind (wpAny_updateDictKeys (s := { s with toks := n }) q1 q3 (wpAny_pure (wpAny_pure ⟨r, rfl, h2 _ (valV_none hn).1 (d_write (I.tok n) e2.mut (Heap.SameBut.update ..) ?_ (dto_ok ⟨by simp; omega, z2, _, _, ep + 1, Heap.get?_update_self _ q1 (Obj.isFreed_of_dict (Obj.data_mapDictKeys q3 _)), q2.mapDictKeys _, Obj.data_mapDictKeys q3 _, ?_⟩))⟩)) (by rw [q4.len]; omega))))
    · exact ⟨_, Heap.get?_update_self _ q1 (Obj.isFreed_of_dict (Obj.data_mapDictKeys q3 _))⟩
    · exact dtr_snoc q4 rfl ry rz
  · rw [List.getElem?_map] at hj
    obtain ⟨p, hp, rfl⟩ := Option.map_eq_some_iff.mp hj
    obtain ⟨en, f1, f2, f3, f4⟩ := q4.at_ j p hp
    refine wpAny_bind (wpAny_dictEntries (s := { s with toks := n }) q1 q3 ?_)
    rw [f1]
    exact wpAny_bind (wpAny_rule (wpAny_pure (wpAny_pure ⟨_, rfl, h1 _ _ _ (valV_get e4 hp) (I.tok _) f4⟩)))
end
section
variable {X : Cx} {o i e f value : Expr} {pos pos' apos cpos : Pos} {td ty tv tx : TE} {P : Params}
theorem pe_bget (hP : X.w.params = P) (hu : X.A.units + 64 < cLine) (ho : PE X o td) (hi : PE X i ty) (hs : NoSl i) : PE X (.Subscript o i pos) (tBGet P td ty) := by
  subst hP
  intro pins s σ H Q I h
  refine subD_of PySem.F.slot_dict_getitem.lookup hs (thn (ho pins s σ H _ I h) fun u s1 ⟨x, H1, I1, rx, q1⟩ => thn (hi pins s1 σ H1 _ I1 q1) fun iv s2 ⟨y, H2, I2, ry, a, kvs, t, v, ex, g, hk, hv, q2⟩ => ?_)
  subst ex
  obtain rfl : u = Value.ref a := rx
  obtain ⟨_, _, x, _⟩ := db_raw I2 g
  exact ⟨x.ty, db_getItem (by omega) I2 g hk ry hv fun w' s3 I3 rw' => ⟨v, H2, I3, rw', q2⟩⟩
theorem pe_bsetd (hP : X.w.params = P) (hu : X.A.units + 64 < cLine) (ho : PE X o td) (he : PE X e ty) (hf : PE X f tx) (m : M2 X o "setdefault" apos e f cpos) : PE X (.Call (.Attribute o "setdefault" apos) [e, f] [] cpos) (tBSetD P td ty tx) := by
  subst hP
  intro pins s σ H Q I h
  refine wpAny_Call_method m.base m.few m.line PySem.F.plainAttrs_dict PySem.F.slot_dict_setdefault PySem.F.type_dict_setdefault (thn (ho pins s σ H _ I h) fun u s1 ⟨x, H1, I1, rx, a, kvs, ex, g1, q1⟩ => ?_)
  subst ex
  obtain rfl : u = Value.ref a := rx
  obtain ⟨es, ep, x, _⟩ := db_raw I1 g1
  refine ⟨x.ty, (fun b q => by cases q; obtain ⟨ob, h1, h2, _⟩ := x; exact ⟨ob, h1, h2.2.1⟩), ?_⟩
  rw [m.trees]
  refine Calls.callWith_builtin rfl (Calls.evalArgs_plain (Calls.spliced_cons (thn (he pins s1 σ H1 _ I1 q1) fun iv s2 ⟨y, H2, I2, ry, q2⟩ => Calls.spliced_cons (thn (hf pins s2 σ H2 _ I2 q2) fun fv s3 ⟨z, H3, I3, rz, kvs', t, g, hk, hz, n1, n2⟩ => Calls.spliced_nil ?_))))
  obtain ⟨mm, rfl, e2, e3, e4⟩ := g
  rw [List.length_map] at hz
  refine db_setDef (by omega) I3 e2 e3 e4 hz hk ry rz (fun v w' s' hv I' rv => ⟨v, H3, I', rv, n1 v hv⟩) fun s' hv I' => ⟨z, _, I', rz, n2 hv _ ?_⟩
  obtain ⟨φ, e2', _⟩ := e2
  have tu : ∀ {ob : HO}, Tups H3 (upd H3 a ob) := fun {ob} => tups_updE e2'
  have hnot : t ∉ mm.map (·.1) := fun hz => by
    obtain ⟨x, hx, rfl⟩ := List.mem_map.mp hz
    obtain ⟨j, hj, rfl⟩ := List.mem_iff_getElem.mp hx
    rw [valV_get e4 (List.getElem?_eq_getElem hj)] at hv
    cases hv
  refine ⟨mm ++ [(t, y, z)], by simp, .of upd_same, fun x hx => ?_, ?_⟩
  · rcases List.mem_append.mp hx with hx | hx
    · exact ⟨(e3 x hx).1.tups tu, (e3 x hx).2⟩
    · rw [List.mem_singleton.mp hx]
      exact ⟨hk.1.tups tu, hk.2⟩
  · rw [List.map_append]
    exact nd_snoc e4 hnot
end
def rLenB (P : Params) : List V → Hp → VK → Prop := fun vs H Q => ∃ a kvs, vs = [V.ref a] ∧ DbAt P H a kvs ∧ Q (.int (kvs.length : Nat)) H
theorem cl_lenB {X : Cx} {P : Params} (hP : X.w.params = P) : CallR X (.builtin "len") (rLenB P) := by
  subst hP
  intro pins s σ H xs us Q I r h
  obtain ⟨a, kvs, rfl, g, q⟩ := h
  obtain ⟨es, ep, x, z2, hsz, z1⟩ := db_raw I g
  cases r with
  | cons r1 r2 =>
  cases r2
  cases r1
  refine raw_len z2 x (by rw [hsz]; rw [sizeLine_eq] at z1; omega) ?_
  rw [hsz]
  exact ⟨.int (kvs.length : Nat), H, I.tok _, ⟨_, rfl⟩, q⟩
section
variable {P : Params} {σ : St} {H : Hp} {Q : VK} {td ty tx tv : TE}
theorem i_bget (h : td σ H fun x H1 => ty σ H1 fun y H2 => ∃ a kvs t v, x = .ref a ∧ DbAt P H2 a kvs ∧ TKB H2 t y ∧ valV kvs t = some v ∧ Q v H2) : tBGet P td ty σ H Q := h
theorem i_bsetd (h : td σ H fun x H1 => ∃ a kvs, x = .ref a ∧ DbAt P H1 a kvs ∧ ty σ H1 fun y H2 => tx σ H2 fun z H3 => ∃ kvs' t, DbAt P H3 a kvs' ∧ TKB H3 t y ∧ kvs'.length < sizeLine ∧
  (∀ v, valV kvs' t = some v → Q v H3) ∧ (valV kvs' t = none → ∀ o, DbAt P (upd H3 a o) a (kvs' ++ [(t, z)]) → Q z (upd H3 a o))) : tBSetD P td ty tx σ H Q := h
end
theorem kV_of {k : Key} {u : Value} (h : keyIs k u = true) : RelV (kV k) u := by
  cases k with
  | inl i => cases u <;> simp [keyIs, Value.isInt] at h <;> exact ⟨_, by rw [h]⟩
  | inr x => cases u <;> simp [keyIs, Value.isStrOf, Value.isStr] at h <;> exact ⟨_, by rw [h]⟩
theorem pairs_at {prog : Program} {w : World} : ∀ {es : List DictEntry} {vs : List (Key × Value)}, Pairs (mixKind prog w) es vs → es.length = vs.length ∧ ∀ (j : Nat) (x : Key × Value), vs[j]? = some x → ∃ e, es[j]? = some e ∧ RelV (kV x.1) e.key
  | _, _, .nil => ⟨rfl, fun j x h => by simp at h⟩
  | _, _, .cons (e := e) h1 h2 h3 => by
    obtain ⟨a, b⟩ := pairs_at h3
    refine ⟨by simp [a], fun j x hx => ?_⟩
    cases j with
    | zero =>
      simp at hx
      subst hx
      exact ⟨e, rfl, kV_of h1⟩
    | succ j =>
      obtain ⟨e', q1, q2⟩ := b j x (by simpa using hx)
      exact ⟨e', by simpa using q1, q2⟩
def frkP (a : Addr) (o : Obj) : Heap → Prop := fun h => h.get? a = some o
def Itk (a : Addr) (ks : List Key) (o : Obj) : It :=
  ⟨fun i H => H a = some (.ext (frkP a o)) ∧ i < ks.length, fun i H x H' => H' = H ∧ ∃ k, ks[i]? = some k ∧ x = kV k, fun i H => H a = some (.ext (frkP a o)) ∧ ks.length ≤ i⟩
theorem turn_dk {Pr : Program} {w : World} {K : PySem.W.Frag} {tg : Expr} {a it : Addr} {ks : List Key} {o : Obj} {es : Array DictEntry} {ep : Nat} (hx : o.ExactDict) (hd : o.data = .dict es ep) (hl : es.size = ks.length) (hr : ∀ (j : Nat) (k : Key), ks[j]? = some k → ∃ e, es[j]? = some e ∧ RelV (kV k) e.key) :
    Turn Pr w K tg (Itk a ks o) [it] it (fun i h => h.IsKeyIter it a i es.size ep) where
  mem := by simp
  obj := fun i h st b hb => by
    have e : b = it := by simpa using hb
    subst e
    obtain ⟨o, e, c, d⟩ := st
    exact ⟨o, e, fun v z => by rw [d] at z; cases z⟩
  keep := fun i h h' st k => st.at fun o e => k it (by simp) o e
  item := by
    intro X hP hw hK hc i pins s σ H E I hf st hg
    subst hP hw hK
    have hD : RawD s.heap a es ep := ⟨o, (I.hok a _ hg.1).1, hx, hd⟩
    have hk : ks[i]? = some (ks[i]'hg.2) := List.getElem?_eq_getElem hg.2
    obtain ⟨e, he, rk⟩ := hr i _ hk
    obtain ⟨f0, f1, f2, f3, f4, f5⟩ := hf it (by simp)
    refine raw_item st hD he fun h' st' sb => ?_
    have I1 : Inv X pins σ H { s with heap := h' } := I.turned (t' := s.toks) (fun b o hb e => (sb.2 b hb).trans e) f0 f1 f3 f4 f5
    obtain ⟨oi, e', c, d⟩ := id st'
    exact ⟨_, rfl, go_of (s := { s with heap := h' }) e' c d (by decide) ⟨kV (ks[i]'hg.2), H, I1, rk, ⟨rfl, _, hk, rfl⟩, st', fun b hb => (hf b hb).1⟩⟩
  done := by
    intro X hP hw hK hc i pins s σ H E I hf st hg
    subst hP hw hK
    have hD : RawD s.heap a es ep := ⟨o, (I.hok a _ hg.1).1, hx, hd⟩
    obtain ⟨f0, f1, f2, f3, f4, f5⟩ := hf it (by simp)
    exact raw_end (I.ok.hd hc) st hD (by rw [hl]; exact hg.2) fun h' eb => ⟨rfl, I.turned (t' := s.toks) (fun b o hb e => eb b o hb e) f0 f1 f3 f4 f5⟩
  self := fun _ _ _ _ _ st h => wpAny_pyIter_keyiter st h
def iDk (tl : TE) : TI := fun σ H R => tl σ H fun x H1 => ∃ a kvs, x = .ref a ∧ H1 a = some (.dK kvs) ∧ ∀ o H', H' = upd H1 a (.ext (frkP a o)) → R (Itk a (kvs.map (·.1)) o) H'
theorem pi_dk {X : Cx} {tg l : Expr} {tl : TE} (hl : PE X l tl) : PI X tg l (iDk tl) := by
  intro pins s σ H R I h
  refine thn (hl pins s σ H _ I h) fun v s1 ⟨x, H1, I1, r1, q1⟩ => ?_
  obtain ⟨a, kvs, rfl, e2, q⟩ := q1
  cases r1
  obtain ⟨z1, z2, vs, rel, o, es, ep, g1, g2, g3, g4, g5, g6⟩ := dk_of I1.hok e2
  obtain ⟨l1, l2⟩ := pairs_at g5
  have hkeys := KV.keys rel
  have mu : Mut (H1 a) := by rw [e2]; exact True.intro
  have nw : ObjOk X.prog X.w (upd H1 a (.ext (frkP a o))) s1.heap a (.ext (frkP a o)) := ⟨g1, ⟨o, g1⟩, fun h1 h2 x k => k _ x⟩
  have I2 : Inv X pins σ (upd H1 a (.ext (frkP a o))) s1 := I1.write (h' := s1.heap) (t' := s1.toks) (x := a) (e := a) mu (.inl rfl) (fun b u _ e => e) ⟨o, g1⟩ nw
  refine raw_iter z2 ⟨o, g1, g2, g3⟩ ?_
  refine ⟨s1.heap.objs.size, [s1.heap.objs.size], _, _, _, rfl, I2.kept (t' := s1.toks) fun b o e => Heap.get?_push_of_some _ e, turn_dk (a := a) (ks := kvs.map (·.1)) g2 g3 ?_ ?_, ⟨_, Heap.get?_push_size _ rfl, rfl, rfl⟩, fun b hb => ?_, q o _ rfl⟩
  · rw [hkeys, List.length_map, ← l1, Array.length_toList]
  · intro j k hk
    rw [hkeys, List.getElem?_map] at hk
    obtain ⟨x, hx, rfl⟩ := Option.map_eq_some_iff.mp hk
    obtain ⟨e, f1, f2⟩ := l2 j x hx
    exact ⟨e, by rw [Array.getElem?_toList] at f1; exact f1, f2⟩
  · have e : b = s1.heap.objs.size := by simpa using hb
    subst e
    exact I2.fpOk (Nat.le_refl _) (I2.hok.fresh (Nat.le_refl _))
theorem i_dk {tl : TE} {σ : St} {H : Hp} {R : It → Hp → Prop} (h : tl σ H fun x H1 => ∃ a kvs, x = .ref a ∧ H1 a = some (.dK kvs) ∧ ∀ o H', H' = upd H1 a (.ext (frkP a o)) → R (Itk a (kvs.map (·.1)) o) H') : iDk tl σ H R := h
theorem for_dk {a : Addr} {ks : List Key} {o : Obj} {g : TG} {tb : TS} {D : Ends} {σ : St} {H : Hp} (Pv : Nat → St → Hp → Prop) (h0 : Pv 0 σ H) (hl : ∀ i σ H, i ≤ ks.length → Pv i σ H → H a = some (.ext (frkP a o)))
    (hs : ∀ i k σ H, ks[i]? = some k → Pv i σ H → g (kV k) σ H fun σ1 H1 => tb { D with nx := Pv (i + 1), ct := Pv (i + 1), bk := D.nx } σ1 H1) (hd : ∀ σ H, Pv ks.length σ H → D.nx σ H) : ForEnd (Itk a ks o) g tb D σ H := by
  refine ⟨fun i k σ H => k = ks.length - i ∧ i ≤ ks.length ∧ Pv i σ H, ⟨ks.length, by simp, Nat.zero_le _, h0⟩, ?_⟩
  rintro i k σ' H' ⟨rfl, hi, p⟩
  have hq := hl i σ' H' hi p
  by_cases hlt : i < ks.length
  · refine .inr ⟨⟨hq, hlt⟩, Pv (i + 1), fun σ2 H2 p' => ⟨ks.length - (i + 1), by omega, rfl, hlt, p'⟩, fun v H2 y => ?_⟩
    obtain ⟨rfl, x, hx, rfl⟩ := y
    exact hs i x σ' _ hx p
  · have e : i = ks.length := by omega
    subst e
    exact .inl ⟨⟨hq, Nat.le_refl _⟩, hd σ' H' p⟩
def rLenD : List V → Hp → VK → Prop := fun vs H Q => ∃ a kvs, vs = [V.ref a] ∧ H a = some (.dK kvs) ∧ Q (.int (kvs.length : Nat)) H
theorem cl_lenD {X : Cx} : CallR X (.builtin "len") rLenD := by
  intro pins s σ H xs us Q I r h
  obtain ⟨a, kvs, rfl, g, q⟩ := h
  cases r with
  | cons r1 r2 =>
  cases r2
  cases r1
  exact d_len I (.inl g) fun t s' I' => ⟨.int (kvs.length : Nat), H, I', ⟨_, rfl⟩, q⟩
end L2
namespace L2
open PySem PySem.Spec PyProof.Rows
def met1 {α : Type} [DecidableEq α] (acc : List α) (x : α) : List α := if x ∈ acc then acc else acc ++ [x]
def mets {α : Type} [DecidableEq α] (l : List α) : List α := l.foldl met1 []
theorem mets_snoc {α : Type} [DecidableEq α] (l : List α) (x : α) : mets (l ++ [x]) = met1 (mets l) x := by
  unfold mets
  rw [List.foldl_append]
  rfl
theorem met1_mem {α : Type} [DecidableEq α] {acc : List α} {x y : α} : x ∈ met1 acc y ↔ x ∈ acc ∨ x = y := by
  unfold met1
  split
  · next h =>
    constructor
    · exact .inl
    · rintro (h' | rfl)
      · exact h'
      · exact h
  · simp
theorem metf_mem {α : Type} [DecidableEq α] (x : α) : ∀ (l acc : List α), x ∈ l.foldl met1 acc ↔ x ∈ acc ∨ x ∈ l
  | [], acc => by simp
  | y :: l, acc => by
    rw [List.foldl_cons, metf_mem x l, met1_mem, List.mem_cons, or_assoc]
theorem mets_mem {α : Type} [DecidableEq α] (x : α) (l : List α) : x ∈ mets l ↔ x ∈ l := by
  unfold mets
  rw [metf_mem]
  simp
theorem met1_nd {α : Type} [DecidableEq α] {acc : List α} {y : α} (ha : acc.Nodup) : (met1 acc y).Nodup := by
  unfold met1
  split
  · exact ha
  · next h =>
    refine List.nodup_append.mpr ⟨ha, by simp, fun a hm b hb z => ?_⟩
    rw [List.mem_singleton.mp hb] at z
    exact h (z ▸ hm)
theorem metf_nd {α : Type} [DecidableEq α] : ∀ (l acc : List α), acc.Nodup → (l.foldl met1 acc).Nodup
  | [], acc, h => h
  | y :: l, acc, h => metf_nd l _ (met1_nd h)
theorem mets_nd {α : Type} [DecidableEq α] (l : List α) : (mets l).Nodup := metf_nd l [] (by simp)
theorem metf_len {α : Type} [DecidableEq α] : ∀ (l acc : List α), (l.foldl met1 acc).length ≤ acc.length + l.length
  | [], acc => by simp
  | y :: l, acc => by
    have h := metf_len l (met1 acc y)
    have h2 : (met1 acc y).length ≤ acc.length + 1 := by
      unfold met1
      split <;> simp
    rw [List.foldl_cons, List.length_cons]
    omega
theorem mets_len {α : Type} [DecidableEq α] (l : List α) : (mets l).length ≤ l.length := by
  have := metf_len l []
  simpa [mets] using this
def numF {α : Type} (f : α → Tr) : List α → Nat → List (Tr × V)
  | [], _ => []
  | x :: l, n => (f x, .int (n : Nat)) :: numF f l (n + 1)
def numd {α : Type} (f : α → Tr) (l : List α) : List (Tr × V) := numF f l 0
theorem numF_len {α : Type} (f : α → Tr) : ∀ (l : List α) (n : Nat), (numF f l n).length = l.length
  | [], _ => rfl
  | _ :: l, n => by simp [numF, numF_len f l]
theorem numF_snoc {α : Type} (f : α → Tr) (x : α) : ∀ (l : List α) (n : Nat), numF f (l ++ [x]) n = numF f l n ++ [(f x, .int ((n + l.length : Nat) : Int))]
  | [], n => rfl
  | y :: l, n => by
    show (f y, V.int (n : Nat)) :: numF f (l ++ [x]) (n + 1) = _
    rw [numF_snoc f x l (n + 1), show n + 1 + l.length = n + (y :: l).length by simp; omega]
    rfl
theorem numF_val {α : Type} {f : α → Tr} (hf : ∀ a b, f a = f b → a = b) : ∀ (l : List α) (n : Nat), l.Nodup → ∀ (x : α) (i : Nat), l[i]? = some x → valV (numF f l n) (f x) = some (.int ((n + i : Nat) : Int))
  | [], n, _, x, i, h => by simp at h
  | y :: l, n, hn, x, i, h => by
    rw [List.nodup_cons] at hn
    unfold valV numF
    rw [List.find?_cons]
    cases i with
    | zero =>
      have e : y = x := by simpa using h
      subst e
      simp
    | succ i =>
      have h' : l[i]? = some x := by simpa using h
      have hne : f y ≠ f x := fun z => hn.1 (by rw [hf _ _ z]; exact List.mem_of_getElem? h')
      rw [decide_eq_false hne]
      have := numF_val hf l (n + 1) hn.2 x i h'
      unfold valV at this
      rw [this, show n + 1 + i = n + (i + 1) by omega]
theorem numF_none {α : Type} {f : α → Tr} (hf : ∀ a b, f a = f b → a = b) {x : α} : ∀ (l : List α) (n : Nat), x ∉ l → valV (numF f l n) (f x) = none
  | [], n, _ => rfl
  | y :: l, n, h => by
    rw [List.mem_cons, not_or] at h
    unfold valV numF
    rw [List.find?_cons, decide_eq_false (fun z : f y = f x => h.1 (hf _ _ z).symm)]
    have := numF_none hf l (n + 1) h.2
    unfold valV at this
    exact this
theorem numd_val {α : Type} {f : α → Tr} (hf : ∀ a b, f a = f b → a = b) {l : List α} (hn : l.Nodup) {x : α} {i : Nat} (h : l[i]? = some x) : valV (numd f l) (f x) = some (.int (i : Nat)) := by
  have := numF_val hf l 0 hn x i h
  rw [Nat.zero_add] at this
  exact this
theorem has_num {α : Type} {f : α → Tr} (hf : ∀ a b, f a = f b → a = b) {l : List α} (hn : l.Nodup) {x : α} (h : x ∈ l) : ∃ i : Nat, l[i]? = some x ∧ valV (numd f l) (f x) = some (.int (i : Nat)) := by
  obtain ⟨i, hi, rfl⟩ := List.mem_iff_getElem.mp h
  exact ⟨i, List.getElem?_eq_getElem hi, numd_val hf hn (List.getElem?_eq_getElem hi)⟩
theorem metf_pre {α : Type} [DecidableEq α] : ∀ (l acc : List α), ∃ u, l.foldl met1 acc = acc ++ u
  | [], acc => ⟨[], by simp⟩
  | y :: l, acc => by
    obtain ⟨u, h⟩ := metf_pre l (met1 acc y)
    rw [List.foldl_cons, h]
    unfold met1
    split
    · exact ⟨u, rfl⟩
    · exact ⟨[y] ++ u, by simp⟩
theorem mets_head {α : Type} [DecidableEq α] (x : α) (l : List α) : (mets (x :: l))[0]? = some x := by
  unfold mets
  rw [List.foldl_cons]
  obtain ⟨u, h⟩ := metf_pre l (met1 [] x)
  rw [h]
  rfl
def canon {α : Type} [DecidableEq α] (l : List α) : List Nat := l.map fun x => (mets l).idxOf x
theorem canon_len {α : Type} [DecidableEq α] (l : List α) : (canon l).length = l.length := by simp [canon]
theorem idx_app {α : Type} [DecidableEq α] {l r : List α} {x : α} (h : x ∈ l) : (l ++ r).idxOf x = l.idxOf x := by
  rw [List.idxOf_append, if_pos h]
theorem canon_snoc {α : Type} [DecidableEq α] (l : List α) (x : α) : canon (l ++ [x]) = canon l ++ [if x ∈ l then (mets l).idxOf x else (mets l).length] := by
  unfold canon
  rw [List.map_append, mets_snoc]
  congr 1
  · refine List.map_congr_left fun y hy => ?_
    unfold met1
    split
    · rfl
    · exact idx_app ((mets_mem y l).mpr hy)
  · simp only [List.map_cons, List.map_nil, List.cons.injEq, and_true]
    unfold met1
    by_cases h : x ∈ l
    · rw [if_pos ((mets_mem x l).mpr h), if_pos h]
    · rw [if_neg (fun z => h ((mets_mem x l).mp z)), if_neg h, List.idxOf_append, if_neg (fun z => h ((mets_mem x l).mp z))]
      simp
theorem canon_at {α : Type} [DecidableEq α] {l : List α} {i : Nat} {x : α} (h : l[i]? = some x) : (canon l)[i]? = some ((mets l).idxOf x) := by
  unfold canon
  rw [List.getElem?_map, h]
  rfl
theorem snoc_of {α : Type} {n : Nat} : ∀ {l : List α}, l.length = n + 1 → ∃ l' x, l = l' ++ [x] ∧ l'.length = n := fun {l} h =>
  ⟨l.dropLast, l.getLast (by intro z; rw [z] at h; simp at h), (List.dropLast_concat_getLast _).symm, by simp; omega⟩
theorem canon_one {α β : Type} [DecidableEq α] [DecidableEq β] : ∀ (n : Nat) {l : List α} {r : List β}, l.length = n → r.length = n → (∀ i j, i < n → j < n → (l[i]? = l[j]? ↔ r[i]? = r[j]?)) → canon l = canon r ∧ (mets l).length = (mets r).length
  | 0, l, r, h1, h2, _ => by
    rw [List.length_eq_zero_iff] at h1 h2
    subst h1 h2
    exact ⟨rfl, rfl⟩
  | n + 1, l, r, h1, h2, h => by
    obtain ⟨l, x, rfl, e1⟩ := snoc_of h1
    obtain ⟨r, y, rfl, e2⟩ := snoc_of h2
    obtain ⟨c1, c2⟩ := canon_one n e1 e2 fun i j hi hj => by
      have := h i j (by omega) (by omega)
      rw [List.getElem?_append_left (by omega), List.getElem?_append_left (by omega), List.getElem?_append_left (by omega), List.getElem?_append_left (by omega)] at this
      exact this
    have hx : (l ++ [x])[n]? = some x := by rw [List.getElem?_append_right (by omega), e1]; simp
    have hy : (r ++ [y])[n]? = some y := by rw [List.getElem?_append_right (by omega), e2]; simp
    have hm : x ∈ l ↔ y ∈ r := by
      constructor
      · intro z
        obtain ⟨i, hi, e⟩ := List.mem_iff_getElem.mp z
        have := (h i n (by omega) (by omega)).mp (by rw [hx, List.getElem?_append_left hi, List.getElem?_eq_getElem hi, e])
        rw [hy, List.getElem?_append_left (by omega)] at this
        exact List.mem_of_getElem? this
      · intro z
        obtain ⟨i, hi, e⟩ := List.mem_iff_getElem.mp z
        have := (h i n (by omega) (by omega)).mpr (by rw [hy, List.getElem?_append_left hi, List.getElem?_eq_getElem hi, e])
        rw [hx, List.getElem?_append_left (by omega)] at this
        exact List.mem_of_getElem? this
    rw [canon_snoc, canon_snoc, c1, mets_snoc, mets_snoc]
    by_cases z : x ∈ l
    · have zy := hm.mp z
      obtain ⟨i, hi, e⟩ := List.mem_iff_getElem.mp z
      have ei : l[i]? = some x := by rw [List.getElem?_eq_getElem hi, e]
      have er := (h i n (by omega) (by omega)).mp (by rw [hx, List.getElem?_append_left hi, ei])
      rw [hy, List.getElem?_append_left (by omega)] at er
      have := canon_at ei
      rw [c1, canon_at er] at this
      rw [if_pos z, if_pos zy, Option.some.inj this]
      unfold met1
      rw [if_pos ((mets_mem x l).mpr z), if_pos ((mets_mem y r).mpr zy)]
      exact ⟨rfl, c2⟩
    · have zy : y ∉ r := fun q => z (hm.mpr q)
      rw [if_neg z, if_neg zy, c2]
      unfold met1
      rw [if_neg (fun q => z ((mets_mem x l).mp q)), if_neg (fun q => zy ((mets_mem y r).mp q))]
      exact ⟨rfl, by simp [c2]⟩
theorem idx_inj {α : Type} [DecidableEq α] {l : List α} {x y : α} (hx : x ∈ l) (hy : y ∈ l) (h : l.idxOf x = l.idxOf y) : x = y := by
  have a := List.idxOf_lt_length_of_mem hx
  have b : l[l.idxOf x] = x := List.getElem_idxOf a
  have c := List.idxOf_lt_length_of_mem hy
  have d : l[l.idxOf y] = y := List.getElem_idxOf c
  rw [← b, ← d]
  simp only [h]
theorem canon_ker {α : Type} [DecidableEq α] {l : List α} {i j : Nat} {x y : α} (hi : l[i]? = some x) (hj : l[j]? = some y) : (canon l)[i]? = (canon l)[j]? ↔ x = y := by
  rw [canon_at hi, canon_at hj]
  constructor
  · intro h
    exact idx_inj ((mets_mem x l).mpr (List.mem_of_getElem? hi)) ((mets_mem y l).mpr (List.mem_of_getElem? hj)) (Option.some.inj h)
  · rintro rfl
    rfl
theorem canon_lt {α : Type} [DecidableEq α] {l : List α} {c : Nat} (h : c ∈ canon l) : c < (mets l).length := by
  obtain ⟨x, hx, rfl⟩ := List.mem_map.mp h
  exact List.idxOf_lt_length_of_mem ((mets_mem x l).mpr hx)
theorem mets_canon {α : Type} [DecidableEq α] : ∀ (n : Nat) {l : List α}, l.length = n → mets (canon l) = List.range (mets l).length
  | 0, l, h => by
    rw [List.length_eq_zero_iff] at h
    subst h
    rfl
  | n + 1, l, h => by
    obtain ⟨l, x, rfl, e1⟩ := snoc_of h
    have ih := mets_canon n e1
    rw [canon_snoc, mets_snoc, mets_snoc, ih]
    by_cases z : x ∈ l
    · rw [if_pos z]
      unfold met1
      rw [if_pos ((mets_mem x l).mpr z), if_pos (List.mem_range.mpr (List.idxOf_lt_length_of_mem ((mets_mem x l).mpr z)))]
    · rw [if_neg z]
      unfold met1
      rw [if_neg (fun q => z ((mets_mem x l).mp q)), if_neg (by simp)]
      simp [List.range_succ]
theorem canon_0 {α : Type} [DecidableEq α] {l : List α} (h : 0 < l.length) : (canon l)[0]? = some 0 := by
  cases l with
  | nil => simp at h
  | cons x l =>
    rw [canon_at (x := x) rfl]
    have := mets_head x l
    cases e : mets (x :: l) with
    | nil => rw [e] at this; simp at this
    | cons y r =>
      rw [e] at this
      obtain rfl : y = x := by simpa using this
      simp
def fstF (f : Nat → Tr) (xs : List Nat) (l : List Nat) : List (Tr × V) := l.map fun x => (f x, .int (xs.idxOf x : Nat))
theorem fst_val {f : Nat → Tr} (hf : ∀ a b, f a = f b → a = b) {xs : List Nat} : ∀ {l : List Nat} {x : Nat}, (valV (fstF f xs l) (f x)).isSome = decide (x ∈ l)
  | [], x => rfl
  | y :: l, x => by
    unfold fstF
    rw [List.map_cons]
    by_cases e : y = x
    · subst e
      rw [valV_pos rfl]
      simp
    · rw [valV_neg (fun z => e (hf _ _ z))]
      have := fst_val hf (xs := xs) (l := l) (x := x)
      unfold fstF at this
      rw [this]
      simp [Ne.symm e]
end L2
namespace L2
open PySem PySem.Spec PyProof.Rows
structure TSt (gs : List Nat) (k : Nat) (ts : List (List Nat)) (qs : List Nat) : Prop where
  tl : ts.length = k
  tn : ∀ (c : Nat) xs, ts[c]? = some xs → xs.Nodup
  tg : ∀ (c : Nat) xs, ts[c]? = some xs → ∀ a ∈ xs, gs[a]? = some c
  tq : ∀ (c : Nat) xs, ts[c]? = some xs → (xs ≠ [] ↔ c ∈ qs)
  qn : qs.Nodup
  ql : ∀ c ∈ qs, c < k
def Tt (gs : List Nat) (ts : List (List Nat)) (a : Nat) : Prop := ∃ c xs, gs[a]? = some c ∧ ts[c]? = some xs ∧ a ∈ xs
def addN (xs : List Nat) (s : Nat) : List Nat := if s ∈ xs then xs else xs ++ [s]
theorem addN_mem {xs : List Nat} {s a : Nat} : a ∈ addN xs s ↔ a ∈ xs ∨ a = s := by
  unfold addN
  split
  · next h =>
    constructor
    · exact .inl
    · rintro (h' | rfl)
      · exact h'
      · exact h
  · simp
theorem addN_nd {xs : List Nat} {s : Nat} (h : xs.Nodup) : (addN xs s).Nodup := by
  unfold addN
  split
  · exact h
  · next z => exact nd_snoc h z
def touT (gs : List Nat) (ts : List (List Nat)) (s : Nat) : List (List Nat) := ts.set (gs.getD s 0) (addN (ts.getD (gs.getD s 0) []) s)
def touQ (gs : List Nat) (ts : List (List Nat)) (qs : List Nat) (s : Nat) : List Nat := if ts.getD (gs.getD s 0) [] = [] then qs ++ [gs.getD s 0] else qs
theorem TSt.touch {gs : List Nat} {k : Nat} {ts : List (List Nat)} {qs : List Nat} {s c : Nat} (h : TSt gs k ts qs) (hs : gs[s]? = some c) (hc : c < k) : TSt gs k (touT gs ts s) (touQ gs ts qs s) ∧ ∀ a, Tt gs (touT gs ts s) a ↔ Tt gs ts a ∨ a = s := by
  have e1 : gs.getD s 0 = c := by simp [List.getD, hs]
  have hl : c < ts.length := by rw [h.tl]; exact hc
  obtain ⟨xs, hx⟩ : ∃ xs, ts[c]? = some xs := ⟨_, List.getElem?_eq_getElem hl⟩
  have e2 : ts.getD c [] = xs := by simp [List.getD, hx]
  unfold touT touQ
  rw [e1, e2]
  have get : ∀ (d : Nat) ys, (ts.set c (addN xs s))[d]? = some ys → (d = c ∧ ys = addN xs s) ∨ (d ≠ c ∧ ts[d]? = some ys) := fun d ys e => by
    rw [List.getElem?_set] at e
    by_cases z : c = d
    · rw [if_pos z, if_pos hl] at e
      exact .inl ⟨z.symm, (Option.some.inj e).symm⟩
    · rw [if_neg z] at e
      exact .inr ⟨Ne.symm z, e⟩
  have geC : (ts.set c (addN xs s))[c]? = some (addN xs s) := by rw [List.getElem?_set, if_pos rfl, if_pos hl]
  have geD : ∀ {d : Nat} {ys : List Nat}, ts[d]? = some ys → d ≠ c → (ts.set c (addN xs s))[d]? = some ys := fun e z => by rw [List.getElem?_set, if_neg (Ne.symm z)]; exact e
  have ane : addN xs s ≠ [] := fun z => by
    have : s ∈ addN xs s := addN_mem.mpr (.inr rfl)
    rw [z] at this
    cases this
  refine ⟨⟨by simp [h.tl], fun d ys e => ?_, fun d ys e a ha => ?_, fun d ys e => ?_, ?_, fun d hd => ?_⟩, fun a => ?_⟩
  · rcases get d ys e with ⟨rfl, rfl⟩ | ⟨_, e⟩
    · exact addN_nd (h.tn _ _ hx)
    · exact h.tn _ _ e
  · rcases get d ys e with ⟨rfl, rfl⟩ | ⟨_, e⟩
    · rcases addN_mem.mp ha with ha | rfl
      · exact h.tg _ _ hx a ha
      · exact hs
    · exact h.tg _ _ e a ha
  · have hq := h.tq _ _ hx
    rcases get d ys e with ⟨rfl, rfl⟩ | ⟨z, e⟩
    · refine ⟨fun _ => ?_, fun _ => ane⟩
      by_cases y : xs = []
      · rw [if_pos y]; simp
      · rw [if_neg y]; exact hq.mp y
    · rw [h.tq _ _ e]
      split
      · simp [z]
      · exact Iff.rfl
  · split
    · next y =>
      refine nd_snoc h.qn fun z => ?_
      exact (h.tq _ _ hx).mpr z y
    · exact h.qn
  · split at hd
    · rcases List.mem_append.mp hd with hd | hd
      · exact h.ql d hd
      · rw [List.mem_singleton.mp hd]; exact hc
    · exact h.ql d hd
  · constructor
    · rintro ⟨d, ys, g1, g2, g3⟩
      rcases get d ys g2 with ⟨rfl, rfl⟩ | ⟨_, e⟩
      · rcases addN_mem.mp g3 with g3 | rfl
        · exact .inl ⟨_, _, g1, hx, g3⟩
        · exact .inr rfl
      · exact .inl ⟨_, _, g1, e, g3⟩
    · rintro (⟨d, ys, g1, g2, g3⟩ | rfl)
      · by_cases z : d = c
        · subst z
          rw [hx] at g2
          cases g2
          exact ⟨_, _, g1, geC, addN_mem.mpr (.inl g3)⟩
        · exact ⟨_, _, g1, geD g2 z, g3⟩
      · exact ⟨_, _, hs, geC, addN_mem.mpr (.inr rfl)⟩
structure GSt (n : Nat) (gs : List Nat) (ms ts : List (List Nat)) (qs : List Nat) : Prop where
  gl : gs.length = n
  gk : ∀ (a c : Nat), gs[a]? = some c → c < ms.length
  me : ∀ (c : Nat) xs, ms[c]? = some xs → xs.Nodup ∧ xs ≠ [] ∧ ∀ a, a ∈ xs ↔ gs[a]? = some c
  ts : TSt gs ms.length ts qs
theorem GSt.few {n : Nat} {gs : List Nat} {ms ts : List (List Nat)} {qs : List Nat} (h : GSt n gs ms ts qs) : ms.length ≤ n := by
  have hd : ∀ c, c < ms.length → gs[(ms.getD c []).headD 0]? = some c := fun c hc => by
    have e := List.getElem?_eq_getElem hc
    obtain ⟨_, h2, h3⟩ := h.me c _ e
    have e2 : ms.getD c [] = ms[c] := by simp [List.getD, e]
    rw [e2]
    refine (h3 _).mp ?_
    cases e3 : ms[c] with
    | nil => exact absurd e3 h2
    | cons x r => simp
  have := pigeon n ((List.range ms.length).map fun c => (ms.getD c []).headD 0) (List.pairwise_map.mpr (List.Pairwise.imp_of_mem (fun {a b} ha hb hne e => hne (by
    have h1 := hd a (List.mem_range.mp ha)
    have h2 := hd b (List.mem_range.mp hb)
    rw [e, h2] at h1
    exact (Option.some.inj h1).symm)) List.nodup_range)) (fun k hk => by
    obtain ⟨c, hc, rfl⟩ := List.mem_map.mp hk
    have := hd c (List.mem_range.mp hc)
    rw [← h.gl]
    exact (List.getElem?_eq_some_iff.mp this).1)
  simpa using this
theorem GSt.wait {n : Nat} {gs : List Nat} {ms ts : List (List Nat)} {qs : List Nat} (h : GSt n gs ms ts qs) : qs.length ≤ ms.length := pigeon _ _ h.ts.qn h.ts.ql
structure PartsOf (gs : List Nat) (led : Nat → List Nat) (c : Nat) (ps : List (List Nat)) : Prop where
  ne : ∀ p ∈ ps, p ≠ []
  nd : ps.flatten.Nodup
  me : ∀ a, a ∈ ps.flatten ↔ gs[a]? = some c
  eq : ∀ p ∈ ps, ∀ a ∈ p, ∀ b ∈ p, led a = led b
  df : ps.Pairwise fun p q => ∀ a ∈ p, ∀ b ∈ q, led a ≠ led b
theorem PartsOf.perm {gs : List Nat} {led : Nat → List Nat} {c : Nat} {ps qs : List (List Nat)} (h : PartsOf gs led c ps) (e : ps.Perm qs) : PartsOf gs led c qs :=
  ⟨fun p hp => h.ne p (e.mem_iff.mpr hp), (e.flatten.nodup_iff).mp h.nd, fun a => by rw [← h.me a]; exact e.flatten.mem_iff.symm, fun p hp => h.eq p (e.mem_iff.mpr hp), (e.pairwise_iff (fun {p q} z a ha b hb => Ne.symm (z b hb a ha))).mp h.df⟩
def reg1 (gs xs : List Nat) (m : Nat) : List Nat := xs.foldl (fun g a => g.set a m) gs
theorem reg1_len (m : Nat) : ∀ (xs gs : List Nat), (reg1 gs xs m).length = gs.length
  | [], gs => rfl
  | x :: xs, gs => by
    show (reg1 (gs.set x m) xs m).length = _
    rw [reg1_len m xs]
    simp
theorem reg1_at {m a : Nat} : ∀ {xs gs : List Nat}, a < gs.length → (reg1 gs xs m)[a]? = if a ∈ xs then some m else gs[a]?
  | [], gs, _ => by simp [reg1]
  | x :: xs, gs, h => by
    show (reg1 (gs.set x m) xs m)[a]? = _
    rw [reg1_at (by simpa using h), List.getElem?_set]
    by_cases h1 : a ∈ xs
    · simp [h1]
    · by_cases h2 : x = a
      · subst h2
        simp [h1, h]
      · rw [if_neg h1, if_neg h2, if_neg (by simp [h1, Ne.symm h2])]
def regA : List Nat → List (List Nat) → Nat → List Nat
  | gs, [], _ => gs
  | gs, xs :: r, m => regA (reg1 gs xs m) r (m + 1)
theorem regA_len : ∀ (r : List (List Nat)) (gs : List Nat) (m : Nat), (regA gs r m).length = gs.length
  | [], gs, m => rfl
  | xs :: r, gs, m => by
    show (regA (reg1 gs xs m) r (m + 1)).length = _
    rw [regA_len r, reg1_len]
theorem regA_no {a : Nat} : ∀ {r : List (List Nat)} {gs : List Nat} {m : Nat}, a ∉ r.flatten → (regA gs r m)[a]? = gs[a]?
  | [], gs, m, _ => rfl
  | xs :: r, gs, m, h => by
    rw [List.flatten_cons, List.mem_append, not_or] at h
    show (regA (reg1 gs xs m) r (m + 1))[a]? = _
    rw [regA_no h.2]
    by_cases hl : a < gs.length
    · rw [reg1_at hl, if_neg h.1]
    · rw [List.getElem?_eq_none (by rw [reg1_len]; omega), List.getElem?_eq_none (by omega)]
theorem regA_at {a : Nat} : ∀ {r : List (List Nat)} {gs : List Nat} {m i : Nat} {xs : List Nat}, r.flatten.Nodup → r[i]? = some xs → a ∈ xs → a < gs.length → (regA gs r m)[a]? = some (m + i)
  | [], gs, m, i, xs, _, e, _, _ => by simp at e
  | ys :: r, gs, m, 0, xs, hn, e, ha, hl => by
    obtain rfl : ys = xs := by simpa using e
    rw [List.flatten_cons, List.nodup_append] at hn
    show (regA (reg1 gs ys m) r (m + 1))[a]? = _
    rw [regA_no (fun z => hn.2.2 a ha a z rfl), reg1_at hl, if_pos ha]
    rfl
  | ys :: r, gs, m, i + 1, xs, hn, e, ha, hl => by
    rw [List.flatten_cons, List.nodup_append] at hn
    show (regA (reg1 gs ys m) r (m + 1))[a]? = _
    rw [regA_at (i := i) hn.2.1 (by simpa using e) ha (by rw [reg1_len]; exact hl)]
    congr 1
    omega
theorem regA_snoc (xs : List Nat) : ∀ (r : List (List Nat)) (gs : List Nat) (m : Nat), regA gs (r ++ [xs]) m = reg1 (regA gs r m) xs (m + r.length)
  | [], gs, m => rfl
  | ys :: r, gs, m => by
    show regA (reg1 gs ys m) (r ++ [xs]) (m + 1) = _
    rw [regA_snoc xs r, show m + 1 + r.length = m + (ys :: r).length by simp; omega]
    rfl
theorem mem_flat {r : List (List Nat)} {a : Nat} : a ∈ r.flatten ↔ ∃ (i : Nat) (xs : List Nat), r[i]? = some xs ∧ a ∈ xs := by
  rw [List.mem_flatten]
  constructor
  · rintro ⟨xs, h1, h2⟩
    obtain ⟨i, hi, rfl⟩ := List.mem_iff_getElem.mp h1
    exact ⟨i, _, List.getElem?_eq_getElem hi, h2⟩
  · rintro ⟨i, xs, h1, h2⟩
    exact ⟨xs, List.mem_of_getElem? h1, h2⟩
section
variable {n c : Nat} {gs qs big : List Nat} {ms ts rs : List (List Nat)} {led : Nat → List Nat}
theorem part_at (h : GSt n gs ms ts (qs ++ [c])) (hp : PartsOf gs led c (rs ++ [big])) {a d : Nat} : (regA gs rs ms.length)[a]? = some d ↔ (a ∉ rs.flatten ∧ gs[a]? = some d) ∨ ∃ (i : Nat) (xs : List Nat), rs[i]? = some xs ∧ a ∈ xs ∧ d = ms.length + i := by
  have hfl : (rs ++ [big]).flatten = rs.flatten ++ big := by simp
  have hn := hp.nd
  rw [hfl, List.nodup_append] at hn
  by_cases z : a ∈ rs.flatten
  · obtain ⟨i, xs, e, hx⟩ := mem_flat.mp z
    have hg : gs[a]? = some c := (hp.me a).mp (by rw [hfl]; exact List.mem_append_left _ z)
    have hl := (List.getElem?_eq_some_iff.mp hg).1
    have := regA_at (m := ms.length) hn.1 e hx hl
    rw [this]
    constructor
    · intro q
      exact .inr ⟨i, xs, e, hx, (Option.some.inj q).symm⟩
    · rintro (⟨q, _⟩ | ⟨j, ys, e', hy, rfl⟩)
      · exact absurd z q
      · have := regA_at (m := ms.length) hn.1 e' hy hl
        rw [← this]
        exact regA_at hn.1 e hx hl |>.symm ▸ rfl
  · rw [regA_no z]
    constructor
    · intro q
      exact .inl ⟨z, q⟩
    · rintro (⟨_, q⟩ | ⟨j, ys, e', hy, rfl⟩)
      · exact q
      · exact absurd (mem_flat.mpr ⟨j, ys, e', hy⟩) z
theorem GSt.part (h : GSt n gs ms ts (qs ++ [c])) (hp : PartsOf gs led c (rs ++ [big])) : GSt n (regA gs rs ms.length) (ms.set c big ++ rs) (ts.set c [] ++ rs.map fun _ => []) qs := by
  have hfl : (rs ++ [big]).flatten = rs.flatten ++ big := by simp
  have hn := hp.nd
  rw [hfl, List.nodup_append] at hn
  have hme : ∀ a, (a ∈ rs.flatten ∨ a ∈ big) ↔ gs[a]? = some c := fun a => by rw [← hp.me a, hfl, List.mem_append]
  have hck : c < ms.length := h.ts.ql c (by simp)
  have hct : c < ts.length := by rw [h.ts.tl]; exact hck
  have hqn := h.ts.qn
  rw [List.nodup_append] at hqn
  have hcq : c ∉ qs := fun z => hqn.2.2 c z c (by simp) rfl
  have hrn : ∀ (i : Nat) xs, rs[i]? = some xs → xs.Nodup := fun i xs e => by
    have := List.mem_of_getElem? e
    exact (List.sublist_flatten_of_mem this).nodup hn.1
  refine ⟨by rw [regA_len]; exact h.gl, fun a d e => ?_, fun d xs e => ?_, ⟨by simp [h.ts.tl], fun d xs e => ?_, fun d xs e a ha => ?_, fun d xs e => ?_, hqn.1, fun d hd => ?_⟩⟩
  · rw [List.length_append, List.length_set]
    rcases (part_at h hp).mp e with ⟨_, e'⟩ | ⟨i, xs, e', _, q⟩
    · have := h.gk a d e'
      omega
    · have := (List.getElem?_eq_some_iff.mp e').1
      omega
  · by_cases hd : d < ms.length
    · rw [List.getElem?_append_left (by simpa using hd), List.getElem?_set] at e
      by_cases z : c = d
      · subst z
        rw [if_pos rfl, if_pos hd] at e
        obtain rfl := Option.some.inj e
        refine ⟨hn.2.1, hp.ne _ (by simp), fun a => ?_⟩
        rw [part_at h hp]
        constructor
        · intro ha
          exact .inl ⟨fun z => hn.2.2 a z a ha rfl, (hme a).mp (.inr ha)⟩
        · rintro (⟨z, q⟩ | ⟨i, xs, e, _, q⟩)
          · exact ((hme a).mpr q).resolve_left z
          · omega
      · rw [if_neg z] at e
        obtain ⟨h1, h2, h3⟩ := h.me d xs e
        refine ⟨h1, h2, fun a => ?_⟩
        rw [h3 a, part_at h hp]
        constructor
        · intro q
          refine .inl ⟨fun w => ?_, q⟩
          have := (hme a).mp (.inl w)
          rw [q] at this
          exact z (Option.some.inj this).symm
        · rintro (⟨_, q⟩ | ⟨i, xs, e, _, q⟩)
          · exact q
          · omega
    · rw [List.getElem?_append_right (by simp; omega), List.length_set] at e
      refine ⟨hrn _ _ e, hp.ne _ (List.mem_append_left _ (List.mem_of_getElem? e)), fun a => ?_⟩
      rw [part_at h hp]
      constructor
      · intro ha
        exact .inr ⟨_, _, e, ha, by omega⟩
      · rintro (⟨_, q⟩ | ⟨i, ys, e', ha, q⟩)
        · exact absurd (h.gk a d q) hd
        · rw [show i = d - ms.length by omega, e] at e'
          cases e'
          exact ha
  · by_cases hd : d < ts.length
    · rw [List.getElem?_append_left (by simpa using hd), List.getElem?_set] at e
      by_cases z : c = d
      · rw [if_pos z, if_pos hct] at e
        rw [← Option.some.inj e]
        simp
      · rw [if_neg z] at e
        exact h.ts.tn _ _ e
    · rw [List.getElem?_append_right (by simp; omega), List.getElem?_map] at e
      obtain ⟨_, _, rfl⟩ := Option.map_eq_some_iff.mp e
      simp
  · by_cases hd : d < ts.length
    · rw [List.getElem?_append_left (by simpa using hd), List.getElem?_set] at e
      by_cases z : c = d
      · rw [if_pos z, if_pos hct] at e
        rw [← Option.some.inj e] at ha
        cases ha
      · rw [if_neg z] at e
        have hg := h.ts.tg d xs e a ha
        rw [part_at h hp]
        refine .inl ⟨fun w => ?_, hg⟩
        have := (hme a).mp (.inl w)
        rw [hg] at this
        exact z (Option.some.inj this).symm
    · rw [List.getElem?_append_right (by simp; omega), List.getElem?_map] at e
      obtain ⟨_, _, rfl⟩ := Option.map_eq_some_iff.mp e
      cases ha
  · by_cases hd : d < ts.length
    · rw [List.getElem?_append_left (by simpa using hd), List.getElem?_set] at e
      by_cases z : c = d
      · subst z
        rw [if_pos rfl, if_pos hct] at e
        rw [← Option.some.inj e]
        simp [hcq]
      · rw [if_neg z] at e
        rw [h.ts.tq d xs e]
        simp [Ne.symm z]
    · rw [List.getElem?_append_right (by simp; omega), List.getElem?_map] at e
      obtain ⟨_, _, rfl⟩ := Option.map_eq_some_iff.mp e
      refine ⟨fun q => absurd rfl q, fun q => ?_⟩
      have := h.ts.ql d (List.mem_append_left _ q)
      rw [h.ts.tl] at hd
      omega
  · have := h.ts.ql d (List.mem_append_left _ hd)
    simp
    omega
end
section
variable {α : Type} {lab : Nat → α} {w : Nat → Nat → Nat} {n many c : Nat} {gs qs big : List Nat} {ms ts ts' rs : List (List Nat)} {led : Nat → List Nat}
theorem getD_of {gs : List Nat} {a d : Nat} (h : gs[a]? = some d) : gs.getD a 0 = d := by simp [List.getD, h]
theorem grp_part (hG : Grp lab w n many (fun a => gs.getD a 0) (Tt gs ts)) (h : GSt n gs ms ts (qs ++ [c])) (hp : PartsOf gs led c (rs ++ [big])) (hw : ∀ a j, a < n → j < many → w a j < n)
    (hled : ∀ a b, a < n → b < n → (led a = led b ↔ ∀ j, j < many → gs.getD (w a j) 0 = gs.getD (w b j) 0))
    (hold : ∀ a, Tt gs ts a → gs.getD a 0 ≠ c → Tt (regA gs rs ms.length) ts' a) (hsrc : ∀ a j, a < n → j < many → w a j ∈ rs.flatten → Tt (regA gs rs ms.length) ts' a) :
    Grp lab w n many (fun a => (regA gs rs ms.length).getD a 0) (Tt (regA gs rs ms.length) ts') := by
  have hfl : (rs ++ [big]).flatten = rs.flatten ++ big := by simp
  have hn := hp.nd
  rw [hfl, List.nodup_append] at hn
  have hme : ∀ a, (a ∈ rs.flatten ∨ a ∈ big) ↔ gs[a]? = some c := fun a => by rw [← hp.me a, hfl, List.mem_append]
  have hck : c < ms.length := h.ts.ql c (by simp)
  have gx : ∀ a, a < n → gs[a]? = some (gs.getD a 0) := fun a ha => by
    have : a < gs.length := by rw [h.gl]; exact ha
    rw [List.getElem?_eq_getElem this]
    simp [List.getD, List.getElem?_eq_getElem this]
  have gc : ∀ a, a < n → (gs.getD a 0 = c ↔ gs[a]? = some c) := fun a ha => by rw [gx a ha, Option.some_inj]
  have stay : ∀ a, a ∉ rs.flatten → (regA gs rs ms.length).getD a 0 = gs.getD a 0 := fun a z => by simp only [List.getD, regA_no z]
  have went : ∀ {a i : Nat} {xs : List Nat}, rs[i]? = some xs → a ∈ xs → (regA gs rs ms.length).getD a 0 = ms.length + i := fun e ha => getD_of ((part_at h hp).mpr (.inr ⟨_, _, e, ha, rfl⟩))
  have old : ∀ a, a < n → gs.getD a 0 < ms.length := fun a ha => h.gk a _ (gx a ha)
  refine hG.part (G := c) hw (fun a ha z => ?_) (fun a b ha hb ga gb => ?_) (fun a b ha hb ga gb => ?_) (fun a ha => ?_)
  · exact stay a fun q => z ((gc a ha).mpr ((hme a).mp (.inl q)))
  · show (regA gs rs ms.length).getD a 0 = (regA gs rs ms.length).getD b 0 ↔ _
    rw [← hled a b ha hb]
    have find : ∀ x, x < n → gs.getD x 0 = c → ∃ (i : Nat) (p : List Nat), (rs ++ [big])[i]? = some p ∧ x ∈ p ∧ (regA gs rs ms.length).getD x 0 = (if i < rs.length then ms.length + i else c) := fun x hx gx' => by
      rcases (hme x).mpr ((gc x hx).mp gx') with q | q
      · obtain ⟨i, xs, e, hx'⟩ := mem_flat.mp q
        have hi := (List.getElem?_eq_some_iff.mp e).1
        exact ⟨i, xs, by rw [List.getElem?_append_left hi]; exact e, hx', by rw [if_pos hi]; exact went e hx'⟩
      · refine ⟨rs.length, big, by simp, q, ?_⟩
        rw [if_neg (Nat.lt_irrefl _), stay x (fun z => hn.2.2 x z x q rfl)]
        exact gx'
    obtain ⟨i, p, e1, a1, b1⟩ := find a ha ga
    obtain ⟨j, q, e2, a2, b2⟩ := find b hb gb
    rw [b1, b2]
    have il := (List.getElem?_eq_some_iff.mp e1).1
    have jl := (List.getElem?_eq_some_iff.mp e2).1
    simp only [List.length_append, List.length_cons, List.length_nil] at il jl
    have key : (if i < rs.length then ms.length + i else c) = (if j < rs.length then ms.length + j else c) ↔ i = j := by
      constructor
      · intro z
        by_cases x : i < rs.length <;> by_cases y : j < rs.length <;> simp only [x, y, if_true, if_false] at z <;> omega
      · rintro rfl
        rfl
    rw [key]
    constructor
    · rintro rfl
      rw [e1] at e2
      cases e2
      exact hp.eq p (List.mem_of_getElem? e1) a a1 b a2
    · intro z
      refine Classical.not_not.mp fun hij => ?_
      obtain ⟨l1, g1⟩ := List.getElem?_eq_some_iff.mp e1
      obtain ⟨l2, g2⟩ := List.getElem?_eq_some_iff.mp e2
      have pw := List.pairwise_iff_getElem.mp hp.df
      rcases Nat.lt_or_gt_of_ne hij with q | q
      · exact pw i j l1 l2 q a (g1 ▸ a1) b (g2 ▸ a2) z
      · exact pw j i l2 l1 q b (g2 ▸ a2) a (g1 ▸ a1) z.symm
  · show (regA gs rs ms.length).getD a 0 ≠ (regA gs rs ms.length).getD b 0
    rw [stay b fun q => gb ((gc b hb).mpr ((hme b).mp (.inl q)))]
    have ob := old b hb
    rcases (hme a).mpr ((gc a ha).mp ga) with q | q
    · obtain ⟨i, xs, e, hx'⟩ := mem_flat.mp q
      rw [went e hx']
      omega
    · rw [stay a (fun z => hn.2.2 a z a q rfl)]
      intro z
      exact gb (by rw [← z]; exact ga)
  · rintro (⟨h1, h2⟩ | ⟨j, hj, h1⟩)
    · exact hold a h1 h2
    · refine hsrc a j ha hj (Classical.not_not.mp fun z => h1 (stay _ z))
theorem grp_end (hG : Grp lab w n many (fun a => gs.getD a 0) (Tt gs ts)) (h : GSt n gs ms ts []) (hw : ∀ a j, a < n → j < many → w a j < n) {a b : Nat} (ha : a < n) (hb : b < n) : gs[a]? = gs[b]? ↔ ¬ ApartR lab w many a b := by
  rw [← hG.done hw (fun x hx ⟨c, xs, e1, e2, e3⟩ => ?_) ha hb]
  · have la : a < gs.length := by rw [h.gl]; exact ha
    have lb : b < gs.length := by rw [h.gl]; exact hb
    simp [List.getD, List.getElem?_eq_getElem la, List.getElem?_eq_getElem lb]
  · have := (h.ts.tq c xs e2).mp (fun z => by rw [z] at e3; cases e3)
    cases this
end
def memL (gs : List Nat) (k : Nat) : List (List Nat) := (List.range k).map fun c => (List.range gs.length).filter fun a => decide (gs[a]? = some c)
theorem memL_at {gs : List Nat} {k c : Nat} {xs : List Nat} (h : (memL gs k)[c]? = some xs) : c < k ∧ xs.Nodup ∧ ∀ a, a ∈ xs ↔ gs[a]? = some c := by
  unfold memL at h
  rw [List.getElem?_map] at h
  obtain ⟨d, hd, rfl⟩ := Option.map_eq_some_iff.mp h
  obtain ⟨h1, h2⟩ := List.getElem?_eq_some_iff.mp hd
  rw [List.length_range] at h1
  rw [List.getElem_range] at h2
  subst h2
  refine ⟨h1, List.Pairwise.filter _ List.nodup_range, fun a => ?_⟩
  rw [List.mem_filter, List.mem_range, decide_eq_true_iff]
  constructor
  · exact fun z => z.2
  · intro z
    exact ⟨(List.getElem?_eq_some_iff.mp z).1, z⟩
theorem gst_first {α : Type} [DecidableEq α] (l : List α) : GSt l.length (canon l) (memL (canon l) (mets l).length) (memL (canon l) (mets l).length) (List.range (mets l).length) := by
  have ml : (memL (canon l) (mets l).length).length = (mets l).length := by simp [memL]
  have ne : ∀ (c : Nat) xs, (memL (canon l) (mets l).length)[c]? = some xs → xs ≠ [] := fun c xs e => by
    obtain ⟨h1, h2, h3⟩ := memL_at e
    have hm : (mets l)[c] ∈ l := (mets_mem _ l).mp (List.getElem_mem h1)
    obtain ⟨i, hi, e'⟩ := List.mem_iff_getElem.mp hm
    have e2 : l[i]? = some (mets l)[c] := by rw [List.getElem?_eq_getElem hi, e']
    have := canon_at e2
    have h4 : (mets l).idxOf (mets l)[c] = c := by
      refine List.Nodup.idxOf_getElem (mets_nd l) c h1
    rw [h4] at this
    have := (h3 i).mpr this
    intro z
    rw [z] at this
    cases this
  refine ⟨canon_len l, fun a c e => by rw [ml]; exact canon_lt (List.mem_of_getElem? e), fun c xs e => ⟨(memL_at e).2.1, ne c xs e, (memL_at e).2.2⟩, ⟨rfl, fun c xs e => (memL_at e).2.1, fun c xs e a ha => ((memL_at e).2.2 a).mp ha, fun c xs e => ⟨fun _ => List.mem_range.mpr (memL_at e).1, fun _ => ne c xs e⟩, List.nodup_range, fun c hc => by rw [ml]; exact List.mem_range.mp hc⟩⟩
theorem grp_first {α : Type} [DecidableEq α] {w : Nat → Nat → Nat} {many : Nat} (l : List α) : Grp (fun a => l[a]?) w l.length many (fun a => (canon l).getD a 0) (Tt (canon l) (memL (canon l) (mets l).length)) := by
  have gx : ∀ a, a < l.length → (canon l)[a]? = some ((canon l).getD a 0) := fun a ha => by
    have : a < (canon l).length := by rw [canon_len]; exact ha
    simp [List.getD, List.getElem?_eq_getElem this]
  have ker : ∀ a b, a < l.length → b < l.length → ((canon l).getD a 0 = (canon l).getD b 0 ↔ l[a]? = l[b]?) := fun a b ha hb => by
    have := canon_ker (List.getElem?_eq_getElem ha) (List.getElem?_eq_getElem hb)
    rw [gx a ha, gx b hb, Option.some_inj] at this
    rw [this, List.getElem?_eq_getElem ha, List.getElem?_eq_getElem hb, Option.some_inj]
  have all : ∀ a, a < l.length → Tt (canon l) (memL (canon l) (mets l).length) a := fun a ha => by
    have e := gx a ha
    have hk := canon_lt (List.mem_of_getElem? e)
    have hl : (canon l).getD a 0 < (memL (canon l) (mets l).length).length := by simpa [memL] using hk
    exact ⟨_, _, e, List.getElem?_eq_getElem hl, ((memL_at (List.getElem?_eq_getElem hl)).2.2 a).mpr e⟩
  exact ⟨fun a b ha hb e => (ker a b ha hb).mp e, fun a b ha hb _ z => absurd (all a ha) z, fun a b ha hb e => ⟨[], fun _ z => absurd z (by simp), fun z => e ((ker a b ha hb).mpr z)⟩⟩
section
variable {α : Type} {lab : Nat → α} {w : Nat → Nat → Nat} {many : Nat}
theorem Apart.irr : ∀ {v : List Nat} {a : Nat}, ¬ Apart lab w a a v
  | [], a => fun h => h rfl
  | j :: v, a => Apart.irr (v := v)
theorem Apart.symm : ∀ {v : List Nat} {a b : Nat}, Apart lab w a b v → Apart lab w b a v
  | [], a, b, h => Ne.symm h
  | j :: v, a, b, h => Apart.symm (v := v) h
theorem Apart.tri : ∀ {v : List Nat} {a b c : Nat}, Apart lab w a c v → Apart lab w a b v ∨ Apart lab w b c v
  | [], a, b, c, h => by
    by_cases e : lab a = lab b
    · exact .inr (fun z => h (e.trans z))
    · exact .inl e
  | j :: v, a, b, c, h => Apart.tri (v := v) h
def clsR (lab : Nat → α) (w : Nat → Nat → Nat) (many a : Nat) : Nat → Prop := fun b => ApartR lab w many a b
theorem cls_eq {a b : Nat} : clsR lab w many a = clsR lab w many b ↔ ¬ ApartR lab w many a b := by
  constructor
  · intro e z
    have : ApartR lab w many b b := by
      have h : clsR lab w many a b = clsR lab w many b b := by rw [e]
      exact cast h z
    obtain ⟨v, _, h⟩ := this
    exact Apart.irr h
  · intro z
    funext c
    refine propext ⟨fun ⟨v, h1, h2⟩ => ?_, fun ⟨v, h1, h2⟩ => ?_⟩
    · rcases Apart.tri (b := b) h2 with h | h
      · exact absurd ⟨v, h1, h⟩ z
      · exact ⟨v, h1, h⟩
    · rcases Apart.tri (b := a) h2 with h | h
      · exact absurd ⟨v, h1, h.symm⟩ z
      · exact ⟨v, h1, h⟩
noncomputable instance clsDec : DecidableEq (Nat → Prop) := fun _ _ => Classical.propDecidable _
noncomputable def likeN (lab : Nat → α) (w : Nat → Nat → Nat) (many : Nat) (l : List Nat) : List Nat := canon (l.map (clsR lab w many))
theorem like_of {n : Nat} {gs : List Nat} (hl : gs.length = n) (h : ∀ a b, a < n → b < n → (gs[a]? = gs[b]? ↔ ¬ ApartR lab w many a b)) : canon gs = likeN lab w many (List.range n) := by
  refine (canon_one n hl (by simp) fun i j hi hj => ?_).1
  rw [h i j hi hj, List.getElem?_map, List.getElem?_map, List.getElem?_range hi, List.getElem?_range hj]
  simp only [Option.map_some, Option.some_inj]
  exact cls_eq.symm
theorem like_map {α : Type} {lab lab' : Nat → α} {w w' : Nat → Nat → Nat} {n : Nat} {f : Nat → Nat} (hl : ∀ a, a < n → lab' a = lab (f a)) (hw : ∀ a j, a < n → j < many → w' a j < n ∧ f (w' a j) = w (f a) j) : likeN lab' w' many (List.range n) = likeN lab w many ((List.range n).map f) := by
  refine (canon_one n (by simp) (by simp) fun i j hi hj => ?_).1
  simp only [List.getElem?_map, List.getElem?_range hi, List.getElem?_range hj, Option.map_some, Option.some_inj]
  rw [cls_eq, cls_eq]
  refine not_congr ⟨fun ⟨v, h1, h2⟩ => ⟨v, h1, (apart_map f hl hw hi hj h1).mp h2⟩, fun ⟨v, h1, h2⟩ => ⟨v, h1, (apart_map f hl hw hi hj h1).mpr h2⟩⟩
end
end L2
namespace L2
open PySem PySem.Spec PyProof.Rows
def hds (xs : List Addr) (H : Hp) : Hp := fun a => if a ∈ xs then none else H a
theorem hds_same {xs : List Addr} {H : Hp} : Same (hds xs H) H := fun b o e => by
  unfold hds at e
  split at e
  · cases e
  · exact e
theorem hds_at {xs : List Addr} {H : Hp} {a : Addr} {o : HO} (e : H a = some o) (h : a ∉ xs) : hds xs H a = some o := by
  unfold hds
  rw [if_neg h]
  exact e
theorem hds_of {xs : List Addr} {H : Hp} {a : Addr} {o : HO} (e : hds xs H a = some o) : H a = some o ∧ a ∉ xs := by
  unfold hds at e
  split at e
  · cases e
  · exact ⟨e, by assumption⟩
theorem hds_mono {xs ys : List Addr} {H H' : Hp} (hs : ∀ a ∈ ys, a ∈ xs) (h : ∀ b o, b ∉ xs → H b = some o → H' b = some o) : Same (hds xs H) (hds ys H') := fun b o e => by
  obtain ⟨e1, e2⟩ := hds_of e
  exact hds_at (h b o e2 e1) fun z => e2 (hs b z)
theorem hds_off {d l : Addr} {xs : List Addr} {H H' : Hp} (hd : d ∈ xs) (hl : l ∈ xs) (o : Off d l H H') : Same (hds xs H) (hds xs H') := hds_mono (fun _ z => z) fun b u hb e => o b u (fun z => hb (z ▸ hd)) (fun z => hb (z ▸ hl)) e
theorem natsV_get {ks : List Nat} {i : Nat} {v : V} (h : (natsV ks)[i]? = some v) : ∃ k, ks[i]? = some k ∧ v = .int (k : Nat) := by
  unfold natsV at h
  rw [List.getElem?_map] at h
  obtain ⟨k, hk, rfl⟩ := Option.map_eq_some_iff.mp h
  exact ⟨k, hk, rfl⟩
def Lsts (H : Hp) (us : List V) (nx : Nat → List Nat) (n : Nat) : Prop := us.length = n ∧ ∀ i, i < n → ∃ p, us[i]? = some (.ref p) ∧ H p = some (.lst (natsV (nx i)))
theorem Lsts.mono {H H' : Hp} {us : List V} {nx : Nat → List Nat} {n : Nat} (h : Lsts H us nx n) (s : Same H H') : Lsts H' us nx n := ⟨h.1, fun i hi => by
  obtain ⟨p, h1, h2⟩ := h.2 i hi
  exact ⟨p, h1, s _ _ h2⟩⟩
def NL (G : Hp) (v : V) (xs : List Nat) : Prop := ∃ a, v = .ref a ∧ G a = some (.lst (natsV xs))
def TouAt (H : Hp) (d : Addr) (xs : List Nat) : Prop := ∃ kvs : List (Key × V), H d = some (.dK kvs) ∧ kvs.map (·.1) = xs.map fun (x : Nat) => Sum.inl (x : Int)
theorem TouAt.len {H : Hp} {d : Addr} {xs : List Nat} (h : TouAt H d xs) : ∃ kvs : List (Key × V), H d = some (.dK kvs) ∧ kvs.length = xs.length ∧ kvs.map (·.1) = xs.map fun (x : Nat) => Sum.inl (x : Int) := by
  obtain ⟨kvs, h1, h2⟩ := h
  have := congrArg List.length h2
  exact ⟨kvs, h1, by simpa using this, h2⟩
theorem tou_val {kvs : List (Key × V)} {xs : List Nat} (h : kvs.map (·.1) = xs.map fun (x : Nat) => Sum.inl (x : Int)) (a : Nat) : (valV kvs (Sum.inl (a : Int))).isSome = decide (a ∈ xs) := by
  have e : (Sum.inl (a : Int) : Key) ∈ kvs.map (·.1) ↔ a ∈ xs := by
    rw [h, List.mem_map]
    constructor
    · rintro ⟨y, hy, e⟩
      have := Sum.inl.inj e
      rw [show a = y by omega]
      exact hy
    · exact fun z => ⟨a, z, rfl⟩
  cases hv : valV kvs (Sum.inl (a : Int)) with
  | none =>
    have := valV_not hv
    rw [e] at this
    simp [this]
  | some v =>
    have := valV_in hv
    rw [e] at this
    simp [this]
theorem keys_putK {kvs : List (Key × V)} {k : Key} {v : V} : (putK kvs k v).map (·.1) = if (valV kvs k).isSome then kvs.map (·.1) else kvs.map (·.1) ++ [k] := by
  unfold putK
  rw [valV_any]
  split
  · rw [List.map_map]
    refine List.map_congr_left fun x _ => ?_
    simp only [Function.comp]
    split <;> rfl
  · simp
theorem tou_put {kvs : List (Key × V)} {xs : List Nat} {v : V} (h : kvs.map (·.1) = xs.map fun (x : Nat) => Sum.inl (x : Int)) (a : Nat) : (putK kvs (Sum.inl (a : Int)) v).map (·.1) = (addN xs a).map fun (x : Nat) => Sum.inl (x : Int) := by
  rw [keys_putK, tou_val h, h]
  unfold addN
  by_cases e : a ∈ xs
  · simp [e]
  · simp [e]
structure GA where
  p : Addr
  dx : Addr
  w : Addr
  s : Addr
  g : Addr
  m : Addr
  t : Addr
  q : Addr
def GA.own (x : GA) : List Addr := [x.g, x.m, x.t, x.q]
def gF1 (w : Addr) : List (Str × V) := putF "ways" (.ref w) []
def gF2 (w s : Addr) : List (Str × V) := putF "sources" (.ref s) (gF1 w)
def gF3 (w s g : Addr) : List (Str × V) := putF "groups" (.ref g) (gF2 w s)
def gF4 (w s g m : Addr) : List (Str × V) := putF "members" (.ref m) (gF3 w s g)
def gF5 (w s g m t : Addr) : List (Str × V) := putF "touched" (.ref t) (gF4 w s g m)
def gF (x : GA) : List (Str × V) := putF "waiting" (.ref x.q) (gF5 x.w x.s x.g x.m x.t)
theorem gF3_groups (w s g : Addr) : (gF3 w s g).lookup ("groups" : Str) = some (.ref g) := by
  unfold gF3
  rw [lookup_putF, if_pos rfl]
theorem gF4_members (w s g m : Addr) : (gF4 w s g m).lookup ("members" : Str) = some (.ref m) := by
  unfold gF4
  rw [lookup_putF, if_pos rfl]
theorem gF5_members (w s g m t : Addr) : (gF5 w s g m t).lookup ("members" : Str) = some (.ref m) := by
  unfold gF5
  rw [lookup_putF, if_neg (by decide +kernel), gF4_members]
theorem gF_waiting (x : GA) : (gF x).lookup ("waiting" : Str) = some (.ref x.q) := by
  unfold gF
  rw [lookup_putF, if_pos rfl]
theorem gF_touched (x : GA) : (gF x).lookup ("touched" : Str) = some (.ref x.t) := by
  unfold gF gF5
  rw [lookup_putF, if_neg (by decide +kernel), lookup_putF, if_pos rfl]
theorem gF_members (x : GA) : (gF x).lookup ("members" : Str) = some (.ref x.m) := by
  unfold gF
  rw [lookup_putF, if_neg (by decide +kernel), gF5_members]
theorem gF_groups (x : GA) : (gF x).lookup ("groups" : Str) = some (.ref x.g) := by
  unfold gF gF5 gF4
  rw [lookup_putF, if_neg (by decide +kernel), lookup_putF, if_neg (by decide +kernel), lookup_putF, if_neg (by decide +kernel), gF3_groups]
theorem gF_sources (x : GA) : (gF x).lookup ("sources" : Str) = some (.ref x.s) := by
  unfold gF gF5 gF4 gF3 gF2
  rw [lookup_putF, if_neg (by decide +kernel), lookup_putF, if_neg (by decide +kernel), lookup_putF, if_neg (by decide +kernel), lookup_putF, if_neg (by decide +kernel), lookup_putF, if_pos rfl]
theorem gF_ways (x : GA) : (gF x).lookup ("ways" : Str) = some (.ref x.w) := by
  unfold gF gF5 gF4 gF3 gF2 gF1
  rw [lookup_putF, if_neg (by decide +kernel), lookup_putF, if_neg (by decide +kernel), lookup_putF, if_neg (by decide +kernel), lookup_putF, if_neg (by decide +kernel), lookup_putF, if_neg (by decide +kernel), lookup_putF, if_pos rfl]
theorem gF_no (x : GA) {m : Str} (h : m ∉ (["waiting", "touched", "members", "groups", "sources", "ways"] : List Str)) : (gF x).lookup m = none := by
  simp only [List.mem_cons, List.not_mem_nil, or_false, not_or] at h
  unfold gF gF5 gF4 gF3 gF2 gF1
  rw [lookup_putF, if_neg h.1, lookup_putF, if_neg h.2.1, lookup_putF, if_neg h.2.2.1, lookup_putF, if_neg h.2.2.2.1, lookup_putF, if_neg h.2.2.2.2.1, lookup_putF, if_neg h.2.2.2.2.2]
  rfl
structure GrAt (C : Addr) (H0 H : Hp) (x : GA) (nw ns : Nat → List Nat) (n : Nat) (gs : List Nat) (ms ts : List (List Nat)) (qs : List Nat) : Prop where
  b : Same H0 H
  f : ∀ a ∈ x.own, H0 a = none
  nd : x.own.Nodup
  o : H x.p = some (.ins C x.dx (gF x))
  ww : ∃ us, hds x.own H x.w = some (.lst us) ∧ Lsts (hds x.own H) us nw n
  ss : ∃ us, hds x.own H x.s = some (.lst us) ∧ Lsts (hds x.own H) us ns n
  gg : H x.g = some (.lst (natsV gs))
  mm : ∃ us, H x.m = some (.lst us) ∧ Each (NL (hds x.own H)) us ms
  tt : ∃ ds : List Addr, H x.t = some (.lst (ds.map .ref)) ∧ ds.Nodup ∧ (∀ d ∈ ds, H0 d = none) ∧ Each (TouAt H) ds ts
  qq : H x.q = some (.lst (natsV qs))
def KeepL (x : GA) (H H' : Hp) : Prop := ∀ b o, b ∉ x.own → (∀ kvs, o ≠ .dK kvs) → H b = some o → H' b = some o
theorem KeepL.hd {x : GA} {H H' : Hp} (k : KeepL x H H') {a : Addr} {vs : List V} (e : hds x.own H a = some (.lst vs)) : hds x.own H' a = some (.lst vs) := by
  obtain ⟨e1, e2⟩ := hds_of e
  exact hds_at (k a _ e2 (fun _ z => nomatch z) e1) e2
theorem KeepL.nl {x : GA} {H H' : Hp} (k : KeepL x H H') {v : V} {xs : List Nat} (h : NL (hds x.own H) v xs) : NL (hds x.own H') v xs := by
  obtain ⟨a, h1, h2⟩ := h
  exact ⟨a, h1, k.hd h2⟩
theorem KeepL.ls {x : GA} {H H' : Hp} (k : KeepL x H H') {us : List V} {nx : Nat → List Nat} {n : Nat} (h : Lsts (hds x.own H) us nx n) : Lsts (hds x.own H') us nx n := ⟨h.1, fun i hi => by
  obtain ⟨p, h1, h2⟩ := h.2 i hi
  exact ⟨p, h1, k.hd h2⟩⟩
theorem KeepL.of {x : GA} {H H' : Hp} (s : Same H H') : KeepL x H H' := fun b o _ _ e => s b o e
theorem KeepL.own {x : GA} {H : Hp} {a : Addr} {o : HO} (h : a ∈ x.own) : KeepL x H (upd H a o) := fun b u hb _ e => by rw [upd_ne (fun z => hb (by rw [z]; exact h))]; exact e
theorem KeepL.dic {x : GA} {H : Hp} {a : Addr} {kvs : List (Key × V)} {o : HO} (h : H a = some (.dK kvs)) : KeepL x H (upd H a o) := fun b u _ hu e => by
  rw [upd_ne (fun z => by rw [z, h] at e; exact hu kvs (Option.some.inj e).symm)]
  exact e
section
variable {C : Addr} {H0 H H' : Hp} {x : GA} {nw ns : Nat → List Nat} {n : Nat} {gs gs' : List Nat} {ms ts ms' ts' : List (List Nat)} {qs qs' : List Nat}
theorem GrAt.own_lst (h : GrAt C H0 H x nw ns n gs ms ts qs) : ∀ a ∈ x.own, ∃ vs, H a = some (.lst vs) := fun a ha => by
  obtain ⟨us, m1, _⟩ := h.mm
  obtain ⟨ds, t1, _⟩ := h.tt
  unfold GA.own at ha
  simp only [List.mem_cons, List.not_mem_nil, or_false] at ha
  rcases ha with rfl | rfl | rfl | rfl
  · exact ⟨_, h.gg⟩
  · exact ⟨_, m1⟩
  · exact ⟨_, t1⟩
  · exact ⟨_, h.qq⟩
theorem GrAt.pno (h : GrAt C H0 H x nw ns n gs ms ts qs) : x.p ∉ x.own := fun z => by
  obtain ⟨vs, e⟩ := h.own_lst _ z
  rw [h.o] at e
  cases e
theorem GrAt.new (h : GrAt C H0 H x nw ns n gs ms ts qs) {a : Addr} (f : H a = none) : a ∉ x.own := fun z => by
  obtain ⟨vs, e⟩ := h.own_lst _ z
  rw [f] at e
  cases e
theorem GrAt.re (h : GrAt C H0 H x nw ns n gs ms ts qs) (k : KeepL x H H') (b : Same H0 H') (gg : H' x.g = some (.lst (natsV gs'))) (mm : ∃ us, H' x.m = some (.lst us) ∧ Each (NL (hds x.own H')) us ms')
    (tt : ∃ ds : List Addr, H' x.t = some (.lst (ds.map .ref)) ∧ ds.Nodup ∧ (∀ d ∈ ds, H0 d = none) ∧ Each (TouAt H') ds ts') (qq : H' x.q = some (.lst (natsV qs'))) : GrAt C H0 H' x nw ns n gs' ms' ts' qs' := by
  obtain ⟨us, w1, w2⟩ := h.ww
  obtain ⟨vs, s1, s2⟩ := h.ss
  exact ⟨b, h.f, h.nd, k _ _ h.pno (fun _ z => nomatch z) h.o, ⟨us, k.hd w1, k.ls w2⟩, ⟨vs, k.hd s1, k.ls s2⟩, gg, mm, tt, qq⟩
theorem GrAt.same (h : GrAt C H0 H x nw ns n gs ms ts qs) (s : Same H H') : GrAt C H0 H' x nw ns n gs ms ts qs := by
  obtain ⟨us, m1, m2⟩ := h.mm
  obtain ⟨ds, t1, t2, t3, t4⟩ := h.tt
  refine h.re (.of s) (h.b.trans s) (s _ _ h.gg) ⟨us, s _ _ m1, m2.mono fun v y hy => (KeepL.of s).nl hy⟩ ⟨ds, s _ _ t1, t2, t3, t4.mono fun d y hy => ?_⟩ (s _ _ h.qq)
  obtain ⟨kvs, e1, e2⟩ := hy
  exact ⟨kvs, s _ _ e1, e2⟩
theorem GrAt.fix (h : GrAt C H0 H x nw ns n gs ms ts qs) : ∃ H1, GrAt C H1 H x nw ns n gs ms ts qs ∧ Same H0 H1 ∧ ∀ b o, b ∉ x.own → (∀ kvs, o ≠ .dK kvs) → H b = some o → H1 b = some o := by
  obtain ⟨ds, t1, t2, t3, t4⟩ := h.tt
  have hd : ∀ d ∈ ds, ∃ kvs, H d = some (.dK kvs) := fun d hd => by
    obtain ⟨i, hi, rfl⟩ := List.mem_iff_getElem.mp hd
    have hi' : i < ts.length := by rw [← t4.1]; exact hi
    obtain ⟨kvs, e, _⟩ := t4.2 i _ _ (List.getElem?_eq_getElem hi) (List.getElem?_eq_getElem hi')
    exact ⟨kvs, e⟩
  refine ⟨hds (x.own ++ ds) H, ⟨hds_same, fun a ha => by unfold hds; rw [if_pos (List.mem_append_left _ ha)], h.nd, h.o, h.ww, h.ss, h.gg, h.mm, ⟨ds, t1, t2, fun d hd => by unfold hds; rw [if_pos (List.mem_append_right _ hd)], t4⟩, h.qq⟩, fun b o e => hds_at (h.b _ _ e) fun z => ?_, fun b o hb ho e => hds_at e fun z => ?_⟩
  · rcases List.mem_append.mp z with z | z
    · rw [h.f b z] at e; cases e
    · rw [t3 b z] at e; cases e
  · rcases List.mem_append.mp z with z | z
    · exact hb z
    · obtain ⟨kvs, e'⟩ := hd b z
      rw [e] at e'
      exact ho kvs (Option.some.inj e')
theorem GrAt.to (h : GrAt C H' H x nw ns n gs ms ts qs) (s : Same H0 H') : GrAt C H0 H x nw ns n gs ms ts qs := by
  have nn : ∀ {a : Addr}, H' a = none → H0 a = none := fun {a} e => s.free e
  obtain ⟨ds, t1, t2, t3, t4⟩ := h.tt
  exact ⟨s.trans h.b, fun a ha => nn (h.f a ha), h.nd, h.o, h.ww, h.ss, h.gg, h.mm, ⟨ds, t1, t2, fun d hd => nn (t3 d hd), t4⟩, h.qq⟩
end
section
variable {C : Addr} {H0 H H' : Hp} {x : GA} {nw ns : Nat → List Nat} {n : Nat} {gs gs' : List Nat} {ms ts ms' ts' : List (List Nat)} {qs qs' : List Nat}
theorem GrAt.ne (h : GrAt C H0 H x nw ns n gs ms ts qs) : x.g ≠ x.m ∧ x.g ≠ x.t ∧ x.g ≠ x.q ∧ x.m ≠ x.t ∧ x.m ≠ x.q ∧ x.t ≠ x.q := by
  have := h.nd
  unfold GA.own at this
  simp only [List.nodup_cons, List.mem_cons, List.not_mem_nil, or_false, not_or, not_false_eq_true, List.nodup_nil, and_true] at this
  exact ⟨this.1.1, this.1.2.1, this.1.2.2, this.2.1.1, this.2.1.2, this.2.2⟩
theorem GA.mg (x : GA) : x.g ∈ x.own := by simp [GA.own]
theorem GA.mm (x : GA) : x.m ∈ x.own := by simp [GA.own]
theorem GA.mt (x : GA) : x.t ∈ x.own := by simp [GA.own]
theorem GA.mq (x : GA) : x.q ∈ x.own := by simp [GA.own]
theorem TouAt.lst {a d : Addr} {vs : List V} {xs : List Nat} {o : HO} (h : TouAt H d xs) (e : H a = some (.lst vs)) : TouAt (upd H a o) d xs := by
  obtain ⟨kvs, e1, e2⟩ := h
  exact ⟨kvs, by rw [upd_ne (ne_of e1 e (fun z => nomatch z))]; exact e1, e2⟩
theorem TouAt.same {d : Addr} {xs : List Nat} (h : TouAt H d xs) (s : Same H H') : TouAt H' d xs := by
  obtain ⟨kvs, e1, e2⟩ := h
  exact ⟨kvs, s _ _ e1, e2⟩
theorem GrAt.updG (h : GrAt C H0 H x nw ns n gs ms ts qs) : GrAt C H0 (upd H x.g (.lst (natsV gs'))) x nw ns n gs' ms ts qs := by
  obtain ⟨us, m1, m2⟩ := h.mm
  obtain ⟨ds, t1, t2, t3, t4⟩ := h.tt
  obtain ⟨n1, n2, n3, n4, n5, n6⟩ := h.ne
  exact h.re (.own x.mg) (h.b.updNew (h.f _ x.mg)) upd_same ⟨us, by rw [upd_ne n1.symm]; exact m1, m2.mono fun v y hy => (KeepL.own x.mg).nl hy⟩ ⟨ds, by rw [upd_ne n2.symm]; exact t1, t2, t3, t4.mono fun d y hy => hy.lst h.gg⟩ (by rw [upd_ne n3.symm]; exact h.qq)
theorem GrAt.updQ (h : GrAt C H0 H x nw ns n gs ms ts qs) : GrAt C H0 (upd H x.q (.lst (natsV qs'))) x nw ns n gs ms ts qs' := by
  obtain ⟨us, m1, m2⟩ := h.mm
  obtain ⟨ds, t1, t2, t3, t4⟩ := h.tt
  obtain ⟨n1, n2, n3, n4, n5, n6⟩ := h.ne
  exact h.re (.own x.mq) (h.b.updNew (h.f _ x.mq)) (by rw [upd_ne n3]; exact h.gg) ⟨us, by rw [upd_ne n5]; exact m1, m2.mono fun v y hy => (KeepL.own x.mq).nl hy⟩ ⟨ds, by rw [upd_ne n6]; exact t1, t2, t3, t4.mono fun d y hy => hy.lst h.qq⟩ upd_same
theorem GrAt.updM {us' : List V} (h : GrAt C H0 H x nw ns n gs ms ts qs) (hm : Each (NL (hds x.own H)) us' ms') : GrAt C H0 (upd H x.m (.lst us')) x nw ns n gs ms' ts qs := by
  obtain ⟨us, m1, m2⟩ := h.mm
  obtain ⟨ds, t1, t2, t3, t4⟩ := h.tt
  obtain ⟨n1, n2, n3, n4, n5, n6⟩ := h.ne
  exact h.re (.own x.mm) (h.b.updNew (h.f _ x.mm)) (by rw [upd_ne n1]; exact h.gg) ⟨us', upd_same, hm.mono fun v y hy => (KeepL.own x.mm).nl hy⟩ ⟨ds, by rw [upd_ne n4.symm]; exact t1, t2, t3, t4.mono fun d y hy => hy.lst m1⟩ (by rw [upd_ne n5.symm]; exact h.qq)
theorem GrAt.updT {ds' : List Addr} (h : GrAt C H0 H x nw ns n gs ms ts qs) (hn : ds'.Nodup) (hf : ∀ d ∈ ds', H0 d = none) (ht : Each (TouAt H) ds' ts') : GrAt C H0 (upd H x.t (.lst (ds'.map .ref))) x nw ns n gs ms ts' qs := by
  obtain ⟨us, m1, m2⟩ := h.mm
  obtain ⟨ds, t1, t2, t3, t4⟩ := h.tt
  obtain ⟨n1, n2, n3, n4, n5, n6⟩ := h.ne
  exact h.re (.own x.mt) (h.b.updNew (h.f _ x.mt)) (by rw [upd_ne n2]; exact h.gg) ⟨us, by rw [upd_ne n4]; exact m1, m2.mono fun v y hy => (KeepL.own x.mt).nl hy⟩ ⟨ds', upd_same, hn, hf, ht.mono fun d y hy => hy.lst t1⟩ (by rw [upd_ne n6.symm]; exact h.qq)
theorem GrAt.putT {c a : Nat} {xs : List Nat} {v : V} (h : GrAt C H0 H x nw ns n gs ms ts qs) (hc : ts[c]? = some xs) : ∃ d kvs vs, H x.t = some (.lst vs) ∧ vs[c]? = some (.ref d) ∧ H d = some (.dK kvs) ∧ kvs.length = xs.length ∧ GrAt C H0 (upd H d (.dK (putK kvs (Sum.inl (a : Int)) v))) x nw ns n gs ms (ts.set c (addN xs a)) qs := by
  obtain ⟨us, m1, m2⟩ := h.mm
  obtain ⟨ds, t1, t2, t3, t4⟩ := h.tt
  obtain ⟨d, hd, hT⟩ := t4.get hc
  obtain ⟨kvs, e1, e2, e3⟩ := hT.len
  have hmem := List.mem_of_getElem? hd
  have hno : ∀ b ∈ x.own, b ≠ d := fun b hb z => by
    obtain ⟨vs, e⟩ := h.own_lst b hb
    rw [z, e1] at e
    cases e
  refine ⟨d, kvs, _, t1, by rw [List.getElem?_map, hd]; rfl, e1, e2, h.re (.dic e1) (h.b.updNew (t3 d hmem)) (by rw [upd_ne (hno _ x.mg)]; exact h.gg) ⟨us, by rw [upd_ne (hno _ x.mm)]; exact m1, m2.mono fun v y hy => (KeepL.dic e1).nl hy⟩ ⟨ds, by rw [upd_ne (hno _ x.mt)]; exact t1, t2, t3, by rw [List.length_set]; exact t4.1, fun j d' ys h1 h2 => ?_⟩ (by rw [upd_ne (hno _ x.mq)]; exact h.qq)⟩
  rw [List.getElem?_set] at h2
  by_cases z : c = j
  · subst z
    rw [hd] at h1
    cases h1
    rw [if_pos rfl, if_pos (List.getElem?_eq_some_iff.mp hc).1] at h2
    cases h2
    exact ⟨_, upd_same, tou_put e3 a⟩
  · rw [if_neg z] at h2
    obtain ⟨kvs', g1, g2⟩ := t4.2 j d' ys h1 h2
    refine ⟨kvs', ?_, g2⟩
    rw [upd_ne (fun q => ?_)]
    · exact g1
    · subst q
      obtain ⟨l1, g1⟩ := List.getElem?_eq_some_iff.mp h1
      obtain ⟨l2, g2⟩ := List.getElem?_eq_some_iff.mp hd
      have pw := List.pairwise_iff_getElem.mp t2
      rcases Nat.lt_or_gt_of_ne z with q | q
      · exact pw c j l2 l1 q (g2.trans g1.symm)
      · exact pw j c l1 l2 q (g1.trans g2.symm)
end
structure FL (H0 H : Hp) (f : Addr) (ls : List Addr) (cs : List (List Nat)) : Prop where
  b : Same H0 H
  f0 : H0 f = none
  nf : f ∉ ls
  nd : ls.Nodup
  fr : ∀ d ∈ ls, H0 d = none
  e : H f = some (.lst (ls.map .ref))
  at_ : Each (fun d xs => H d = some (.lst (natsV xs))) ls cs
theorem FL.same {H0 H H' : Hp} {f : Addr} {ls : List Addr} {cs : List (List Nat)} (h : FL H0 H f ls cs) (s : Same H H') : FL H0 H' f ls cs := ⟨h.b.trans s, h.f0, h.nf, h.nd, h.fr, s _ _ h.e, h.at_.mono fun d xs e => s _ _ e⟩
theorem FL.get {H0 H : Hp} {f : Addr} {ls : List Addr} {cs : List (List Nat)} (h : FL H0 H f ls cs) {i : Nat} {xs : List Nat} (e : cs[i]? = some xs) : ∃ d, ls[i]? = some d ∧ (ls.map V.ref)[i]? = some (.ref d) ∧ H d = some (.lst (natsV xs)) := by
  obtain ⟨d, h1, h2⟩ := h.at_.get e
  exact ⟨d, h1, by rw [List.getElem?_map, h1]; rfl, h2⟩
theorem FL.app {H0 H : Hp} {f d : Addr} {ls : List Addr} {cs : List (List Nat)} {i a : Nat} {xs : List Nat} (h : FL H0 H f ls cs) (e : cs[i]? = some xs) (hd : ls[i]? = some d) : FL H0 (upd H d (.lst (natsV (xs ++ [a])))) f ls (cs.set i (xs ++ [a])) := by
  have hm := List.mem_of_getElem? hd
  have hne : f ≠ d := fun z => h.nf (z ▸ hm)
  refine ⟨h.b.updNew (h.fr d hm), h.f0, h.nf, h.nd, h.fr, by rw [upd_ne hne]; exact h.e, by rw [List.length_set]; exact h.at_.1, fun j d' ys h1 h2 => ?_⟩
  rw [List.getElem?_set] at h2
  by_cases z : i = j
  · subst z
    rw [hd] at h1
    cases h1
    rw [if_pos rfl, if_pos (List.getElem?_eq_some_iff.mp e).1] at h2
    cases h2
    exact upd_same
  · rw [if_neg z] at h2
    rw [upd_ne (fun q => ?_)]
    · exact h.at_.2 j d' ys h1 h2
    · subst q
      obtain ⟨l1, g1⟩ := List.getElem?_eq_some_iff.mp h1
      obtain ⟨l2, g2⟩ := List.getElem?_eq_some_iff.mp hd
      have pw := List.pairwise_iff_getElem.mp h.nd
      rcases Nat.lt_or_gt_of_ne z with q | q
      · exact pw i j l2 l1 q (g2.trans g1.symm)
      · exact pw j i l1 l2 q (g1.trans g2.symm)
theorem FL.lsts {H0 H : Hp} {f : Addr} {ls : List Addr} {cs : List (List Nat)} (h : FL H0 H f ls cs) : Lsts H (ls.map .ref) (fun i => cs.getD i []) cs.length := ⟨by simp [h.at_.1], fun i hi => by
  have e := List.getElem?_eq_getElem hi
  obtain ⟨d, h1, h2, h3⟩ := h.get e
  exact ⟨d, h2, by show H d = some (.lst (natsV (cs.getD i []))); rw [show cs.getD i [] = cs[i] by simp [List.getD, e]]; exact h3⟩⟩
theorem memL_step {gs : List Nat} {k i c : Nat} (h : gs[i]? = some c) (hc : c < k) : memL (gs.take (i + 1)) k = (memL (gs.take i) k).set c ((List.range i).filter (fun a => decide ((gs.take i)[a]? = some c)) ++ [i]) := by
  have hi := (List.getElem?_eq_some_iff.mp h).1
  have l1 : (gs.take (i + 1)).length = i + 1 := by simp; omega
  have l0 : (gs.take i).length = i := by simp; omega
  have ht : ∀ a, a < i → (gs.take (i + 1))[a]? = (gs.take i)[a]? := fun a ha => by rw [List.getElem?_take, List.getElem?_take, if_pos (by omega), if_pos ha]
  have hti : (gs.take (i + 1))[i]? = some c := by rw [List.getElem?_take, if_pos (by omega)]; exact h
  refine List.ext_getElem? fun d => ?_
  rw [List.getElem?_set]
  unfold memL
  rw [List.length_map, List.length_range, l1, l0, List.getElem?_map, List.getElem?_map]
  by_cases hd : d < k
  · rw [List.getElem?_range hd]
    simp only [Option.map_some]
    rw [List.range_succ, List.filter_append]
    have e1 : (List.range i).filter (fun a => decide ((gs.take (i + 1))[a]? = some d)) = (List.range i).filter (fun a => decide ((gs.take i)[a]? = some d)) := List.filter_congr fun a ha => by rw [ht a (List.mem_range.mp ha)]
    rw [e1]
    by_cases z : c = d
    · subst z
      rw [if_pos rfl, if_pos hc]
      simp [hti]
    · rw [if_neg z]
      simp [hti, z]
  · rw [List.getElem?_eq_none (by simp; omega)]
    rw [if_neg (by omega)]
    simp
theorem nd_set {l : List Addr} {i : Nat} {y : Addr} (h : l.Nodup) (hy : y ∉ l) : (l.set i y).Nodup := by
  refine List.pairwise_iff_getElem.mpr fun a b ha hb hab e => ?_
  rw [List.length_set] at ha hb
  rw [List.getElem_set, List.getElem_set] at e
  by_cases z1 : i = a
  · rw [if_pos z1, if_neg (by omega)] at e
    exact hy (e ▸ List.getElem_mem hb)
  · rw [if_neg z1] at e
    by_cases z2 : i = b
    · rw [if_pos z2] at e
      exact hy (e ▸ List.getElem_mem ha)
    · rw [if_neg z2] at e
      exact List.pairwise_iff_getElem.mp h a b ha hb hab e
theorem each_set {α β : Type} {R : α → β → Prop} {l : List α} {r : List β} {i : Nat} {y : α} {z : β} (h : Each R l r) (hy : R y z) : Each R (l.set i y) (r.set i z) := by
  refine ⟨by simp [h.1], fun j a b h1 h2 => ?_⟩
  rw [List.getElem?_set] at h1 h2
  by_cases q : i = j
  · rw [if_pos q] at h1 h2
    split at h1
    · split at h2
      · cases h1
        cases h2
        exact hy
      · cases h2
    · cases h1
  · rw [if_neg q] at h1 h2
    exact h.2 j a b h1 h2
def keyT (l : List Nat) : Tr := .tup (natsT l)
theorem keyT_inj {a b : List Nat} (h : keyT a = keyT b) : a = b := by
  unfold keyT natsT at h
  have h := Tr.tup.inj h
  refine List.ext_getElem? fun i => ?_
  have := congrArg (fun l => l[i]?) h
  simp only [List.getElem?_map] at this
  cases e1 : a[i]? <;> cases e2 : b[i]? <;> rw [e1, e2] at this <;> simp at this ⊢
  omega
theorem keyT_at {H : Hp} {p : Addr} {l : List Nat} (h : H p = some (.tup (natsV l))) : TK H (keyT l) (.ref p) := by
  refine ⟨?_, ?_⟩
  · unfold keyT
    exact at_tup0.mpr ⟨p, _, rfl, h, ats_nats l⟩
  · unfold keyT
    simp only [Tr.h, hs_nats]
    omega
theorem DtAt.ext' {P : Params} {H : Hp} {a : Addr} {kvs : List (Tr × V)} (h : DtAt P H a kvs) : ∃ φ, H a = some (.ext φ) ∧ True := by
  obtain ⟨m, _, ⟨φ, e, _⟩, _⟩ := h
  exact ⟨φ, e, trivial⟩
abbrev Clx := List Nat × Addr × List Nat
structure CI (led : Nat → List Nat) (cs : List Clx) (zs : List Nat) : Prop where
  kn : (cs.map (·.1)).Nodup
  an : (cs.map (·.2.1)).Nodup
  ok : ∀ y ∈ cs, y.2.2 ≠ [] ∧ ∀ a ∈ y.2.2, led a = y.1
  pm : ((cs.map (·.2.2)).flatten).Perm zs
theorem CI.nil {led : Nat → List Nat} : CI led [] [] := ⟨by simp, by simp, by simp, by simp⟩
theorem CI.new {led : Nat → List Nat} {cs : List Clx} {zs l xs : List Nat} {p : Addr} (h : CI led cs zs) (hk : l ∉ cs.map (·.1)) (ha : p ∉ cs.map (·.2.1)) (hx : xs ≠ []) (hl : ∀ a ∈ xs, led a = l) : CI led (cs ++ [(l, p, xs)]) (zs ++ xs) := by
  refine ⟨by rw [List.map_append]; exact nd_snoc h.kn hk, by rw [List.map_append]; exact nd_snoc h.an ha, fun y hy => ?_, ?_⟩
  · rcases List.mem_append.mp hy with hy | hy
    · exact h.ok y hy
    · rw [List.mem_singleton.mp hy]
      exact ⟨hx, hl⟩
  · rw [List.map_append, List.flatten_append]
    simp only [List.map_cons, List.map_nil, List.flatten_cons, List.flatten_nil, List.append_nil]
    exact h.pm.append_right xs
theorem flat_set {xs : List Nat} : ∀ {l : List (List Nat)} {j : Nat} {a : List Nat}, l[j]? = some a → (l.set j (a ++ xs)).flatten.Perm (l.flatten ++ xs)
  | [], j, a, h => by simp at h
  | b :: l, 0, a, h => by
    obtain rfl : b = a := by simpa using h
    simp only [List.set_cons_zero, List.flatten_cons, List.append_assoc]
    exact List.perm_append_comm.append_left b
  | b :: l, j + 1, a, h => by
    simp only [List.set_cons_succ, List.flatten_cons, List.append_assoc]
    exact (flat_set (l := l) (by simpa using h)).append_left b
theorem setMap_same {α β : Type} {f : α → β} {l : List α} {j : Nat} {y z : α} (h : l[j]? = some y) (e : f z = f y) : (l.set j z).map f = l.map f := by
  rw [List.map_set, e]
  refine List.ext_getElem? fun i => ?_
  rw [List.getElem?_set]
  by_cases q : j = i
  · subst q
    have := (List.getElem?_eq_some_iff.mp h).1
    rw [if_pos rfl, if_pos (by simpa using this), List.getElem?_map, h]
    rfl
  · rw [if_neg q]
theorem CI.old {led : Nat → List Nat} {cs : List Clx} {zs xs : List Nat} {j : Nat} {y : Clx} (h : CI led cs zs) (hy : cs[j]? = some y) (hl : ∀ a ∈ xs, led a = y.1) : CI led (cs.set j (y.1, y.2.1, y.2.2 ++ xs)) (zs ++ xs) := by
  have hm := h.ok y (List.mem_of_getElem? hy)
  refine ⟨by rw [setMap_same (f := fun y : Clx => y.1) (z := (y.1, y.2.1, y.2.2 ++ xs)) hy rfl]; exact h.kn, by rw [setMap_same (f := fun y : Clx => y.2.1) (z := (y.1, y.2.1, y.2.2 ++ xs)) hy rfl]; exact h.an, fun z hz => ?_, ?_⟩
  · rcases List.mem_or_eq_of_mem_set hz with hz | rfl
    · exact h.ok z hz
    · refine ⟨fun q => hm.1 (List.append_eq_nil_iff.mp q).1, fun a ha => ?_⟩
      rcases List.mem_append.mp ha with ha | ha
      · exact hm.2 a ha
      · exact hl a ha
  · rw [List.map_set]
    refine (flat_set (a := y.2.2) (by rw [List.getElem?_map, hy]; rfl)).trans (h.pm.append_right xs)
def csD (cs : List Clx) : List (Tr × V) := cs.map fun y => (keyT y.1, .ref y.2.1)
theorem csD_val {l : List Nat} : ∀ {cs : List Clx}, (valV (csD cs) (keyT l) = none ∧ l ∉ cs.map (·.1)) ∨ ∃ (j : Nat) (y : Clx), cs[j]? = some y ∧ y.1 = l ∧ valV (csD cs) (keyT l) = some (.ref y.2.1)
  | [] => .inl ⟨rfl, by simp⟩
  | y :: cs => by
    unfold csD
    rw [List.map_cons]
    by_cases e : y.1 = l
    · exact .inr ⟨0, y, rfl, e, by rw [valV_pos (by rw [e])]⟩
    · rw [valV_neg (fun z => e (keyT_inj z))]
      rcases csD_val (l := l) (cs := cs) with ⟨h1, h2⟩ | ⟨j, z, h1, h2, h3⟩
      · refine .inl ⟨h1, ?_⟩
        rw [List.map_cons, List.mem_cons, not_or]
        exact ⟨fun q => e q.symm, h2⟩
      · exact .inr ⟨j + 1, z, by simpa using h1, h2, h3⟩
theorem csD_set {cs : List Clx} {j : Nat} {y : Clx} {xs : List Nat} (hy : cs[j]? = some y) : csD (cs.set j (y.1, y.2.1, xs)) = csD cs := by
  unfold csD
  exact setMap_same hy rfl
def CH (B H : Hp) (cs : List Clx) : Prop := ∀ y ∈ cs, B y.2.1 = none ∧ H y.2.1 = some (.lst (natsV y.2.2))
theorem CH.same {B H H' : Hp} {cs : List Clx} (h : CH B H cs) (s : Same H H') : CH B H' cs := fun y hy => ⟨(h y hy).1, s _ _ (h y hy).2⟩
theorem CH.no {B H : Hp} {cs : List Clx} (h : CH B H cs) {p : Addr} (f : H p = none) : p ∉ cs.map (·.2.1) := fun z => by
  obtain ⟨y, hy, rfl⟩ := List.mem_map.mp z
  rw [(h y hy).2] at f
  cases f
theorem CH.old {B H : Hp} {cs : List Clx} {j : Nat} {y : Clx} {xs : List Nat} (h : CH B H cs) (an : (cs.map (·.2.1)).Nodup) (hy : cs[j]? = some y) : CH B (upd H y.2.1 (.lst (natsV xs))) (cs.set j (y.1, y.2.1, xs)) := fun z hz => by
  obtain ⟨i, hi, rfl⟩ := List.mem_iff_getElem.mp hz
  rw [List.length_set] at hi
  rw [List.getElem_set]
  by_cases q : j = i
  · rw [if_pos q]
    exact ⟨(h y (List.mem_of_getElem? hy)).1, upd_same⟩
  · rw [if_neg q]
    obtain ⟨a, b⟩ := h cs[i] (List.getElem_mem hi)
    refine ⟨a, ?_⟩
    rw [upd_ne (fun z => ?_)]
    · exact b
    · obtain ⟨l2, g2⟩ := List.getElem?_eq_some_iff.mp hy
      have pw := List.pairwise_iff_getElem.mp an
      rcases Nat.lt_or_gt_of_ne q with q | q
      · exact pw j i (by simpa using l2) (by simpa using hi) q (by simp [g2, z])
      · exact pw i j (by simpa using hi) (by simpa using l2) q (by simp [g2, z])
theorem CI.parts {led : Nat → List Nat} {cs : List Clx} {zs gs : List Nat} {c : Nat} (h : CI led cs zs) (hn : zs.Nodup) (hm : ∀ a, a ∈ zs ↔ gs[a]? = some c) : PartsOf gs led c (cs.map (·.2.2)) := by
  refine ⟨fun p hp => ?_, (h.pm.nodup_iff).mpr hn, fun a => by rw [← hm a]; exact h.pm.mem_iff, fun p hp a ha b hb => ?_, ?_⟩
  · obtain ⟨y, hy, rfl⟩ := List.mem_map.mp hp
    exact (h.ok y hy).1
  · obtain ⟨y, hy, rfl⟩ := List.mem_map.mp hp
    rw [(h.ok y hy).2 a ha, (h.ok y hy).2 b hb]
  · refine List.pairwise_map.mpr (List.Pairwise.imp_of_mem (fun {y z} hy hz hne a ha b hb e => hne ?_) (List.pairwise_map.mp h.kn))
    rw [← (h.ok y hy).2 a ha, ← (h.ok z hz).2 b hb, e]
theorem CI.few {led : Nat → List Nat} {cs : List Clx} {zs : List Nat} (h : CI led cs zs) : cs.length ≤ zs.length ∧ ∀ y ∈ cs, y.2.2.length ≤ zs.length := by
  have e := h.pm.length_eq
  have gen : ∀ (cs : List Clx), (∀ y ∈ cs, y.2.2 ≠ []) → cs.length ≤ ((cs.map (·.2.2)).flatten).length ∧ ∀ y ∈ cs, y.2.2.length ≤ ((cs.map (·.2.2)).flatten).length := by
    intro cs
    induction cs with
    | nil => intro _; simp
    | cons y cs ih =>
      intro hok
      obtain ⟨h1, h2⟩ := ih fun z hz => hok z (List.mem_cons_of_mem _ hz)
      have h3 : 0 < y.2.2.length := List.length_pos_iff.mpr (hok y List.mem_cons_self)
      simp only [List.map_cons, List.flatten_cons, List.length_cons, List.length_append]
      refine ⟨by omega, fun z hz => ?_⟩
      rcases List.mem_cons.mp hz with rfl | hz
      · omega
      · have := h2 z hz
        omega
  rw [← e]
  exact gen cs fun y hy => (h.ok y hy).1
section
variable {C : Addr} {H0 H H' : Hp} {x : GA} {nw ns : Nat → List Nat} {n : Nat} {gs gs' : List Nat} {ms ts ms' ts' : List (List Nat)} {qs qs' : List Nat}
theorem GrAt.frz {d : Addr} {kvs : List (Key × V)} {o : HO} {vs : List V} (h : GrAt C H0 H x nw ns n gs ms ts qs) (e : H d = some (.dK kvs)) (f0 : H0 d = none) (et : H x.t = some (.lst vs)) (hd : V.ref d ∉ vs) : GrAt C H0 (upd H d o) x nw ns n gs ms ts qs := by
  obtain ⟨us, m1, m2⟩ := h.mm
  obtain ⟨ds, t1, t2, t3, t4⟩ := h.tt
  rw [t1] at et
  cases et
  have hno : ∀ b ∈ x.own, b ≠ d := fun b hb z => by
    obtain ⟨vs, e'⟩ := h.own_lst b hb
    rw [z, e] at e'
    cases e'
  refine h.re (.dic e) (h.b.updNew f0) (by rw [upd_ne (hno _ x.mg)]; exact h.gg) ⟨us, by rw [upd_ne (hno _ x.mm)]; exact m1, m2.mono fun v y hy => (KeepL.dic e).nl hy⟩ ⟨ds, by rw [upd_ne (hno _ x.mt)]; exact t1, t2, t3, t4.1, fun j d' ys h1 h2 => ?_⟩ (by rw [upd_ne (hno _ x.mq)]; exact h.qq)
  obtain ⟨kvs', g1, g2⟩ := t4.2 j d' ys h1 h2
  refine ⟨kvs', ?_, g2⟩
  rw [upd_ne (fun q => hd ?_)]
  · exact g1
  · rw [← q]
    exact List.mem_map_of_mem (List.mem_of_getElem? h1)
end
theorem perm_map {α β : Type} {f : α → β} {l m : List β} (h : l.Perm m) : ∀ {r : List α}, m = r.map f → ∃ r2 : List α, r2.Perm r ∧ l = r2.map f := by
  induction h with
  | nil =>
    intro r e
    obtain rfl : r = [] := by simpa using e.symm
    exact ⟨[], .nil, rfl⟩
  | cons x h ih =>
    intro r e
    cases r with
    | nil => simp at e
    | cons y r =>
      simp only [List.map_cons, List.cons.injEq] at e
      obtain ⟨r2, h1, h2⟩ := ih e.2
      exact ⟨y :: r2, h1.cons y, by rw [h2, e.1]; rfl⟩
  | swap x y l =>
    intro r e
    cases r with
    | nil => simp at e
    | cons a r =>
      cases r with
      | nil => simp at e
      | cons b r =>
        simp only [List.map_cons, List.cons.injEq] at e
        exact ⟨b :: a :: r, List.Perm.swap a b r, by rw [e.1, e.2.1, e.2.2]; rfl⟩
  | trans h1 h2 ih1 ih2 =>
    intro r e
    obtain ⟨r2, a1, a2⟩ := ih2 e
    obtain ⟨r3, b1, b2⟩ := ih1 a2
    exact ⟨r3, b1.trans a1, b2⟩
theorem PartsOf.few {gs : List Nat} {led : Nat → List Nat} {c : Nat} {ps : List (List Nat)} (h : PartsOf gs led c ps) : ps.length ≤ gs.length := by
  have h1 : ps.length ≤ ps.flatten.length := by
    have := h.ne
    clear h
    induction ps with
    | nil => simp
    | cons p ps ih =>
      have a := ih fun q hq => this q (List.mem_cons_of_mem _ hq)
      have b : 0 < p.length := List.length_pos_iff.mpr (this p List.mem_cons_self)
      simp only [List.length_cons, List.flatten_cons, List.length_append]
      omega
  have h2 := pigeon gs.length ps.flatten h.nd fun a ha => (List.getElem?_eq_some_iff.mp ((h.me a).mp ha)).1
  omega
theorem PartsOf.some {gs : List Nat} {led : Nat → List Nat} {c a : Nat} {ps : List (List Nat)} (h : PartsOf gs led c ps) (ha : gs[a]? = some c) : ps ≠ [] := fun z => by
  have := (h.me a).mpr ha
  rw [z] at this
  cases this
theorem But.none {p : Addr} {H H' : Hp} (k : But p H H') {a : Addr} {o : HO} (hp : H' p = some o) (f : H' a = none) : H a = none := by
  cases e : H a with
  | none => rfl
  | some u =>
    have := k a u (fun z => by rw [z, hp] at f; cases f) e
    rw [f] at this
    cases this
theorem merge_keys : ∀ {xs ys : List Nat} {kvs : List (Key × V)}, kvs.map (·.1) = ys.map (fun (x : Nat) => Sum.inl (x : Int)) → (mergeK kvs (xs.map fun (x : Nat) => (Sum.inl (x : Int), V.bl true))).map (·.1) = (xs.foldl addN ys).map fun (x : Nat) => Sum.inl (x : Int)
  | [], ys, kvs, h => h
  | x :: xs, ys, kvs, h => merge_keys (xs := xs) (ys := addN ys x) (kvs := putK kvs (Sum.inl (x : Int)) (.bl true)) (tou_put h x)
theorem addN_all : ∀ {xs ys : List Nat}, (ys ++ xs).Nodup → xs.foldl addN ys = ys ++ xs
  | [], ys, _ => by simp
  | x :: xs, ys, h => by
    have hx : x ∉ ys := fun hm => (List.nodup_append.mp h).2.2 x hm x (by simp) rfl
    rw [List.foldl_cons, addN, if_neg hx, addN_all (by simpa using h)]
    simp
theorem merge_tou {xs : List Nat} (h : xs.Nodup) : (mergeK [] (xs.map fun (x : Nat) => (Sum.inl (x : Int), V.bl true))).map (·.1) = xs.map fun (x : Nat) => Sum.inl (x : Int) := by
  rw [merge_keys (ys := []) rfl, addN_all (by simpa using h)]
  rfl
theorem atsB_nats {H : Hp} : ∀ l : List Nat, Tr.AtsB H (l.map fun (k : Nat) => Tr.int (k : Int)) (natsV l)
  | [] => rfl
  | k :: l => ⟨_, _, rfl, .inl rfl, atsB_nats l⟩
end L2
namespace L2
open PySem PySem.Spec PyProof.Rows
def labT (x : Bool × List (List Str)) : Tr := .tup [.int (if x.1 = true then 1 else 0), .tup (x.2.map fun s => .tup (s.map Tr.str))]
theorem map_tr_inj {α : Type} {f : α → Tr} (hf : ∀ a b, f a = f b → a = b) : ∀ {a b : List α}, a.map f = b.map f → a = b
  | [], [], _ => rfl
  | [], _ :: _, h => by simp at h
  | _ :: _, [], h => by simp at h
  | x :: a, y :: b, h => by
    simp only [List.map_cons, List.cons.injEq] at h
    rw [hf x y h.1, map_tr_inj hf h.2]
theorem labT_inj {a b : Bool × List (List Str)} (h : labT a = labT b) : a = b := by
  obtain ⟨a1, a2⟩ := a
  obtain ⟨b1, b2⟩ := b
  unfold labT at h
  simp only [Tr.tup.injEq, List.cons.injEq, Tr.int.injEq, and_true] at h
  have h2 : a2 = b2 := map_tr_inj (f := fun s : List Str => Tr.tup (s.map Tr.str)) (fun x y e => map_tr_inj (fun p q e => by cases e; rfl) (Tr.tup.inj e)) h.2
  rw [h2]
  cases a1 <;> cases b1 <;> simp at h <;> rfl
theorem hs_strs : ∀ s : List Str, Tr.hs (s.map Tr.str) = 0
  | [] => rfl
  | x :: s => by simp [Tr.hs, Tr.h, hs_strs s]
theorem labT_h (x : Bool × List (List Str)) : (labT x).h ≤ 8 := by
  have : ∀ l : List (List Str), Tr.hs (l.map fun s => Tr.tup (s.map Tr.str)) ≤ 2 := by
    intro l
    induction l with
    | nil => simp [Tr.hs]
    | cons s l ih =>
      simp only [List.map_cons, Tr.hs, Tr.h, hs_strs]
      omega
  have := this x.2
  unfold labT
  simp only [Tr.h, Tr.hs]
  omega
theorem strs_atB {H : Hp} : ∀ s : List Str, Tr.AtsB H (s.map Tr.str) (strsV s)
  | [] => rfl
  | x :: s => ⟨_, _, rfl, rfl, strs_atB s⟩
def nxR (rs : List RRoom) (x : Nat) : List Nat := (roomA rs x).2.map (·.2)
def fdR (rs : List RRoom) : List Nat := bfs (nxR rs) (rs.length + 1) 0 [0]
theorem addAll_pre : ∀ (ks row : List Nat), ∃ t, addAll row ks = row ++ t
  | [], row => ⟨[], by simp [addAll]⟩
  | k :: ks, row => by
    show ∃ t, addAll (if k ∈ row then row else row ++ [k]) ks = row ++ t
    split
    · exact addAll_pre ks row
    · obtain ⟨t, h⟩ := addAll_pre ks (row ++ [k])
      exact ⟨[k] ++ t, by rw [h, List.append_assoc]⟩
theorem bfs_pre {nx : Nat → List Nat} : ∀ (fuel p : Nat) (row : List Nat), ∃ t, bfs nx fuel p row = row ++ t
  | 0, p, row => ⟨[], by simp [bfs]⟩
  | fuel + 1, p, row => by
    unfold bfs
    cases e : row[p]? with
    | none => exact ⟨[], by simp⟩
    | some k =>
      obtain ⟨t, h⟩ := bfs_pre fuel (p + 1) (addAll row (nx k))
      obtain ⟨u, h'⟩ := addAll_pre (nx k) row
      exact ⟨u ++ t, by simp only []; rw [h, h', List.append_assoc]⟩
theorem nxR_lt {rs : List RRoom} {many : Nat} (ok : TblOk many rs) {x : Nat} (hx : x < rs.length) : (nxR rs x).length = many ∧ ∀ k ∈ nxR rs x, k < rs.length := by
  have e : rs[x]? = some (roomA rs x) := by unfold roomA; simp [hx]
  obtain ⟨h1, h2⟩ := ok.rows _ (List.mem_of_getElem? e)
  refine ⟨by unfold nxR; rw [List.length_map]; exact h1, fun k hk => ?_⟩
  obtain ⟨y, hy, rfl⟩ := List.mem_map.mp hk
  exact h2 y hy
theorem nxR_way {rs : List RRoom} {many : Nat} (ok : TblOk many rs) {x : Nat} (hx : x < rs.length) : nxR rs x = (List.range many).map (wayR rs x) := by
  have hl := (nxR_lt ok hx).1
  refine List.ext_getElem? fun j => ?_
  by_cases hj : j < many
  · rw [List.getElem?_map, List.getElem?_range hj]
    unfold nxR
    rw [List.getElem?_map, (rowA_lt ok hx hj).2.2]
    rfl
  · rw [List.getElem?_eq_none (by omega), List.getElem?_eq_none (by simp; omega)]
theorem fdR_ok {rs : List RRoom} {many : Nat} (ok : TblOk many rs) (h0 : 0 < rs.length) : Bf (nxR rs) rs.length (fdR rs).length (fdR rs) :=
  Bf.end_ (fun k hk j hj => (nxR_lt ok hk).2 j hj) _ _ _ ⟨by simp, fun k hk => by rw [List.mem_singleton.mp hk]; exact h0, Nat.zero_le _, fun i k hi => absurd hi (Nat.not_lt_zero _)⟩ (by omega)
theorem fdR_0 (rs : List RRoom) : (fdR rs)[0]? = some 0 := by
  unfold fdR
  obtain ⟨t, h⟩ := bfs_pre (nx := nxR rs) (rs.length + 1) 0 [0]
  rw [h]
  rfl
noncomputable def gsR (rs : List RRoom) (many : Nat) : List Nat := likeN (labR rs many) (wayR rs) many (fdR rs)
theorem gsR_len (rs : List RRoom) (many : Nat) : (gsR rs many).length = (fdR rs).length := by
  unfold gsR likeN
  rw [canon_len, List.length_map]
noncomputable def numOf (rs : List RRoom) (many x : Nat) : Nat := (gsR rs many).getD ((fdR rs).idxOf x) 0
noncomputable def numR (rs : List RRoom) (many : Nat) : List (Option Nat) := (List.range rs.length).map fun x => if x ∈ fdR rs then some (numOf rs many x) else none
noncomputable def fsR (rs : List RRoom) (many : Nat) : List Nat := (mets (gsR rs many)).map fun k => (gsR rs many).idxOf k
noncomputable def rwR (rs : List RRoom) (many : Nat) (r : RRoom) : RRoom := (r.1, r.2.map fun x => (x.1, numOf rs many x.2))
noncomputable def lstR (rs : List RRoom) (many : Nat) : List RRoom := (fsR rs many).map fun place => rwR rs many (roomA rs ((fdR rs).getD place 0))
section
variable {rs : List RRoom} {many : Nat}
theorem num_at {i x : Nat} (hn : (fdR rs).Nodup) (h : (fdR rs)[i]? = some x) : (gsR rs many)[i]? = some (numOf rs many x) ∧ (fdR rs).idxOf x = i := by
  have hi := (List.getElem?_eq_some_iff.mp h).1
  have e := idx_of hn h
  refine ⟨?_, e⟩
  unfold numOf
  rw [e]
  have : i < (gsR rs many).length := by rw [gsR_len]; exact hi
  simp [List.getD, List.getElem?_eq_getElem this]
theorem num_eq {x y : Nat} (hn : (fdR rs).Nodup) (hx : x ∈ fdR rs) (hy : y ∈ fdR rs) : numOf rs many x = numOf rs many y ↔ ¬ ApartR (labR rs many) (wayR rs) many x y := by
  obtain ⟨i, hi, ei⟩ := List.mem_iff_getElem.mp hx
  obtain ⟨j, hj, ej⟩ := List.mem_iff_getElem.mp hy
  have e1 : (fdR rs)[i]? = some x := by rw [List.getElem?_eq_getElem hi, ei]
  have e2 : (fdR rs)[j]? = some y := by rw [List.getElem?_eq_getElem hj, ej]
  have g1 := (num_at (many := many) hn e1).1
  have g2 := (num_at (many := many) hn e2).1
  have := canon_ker (l := (fdR rs).map (clsR (labR rs many) (wayR rs) many)) (i := i) (j := j) (x := clsR (labR rs many) (wayR rs) many x) (y := clsR (labR rs many) (wayR rs) many y) (by rw [List.getElem?_map, e1]; rfl) (by rw [List.getElem?_map, e2]; rfl)
  rw [← cls_eq, ← this]
  show _ ↔ (gsR rs many)[i]? = (gsR rs many)[j]?
  rw [g1, g2, Option.some_inj]
theorem num_0 (hn : (fdR rs).Nodup) : numOf rs many 0 = 0 := by
  have h := (num_at (many := many) hn (fdR_0 rs)).1
  have h0 : 0 < ((fdR rs).map (clsR (labR rs many) (wayR rs) many)).length := by
    have := (List.getElem?_eq_some_iff.mp (fdR_0 rs)).1
    simpa using this
  have := canon_0 h0
  show _ = 0
  have e : (gsR rs many)[0]? = some 0 := this
  rw [e] at h
  exact (Option.some.inj h).symm
theorem mets_gsR (rs : List RRoom) (many : Nat) : mets (gsR rs many) = List.range (lstR rs many).length := by
  have : (lstR rs many).length = (mets (gsR rs many)).length := by simp [lstR, fsR]
  rw [this]
  unfold gsR likeN
  rw [mets_canon _ rfl, List.length_range]
theorem num_lt {x : Nat} (hn : (fdR rs).Nodup) (hx : x ∈ fdR rs) : numOf rs many x < (lstR rs many).length := by
  obtain ⟨i, hi, ei⟩ := List.mem_iff_getElem.mp hx
  have e1 : (fdR rs)[i]? = some x := by rw [List.getElem?_eq_getElem hi, ei]
  have := (mets_mem _ _).mpr (List.mem_of_getElem? (num_at (many := many) hn e1).1)
  rw [mets_gsR] at this
  exact List.mem_range.mp this
theorem lst_at {k : Nat} (hn : (fdR rs).Nodup) (hk : k < (lstR rs many).length) : ∃ y ∈ fdR rs, (lstR rs many)[k]? = some (rwR rs many (roomA rs y)) ∧ numOf rs many y = k := by
  have hm : k ∈ gsR rs many := (mets_mem _ _).mp (by rw [mets_gsR]; exact List.mem_range.mpr hk)
  have hi := List.idxOf_lt_length_of_mem hm
  have hi' : (gsR rs many).idxOf k < (fdR rs).length := by rw [← gsR_len rs many]; exact hi
  obtain ⟨y, hy⟩ : ∃ y, (fdR rs)[(gsR rs many).idxOf k]? = some y := ⟨_, List.getElem?_eq_getElem hi'⟩
  have g := (num_at (many := many) hn hy).1
  rw [List.getElem?_eq_getElem hi, List.getElem_idxOf hi] at g
  refine ⟨y, List.mem_of_getElem? hy, ?_, (Option.some.inj g).symm⟩
  unfold lstR fsR
  rw [List.getElem?_map, List.getElem?_map, mets_gsR, List.getElem?_range hk]
  simp only [Option.map_some, Option.some_inj]
  rw [show (fdR rs).getD ((gsR rs many).idxOf k) 0 = y by simp [List.getD, hy]]
theorem like_step {x y : Nat} (h : ¬ ApartR (labR rs many) (wayR rs) many x y) : (roomA rs x).1 = (roomA rs y).1 ∧ ∀ j, j < many → (rowA rs x j).1 = (rowA rs y j).1 ∧ ¬ ApartR (labR rs many) (wayR rs) many (rowA rs x j).2 (rowA rs y j).2 := by
  have e : labR rs many x = labR rs many y := Classical.not_not.mp fun z => h ⟨[], fun _ q => absurd q (by simp), z⟩
  obtain ⟨h1, h2⟩ := labR_eq e
  exact ⟨h1, fun j hj => ⟨h2 j hj, fun z => h (ApartR.cons hj z)⟩⟩
theorem fdR_way (ok : TblOk many rs) (h0 : 0 < rs.length) {x j : Nat} (hx : x ∈ fdR rs) (hj : j < many) : (rowA rs x j).2 ∈ fdR rs := by
  have b := fdR_ok ok h0
  obtain ⟨i, hi, rfl⟩ := List.mem_iff_getElem.mp hx
  refine b.cl i _ hi (List.getElem?_eq_getElem hi) _ ?_
  rw [nxR_way ok (b.lt _ hx)]
  exact List.mem_map_of_mem (List.mem_range.mpr hj)
end
def plF : List Nat → Nat → List (Key × V)
  | [], _ => []
  | x :: l, i => (Sum.inl (x : Int), .int (i : Nat)) :: plF l (i + 1)
theorem plF_snoc (x : Nat) : ∀ (l : List Nat) (i : Nat), plF (l ++ [x]) i = plF l i ++ [(Sum.inl (x : Int), .int ((i + l.length : Nat) : Int))]
  | [], i => rfl
  | y :: l, i => by
    show (_ : Key × V) :: plF (l ++ [x]) (i + 1) = _
    rw [plF_snoc x l (i + 1), show i + 1 + l.length = i + (y :: l).length by simp; omega]
    rfl
theorem plF_val {x : Nat} : ∀ {l : List Nat} {i : Nat} {kvs : List (Key × V)}, l.Nodup → valV (mergeK kvs (plF l i)) (Sum.inl (x : Int)) = if x ∈ l then some (.int ((i + l.idxOf x : Nat) : Int)) else valV kvs (Sum.inl (x : Int))
  | [], i, kvs, _ => by simp [plF, mergeK]
  | y :: l, i, kvs, h => by
    rw [List.nodup_cons] at h
    show valV (mergeK (putK kvs (Sum.inl (y : Int)) (.int (i : Nat))) (plF l (i + 1))) (Sum.inl (x : Int)) = _
    rw [plF_val h.2, valV_put]
    by_cases e : x = y
    · subst e
      rw [if_neg h.1, if_pos rfl, if_pos (by simp)]
      simp
    · have e2 : ¬ (Sum.inl (x : Int) : Key) = Sum.inl (y : Int) := fun z => e (by have := Sum.inl.inj z; omega)
      rw [if_neg e2]
      by_cases hm : x ∈ l
      · rw [if_pos hm, if_pos (by simp [hm]), List.idxOf_cons]
        have : (y == x) = false := by simp [Ne.symm e]
        rw [this]
        simp only [cond_false]
        congr 3
        omega
      · rw [if_neg hm, if_neg (by simp [hm, e])]
theorem apart_some {α : Type} {lab : Nat → α} {w : Nat → Nat → Nat} : ∀ {v : List Nat} {a b : Nat}, Apart (fun x => some (lab x)) w a b v ↔ Apart lab w a b v
  | [], a, b => by
    show some (lab a) ≠ some (lab b) ↔ lab a ≠ lab b
    simp
  | j :: v, a, b => apart_some (v := v)
theorem like_some {α : Type} {lab : Nat → α} {w : Nat → Nat → Nat} {many : Nat} {l : List Nat} : likeN (fun x => some (lab x)) w many l = likeN lab w many l := by
  refine (canon_one l.length (by simp) (by simp) fun i j hi hj => ?_).1
  simp only [List.getElem?_map, List.getElem?_eq_getElem hi, List.getElem?_eq_getElem hj, Option.map_some, Option.some_inj]
  rw [cls_eq, cls_eq]
  exact not_congr ⟨fun ⟨v, h1, h2⟩ => ⟨v, h1, apart_some.mp h2⟩, fun ⟨v, h1, h2⟩ => ⟨v, h1, apart_some.mpr h2⟩⟩
def wwP (rs : List RRoom) (a j : Nat) : Nat := (fdR rs).idxOf (wayR rs ((fdR rs).getD a 0) j)
def nwP (rs : List RRoom) (a : Nat) : List Nat := (nxR rs ((fdR rs).getD a 0)).map fun x => (fdR rs).idxOf x
theorem fd_get {rs : List RRoom} {a : Nat} (h : a < (fdR rs).length) : (fdR rs)[a]? = some ((fdR rs).getD a 0) ∧ (fdR rs).getD a 0 ∈ fdR rs := by
  have e : (fdR rs)[a]? = some ((fdR rs).getD a 0) := by simp [List.getD, List.getElem?_eq_getElem h]
  exact ⟨e, List.mem_of_getElem? e⟩
theorem wwP_ok {rs : List RRoom} {many : Nat} (ok : TblOk many rs) (h0 : 0 < rs.length) {a : Nat} (ha : a < (fdR rs).length) : nwP rs a = (List.range many).map (wwP rs a) ∧ ∀ j, j < many → wwP rs a j < (fdR rs).length ∧ (fdR rs).getD (wwP rs a j) 0 = wayR rs ((fdR rs).getD a 0) j := by
  obtain ⟨e, hm⟩ := fd_get ha
  have hb := fdR_ok ok h0
  refine ⟨?_, fun j hj => ?_⟩
  · unfold nwP
    rw [nxR_way ok (hb.lt _ hm), List.map_map]
    rfl
  · have hw : wayR rs ((fdR rs).getD a 0) j ∈ fdR rs := fdR_way ok h0 hm hj
    have hl := List.idxOf_lt_length_of_mem hw
    refine ⟨hl, ?_⟩
    unfold wwP
    exact getD_of (by rw [List.getElem?_eq_getElem hl, List.getElem_idxOf hl])
theorem like_rooms {rs : List RRoom} {many : Nat} (ok : TblOk many rs) (h0 : 0 < rs.length) : likeN (fun a => ((fdR rs).map (labR rs many))[a]?) (wwP rs) many (List.range (fdR rs).length) = gsR rs many := by
  rw [like_map (lab := fun x => some (labR rs many x)) (w := wayR rs) (f := fun a => (fdR rs).getD a 0) (fun a ha => ?_) (fun a j ha hj => (wwP_ok ok h0 ha).2 j hj), like_some]
  · unfold gsR
    congr 1
    refine List.ext_getElem? fun i => ?_
    by_cases hi : i < (fdR rs).length
    · rw [List.getElem?_map, List.getElem?_range hi, (fd_get hi).1]
      rfl
    · rw [List.getElem?_eq_none (by simp; omega), List.getElem?_eq_none (by omega)]
  · rw [List.getElem?_map, (fd_get ha).1]
    rfl
theorem waysV_at {ws : List (Option Nat)} {i : Nat} {o : Option Nat} (h : ws[i]? = some o) : (waysV ws)[i]? = some (wayV o) := by
  unfold waysV
  rw [List.getElem?_map, h]
  rfl
theorem numR_at {rs : List RRoom} {many x : Nat} (h : x < rs.length) : (numR rs many)[x]? = some (if x ∈ fdR rs then some (numOf rs many x) else none) := by
  unfold numR
  rw [List.getElem?_map, List.getElem?_range h]
  rfl
end L2
local macro_rules | `(tactic| walk_at "side") => `(tactic| first | exact ⟨by decide, by decide, by decide⟩ | exact ⟨by decide, by decide⟩ | exact .inr (.inr ⟨by decide, by decide⟩) | exact .inr (.inl ⟨by decide, by decide⟩) | decide | omega | exact L2.le_line (by simp only [List.length_cons, List.length_nil]; omega))
local macro_rules | `(tactic| walk_at "step") => do
  let mut acc ← `(tactic| ((with_reducible refine L2.i_rgA ?k ?l ?_); (case k => walk_at "side"); (case l => walk_at "side")))
  for s in ("i_rI i_timesI i_seq i_asg i_c i_op i_rI0 i_plusI i_eqI i_eqS i_neB i_test i_bl i_ifS i_if i_ret i_next i_drop i_cons i_nil i_cb i_call i_lst i_tup i_not i_noIf i_or i_for i_lc i_rng1 i_iList i_rng i_ref i_bm i_bm0 i_sl i_nopart i_part i_ix1 i_itT i_itF i_itnT i_truB i_intB i_gnil i_gcons i_isiIB i_tru i_notN i_enum i_lref i_min2 i_dget i_gsub i_tB i_din i_dnotin i_dput i_dnew i_zip i_tnew i_tsetd i_fld i_sfld i_meth i_make i_tvals i_bget i_bsetd i_dk i_szA".splitOn " ").reverse do
    let n := Lean.mkIdent (Lean.Name.str `L2 s)
    if s == "i_rI" || s == "i_timesI" || s == "i_szA" then acc ← `(tactic| first | ((with_reducible refine $n ?k ?_); (case k => walk_at "side")) | $acc:tactic)
    else acc ← `(tactic| first | with_reducible refine $n ?_ | $acc:tactic)
  `(tactic| first | ((with_reducible refine L2.i_name ?_); dsimp only [List.set_cons_zero, List.set_cons_succ]) | ((with_reducible refine' L2.i_var ?k ?_); (case k => rfl)) | $acc:tactic)
local macro_rules | `(tactic| walk_at "run") => `(tactic| (repeat walk_at "step"))
local macro_rules | `(tactic| walk_at "go") => do
  let ids := (("L2.start List.map_cons List.map_nil List.length_cons List.length_nil List.replicate List.cons_append List.nil_append Nat.reduceSub Nat.reduceAdd L2.nox_K L2.wish_K L2.cxOf_K L2.cxC_K".splitOn " ").map fun s => Lean.mkIdent s.toName).toArray
  `(tactic| (simp only [$[$ids:term],*]; walk_at "run"))
namespace K62
open PySem L2
def top (i : Nat) : Stmt := PySem.Challenge.pw_callmill_k62_least_paper.main.body.getD i (.Pass ⟨0, 0, 0, 0⟩)
abbrev s_found_from : Stmt := top 1
abbrev s_put_together : Stmt := top 3
abbrev s_numbered : Stmt := top 4
abbrev s_counted : Stmt := top 5
abbrev s_firsts : Stmt := top 6
abbrev s_Grouping___init__ : Stmt := inClass (top 7) 0
abbrev s_Grouping_part : Stmt := inClass (top 7) 1
abbrev s_Grouping_parts_of : Stmt := inClass (top 7) 2
abbrev s_Grouping_led_groups : Stmt := inClass (top 7) 3
abbrev s_Grouping_regroup : Stmt := inClass (top 7) 4
abbrev s_Grouping_touch_sources : Stmt := inClass (top 7) 5
abbrev s_sources_of : Stmt := top 8
abbrev s_members_of : Stmt := top 9
abbrev s_room_with : Stmt := top 11
abbrev s_least_table : Stmt := top 13
abbrev s_label_of : Stmt := top 14
abbrev s_least_paper : Stmt := top 15
abbrev s_law_next : Stmt := top 17
abbrev s_law_deck : Stmt := top 18
abbrev s_law_said : Stmt := top 19
abbrev s_law_events : Stmt := top 20
abbrev s_law_table : Stmt := top 21
abbrev s_law_right : Stmt := top 22
abbrev s_law : Stmt := top 23
theorem sc_found_from : FnScope ["ways", "first", "found", "known", "place", "thing"] ["ways", "first"] (defScope s_found_from) := ⟨rfl, rfl, rfl, by decide +kernel, rfl, by decide +kernel, by decide +kernel⟩
theorem sc_put_together : FnScope ["labels", "ways", "grouping"] ["labels", "ways"] (defScope s_put_together) := ⟨rfl, rfl, rfl, by decide +kernel, rfl, by decide +kernel, by decide +kernel⟩
theorem sc_numbered : FnScope ["labels", "numbers"] ["labels"] (defScope s_numbered) := ⟨rfl, rfl, rfl, by decide +kernel, rfl, by decide +kernel, by decide +kernel⟩
theorem sc_counted : FnScope ["things", "numbers", "thing"] ["things"] (defScope s_counted) := ⟨rfl, rfl, rfl, by decide +kernel, rfl, by decide +kernel, by decide +kernel⟩
theorem sc_firsts : FnScope ["numbers", "found", "place", "number"] ["numbers"] (defScope s_firsts) := ⟨rfl, rfl, rfl, by decide +kernel, rfl, by decide +kernel, by decide +kernel⟩
theorem sc_Grouping___init__ : FnScope ["self", "labels", "ways"] ["self", "labels", "ways"] (defScope s_Grouping___init__) := ⟨rfl, rfl, rfl, by decide +kernel, rfl, by decide +kernel, by decide +kernel⟩
theorem sc_Grouping_part : FnScope ["self", "group", "parts", "things", "thing"] ["self", "group"] (defScope s_Grouping_part) := ⟨rfl, rfl, rfl, by decide +kernel, rfl, by decide +kernel, by decide +kernel⟩
theorem sc_Grouping_parts_of : FnScope ["self", "group", "touched", "rest", "parts", "thing"] ["self", "group"] (defScope s_Grouping_parts_of) := ⟨rfl, rfl, rfl, by decide +kernel, rfl, by decide +kernel, by decide +kernel⟩
theorem sc_Grouping_led_groups : FnScope ["self", "thing"] ["self", "thing"] (defScope s_Grouping_led_groups) := ⟨rfl, rfl, rfl, by decide +kernel, rfl, by decide +kernel, by decide +kernel⟩
theorem sc_Grouping_regroup : FnScope ["self", "things", "thing"] ["self", "things"] (defScope s_Grouping_regroup) := ⟨rfl, rfl, rfl, by decide +kernel, rfl, by decide +kernel, by decide +kernel⟩
theorem sc_Grouping_touch_sources : FnScope ["self", "thing", "source", "group"] ["self", "thing"] (defScope s_Grouping_touch_sources) := ⟨rfl, rfl, rfl, by decide +kernel, rfl, by decide +kernel, by decide +kernel⟩
theorem sc_sources_of : FnScope ["ways", "found", "thing", "led", "way"] ["ways"] (defScope s_sources_of) := ⟨rfl, rfl, rfl, by decide +kernel, rfl, by decide +kernel, by decide +kernel⟩
theorem sc_members_of : FnScope ["groups", "found", "thing", "group"] ["groups"] (defScope s_members_of) := ⟨rfl, rfl, rfl, by decide +kernel, rfl, by decide +kernel, by decide +kernel⟩
theorem sc_room_with : FnScope ["room", "numbers"] ["room", "numbers"] (defScope s_room_with) := ⟨rfl, rfl, rfl, by decide +kernel, rfl, by decide +kernel, by decide +kernel⟩
theorem sc_least_table : FnScope ["table", "rooms", "ways", "found", "places", "groups", "numbers", "least"] ["table"] (defScope s_least_table) := ⟨rfl, rfl, rfl, by decide +kernel, rfl, by decide +kernel, by decide +kernel⟩
theorem sc_label_of : FnScope ["room"] ["room"] (defScope s_label_of) := ⟨rfl, rfl, rfl, by decide +kernel, rfl, by decide +kernel, by decide +kernel⟩
theorem sc_least_paper : FnScope ["table"] ["table"] (defScope s_least_paper) := ⟨rfl, rfl, rfl, by decide +kernel, rfl, by decide +kernel, by decide +kernel⟩
theorem sc_law_next : FnScope ["deck", "at", "many", "cell", "j", "number"] ["deck"] (defScope s_law_next) := ⟨rfl, rfl, rfl, by decide +kernel, rfl, by decide +kernel, by decide +kernel⟩
theorem sc_law_deck : FnScope ["script"] ["script"] (defScope s_law_deck) := ⟨rfl, rfl, rfl, by decide +kernel, rfl, by decide +kernel, by decide +kernel⟩
theorem sc_law_said : FnScope ["deck", "rich", "some"] ["deck", "rich"] (defScope s_law_said) := ⟨rfl, rfl, rfl, by decide +kernel, rfl, by decide +kernel, by decide +kernel⟩
theorem sc_law_events : FnScope ["deck", "events", "kind", "many", "k", "what"] ["deck"] (defScope s_law_events) := ⟨rfl, rfl, rfl, by decide +kernel, rfl, by decide +kernel, by decide +kernel⟩
theorem sc_law_table : FnScope ["deck", "events", "many", "rich", "saying", "rooms", "room", "over", "rows"] ["deck"] (defScope s_law_table) := ⟨rfl, rfl, rfl, by decide +kernel, rfl, by decide +kernel, by decide +kernel⟩
theorem sc_law_right : FnScope ["table", "least", "paper", "room", "number", "over", "rows", "mine", "theirs"] ["table", "least", "paper"] (defScope s_law_right) := ⟨rfl, rfl, rfl, by decide +kernel, rfl, by decide +kernel, by decide +kernel⟩
theorem sc_law : FnScope ["script", "table", "handed", "least", "numbers", "paper", "due", "pair"] ["script"] (defScope s_law) := ⟨rfl, rfl, rfl, by decide +kernel, rfl, by decide +kernel, by decide +kernel⟩
set_option genInjectivity false in
structure Adr where
  a_found_from : Addr
  fd_found_from : FuncData
  a_put_together : Addr
  fd_put_together : FuncData
  a_numbered : Addr
  fd_numbered : FuncData
  a_counted : Addr
  fd_counted : FuncData
  a_firsts : Addr
  fd_firsts : FuncData
  a_Grouping___init__ : Addr
  fd_Grouping___init__ : FuncData
  a_Grouping_part : Addr
  fd_Grouping_part : FuncData
  a_Grouping_parts_of : Addr
  fd_Grouping_parts_of : FuncData
  a_Grouping_led_groups : Addr
  fd_Grouping_led_groups : FuncData
  a_Grouping_regroup : Addr
  fd_Grouping_regroup : FuncData
  a_Grouping_touch_sources : Addr
  fd_Grouping_touch_sources : FuncData
  a_sources_of : Addr
  fd_sources_of : FuncData
  a_members_of : Addr
  fd_members_of : FuncData
  a_room_with : Addr
  fd_room_with : FuncData
  a_least_table : Addr
  fd_least_table : FuncData
  a_label_of : Addr
  fd_label_of : FuncData
  a_least_paper : Addr
  fd_least_paper : FuncData
  a__law_next : Addr
  fd__law_next : FuncData
  a__law_deck : Addr
  fd__law_deck : FuncData
  a__law_said : Addr
  fd__law_said : FuncData
  a__law_events : Addr
  fd__law_events : FuncData
  a__law_table : Addr
  fd__law_table : FuncData
  a__law_right : Addr
  fd__law_right : FuncData
  a_law : Addr
  fd_law : FuncData
  c_Grouping : Addr
structure Txt (K : PySem.W.Frag) (mg : Str → Option Value) (t : Adr) : Prop where
  F_found_from : Fun K "found_from" "found_from" s_found_from t.a_found_from t.fd_found_from
  m_found_from : mg "found_from" = some (.ref t.a_found_from)
  b_found_from : Binds K t.fd_found_from ["ways", "first"] []
  F_put_together : Fun K "put_together" "put_together" s_put_together t.a_put_together t.fd_put_together
  m_put_together : mg "put_together" = some (.ref t.a_put_together)
  b_put_together : Binds K t.fd_put_together ["labels", "ways"] []
  F_numbered : Fun K "numbered" "numbered" s_numbered t.a_numbered t.fd_numbered
  m_numbered : mg "numbered" = some (.ref t.a_numbered)
  b_numbered : Binds K t.fd_numbered ["labels"] []
  F_counted : Fun K "counted" "counted" s_counted t.a_counted t.fd_counted
  m_counted : mg "counted" = some (.ref t.a_counted)
  b_counted : Binds K t.fd_counted ["things"] []
  F_firsts : Fun K "firsts" "firsts" s_firsts t.a_firsts t.fd_firsts
  m_firsts : mg "firsts" = some (.ref t.a_firsts)
  b_firsts : Binds K t.fd_firsts ["numbers"] []
  F_Grouping___init__ : Fun K "__init__" "Grouping.__init__" s_Grouping___init__ t.a_Grouping___init__ t.fd_Grouping___init__
  b_Grouping___init__ : Binds K t.fd_Grouping___init__ ["self", "labels", "ways"] []
  F_Grouping_part : Fun K "part" "Grouping.part" s_Grouping_part t.a_Grouping_part t.fd_Grouping_part
  M_Grouping_part : Meth K t.c_Grouping "part" t.a_Grouping_part
  b_Grouping_part : Binds K t.fd_Grouping_part ["self", "group"] []
  F_Grouping_parts_of : Fun K "parts_of" "Grouping.parts_of" s_Grouping_parts_of t.a_Grouping_parts_of t.fd_Grouping_parts_of
  M_Grouping_parts_of : Meth K t.c_Grouping "parts_of" t.a_Grouping_parts_of
  b_Grouping_parts_of : Binds K t.fd_Grouping_parts_of ["self", "group"] []
  F_Grouping_led_groups : Fun K "led_groups" "Grouping.led_groups" s_Grouping_led_groups t.a_Grouping_led_groups t.fd_Grouping_led_groups
  M_Grouping_led_groups : Meth K t.c_Grouping "led_groups" t.a_Grouping_led_groups
  b_Grouping_led_groups : Binds K t.fd_Grouping_led_groups ["self", "thing"] []
  F_Grouping_regroup : Fun K "regroup" "Grouping.regroup" s_Grouping_regroup t.a_Grouping_regroup t.fd_Grouping_regroup
  M_Grouping_regroup : Meth K t.c_Grouping "regroup" t.a_Grouping_regroup
  b_Grouping_regroup : Binds K t.fd_Grouping_regroup ["self", "things"] []
  F_Grouping_touch_sources : Fun K "touch_sources" "Grouping.touch_sources" s_Grouping_touch_sources t.a_Grouping_touch_sources t.fd_Grouping_touch_sources
  M_Grouping_touch_sources : Meth K t.c_Grouping "touch_sources" t.a_Grouping_touch_sources
  b_Grouping_touch_sources : Binds K t.fd_Grouping_touch_sources ["self", "thing"] []
  F_sources_of : Fun K "sources_of" "sources_of" s_sources_of t.a_sources_of t.fd_sources_of
  m_sources_of : mg "sources_of" = some (.ref t.a_sources_of)
  b_sources_of : Binds K t.fd_sources_of ["ways"] []
  F_members_of : Fun K "members_of" "members_of" s_members_of t.a_members_of t.fd_members_of
  m_members_of : mg "members_of" = some (.ref t.a_members_of)
  b_members_of : Binds K t.fd_members_of ["groups"] []
  F_room_with : Fun K "room_with" "room_with" s_room_with t.a_room_with t.fd_room_with
  m_room_with : mg "room_with" = some (.ref t.a_room_with)
  b_room_with : Binds K t.fd_room_with ["room", "numbers"] []
  F_least_table : Fun K "least_table" "least_table" s_least_table t.a_least_table t.fd_least_table
  m_least_table : mg "least_table" = some (.ref t.a_least_table)
  b_least_table : Binds K t.fd_least_table ["table"] []
  F_label_of : Fun K "label_of" "label_of" s_label_of t.a_label_of t.fd_label_of
  m_label_of : mg "label_of" = some (.ref t.a_label_of)
  b_label_of : Binds K t.fd_label_of ["room"] []
  F_least_paper : Fun K "least_paper" "least_paper" s_least_paper t.a_least_paper t.fd_least_paper
  m_least_paper : mg "least_paper" = some (.ref t.a_least_paper)
  b_least_paper : Binds K t.fd_least_paper ["table"] []
  F__law_next : Fun K "_law_next" "_law_next" s_law_next t.a__law_next t.fd__law_next
  m__law_next : mg "_law_next" = some (.ref t.a__law_next)
  b__law_next : Binds K t.fd__law_next ["deck"] []
  F__law_deck : Fun K "_law_deck" "_law_deck" s_law_deck t.a__law_deck t.fd__law_deck
  m__law_deck : mg "_law_deck" = some (.ref t.a__law_deck)
  b__law_deck : Binds K t.fd__law_deck ["script"] []
  F__law_said : Fun K "_law_said" "_law_said" s_law_said t.a__law_said t.fd__law_said
  m__law_said : mg "_law_said" = some (.ref t.a__law_said)
  b__law_said : Binds K t.fd__law_said ["deck", "rich"] []
  F__law_events : Fun K "_law_events" "_law_events" s_law_events t.a__law_events t.fd__law_events
  m__law_events : mg "_law_events" = some (.ref t.a__law_events)
  b__law_events : Binds K t.fd__law_events ["deck"] []
  F__law_table : Fun K "_law_table" "_law_table" s_law_table t.a__law_table t.fd__law_table
  m__law_table : mg "_law_table" = some (.ref t.a__law_table)
  b__law_table : Binds K t.fd__law_table ["deck"] []
  F__law_right : Fun K "_law_right" "_law_right" s_law_right t.a__law_right t.fd__law_right
  m__law_right : mg "_law_right" = some (.ref t.a__law_right)
  b__law_right : Binds K t.fd__law_right ["table", "least", "paper"] []
  F_law : Fun K "law" "law" s_law t.a_law t.fd_law
  m_law : mg "law" = some (.ref t.a_law)
  b_law : Binds K t.fd_law ["script"] []
  m_Grouping : mg "Grouping" = some (.ref t.c_Grouping)
  cl_Grouping : Cls K t.c_Grouping
  mk_Grouping : Mk K t.c_Grouping t.a_Grouping___init__
  n_Grouping_groups : NoAttr K t.c_Grouping "groups"
  n_Grouping_members : NoAttr K t.c_Grouping "members"
  n_Grouping_sources : NoAttr K t.c_Grouping "sources"
  n_Grouping_touched : NoAttr K t.c_Grouping "touched"
  n_Grouping_waiting : NoAttr K t.c_Grouping "waiting"
  n_Grouping_ways : NoAttr K t.c_Grouping "ways"
  z_bool : mg "bool" = none
  z_dict : mg "dict" = none
  z_enumerate : mg "enumerate" = none
  z_int : mg "int" = none
  z_isinstance : mg "isinstance" = none
  z_len : mg "len" = none
  z_list : mg "list" = none
  z_max : mg "max" = none
  z_min : mg "min" = none
  z_range : mg "range" = none
  z_sorted : mg "sorted" = none
  z_sum : mg "sum" = none
  z_tuple : mg "tuple" = none
  z_zip : mg "zip" = none
section
variable {P : Program} {w : World} {K : PySem.W.Frag} {mg : Str → Option Value} {base : Heap} {t : Adr}
def sp_found (K : PySem.W.Frag) : Sp := fun vs H Q _ => ∃ (l : Addr) (us : List V) (nx : Nat → List Nat) (n f : Nat), vs = [.ref l, .int (f : Nat)] ∧ H l = some (.lst us) ∧ Lsts H us nx n ∧ f < n ∧ n ≤ 5000 ∧ (∀ k, k < n → ∀ j ∈ nx k, j < n) ∧ ∀ p H', H p = none → Same H H' → H' p = some (.lst (natsV (bfs nx (n + 1) 0 [f]))) → Q (.ref p) H'
theorem row_few {n : Nat} {row ks : List Nat} (hn : row.Nodup) (hl : ∀ k ∈ row, k < n) (hk : ∀ k ∈ ks, k < n) : (addAll row ks).length ≤ n := by
  obtain ⟨_, h2, h3, _⟩ := addAll_ok hn hl ks hk
  exact pigeon n _ h2 h3
theorem ok_found_from (T : Txt K mg t) : FnOk P w K mg base CX0 1 t.a_found_from t.fd_found_from ["ways", "first"] (sp_found K) := by
  refine T.F_found_from.ok sc_found_from (fun vs H Q E h => ?_) (fun cdv A outer s H vs Q E hr h => ?_)
  · obtain ⟨l, us, nx, n, f, rfl, _⟩ := h
    rfl
  · obtain ⟨l, us, nx, n, f, rfl, hl, hu, hf, hfew, hx, q⟩ := h
    refine ⟨_, (@pss_cons _ _ _ _ _ (@ps_set _ _ 2 _ _ _ _ sc_found_from.nd rfl (by first | exact Or.inl rfl | exact Or.inr rfl) (@pe_lstN _ _ _ _ (@pa_cons _ _ _ _ _ (pv 1) (@pa_nil _) (by rfl))) (by rfl) (by first | exact Or.inl rfl | exact Or.inr rfl))
      (@pss_cons _ _ _ _ _ (@ps_set _ _ 3 _ _ _ _ sc_found_from.nd rfl (by first | exact Or.inl rfl | exact Or.inr rfl) (@pe_disp _ _ _ _ _ (@pps_cons _ _ _ _ _ _ _ _ _ (pv 1) (@pe_bl _ _ _ _) (@pps_nil _ _)) rfl rfl (by simp) (by decide)) (by rfl) (by first | exact Or.inl rfl | exact Or.inr rfl))
      (@pss_cons _ _ _ _ _ (@ps_set _ _ 4 _ _ _ _ sc_found_from.nd rfl (by first | exact Or.inl rfl | exact Or.inr rfl) (@pe_int _ _ _ _) (by rfl) (by first | exact Or.inl rfl | exact Or.inr rfl))
      (@pss_cons _ _ _ _ _ (@ps_while _ _ _ _ _ _ PassesOwn.never (@pt_cmpR _ _ _ _ _ _ _ _ op_lt (pv 4) (@pe_callB _ _ _ _ _ _ _ _ _ (kcl_len K) (by rfl) T.z_len bb_len (@pa_cons _ _ _ _ _ (pv 2) (@pa_nil _) (by rfl)) (by decide) (by decide) (by rfl) (by rfl)) (nomark _)) (@pss_cons _ _ _ _ _ (@ps_for _ _ _ _ _ _ _ _ PassesOwn.never rfl (kpi_list K (@pe_ix _ _ _ _ _ _ _ (kix_list K) (pv 0) (@pe_ix _ _ _ _ _ _ _ (kix_list K) (pv 2) (pv 4) (fun _ _ => rfl)) (fun _ _ => rfl))) (pg_name (i := 5) sc_found_from.nd rfl (by first | exact Or.inl rfl | exact Or.inr rfl)) (@pss_one _ _ _ (@ps_if _ _ _ _ _ _ _ _ (pt_cmp (pc_dnotin (by exact hu_of hr) (pv 5) (pv 3))) (@pss_cons _ _ _ _ _ (ps_dput (by exact hu_of hr) (pv 3) (pv 5) (@pe_bl _ _ _ _) rfl)
            (@pss_one _ _ _ (@ps_expr _ _ _ _ (@kpe_bm _ K _ _ _ _ _ _ _ _ _ _ _ PySem.F.plainAttrs_list PySem.F.slot_list_append PySem.F.type_list_append mt_append (pv 2) (@pa_cons _ _ _ _ _ (pv 5) (@pa_nil _) (by rfl)) (by rfl) (by rfl) (by rfl) (by rfl) (by rfl) (by rfl)) (by rfl)))) (@pss_nil _))) (by intro _; rfl))
        (@pss_one _ _ _ (@ps_aug _ _ 4 _ _ _ _ _ _ sc_found_from.nd rfl (by first | exact Or.inl rfl | exact Or.inr rfl) (@pe_int _ _ _ _) ip_add (by first | exact Or.inl rfl | exact Or.inr rfl)))))
      (@pss_one _ _ _ (@ps_ret _ _ _ _ (pv 2))))))), ?_⟩
    have hz0 : Bf nx n 0 [f] := ⟨by simp, fun k hk => by rw [List.mem_singleton.mp hk]; exact hf, Nat.zero_le _, fun i k hi => absurd hi (Nat.not_lt_zero _)⟩
    walk_at "go"
    intro pf H1 f1 s1 e1
    walk_at "run"
    refine i_disp1 (k := Sum.inl (f : Int)) rfl ?_
    intro pk H2 f2 s2 e2
    walk_at "run"
    have s12 := s1.trans s2
    have fk : H pk = none := s1.free f2
    have hne : pf ≠ pk := ne_of_none e1 f2
    refine i_while (fun m σ H' => Same H H' ∧ ∃ (p : Nat) (row : List Nat) (y : Option V), σ = [some (.ref l), some (.int (f : Nat)), some (.ref pf), some (.ref pk), some (.int (p : Nat)), y] ∧ m = n + 1 - p ∧ Bf nx n p row ∧ bfs nx (n + 1 - p) p row = bfs nx (n + 1) 0 [f] ∧ H' pf = some (.lst (natsV row)) ∧ SetI H' pk row) (n + 1) ⟨s12, 0, [f], _, rfl, rfl, hz0, rfl, s2 _ _ e1, setI_one e2⟩ ?_
    rintro m σ H3 ⟨s3, p, row, y, rfl, rfl, hb, hrow, hpf, hpk⟩
    have hbl := hb.le
    have hbf := hb.few
    walk_at "run"
    refine i_lenL (SqL.of hpf) ?_
    walk_at "run"
    rw [natsV_len]
    refine ite2 (fun hc => ?_) (fun hc => ?_)
    · have hp : p < row.length := by have := of_decide_eq_true hc; omega
      have ep : row[p]? = some row[p] := List.getElem?_eq_getElem hp
      have hkn : row[p] < n := hb.lt _ (List.getElem_mem hp)
      obtain ⟨px, hu2, hpx⟩ := hu.2 _ hkn
      have hbfs : bfs nx (n + 1 - (p + 1)) (p + 1) (addAll row (nx row[p])) = bfs nx (n + 1) 0 [f] := by rw [← hrow, show n + 1 - p = (n + 1 - (p + 1)) + 1 by omega, bfs_go ep]
      refine ⟨fun σ' H' => Same H H' ∧ ∃ (y : Option V), σ' = [some (.ref l), some (.int (f : Nat)), some (.ref pf), some (.ref pk), some (.int ((p + 1 : Nat) : Int)), y] ∧ H' pf = some (.lst (natsV (addAll row (nx row[p])))) ∧ SetI H' pk (addAll row (nx row[p])), fun σ' H' ⟨s', y, e, h1, h2⟩ => ⟨n + 1 - (p + 1), by omega, s', p + 1, addAll row (nx row[p]), y, e, rfl, hb.step ep (hx _ hkn), hbfs, h1, h2⟩, ?_⟩
      walk_at "run"
      refine i_ixL (SqL.of hpf) (atI_nats hp) ?_
      rw [show row.getD p 0 = row[p] by simp [hp]]
      refine i_ixL (SqL.of (s3 _ _ hl)) (atI_nat hu2) ?_
      walk_at "run"
      refine ⟨⟨_, SqL.of (s3 _ _ hpx)⟩, for_list (K := K) (a := px) (xs := natsV (nx row[p])) (fun j σ H' => Same H H' ∧ j ≤ (nx row[p]).length ∧ H' pf = some (.lst (natsV (addAll row ((nx row[p]).take j)))) ∧ SetI H' pk (addAll row ((nx row[p]).take j)) ∧ ∃ y, σ = [some (.ref l), some (.int (f : Nat)), some (.ref pf), some (.ref pk), some (.int (p : Nat)), y]) ⟨s3, Nat.zero_le _, hpf, hpk, _, rfl⟩ (fun j σ H' _ ⟨s', _⟩ => SqL.of (s' _ _ hpx)) ?_ ?_⟩
      · rintro j v σ H5 hj ⟨s5, hjl, hf5, hk5, y, rfl⟩
        obtain ⟨k, hk, rfl⟩ := natsV_get hj
        have hj' : j < (nx row[p]).length := (List.getElem?_eq_some_iff.mp hk).1
        have hall : ∀ x ∈ (nx row[p]).take j, x < n := fun x hx' => hx _ hkn x (List.mem_of_mem_take hx')
        have hfw := row_few hb.nd hb.lt hall
        have htk : (nx row[p]).take (j + 1) = (nx row[p]).take j ++ [k] := by rw [List.take_add_one, hk]; rfl
        walk_at "run"
        refine i_setNotInI hk5 ?_
        by_cases hm : k ∈ addAll row ((nx row[p]).take j)
        · refine i_itNF hm ?_
          walk_at "run"
          refine ⟨s5, hj', ?_, ?_, _, rfl⟩
          · rw [htk, addAll_snoc, if_pos hm]; exact hf5
          · rw [htk, addAll_snoc, if_pos hm]; exact hk5
        · refine i_itNT hm ?_
          walk_at "run"
          obtain ⟨H6, hput, hset, o6, rfl⟩ := hk5.put (k := k) (v := .bl true) (by omega)
          refine ⟨pk, _, rfl, hput, ?_⟩
          walk_at "run"
          have hf6 : upd H5 pk (.dK o6) pf = some (.lst (natsV (addAll row ((nx row[p]).take j)))) := by rw [upd_ne hne]; exact hf5
          refine i_tyL (SqL.of hf6) ?_
          walk_at "run"
          refine i_append hf6 (Nat.lt_of_lt_of_le (show (natsV (addAll row ((nx row[p]).take j))).length < 1000000 by rw [natsV_len]; omega) (le_line (Nat.le_refl _))) ?_
          refine ⟨(s5.updNew fk).updNew f1, hj', ?_, ?_, _, rfl⟩
          · rw [upd_same, natsV_snoc, htk, addAll_snoc, if_neg hm]
          · rw [htk, addAll_snoc, if_neg hm]
            obtain ⟨kvs, h1, h2⟩ := hset
            exact ⟨kvs, by rw [upd_ne (Ne.symm hne)]; exact h1, h2⟩
      · rintro σ H5 ⟨s5, hjl, hf5, hk5, y, rfl⟩
        rw [natsV_len, List.take_length] at hf5 hk5
        refine i_aug1 rfl ?_
        exact ⟨s5, _, rfl, hf5, hk5⟩
    · have hp : row.length ≤ p := by
        refine Nat.le_of_not_lt fun z => hc ?_
        exact decide_eq_true (by omega)
      walk_at "run"
      rw [bfs_stop hp] at hrow
      rw [hrow] at hpf
      exact q pf H3 f1 s3 hpf
def sp_counted (K : PySem.W.Frag) (P : Params) : Sp := fun vs H Q _ => ∃ (a : Addr) (us : List V) (α : Type) (_ : DecidableEq α) (f : α → Tr) (xs : List α), vs = [.ref a] ∧ SqL K H a us ∧ Tr.AtsB H (xs.map f) us ∧ (∀ a b, f a = f b → a = b) ∧ (∀ x, (f x).h ≤ 8) ∧ xs.length ≤ 100000 ∧ ∀ d H', H d = none → Same H H' → DbAt P H' d (numd f (mets xs)) → Q (.ref d) H'
theorem ok_counted (T : Txt K mg t) : FnOk P w K mg base CX0 1 t.a_counted t.fd_counted ["things"] (sp_counted K w.params) := by
  refine T.F_counted.ok sc_counted (fun vs H Q E h => ?_) (fun cdv A outer s H vs Q E hr h => ?_)
  · obtain ⟨a, us, α, dα, f, xs, rfl, _⟩ := h
    rfl
  · obtain ⟨a, us, α, dα, f, xs, rfl, ha, hu, hf, hh, hl, q⟩ := h
    refine ⟨_, (@pss_cons _ _ _ _ _ (@ps_set _ _ 1 _ _ _ _ sc_counted.nd rfl (by first | exact Or.inl rfl | exact Or.inr rfl) (pe_tnew w.params) (by rfl) (by first | exact Or.inl rfl | exact Or.inr rfl))
      (@pss_cons _ _ _ _ _ (@ps_for _ _ _ _ _ _ _ _ PassesOwn.never rfl (kpi_list K (pv 0)) (pg_name (i := 2) sc_counted.nd rfl (by first | exact Or.inl rfl | exact Or.inr rfl)) (@pss_one _ _ _ (@ps_expr _ _ _ _ (pe_bsetd (P := w.params) rfl (by exact hr.units) (pv 1) (pv 2) (@pe_callB _ _ _ _ _ _ _ _ _ (cl_lenB (P := w.params) rfl) (by rfl) T.z_len bb_len (@pa_cons _ _ _ _ _ (pv 1) (@pa_nil _) (by rfl)) (by decide) (by decide) (by rfl) (by rfl)) ⟨by rfl, by rfl, by rfl, by rfl⟩) (by rfl))) (by intro _; rfl))
      (@pss_one _ _ _ (@ps_ret _ _ _ _ (pv 1))))), ?_⟩
    have sl : (1000000 : Nat) ≤ sizeLine := le_line (Nat.le_refl _)
    have ul : us.length = xs.length := by rw [hu.len, List.length_map]
    walk_at "go"
    intro d o fd hd
    walk_at "run"
    have s1 : Same H (upd H d o) := Same.new fd
    refine ⟨⟨_, s1.seq ha⟩, for_list (K := K) (a := a) (xs := us) (fun i σ H' => i ≤ xs.length ∧ Same H H' ∧ DbAt w.params H' d (numd f (mets (xs.take i))) ∧ ∃ y, σ = [some (.ref a), some (.ref d), y]) ⟨Nat.zero_le _, s1, .of0 hd, _, rfl⟩ (fun i σ H' _ ⟨_, s', _⟩ => s'.seq ha) ?_ ?_⟩
    · rintro i v σ H2 hv ⟨hi, s2, hD, y, rfl⟩
      obtain ⟨tx, hx1, hx2⟩ := hu.get i v hv
      rw [List.getElem?_map] at hx1
      obtain ⟨x, hx, rfl⟩ := Option.map_eq_some_iff.mp hx1
      have hi' : i < xs.length := (List.getElem?_eq_some_iff.mp hx).1
      have htk : xs.take (i + 1) = xs.take i ++ [x] := by rw [List.take_add_one, hx]; rfl
      have hln := mets_len (xs.take i)
      have hlt : (xs.take i).length ≤ 100000 := by simp; omega
      walk_at "run"
      refine ⟨d, _, rfl, hD, ?_⟩
      walk_at "run"
      refine ⟨d, _, rfl, hD, ?_⟩
      walk_at "run"
      refine ⟨_, f x, hD, ⟨hx2.tups s2.tups, hh x⟩, by unfold numd; rw [numF_len]; omega, fun z hz => ?_, fun hz o' hD' => ?_⟩
      · have hm : x ∈ mets (xs.take i) := Classical.byContradiction fun hm => by
          have := numF_none hf (mets (xs.take i)) 0 hm
          unfold numd at hz
          rw [this] at hz
          cases hz
        rw [htk, mets_snoc, met1, if_pos hm]
        exact ⟨hi', s2, hD, _, rfl⟩
      · have hm : x ∉ mets (xs.take i) := fun hm => by
          obtain ⟨j, _, hj⟩ := has_num hf (mets_nd _) hm
          rw [hj] at hz
          cases hz
        rw [htk, mets_snoc, met1, if_neg hm]
        refine ⟨hi', s2.updNew fd, ?_, _, rfl⟩
        unfold numd at hD' ⊢
        rw [numF_snoc, Nat.zero_add]
        rw [numF_len] at hD'
        exact hD'
    · rintro σ H2 ⟨_, s2, hD, y, rfl⟩
      rw [ul, List.take_length] at hD
      walk_at "run"
      exact q d H2 fd s2 hD
def sp_numbered (K : PySem.W.Frag) (P : Params) : Sp := fun vs H Q _ => ∃ (a : Addr) (us : List V) (α : Type) (_ : DecidableEq α) (f : α → Tr) (xs : List α), vs = [.ref a] ∧ SqL K H a us ∧ Tr.AtsB H (xs.map f) us ∧ (∀ a b, f a = f b → a = b) ∧ (∀ x, (f x).h ≤ 8) ∧ xs.length ≤ 100000 ∧ ∀ l H', H l = none → Same H H' → H' l = some (.lst (natsV (canon xs))) → Q (.ref l) H'
theorem ok_numbered (T : Txt K mg t) : FnOk P w K mg base CX0 2 t.a_numbered t.fd_numbered ["labels"] (sp_numbered K w.params) := by
  have G_counted := ok_counted (P := P) (w := w) (base := base) T
  refine T.F_numbered.ok sc_numbered (fun vs H Q E h => ?_) (fun cdv A outer s H vs Q E hr h => ?_)
  · obtain ⟨a, us, α, dα, f, xs, rfl, _⟩ := h
    rfl
  · obtain ⟨a, us, α, dα, f, xs, rfl, ha, hu, hf, hh, hl, q⟩ := h
    refine ⟨_, (@pss_cons _ _ _ _ _ (@ps_set _ _ 1 _ _ _ _ sc_numbered.nd rfl (by first | exact Or.inl rfl | exact Or.inr rfl) (@pe_call _ _ _ _ _ _ _ _ _ _ _ _ _ _ _ _ G_counted (hr.mono (by omega)) rfl T.m_counted T.F_counted.kp T.b_counted .nil pass0 (@pa_cons _ _ _ _ _ (pv 0) (@pa_nil _) (by rfl)) (by decide) (by rfl) (by rfl)) (by rfl) (by first | exact Or.inl rfl | exact Or.inr rfl))
      (@pss_one _ _ _ (@ps_ret _ _ _ _ (pe_lc (Nt := ["label"]) (Nf := ["numbers"]) (caps := [1]) rfl (comp_ok (sc := defScope s_numbered) rfl rfl (by decide +kernel) (by decide +kernel) (by decide +kernel) rfl (by decide +kernel)) (kpi_list K (pv 0)) (fun _ _ _ _ _ => (pg_name (i := 0) (show (["label", "numbers"] : List Str).Nodup by decide +kernel) rfl (by first | exact Or.inl rfl | exact Or.inr rfl))) (fun _ _ _ _ _ => (@pts_nil _)) (fun _ _ _ _ _ => (pe_bget (P := w.params) rfl (by exact hr.units) (pv 1) (pv 0) (fun _ _ => rfl))))))), ?_⟩
    have sl : (1000000 : Nat) ≤ sizeLine := le_line (Nat.le_refl _)
    have ul : us.length = xs.length := by rw [hu.len, List.length_map]
    walk_at "go"
    refine ⟨a, us, α, dα, f, xs, rfl, ha, hu, hf, hh, hl, fun d H1 f1 s1 hD => ?_⟩
    walk_at "run"
    refine ⟨⟨_, s1.seq ha⟩, cc_list (xs := us) (by omega) (fun i acc H' => H' = H1 ∧ i ≤ xs.length ∧ acc = natsV ((canon xs).take i)) ⟨rfl, Nat.zero_le _, rfl⟩ (fun i acc H' ⟨e, _, ea⟩ => ⟨by rw [ea, natsV_len]; simp; omega, e ▸ s1.seq ha⟩) ?_ ?_⟩
    · rintro i v acc H2 hv ⟨rfl, hi, rfl⟩
      obtain ⟨tx, hx1, hx2⟩ := hu.get i v hv
      rw [List.getElem?_map] at hx1
      obtain ⟨x, hx, rfl⟩ := Option.map_eq_some_iff.mp hx1
      have hi' : i < xs.length := (List.getElem?_eq_some_iff.mp hx).1
      have hm : x ∈ mets xs := (mets_mem x xs).mpr (List.mem_of_getElem? hx)
      have hval : valV (numd f (mets xs)) (f x) = some (.int ((mets xs).idxOf x : Nat)) := numd_val hf (mets_nd xs) (by rw [List.getElem?_eq_getElem (List.idxOf_lt_length_of_mem hm), List.getElem_idxOf])
      walk_at "run"
      refine ⟨d, _, f x, _, rfl, hD, ⟨hx2.tups s1.tups, hh x⟩, hval, ?_⟩
      refine ⟨rfl, hi', ?_⟩
      rw [natsV_snoc, List.take_add_one, canon_at hx]
      rfl
    · rintro acc H2 ⟨rfl, _, rfl⟩ p3 H3 f3 s3 e3
      rw [ul, show (canon xs).take xs.length = canon xs from by rw [← canon_len xs, List.take_length]] at e3
      walk_at "run"
      exact q p3 H3 (s1.free f3) (s1.trans s3) e3
def sp_firsts (K : PySem.W.Frag) : Sp := fun vs H Q _ => ∃ (a : Addr) (xs : List Nat), vs = [.ref a] ∧ SqL K H a (natsV xs) ∧ xs.length ≤ 100000 ∧ ∀ l H', H l = none → Same H H' → H' l = some (.lst (natsV ((mets xs).map fun x => xs.idxOf x))) → Q (.ref l) H'
theorem ok_firsts (T : Txt K mg t) : FnOk P w K mg base CX0 1 t.a_firsts t.fd_firsts ["numbers"] (sp_firsts K) := by
  refine T.F_firsts.ok sc_firsts (fun vs H Q E h => ?_) (fun cdv A outer s H vs Q E hr h => ?_)
  · obtain ⟨a, xs, rfl, _⟩ := h
    rfl
  · obtain ⟨a, xs, rfl, ha, hl, q⟩ := h
    refine ⟨_, (@pss_cons _ _ _ _ _ (@ps_set _ _ 1 _ _ _ _ sc_firsts.nd rfl (by first | exact Or.inl rfl | exact Or.inr rfl) (pe_tnew w.params) (by rfl) (by first | exact Or.inl rfl | exact Or.inr rfl))
      (@pss_cons _ _ _ _ _ (@ps_for _ _ _ _ _ _ _ _ PassesOwn.never rfl (pi_enum K rfl T.z_enumerate (@pa_cons _ _ _ _ _ (pv 0) (@pa_nil _) (by rfl))) (kpg_tup K (n := 2) rfl (pgs_cons (pg_name (i := 2) sc_firsts.nd rfl (by first | exact Or.inl rfl | exact Or.inr rfl)) (pgs_cons (pg_name (i := 3) sc_firsts.nd rfl (by first | exact Or.inl rfl | exact Or.inr rfl)) (@pgs_nil _)))) (@pss_one _ _ _ (@ps_expr _ _ _ _ (pe_tsetd (P := w.params) rfl (by exact hr.units) (pv 1) (pv 3) (pv 2) ⟨by rfl, by rfl, by rfl, by rfl⟩) (by rfl))) (by intro _; rfl))
      (@pss_one _ _ _ (@ps_ret _ _ _ _ (@pe_callTy _ _ _ _ _ _ _ _ _ (cl_listV (P := w.params) rfl rfl) (by rfl) T.z_list bb_list (@pa_cons _ _ _ _ _ (pe_tvals (P := w.params) rfl (pv 1)) (@pa_nil _) (by rfl)) (by decide) (by decide) (by rfl) (by rfl)))))), ?_⟩
    have sl : (1000000 : Nat) ≤ sizeLine := le_line (Nat.le_refl _)
    have hf : ∀ a b : Nat, Tr.int (a : Int) = Tr.int (b : Int) → a = b := fun a b e => by
      have := Tr.int.inj e
      omega
    walk_at "go"
    intro d o fd hd
    walk_at "run"
    have s1 : Same H (upd H d o) := Same.new fd
    refine ⟨⟨_, s1.seq ha⟩, for_enum (K := K) (a := a) (xs := natsV xs) (fun i σ H' => i ≤ xs.length ∧ Same H H' ∧ DtAt w.params H' d (fstF (fun x : Nat => Tr.int (x : Int)) xs (mets (xs.take i))) ∧ ∃ y z, σ = [some (.ref a), some (.ref d), y, z]) ⟨Nat.zero_le _, s1, hd, _, _, rfl⟩ (fun i σ H' _ ⟨_, s', _⟩ => s'.seq ha) ?_ ?_⟩
    · rintro i v σ H2 pq H3 hv ⟨hi, s2, hD, y, z, rfl⟩ s3 e3
      obtain ⟨x, hx, rfl⟩ := natsV_get hv
      have hi' : i < xs.length := (List.getElem?_eq_some_iff.mp hx).1
      have htk : xs.take (i + 1) = xs.take i ++ [x] := by rw [List.take_add_one, hx]; rfl
      have hln := mets_len (xs.take i)
      have hlt : (xs.take i).length ≤ 100000 := by simp; omega
      have hD3 := dt_same hD s3
      have s13 := s2.trans s3
      refine ⟨_, _, rfl, SqT.of e3, rfl, ?_⟩
      walk_at "run"
      refine ⟨d, _, rfl, hD3, ?_⟩
      walk_at "run"
      refine ⟨_, Tr.int (x : Int), hD3, ⟨by simp [Tr.At], by simp [Tr.h]⟩, by unfold fstF; rw [List.length_map]; omega, fun z hz => ?_, fun hz o' hD' => ?_⟩
      · have hm := fst_val hf (xs := xs) (l := mets (xs.take i)) (x := x)
        rw [hz] at hm
        have hm := of_decide_eq_true hm.symm
        rw [htk, mets_snoc, met1, if_pos hm]
        exact ⟨hi', s13, hD3, _, _, rfl⟩
      · have hm := fst_val hf (xs := xs) (l := mets (xs.take i)) (x := x)
        rw [hz] at hm
        have hm := of_decide_eq_false hm.symm
        rw [htk, mets_snoc, met1, if_neg hm]
        refine ⟨hi', s13.updNew fd, ?_, _, _, rfl⟩
        have hix : xs.idxOf x = i := by
          have h1 : xs = xs.take i ++ xs.drop i := (List.take_append_drop i xs).symm
          have h2 : xs.drop i = x :: xs.drop (i + 1) := by
            obtain ⟨q1, q2⟩ := List.getElem?_eq_some_iff.mp hx
            rw [List.drop_eq_getElem_cons q1, q2]
          rw [h1, List.idxOf_append, if_neg (fun z => hm ((mets_mem x _).mpr z)), h2]
          simp
          omega
        unfold fstF at hD' ⊢
        rw [List.map_append, List.map_cons, List.map_nil, hix]
        exact hD'
    · rintro σ H2 ⟨_, s2, hD, y, z, rfl⟩
      rw [natsV_len, List.take_length] at hD
      walk_at "run"
      refine ⟨d, _, rfl, hD, fun p3 H3 f3 s3 e3 => ?_⟩
      walk_at "run"
      refine ⟨p3, d, _, rfl, e3, dt_same hD s3, ?_⟩
      intro p4 H4 f4 s4 e4
      refine q p4 H4 ((s2.trans s3).free f4) (s2.trans (s3.trans s4)) ?_
      rw [e4]
      unfold fstF natsV
      rw [List.map_map, List.map_map]
      rfl
theorem empties {H : Hp} {acc : List V} {ls : List Addr} {f : Addr} {H1 H2 : Hp} (s1 : Same H H1) (hn : ls.Nodup) (hf : ∀ d ∈ ls, H d = none) (he : ∀ d ∈ ls, H1 d = some (.lst [])) (f2 : H1 f = none) (s2 : Same H1 H2) (e2 : H2 f = some (.lst (ls.map .ref))) : FL H H2 f ls (ls.map fun _ => []) := by
  refine ⟨s1.trans s2, s1.free f2, (fun z => by rw [he f z] at f2; cases f2), hn, hf, e2, by simp, fun j d xs h1 h2 => ?_⟩
  rw [List.getElem?_map, h1] at h2
  cases h2
  exact s2 _ _ (he d (List.mem_of_getElem? h1))
def sp_sources (K : PySem.W.Frag) : Sp := fun vs H Q _ => ∃ (a : Addr) (us : List V) (nw : Nat → List Nat) (n : Nat), vs = [.ref a] ∧ H a = some (.lst us) ∧ Lsts H us nw n ∧ (∀ i, i < n → (nw i).length ≤ 100 ∧ ∀ k ∈ nw i, k < n) ∧ n ≤ 1000 ∧ ∀ f ls cs H', FL H H' f ls cs → cs.length = n → (∀ (b : Nat) (xs : List Nat), cs[b]? = some xs → ∀ a, a ∈ xs ↔ a < n ∧ b ∈ nw a) → Q (.ref f) H'
theorem ok_sources_of (T : Txt K mg t) : FnOk P w K mg base CX0 1 t.a_sources_of t.fd_sources_of ["ways"] (sp_sources K) := by
  refine T.F_sources_of.ok sc_sources_of (fun vs H Q E h => ?_) (fun cdv A outer s H vs Q E hr h => ?_)
  · obtain ⟨a, us, nw, n, rfl, _⟩ := h
    rfl
  · obtain ⟨a, us, nw, n, rfl, ha, hu, hw, hn, q⟩ := h
    refine ⟨_, (@pss_cons _ _ _ _ _ (ps_lc (i := 1) (Nt := ["each"]) (Nf := []) (caps := []) rfl (comp_ok (sc := defScope s_sources_of) rfl rfl (by decide +kernel) (by decide +kernel) (by decide +kernel) rfl (by decide +kernel)) (kpi_list K (pv 0)) (fun _ _ _ _ _ => (pg_name (i := 0) (show (["each"] : List Str).Nodup by decide +kernel) rfl (by first | exact Or.inl rfl | exact Or.inr rfl))) (fun _ _ _ _ _ => (@pts_nil _)) (fun _ _ _ _ _ => (@pe_lstN _ _ _ _ (@pa_nil _))) sc_sources_of.nd rfl (by first | exact Or.inl rfl | exact Or.inr rfl) rfl)
      (@pss_cons _ _ _ _ _ (@ps_for _ _ _ _ _ _ _ _ PassesOwn.never rfl (pi_enum K rfl T.z_enumerate (@pa_cons _ _ _ _ _ (pv 0) (@pa_nil _) (by rfl))) (kpg_tup K (n := 2) rfl (pgs_cons (pg_name (i := 2) sc_sources_of.nd rfl (by first | exact Or.inl rfl | exact Or.inr rfl)) (pgs_cons (pg_name (i := 3) sc_sources_of.nd rfl (by first | exact Or.inl rfl | exact Or.inr rfl)) (@pgs_nil _)))) (@pss_one _ _ _ (@ps_for _ _ _ _ _ _ _ _ PassesOwn.never rfl (kpi_list K (pv 3)) (pg_name (i := 4) sc_sources_of.nd rfl (by first | exact Or.inl rfl | exact Or.inr rfl)) (@pss_one _ _ _ (@ps_expr _ _ _ _ (@kpe_bm _ K _ _ _ _ _ _ _ _ _ _ _ PySem.F.plainAttrs_list PySem.F.slot_list_append PySem.F.type_list_append mt_append (@pe_ix _ _ _ _ _ _ _ (kix_list K) (pv 1) (pv 4) (fun _ _ => rfl)) (@pa_cons _ _ _ _ _ (pv 2) (@pa_nil _) (by rfl)) (by rfl) (by rfl) (by rfl) (by rfl) (by rfl) (by rfl)) (by rfl))) (by intro _; rfl))) (by intro _; rfl))
      (@pss_one _ _ _ (@ps_ret _ _ _ _ (pv 1))))), ?_⟩
    have sl : (1000000 : Nat) ≤ sizeLine := le_line (Nat.le_refl _)
    have ul : us.length = n := hu.1
    walk_at "go"
    refine ⟨⟨_, SqL.of ha⟩, cc_list (xs := us) (by omega) (fun i acc H' => i ≤ n ∧ Same H H' ∧ ∃ ls : List Addr, acc = ls.map .ref ∧ ls.length = i ∧ ls.Nodup ∧ (∀ d ∈ ls, H d = none) ∧ ∀ d ∈ ls, H' d = some (.lst [])) ⟨Nat.zero_le _, Same.refl _, [], rfl, rfl, List.nodup_nil, by simp, by simp⟩ (fun i acc H' ⟨_, s', ls, e, el, _⟩ => ⟨by rw [e, List.length_map]; omega, SqL.of (s' _ _ ha)⟩) ?_ ?_⟩
    · rintro i v acc H2 hv ⟨hi, s2, ls, rfl, el, hnd, hf, he⟩
      walk_at "run"
      intro p3 H3 f3 s3 e3
      refine ⟨by rw [← ul]; exact (List.getElem?_eq_some_iff.mp hv).1, s2.trans s3, ls ++ [p3], by simp, by simp [el], nd_snoc hnd fun z => (by rw [he p3 z] at f3; cases f3), fun d hd => ?_, fun d hd => ?_⟩
      · rcases List.mem_append.mp hd with hd | hd
        · exact hf d hd
        · rw [List.mem_singleton.mp hd]; exact s2.free f3
      · rcases List.mem_append.mp hd with hd | hd
        · exact s3 _ _ (he d hd)
        · rw [List.mem_singleton.mp hd]; exact e3
    · rintro acc H2 ⟨_, s2, ls, rfl, el, hnd, hf, he⟩ f H3 f3 s3 e3
      have hFL := empties (acc := []) s2 hnd hf he f3 s3 e3
      rw [ul] at el
      clear he hnd hf
      walk_at "run"
      refine ⟨⟨_, SqL.of (hFL.b _ _ ha)⟩, for_enum (K := K) (a := a) (xs := us) (fun i σ H' => i ≤ n ∧ (∃ cs : List (List Nat), FL H H' f ls cs ∧ cs.length = n ∧ (∀ (b : Nat) (xs : List Nat), cs[b]? = some xs → xs.length ≤ 100 * i) ∧ ∀ (b : Nat) (xs : List Nat), cs[b]? = some xs → ∀ a, a ∈ xs ↔ a < i ∧ b ∈ nw a) ∧ ∃ y1 y2 y3, σ = [some (.ref a), some (.ref f), y1, y2, y3]) ⟨Nat.zero_le _, ⟨_, hFL, by simp [el], fun b xs e => ?_, fun b xs e => ?_⟩, _, _, _, rfl⟩ (fun i σ H' _ ⟨_, ⟨cs, h', _⟩, _⟩ => SqL.of (h'.b _ _ ha)) ?_ ?_⟩
      · rw [List.getElem?_map] at e
        obtain ⟨_, _, rfl⟩ := Option.map_eq_some_iff.mp e
        simp
      · rw [List.getElem?_map] at e
        obtain ⟨_, _, rfl⟩ := Option.map_eq_some_iff.mp e
        simp
      · rintro i v σ H4 pq H5 hv ⟨hi, ⟨cs, h4, cl, cb, cm⟩, y1, y2, y3, rfl⟩ s5 e5
        have hi' : i < n := by rw [← ul]; exact (List.getElem?_eq_some_iff.mp hv).1
        obtain ⟨px, hx1, hx2⟩ := hu.2 i hi'
        rw [hv] at hx1
        cases hx1
        have h5 := h4.same s5
        obtain ⟨wl, wb⟩ := hw i hi'
        refine ⟨_, _, rfl, SqT.of e5, rfl, ?_⟩
        walk_at "run"
        refine ⟨⟨_, SqL.of (h5.b _ _ hx2)⟩, for_list (K := K) (a := px) (xs := natsV (nw i)) (fun j σ H' => j ≤ (nw i).length ∧ (∃ cs : List (List Nat), FL H H' f ls cs ∧ cs.length = n ∧ (∀ (b : Nat) (xs : List Nat), cs[b]? = some xs → xs.length ≤ 100 * i + j) ∧ ∀ (b : Nat) (xs : List Nat), cs[b]? = some xs → ∀ a, a ∈ xs ↔ (a < i ∧ b ∈ nw a) ∨ (a = i ∧ b ∈ (nw i).take j)) ∧ ∃ y3, σ = [some (.ref a), some (.ref f), some (.int (i : Nat)), some (.ref px), y3]) ⟨Nat.zero_le _, ⟨cs, h5, cl, cb, fun b xs e a => by rw [cm b xs e a]; simp⟩, _, rfl⟩ (fun j σ H' _ ⟨_, ⟨cs, h', _⟩, _⟩ => SqL.of (h'.b _ _ hx2)) ?_ ?_⟩
        · rintro j v σ H6 hv ⟨hj, ⟨cs, h6, cl, cb, cm⟩, y3, rfl⟩
          obtain ⟨k, hk, rfl⟩ := natsV_get hv
          have hkn := wb k (List.mem_of_getElem? hk)
          obtain ⟨xs, hxs⟩ : ∃ xs, cs[k]? = some xs := ⟨_, List.getElem?_eq_getElem (by omega)⟩
          obtain ⟨d, hd1, hd2, hd3⟩ := h6.get hxs
          have hjl := (List.getElem?_eq_some_iff.mp hk).1
          have hb := cb k xs hxs
          walk_at "run"
          refine i_ixL (SqL.of h6.e) (atI_nat hd2) ?_
          walk_at "run"
          refine i_tyL (SqL.of hd3) ?_
          walk_at "run"
          refine i_append hd3 (by rw [natsV_len]; omega) ?_
          rw [natsV_snoc]
          refine ⟨hjl, ⟨_, h6.app hxs hd1, by simp [cl], fun b ys e => ?_, fun b ys e a => ?_⟩, _, rfl⟩
          · rw [List.getElem?_set] at e
            by_cases z : k = b
            · rw [if_pos z, if_pos (by omega)] at e
              cases e
              simp
              omega
            · rw [if_neg z] at e
              have := cb b ys e
              omega
          · rw [List.take_add_one, hk]
            simp only [Option.toList_some, List.mem_append, List.mem_singleton]
            rw [List.getElem?_set] at e
            by_cases z : k = b
            · subst z
              rw [if_pos rfl, if_pos (by omega)] at e
              cases e
              rw [List.mem_append, cm k xs hxs a, List.mem_singleton]
              constructor
              · rintro ((h | h) | h)
                · exact .inl h
                · exact .inr ⟨h.1, .inl h.2⟩
                · exact .inr ⟨h, .inr rfl⟩
              · rintro (h | ⟨h, h' | h'⟩)
                · exact .inl (.inl h)
                · exact .inl (.inr ⟨h, h'⟩)
                · exact .inr h
            · rw [if_neg z] at e
              rw [cm b ys e a]
              constructor
              · rintro (h | h)
                · exact .inl h
                · exact .inr ⟨h.1, .inl h.2⟩
              · rintro (h | ⟨h, h' | h'⟩)
                · exact .inl h
                · exact .inr ⟨h, h'⟩
                · exact absurd h'.symm z
        · rintro σ H6 ⟨hj, ⟨cs, h6, cl, cb, cm⟩, y3, rfl⟩
          rw [natsV_len, List.take_length] at cm
          rw [natsV_len] at cb
          refine ⟨hi', ⟨cs, h6, cl, fun b xs e => by have := cb b xs e; omega, fun b xs e a => ?_⟩, _, _, _, rfl⟩
          rw [cm b xs e a]
          constructor
          · rintro (⟨h, h'⟩ | ⟨rfl, h'⟩)
            · exact ⟨by omega, h'⟩
            · exact ⟨by omega, h'⟩
          · rintro ⟨h, h'⟩
            by_cases z : a = i
            · exact .inr ⟨z, z ▸ h'⟩
            · exact .inl ⟨by omega, h'⟩
      · rintro σ H4 ⟨_, ⟨cs, h4, cl, cb, cm⟩, y1, y2, y3, rfl⟩
        rw [ul] at cm
        walk_at "run"
        exact q f ls cs H4 h4 cl cm
def sp_members (K : PySem.W.Frag) : Sp := fun vs H Q _ => ∃ (a : Addr) (gs : List Nat), vs = [.ref a] ∧ H a = some (.lst (natsV gs)) ∧ (∀ c ∈ gs, c < (mets gs).length) ∧ gs.length ≤ 1000 ∧ ∀ f ls H', FL H H' f ls (memL gs (mets gs).length) → Q (.ref f) H'
theorem ok_members_of (T : Txt K mg t) : FnOk P w K mg base CX0 2 t.a_members_of t.fd_members_of ["groups"] (sp_members K) := by
  have G_firsts := ok_firsts (P := P) (w := w) (base := base) T
  refine T.F_members_of.ok sc_members_of (fun vs H Q E h => ?_) (fun cdv A outer s H vs Q E hr h => ?_)
  · obtain ⟨a, gs, rfl, _⟩ := h
    rfl
  · obtain ⟨a, gs, rfl, ha, hg, hn, q⟩ := h
    refine ⟨_, (@pss_cons _ _ _ _ _ (ps_lc (i := 1) (Nt := ["number"]) (Nf := []) (caps := []) rfl (comp_ok (sc := defScope s_members_of) rfl rfl (by decide +kernel) (by decide +kernel) (by decide +kernel) rfl (by decide +kernel)) (kpi_list K (@pe_call _ _ _ _ _ _ _ _ _ _ _ _ _ _ _ _ G_firsts (hr.mono (by omega)) rfl T.m_firsts T.F_firsts.kp T.b_firsts .nil pass0 (@pa_cons _ _ _ _ _ (pv 0) (@pa_nil _) (by rfl)) (by decide) (by rfl) (by rfl))) (fun _ _ _ _ _ => (pg_name (i := 0) (show (["number"] : List Str).Nodup by decide +kernel) rfl (by first | exact Or.inl rfl | exact Or.inr rfl))) (fun _ _ _ _ _ => (@pts_nil _)) (fun _ _ _ _ _ => (@pe_lstN _ _ _ _ (@pa_nil _))) sc_members_of.nd rfl (by first | exact Or.inl rfl | exact Or.inr rfl) rfl)
      (@pss_cons _ _ _ _ _ (@ps_for _ _ _ _ _ _ _ _ PassesOwn.never rfl (pi_enum K rfl T.z_enumerate (@pa_cons _ _ _ _ _ (pv 0) (@pa_nil _) (by rfl))) (kpg_tup K (n := 2) rfl (pgs_cons (pg_name (i := 2) sc_members_of.nd rfl (by first | exact Or.inl rfl | exact Or.inr rfl)) (pgs_cons (pg_name (i := 3) sc_members_of.nd rfl (by first | exact Or.inl rfl | exact Or.inr rfl)) (@pgs_nil _)))) (@pss_one _ _ _ (@ps_expr _ _ _ _ (@kpe_bm _ K _ _ _ _ _ _ _ _ _ _ _ PySem.F.plainAttrs_list PySem.F.slot_list_append PySem.F.type_list_append mt_append (@pe_ix _ _ _ _ _ _ _ (kix_list K) (pv 1) (pv 3) (fun _ _ => rfl)) (@pa_cons _ _ _ _ _ (pv 2) (@pa_nil _) (by rfl)) (by rfl) (by rfl) (by rfl) (by rfl) (by rfl) (by rfl)) (by rfl))) (by intro _; rfl))
      (@pss_one _ _ _ (@ps_ret _ _ _ _ (pv 1))))), ?_⟩
    have sl : (1000000 : Nat) ≤ sizeLine := le_line (Nat.le_refl _)
    have hml := mets_len gs
    walk_at "go"
    refine ⟨a, gs, rfl, SqL.of ha, by omega, fun pf H1 f1 s1 e1 => ?_⟩
    generalize hF : (mets gs).map (fun x => gs.idxOf x) = F at e1
    have lF : F.length = (mets gs).length := by rw [← hF, List.length_map]
    clear hF
    walk_at "run"
    refine ⟨⟨_, SqL.of e1⟩, cc_list (xs := natsV F) (by rw [natsV_len]; omega) (fun i acc H' => i ≤ F.length ∧ Same H1 H' ∧ ∃ ls : List Addr, acc = ls.map .ref ∧ ls.length = i ∧ ls.Nodup ∧ (∀ d ∈ ls, H d = none) ∧ ∀ d ∈ ls, H' d = some (.lst [])) ⟨Nat.zero_le _, Same.refl _, [], rfl, rfl, List.nodup_nil, by simp, by simp⟩ (fun i acc H' ⟨_, s', ls, e, el, _⟩ => ⟨by rw [e, List.length_map]; omega, SqL.of (s' _ _ e1)⟩) ?_ ?_⟩
    · rintro i v acc H2 hv ⟨hi, s2, ls, rfl, el, hnd, hf, he⟩
      walk_at "run"
      intro p3 H3 f3 s3 e3
      refine ⟨by have := (List.getElem?_eq_some_iff.mp hv).1; rw [natsV_len] at this; exact this, s2.trans s3, ls ++ [p3], by simp, by simp [el], nd_snoc hnd fun z => (by rw [he p3 z] at f3; cases f3), fun d hd => ?_, fun d hd => ?_⟩
      · rcases List.mem_append.mp hd with hd | hd
        · exact hf d hd
        · rw [List.mem_singleton.mp hd]; exact (s1.trans s2).free f3
      · rcases List.mem_append.mp hd with hd | hd
        · exact s3 _ _ (he d hd)
        · rw [List.mem_singleton.mp hd]; exact e3
    · rintro acc H2 ⟨_, s2, ls, rfl, el, hnd, hf, he⟩ f H3 f3 s3 e3
      have hFL := empties (acc := []) (s1.trans s2) hnd hf he f3 s3 e3
      rw [natsV_len, lF] at el
      clear he hnd hf
      walk_at "run"
      have e0 : ls.map (fun _ => ([] : List Nat)) = memL (gs.take 0) (mets gs).length := by
        unfold memL
        rw [← el]
        refine List.ext_getElem? fun j => ?_
        simp only [List.getElem?_map, List.take_zero, List.length_nil, List.range_zero, List.filter_nil]
        by_cases hj : j < ls.length
        · rw [List.getElem?_range hj, List.getElem?_eq_getElem hj]; rfl
        · rw [List.getElem?_eq_none (by omega), List.getElem?_eq_none (by simp; omega)]
      rw [e0] at hFL
      refine ⟨⟨_, SqL.of (hFL.b _ _ ha)⟩, for_enum (K := K) (a := a) (xs := natsV gs) (fun i σ H' => i ≤ gs.length ∧ FL H H' f ls (memL (gs.take i) (mets gs).length) ∧ ∃ y1 y2, σ = [some (.ref a), some (.ref f), y1, y2]) ⟨Nat.zero_le _, hFL, _, _, rfl⟩ (fun i σ H' _ ⟨_, h', _⟩ => SqL.of (h'.b _ _ ha)) ?_ ?_⟩
      · rintro i v σ H4 pq H5 hv ⟨hi, h4, y1, y2, rfl⟩ s5 e5
        obtain ⟨c, hc, rfl⟩ := natsV_get hv
        have hi' := (List.getElem?_eq_some_iff.mp hc).1
        have hck := hg c (List.mem_of_getElem? hc)
        have h5 := h4.same s5
        have hxs : (memL (gs.take i) (mets gs).length)[c]? = some ((List.range i).filter fun a => decide ((gs.take i)[a]? = some c)) := by
          unfold memL
          rw [List.getElem?_map, List.getElem?_range hck]
          simp only [Option.map_some]
          rw [show (gs.take i).length = i by simp; omega]
        obtain ⟨d, hd1, hd2, hd3⟩ := h5.get hxs
        have hlen : ((List.range i).filter fun a => decide ((gs.take i)[a]? = some c)).length ≤ i := by
          have := List.length_filter_le (fun a => decide ((gs.take i)[a]? = some c)) (List.range i)
          simpa using this
        refine ⟨_, _, rfl, SqT.of e5, rfl, ?_⟩
        walk_at "run"
        refine i_ixL (SqL.of h5.e) (atI_nat hd2) ?_
        walk_at "run"
        refine i_tyL (SqL.of hd3) ?_
        walk_at "run"
        refine i_append hd3 (by rw [natsV_len]; omega) ?_
        rw [natsV_snoc]
        refine ⟨hi', ?_, _, _, rfl⟩
        rw [memL_step hc hck]
        exact h5.app hxs hd1
      · rintro σ H4 ⟨_, h4, y1, y2, rfl⟩
        rw [natsV_len, List.take_length] at h4
        walk_at "run"
        exact q f ls H4 h4
theorem ixN_nat {n j : Nat} (h : j < n) : ixN n (j : Nat) = some j := by
  unfold ixN
  rw [if_pos (by omega), if_pos (by omega)]
  simp
def sp_led (C : Addr) : Sp := fun vs H Q _ => ∃ (H0 : Hp) (x : GA) (nw ns : Nat → List Nat) (n : Nat) (gs : List Nat) (ms ts : List (List Nat)) (qs : List Nat) (a : Nat), vs = [.ref x.p, .int (a : Nat)] ∧ GrAt C H0 H x nw ns n gs ms ts qs ∧ a < n ∧ (nw a).length ≤ 100 ∧ (∀ k ∈ nw a, k < gs.length) ∧
  ∀ l H', H l = none → Same H H' → H' l = some (.tup (natsV ((nw a).map fun k => gs.getD k 0))) → Q (.ref l) H'
theorem ok_Grouping_led_groups (T : Txt K mg t) : FnOk P w K mg base CX0 1 t.a_Grouping_led_groups t.fd_Grouping_led_groups ["self", "thing"] (sp_led t.c_Grouping) := by
  refine T.F_Grouping_led_groups.ok sc_Grouping_led_groups (fun vs H Q E h => ?_) (fun cdv A outer s H vs Q E hr h => ?_)
  · obtain ⟨H0, x, nw, ns, n, gs, ms, ts, qs, a, rfl, _⟩ := h
    rfl
  · obtain ⟨H0, x, nw, ns, n, gs, ms, ts, qs, a, rfl, hG, ha, hl, hk, q⟩ := h
    refine ⟨_, (@pss_one _ _ _ (@ps_ret _ _ _ _ (@pe_callTy _ _ _ _ _ _ _ _ _ (kcl_tuple K) (by rfl) T.z_tuple bb_tuple (@pa_cons _ _ _ _ _ (pe_lc (Nt := ["way"]) (Nf := ["self"]) (caps := [0]) rfl (comp_ok (sc := defScope s_Grouping_led_groups) rfl rfl (by decide +kernel) (by decide +kernel) (by decide +kernel) rfl (by decide +kernel)) (kpi_list K (@pe_ix _ _ _ _ _ _ _ (kix_list K) (kpe_fld K (pv 0) rfl) (pv 1) (fun _ _ => rfl))) (fun _ _ _ _ _ => (pg_name (i := 0) (show (["way", "self"] : List Str).Nodup by decide +kernel) rfl (by first | exact Or.inl rfl | exact Or.inr rfl))) (fun _ _ _ _ _ => (@pts_nil _)) (fun _ _ _ _ _ => (@pe_ix _ _ _ _ _ _ _ (kix_list K) (kpe_fld K (pv 1) rfl) (pv 0) (fun _ _ => rfl)))) (@pa_nil _) (by rfl)) (by decide) (by decide) (by rfl) (by rfl)))), ?_⟩
    have sl : (1000000 : Nat) ≤ sizeLine := le_line (Nat.le_refl _)
    obtain ⟨us, w1, w2⟩ := hG.ww
    obtain ⟨pa, w3, w4⟩ := w2.2 a ha
    have w1 := (hds_of w1).1
    have w4 := (hds_of w4).1
    walk_at "go"
    refine ⟨x.p, _, x.dx, _, _, rfl, hG.o, T.cl_Grouping, T.n_Grouping_ways, gF_ways x, ?_⟩
    walk_at "run"
    refine i_ixL (SqL.of w1) (atI_nat w3) ?_
    refine ⟨_, rfl, ⟨_, SqL.of w4⟩, cc_list (xs := natsV (nw a)) (by rw [natsV_len]; omega) (fun i acc H' => H' = H ∧ i ≤ (nw a).length ∧ acc = natsV (((nw a).map fun k => gs.getD k 0).take i)) ⟨rfl, Nat.zero_le _, rfl⟩ (fun i acc H' ⟨e, _, ea⟩ => ⟨by rw [ea, natsV_len]; simp; omega, e ▸ SqL.of w4⟩) ?_ ?_⟩
    · rintro i v acc H2 hv ⟨rfl, hi, rfl⟩
      obtain ⟨k, hk', rfl⟩ := natsV_get hv
      have hkl := hk k (List.mem_of_getElem? hk')
      walk_at "run"
      refine ⟨x.p, _, x.dx, _, _, rfl, hG.o, T.cl_Grouping, T.n_Grouping_groups, gF_groups x, ?_⟩
      walk_at "run"
      refine i_ixL (SqL.of hG.gg) (atI_nats hkl) ?_
      refine ⟨rfl, (List.getElem?_eq_some_iff.mp hk').1, ?_⟩
      rw [natsV_snoc, List.take_add_one, List.getElem?_map, hk']
      rfl
    · rintro acc H2 ⟨rfl, _, rfl⟩ p3 H3 f3 s3 e3
      rw [natsV_len, show ((nw a).map fun k => gs.getD k 0).take (nw a).length = (nw a).map fun k => gs.getD k 0 from List.take_of_length_le (by simp)] at e3
      walk_at "run"
      refine i_tupleL (SqL.of e3) ?_
      intro p4 H4 f4 s4 e4
      walk_at "run"
      exact q p4 H4 (s3.free f4) (s3.trans s4) e4
def sp_regroup (C : Addr) : Sp := fun vs H Q _ => ∃ (H0 : Hp) (x : GA) (nw ns : Nat → List Nat) (n : Nat) (gs : List Nat) (ms ts : List (List Nat)) (qs : List Nat) (l : Addr) (xs : List Nat), vs = [.ref x.p, .ref l] ∧ GrAt C H0 H x nw ns n gs ms ts qs ∧ hds x.own H l = some (.lst (natsV xs)) ∧ (∀ a ∈ xs, a < gs.length) ∧ ms.length ≤ 1000 ∧ ts.length ≤ 1000 ∧
  ∀ H', GrAt C H0 H' x nw ns n (reg1 gs xs ms.length) (ms ++ [xs]) (ts ++ [[]]) qs → Q .non H'
theorem ok_Grouping_regroup (T : Txt K mg t) : FnOk P w K mg base CX0 1 t.a_Grouping_regroup t.fd_Grouping_regroup ["self", "things"] (sp_regroup t.c_Grouping) := by
  refine T.F_Grouping_regroup.ok sc_Grouping_regroup (fun vs H Q E h => ?_) (fun cdv A outer s H vs Q E hr h => ?_)
  · obtain ⟨H0, x, nw, ns, n, gs, ms, ts, qs, l, xs, rfl, _⟩ := h
    rfl
  · obtain ⟨H0, x, nw, ns, n, gs, ms, ts, qs, l, xs, rfl, hG, hl, ha, hm, ht, q⟩ := h
    refine ⟨_, (@pss_cons _ _ _ _ _ (@ps_for _ _ _ _ _ _ _ _ PassesOwn.never rfl (kpi_list K (pv 1)) (pg_name (i := 2) sc_Grouping_regroup.nd rfl (by first | exact Or.inl rfl | exact Or.inr rfl)) (@pss_one _ _ _ (@ps_asg _ _ _ _ _ _ (@pe_callB _ _ _ _ _ _ _ _ _ (kcl_len K) (by rfl) T.z_len bb_len (@pa_cons _ _ _ _ _ (kpe_fld K (pv 0) rfl) (@pa_nil _) (by rfl)) (by decide) (by decide) (by rfl) (by rfl)) (pg_sub (kpe_fld K (pv 0) rfl) (pv 2) set_list) (by rfl) (by rfl) (by rfl))) (by intro _; rfl))
      (@pss_cons _ _ _ _ _ (@ps_expr _ _ _ _ (@kpe_bm _ K _ _ _ _ _ _ _ _ _ _ _ PySem.F.plainAttrs_list PySem.F.slot_list_append PySem.F.type_list_append mt_append (kpe_fld K (pv 0) rfl) (@pa_cons _ _ _ _ _ (pv 1) (@pa_nil _) (by rfl)) (by rfl) (by rfl) (by rfl) (by rfl) (by rfl) (by rfl)) (by rfl))
      (@pss_one _ _ _ (@ps_expr _ _ _ _ (@kpe_bm _ K _ _ _ _ _ _ _ _ _ _ _ PySem.F.plainAttrs_list PySem.F.slot_list_append PySem.F.type_list_append mt_append (kpe_fld K (pv 0) rfl) (@pa_cons _ _ _ _ _ (@pe_dnewN _ _) (@pa_nil _) (by rfl)) (by rfl) (by rfl) (by rfl) (by rfl) (by rfl) (by rfl)) (by rfl))))), ?_⟩
    have sl : (1000000 : Nat) ≤ sizeLine := le_line (Nat.le_refl _)
    walk_at "go"
    refine ⟨⟨_, SqL.of (hds_of hl).1⟩, for_list (K := K) (a := l) (xs := natsV xs) (fun i σ H' => i ≤ xs.length ∧ GrAt t.c_Grouping H0 H' x nw ns n (reg1 gs (xs.take i) ms.length) ms ts qs ∧ hds x.own H' l = some (.lst (natsV xs)) ∧ ∃ y, σ = [some (.ref x.p), some (.ref l), y]) ⟨Nat.zero_le _, hG, hl, _, rfl⟩ (fun i σ H' _ ⟨_, _, h', _⟩ => SqL.of (hds_of h').1) ?_ ?_⟩
    · rintro i v σ H2 hv ⟨hi, h2, hl2, y, rfl⟩
      obtain ⟨k, hk, rfl⟩ := natsV_get hv
      have hkl := ha k (List.mem_of_getElem? hk)
      obtain ⟨us, m1, m2⟩ := h2.mm
      walk_at "run"
      refine ⟨x.p, _, x.dx, _, _, rfl, h2.o, T.cl_Grouping, T.n_Grouping_members, gF_members x, ?_⟩
      walk_at "run"
      refine i_lenL (SqL.of m1) ?_
      rw [m2.1]
      walk_at "run"
      refine ⟨x.p, _, x.dx, _, _, rfl, h2.o, T.cl_Grouping, T.n_Grouping_groups, gF_groups x, ?_⟩
      walk_at "run"
      refine i_setL h2.gg (j := k) (ixN_nat (by rw [natsV_len, reg1_len]; exact hkl)) ?_
      have e1 : (natsV (reg1 gs (xs.take i) ms.length)).set k (.int (ms.length : Nat)) = natsV (reg1 gs (xs.take (i + 1)) ms.length) := by
        unfold natsV
        rw [List.take_add_one, hk]
        unfold reg1
        rw [Option.toList_some, List.foldl_append, List.foldl_cons, List.foldl_nil, List.map_set]
      rw [e1]
      exact ⟨(List.getElem?_eq_some_iff.mp hk).1, h2.updG, (KeepL.own x.mg).hd hl2, _, rfl⟩
    · rintro σ H2 ⟨_, h2, hl2, y, rfl⟩
      rw [natsV_len, List.take_length] at h2
      obtain ⟨us, m1, m2⟩ := h2.mm
      walk_at "run"
      refine ⟨x.p, _, x.dx, _, _, rfl, h2.o, T.cl_Grouping, T.n_Grouping_members, gF_members x, ?_⟩
      refine i_tyL (SqL.of m1) ?_
      walk_at "run"
      refine i_append m1 (by rw [m2.1]; omega) ?_
      have h3 := h2.updM (us' := us ++ [.ref l]) (ms' := ms ++ [xs]) (m2.snoc ⟨l, rfl, hl2⟩)
      generalize upd H2 x.m (.lst (us ++ [.ref l])) = H3 at h3
      obtain ⟨ds, t1, t2, t3, t4⟩ := h3.tt
      walk_at "run"
      refine ⟨x.p, _, x.dx, _, _, rfl, h3.o, T.cl_Grouping, T.n_Grouping_touched, gF_touched x, ?_⟩
      refine i_tyL (SqL.of t1) ?_
      walk_at "run"
      intro d H4 f4 s4 e4
      walk_at "run"
      have h4 := h3.same s4
      refine i_append (s4 _ _ t1) (by rw [List.length_map, t4.1]; omega) ?_
      have hdn : d ∉ ds := fun z => by
        obtain ⟨i, hi, rfl⟩ := List.mem_iff_getElem.mp z
        obtain ⟨kvs, e, _⟩ := t4.2 i _ _ (List.getElem?_eq_getElem hi) (List.getElem?_eq_getElem (by rw [← t4.1]; exact hi))
        rw [f4] at e
        cases e
      have h5 := h4.updT (ds' := ds ++ [d]) (ts' := ts ++ [[]]) (nd_snoc t2 hdn) (fun b hb => by
        rcases List.mem_append.mp hb with hb | hb
        · exact t3 b hb
        · rw [List.mem_singleton.mp hb]; exact h3.b.free f4) ((t4.mono fun d y hy => hy.same s4).snoc ⟨[], e4, rfl⟩)
      rw [List.map_append] at h5
      exact q _ h5
def sp_touch (C : Addr) : Sp := fun vs H Q _ => ∃ (H0 : Hp) (x : GA) (nw ns : Nat → List Nat) (n : Nat) (gs : List Nat) (ms ts : List (List Nat)) (qs : List Nat) (a : Nat), vs = [.ref x.p, .int (a : Nat)] ∧ GrAt C H0 H x nw ns n gs ms ts qs ∧ a < n ∧ gs.length = n ∧ n ≤ 1000 ∧ ms.length ≤ 1000 ∧ (∀ s ∈ ns a, s < n) ∧ (∀ (b c : Nat), gs[b]? = some c → c < ms.length) ∧ TSt gs ms.length ts qs ∧
  ∀ H' ts' qs', GrAt C H0 H' x nw ns n gs ms ts' qs' → TSt gs ms.length ts' qs' → (∀ b, Tt gs ts' b ↔ Tt gs ts b ∨ b ∈ ns a) → Q .non H'
theorem ok_Grouping_touch_sources (T : Txt K mg t) : FnOk P w K mg base CX0 1 t.a_Grouping_touch_sources t.fd_Grouping_touch_sources ["self", "thing"] (sp_touch t.c_Grouping) := by
  refine T.F_Grouping_touch_sources.ok sc_Grouping_touch_sources (fun vs H Q E h => ?_) (fun cdv A outer s H vs Q E hr h => ?_)
  · obtain ⟨H0, x, nw, ns, n, gs, ms, ts, qs, a, rfl, _⟩ := h
    rfl
  · obtain ⟨H0, x, nw, ns, n, gs, ms, ts, qs, a, rfl, hG, ha, gl, hn, hm, hs, hk, hT, q⟩ := h
    refine ⟨_, (@pss_one _ _ _ (@ps_for _ _ _ _ _ _ _ _ PassesOwn.never rfl (kpi_list K (@pe_ix _ _ _ _ _ _ _ (kix_list K) (kpe_fld K (pv 0) rfl) (pv 1) (fun _ _ => rfl))) (pg_name (i := 2) sc_Grouping_touch_sources.nd rfl (by first | exact Or.inl rfl | exact Or.inr rfl)) (@pss_cons _ _ _ _ _ (@ps_set _ _ 3 _ _ _ _ sc_Grouping_touch_sources.nd rfl (by first | exact Or.inl rfl | exact Or.inr rfl) (@pe_ix _ _ _ _ _ _ _ (kix_list K) (kpe_fld K (pv 0) rfl) (pv 2) (fun _ _ => rfl)) (by rfl) (by first | exact Or.inl rfl | exact Or.inr rfl))
        (@pss_consC _ _ _ _ _ (@ps_if _ _ _ _ _ _ _ _ (@pt_cmpR _ _ _ _ _ _ _ _ op_eq (@pe_callB _ _ _ _ _ _ _ _ _ cl_lenD (by rfl) T.z_len bb_len (@pa_cons _ _ _ _ _ (@pe_ix _ _ _ _ _ _ _ (kix_list K) (kpe_fld K (pv 0) rfl) (pv 3) (fun _ _ => rfl)) (@pa_nil _) (by rfl)) (by decide) (by decide) (by rfl) (by rfl)) (@pe_int _ _ _ _) (nomark _)) (@pss_one _ _ _ (@ps_expr _ _ _ _ (@kpe_bm _ K _ _ _ _ _ _ _ _ _ _ _ PySem.F.plainAttrs_list PySem.F.slot_list_append PySem.F.type_list_append mt_append (kpe_fld K (pv 0) rfl) (@pa_cons _ _ _ _ _ (pv 3) (@pa_nil _) (by rfl)) (by rfl) (by rfl) (by rfl) (by rfl) (by rfl) (by rfl)) (by rfl))) (@pss_nil _))
        (@pss_one _ _ _ (ps_dput (by exact hu_of hr) (@pe_ix _ _ _ _ _ _ _ (kix_list K) (kpe_fld K (pv 0) rfl) (pv 3) (fun _ _ => rfl)) (pv 2) (@pe_bl _ _ _ _) rfl)))) (by intro _; rfl))), ?_⟩
    have sl : (1000000 : Nat) ≤ sizeLine := le_line (Nat.le_refl _)
    obtain ⟨us, s1, s2⟩ := hG.ss
    obtain ⟨pa, s3, s4⟩ := s2.2 a ha
    walk_at "go"
    refine ⟨x.p, _, x.dx, _, _, rfl, hG.o, T.cl_Grouping, T.n_Grouping_sources, gF_sources x, ?_⟩
    walk_at "run"
    refine i_ixL (SqL.of (hds_of s1).1) (atI_nat s3) ?_
    walk_at "run"
    refine ⟨⟨_, SqL.of (hds_of s4).1⟩, for_list (K := K) (a := pa) (xs := natsV (ns a)) (fun i σ H' => i ≤ (ns a).length ∧ (∃ ts' qs', GrAt t.c_Grouping H0 H' x nw ns n gs ms ts' qs' ∧ TSt gs ms.length ts' qs' ∧ ∀ b, Tt gs ts' b ↔ Tt gs ts b ∨ b ∈ (ns a).take i) ∧ hds x.own H' pa = some (.lst (natsV (ns a))) ∧ ∃ y z, σ = [some (.ref x.p), some (.int (a : Nat)), y, z]) ⟨Nat.zero_le _, ⟨ts, qs, hG, hT, by simp⟩, s4, _, _, rfl⟩ (fun i σ H' _ ⟨_, _, h', _⟩ => SqL.of (hds_of h').1) ?_ ?_⟩
    · rintro i v σ H2 hv ⟨hi, ⟨ts2, qs2, h2, hT2, hb2⟩, hl2, y, z, rfl⟩
      obtain ⟨k, hk', rfl⟩ := natsV_get hv
      have hkn := hs k (List.mem_of_getElem? hk')
      obtain ⟨c, hc⟩ : ∃ c, gs[k]? = some c := ⟨_, List.getElem?_eq_getElem (by omega)⟩
      have hcm := hk k c hc
      obtain ⟨xs, hx⟩ : ∃ xs, ts2[c]? = some xs := ⟨_, List.getElem?_eq_getElem (by rw [hT2.tl]; exact hcm)⟩
      have egk := getD_of hc
      have etc : ts2.getD c [] = xs := by simp [List.getD, hx]
      have hxl : xs.length ≤ 1000 := by
        have := pigeon n xs (hT2.tn c xs hx) fun b hb => by
          have := hT2.tg c xs hx b hb
          rw [← gl]
          exact (List.getElem?_eq_some_iff.mp this).1
        omega
      have hql : qs2.length ≤ ms.length := pigeon _ _ hT2.qn hT2.ql
      obtain ⟨n1, n2⟩ := hT2.touch hc hcm
      walk_at "run"
      refine ⟨x.p, _, x.dx, _, _, rfl, h2.o, T.cl_Grouping, T.n_Grouping_groups, gF_groups x, ?_⟩
      walk_at "run"
      refine i_ixL (SqL.of h2.gg) (atI_nats (by omega)) ?_
      rw [egk]
      walk_at "run"
      refine i_seqC (fun σ' H' => GrAt t.c_Grouping H0 H' x nw ns n gs ms ts2 (touQ gs ts2 qs2 k) ∧ hds x.own H' pa = some (.lst (natsV (ns a))) ∧ σ' = [some (.ref x.p), some (.int (a : Nat)), some (.int (k : Nat)), some (.int (c : Nat))]) ?_ ?_
      · obtain ⟨d, kvs, vs, u1, u2, u3, u4, _⟩ := h2.putT (a := k) (v := .bl true) hx
        walk_at "run"
        refine ⟨x.p, _, x.dx, _, _, rfl, h2.o, T.cl_Grouping, T.n_Grouping_touched, gF_touched x, ?_⟩
        walk_at "run"
        refine i_ixL (SqL.of u1) (atI_nat u2) ?_
        walk_at "run"
        refine ⟨d, kvs, rfl, u3, ?_⟩
        rw [u4]
        walk_at "run"
        by_cases hx0 : xs = []
        · refine i_itDT (by rw [hx0]; rfl) ?_
          walk_at "run"
          refine ⟨x.p, _, x.dx, _, _, rfl, h2.o, T.cl_Grouping, T.n_Grouping_waiting, gF_waiting x, ?_⟩
          refine i_tyL (SqL.of h2.qq) ?_
          walk_at "run"
          refine i_append h2.qq (by rw [natsV_len]; omega) ?_
          rw [natsV_snoc]
          refine ⟨?_, (KeepL.own x.mq).hd hl2, rfl⟩
          unfold touQ
          rw [egk, etc, if_pos hx0]
          exact h2.updQ
        · refine i_itDF (fun z => hx0 (List.length_eq_zero_iff.mp (by omega))) ?_
          walk_at "run"
          refine ⟨?_, hl2, rfl⟩
          unfold touQ
          rw [egk, etc, if_neg hx0]
          exact h2
      · rintro σ3 H3 ⟨h3, hl3, rfl⟩
        obtain ⟨d, kvs, vs, u1, u2, u3, u4, u5⟩ := h3.putT (a := k) (v := .bl true) hx
        walk_at "run"
        refine ⟨x.p, _, x.dx, _, _, rfl, h3.o, T.cl_Grouping, T.n_Grouping_touched, gF_touched x, ?_⟩
        walk_at "run"
        refine i_ixL (SqL.of u1) (atI_nat u2) ?_
        walk_at "run"
        refine ⟨d, _, rfl, DPut.k (k := Sum.inl ((k : Nat) : Int)) u3 (by omega), ?_⟩
        walk_at "run"
        have e1 : touT gs ts2 k = ts2.set c (addN xs k) := by
          unfold touT
          rw [egk, etc]
        rw [← e1] at u5
        refine ⟨(List.getElem?_eq_some_iff.mp hk').1, ⟨_, _, u5, n1, fun b => ?_⟩, (KeepL.dic u3).hd hl3, _, _, rfl⟩
        rw [n2, hb2, List.take_add_one, hk', Option.toList_some, List.mem_append, List.mem_singleton, or_assoc]
    · rintro σ H2 ⟨hi, ⟨ts2, qs2, h2, hT2, hb2⟩, hl2, y, z, rfl⟩
      rw [natsV_len, List.take_length] at hb2
      exact q H2 ts2 qs2 h2 hT2 hb2
def sp_parts (K : PySem.W.Frag) (C : Addr) : Sp := fun vs H Q _ => ∃ (H0 : Hp) (x : GA) (nw ns : Nat → List Nat) (n : Nat) (gs : List Nat) (ms ts : List (List Nat)) (qs : List Nat) (c : Nat), vs = [.ref x.p, .int (c : Nat)] ∧ GrAt C H0 H x nw ns n gs ms ts qs ∧ GSt n gs ms ts (qs ++ [c]) ∧ n ≤ 60 ∧ (∀ a, a < n → (nw a).length ≤ 100 ∧ ∀ k ∈ nw a, k < n) ∧
  (∀ a b, gs[a]? = some c → gs[b]? = some c → ¬ Tt gs ts a → ¬ Tt gs ts b → (nw a).map (fun k => gs.getD k 0) = (nw b).map fun k => gs.getD k 0) ∧
  ∀ (l : Addr) (ls : List (Addr × List Nat)) H', H l = none → (∀ y ∈ ls, H y.1 = none) → H' l = some (.lst (ls.map fun y => .ref y.1)) → (∀ y ∈ ls, H' y.1 = some (.lst (natsV y.2))) → PartsOf gs (fun a => (nw a).map fun k => gs.getD k 0) c (ls.map (·.2)) → GrAt C H0 H' x nw ns n gs ms (ts.set c []) qs → Q (.ref l) H'
theorem ok_Grouping_parts_of (T : Txt K mg t) : FnOk P w K mg base CX0 2 t.a_Grouping_parts_of t.fd_Grouping_parts_of ["self", "group"] (sp_parts K t.c_Grouping) := by
  have G_Grouping_led_groups := ok_Grouping_led_groups (P := P) (w := w) (base := base) T
  refine T.F_Grouping_parts_of.ok sc_Grouping_parts_of (fun vs H Q E h => ?_) (fun cdv A outer s H vs Q E hr h => ?_)
  · obtain ⟨H0, x, nw, ns, n, gs, ms, ts, qs, c, rfl, _⟩ := h
    rfl
  · obtain ⟨H0, x, nw, ns, n, gs, ms, ts, qs, c, rfl, hG, hS, hn, hw, hled, q⟩ := h
    refine ⟨_, (@pss_cons _ _ _ _ _ (@ps_set _ _ 2 _ _ _ _ sc_Grouping_parts_of.nd rfl (by first | exact Or.inl rfl | exact Or.inr rfl) (@pe_ix _ _ _ _ _ _ _ (kix_list K) (kpe_fld K (pv 0) rfl) (pv 1) (fun _ _ => rfl)) (by rfl) (by first | exact Or.inl rfl | exact Or.inr rfl))
      (@pss_cons _ _ _ _ _ (@ps_asg _ _ _ _ _ _ (@pe_dnewN _ _) (pg_sub (kpe_fld K (pv 0) rfl) (pv 1) set_list) (by rfl) (by rfl) (by rfl))
      (@pss_cons _ _ _ _ _ (ps_lc (i := 3) (Nt := ["thing"]) (Nf := ["touched"]) (caps := [2]) rfl (comp_ok (sc := defScope s_Grouping_parts_of) rfl rfl (by decide +kernel) (by decide +kernel) (by decide +kernel) rfl (by decide +kernel)) (kpi_list K (@pe_ix _ _ _ _ _ _ _ (kix_list K) (kpe_fld K (pv 0) rfl) (pv 1) (fun _ _ => rfl))) (fun _ _ _ _ _ => (pg_name (i := 0) (show (["thing", "touched"] : List Str).Nodup by decide +kernel) rfl (by first | exact Or.inl rfl | exact Or.inr rfl))) (fun _ _ _ _ _ => (@pts_one _ _ _ (pt_cmp (pc_dnotin (by exact hu_of hr) (pv 0) (pv 1))))) (fun _ _ _ _ _ => (pv 0)) sc_Grouping_parts_of.nd rfl (by first | exact Or.inl rfl | exact Or.inr rfl) rfl)
      (@pss_cons _ _ _ _ _ (@ps_set _ _ 4 _ _ _ _ sc_Grouping_parts_of.nd rfl (by first | exact Or.inl rfl | exact Or.inr rfl) (pe_tnew w.params) (by rfl) (by first | exact Or.inl rfl | exact Or.inr rfl))
      (@pss_cons _ _ _ _ _ (@ps_for _ _ _ _ _ _ _ _ PassesOwn.never rfl (pi_dk (pv 2)) (pg_name (i := 5) sc_Grouping_parts_of.nd rfl (by first | exact Or.inl rfl | exact Or.inr rfl)) (@pss_one _ _ _ (@ps_expr _ _ _ _ (@kpe_bm _ K _ _ _ _ _ _ _ _ _ _ _ PySem.F.plainAttrs_list PySem.F.slot_list_append PySem.F.type_list_append mt_append (pe_tsetd (P := w.params) rfl (by exact hr.units) (pv 4) (pe_meth (pv 0) T.cl_Grouping T.M_Grouping_led_groups G_Grouping_led_groups (hr.mono (by omega)) T.b_Grouping_led_groups .nil pass0 (@pa_cons _ _ _ _ _ (pv 5) (@pa_nil _) (by rfl))) (@pe_lstN _ _ _ _ (@pa_nil _)) ⟨by rfl, by rfl, by rfl, by rfl⟩) (@pa_cons _ _ _ _ _ (pv 5) (@pa_nil _) (by rfl)) (by rfl) (by rfl) (by rfl) (by rfl) (by rfl) (by rfl)) (by rfl))) (by intro _; rfl))
      (@pss_consC _ _ _ _ _ (@ps_if _ _ _ _ _ _ _ _ (@pt_cmpR _ _ _ _ _ _ _ _ op_gt (@pe_callB _ _ _ _ _ _ _ _ _ (kcl_len K) (by rfl) T.z_len bb_len (@pa_cons _ _ _ _ _ (pv 3) (@pa_nil _) (by rfl)) (by decide) (by decide) (by rfl) (by rfl)) (@pe_int _ _ _ _) (nomark _)) (@pss_one _ _ _ (@ps_expr _ _ _ _ (@kpe_bm _ K _ _ _ _ _ _ _ _ _ _ _ PySem.F.plainAttrs_list PySem.F.slot_list_extend PySem.F.type_list_extend mt_extend (pe_tsetd (P := w.params) rfl (by exact hr.units) (pv 4) (pe_meth (pv 0) T.cl_Grouping T.M_Grouping_led_groups G_Grouping_led_groups (hr.mono (by omega)) T.b_Grouping_led_groups .nil pass0 (@pa_cons _ _ _ _ _ (@pe_ix _ _ _ _ _ _ _ (kix_list K) (pv 3) (@pe_int _ _ _ _) (fun _ _ => rfl)) (@pa_nil _) (by rfl))) (@pe_lstN _ _ _ _ (@pa_nil _)) ⟨by rfl, by rfl, by rfl, by rfl⟩) (@pa_cons _ _ _ _ _ (pv 3) (@pa_nil _) (by rfl)) (by rfl) (by rfl) (by rfl) (by rfl) (by rfl) (by rfl)) (by rfl))) (@pss_nil _))
      (@pss_one _ _ _ (@ps_ret _ _ _ _ (@pe_callTy _ _ _ _ _ _ _ _ _ (cl_listV (P := w.params) rfl rfl) (by rfl) T.z_list bb_list (@pa_cons _ _ _ _ _ (pe_tvals (P := w.params) rfl (pv 4)) (@pa_nil _) (by rfl)) (by decide) (by decide) (by rfl) (by rfl)))))))))), ?_⟩
    have sl : (1000000 : Nat) ≤ sizeLine := le_line (Nat.le_refl _)
    obtain ⟨led, hled0⟩ : ∃ led : Nat → List Nat, led = fun a => (nw a).map fun k => gs.getD k 0 := ⟨_, rfl⟩
    rw [← hled0] at q
    have gl := hS.gl
    have hck : c < ms.length := hS.ts.ql c (by simp)
    obtain ⟨xs, hx⟩ : ∃ xs, ts[c]? = some xs := ⟨_, List.getElem?_eq_getElem (by rw [hS.ts.tl]; exact hck)⟩
    obtain ⟨M, hM⟩ : ∃ M, ms[c]? = some M := ⟨_, List.getElem?_eq_getElem hck⟩
    obtain ⟨Mn, M0, Mm⟩ := hS.me c M hM
    have lt_of : ∀ a, gs[a]? = some c → a < n := fun a e => by rw [← gl]; exact (List.getElem?_eq_some_iff.mp e).1
    have xn := hS.ts.tn c xs hx
    have xg := hS.ts.tg c xs hx
    have xl : xs.length ≤ n := pigeon n xs xn fun a ha => lt_of a (xg a ha)
    have Ml : M.length ≤ n := pigeon n M Mn fun a ha => lt_of a ((Mm a).mp ha)
    obtain ⟨ds, t1, t2, t3, t4⟩ := hG.tt
    obtain ⟨d, hd, hdT⟩ := t4.get hx
    have dm := List.mem_of_getElem? hd
    have dsl : ds.length = ms.length := by rw [t4.1, hS.ts.tl]
    walk_at "go"
    refine ⟨x.p, _, x.dx, _, _, rfl, hG.o, T.cl_Grouping, T.n_Grouping_touched, gF_touched x, ?_⟩
    walk_at "run"
    refine i_ixL (SqL.of t1) (atI_nat (by rw [List.getElem?_map, hd]; rfl)) ?_
    walk_at "run"
    intro d1 H1 f1 s1 e1
    walk_at "run"
    have hG1 := hG.same s1
    refine ⟨x.p, _, x.dx, _, _, rfl, hG1.o, T.cl_Grouping, T.n_Grouping_touched, gF_touched x, ?_⟩
    walk_at "run"
    refine i_setL (s1 _ _ t1) (j := c) (ixN_nat (by rw [List.length_map]; omega)) ?_
    have hd1n : d1 ∉ ds := fun z => by
      obtain ⟨i, hi, rfl⟩ := List.mem_iff_getElem.mp z
      obtain ⟨kvs, e, _⟩ := t4.2 i _ _ (List.getElem?_eq_getElem hi) (List.getElem?_eq_getElem (by rw [← t4.1]; exact hi))
      rw [f1] at e
      cases e
    have hG2 := hG1.updT (ds' := ds.set c d1) (ts' := ts.set c []) (nd_set t2 hd1n) (fun b hb => by
      rcases List.mem_or_eq_of_mem_set hb with hb | rfl
      · exact t3 b hb
      · exact hG.b.free f1) (each_set (t4.mono fun d y hy => hy.same s1) ⟨[], e1, rfl⟩)
    have e2 : (ds.map V.ref).set c (.ref d1) = (ds.set c d1).map V.ref := by rw [List.map_set]
    rw [e2]
    have hdT2 : TouAt (upd H1 x.t (.lst ((ds.set c d1).map .ref))) d xs := (hdT.same s1).lst (s1 _ _ t1)
    have et2 : upd H1 x.t (.lst ((ds.set c d1).map .ref)) x.t = some (.lst ((ds.set c d1).map .ref)) := upd_same
    have hfree2 : ∀ {b : Addr}, upd H1 x.t (.lst ((ds.set c d1).map .ref)) b = none → H b = none := fun {b} e => s1.free (by
      by_cases z : b = x.t
      · rw [z, upd_same] at e; cases e
      · rw [upd_ne z] at e; exact e)
    generalize upd H1 x.t (.lst ((ds.set c d1).map .ref)) = H2 at hG2 hdT2 et2 hfree2
    have hdn : V.ref d ∉ (ds.set c d1).map V.ref := fun z => by
      obtain ⟨b, hb, e⟩ := List.mem_map.mp z
      cases e
      obtain ⟨i, hi, e⟩ := List.mem_iff_getElem.mp hb
      rw [List.length_set] at hi
      rw [List.getElem_set] at e
      by_cases z : c = i
      · rw [if_pos z] at e
        exact hd1n (e ▸ dm)
      · rw [if_neg z] at e
        obtain ⟨l2, g2⟩ := List.getElem?_eq_some_iff.mp hd
        have pw := List.pairwise_iff_getElem.mp t2
        rcases Nat.lt_or_gt_of_ne z with q | q
        · exact pw c i l2 hi q (g2.trans e.symm)
        · exact pw i c hi l2 q (e.trans g2.symm)
    obtain ⟨us, m1, m2⟩ := hG2.mm
    obtain ⟨v, hv, pm, rfl, m3⟩ := m2.get hM
    obtain ⟨kvs, k1, k2, k3⟩ := hdT2.len
    walk_at "run"
    refine ⟨x.p, _, x.dx, _, _, rfl, hG2.o, T.cl_Grouping, T.n_Grouping_members, gF_members x, ?_⟩
    walk_at "run"
    refine i_ixL (SqL.of m1) (atI_nat hv) ?_
    refine ⟨_, rfl, ⟨_, SqL.of (hds_of m3).1⟩, cc_list (xs := natsV M) (by rw [natsV_len]; omega) (fun i acc H' => H' = H2 ∧ i ≤ M.length ∧ acc = natsV ((M.take i).filter fun a => decide (a ∉ xs))) ⟨rfl, Nat.zero_le _, rfl⟩ (fun i acc H' ⟨e, _, ea⟩ => ⟨by
      rw [ea, natsV_len]
      have := List.length_filter_le (fun a => decide (a ∉ xs)) (M.take i)
      simp at this ⊢
      omega, e ▸ SqL.of (hds_of m3).1⟩) ?_ ?_⟩
    · rintro i v acc H3 hv ⟨rfl, hi, rfl⟩
      obtain ⟨a, ha, rfl⟩ := natsV_get hv
      have hi' := (List.getElem?_eq_some_iff.mp ha).1
      walk_at "run"
      refine ⟨d, _, rfl, DGet.k (k := Sum.inl ((a : Nat) : Int)) k1, ?_⟩
      rw [tou_val k3]
      rw [List.take_add_one, ha, Option.toList_some, List.filter_append]
      by_cases hax : a ∈ xs
      · refine ⟨false, by simp [hax], ?_⟩
        refine i_itF ?_
        exact ⟨rfl, hi', by simp [hax]⟩
      · refine ⟨true, by simp [hax], ?_⟩
        refine i_itT ?_
        walk_at "run"
        refine ⟨rfl, hi', ?_⟩
        rw [natsV_snoc]
        simp [hax]
    · rintro acc H3 ⟨rfl, _, rfl⟩
      rw [natsV_len, List.take_length]
      obtain ⟨R, hR⟩ : ∃ R, R = M.filter fun a => decide (a ∉ xs) := ⟨_, rfl⟩
      rw [← hR]
      have Rm : ∀ a, a ∈ R ↔ a ∈ M ∧ a ∉ xs := fun a => by rw [hR, List.mem_filter, decide_eq_true_iff]
      have Rn : R.Nodup := by rw [hR]; exact List.Pairwise.filter _ Mn
      have Rl : R.length ≤ n := pigeon n R Rn fun a ha => lt_of a ((Mm a).mp ((Rm a).mp ha).1)
      clear hR
      intro pr H4 f4 s4 e4
      walk_at "run"
      intro pd o fd hD
      walk_at "run"
      have k4 := s4 _ _ k1
      have hdp : pd ≠ d := (ne_of_none k4 fd).symm
      refine ⟨d, kvs, rfl, by rw [upd_ne hdp.symm]; exact k4, fun o2 H5 hH5 => ?_⟩
      have hGB := (hG2.same s4).frz (o := .ext (frkP d o2)) k4 (t3 d dm) (s4 _ _ et2) hdn
      have sB : Same (upd H4 d (.ext (frkP d o2))) H5 := fun b u e => by
        rw [hH5]
        by_cases z : b = d
        · rw [z, upd_same] at e ⊢; exact e
        · rw [upd_ne z] at e ⊢
          rw [upd_ne (ne_of_none e fd)]
          exact e
      have bpd : upd H4 d (.ext (frkP d o2)) pd = none := by rw [upd_ne hdp]; exact fd
      have bpr : upd H4 d (.ext (frkP d o2)) pr = some (.lst (natsV R)) := by rw [upd_ne (ne_of e4 k4 (fun z => nomatch z))]; exact e4
      have bd : upd H4 d (.ext (frkP d o2)) d = some (.ext (frkP d o2)) := upd_same
      have bfree : ∀ {b : Addr}, upd H4 d (.ext (frkP d o2)) b = none → H b = none := fun {b} e => hfree2 (s4.free (by
        by_cases z : b = d
        · rw [z, upd_same] at e; cases e
        · rw [upd_ne z] at e; exact e))
      have hD5 : DtAt w.params H5 pd (csD []) := by
        rw [hH5]
        exact hD.mono (tups_updD (by rw [upd_ne hdp.symm]; exact k4)) (upd_ne hdp)
      generalize upd H4 d (.ext (frkP d o2)) = B at hGB sB bpd bpr bd bfree
      clear hH5 hD
      have key : ∀ a, a < n → (nw a).map (fun k => gs.getD k 0) = led a := fun a _ => by rw [hled0]
      obtain ⟨Pv, hPv⟩ : ∃ Pv : Nat → St → Hp → Prop, Pv = (fun i σ H' => i ≤ xs.length ∧ Same B H' ∧ (∃ cs, DtAt w.params H' pd (csD cs) ∧ CH B H' cs ∧ CI led cs (xs.take i)) ∧ ∃ y, σ = [some (.ref x.p), some (.int (c : Nat)), some (.ref d), some (.ref pr), some (.ref pd), y]) := ⟨_, rfl⟩
      refine for_dk Pv (by rw [hPv]; exact ⟨Nat.zero_le _, sB, ⟨[], hD5, fun y hy => absurd hy (by simp), by simpa using CI.nil⟩, _, rfl⟩) (fun i σ H' _ h' => by rw [hPv] at h'; exact h'.2.1 _ _ bd) ?_ ?_
      · intro i k σ H6 hk hI
        rw [hPv] at hI
        obtain ⟨hi, s6, ⟨cs, hD6, hC6, hI6⟩, y, rfl⟩ := hI
        rw [k3, List.getElem?_map] at hk
        obtain ⟨a, ha, rfl⟩ := Option.map_eq_some_iff.mp hk
        have hi' := (List.getElem?_eq_some_iff.mp ha).1
        have han := lt_of a (xg a (List.mem_of_getElem? ha))
        have hG6 := hGB.same s6
        have hfew := hI6.few
        have htl : (xs.take i).length ≤ 60 := by simp; omega
        have htk : xs.take (i + 1) = xs.take i ++ [a] := by rw [List.take_add_one, ha]; rfl
        show gName 5 (V.int ((a : Nat) : Int)) _ _ _
        walk_at "run"
        refine ⟨pd, _, rfl, hD6, ?_⟩
        walk_at "run"
        refine ⟨x.p, x.dx, _, rfl, hG6.o, gF_no x (by decide +kernel), ?_⟩
        walk_at "run"
        refine ⟨H0, x, nw, ns, n, gs, ms, _, qs, a, rfl, hG6, han, (hw a han).1, (fun k hk => by rw [gl]; exact (hw a han).2 k hk), fun l7 H7 f7 s7 e7 => ?_⟩
        rw [key a han] at e7
        walk_at "run"
        intro pn H8 f8 s8 e8
        have s68 := s7.trans s8
        have hD8 := dt_same hD6 s68
        have hC8 := hC6.same s68
        have sB8 := s6.trans s68
        obtain ⟨φ8, hpd8, _⟩ := hD8.ext'
        refine ⟨_, keyT (led a), hD8, keyT_at (s8 _ _ e7), by unfold csD; rw [List.length_map]; omega, fun v hv => ?_, fun hv o' hD' => ?_⟩
        · rcases csD_val (l := led a) (cs := cs) with ⟨z, _⟩ | ⟨j, y, hy, hyk, hyv⟩
          · rw [z] at hv; cases hv
          · rw [hyv] at hv
            cases hv
            obtain ⟨b1, b2⟩ := hC8 y (List.mem_of_getElem? hy)
            have hyl := hfew.2 y (List.mem_of_getElem? hy)
            refine i_tyL (SqL.of b2) ?_
            walk_at "run"
            refine i_append b2 (by rw [natsV_len]; omega) ?_
            rw [natsV_snoc, hPv]
            refine ⟨hi', sB8.updNew b1, ⟨_, ?_, hC8.old hI6.an hy, ?_⟩, _, rfl⟩
            · rw [csD_set hy]
              exact hD8.mono (Tups.upd b2) (upd_ne (ne_of hpd8 b2 (fun z => nomatch z)))
            · rw [htk]
              exact hI6.old hy fun b hb => by rw [List.mem_singleton.mp hb, hyk]
        · have hnk : led a ∉ cs.map (·.1) := by
            rcases csD_val (l := led a) (cs := cs) with ⟨_, z⟩ | ⟨j, y, hy, hyk, hyv⟩
            · exact z
            · rw [hyv] at hv; cases hv
          have npd : pn ≠ pd := (ne_of_none ((s7 _ _ (hD6.ext'.choose_spec.1))) f8).symm
          have e9 : upd H8 pd o' pn = some (.lst (natsV [])) := by rw [upd_ne npd]; exact e8
          refine i_tyL (SqL.of e9) ?_
          walk_at "run"
          refine i_append e9 (by rw [natsV_len]; simp; omega) ?_
          rw [natsV_snoc, hPv]
          have bpn : B pn = none := (s6.trans s7).free f8
          refine ⟨hi', (sB8.updNew bpd).updNew bpn, ⟨cs ++ [(led a, pn, [a])], ?_, fun y hy => ?_, ?_⟩, _, rfl⟩
          · have := hD'.mono (Tups.upd (o := .lst (natsV ([] ++ [a]))) e9) (upd_ne npd.symm)
            unfold csD at this ⊢
            rw [List.map_append]
            exact this
          · rcases List.mem_append.mp hy with hy | hy
            · obtain ⟨b1, b2⟩ := hC8 y hy
              have z1 : y.2.1 ≠ pn := ne_of_none ((hC6.same s7) y hy).2 f8
              refine ⟨b1, ?_⟩
              rw [upd_ne z1, upd_ne (ne_of b2 hpd8 (fun z => nomatch z))]
              exact b2
            · rw [List.mem_singleton.mp hy]
              exact ⟨bpn, upd_same⟩
          · rw [htk]
            exact hI6.new hnk ((hC6.same s7).no f8) (by simp) fun b hb => by rw [List.mem_singleton.mp hb]
      · intro σ H6 hI
        rw [hPv] at hI
        obtain ⟨_, s6, ⟨cs, hD6, hC6, hI6⟩, y, rfl⟩ := hI
        rw [show (kvs.map (·.1)).length = xs.length by rw [List.length_map]; exact k2, List.take_length] at hI6
        have hG6 := hGB.same s6
        have hfew := hI6.few
        have unt : ∀ b ∈ R, gs[b]? = some c ∧ ¬ Tt gs ts b := fun b hb => by
          obtain ⟨z1, z2⟩ := (Rm b).mp hb
          have hg := (Mm b).mp z1
          refine ⟨hg, fun ⟨c', xs', g1, g2, g3⟩ => z2 ?_⟩
          rw [hg] at g1
          cases g1
          rw [hx] at g2
          cases g2
          exact g3
        walk_at "run"
        refine i_seqC (fun σ' H' => Same B H' ∧ (∃ cs, DtAt w.params H' pd (csD cs) ∧ CH B H' cs ∧ CI led cs (xs ++ R)) ∧ ∃ y, σ' = [some (.ref x.p), some (.int (c : Nat)), some (.ref d), some (.ref pr), some (.ref pd), y]) ?_ ?_
        · walk_at "run"
          refine i_lenL (SqL.of (s6 _ _ bpr)) ?_
          rw [natsV_len]
          walk_at "run"
          refine ite2 (fun hc => ?_) (fun hc => ?_)
          · have hR0 : 0 < R.length := by have := of_decide_eq_true hc; omega
            obtain ⟨r0, hr0⟩ : ∃ r0, R[0]? = some r0 := ⟨_, List.getElem?_eq_getElem hR0⟩
            have hr0m := List.mem_of_getElem? hr0
            have han := lt_of r0 (unt r0 hr0m).1
            walk_at "run"
            refine ⟨pd, _, rfl, hD6, ?_⟩
            walk_at "run"
            refine ⟨x.p, x.dx, _, rfl, hG6.o, gF_no x (by decide +kernel), ?_⟩
            walk_at "run"
            refine i_ixL (SqL.of (s6 _ _ bpr)) (atI_nat (j := 0) (by unfold natsV; rw [List.getElem?_map, hr0]; rfl)) ?_
            walk_at "run"
            refine ⟨H0, x, nw, ns, n, gs, ms, _, qs, r0, rfl, hG6, han, (hw r0 han).1, (fun k hk => by rw [gl]; exact (hw r0 han).2 k hk), fun l7 H7 f7 s7 e7 => ?_⟩
            rw [key r0 han] at e7
            walk_at "run"
            intro pn H8 f8 s8 e8
            have s68 := s7.trans s8
            have hD8 := dt_same hD6 s68
            have hC8 := hC6.same s68
            have sB8 := s6.trans s68
            have er8 := sB8 _ _ bpr
            have allR : ∀ b ∈ R, led b = led r0 := fun b hb => by
              have := hled b r0 (unt b hb).1 (unt r0 hr0m).1 (unt b hb).2 (unt r0 hr0m).2
              rw [hled0]
              exact this
            obtain ⟨φ8, hpd8, _⟩ := hD8.ext'
            refine ⟨_, keyT (led r0), hD8, keyT_at (s8 _ _ e7), by unfold csD; rw [List.length_map]; omega, fun v hv => ?_, fun hv o' hD' => ?_⟩
            · rcases csD_val (l := led r0) (cs := cs) with ⟨z, _⟩ | ⟨j, y, hy, hyk, hyv⟩
              · rw [z] at hv; cases hv
              · rw [hyv] at hv
                cases hv
                obtain ⟨b1, b2⟩ := hC8 y (List.mem_of_getElem? hy)
                have hyl := hfew.2 y (List.mem_of_getElem? hy)
                refine i_tyL (SqL.of b2) ?_
                walk_at "run"
                refine i_extend b2 er8 (by rw [natsV_len, natsV_len]; omega) ?_
                rw [show natsV y.2.2 ++ natsV R = natsV (y.2.2 ++ R) by unfold natsV; rw [List.map_append]]
                refine ⟨sB8.updNew b1, ⟨_, ?_, hC8.old hI6.an hy, hI6.old hy fun b hb => by rw [allR b hb, hyk]⟩, _, rfl⟩
                rw [csD_set hy]
                exact hD8.mono (Tups.upd b2) (upd_ne (ne_of hpd8 b2 (fun z => nomatch z)))
            · have hnk : led r0 ∉ cs.map (·.1) := by
                rcases csD_val (l := led r0) (cs := cs) with ⟨_, z⟩ | ⟨j, y, hy, hyk, hyv⟩
                · exact z
                · rw [hyv] at hv; cases hv
              have npd : pn ≠ pd := (ne_of_none ((s7 _ _ (hD6.ext'.choose_spec.1))) f8).symm
              have e9 : upd H8 pd o' pn = some (.lst (natsV [])) := by rw [upd_ne npd]; exact e8
              have er9 : upd H8 pd o' pr = some (.lst (natsV R)) := by rw [upd_ne (ne_of er8 hpd8 (fun z => nomatch z))]; exact er8
              refine i_tyL (SqL.of e9) ?_
              walk_at "run"
              refine i_extend e9 er9 (by rw [natsV_len, natsV_len]; simp; omega) ?_
              have bpn : B pn = none := (s6.trans s7).free f8
              refine ⟨(sB8.updNew bpd).updNew bpn, ⟨cs ++ [(led r0, pn, R)], ?_, fun y hy => ?_, hI6.new hnk ((hC6.same s7).no f8) (fun z => by rw [z] at hr0m; cases hr0m) allR⟩, _, rfl⟩
              · have := hD'.mono (Tups.upd (o := .lst (natsV [] ++ natsV R)) e9) (upd_ne npd.symm)
                unfold csD at this ⊢
                rw [List.map_append]
                exact this
              · rcases List.mem_append.mp hy with hy | hy
                · obtain ⟨b1, b2⟩ := hC8 y hy
                  have z1 : y.2.1 ≠ pn := ne_of_none ((hC6.same s7) y hy).2 f8
                  refine ⟨b1, ?_⟩
                  rw [upd_ne z1, upd_ne (ne_of b2 hpd8 (fun z => nomatch z))]
                  exact b2
                · rw [List.mem_singleton.mp hy]
                  exact ⟨bpn, upd_same⟩
          · have hR0 : R = [] := List.length_eq_zero_iff.mp (by
              refine Nat.eq_zero_of_not_pos fun z => hc ?_
              exact decide_eq_true (by omega))
            walk_at "run"
            refine ⟨s6, ⟨cs, hD6, hC6, ?_⟩, _, rfl⟩
            rw [hR0, List.append_nil]
            exact hI6
        · rintro σ7 H7 ⟨s7, ⟨cs, hD7, hC7, hI7⟩, y, rfl⟩
          walk_at "run"
          refine ⟨pd, _, rfl, hD7, fun p8 H8 f8 s8 e8 => ?_⟩
          walk_at "run"
          refine ⟨p8, pd, _, rfl, e8, dt_same hD7 s8, ?_⟩
          intro p9 H9 f9 s9 e9
          have s79 := s8.trans s9
          have hzn : (xs ++ R).Nodup := List.nodup_append.mpr ⟨xn, Rn, fun a ha b hb z => ((Rm b).mp hb).2 (z ▸ ha)⟩
          have hzm : ∀ a, a ∈ xs ++ R ↔ gs[a]? = some c := fun a => by
            rw [List.mem_append]
            constructor
            · rintro (z | z)
              · exact xg a z
              · exact (Mm a).mp ((Rm a).mp z).1
            · intro z
              by_cases w : a ∈ xs
              · exact .inl w
              · exact .inr ((Rm a).mpr ⟨(Mm a).mpr z, w⟩)
          refine q p9 (cs.map fun y => (y.2.1, y.2.2)) H9 (bfree ((s7.trans s8).free f9)) (fun y hy => ?_) ?_ (fun y hy => ?_) ?_ ((hGB.same s7).same s79)
          · obtain ⟨z, hz, rfl⟩ := List.mem_map.mp hy
            exact bfree (hC7 z hz).1
          · rw [e9]
            unfold csD
            rw [List.map_map, List.map_map]
            rfl
          · obtain ⟨z, hz, rfl⟩ := List.mem_map.mp hy
            exact s79 _ _ (hC7 z hz).2
          · have := hI7.parts hzn hzm
            rw [List.map_map]
            exact this
def sp_part (K : PySem.W.Frag) (C : Addr) : Sp := fun vs H Q _ => ∃ (α : Type) (lab : Nat → α) (w : Nat → Nat → Nat) (many : Nat) (H0 : Hp) (x : GA) (nw ns : Nat → List Nat) (n : Nat) (gs : List Nat) (ms ts : List (List Nat)) (qs : List Nat) (c : Nat), vs = [.ref x.p, .int (c : Nat)] ∧ GrAt C H0 H x nw ns n gs ms ts qs ∧ GSt n gs ms ts (qs ++ [c]) ∧ Grp lab w n many (fun a => gs.getD a 0) (Tt gs ts) ∧ n ≤ 60 ∧ many ≤ 100 ∧
  (∀ a, a < n → nw a = (List.range many).map (w a)) ∧ (∀ a j, a < n → j < many → w a j < n) ∧ (∀ b, b < n → ∀ a, a ∈ ns b ↔ a < n ∧ b ∈ nw a) ∧
  ∀ H' gs' ms' ts' qs', GrAt C H0 H' x nw ns n gs' ms' ts' qs' → GSt n gs' ms' ts' qs' → Grp lab w n many (fun a => gs'.getD a 0) (Tt gs' ts') → (ms.length < ms'.length ∨ (ms'.length = ms.length ∧ qs' = qs)) → Q .non H'
theorem ok_Grouping_part (T : Txt K mg t) : FnOk P w K mg base CX0 3 t.a_Grouping_part t.fd_Grouping_part ["self", "group"] (sp_part K t.c_Grouping) := by
  have G_Grouping_parts_of := ok_Grouping_parts_of (P := P) (w := w) (base := base) T
  have G_Grouping_regroup := ok_Grouping_regroup (P := P) (w := w) (base := base) T
  have G_Grouping_touch_sources := ok_Grouping_touch_sources (P := P) (w := w) (base := base) T
  refine T.F_Grouping_part.ok sc_Grouping_part (fun vs H Q E h => ?_) (fun cdv A outer s H vs Q E hr h => ?_)
  · obtain ⟨α, lab, ww, many, H0, x, nw, ns, n, gs, ms, ts, qs, c, rfl, _⟩ := h
    rfl
  · obtain ⟨α, lab, ww, many, H0, x, nw, ns, n, gs, ms, ts, qs, c, rfl, hG, hS, hR, hn, hmany, hnw, hww, hns, q⟩ := h
    refine ⟨_, (@pss_cons _ _ _ _ _ (@ps_set _ _ 2 _ _ _ _ sc_Grouping_part.nd rfl (by first | exact Or.inl rfl | exact Or.inr rfl) (pe_sortLen K (by rfl) (by rfl) T.z_sorted bb_sorted (by rfl) T.z_len bb_len (@pa_cons _ _ _ _ _ (pe_meth (pv 0) T.cl_Grouping T.M_Grouping_parts_of G_Grouping_parts_of (hr.mono (by omega)) T.b_Grouping_parts_of .nil pass0 (@pa_cons _ _ _ _ _ (pv 1) (@pa_nil _) (by rfl))) (@pa_nil _) (by rfl)) (by rfl)) (by rfl) (by first | exact Or.inl rfl | exact Or.inr rfl))
      (@pss_cons _ _ _ _ _ (@ps_asg _ _ _ _ _ _ (kpe_bm0 K PySem.F.plainAttrs_list PySem.F.slot_list_pop PySem.F.type_list_pop mt_pop (pv 2)) (pg_sub (kpe_fld K (pv 0) rfl) (pv 1) set_list) (by rfl) (by rfl) (by rfl))
      (@pss_cons _ _ _ _ _ (@ps_for _ _ _ _ _ _ _ _ PassesOwn.never rfl (kpi_list K (pv 2)) (pg_name (i := 3) sc_Grouping_part.nd rfl (by first | exact Or.inl rfl | exact Or.inr rfl)) (@pss_one _ _ _ (@ps_expr _ _ _ _ (pe_meth (pv 0) T.cl_Grouping T.M_Grouping_regroup G_Grouping_regroup (hr.mono (by omega)) T.b_Grouping_regroup .nil pass0 (@pa_cons _ _ _ _ _ (pv 3) (@pa_nil _) (by rfl))) (by rfl))) (by intro _; rfl))
      (@pss_one _ _ _ (@ps_for _ _ _ _ _ _ _ _ PassesOwn.never rfl (kpi_list K (pv 2)) (pg_name (i := 3) sc_Grouping_part.nd rfl (by first | exact Or.inl rfl | exact Or.inr rfl)) (@pss_one _ _ _ (@ps_for _ _ _ _ _ _ _ _ PassesOwn.never rfl (kpi_list K (pv 3)) (pg_name (i := 4) sc_Grouping_part.nd rfl (by first | exact Or.inl rfl | exact Or.inr rfl)) (@pss_one _ _ _ (@ps_expr _ _ _ _ (pe_meth (pv 0) T.cl_Grouping T.M_Grouping_touch_sources G_Grouping_touch_sources (hr.mono (by omega)) T.b_Grouping_touch_sources .nil pass0 (@pa_cons _ _ _ _ _ (pv 4) (@pa_nil _) (by rfl))) (by rfl))) (by intro _; rfl))) (by intro _; rfl)))))), ?_⟩
    have sl : (1000000 : Nat) ≤ sizeLine := le_line (Nat.le_refl _)
    have gl := hS.gl
    have hck : c < ms.length := hS.ts.ql c (by simp)
    have hfew := hS.few
    have gx : ∀ a, a < n → gs[a]? = some (gs.getD a 0) := fun a ha => by
      have : a < gs.length := by omega
      simp [List.getD, List.getElem?_eq_getElem this]
    have lt_of : ∀ {a d : Nat}, gs[a]? = some d → a < n := fun e => by rw [← gl]; exact (List.getElem?_eq_some_iff.mp e).1
    have led_iff : ∀ a b, a < n → b < n → ((nw a).map (fun k => gs.getD k 0) = (nw b).map (fun k => gs.getD k 0) ↔ ∀ j, j < many → gs.getD (ww a j) 0 = gs.getD (ww b j) 0) := fun a b ha hb => by
      rw [hnw a ha, hnw b hb, List.map_map, List.map_map]
      constructor
      · intro e j hj
        exact List.map_inj_left.mp e j (List.mem_range.mpr hj)
      · intro e
        exact List.map_inj_left.mpr fun j hj => e j (List.mem_range.mp hj)
    walk_at "go"
    unfold tSortLen
    walk_at "run"
    refine ⟨x.p, x.dx, _, rfl, hG.o, gF_no x (by decide +kernel), ?_⟩
    walk_at "run"
    refine ⟨H0, x, nw, ns, n, gs, ms, ts, qs, c, rfl, hG, hS, hn, fun a ha => ⟨by rw [hnw a ha]; simpa using hmany, fun k hk => ?_⟩, fun a b ha hb na nb => (led_iff a b (lt_of ha) (lt_of hb)).mpr (hR.led a b (lt_of ha) (lt_of hb) (by rw [getD_of ha, getD_of hb]) na nb), fun l ls H1 fl fls el els hP hG1 => ?_⟩
    · rw [hnw a ha] at hk
      obtain ⟨j, hj, rfl⟩ := List.mem_map.mp hk
      exact hww a j ha (List.mem_range.mp hj)
    walk_at "run"
    have hpf := hP.few
    rw [List.length_map] at hpf
    refine ⟨l, ls.map (fun y => (y.1, natsV y.2)), rfl, SqL.of (by rw [List.map_map]; exact el), fun y hy => ?_, by rw [List.length_map]; omega, fun p sls H2 f2 s2 e2 pm _ => ?_⟩
    · obtain ⟨z, hz, rfl⟩ := List.mem_map.mp hy
      exact els z hz
    obtain ⟨ls2, hp2, rfl⟩ := perm_map pm rfl
    have hP2 := hP.perm (hp2.symm.map (·.2))
    obtain ⟨M, hM⟩ : ∃ M, ms[c]? = some M := ⟨_, List.getElem?_eq_getElem hck⟩
    obtain ⟨Mn, M0, Mm⟩ := hS.me c M hM
    obtain ⟨a0, ha0⟩ := List.exists_mem_of_ne_nil M M0
    have hne : ls2 ≠ [] := fun z => hP2.some ((Mm a0).mp ha0) (by rw [z]; rfl)
    obtain ⟨r2, bb, rfl⟩ : ∃ r b, ls2 = r ++ [b] := ⟨ls2.dropLast, ls2.getLast hne, (List.dropLast_concat_getLast hne).symm⟩
    obtain ⟨bl, big⟩ := bb
    have hin : ∀ y ∈ r2 ++ [(bl, big)], H y.1 = none ∧ H1 y.1 = some (.lst (natsV y.2)) := fun y hy => ⟨fls y (hp2.mem_iff.mp hy), els y (hp2.mem_iff.mp hy)⟩
    rw [List.map_append, List.map_cons, List.map_nil] at hP2
    obtain ⟨rs, hrs⟩ : ∃ rs, rs = r2.map (·.2) := ⟨_, rfl⟩
    rw [← hrs] at hP2
    simp only [List.map_append, List.map_cons, List.map_nil, List.map_map] at e2
    clear pm hp2 hP els fls el hne
    walk_at "run"
    refine i_tyL (SqL.of e2) ?_
    walk_at "run"
    refine i_pop e2 ?_
    have s3 : Same H1 (upd H2 p (.lst (r2.map ((fun x => V.ref x.1) ∘ fun y => (y.1, natsV y.2))))) := s2.updNew f2
    have e3 : upd H2 p (.lst (r2.map ((fun x => V.ref x.1) ∘ fun y => (y.1, natsV y.2)))) p = some (.lst (r2.map fun y => V.ref y.1)) := upd_same
    generalize upd H2 p (.lst (r2.map ((fun x => V.ref x.1) ∘ fun y => (y.1, natsV y.2)))) = H3 at s3 e3
    have hG3 := hG1.same s3
    obtain ⟨us, m1, m2⟩ := hG3.mm
    have pno : p ∉ x.own := hG1.new f2
    have hNL : NL (hds x.own H3) (.ref bl) big := by
      obtain ⟨z1, z2⟩ := hin (bl, big) (by simp)
      exact ⟨bl, rfl, hds_at (s3 _ _ z2) (hG.new z1)⟩
    walk_at "run"
    refine ⟨x.p, _, x.dx, _, _, rfl, hG3.o, T.cl_Grouping, T.n_Grouping_members, gF_members x, ?_⟩
    walk_at "run"
    refine i_setL m1 (j := c) (ixN_nat (by rw [m2.1]; exact hck)) ?_
    have hG4 := hG3.updM (us' := us.set c (.ref bl)) (ms' := ms.set c big) (each_set m2 hNL)
    have kp : KeepL x H3 (upd H3 x.m (.lst (us.set c (.ref bl)))) := .own x.mm
    generalize upd H3 x.m (.lst (us.set c (.ref bl))) = H4 at hG4 kp
    obtain ⟨B, hGB, sB0, hB⟩ := hG4.fix
    have hBp : B p = some (.lst (r2.map fun y => V.ref y.1)) := hB _ _ pno (fun _ z => nomatch z) (kp _ _ pno (fun _ z => nomatch z) e3)
    have hBy : ∀ y ∈ r2, y.1 ∉ x.own ∧ B y.1 = some (.lst (natsV y.2)) := fun y hy => by
      obtain ⟨z1, z2⟩ := hin y (List.mem_append_left _ hy)
      have z3 := hG.new z1
      exact ⟨z3, hB _ _ z3 (fun _ z => nomatch z) (kp _ _ z3 (fun _ z => nomatch z) (s3 _ _ z2))⟩
    have rl : r2.length ≤ 60 := by
      have := hP2.few
      simp [hrs] at this
      omega
    have rsl : rs.length = r2.length := by rw [hrs, List.length_map]
    have rsm : ∀ xs ∈ rs, ∀ a ∈ xs, gs[a]? = some c := fun xs hxs a ha => (hP2.me a).mp (by
      rw [List.flatten_append]
      exact List.mem_append_left _ (List.mem_flatten.mpr ⟨xs, hxs, ha⟩))
    clear hG3 hG1 hin m1 m2 e3 e2 hNL
    walk_at "run"
    obtain ⟨Pv, hPv⟩ : ∃ Pv : Nat → St → Hp → Prop, Pv = (fun i σ H' => i ≤ r2.length ∧ GrAt t.c_Grouping B H' x nw ns n (regA gs (rs.take i) ms.length) (ms.set c big ++ rs.take i) (ts.set c [] ++ (rs.take i).map fun _ => []) qs ∧ ∃ y z, σ = [some (.ref x.p), some (.int (c : Nat)), some (.ref p), y, z]) := ⟨_, rfl⟩
    refine ⟨⟨_, SqL.of (hGB.b _ _ hBp)⟩, for_list (K := K) (a := p) (xs := r2.map fun y => V.ref y.1) Pv (by rw [hPv]; exact ⟨Nat.zero_le _, by simpa [regA] using hGB, _, _, rfl⟩) (fun i σ H' _ h' => by rw [hPv] at h'; exact SqL.of (h'.2.1.b _ _ hBp)) ?_ ?_⟩
    · intro i v σ H5 hv hI
      rw [hPv] at hI
      obtain ⟨hi, h5, y, z, rfl⟩ := hI
      rw [List.getElem?_map] at hv
      obtain ⟨yy, hyy, rfl⟩ := Option.map_eq_some_iff.mp hv
      obtain ⟨z1, z2⟩ := hBy yy (List.mem_of_getElem? hyy)
      have hi' := (List.getElem?_eq_some_iff.mp hyy).1
      have hrsi : rs[i]? = some yy.2 := by rw [hrs, List.getElem?_map, hyy]; rfl
      have tl := hS.ts.tl
      walk_at "run"
      refine ⟨x.p, x.dx, _, rfl, h5.o, gF_no x (by decide +kernel), ?_⟩
      walk_at "run"
      refine ⟨B, x, nw, ns, n, _, _, _, qs, yy.1, yy.2, rfl, h5, hds_at (h5.b _ _ z2) z1, fun a ha => ?_, by simp; omega, by simp; omega, fun H6 h6 => ?_⟩
      · rw [regA_len]
        exact (List.getElem?_eq_some_iff.mp (rsm yy.2 (List.mem_of_getElem? hrsi) a ha)).1
      · walk_at "run"
        rw [hPv]
        refine ⟨hi', ?_, _, _, rfl⟩
        rw [List.take_add_one, hrsi, Option.toList_some, regA_snoc, List.map_append, ← List.append_assoc, ← List.append_assoc]
        rw [List.length_append, List.length_set] at h6
        exact h6
    · intro σ H5 hI
      rw [hPv] at hI
      obtain ⟨_, h5, y, z, rfl⟩ := hI
      clear hPv Pv
      rw [List.length_map, ← rsl, List.take_length] at h5
      have hS' := hS.part hP2
      obtain ⟨gs', hgs'⟩ : ∃ g, g = regA gs rs ms.length := ⟨_, rfl⟩
      obtain ⟨ms', hms'⟩ : ∃ m, m = ms.set c big ++ rs := ⟨_, rfl⟩
      obtain ⟨ts', hts'⟩ : ∃ t, t = ts.set c [] ++ rs.map fun _ => ([] : List Nat) := ⟨_, rfl⟩
      have hml : ms'.length = ms.length + rs.length := by rw [hms']; simp
      rw [← hgs', ← hms', ← hts'] at h5 hS'
      have hf' := hS'.few
      walk_at "run"
      obtain ⟨Pv, hPv⟩ : ∃ Pv : Nat → St → Hp → Prop, Pv = (fun i σ H' => i ≤ r2.length ∧ (∃ ts2 qs2, GrAt t.c_Grouping B H' x nw ns n gs' ms' ts2 qs2 ∧ TSt gs' ms'.length ts2 qs2 ∧ (rs = [] → qs2 = qs) ∧ ∀ b, Tt gs' ts2 b ↔ Tt gs' ts' b ∨ ∃ a ∈ (rs.take i).flatten, b ∈ ns a) ∧ ∃ y z, σ = [some (.ref x.p), some (.int (c : Nat)), some (.ref p), y, z]) := ⟨_, rfl⟩
      refine ⟨⟨_, SqL.of (h5.b _ _ hBp)⟩, for_list (K := K) (a := p) (xs := r2.map fun y => V.ref y.1) Pv (by rw [hPv]; exact ⟨Nat.zero_le _, ⟨ts', qs, h5, hS'.ts, fun _ => rfl, by simp⟩, _, _, rfl⟩) (fun i σ H' _ h' => by rw [hPv] at h'; obtain ⟨_, ⟨_, _, h', _⟩, _⟩ := h'; exact SqL.of (h'.b _ _ hBp)) ?_ ?_⟩
      · intro i v σ H6 hv hI
        rw [hPv] at hI
        obtain ⟨hi, ⟨ts2, qs2, h6, hT6, hq6, hb6⟩, y, z, rfl⟩ := hI
        rw [List.getElem?_map] at hv
        obtain ⟨yy, hyy, rfl⟩ := Option.map_eq_some_iff.mp hv
        obtain ⟨z1, z2⟩ := hBy yy (List.mem_of_getElem? hyy)
        have hi' := (List.getElem?_eq_some_iff.mp hyy).1
        have hrsi : rs[i]? = some yy.2 := by rw [hrs, List.getElem?_map, hyy]; rfl
        have hrm := List.mem_of_getElem? hrsi
        have hrne : rs ≠ [] := fun z => by rw [z] at hrm; cases hrm
        walk_at "run"
        obtain ⟨Pw, hPw⟩ : ∃ Pw : Nat → St → Hp → Prop, Pw = (fun j σ H' => j ≤ yy.2.length ∧ (∃ ts2 qs2, GrAt t.c_Grouping B H' x nw ns n gs' ms' ts2 qs2 ∧ TSt gs' ms'.length ts2 qs2 ∧ ∀ b, Tt gs' ts2 b ↔ Tt gs' ts' b ∨ ∃ a ∈ (rs.take i).flatten ++ yy.2.take j, b ∈ ns a) ∧ ∃ z, σ = [some (.ref x.p), some (.int (c : Nat)), some (.ref p), some (.ref yy.1), z]) := ⟨_, rfl⟩
        refine ⟨⟨_, SqL.of (h6.b _ _ z2)⟩, for_list (K := K) (a := yy.1) (xs := natsV yy.2) Pw (by rw [hPw]; exact ⟨Nat.zero_le _, ⟨ts2, qs2, h6, hT6, by simpa using hb6⟩, _, rfl⟩) (fun i σ H' _ h' => by rw [hPw] at h'; obtain ⟨_, ⟨_, _, h', _⟩, _⟩ := h'; exact SqL.of (h'.b _ _ z2)) ?_ ?_⟩
        · intro j v σ H7 hv hI
          rw [hPw] at hI
          obtain ⟨hj, ⟨ts3, qs3, h7, hT7, hb7⟩, z, rfl⟩ := hI
          obtain ⟨a, ha, rfl⟩ := natsV_get hv
          have han := lt_of (rsm yy.2 hrm a (List.mem_of_getElem? ha))
          walk_at "run"
          refine ⟨x.p, x.dx, _, rfl, h7.o, gF_no x (by decide +kernel), ?_⟩
          walk_at "run"
          refine ⟨B, x, nw, ns, n, gs', ms', ts3, qs3, a, rfl, h7, han, hS'.gl, by omega, by omega, fun s hs => ((hns a han s).mp hs).1, hS'.gk, hT7, fun H8 ts4 qs4 h8 hT8 hb8 => ?_⟩
          walk_at "run"
          rw [hPw]
          refine ⟨(List.getElem?_eq_some_iff.mp ha).1, ⟨ts4, qs4, h8, hT8, fun b => ?_⟩, _, rfl⟩
          rw [hb8, hb7, List.take_add_one, ha, Option.toList_some, ← List.append_assoc, or_assoc]
          refine or_congr Iff.rfl ?_
          constructor
          · rintro (⟨e, h1, h2⟩ | h1)
            · exact ⟨e, List.mem_append_left _ h1, h2⟩
            · exact ⟨a, by simp, h1⟩
          · rintro ⟨e, h1, h2⟩
            rcases List.mem_append.mp h1 with h1 | h1
            · exact .inl ⟨e, h1, h2⟩
            · exact .inr (List.mem_singleton.mp h1 ▸ h2)
        · intro σ H7 hI
          rw [hPw] at hI
          obtain ⟨_, ⟨ts3, qs3, h7, hT7, hb7⟩, z, rfl⟩ := hI
          rw [natsV_len, List.take_length] at hb7
          rw [hPv]
          refine ⟨hi', ⟨ts3, qs3, h7, hT7, fun z => absurd z hrne, ?_⟩, _, _, rfl⟩
          rw [List.take_add_one, hrsi, Option.toList_some, List.flatten_append, List.flatten_cons, List.flatten_nil, List.append_nil]
          exact hb7
      · intro σ H6 hI
        rw [hPv] at hI
        obtain ⟨_, ⟨ts2, qs2, h6, hT6, hq6, hb6⟩, y, z, rfl⟩ := hI
        rw [List.length_map, ← rsl, List.take_length] at hb6
        refine q H6 gs' ms' ts2 qs2 (h6.to sB0) ⟨hS'.gl, hS'.gk, hS'.me, hT6⟩ ?_ ?_
        · rw [hgs'] at hb6 ⊢
          refine grp_part hR hS hP2 hww led_iff (fun a h1 h2 => ?_) (fun a j ha hj h1 => ?_)
          · refine (hb6 a).mpr (.inl ?_)
            obtain ⟨c', xs, g1, g2, g3⟩ := h1
            rw [getD_of g1] at h2
            have hl' : c' < ts.length := (List.getElem?_eq_some_iff.mp g2).1
            refine ⟨c', xs, (part_at hS hP2).mpr (.inl ⟨fun z => ?_, g1⟩), ?_, g3⟩
            · obtain ⟨xs', z1, z2⟩ := List.mem_flatten.mp z
              have := rsm xs' z1 a z2
              rw [g1] at this
              exact h2 (Option.some.inj this)
            · rw [hts', List.getElem?_append_left (by simpa using hl'), List.getElem?_set, if_neg (Ne.symm h2)]
              exact g2
          · refine (hb6 a).mpr (.inr ⟨ww a j, h1, (hns _ (hww a j ha hj) a).mpr ⟨ha, ?_⟩⟩)
            rw [hnw a ha]
            exact List.mem_map_of_mem (List.mem_range.mpr hj)
        · rw [hml]
          by_cases z : rs = []
          · exact .inr ⟨by rw [z]; rfl, hq6 z⟩
          · have := List.length_pos_iff.mpr z
            exact .inl (by omega)
def sp_init (K : PySem.W.Frag) (C : Addr) : Sp := fun vs H Q _ => ∃ (H0 : Hp) (p dx la wa : Addr) (us ws : List V) (α : Type) (_ : DecidableEq α) (f : α → Tr) (labs : List α) (nw : Nat → List Nat) (n : Nat), vs = [.ref p, .ref la, .ref wa] ∧ H p = some (.ins C dx []) ∧ Same H0 H ∧ H0 p = none ∧ H la = some (.lst us) ∧ Tr.AtsB H (labs.map f) us ∧ (∀ a b, f a = f b → a = b) ∧ (∀ x, (f x).h ≤ 8) ∧ labs.length = n ∧ H wa = some (.lst ws) ∧ Lsts H ws nw n ∧ n ≤ 60 ∧ (∀ a, a < n → (nw a).length ≤ 100 ∧ ∀ k ∈ nw a, k < n) ∧
  ∀ x ns H', x.p = p → GrAt C H0 H' x nw ns n (canon labs) (memL (canon labs) (mets labs).length) (memL (canon labs) (mets labs).length) (List.range (mets labs).length) → (∀ b, b < n → ∀ a, a ∈ ns b ↔ a < n ∧ b ∈ nw a) → Q .non H'
theorem ok_Grouping___init__ (T : Txt K mg t) : FnOk P w K mg base CX0 3 t.a_Grouping___init__ t.fd_Grouping___init__ ["self", "labels", "ways"] (sp_init K t.c_Grouping) := by
  have G_members_of := ok_members_of (P := P) (w := w) (base := base) T
  have G_numbered := ok_numbered (P := P) (w := w) (base := base) T
  have G_sources_of := ok_sources_of (P := P) (w := w) (base := base) T
  refine T.F_Grouping___init__.ok sc_Grouping___init__ (fun vs H Q E h => ?_) (fun cdv A outer s H vs Q E hr h => ?_)
  · obtain ⟨H0, p, dx, la, wa, us, ws, α, dα, f, labs, nw, n, rfl, _⟩ := h
    rfl
  · obtain ⟨H0, p, dx, la, wa, us, ws, α, dα, f, labs, nw, n, rfl, hp, hb, h0p, hla, hus, hf, h8, hln, hwa, hws, hn, hw, q⟩ := h
    refine ⟨_, (@pss_cons _ _ _ _ _ (kps_fld K (pv 0) (pv 2) rfl)
      (@pss_cons _ _ _ _ _ (kps_fld K (pv 0) (@pe_call _ _ _ _ _ _ _ _ _ _ _ _ _ _ _ _ G_sources_of (hr.mono (by omega)) rfl T.m_sources_of T.F_sources_of.kp T.b_sources_of .nil pass0 (@pa_cons _ _ _ _ _ (pv 2) (@pa_nil _) (by rfl)) (by decide) (by rfl) (by rfl)) rfl)
      (@pss_cons _ _ _ _ _ (kps_fld K (pv 0) (@pe_call _ _ _ _ _ _ _ _ _ _ _ _ _ _ _ _ G_numbered (hr.mono (by omega)) rfl T.m_numbered T.F_numbered.kp T.b_numbered .nil pass0 (@pa_cons _ _ _ _ _ (pv 1) (@pa_nil _) (by rfl)) (by decide) (by rfl) (by rfl)) rfl)
      (@pss_cons _ _ _ _ _ (kps_fld K (pv 0) (@pe_call _ _ _ _ _ _ _ _ _ _ _ _ _ _ _ _ G_members_of (hr.mono (by omega)) rfl T.m_members_of T.F_members_of.kp T.b_members_of .nil pass0 (@pa_cons _ _ _ _ _ (kpe_fld K (pv 0) rfl) (@pa_nil _) (by rfl)) (by decide) (by rfl) (by rfl)) rfl)
      (@pss_cons _ _ _ _ _ (kps_fld K (pv 0) (pe_lc (Nt := ["things"]) (Nf := []) (caps := []) rfl (comp_ok (sc := defScope s_Grouping___init__) rfl rfl (by decide +kernel) (by decide +kernel) (by decide +kernel) rfl (by decide +kernel)) (kpi_list K (kpe_fld K (pv 0) rfl)) (fun _ _ _ _ _ => (pg_name (i := 0) (show (["things"] : List Str).Nodup by decide +kernel) rfl (by first | exact Or.inl rfl | exact Or.inr rfl))) (fun _ _ _ _ _ => (@pts_nil _)) (fun _ _ _ _ _ => (@pe_callTy _ _ _ _ _ _ _ _ _ (kcl_dict K) (by rfl) T.z_dict bb_dict (@pa_cons _ _ _ _ _ (pe_lc (Nt := ["thing"]) (Nf := []) (caps := []) rfl (comp_ok rfl rfl (by decide +kernel) (by decide +kernel) (fun y hy h => absurd h ((show ∀ y ∈ _, y.2 ≠ NameKind.free by decide +kernel) y hy)) rfl (by decide +kernel)) (kpi_list K (pv 0)) (fun _ _ _ _ _ => (pg_name (i := 0) (show (["thing"] : List Str).Nodup by decide +kernel) rfl (by first | exact Or.inl rfl | exact Or.inr rfl))) (fun _ _ _ _ _ => (@pts_nil _)) (fun _ _ _ _ _ => (@pe_tupN _ _ _ _ _ (@pa_cons _ _ _ _ _ (pv 0) (@pa_cons _ _ _ _ _ (@pe_bl _ _ _ _) (@pa_nil _) (by rfl)) (by rfl))))) (@pa_nil _) (by rfl)) (by decide) (by decide) (by rfl) (by rfl)))) rfl)
      (@pss_one _ _ _ (kps_fld K (pv 0) (@pe_callTy _ _ _ _ _ _ _ _ _ (cl_listR rfl) (by rfl) T.z_list bb_list (@pa_cons _ _ _ _ _ (@pe_callTy _ _ _ _ _ _ _ _ _ cl_range1 (by rfl) T.z_range bb_range (@pa_cons _ _ _ _ _ (@pe_callB _ _ _ _ _ _ _ _ _ (kcl_len K) (by rfl) T.z_len bb_len (@pa_cons _ _ _ _ _ (kpe_fld K (pv 0) rfl) (@pa_nil _) (by rfl)) (by decide) (by decide) (by rfl) (by rfl)) (@pa_nil _) (by rfl)) (by decide) (by decide) (by rfl) (by rfl)) (@pa_nil _) (by rfl)) (by decide) (by decide) (by rfl) (by rfl)) rfl))))))), ?_⟩
    have sl : (1000000 : Nat) ≤ sizeLine := le_line (Nat.le_refl _)
    have hml := mets_len labs
    have nlp : ∀ {Hx : Hp} {fs : List (Str × V)} {a : Addr} {vs : List V}, Hx p = some (.ins t.c_Grouping dx fs) → Hx a = some (.lst vs) → a ≠ p := fun e1 e2 => ne_of e2 e1 (fun z => nomatch z)
    walk_at "go"
    refine ⟨p, _, dx, _, rfl, hp, T.cl_Grouping, T.n_Grouping_ways, by simp, ?_⟩
    have kA : But p H (upd H p (.ins t.c_Grouping dx (gF1 wa))) := But.refl.upd
    have p1 : upd H p (.ins t.c_Grouping dx (gF1 wa)) p = some (.ins t.c_Grouping dx (gF1 wa)) := upd_same
    have tA : Tups H (upd H p (.ins t.c_Grouping dx (gF1 wa))) := tups_updI hp
    show tSeq _ _ _ _ (upd H p (.ins t.c_Grouping dx (gF1 wa)))
    generalize upd H p (.ins t.c_Grouping dx (gF1 wa)) = H1 at kA p1 tA
    have hwa1 := kA _ _ (nlp hp hwa) hwa
    have hws1 : Lsts H1 ws nw n := ⟨hws.1, fun i hi => by
      obtain ⟨b, h1, h2⟩ := hws.2 i hi
      exact ⟨b, h1, kA _ _ (nlp hp h2) h2⟩⟩
    walk_at "run"
    refine ⟨wa, ws, nw, n, rfl, hwa1, hws1, hw, by omega, fun fs ls cs H2 hFL hcl hcm => ?_⟩
    walk_at "run"
    have p2 := hFL.b _ _ p1
    refine ⟨p, _, dx, _, rfl, p2, T.cl_Grouping, T.n_Grouping_sources, (by have := length_putF "ways" (V.ref wa) []; unfold gF1; simp at this ⊢; omega), ?_⟩
    have kB : But p H2 (upd H2 p (.ins t.c_Grouping dx (gF2 wa fs))) := But.refl.upd
    have p3 : upd H2 p (.ins t.c_Grouping dx (gF2 wa fs)) p = some (.ins t.c_Grouping dx (gF2 wa fs)) := upd_same
    have tB : Tups H2 (upd H2 p (.ins t.c_Grouping dx (gF2 wa fs))) := tups_updI p2
    show tSeq _ _ _ _ (upd H2 p (.ins t.c_Grouping dx (gF2 wa fs)))
    generalize upd H2 p (.ins t.c_Grouping dx (gF2 wa fs)) = H3 at kB p3 tB
    have k03 : But p H H3 := kA.trans (hFL.b.but.trans kB)
    have t03 : Tups H H3 := tA.trans (hFL.b.tups.trans tB)
    walk_at "run"
    refine ⟨la, us, α, dα, f, labs, rfl, SqL.of (k03 _ _ (nlp hp hla) hla), hus.tups t03, hf, h8, by omega, fun g H4 f4 s4 e4 => ?_⟩
    walk_at "run"
    have p4 := s4 _ _ p3
    refine ⟨p, _, dx, _, rfl, p4, T.cl_Grouping, T.n_Grouping_groups, (by have h1 := length_putF "ways" (V.ref wa) []; have h2 := length_putF "sources" (V.ref fs) (gF1 wa); unfold gF2; unfold gF1 at h2 ⊢; simp at h1; omega), ?_⟩
    have kC : But p H4 (upd H4 p (.ins t.c_Grouping dx (gF3 wa fs g))) := But.refl.upd
    have p5 : upd H4 p (.ins t.c_Grouping dx (gF3 wa fs g)) p = some (.ins t.c_Grouping dx (gF3 wa fs g)) := upd_same
    show tSeq _ _ _ _ (upd H4 p (.ins t.c_Grouping dx (gF3 wa fs g)))
    generalize upd H4 p (.ins t.c_Grouping dx (gF3 wa fs g)) = H5 at kC p5
    have hgp : g ≠ p := nlp p4 e4
    have e5 := kC _ _ hgp e4
    walk_at "run"
    refine ⟨p, _, dx, _, _, rfl, p5, T.cl_Grouping, T.n_Grouping_groups, gF3_groups _ _ _, ?_⟩
    walk_at "run"
    have emc : (mets (canon labs)).length = (mets labs).length := by rw [mets_canon labs.length rfl, List.length_range]
    refine ⟨g, canon labs, rfl, e5, fun c hc => by rw [emc]; exact canon_lt hc, by rw [canon_len]; omega, fun m mls H6 hFM => ?_⟩
    rw [emc] at hFM
    walk_at "run"
    have p6 := hFM.b _ _ p5
    have len3 : (gF3 wa fs g).length ≤ 3 := by
      have h1 := length_putF "ways" (V.ref wa) []
      have h2 := length_putF "sources" (V.ref fs) (gF1 wa)
      have h3 := length_putF "groups" (V.ref g) (gF2 wa fs)
      unfold gF3
      unfold gF2 at h3 ⊢
      unfold gF1 at h3 h2 ⊢
      simp at h1
      omega
    refine ⟨p, _, dx, _, rfl, p6, T.cl_Grouping, T.n_Grouping_members, by omega, ?_⟩
    have kD : But p H6 (upd H6 p (.ins t.c_Grouping dx (gF4 wa fs g m))) := But.refl.upd
    have p7 : upd H6 p (.ins t.c_Grouping dx (gF4 wa fs g m)) p = some (.ins t.c_Grouping dx (gF4 wa fs g m)) := upd_same
    show tSeq _ _ _ _ (upd H6 p (.ins t.c_Grouping dx (gF4 wa fs g m)))
    generalize upd H6 p (.ins t.c_Grouping dx (gF4 wa fs g m)) = H7 at kD p7
    have e7 := kD _ _ (nlp p6 hFM.e) hFM.e
    obtain ⟨K0, hK0⟩ : ∃ ms, ms = memL (canon labs) (mets labs).length := ⟨_, rfl⟩
    rw [← hK0] at hFM
    have mlen : mls.length = K0.length := hFM.at_.1
    have K0l : K0.length = (mets labs).length := by rw [hK0]; simp [memL]
    have hin7 : ∀ (i : Nat) (d : Addr), mls[i]? = some d → ∃ xs, K0[i]? = some xs ∧ xs.Nodup ∧ xs.length ≤ n ∧ H7 d = some (.lst (natsV xs)) := fun i d hd => by
      have hi : i < K0.length := by rw [← mlen]; exact (List.getElem?_eq_some_iff.mp hd).1
      obtain ⟨xs, e⟩ : ∃ xs, K0[i]? = some xs := ⟨_, List.getElem?_eq_getElem hi⟩
      have e' := hFM.at_.2 i d _ hd e
      have hx := e
      rw [hK0] at hx
      obtain ⟨_, x1, x2⟩ := memL_at hx
      exact ⟨xs, e, x1, pigeon n _ x1 (fun a ha => by
        have := (List.getElem?_eq_some_iff.mp ((x2 a).mp ha)).1
        rw [canon_len] at this
        omega), kD _ _ (nlp p6 e') e'⟩
    walk_at "run"
    refine ⟨p, _, dx, _, _, rfl, p7, T.cl_Grouping, T.n_Grouping_members, gF4_members _ _ _ _, ?_⟩
    walk_at "run"
    refine ⟨⟨_, SqL.of e7⟩, cc_list (xs := mls.map V.ref) (by rw [List.length_map]; omega) (fun i acc H' => i ≤ mls.length ∧ Same H7 H' ∧ ∃ ds : List Addr, acc = ds.map .ref ∧ ds.length = i ∧ ds.Nodup ∧ (∀ d ∈ ds, H7 d = none) ∧ Each (TouAt H') ds (K0.take i)) ⟨Nat.zero_le _, Same.refl _, [], rfl, rfl, List.nodup_nil, by simp, by simpa using Each.nil⟩ (fun i acc H' ⟨_, s', ds, e, el, _⟩ => ⟨by rw [e, List.length_map]; omega, SqL.of (s' _ _ e7)⟩) ?_ ?_⟩
    · rintro i v acc H8 hv ⟨hi, s8, ds, rfl, el, hnd, hfr, hE⟩
      rw [List.getElem?_map] at hv
      obtain ⟨d, hd, rfl⟩ := Option.map_eq_some_iff.mp hv
      obtain ⟨xs, hxs, xn, xl, hdl⟩ := hin7 i d hd
      walk_at "run"
      refine ⟨⟨_, SqL.of (s8 _ _ hdl)⟩, cc_list (xs := natsV xs) (by rw [natsV_len]; omega) (fun j acc H' => j ≤ xs.length ∧ Same H8 H' ∧ acc.length = j ∧ PrK H' acc ((xs.take j).map fun (x : Nat) => (Sum.inl (x : Int), V.bl true))) ⟨Nat.zero_le _, Same.refl _, rfl, .nil⟩ (fun j acc H' ⟨_, s', e, _⟩ => ⟨by omega, SqL.of ((s8.trans s') _ _ hdl)⟩) ?_ ?_⟩
      · rintro j v acc H9 hv ⟨hj, s9, ea, hpr⟩
        obtain ⟨a, ha, rfl⟩ := natsV_get hv
        walk_at "run"
        intro pt H10 f10 s10 e10
        refine ⟨(List.getElem?_eq_some_iff.mp ha).1, s9.trans s10, by simp [ea], ?_⟩
        rw [List.take_add_one, ha, Option.toList_some, List.map_append]
        exact (hpr.mono s10.tups).snoc (k := Sum.inl (a : Int)) e10
      · rintro acc H9 ⟨_, s9, ea, hpr⟩ pl H10 f10 s10 e10
        rw [natsV_len, List.take_length] at hpr
        walk_at "run"
        refine i_dictP (SqL.of e10) (hpr.mono s10.tups) ?_
        intro pd H11 f11 s11 e11
        have s811 := s9.trans (s10.trans s11)
        refine ⟨(List.getElem?_eq_some_iff.mp hd).1, s8.trans s811, ds ++ [pd], by simp, by simp [el], nd_snoc hnd fun z => ?_, fun b hb => ?_, ?_⟩
        · obtain ⟨j, hj, ej⟩ := List.mem_iff_getElem.mp z
          have hj' : j < (K0.take i).length := by rw [← hE.1]; exact hj
          obtain ⟨kvs, g1, _⟩ := hE.2 j _ _ (List.getElem?_eq_getElem hj) (List.getElem?_eq_getElem hj')
          rw [ej] at g1
          have := (s9.trans s10) _ _ g1
          rw [f11] at this
          cases this
        · rcases List.mem_append.mp hb with hb | hb
          · exact hfr b hb
          · rw [List.mem_singleton.mp hb]; exact (s8.trans (s9.trans s10)).free f11
        · rw [List.take_add_one, hxs, Option.toList_some]
          exact (hE.mono fun d y hy => hy.same s811).snoc ⟨_, e11, merge_tou xn⟩
    · rintro acc H8 ⟨_, s8, ds, rfl, el, hnd, hfr, hE⟩ tt H9 f9 s9 e9
      rw [List.length_map] at el
      rw [List.length_map, mlen, List.take_length] at hE
      walk_at "run"
      have p9 := (s8.trans s9) _ _ p7
      have len4 : (gF4 wa fs g m).length ≤ 4 := by
        have h4 := length_putF "members" (V.ref m) (gF3 wa fs g)
        unfold gF4
        omega
      refine ⟨p, _, dx, _, rfl, p9, T.cl_Grouping, T.n_Grouping_touched, by omega, ?_⟩
      have kE : But p H9 (upd H9 p (.ins t.c_Grouping dx (gF5 wa fs g m tt))) := But.refl.upd
      have p10 : upd H9 p (.ins t.c_Grouping dx (gF5 wa fs g m tt)) p = some (.ins t.c_Grouping dx (gF5 wa fs g m tt)) := upd_same
      show sFld _ _ _ _ _ _ (upd H9 p (.ins t.c_Grouping dx (gF5 wa fs g m tt)))
      generalize upd H9 p (.ins t.c_Grouping dx (gF5 wa fs g m tt)) = H10 at kE p10
      have hmp : m ≠ p := nlp p6 hFM.e
      have em10 : H10 m = some (.lst (mls.map .ref)) := kE _ _ hmp ((s8.trans s9) _ _ e7)
      walk_at "run"
      refine ⟨p, _, dx, _, _, rfl, p10, T.cl_Grouping, T.n_Grouping_members, gF5_members _ _ _ _ _, ?_⟩
      walk_at "run"
      refine i_lenL (SqL.of em10) ?_
      rw [List.length_map, mlen, K0l]
      walk_at "run"
      refine i_range1 (by omega) ?_
      intro pg H11 f11 s11 e11
      walk_at "run"
      refine i_listR e11 (by omega) ?_
      intro qa H12 f12 s12 e12
      walk_at "run"
      have s1012 := s11.trans s12
      have p12 := s1012 _ _ p10
      have len5 : (gF5 wa fs g m tt).length ≤ 5 := by
        have h4 := length_putF "touched" (V.ref tt) (gF4 wa fs g m)
        unfold gF5
        omega
      refine ⟨p, _, dx, _, rfl, p12, T.cl_Grouping, T.n_Grouping_waiting, by omega, ?_⟩
      have kF : But p H12 (upd H12 p (.ins t.c_Grouping dx (gF ⟨p, dx, wa, fs, g, m, tt, qa⟩))) := But.refl.upd
      have p13 : upd H12 p (.ins t.c_Grouping dx (gF ⟨p, dx, wa, fs, g, m, tt, qa⟩)) p = some (.ins t.c_Grouping dx (gF ⟨p, dx, wa, fs, g, m, tt, qa⟩)) := upd_same
      have tF : ∀ {d : Addr} {xs : List Nat}, TouAt H12 d xs → TouAt (upd H12 p (.ins t.c_Grouping dx (gF ⟨p, dx, wa, fs, g, m, tt, qa⟩))) d xs := fun {d xs} ⟨kvs, e1, e2⟩ => ⟨kvs, by rw [upd_ne (ne_of e1 p12 (fun z => nomatch z))]; exact e1, e2⟩
      have tE : ∀ {d : Addr} {xs : List Nat}, TouAt H9 d xs → TouAt H10 d xs := fun {d xs} ⟨kvs, e1, e2⟩ => ⟨kvs, kE _ _ (ne_of e1 p9 (fun z => nomatch z)) e1, e2⟩
      show Q V.non (upd H12 p (.ins t.c_Grouping dx (gF ⟨p, dx, wa, fs, g, m, tt, qa⟩)))
      generalize upd H12 p (.ins t.c_Grouping dx (gF ⟨p, dx, wa, fs, g, m, tt, qa⟩)) = H13 at kF p13 tF
      have htp : tt ≠ p := nlp p9 e9
      have hqp : qa ≠ p := nlp p12 e12
      have k1013 : But p H10 H13 := s1012.but.trans kF
      have k913 : But p H9 H13 := kE.trans k1013
      have k613 : But p H6 H13 := kD.trans ((s8.trans s9).but.trans k913)
      have k413 : But p H4 H13 := kC.trans (hFM.b.but.trans k613)
      have k213 : But p H2 H13 := kB.trans (s4.but.trans k413)
      have k013 : But p H H13 := kA.trans (hFL.b.but.trans k213)
      have k02 : But p H H2 := kA.trans hFL.b.but
      have k35 : But p H3 H5 := s4.but.trans kC
      have k58 : But p H5 H8 := hFM.b.but.trans (kD.trans s8.but)
      have k811 : But p H8 H11 := s9.but.trans (kE.trans s11.but)
      have p8 := s8 _ _ p7
      have p11 := s11 _ _ p10
      have own : ∀ {b : Addr}, b ≠ p → b ≠ g → b ≠ m → b ≠ tt → b ≠ qa → b ∉ (GA.mk p dx wa fs g m tt qa).own := fun _ z1 z2 z3 z4 => by simp [GA.own, z1, z2, z3, z4]
      have old2 : ∀ {b : Addr} {vs : List V}, H2 b = some (.lst vs) → hds (GA.mk p dx wa fs g m tt qa).own H13 b = some (.lst vs) := fun {b vs} e => by
        have hbp := nlp p2 e
        have e3 := kB _ _ hbp e
        have e5' := k35 _ _ hbp e3
        have e8' := k58 _ _ hbp e5'
        exact hds_at (k213 _ _ hbp e) (own hbp (ne_of_none e3 f4) (ne_of_none e5' hFM.f0) (ne_of_none e8' f9) (ne_of_none (k811 _ _ hbp e8') f12))
      have fr0 : ∀ {b : Addr}, H2 b = none → H0 b = none := fun f => hb.free (k02.none p2 f)
      have fg2 : H2 g = none := kB.none p3 f4
      have fm5 : H5 m = none := hFM.f0
      have k25 : But p H2 H5 := kB.trans k35
      have fm2 : H2 m = none := k25.none p5 fm5
      have k28 : But p H2 H8 := k25.trans k58
      have ft2 : H2 tt = none := k28.none p8 f9
      have fq2 : H2 qa = none := (k28.trans k811).none p11 f12
      have k27 : But p H2 H7 := k25.trans (hFM.b.but.trans kD)
      have gm : g ≠ m := ne_of_none e5 fm5
      have g8 := k58 _ _ hgp e5
      have m8 := s8 _ _ e7
      have gt : g ≠ tt := ne_of_none g8 f9
      have mt : m ≠ tt := ne_of_none m8 f9
      have gq : g ≠ qa := ne_of_none (k811 _ _ hgp g8) f12
      have mq : m ≠ qa := ne_of_none (k811 _ _ hmp m8) f12
      have k911 : But p H9 H11 := kE.trans s11.but
      have tq : tt ≠ qa := ne_of_none (k911 _ _ htp e9) f12
      refine q ⟨p, dx, wa, fs, g, m, tt, qa⟩ (fun i => cs.getD i []) H13 rfl ⟨fun b o e => k013 _ _ (ne_of_none e h0p) (hb _ _ e), fun a ha => ?_, ?_, p13, ⟨ws, ?_, hws.1, fun i hi => ?_⟩, ⟨ls.map .ref, old2 hFL.e, ?_⟩, k413 _ _ hgp e4, ⟨mls.map .ref, k613 _ _ hmp hFM.e, by rw [List.length_map, mlen, hK0], fun i v xs h1 h2 => ?_⟩, ⟨ds, k913 _ _ htp e9, hnd, fun d hd => fr0 (k27.none p7 (hfr d hd)), ?_⟩, kF _ _ hqp e12⟩ (fun b hb' a => ?_)
      · simp only [GA.own, List.mem_cons, List.not_mem_nil, or_false] at ha
        rcases ha with rfl | rfl | rfl | rfl
        · exact fr0 fg2
        · exact fr0 fm2
        · exact fr0 ft2
        · exact fr0 fq2
      · simp only [GA.own, List.nodup_cons, List.mem_cons, List.not_mem_nil, or_false, not_or, not_false_eq_true, List.nodup_nil, and_true]
        exact ⟨⟨gm, gt, gq⟩, ⟨mt, mq⟩, tq⟩
      · exact old2 (k02 _ _ (nlp hp hwa) hwa)
      · obtain ⟨b, h1, h2⟩ := hws.2 i hi
        exact ⟨b, h1, old2 (k02 _ _ (nlp hp h2) h2)⟩
      · have := hFL.lsts
        rw [hcl] at this
        exact ⟨this.1, fun i hi => by
          obtain ⟨b, h1, h2⟩ := this.2 i hi
          exact ⟨b, h1, old2 h2⟩⟩
      · rw [List.getElem?_map] at h1
        obtain ⟨d, hd, rfl⟩ := Option.map_eq_some_iff.mp h1
        rw [← hK0] at h2
        have hd6 := hFM.at_.2 i d xs hd h2
        have hdm := List.mem_of_getElem? hd
        have hdp := nlp p6 hd6
        have hd8 : H8 d = some (.lst (natsV xs)) := s8 _ _ (kD _ _ hdp hd6)
        exact ⟨d, rfl, hds_at (k613 _ _ hdp hd6) (own hdp (fun z => by rw [z] at hdm; have := hFM.fr g hdm; rw [e5] at this; cases this) (fun z => hFM.nf (z ▸ hdm)) (ne_of_none hd8 f9) (ne_of_none (k811 _ _ hdp hd8) f12))⟩
      · rw [← hK0]
        exact hE.mono fun d y hy => tF ((tE (hy.same s9)).same s1012)
      · have hbl : b < cs.length := by omega
        have e := List.getElem?_eq_getElem hbl
        show a ∈ cs.getD b [] ↔ _
        rw [show cs.getD b [] = cs[b] by simp [List.getD, e]]
        exact hcm b _ e a
def sp_put (K : PySem.W.Frag) : Sp := fun vs H Q _ => ∃ (la wa : Addr) (us ws : List V) (α : Type) (_ : DecidableEq α) (f : α → Tr) (labs : List α) (ww : Nat → Nat → Nat) (many : Nat) (nw : Nat → List Nat) (n : Nat), vs = [.ref la, .ref wa] ∧ H la = some (.lst us) ∧ Tr.AtsB H (labs.map f) us ∧ (∀ a b, f a = f b → a = b) ∧ (∀ x, (f x).h ≤ 8) ∧ labs.length = n ∧ H wa = some (.lst ws) ∧ Lsts H ws nw n ∧ n ≤ 60 ∧ many ≤ 100 ∧ (∀ a, a < n → nw a = (List.range many).map (ww a)) ∧ (∀ a j, a < n → j < many → ww a j < n) ∧
  ∀ l H', H l = none → Same H H' → H' l = some (.lst (natsV (likeN (fun a => labs[a]?) ww many (List.range n)))) → Q (.ref l) H'
theorem ok_put_together (T : Txt K mg t) : FnOk P w K mg base CX0 5 t.a_put_together t.fd_put_together ["labels", "ways"] (sp_put K) := by
  have G_Grouping___init__ := ok_Grouping___init__ (P := P) (w := w) (base := base) T
  have G_Grouping_part := ok_Grouping_part (P := P) (w := w) (base := base) T
  have G_numbered := ok_numbered (P := P) (w := w) (base := base) T
  refine T.F_put_together.ok sc_put_together (fun vs H Q E h => ?_) (fun cdv A outer s H vs Q E hr h => ?_)
  · obtain ⟨la, wa, us, ws, α, dα, f, labs, ww, many, nw, n, rfl, _⟩ := h
    rfl
  · obtain ⟨la, wa, us, ws, α, dα, f, labs, ww, many, nw, n, rfl, hla, hus, hf, h8, hln, hwa, hws, hn, hmany, hnw, hww, q⟩ := h
    refine ⟨_, (@pss_cons _ _ _ _ _ (@ps_set _ _ 2 _ _ _ _ sc_put_together.nd rfl (by first | exact Or.inl rfl | exact Or.inr rfl) (pe_make T.mk_Grouping G_Grouping___init__ (hr.mono (by omega)) rfl T.m_Grouping T.b_Grouping___init__ .nil pass0 (@pa_cons _ _ _ _ _ (pv 0) (@pa_cons _ _ _ _ _ (pv 1) (@pa_nil _) (by rfl)) (by rfl))) (by rfl) (by first | exact Or.inl rfl | exact Or.inr rfl))
      (@pss_cons _ _ _ _ _ (@ps_while _ _ _ _ _ _ PassesOwn.never (@pt_cmpR _ _ _ _ _ _ _ _ op_gt (@pe_callB _ _ _ _ _ _ _ _ _ (kcl_len K) (by rfl) T.z_len bb_len (@pa_cons _ _ _ _ _ (kpe_fld K (pv 2) rfl) (@pa_nil _) (by rfl)) (by decide) (by decide) (by rfl) (by rfl)) (@pe_int _ _ _ _) (nomark _)) (@pss_one _ _ _ (@ps_expr _ _ _ _ (pe_meth (pv 2) T.cl_Grouping T.M_Grouping_part G_Grouping_part (hr.mono (by omega)) T.b_Grouping_part .nil pass0 (@pa_cons _ _ _ _ _ (kpe_bm0 K PySem.F.plainAttrs_list PySem.F.slot_list_pop PySem.F.type_list_pop mt_pop (kpe_fld K (pv 2) rfl)) (@pa_nil _) (by rfl))) (by rfl))))
      (@pss_one _ _ _ (@ps_ret _ _ _ _ (@pe_call _ _ _ _ _ _ _ _ _ _ _ _ _ _ _ _ G_numbered (hr.mono (by omega)) rfl T.m_numbered T.F_numbered.kp T.b_numbered .nil pass0 (@pa_cons _ _ _ _ _ (kpe_fld K (pv 2) rfl) (@pa_nil _) (by rfl)) (by decide) (by rfl) (by rfl)))))), ?_⟩
    have sl : (1000000 : Nat) ≤ sizeLine := le_line (Nat.le_refl _)
    walk_at "go"
    intro p dx fp fdx hne
    have s1 : Same H (upd (upd H dx (.own p)) p (.ins t.c_Grouping dx [])) := (Same.new fdx).trans (Same.new (by rw [upd_ne (Ne.symm hne)]; exact fp))
    refine ⟨H, p, dx, la, wa, us, ws, α, dα, f, labs, nw, n, rfl, upd_same, s1, fp, s1 _ _ hla, hus.tups s1.tups, hf, h8, hln, s1 _ _ hwa, hws.mono s1, hn, fun a ha => ⟨by rw [hnw a ha]; simpa using hmany, fun k hk => ?_⟩, fun x ns H2 hxp hG hns => ⟨rfl, ?_⟩⟩
    · rw [hnw a ha] at hk
      obtain ⟨j, hj, rfl⟩ := List.mem_map.mp hk
      exact hww a j ha (List.mem_range.mp hj)
    subst hxp
    walk_at "run"
    subst hln
    have hS := gst_first labs
    have hR := grp_first (w := ww) (many := many) labs
    obtain ⟨Pv, hPv⟩ : ∃ Pv : Nat → St → Hp → Prop, Pv = (fun m σ H' => σ = [some (.ref la), some (.ref wa), some (.ref x.p)] ∧ ∃ gs ms ts qs, m = (labs.length - ms.length) * (labs.length + 1) + qs.length ∧ GrAt t.c_Grouping H H' x nw ns labs.length gs ms ts qs ∧ GSt labs.length gs ms ts qs ∧ Grp (fun a => labs[a]?) ww labs.length many (fun a => gs.getD a 0) (Tt gs ts)) := ⟨_, rfl⟩
    refine i_while Pv _ (by rw [hPv]; exact ⟨rfl, _, _, _, _, rfl, hG, hS, hR⟩) ?_
    intro m σ H3 hI
    rw [hPv] at hI
    obtain ⟨rfl, gs, ms, ts, qs, rfl, h3, hS3, hR3⟩ := hI
    clear hG hS hR
    walk_at "run"
    refine ⟨x.p, _, x.dx, _, _, rfl, h3.o, T.cl_Grouping, T.n_Grouping_waiting, gF_waiting x, ?_⟩
    walk_at "run"
    refine i_lenL (SqL.of h3.qq) ?_
    rw [natsV_len]
    walk_at "run"
    refine ite2 (fun hc => ?_) (fun hc => ?_)
    · have hq0 : 0 < qs.length := by have := of_decide_eq_true hc; omega
      obtain ⟨qs, c, rfl, _⟩ := snoc_of (n := qs.length - 1) (l := qs) (by omega)
      refine ⟨fun σ' H' => σ' = [some (.ref la), some (.ref wa), some (.ref x.p)] ∧ ∃ gs' ms' ts' qs', GrAt t.c_Grouping H H' x nw ns labs.length gs' ms' ts' qs' ∧ GSt labs.length gs' ms' ts' qs' ∧ Grp (fun a => labs[a]?) ww labs.length many (fun a => gs'.getD a 0) (Tt gs' ts') ∧ (ms.length < ms'.length ∨ (ms'.length = ms.length ∧ qs' = qs)), fun σ' H' h' => ?_, ?_⟩
      · obtain ⟨rfl, gs', ms', ts', qs', g1, g2, g3, g4⟩ := h'
        rw [hPv]
        refine ⟨_, ?_, rfl, gs', ms', ts', qs', rfl, g1, g2, g3⟩
        have k1 := g2.few
        have k2 := g2.wait
        have k3 := hS3.few
        simp only [List.length_append, List.length_cons, List.length_nil]
        rcases g4 with g4 | ⟨g4, g5⟩
        · have : (labs.length - ms'.length + 1) * (labs.length + 1) ≤ (labs.length - ms.length) * (labs.length + 1) := Nat.mul_le_mul_right _ (by omega)
          rw [Nat.add_mul] at this
          omega
        · rw [g4, g5]
          omega
      · walk_at "run"
        refine ⟨x.p, x.dx, _, rfl, h3.o, gF_no x (by decide +kernel), ?_⟩
        walk_at "run"
        refine ⟨x.p, _, x.dx, _, _, rfl, h3.o, T.cl_Grouping, T.n_Grouping_waiting, gF_waiting x, ?_⟩
        have eq := h3.qq
        rw [show natsV (qs ++ [c]) = natsV qs ++ [.int (c : Nat)] from (natsV_snoc qs c).symm] at eq
        refine i_tyL (SqL.of eq) ?_
        walk_at "run"
        refine i_pop eq ?_
        walk_at "run"
        refine ⟨_, fun a => labs[a]?, ww, many, H, x, nw, ns, labs.length, gs, ms, ts, qs, c, rfl, h3.updQ, hS3, hR3, hn, hmany, hnw, hww, hns, fun H' gs' ms' ts' qs' g1 g2 g3 g4 => ?_⟩
        walk_at "run"
        exact ⟨rfl, gs', ms', ts', qs', g1, g2, g3, g4⟩
    · have hq0 : qs = [] := List.length_eq_zero_iff.mp (by
        refine Nat.eq_zero_of_not_pos fun z => hc ?_
        exact decide_eq_true (by omega))
      subst hq0
      walk_at "run"
      refine ⟨x.p, _, x.dx, _, _, rfl, h3.o, T.cl_Grouping, T.n_Grouping_groups, gF_groups x, ?_⟩
      walk_at "run"
      have gl := hS3.gl
      refine ⟨x.g, natsV gs, Nat, inferInstance, fun k => Tr.int (k : Int), gs, rfl, SqL.of h3.gg, atsB_nats gs, (fun a b e => by have := Tr.int.inj e; omega), fun a => by simp [Tr.h], by omega, fun l H4 f4 s4 e4 => ?_⟩
      refine q l H4 (h3.b.free f4) (h3.b.trans s4) ?_
      rw [e4]
      congr 3
      exact like_of gl fun a b ha hb => grp_end hR3 hS3 hww ha hb
def sp_label (K : PySem.W.Frag) : Sp := fun vs H Q _ => ∃ (v : V) (r : RRoom), vs = [v] ∧ RoomAt H v r ∧ r.2.length ≤ 1000 ∧ ∀ u H', Same H H' → (labT (r.1, r.2.map (·.1))).AtB H' u → Q u H'
theorem ok_label_of (T : Txt K mg t) : FnOk P w K mg base CX0 1 t.a_label_of t.fd_label_of ["room"] (sp_label K) := by
  refine T.F_label_of.ok sc_label_of (fun vs H Q E h => ?_) (fun cdv A outer s H vs Q E hr h => ?_)
  · obtain ⟨v, r, rfl, _⟩ := h
    rfl
  · obtain ⟨v, r, rfl, hv, hl, q⟩ := h
    refine ⟨_, (@pss_one _ _ _ (@ps_ret _ _ _ _ (@pe_tupN _ _ _ _ _ (@pa_cons _ _ _ _ _ (@pe_ix _ _ _ _ _ _ _ (kix_tup K) (pv 0) (@pe_int _ _ _ _) (fun _ _ => rfl)) (@pa_cons _ _ _ _ _ (@pe_callTy _ _ _ _ _ _ _ _ _ (kcl_tuple K) (by rfl) T.z_tuple bb_tuple (@pa_cons _ _ _ _ _ (pe_lc (Nt := ["said", "way"]) (Nf := []) (caps := []) rfl (comp_ok (sc := defScope s_label_of) rfl rfl (by decide +kernel) (by decide +kernel) (by decide +kernel) rfl (by decide +kernel)) (kpi_list K (@pe_ix _ _ _ _ _ _ _ (kix_tup K) (pv 0) (@pe_int _ _ _ _) (fun _ _ => rfl))) (fun _ _ _ _ _ => (kpg_tup K (n := 2) rfl (pgs_cons (pg_name (i := 0) (show (["said", "way"] : List Str).Nodup by decide +kernel) rfl (by first | exact Or.inl rfl | exact Or.inr rfl)) (pgs_cons (pg_name (i := 1) (show (["said", "way"] : List Str).Nodup by decide +kernel) rfl (by first | exact Or.inl rfl | exact Or.inr rfl)) (@pgs_nil _))))) (fun _ _ _ _ _ => (@pts_nil _)) (fun _ _ _ _ _ => (@pe_callTy _ _ _ _ _ _ _ _ _ (kcl_tuple K) (by rfl) T.z_tuple bb_tuple (@pa_cons _ _ _ _ _ (pv 0) (@pa_nil _) (by rfl)) (by decide) (by decide) (by rfl) (by rfl)))) (@pa_nil _) (by rfl)) (by decide) (by decide) (by rfl) (by rfl)) (@pa_nil _) (by rfl)) (by rfl))))), ?_⟩
    obtain ⟨b, g, ps, rfl, hb, hg, hps⟩ := hv
    have pl : ps.length = r.2.length := hps.1
    walk_at "go"
    refine i_ixT (SqT.of hb) (atI_nat (j := 0) rfl) ?_
    walk_at "run"
    refine i_ixT (SqT.of hb) (atI_nat (j := 1) rfl) ?_
    walk_at "run"
    refine ⟨⟨_, SqL.of hg⟩, cc_pairs (xs := ps) (le_line (by omega)) (fun i acc H' => i ≤ r.2.length ∧ acc.length = i ∧ Same H H' ∧ Tr.AtsB H' ((r.2.take i).map fun x => Tr.tup (x.1.map Tr.str)) acc) ⟨Nat.zero_le _, rfl, Same.refl _, rfl⟩ (fun i acc H' ⟨_, e, s', _⟩ => ⟨by omega, SqL.of (s' _ _ hg)⟩) ?_ ?_⟩
    · rintro i x acc H' hx ⟨hi, ea, s', hat⟩
      have hi' : i < r.2.length := by rw [← pl]; exact (List.getElem?_eq_some_iff.mp hx).1
      obtain ⟨w0, hw⟩ : ∃ w0, r.2[i]? = some w0 := ⟨_, List.getElem?_eq_getElem hi'⟩
      obtain ⟨k, sl, rfl, hk, hsl'⟩ := hps.2 i x w0 hx hw
      refine ⟨k, _, _, rfl, SqT.of (s' _ _ hk), ?_⟩
      walk_at "run"
      refine i_tupleL (SqL.of (s' _ _ hsl')) ?_
      intro p1 H1 f1 s1 e1
      refine ⟨hi', by simp [ea], s'.trans s1, ?_⟩
      rw [List.take_add_one, hw, Option.toList_some, List.map_append]
      refine (hat.tups s1.tups).snoc ?_
      simp only [Tr.AtB]
      exact ⟨p1, _, rfl, e1, strs_atB _⟩
    · rintro acc H' ⟨_, ea, s', hat⟩ p1 H1 f1 s1 e1
      rw [pl, List.take_length] at hat
      walk_at "run"
      refine i_tupleL (SqL.of e1) ?_
      intro p2 H2 f2 s2 e2
      walk_at "run"
      intro p3 H3 f3 s3 e3
      refine q _ H3 (s'.trans (s1.trans (s2.trans s3))) ?_
      unfold labT
      simp only [Tr.AtB, Tr.AtsB, List.map_map]
      refine ⟨p3, _, rfl, e3, _, _, rfl, .inr ⟨r.1, rfl, rfl⟩, _, _, rfl, ⟨p2, acc, rfl, s3 _ _ e2, ?_⟩, rfl⟩
      exact hat.tups (s1.trans (s2.trans s3)).tups
def sp_room (K : PySem.W.Frag) : Sp := fun vs H Q _ => ∃ (v : V) (l : Addr) (us : List V) (g : Nat → Nat) (r : RRoom), vs = [v, .ref l] ∧ RoomAt H v r ∧ H l = some (.lst us) ∧ (∀ x ∈ r.2, us[x.2]? = some (.int (g x.2 : Nat))) ∧ r.2.length ≤ 1000 ∧ ∀ u H', Same H H' → RoomAt H' u (r.1, r.2.map fun x => (x.1, g x.2)) → Q u H'
theorem ok_room_with (T : Txt K mg t) : FnOk P w K mg base CX0 1 t.a_room_with t.fd_room_with ["room", "numbers"] (sp_room K) := by
  refine T.F_room_with.ok sc_room_with (fun vs H Q E h => ?_) (fun cdv A outer s H vs Q E hr h => ?_)
  · obtain ⟨v, l, us, g, r, rfl, _⟩ := h
    rfl
  · obtain ⟨v, l, us, g, r, rfl, hv, hl, hm, hr2, q⟩ := h
    refine ⟨_, (@pss_one _ _ _ (@ps_ret _ _ _ _ (@pe_tupN _ _ _ _ _ (@pa_cons _ _ _ _ _ (@pe_ix _ _ _ _ _ _ _ (kix_tup K) (pv 0) (@pe_int _ _ _ _) (fun _ _ => rfl)) (@pa_cons _ _ _ _ _ (pe_lc (Nt := ["said", "way"]) (Nf := ["numbers"]) (caps := [1]) rfl (comp_ok (sc := defScope s_room_with) rfl rfl (by decide +kernel) (by decide +kernel) (by decide +kernel) rfl (by decide +kernel)) (kpi_list K (@pe_ix _ _ _ _ _ _ _ (kix_tup K) (pv 0) (@pe_int _ _ _ _) (fun _ _ => rfl))) (fun _ _ _ _ _ => (kpg_tup K (n := 2) rfl (pgs_cons (pg_name (i := 0) (show (["said", "way", "numbers"] : List Str).Nodup by decide +kernel) rfl (by first | exact Or.inl rfl | exact Or.inr rfl)) (pgs_cons (pg_name (i := 1) (show (["said", "way", "numbers"] : List Str).Nodup by decide +kernel) rfl (by first | exact Or.inl rfl | exact Or.inr rfl)) (@pgs_nil _))))) (fun _ _ _ _ _ => (@pts_nil _)) (fun _ _ _ _ _ => (@pe_tupN _ _ _ _ _ (@pa_cons _ _ _ _ _ (@pe_callTy _ _ _ _ _ _ _ _ _ (kcl_list K) (by rfl) T.z_list bb_list (@pa_cons _ _ _ _ _ (pv 0) (@pa_nil _) (by rfl)) (by decide) (by decide) (by rfl) (by rfl)) (@pa_cons _ _ _ _ _ (@pe_ix _ _ _ _ _ _ _ (kix_list K) (pv 2) (pv 1) (fun _ _ => rfl)) (@pa_nil _) (by rfl)) (by rfl))))) (@pa_nil _) (by rfl)) (by rfl))))), ?_⟩
    obtain ⟨b, gg, ps, rfl, hb, hg, hps⟩ := hv
    have pl : ps.length = r.2.length := hps.1
    walk_at "go"
    refine i_ixT (SqT.of hb) (atI_nat (j := 0) rfl) ?_
    walk_at "run"
    refine i_ixT (SqT.of hb) (atI_nat (j := 1) rfl) ?_
    walk_at "run"
    refine ⟨⟨_, SqL.of hg⟩, cc_pairs (xs := ps) (le_line (by omega)) (fun i acc H' => i ≤ r.2.length ∧ acc.length = i ∧ Same H H' ∧ Each (RowAt H') acc ((r.2.take i).map fun x => (x.1, g x.2))) ⟨Nat.zero_le _, rfl, Same.refl _, by simpa using Each.nil⟩ (fun i acc H' ⟨_, e, s', _⟩ => ⟨by omega, SqL.of (s' _ _ hg)⟩) ?_ ?_⟩
    · rintro i x acc H' hx ⟨hi, ea, s', hat⟩
      have hi' : i < r.2.length := by rw [← pl]; exact (List.getElem?_eq_some_iff.mp hx).1
      obtain ⟨w0, hw⟩ : ∃ w0, r.2[i]? = some w0 := ⟨_, List.getElem?_eq_getElem hi'⟩
      obtain ⟨k, sl, rfl, hk, hsl'⟩ := hps.2 i x w0 hx hw
      have hwm := hm w0 (List.mem_of_getElem? hw)
      refine ⟨k, _, _, rfl, SqT.of (s' _ _ hk), ?_⟩
      walk_at "run"
      refine i_listL (SqL.of (s' _ _ hsl')) ?_
      intro p1 H1 f1 s1 e1
      walk_at "run"
      refine i_ixL (SqL.of ((s'.trans s1) _ _ hl)) (atI_nat hwm) ?_
      walk_at "run"
      intro p2 H2 f2 s2 e2
      refine ⟨hi', by simp [ea], s'.trans (s1.trans s2), ?_⟩
      rw [List.take_add_one, hw, Option.toList_some, List.map_append]
      exact (hat.mono fun v x h => h.same (s1.trans s2)).snoc ⟨p2, p1, rfl, e2, s2 _ _ e1⟩
    · rintro acc H' ⟨_, ea, s', hat⟩ p1 H1 f1 s1 e1
      rw [pl, List.take_length] at hat
      walk_at "run"
      intro p2 H2 f2 s2 e2
      exact q _ H2 (s'.trans (s1.trans s2)) ⟨p2, p1, acc, rfl, e2, s2 _ _ e1, hat.mono fun v x h => h.same (s1.trans s2)⟩
structure LeastAt (H : Hp) (pr pn : Addr) (us : List V) (sy : List Str) (rs : List RRoom) : Prop where
  ex : ∃ pt pa pb pc lv, H pr = some (.tup [.ref pt, .ref pn]) ∧ H pt = some (.tup [.ref pa, .ref pb, .ref pc]) ∧ H pa = some (.lst us) ∧ H pb = some (.lst (strsV sy)) ∧ H pc = some (.lst lv) ∧ Each (RoomAt H) lv (lstR rs us.length) ∧ H pn = some (.lst (waysV (numR rs us.length)))
def sp_least (K : PySem.W.Frag) : Sp := fun vs H Q _ => ∃ (tt a b c : Addr) (us rvs : List V) (sy : List Str) (rs : List RRoom), vs = [.ref tt] ∧ H tt = some (.tup [.ref a, .ref b, .ref c]) ∧ H a = some (.lst us) ∧ H b = some (.lst (strsV sy)) ∧ H c = some (.lst rvs) ∧ Each (RoomAt H) rvs rs ∧ TblOk us.length rs ∧ 0 < rs.length ∧ rs.length ≤ 60 ∧ ∀ pr pn H', Same H H' → LeastAt H' pr pn us sy rs → Q (.ref pr) H'
theorem roomA_of {rs : List RRoom} {x : Nat} (h : x < rs.length) : rs[x]? = some (roomA rs x) := by unfold roomA; simp [h]
theorem ok_least_table (T : Txt K mg t) : FnOk P w K mg base CX0 6 t.a_least_table t.fd_least_table ["table"] (sp_least K) := by
  have G_firsts := ok_firsts (P := P) (w := w) (base := base) T
  have G_found_from := ok_found_from (P := P) (w := w) (base := base) T
  have G_label_of := ok_label_of (P := P) (w := w) (base := base) T
  have G_put_together := ok_put_together (P := P) (w := w) (base := base) T
  have G_room_with := ok_room_with (P := P) (w := w) (base := base) T
  refine T.F_least_table.ok sc_least_table (fun vs H Q E h => ?_) (fun cdv A outer s H vs Q E hr h => ?_)
  · obtain ⟨tt, a, b, c, us, rvs, sy, rs, rfl, _⟩ := h
    rfl
  · obtain ⟨tt, a, b, c, us, rvs, sy, rs, rfl, h1, h2, h3, h4, h5, ok, r0, r60, q⟩ := h
    refine ⟨_, (@pss_cons _ _ _ _ _ (@ps_set _ _ 1 _ _ _ _ sc_least_table.nd rfl (by first | exact Or.inl rfl | exact Or.inr rfl) (@pe_ix _ _ _ _ _ _ _ (kix_tup K) (pv 0) (@pe_int _ _ _ _) (fun _ _ => rfl)) (by rfl) (by first | exact Or.inl rfl | exact Or.inr rfl))
      (@pss_cons _ _ _ _ _ (@ps_set _ _ 2 _ _ _ _ sc_least_table.nd rfl (by first | exact Or.inl rfl | exact Or.inr rfl) (pe_lc (Nt := ["room"]) (Nf := []) (caps := []) rfl (comp_ok (sc := defScope s_least_table) rfl rfl (by decide +kernel) (by decide +kernel) (by decide +kernel) rfl (by decide +kernel)) (kpi_list K (pv 1)) (fun _ _ _ _ _ => (pg_name (i := 0) (show (["room"] : List Str).Nodup by decide +kernel) rfl (by first | exact Or.inl rfl | exact Or.inr rfl))) (fun _ _ _ _ _ => (@pts_nil _)) (fun _ _ _ _ _ => (pe_lc (Nt := ["row"]) (Nf := []) (caps := []) rfl (comp_ok rfl rfl (by decide +kernel) (by decide +kernel) (fun y hy h => absurd h ((show ∀ y ∈ _, y.2 ≠ NameKind.free by decide +kernel) y hy)) rfl (by decide +kernel)) (kpi_list K (@pe_ix _ _ _ _ _ _ _ (kix_tup K) (pv 0) (@pe_int _ _ _ _) (fun _ _ => rfl))) (fun _ _ _ _ _ => (pg_name (i := 0) (show (["row"] : List Str).Nodup by decide +kernel) rfl (by first | exact Or.inl rfl | exact Or.inr rfl))) (fun _ _ _ _ _ => (@pts_nil _)) (fun _ _ _ _ _ => (@pe_ix _ _ _ _ _ _ _ (kix_tup K) (pv 0) (@pe_int _ _ _ _) (fun _ _ => rfl)))))) (by rfl) (by first | exact Or.inl rfl | exact Or.inr rfl))
      (@pss_cons _ _ _ _ _ (@ps_set _ _ 3 _ _ _ _ sc_least_table.nd rfl (by first | exact Or.inl rfl | exact Or.inr rfl) (@pe_call _ _ _ _ _ _ _ _ _ _ _ _ _ _ _ _ G_found_from (hr.mono (by omega)) rfl T.m_found_from T.F_found_from.kp T.b_found_from .nil pass0 (@pa_cons _ _ _ _ _ (pv 2) (@pa_cons _ _ _ _ _ (@pe_int _ _ _ _) (@pa_nil _) (by rfl)) (by rfl)) (by decide) (by rfl) (by rfl)) (by rfl) (by first | exact Or.inl rfl | exact Or.inr rfl))
      (@pss_cons _ _ _ _ _ (@ps_set _ _ 4 _ _ _ _ sc_least_table.nd rfl (by first | exact Or.inl rfl | exact Or.inr rfl) (@pe_callTy _ _ _ _ _ _ _ _ _ (kcl_dict K) (by rfl) T.z_dict bb_dict (@pa_cons _ _ _ _ _ (pe_lc (Nt := ["place", "room"]) (Nf := []) (caps := []) rfl (comp_ok (sc := defScope s_least_table) rfl rfl (by decide +kernel) (by decide +kernel) (by decide +kernel) rfl (by decide +kernel)) (pi_enum K rfl T.z_enumerate (@pa_cons _ _ _ _ _ (pv 3) (@pa_nil _) (by rfl))) (fun _ _ _ _ _ => (kpg_tup K (n := 2) rfl (pgs_cons (pg_name (i := 0) (show (["place", "room"] : List Str).Nodup by decide +kernel) rfl (by first | exact Or.inl rfl | exact Or.inr rfl)) (pgs_cons (pg_name (i := 1) (show (["place", "room"] : List Str).Nodup by decide +kernel) rfl (by first | exact Or.inl rfl | exact Or.inr rfl)) (@pgs_nil _))))) (fun _ _ _ _ _ => (@pts_nil _)) (fun _ _ _ _ _ => (@pe_tupN _ _ _ _ _ (@pa_cons _ _ _ _ _ (pv 1) (@pa_cons _ _ _ _ _ (pv 0) (@pa_nil _) (by rfl)) (by rfl))))) (@pa_nil _) (by rfl)) (by decide) (by decide) (by rfl) (by rfl)) (by rfl) (by first | exact Or.inl rfl | exact Or.inr rfl))
      (@pss_cons _ _ _ _ _ (@ps_set _ _ 5 _ _ _ _ sc_least_table.nd rfl (by first | exact Or.inl rfl | exact Or.inr rfl) (@pe_call _ _ _ _ _ _ _ _ _ _ _ _ _ _ _ _ G_put_together (hr.mono (by omega)) rfl T.m_put_together T.F_put_together.kp T.b_put_together .nil pass0 (@pa_cons _ _ _ _ _ (pe_lc (Nt := ["room"]) (Nf := ["rooms"]) (caps := [1]) rfl (comp_ok (sc := defScope s_least_table) rfl rfl (by decide +kernel) (by decide +kernel) (by decide +kernel) rfl (by decide +kernel)) (kpi_list K (pv 3)) (fun _ _ _ _ _ => (pg_name (i := 0) (show (["room", "rooms"] : List Str).Nodup by decide +kernel) rfl (by first | exact Or.inl rfl | exact Or.inr rfl))) (fun _ _ _ _ _ => (@pts_nil _)) (fun _ _ _ _ _ => (@pe_call _ _ _ _ _ _ _ _ _ _ _ _ _ _ _ _ G_label_of (hr.mono (by omega)) rfl T.m_label_of T.F_label_of.kp T.b_label_of .nil pass0 (@pa_cons _ _ _ _ _ (@pe_ix _ _ _ _ _ _ _ (kix_list K) (pv 1) (pv 0) (fun _ _ => rfl)) (@pa_nil _) (by rfl)) (by decide) (by rfl) (by rfl)))) (@pa_cons _ _ _ _ _ (pe_lc (Nt := ["room"]) (Nf := ["ways", "places"]) (caps := [2, 4]) rfl (comp_ok (sc := defScope s_least_table) rfl rfl (by decide +kernel) (by decide +kernel) (by decide +kernel) rfl (by decide +kernel)) (kpi_list K (pv 3)) (fun _ _ _ _ _ => (pg_name (i := 0) (show (["room", "ways", "places"] : List Str).Nodup by decide +kernel) rfl (by first | exact Or.inl rfl | exact Or.inr rfl))) (fun _ _ _ _ _ => (@pts_nil _)) (fun _ _ _ _ _ => (pe_lc (Nt := ["way"]) (Nf := ["places"]) (caps := [2]) rfl (comp_ok (cxC_scope (sc0 := defScope s_least_table) rfl) rfl (by decide +kernel) (by decide +kernel) (by decide +kernel) rfl (by decide +kernel)) (kpi_list K (@pe_ix _ _ _ _ _ _ _ (kix_list K) (pv 1) (pv 0) (fun _ _ => rfl))) (fun _ _ _ _ _ => (pg_name (i := 0) (show (["way", "places"] : List Str).Nodup by decide +kernel) rfl (by first | exact Or.inl rfl | exact Or.inr rfl))) (fun _ _ _ _ _ => (@pts_nil _)) (fun _ _ _ _ _ => (@pe_dget _ _ _ _ _ _ (by exact hu_of hr) (pv 1) (pv 0) (fun _ _ => rfl)))))) (@pa_nil _) (by rfl)) (by rfl)) (by decide) (by rfl) (by rfl)) (by rfl) (by first | exact Or.inl rfl | exact Or.inr rfl))
      (@pss_cons _ _ _ _ _ (@ps_set _ _ 6 _ _ _ _ sc_least_table.nd rfl (by first | exact Or.inl rfl | exact Or.inr rfl) (pe_lc (Nt := ["room"]) (Nf := ["places", "groups"]) (caps := [4, 5]) rfl (comp_ok (sc := defScope s_least_table) rfl rfl (by decide +kernel) (by decide +kernel) (by decide +kernel) rfl (by decide +kernel)) (pi_range1 rfl T.z_range (@pa_cons _ _ _ _ _ (@pe_callB _ _ _ _ _ _ _ _ _ (kcl_len K) (by rfl) T.z_len bb_len (@pa_cons _ _ _ _ _ (pv 1) (@pa_nil _) (by rfl)) (by decide) (by decide) (by rfl) (by rfl)) (@pa_nil _) (by rfl))) (fun _ _ _ _ _ => (pg_name (i := 0) (show (["room", "places", "groups"] : List Str).Nodup by decide +kernel) rfl (by first | exact Or.inl rfl | exact Or.inr rfl))) (fun _ _ _ _ _ => (@pts_nil _)) (fun _ _ _ _ _ => (@pe_ifExp _ _ _ _ _ _ _ _ (pt_cmp (pc_din (by exact hu_of hr) (pv 0) (pv 1))) (@pe_ix _ _ _ _ _ _ _ (kix_list K) (pv 2) (@pe_dget _ _ _ _ _ _ (by exact hu_of hr) (pv 1) (pv 0) (fun _ _ => rfl)) (fun _ _ => rfl)) (@pe_non _ _ _)))) (by rfl) (by first | exact Or.inl rfl | exact Or.inr rfl))
      (@pss_cons _ _ _ _ _ (ps_lc (i := 7) (Nt := ["place"]) (Nf := ["rooms", "found", "numbers"]) (caps := [1, 3, 6]) rfl (comp_ok (sc := defScope s_least_table) rfl rfl (by decide +kernel) (by decide +kernel) (by decide +kernel) rfl (by decide +kernel)) (kpi_list K (@pe_call _ _ _ _ _ _ _ _ _ _ _ _ _ _ _ _ G_firsts (hr.mono (by omega)) rfl T.m_firsts T.F_firsts.kp T.b_firsts .nil pass0 (@pa_cons _ _ _ _ _ (pv 5) (@pa_nil _) (by rfl)) (by decide) (by rfl) (by rfl))) (fun _ _ _ _ _ => (pg_name (i := 0) (show (["place", "rooms", "found", "numbers"] : List Str).Nodup by decide +kernel) rfl (by first | exact Or.inl rfl | exact Or.inr rfl))) (fun _ _ _ _ _ => (@pts_nil _)) (fun _ _ _ _ _ => (@pe_call _ _ _ _ _ _ _ _ _ _ _ _ _ _ _ _ G_room_with (hr.mono (by omega)) rfl T.m_room_with T.F_room_with.kp T.b_room_with .nil pass0 (@pa_cons _ _ _ _ _ (@pe_ix _ _ _ _ _ _ _ (kix_list K) (pv 1) (@pe_ix _ _ _ _ _ _ _ (kix_list K) (pv 2) (pv 0) (fun _ _ => rfl)) (fun _ _ => rfl)) (@pa_cons _ _ _ _ _ (pv 3) (@pa_nil _) (by rfl)) (by rfl)) (by decide) (by rfl) (by rfl))) sc_least_table.nd rfl (by first | exact Or.inl rfl | exact Or.inr rfl) rfl)
      (@pss_one _ _ _ (@ps_ret _ _ _ _ (@pe_tupN _ _ _ _ _ (@pa_cons _ _ _ _ _ (@pe_tupN _ _ _ _ _ (@pa_cons _ _ _ _ _ (@pe_callTy _ _ _ _ _ _ _ _ _ (kcl_list K) (by rfl) T.z_list bb_list (@pa_cons _ _ _ _ _ (@pe_ix _ _ _ _ _ _ _ (kix_tup K) (pv 0) (@pe_int _ _ _ _) (fun _ _ => rfl)) (@pa_nil _) (by rfl)) (by decide) (by decide) (by rfl) (by rfl)) (@pa_cons _ _ _ _ _ (@pe_callTy _ _ _ _ _ _ _ _ _ (kcl_list K) (by rfl) T.z_list bb_list (@pa_cons _ _ _ _ _ (@pe_ix _ _ _ _ _ _ _ (kix_tup K) (pv 0) (@pe_int _ _ _ _) (fun _ _ => rfl)) (@pa_nil _) (by rfl)) (by decide) (by decide) (by rfl) (by rfl)) (@pa_cons _ _ _ _ _ (pv 7) (@pa_nil _) (by rfl)) (by rfl)) (by rfl))) (@pa_cons _ _ _ _ _ (pv 6) (@pa_nil _) (by rfl)) (by rfl)))))))))))), ?_⟩
    have sl : (1000000 : Nat) ≤ sizeLine := le_line (Nat.le_refl _)
    have hrl : rvs.length = rs.length := h5.1
    have nm := ok.nm
    have room : ∀ {x : Nat}, x < rs.length → ∃ v, rvs[x]? = some v ∧ RoomAt H v (roomA rs x) := fun hx => h5.get (roomA_of hx)
    walk_at "go"
    refine i_ixT (SqT.of h1) (atI_nat (j := 2) rfl) ?_
    walk_at "run"
    refine ⟨⟨_, SqL.of h4⟩, cc_list (xs := rvs) (by omega) (fun i acc H' => i ≤ rs.length ∧ Same H H' ∧ acc.length = i ∧ ∀ j, j < i → ∃ p, acc[j]? = some (.ref p) ∧ H' p = some (.lst (natsV (nxR rs j)))) ⟨Nat.zero_le _, Same.refl _, rfl, fun j hj => absurd hj (Nat.not_lt_zero _)⟩ (fun i acc H' ⟨_, s', e, _⟩ => ⟨by omega, SqL.of (s' _ _ h4)⟩) ?_ ?_⟩
    · rintro i v acc H1 hv ⟨hi, s1, ea, hacc⟩
      have hi' : i < rs.length := by rw [← hrl]; exact (List.getElem?_eq_some_iff.mp hv).1
      obtain ⟨v', hv', b1, g, ps, rfl, hb1, hg, hps⟩ := room hi'
      rw [hv] at hv'
      cases hv'
      have pl : ps.length = us.length := by
        rw [hps.1]
        exact (ok.rows _ (List.mem_of_getElem? (roomA_of hi'))).1
      walk_at "run"
      refine i_ixT (SqT.of (s1 _ _ hb1)) (atI_nat (j := 1) rfl) ?_
      walk_at "run"
      refine ⟨⟨_, SqL.of (s1 _ _ hg)⟩, cc_list (xs := ps) (by omega) (fun j acc H' => H' = H1 ∧ j ≤ ps.length ∧ acc = natsV ((nxR rs i).take j)) ⟨rfl, Nat.zero_le _, rfl⟩ (fun j acc H' ⟨e, _, ea⟩ => ⟨by rw [ea, natsV_len]; simp; omega, e ▸ SqL.of (s1 _ _ hg)⟩) ?_ ?_⟩
      · rintro j w0 acc H2 hw ⟨rfl, hj, rfl⟩
        have hj' := (List.getElem?_eq_some_iff.mp hw).1
        obtain ⟨w1, hw1⟩ : ∃ w1, (roomA rs i).2[j]? = some w1 := ⟨_, List.getElem?_eq_getElem (by rw [← hps.1]; exact hj')⟩
        obtain ⟨k, sl', rfl, hk, _⟩ := hps.2 j w0 w1 hw hw1
        walk_at "run"
        refine i_ixT (SqT.of (s1 _ _ hk)) (atI_nat (j := 1) rfl) ?_
        refine ⟨rfl, hj', ?_⟩
        unfold nxR
        rw [natsV_snoc, List.take_add_one, List.getElem?_map, hw1]
        rfl
      · rintro acc' H2 ⟨rfl, _, rfl⟩ p3 H3 f3 s3 e3
        rw [pl, show (nxR rs i).take us.length = nxR rs i from List.take_of_length_le (Nat.le_of_eq (nxR_lt ok hi').1)] at e3
        refine ⟨hi', s1.trans s3, by simp [ea], fun j hj => ?_⟩
        by_cases z : j < i
        · obtain ⟨p, z1, z2⟩ := hacc j z
          exact ⟨p, by rw [List.getElem?_append_left (by omega)]; exact z1, s3 _ _ z2⟩
        · have : j = i := by omega
          subst this
          exact ⟨p3, by rw [List.getElem?_append_right (by omega), ea]; simp, e3⟩
    · rintro ws H1 ⟨_, s1, ea, hacc⟩ pw H2 f2 s2 e2
      have hws : Lsts H2 ws (nxR rs) rs.length := ⟨by omega, fun j hj => by
        obtain ⟨p, z1, z2⟩ := hacc j (by omega)
        exact ⟨p, z1, s2 _ _ z2⟩⟩
      have s02 := s1.trans s2
      clear hacc
      walk_at "run"
      have hB := fdR_ok ok r0
      have hfl := hB.few
      refine ⟨pw, ws, nxR rs, rs.length, 0, rfl, e2, hws, r0, by omega, fun k hk j hj => (nxR_lt ok hk).2 j hj, fun pf H3 f3 s3 e3 => ?_⟩
      have e3 : H3 pf = some (.lst (natsV (fdR rs))) := e3
      have s03 := s02.trans s3
      walk_at "run"
      refine ⟨⟨_, SqL.of e3⟩, cc_enum (xs := natsV (fdR rs)) (by rw [natsV_len]; omega) (fun i acc H' => i ≤ (fdR rs).length ∧ Same H3 H' ∧ acc.length = i ∧ PrK H' acc (plF ((fdR rs).take i) 0)) ⟨Nat.zero_le _, Same.refl _, rfl, .nil⟩ (fun i acc H' ⟨_, s', e, _⟩ => ⟨by omega, SqL.of (s' _ _ e3)⟩) ?_ ?_⟩
      · rintro i v acc H4 H5 hv ⟨hi, s4, ea, hpr⟩ s5
        obtain ⟨x, hx, rfl⟩ := natsV_get hv
        have hi' := (List.getElem?_eq_some_iff.mp hx).1
        walk_at "run"
        intro p6 H6 f6 s6 e6
        refine ⟨hi', s4.trans (s5.trans s6), by simp [ea], ?_⟩
        rw [List.take_add_one, hx, Option.toList_some, plF_snoc, show 0 + ((fdR rs).take i).length = i by simp; omega]
        exact (hpr.mono (s5.trans s6).tups).snoc (k := Sum.inl (x : Int)) e6
      · rintro acc H4 ⟨_, s4, ea, hpr⟩ p5 H5 f5 s5 e5
        rw [natsV_len, List.take_length] at hpr
        walk_at "run"
        refine i_dictP (SqL.of e5) (hpr.mono s5.tups) ?_
        intro pp H6 f6 s6 e6
        have hval : ∀ x : Nat, valV (mergeK [] (plF (fdR rs) 0)) (Sum.inl (x : Int)) = if x ∈ fdR rs then some (.int ((fdR rs).idxOf x : Nat)) else none := fun x => by
          rw [plF_val hB.nd]
          simp [valV_nil]
        generalize mergeK [] (plF (fdR rs) 0) = kvs at hval e6
        have s36 := s4.trans (s5.trans s6)
        have s06 := s03.trans s36
        clear hpr
        walk_at "run"
        have e36 := s36 _ _ e3
        refine ⟨⟨_, SqL.of e36⟩, cc_list (xs := natsV (fdR rs)) (by rw [natsV_len]; omega) (fun i acc H' => i ≤ (fdR rs).length ∧ Same H6 H' ∧ acc.length = i ∧ Tr.AtsB H' (((fdR rs).take i).map fun x => labT (labR rs us.length x)) acc) ⟨Nat.zero_le _, Same.refl _, rfl, rfl⟩ (fun i acc H' ⟨_, s', e, _⟩ => ⟨by omega, SqL.of (s' _ _ e36)⟩) ?_ ?_⟩
        · rintro i v acc H7 hv ⟨hi, s7, ea, hat⟩
          obtain ⟨x, hx, rfl⟩ := natsV_get hv
          have hi' := (List.getElem?_eq_some_iff.mp hx).1
          have hxl := hB.lt x (List.mem_of_getElem? hx)
          obtain ⟨v, hv1, hv2⟩ := room hxl
          have s07 := s06.trans s7
          walk_at "run"
          refine i_ixL (SqL.of (s07 _ _ h4)) (atI_nat hv1) ?_
          walk_at "run"
          have hrow := (ok.rows _ (List.mem_of_getElem? (roomA_of hxl))).1
          refine ⟨v, roomA rs x, rfl, hv2.same s07, by omega, fun u H8 s8 hu => ?_⟩
          refine ⟨hi', s7.trans s8, by simp [ea], ?_⟩
          rw [List.take_add_one, hx, Option.toList_some, List.map_append]
          refine (hat.tups s8.tups).snoc ?_
          have : labR rs us.length x = ((roomA rs x).1, (roomA rs x).2.map (·.1)) := by
            unfold labR
            congr 1
            refine List.ext_getElem? fun j => ?_
            by_cases hj : j < us.length
            · rw [List.getElem?_map, List.getElem?_range hj, List.getElem?_map, (rowA_lt ok hxl hj).2.2]
              rfl
            · rw [List.getElem?_eq_none (by simp; omega), List.getElem?_eq_none (by simp; omega)]
          show Tr.AtB H8 (labT (labR rs us.length x)) u
          rw [this]
          exact hu
        · rintro lbs H7 ⟨_, s7, el, hat⟩ pl H8 f8 s8 e8
          rw [natsV_len, List.take_length] at hat
          have hat := hat.tups s8.tups
          have s68 := s7.trans s8
          have s08 := s06.trans s68
          have e38 := s68 _ _ e36
          have e68 := s68 _ _ e6
          walk_at "run"
          refine ⟨⟨_, SqL.of e38⟩, cc_list (xs := natsV (fdR rs)) (by rw [natsV_len]; omega) (fun i acc H' => i ≤ (fdR rs).length ∧ Same H8 H' ∧ acc.length = i ∧ ∀ j, j < i → ∃ p, acc[j]? = some (.ref p) ∧ H' p = some (.lst (natsV (nwP rs j)))) ⟨Nat.zero_le _, Same.refl _, rfl, fun j hj => absurd hj (Nat.not_lt_zero _)⟩ (fun i acc H' ⟨_, s', e, _⟩ => ⟨by omega, SqL.of (s' _ _ e38)⟩) ?_ ?_⟩
          · rintro i v acc H9 hv ⟨hi, s9, ea, hacc⟩
            obtain ⟨x, hx, rfl⟩ := natsV_get hv
            have hi' := (List.getElem?_eq_some_iff.mp hx).1
            have hxm := List.mem_of_getElem? hx
            have hxl := hB.lt x hxm
            have hcl := hB.cl i x hi' hx
            have s29 := s3.trans (s36.trans (s68.trans s9))
            obtain ⟨px, w1, w2⟩ := hws.2 x hxl
            walk_at "run"
            refine i_ixL (SqL.of (s29 _ _ e2)) (atI_nat w1) ?_
            walk_at "run"
            have w2 := s29 _ _ w2
            have hnl := (nxR_lt ok hxl).1
            refine ⟨⟨_, SqL.of w2⟩, cc_list (xs := natsV (nxR rs x)) (by rw [natsV_len]; omega) (fun j acc H' => H' = H9 ∧ j ≤ (nxR rs x).length ∧ acc = natsV (((nxR rs x).map fun x => (fdR rs).idxOf x).take j)) ⟨rfl, Nat.zero_le _, rfl⟩ (fun j acc H' ⟨e, _, ea⟩ => ⟨by rw [ea, natsV_len]; simp; omega, e ▸ SqL.of w2⟩) ?_ ?_⟩
            · rintro j v acc H10 hv ⟨rfl, hj, rfl⟩
              obtain ⟨k, hk, rfl⟩ := natsV_get hv
              have hkm := hcl k (List.mem_of_getElem? hk)
              walk_at "run"
              refine ⟨pp, .int ((fdR rs).idxOf k : Nat), rfl, (by have := DGet.k (k := Sum.inl ((k : Nat) : Int)) (s9 _ _ e68); rw [hval, if_pos hkm] at this; exact this), ?_⟩
              refine ⟨rfl, (List.getElem?_eq_some_iff.mp hk).1, ?_⟩
              rw [natsV_snoc, List.take_add_one, List.getElem?_map, hk]
              rfl
            · rintro acc' H10 ⟨rfl, _, rfl⟩ p11 H11 f11 s11 e11
              rw [natsV_len, show ((nxR rs x).map fun x => (fdR rs).idxOf x).take (nxR rs x).length = nwP rs i from by
                unfold nwP
                rw [getD_of hx, List.take_of_length_le (by simp)]] at e11
              refine ⟨hi', s9.trans s11, by simp [ea], fun j hj => ?_⟩
              by_cases z : j < i
              · obtain ⟨p, z1, z2⟩ := hacc j z
                exact ⟨p, by rw [List.getElem?_append_left (by omega)]; exact z1, s11 _ _ z2⟩
              · have : j = i := by omega
                subst this
                exact ⟨p11, by rw [List.getElem?_append_right (by omega), ea]; simp, e11⟩
          · rintro ws2 H9 ⟨_, s9, ea2, hacc⟩ pw2 H10 f10 s10 e10
            rw [natsV_len] at hacc ea2
            have s810 := s9.trans s10
            have hws2 : Lsts H10 ws2 (nwP rs) (fdR rs).length := ⟨ea2, fun j hj => by
              obtain ⟨p, z1, z2⟩ := hacc j hj
              exact ⟨p, z1, s10 _ _ z2⟩⟩
            clear hacc
            walk_at "run"
            refine ⟨pl, pw2, lbs, ws2, Bool × List (List Str), (fun _ _ => Classical.propDecidable _), labT, (fdR rs).map (labR rs us.length), wwP rs, us.length, nwP rs, (fdR rs).length, rfl, s810 _ _ e8, by rw [List.map_map]; exact hat.tups s810.tups, (fun a b => labT_inj), labT_h, by simp, e10, hws2, by omega, nm, fun a ha => (wwP_ok ok r0 ha).1, fun a j ha hj => ((wwP_ok ok r0 ha).2 j hj).1, fun pg H11 f11 s11 e11 => ?_⟩
            rw [like_rooms ok r0] at e11
            have s011 := s08.trans (s810.trans s11)
            have s811 := s810.trans s11
            have s611 := s68.trans s811
            clear hat hws2
            walk_at "run"
            refine i_lenL (SqL.of (s011 _ _ h4)) ?_
            rw [hrl]
            walk_at "run"
            rw [Int.toNat_natCast]
            have e511 := s611 _ _ e6
            refine cc_range (lo := 0) (n := rs.length) (by omega) (fun i acc H' => H' = H11 ∧ i ≤ rs.length ∧ acc = waysV ((numR rs us.length).take i)) ⟨rfl, Nat.zero_le _, rfl⟩ (fun i acc H' ⟨_, hi, e⟩ => by rw [e]; simp [waysV]; omega) ?_ ?_
            · rintro i acc H12 hi ⟨rfl, _, rfl⟩
              rw [show (0 : Int) + ((i : Nat) : Int) = ((i : Nat) : Int) by omega]
              have hnx : (numR rs us.length).take (i + 1) = (numR rs us.length).take i ++ [if i ∈ fdR rs then some (numOf rs us.length i) else none] := by rw [List.take_add_one, numR_at hi]; rfl
              walk_at "run"
              refine ⟨pp, _, rfl, DGet.k (k := Sum.inl ((i : Nat) : Int)) e511, ?_⟩
              rw [hval]
              by_cases hm : i ∈ fdR rs
              · rw [if_pos hm] at hnx ⊢
                refine ⟨true, rfl, i_itT ?_⟩
                walk_at "run"
                refine ⟨pp, .int ((fdR rs).idxOf i : Nat), rfl, (by have := DGet.k (k := Sum.inl ((i : Nat) : Int)) e511; rw [hval, if_pos hm] at this; exact this), ?_⟩
                have hix := List.idxOf_lt_length_of_mem hm
                refine i_ixL (SqL.of e11) (atI_nats (by rw [gsR_len]; exact hix)) ?_
                refine ⟨rfl, hi, ?_⟩
                rw [hnx]
                unfold waysV
                rw [List.map_append]
                rfl
              · rw [if_neg hm] at hnx ⊢
                refine ⟨false, rfl, i_itF ?_⟩
                walk_at "run"
                refine ⟨rfl, hi, ?_⟩
                rw [hnx]
                unfold waysV
                rw [List.map_append]
                rfl
            · rintro acc H12 ⟨rfl, _, rfl⟩ pn H13 f13 s13 e13
              rw [show (numR rs us.length).take rs.length = numR rs us.length from List.take_of_length_le (by simp [numR])] at e13
              walk_at "run"
              have gl := gsR_len rs us.length
              refine ⟨pg, gsR rs us.length, rfl, SqL.of (s13 _ _ e11), by omega, fun pz H14 f14 s14 e14 => ?_⟩
              have e14 : H14 pz = some (.lst (natsV (fsR rs us.length))) := e14
              walk_at "run"
              have fl : (fsR rs us.length).length ≤ 60 := by
                have := mets_len (gsR rs us.length)
                simp [fsR]
                omega
              have s1114 := s13.trans s14
              refine ⟨⟨_, SqL.of e14⟩, cc_list (xs := natsV (fsR rs us.length)) (by rw [natsV_len]; omega) (fun i acc H' => i ≤ (fsR rs us.length).length ∧ Same H14 H' ∧ acc.length = i ∧ Each (RoomAt H') acc ((lstR rs us.length).take i)) ⟨Nat.zero_le _, Same.refl _, rfl, by simpa using Each.nil⟩ (fun i acc H' ⟨_, s', e, _⟩ => ⟨by omega, SqL.of (s' _ _ e14)⟩) ?_ ?_⟩
              · rintro i v acc H15 hv ⟨hi, s15, ea, hE⟩
                obtain ⟨pl0, hpl, rfl⟩ := natsV_get hv
                have hi' := (List.getElem?_eq_some_iff.mp hpl).1
                have hpf : pl0 < (fdR rs).length := by
                  have := List.mem_of_getElem? hpl
                  unfold fsR at this
                  obtain ⟨k, hk, rfl⟩ := List.mem_map.mp this
                  rw [← gl]
                  exact List.idxOf_lt_length_of_mem ((mets_mem _ _).mp hk)
                obtain ⟨hy, hym⟩ := fd_get hpf
                have hyl := hB.lt _ hym
                have hcl := hB.cl pl0 _ hpf hy
                generalize hyy : (fdR rs).getD pl0 0 = y at hy hym hyl hcl
                obtain ⟨v, hv1, hv2⟩ := room hyl
                have s015 := s011.trans (s1114.trans s15)
                have s315 := s36.trans (s611.trans (s1114.trans s15))
                walk_at "run"
                refine i_ixL (SqL.of (s315 _ _ e3)) (atI_nats hpf) ?_
                rw [hyy]
                refine i_ixL (SqL.of (s015 _ _ h4)) (atI_nat hv1) ?_
                walk_at "run"
                have hrow := (ok.rows _ (List.mem_of_getElem? (roomA_of hyl)))
                refine ⟨v, pn, _, numOf rs us.length, roomA rs y, rfl, hv2.same s015, (s14.trans s15) _ _ e13, fun x hx => ?_, by omega, fun u H16 s16 hu => ?_⟩
                · have hxm : x.2 ∈ fdR rs := hcl x.2 (List.mem_map_of_mem hx)
                  have := waysV_at (numR_at (many := us.length) (hrow.2 x hx))
                  rw [if_pos hxm] at this
                  exact this
                · refine ⟨hi', s15.trans s16, by simp [ea], ?_⟩
                  rw [List.take_add_one, show (lstR rs us.length)[i]? = some (rwR rs us.length (roomA rs y)) by unfold lstR; rw [List.getElem?_map, hpl]; simp only [Option.map_some]; rw [hyy], Option.toList_some]
                  exact (hE.mono fun v x h => h.same s16).snoc hu
              · rintro lv H15 ⟨_, s15, ea3, hE⟩ pc H16 f16 s16 e16
                rw [natsV_len, show (lstR rs us.length).take (fsR rs us.length).length = lstR rs us.length from List.take_of_length_le (by simp [lstR])] at hE
                have s016 := s011.trans (s1114.trans (s15.trans s16))
                walk_at "run"
                refine i_ixT (SqT.of (s016 _ _ h1)) (atI_nat (j := 0) rfl) ?_
                walk_at "run"
                refine i_listL (SqL.of (s016 _ _ h2)) ?_
                intro p17 H17 f17 s17 e17
                walk_at "run"
                refine i_ixT (SqT.of ((s016.trans s17) _ _ h1)) (atI_nat (j := 1) rfl) ?_
                walk_at "run"
                refine i_listL (SqL.of ((s016.trans s17) _ _ h3)) ?_
                intro p18 H18 f18 s18 e18
                walk_at "run"
                intro p19 H19 f19 s19 e19
                walk_at "run"
                intro p20 H20 f20 s20 e20
                have s1620 := s17.trans (s18.trans (s19.trans s20))
                exact q p20 pn H20 (s016.trans s1620) ⟨p19, p17, p18, pc, lv, e20, s20 _ _ e19, (s18.trans (s19.trans s20)) _ _ e17, (s19.trans s20) _ _ e18, s1620 _ _ e16, hE.mono fun v x h => h.same (s16.trans s1620), (s14.trans (s15.trans (s16.trans s1620))) _ _ e13⟩
def sp_deck (K : PySem.W.Frag) : Sp := fun vs H Q _ => ∃ (a : Addr) (ns : List Int), vs = [.ref a] ∧ SqL K H a (ns.map V.int) ∧ ns.length ≤ 63 ∧ ∀ d l H', H d = none → H l = none → Same H H' → Deck H' d l 0 → Q (.ref d) H'
theorem ok_law_deck (T : Txt K mg t) : FnOk P w K mg base CX0 1 t.a__law_deck t.fd__law_deck ["script"] (sp_deck K) := by
  refine T.F__law_deck.ok sc_law_deck (fun vs H Q E h => ?_) (fun cdv A outer s H vs Q E hr h => ?_)
  · obtain ⟨a, ns, rfl, _⟩ := h
    rfl
  · obtain ⟨a, ns, rfl, hS, hl, q⟩ := h
    refine ⟨_, (@pss_one _ _ _ (@ps_ret _ _ _ _ (@pe_lstN _ _ _ _ (@pa_cons _ _ _ _ _ (pe_lc (Nt := ["cell"]) (Nf := []) (caps := []) rfl (comp_ok (sc := defScope s_law_deck) rfl rfl (by decide +kernel) (by decide +kernel) (by decide +kernel) rfl (by decide +kernel)) (kpi_list K (@pe_slice _ _ _ _ _ _ _ _ _ _ (ksl_list K) (pv 0) (@po_none _) (@po_some _ _ _ (@pe_int _ _ _ _)))) (fun _ _ _ _ _ => (pg_name (i := 0) (show (["cell"] : List Str).Nodup by decide +kernel) rfl (by first | exact Or.inl rfl | exact Or.inr rfl))) (fun _ _ _ _ _ => (@pts_nil _)) (fun _ _ _ _ _ => (@pe_op _ _ _ _ _ _ _ _ op_fdiv (pv 0) (@pe_int _ _ _ _)))) (@pa_cons _ _ _ _ _ (@pe_int _ _ _ _) (@pa_cons _ _ _ _ _ (@pe_op _ _ _ _ _ _ _ _ op_mod (@pe_callB _ _ _ _ _ _ _ _ _ (kcl_sum K) (by rfl) T.z_sum bb_sum (@pa_cons _ _ _ _ _ (@pe_slice _ _ _ _ _ _ _ _ _ _ (ksl_list K) (pv 0) (@po_none _) (@po_some _ _ _ (@pe_int _ _ _ _))) (@pa_nil _) (by rfl)) (by decide) (by decide) (by rfl) (by rfl)) (@pe_int _ _ _ _)) (@pa_nil _) (by rfl)) (by rfl)) (by rfl))))), ?_⟩
    walk_at "go"
    refine i_slL hS ?_
    intro p1 H1 f1 s1 e1
    rw [show cutV (ns.map V.int) none (some 63) = (ns.take 63).map V.int from cut_to (k := 63)] at e1
    have hls : (ns.take 63).length ≤ 63 := by simp; omega
    generalize ns.take 63 = ls at e1 hls
    refine ⟨p1, rfl, ⟨_, SqL.of e1⟩, cc_list (xs := ls.map V.int) (le_line (by simp; omega)) (fun i acc H' => H' = H1 ∧ i ≤ ls.length ∧ acc = (ls.take i).map (fun z => V.int (z / 2))) ⟨rfl, Nat.zero_le _, rfl⟩ (fun i acc H' ⟨e0, hi, e⟩ => ⟨by rw [e]; simp only [List.length_map, List.length_take]; omega, e0 ▸ SqL.of e1⟩) ?_ ?_⟩
    · rintro i x acc H' hx ⟨rfl, hi, rfl⟩
      obtain ⟨z, hz, rfl⟩ : ∃ z, ls[i]? = some z ∧ x = V.int z := by
        rw [List.getElem?_map] at hx
        obtain ⟨z, hz, rfl⟩ := Option.map_eq_some_iff.mp hx
        exact ⟨z, hz, rfl⟩
      walk_at "run"
      refine ⟨rfl, (List.getElem?_eq_some_iff.mp hz).1, ?_⟩
      rw [List.take_add_one, hz]
      simp
    · rintro acc H' ⟨rfl, _, rfl⟩
      intro p2 H2 f2 s2 e2
      walk_at "run"
      refine i_slL ((s1.trans s2).seq hS) ?_
      intro p3 H3 f3 s3 e3
      rw [show cutV (ns.map V.int) none (some 1) = (ns.take 1).map V.int from cut_to (k := 1)] at e3
      walk_at "run"
      refine i_sum (SqL.of e3) ?_
      walk_at "run"
      intro p4 H4 f4 s4 e4
      have s14 := s1.trans (s2.trans (s3.trans s4))
      refine q p4 p2 H4 ((s1.trans (s2.trans s3)).free f4) (s1.free f2) s14 ⟨ls.map (· / 2), _, e4, ?_, by simp; omega⟩
      have := (s3.trans s4) _ _ e2
      rw [this, List.length_map, List.take_length, List.map_map]
      rfl
theorem mod_nat (x : Int) {m : Nat} (h : 0 < m) : ∃ r : Nat, r < m ∧ x % (m : Int) = (r : Nat) := ⟨(x % (m : Int)).toNat, by
  have h1 := Int.emod_nonneg x (show (m : Int) ≠ 0 by omega)
  have h2 := Int.emod_lt_of_pos x (show (0 : Int) < (m : Int) by omega)
  omega, by
  have h1 := Int.emod_nonneg x (show (m : Int) ≠ 0 by omega)
  omega⟩
theorem cb {i j : Int} (h1 : -1000000000000000000 < i) (h2 : i < 1000000000000000000) : CBig i j := .inr (.inl ⟨by omega, by omega⟩)
theorem off_upd {H : Hp} {d l : Addr} {o : HO} : Off d l H (upd H d o) := fun b u h1 _ e => by rw [upd_ne h1]; exact e
def sp_next (K : PySem.W.Frag) : Sp := fun vs H Q _ => ∃ (d l : Addr) (n : Nat), vs = [.ref d] ∧ Deck H d l n ∧ n ≤ 100000 ∧ ∀ (r : Nat) H', r < 1000000000 → Off d l H H' → Deck H' d l (n + 1) → Q (.int (r : Nat)) H'
theorem ok_law_next (T : Txt K mg t) : FnOk P w K mg base CX0 1 t.a__law_next t.fd__law_next ["deck"] (sp_next K) := by
  refine T.F__law_next.ok sc_law_next (fun vs H Q E h => ?_) (fun cdv A outer s H vs Q E hr h => ?_)
  · obtain ⟨d, l, n, rfl, _⟩ := h
    rfl
  · obtain ⟨d, l, n, rfl, k, hn, q⟩ := h
    refine ⟨_, (@pss_cons _ _ _ _ _ (@ps_set _ _ 1 _ _ _ _ sc_law_next.nd rfl (by first | exact Or.inl rfl | exact Or.inr rfl) (@pe_ix _ _ _ _ _ _ _ (kix_list K) (pv 0) (@pe_int _ _ _ _) (fun _ _ => rfl)) (by rfl) (by first | exact Or.inl rfl | exact Or.inr rfl))
      (@pss_cons _ _ _ _ _ (@ps_asg _ _ _ _ _ _ (@pe_op _ _ _ _ _ _ _ _ op_plus (pv 1) (@pe_int _ _ _ _)) (pg_sub (pv 0) (@pe_int _ _ _ _) set_list) (by rfl) (by rfl) (by rfl))
      (@pss_cons _ _ _ _ _ (@ps_set _ _ 2 _ _ _ _ sc_law_next.nd rfl (by first | exact Or.inl rfl | exact Or.inr rfl) (@pe_callB _ _ _ _ _ _ _ _ _ kcall_max2 (by rfl) T.z_max bb_max (@pa_cons _ _ _ _ _ (@pe_int _ _ _ _) (@pa_cons _ _ _ _ _ (@pe_callB _ _ _ _ _ _ _ _ _ (kcl_len K) (by rfl) T.z_len bb_len (@pa_cons _ _ _ _ _ (@pe_ix _ _ _ _ _ _ _ (kix_list K) (pv 0) (@pe_int _ _ _ _) (fun _ _ => rfl)) (@pa_nil _) (by rfl)) (by decide) (by decide) (by rfl) (by rfl)) (@pa_nil _) (by rfl)) (by rfl)) (by decide) (by decide) (by rfl) (by rfl)) (by rfl) (by first | exact Or.inl rfl | exact Or.inr rfl))
      (@pss_cons _ _ _ _ _ (@ps_set _ _ 3 _ _ _ _ sc_law_next.nd rfl (by first | exact Or.inl rfl | exact Or.inr rfl) (@pe_int _ _ _ _) (by rfl) (by first | exact Or.inl rfl | exact Or.inr rfl))
      (@pss_consC _ _ _ _ _ (@ps_if _ _ _ _ _ _ _ _ (@pt_cmpR _ _ _ _ _ _ _ _ (kop_neNil K (by exact hr.units)) (@pe_ix _ _ _ _ _ _ _ (kix_list K) (pv 0) (@pe_int _ _ _ _) (fun _ _ => rfl)) (@pe_lstN _ _ _ _ (@pa_nil _)) (nomark _)) (@pss_one _ _ _ (@ps_set _ _ 3 _ _ _ _ sc_law_next.nd rfl (by first | exact Or.inl rfl | exact Or.inr rfl) (@pe_ix _ _ _ _ _ _ _ (kix_list K) (@pe_ix _ _ _ _ _ _ _ (kix_list K) (pv 0) (@pe_int _ _ _ _) (fun _ _ => rfl)) (@pe_op _ _ _ _ _ _ _ _ op_mod (pv 1) (pv 2)) (fun _ _ => rfl)) (by rfl) (by first | exact Or.inl rfl | exact Or.inr rfl))) (@pss_nil _))
      (@pss_cons _ _ _ _ _ (@ps_if _ _ _ _ _ _ _ _ (@pt_cmpR _ _ _ _ _ _ _ _ op_eq (@pe_ix _ _ _ _ _ _ _ (kix_list K) (pv 0) (@pe_int _ _ _ _) (fun _ _ => rfl)) (@pe_int _ _ _ _) (nomark _)) (@pss_cons _ _ _ _ _ (@ps_for _ _ _ _ _ _ _ _ PassesOwn.never rfl (pi_range1 rfl T.z_range (@pa_cons _ _ _ _ _ (@pe_callB _ _ _ _ _ _ _ _ _ kcall_min2 (by rfl) T.z_min bb_min (@pa_cons _ _ _ _ _ (@pe_int _ _ _ _) (@pa_cons _ _ _ _ _ (@pe_op _ _ _ _ _ _ _ _ op_fdiv (pv 1) (pv 2)) (@pa_nil _) (by rfl)) (by rfl)) (by decide) (by decide) (by rfl) (by rfl)) (@pa_nil _) (by rfl))) (pg_name (i := 4) sc_law_next.nd rfl (by first | exact Or.inl rfl | exact Or.inr rfl)) (@pss_one _ _ _ (@ps_set _ _ 3 _ _ _ _ sc_law_next.nd rfl (by first | exact Or.inl rfl | exact Or.inr rfl) (@pe_op _ _ _ _ _ _ _ _ op_fdiv (pv 3) (@pe_int _ _ _ _)) (by rfl) (by first | exact Or.inl rfl | exact Or.inr rfl))) (by intro _; rfl))
        (@pss_one _ _ _ (@ps_ret _ _ _ _ (@pe_op _ _ _ _ _ _ _ _ op_mod (pv 3) (@pe_int _ _ _ _))))) (@pss_nil _))
      (@pss_cons _ _ _ _ _ (@ps_set _ _ 5 _ _ _ _ sc_law_next.nd rfl (by first | exact Or.inl rfl | exact Or.inr rfl) (@pe_op _ _ _ _ _ _ _ _ op_mod (@pe_op _ _ _ _ _ _ _ _ op_plus (@pe_op _ _ _ _ _ _ _ _ op_plus (@pe_op _ _ _ _ _ _ _ _ op_mod (pv 3) (@pe_int _ _ _ _)) (@pe_op _ _ _ _ _ _ _ _ op_times (@pe_op _ _ _ _ _ _ _ _ op_times (@pe_int _ _ _ _) (@pe_op _ _ _ _ _ _ _ _ op_plus (pv 1) (@pe_int _ _ _ _))) (@pe_op _ _ _ _ _ _ _ _ op_plus (pv 1) (@pe_int _ _ _ _)))) (@pe_int _ _ _ _)) (@pe_int _ _ _ _)) (by rfl) (by first | exact Or.inl rfl | exact Or.inr rfl))
      (@pss_cons _ _ _ _ _ (@ps_set _ _ 5 _ _ _ _ sc_law_next.nd rfl (by first | exact Or.inl rfl | exact Or.inr rfl) (@pe_op _ _ _ _ _ _ _ _ op_mod (@pe_op _ _ _ _ _ _ _ _ op_times (pv 5) (pv 5)) (@pe_int _ _ _ _)) (by rfl) (by first | exact Or.inl rfl | exact Or.inr rfl))
      (@pss_one _ _ _ (@ps_ret _ _ _ _ (@pe_op _ _ _ _ _ _ _ _ op_fdiv (@pe_op _ _ _ _ _ _ _ _ op_mod (@pe_op _ _ _ _ _ _ _ _ op_times (pv 5) (@pe_int _ _ _ _)) (@pe_int _ _ _ _)) (@pe_int _ _ _ _)))))))))))), ?_⟩
    have hne := k.ne
    obtain ⟨ms, z, h1, h2, h3⟩ := k.ex
    walk_at "go"
    refine i_ixL (SqL.of h1) (atI_nat (j := 1) rfl) ?_
    walk_at "run"
    refine i_setL h1 (j := 1) rfl ?_
    have h2' : upd H d (.lst ([V.ref l, V.int (n : Nat), V.int z].set 1 (V.int ((n : Int) + 1)))) l = some (.lst (ms.map V.int)) := by rw [upd_ne (Ne.symm hne)]; exact h2
    have hD : Deck (upd H d (.lst ([V.ref l, V.int (n : Nat), V.int z].set 1 (V.int ((n : Int) + 1))))) d l (n + 1) := ⟨ms, z, upd_same, h2', h3⟩
    have oD : Off d l H (upd H d (.lst ([V.ref l, V.int (n : Nat), V.int z].set 1 (V.int ((n : Int) + 1))))) := off_upd
    have h1' : upd H d (.lst ([V.ref l, V.int (n : Nat), V.int z].set 1 (V.int ((n : Int) + 1)))) d = some (.lst [V.ref l, V.int ((n : Int) + 1), V.int z]) := upd_same
    generalize upd H d (.lst ([V.ref l, V.int (n : Nat), V.int z].set 1 (V.int ((n : Int) + 1)))) = H1 at h2' hD oD h1'
    walk_at "run"
    refine i_ixL (SqL.of h1') (atI_nat (j := 0) rfl) ?_
    walk_at "run"
    refine i_lenL (SqL.of h2') ?_
    rw [List.length_map]
    walk_at "run"
    refine i_max2 ?_
    walk_at "run"
    obtain ⟨m, hm, em⟩ : ∃ m : Nat, 0 < m ∧ max 1 (ms.length : Int) = (m : Nat) := ⟨max 1 ms.length, by omega, by omega⟩
    have hml : 0 < ms.length → m = ms.length := fun h => by omega
    rw [em]
    refine i_seqC (fun σ' H' => ∃ c : Int, Same H1 H' ∧ σ' = [some (.ref d), some (.int (n : Nat)), some (.int (m : Nat)), some (.int c), none, none]) ?_ ?_
    · walk_at "run"
      refine i_ixL (SqL.of h1') (atI_nat (j := 0) rfl) ?_
      walk_at "run"
      intro p2 H2 f2 s2 e2
      refine i_neNil (SqL.of (s2 _ _ h2')) (SqL.of e2) ?_
      walk_at "run"
      cases hms : ms with
      | nil =>
        refine i_itF ?_
        exact ⟨0, s2, rfl⟩
      | cons m0 mr =>
        refine i_itT ?_
        have hlen : 0 < ms.length := by rw [hms]; simp
        walk_at "run"
        refine i_ixL (SqL.of (s2 _ _ h1')) (atI_nat (j := 0) rfl) ?_
        walk_at "run"
        obtain ⟨p, hp, ep⟩ := mod_nat (n : Int) hm
        rw [ep]
        have hat : atI (ms.map V.int) (p : Nat) = some (.int (ms[p]'(by have := hml hlen; omega))) := atI_nat (by simp [show p < ms.length by have := hml hlen; omega])
        refine i_ixL (SqL.of (s2 _ _ h2')) hat ?_
        exact ⟨_, s2, rfl⟩
    · rintro σ' H2 ⟨c, s2, rfl⟩
      walk_at "run"
      refine i_ixL (SqL.of (s2 _ _ h1')) (atI_nat (j := 2) rfl) ?_
      walk_at "run"
      refine ite2 (fun hc => ?_) (fun hc => ?_)
      · walk_at "run"
        refine i_rI (show CDiv _ _ from ⟨by omega, by omega⟩) ?_
        walk_at "run"
        have hq0 : 0 ≤ (n : Int) / (m : Nat) := Int.ediv_nonneg (by omega) (by omega)
        refine ⟨by omega, by omega, ?_⟩
        generalize (min 60 ((n : Int) / (m : Nat))).toNat = b
        refine for_range (lo := 0) (n := b) (fun i σ H' => H' = H2 ∧ ∃ (c : Int) (y : Option V), σ = [some (.ref d), some (.int (n : Nat)), some (.int (m : Nat)), some (.int c), y, none]) ⟨rfl, c, _, rfl⟩ ?_ ?_
        · rintro i σ H3 hi ⟨rfl, c, y, rfl⟩
          walk_at "run"
          exact ⟨rfl, _, _, rfl⟩
        · rintro σ H3 ⟨rfl, c, y, rfl⟩
          walk_at "run"
          obtain ⟨r, hr, e⟩ := mod_nat c (m := 1000003) (by decide)
          rw [show c % 1000003 = ((r : Nat) : Int) from e]
          exact q r _ (by omega) (oD.trans s2.off) (hD.same s2)
      · walk_at "run"
        refine i_timesI (cb (by omega) (by omega)) ?_
        walk_at "run"
        generalize c % 2147483629 + 51437 * ((n : Int) + 1) * ((n : Int) + 3) + 1409 = x
        have b1 := Int.emod_nonneg x (show (2147483629 : Int) ≠ 0 by decide)
        have b2 := Int.emod_lt_of_pos x (show (0 : Int) < 2147483629 by decide)
        refine i_timesI (cb (by omega) (by omega)) ?_
        walk_at "run"
        generalize x % 2147483629 * (x % 2147483629) % 2147483587 = y
        have c1 := Int.emod_nonneg (y * 69621) (show (2147483647 : Int) ≠ 0 by decide)
        have c2 := Int.emod_lt_of_pos (y * 69621) (show (0 : Int) < 2147483647 by decide)
        try refine i_rI (show CDiv _ _ from ⟨by omega, by omega⟩) ?_
        obtain ⟨r, hr⟩ : ∃ r : Nat, y * 69621 % 2147483647 / 4 = (r : Nat) := ⟨(y * 69621 % 2147483647 / 4).toNat, by omega⟩
        rw [hr]
        exact q r _ (by omega) (oD.trans s2.off) (hD.same s2)
theorem at2 {b : Bool} : atI [V.int 2, .int 7] (if b then 1 else 0) = some (.int (if b then 7 else 2 : Nat)) := by
  cases b
  · exact atI_nat (j := 0) rfl
  · exact atI_nat (j := 1) rfl
def sp_said (K : PySem.W.Frag) : Sp := fun vs H Q _ => ∃ (d l : Addr) (n : Nat) (b : Bool), vs = [.ref d, .int (if b then 1 else 0)] ∧ Deck H d l n ∧ n ≤ 90000 ∧ ∀ p ss H', H p = none → H' p = some (.lst (strsV ss)) → ss.length ≤ 2 → Off d l H H' → Deck H' d l (n + 1) → Q (.ref p) H'
theorem at7 {a b c d e f g : Addr} {r : Nat} (h : r < 7) : ∃ x, atI [V.ref a, .ref b, .ref c, .ref d, .ref e, .ref f, .ref g] (r : Nat) = some (.ref x) ∧ (x = a ∨ x = b ∨ x = c ∨ x = d ∨ x = e ∨ x = f ∨ x = g) := by
  have : r = 0 ∨ r = 1 ∨ r = 2 ∨ r = 3 ∨ r = 4 ∨ r = 5 ∨ r = 6 := by omega
  rcases this with rfl | rfl | rfl | rfl | rfl | rfl | rfl
  · exact ⟨_, atI_nat (j := 0) rfl, by simp⟩
  · exact ⟨_, atI_nat (j := 1) rfl, by simp⟩
  · exact ⟨_, atI_nat (j := 2) rfl, by simp⟩
  · exact ⟨_, atI_nat (j := 3) rfl, by simp⟩
  · exact ⟨_, atI_nat (j := 4) rfl, by simp⟩
  · exact ⟨_, atI_nat (j := 5) rfl, by simp⟩
  · exact ⟨_, atI_nat (j := 6) rfl, by simp⟩
theorem ok_law_said (T : Txt K mg t) : FnOk P w K mg base CX0 2 t.a__law_said t.fd__law_said ["deck", "rich"] (sp_said K) := by
  have G__law_next := ok_law_next (P := P) (w := w) (base := base) T
  refine T.F__law_said.ok sc_law_said (fun vs H Q E h => ?_) (fun cdv A outer s H vs Q E hr h => ?_)
  · obtain ⟨d, l, n, b, rfl, _⟩ := h
    rfl
  · obtain ⟨d, l, n, b, rfl, k, hn, q⟩ := h
    refine ⟨_, (@pss_cons _ _ _ _ _ (@ps_set _ _ 2 _ _ _ _ sc_law_said.nd rfl (by first | exact Or.inl rfl | exact Or.inr rfl) (@pe_lstN _ _ _ _ (@pa_cons _ _ _ _ _ (@pe_lstN _ _ _ _ (@pa_nil _)) (@pa_cons _ _ _ _ _ (@pe_lstN _ _ _ _ (@pa_cons _ _ _ _ _ (@pe_str _ _ _ _) (@pa_nil _) (by rfl))) (@pa_cons _ _ _ _ _ (@pe_lstN _ _ _ _ (@pa_cons _ _ _ _ _ (@pe_str _ _ _ _) (@pa_nil _) (by rfl))) (@pa_cons _ _ _ _ _ (@pe_lstN _ _ _ _ (@pa_cons _ _ _ _ _ (@pe_str _ _ _ _) (@pa_cons _ _ _ _ _ (@pe_str _ _ _ _) (@pa_nil _) (by rfl)) (by rfl))) (@pa_cons _ _ _ _ _ (@pe_lstN _ _ _ _ (@pa_cons _ _ _ _ _ (@pe_str _ _ _ _) (@pa_nil _) (by rfl))) (@pa_cons _ _ _ _ _ (@pe_lstN _ _ _ _ (@pa_nil _)) (@pa_cons _ _ _ _ _ (@pe_lstN _ _ _ _ (@pa_cons _ _ _ _ _ (@pe_str _ _ _ _) (@pa_cons _ _ _ _ _ (@pe_str _ _ _ _) (@pa_nil _) (by rfl)) (by rfl))) (@pa_nil _) (by rfl)) (by rfl)) (by rfl)) (by rfl)) (by rfl)) (by rfl)) (by rfl))) (by rfl) (by first | exact Or.inl rfl | exact Or.inr rfl))
      (@pss_one _ _ _ (@ps_ret _ _ _ _ (@pe_callTy _ _ _ _ _ _ _ _ _ (kcl_list K) (by rfl) T.z_list bb_list (@pa_cons _ _ _ _ _ (@pe_ix _ _ _ _ _ _ _ (kix_list K) (pv 2) (@pe_op _ _ _ _ _ _ _ _ op_mod (@pe_call _ _ _ _ _ _ _ _ _ _ _ _ _ _ _ _ G__law_next (hr.mono (by omega)) rfl T.m__law_next T.F__law_next.kp T.b__law_next .nil pass0 (@pa_cons _ _ _ _ _ (pv 0) (@pa_nil _) (by rfl)) (by decide) (by rfl) (by rfl)) (@pe_ix _ _ _ _ _ _ _ (kix_list K) (@pe_lstN _ _ _ _ (@pa_cons _ _ _ _ _ (@pe_int _ _ _ _) (@pa_cons _ _ _ _ _ (@pe_int _ _ _ _) (@pa_nil _) (by rfl)) (by rfl))) (pv 1) (fun _ _ => rfl))) (fun _ _ => rfl)) (@pa_nil _) (by rfl)) (by decide) (by decide) (by rfl) (by rfl))))), ?_⟩
    walk_at "go"
    intro p1 H1 f1 s1 e1
    walk_at "run"
    intro p2 H2 f2 s2 e2
    walk_at "run"
    intro p3 H3 f3 s3 e3
    walk_at "run"
    intro p4 H4 f4 s4 e4
    walk_at "run"
    intro p5 H5 f5 s5 e5
    walk_at "run"
    intro p6 H6 f6 s6 e6
    walk_at "run"
    intro p7 H7 f7 s7 e7
    walk_at "run"
    intro p8 H8 f8 s8 e8
    walk_at "run"
    have t7 := s8
    have t6 := s7.trans t7
    have t5 := s6.trans t6
    have t4 := s5.trans t5
    have t3 := s4.trans t4
    have t2 := s3.trans t3
    have t1 := s2.trans t2
    have t0 := s1.trans t1
    have k1 := k.same s1
    have k2 := k1.same s2
    have k3 := k2.same s3
    have k4 := k3.same s4
    have k5 := k4.same s5
    have k6 := k5.same s6
    have k7 := k6.same s7
    have k8 := k7.same s8
    refine ⟨d, l, n, rfl, k8, by omega, fun r H9 hr9 o9 k9 => ?_⟩
    walk_at "run"
    intro p10 H10 f10 s10 e10
    walk_at "run"
    refine i_ixL (SqL.of e10) at2 ?_
    walk_at "run"
    have hb7 : 0 < (if b then 7 else 2 : Nat) ∧ (if b then 7 else 2 : Nat) ≤ 7 := by cases b <;> simp
    refine i_rI (by omega) ?_
    obtain ⟨r2, hr2, er2⟩ := mod_nat (r : Int) hb7.1
    rw [er2]
    obtain ⟨x, hx, ho⟩ := at7 (a := p1) (b := p2) (c := p3) (d := p4) (e := p5) (f := p6) (g := p7) (r := r2) (by omega)
    have g8 := s10 _ _ (o9 _ _ (k7.new f8).1 (k7.new f8).2 e8)
    refine i_ixL (SqL.of g8) hx ?_
    walk_at "run"
    obtain ⟨ss, hs, hl⟩ : ∃ ss : List Str, H10 x = some (.lst (strsV ss)) ∧ ss.length ≤ 2 := by
      rcases ho with rfl | rfl | rfl | rfl | rfl | rfl | rfl
      · exact ⟨[], s10 _ _ (o9 _ _ (k.new f1).1 (k.new f1).2 (t1 _ _ e1)), by simp⟩
      · exact ⟨["a"], s10 _ _ (o9 _ _ (k1.new f2).1 (k1.new f2).2 (t2 _ _ e2)), by simp⟩
      · exact ⟨["b"], s10 _ _ (o9 _ _ (k2.new f3).1 (k2.new f3).2 (t3 _ _ e3)), by simp⟩
      · exact ⟨["a", "b"], s10 _ _ (o9 _ _ (k3.new f4).1 (k3.new f4).2 (t4 _ _ e4)), by simp⟩
      · exact ⟨["3:a"], s10 _ _ (o9 _ _ (k4.new f5).1 (k4.new f5).2 (t5 _ _ e5)), by simp⟩
      · exact ⟨[], s10 _ _ (o9 _ _ (k5.new f6).1 (k5.new f6).2 (t6 _ _ e6)), by simp⟩
      · exact ⟨["b", "a"], s10 _ _ (o9 _ _ (k6.new f7).1 (k6.new f7).2 (t7 _ _ e7)), by simp⟩
    refine i_listL (SqL.of hs) ?_
    intro p11 H11 f11 s11 e11
    have oA : Off d l H H10 := (t0.off.trans o9).trans s10.off
    exact q p11 ss H11 (oA.free (k9.same s10) f11) e11 hl (oA.trans s11.off) ((k9.same s10).same s11)
abbrev EvAt (H : Hp) : V → Tr → Prop := fun v e => e.At H v [] ∧ e.h ≤ 4
theorem EvAt.same {H H' : Hp} {v : V} {e : Tr} (h : EvAt H v e) (s : Same H H') : EvAt H' v e := ⟨tr_tups h.1 s.tups, h.2⟩
theorem ev2 {H : Hp} {a : Addr} {k : Str} {i : Int} (h : H a = some (.tup [.str k, .int i])) : EvAt H (.ref a) (.tup [.str k, .int i]) := by
  refine ⟨?_, by simp [Tr.h, Tr.hs]⟩
  simp only [Tr.At, Tr.Ats]
  exact ⟨a, _, rfl, h, _, _, [], [], rfl, rfl, ⟨rfl, rfl⟩, _, _, [], [], rfl, rfl, ⟨rfl, rfl⟩, rfl, rfl⟩
theorem ev2s {H : Hp} {a : Addr} {k i : Str} (h : H a = some (.tup [.str k, .str i])) : EvAt H (.ref a) (.tup [.str k, .str i]) := by
  refine ⟨?_, by simp [Tr.h, Tr.hs]⟩
  simp only [Tr.At, Tr.Ats]
  exact ⟨a, _, rfl, h, _, _, [], [], rfl, rfl, ⟨rfl, rfl⟩, _, _, [], [], rfl, rfl, ⟨rfl, rfl⟩, rfl, rfl⟩
theorem ev1 {H : Hp} {a : Addr} {k : Str} (h : H a = some (.tup [.str k])) : EvAt H (.ref a) (.tup [.str k]) := by
  refine ⟨?_, by simp [Tr.h, Tr.hs]⟩
  simp only [Tr.At, Tr.Ats]
  exact ⟨a, _, rfl, h, _, _, [], [], rfl, rfl, ⟨rfl, rfl⟩, rfl, rfl⟩
theorem EvAt.tups {H H' : Hp} {v : V} {e : Tr} (h : EvAt H v e) (s : Tups H H') : EvAt H' v e := ⟨tr_tups h.1 s, h.2⟩
theorem ev_ats {H : Hp} {us : List V} {ets : List Tr} (h : Each (EvAt H) us ets) : Tr.Ats H ets us [] ∧ Tr.hs ets ≤ 4 := by
  induction ets generalizing us with
  | nil =>
    obtain rfl := List.length_eq_zero_iff.mp h.1
    simp [Tr.Ats, Tr.hs]
  | cons e ets ih =>
    cases us with
    | nil => have := h.1; simp at this
    | cons v us =>
      obtain ⟨h2, h3⟩ := ih (us := us) ⟨by have := h.1; simpa using this, fun i a b x y => h.2 (i + 1) a b x y⟩
      have h4 := h.2 0 v e rfl rfl
      simp only [Tr.Ats, Tr.hs]
      exact ⟨⟨v, us, [], [], rfl, rfl, h4.1, h2⟩, by have := h4.2; omega⟩
structure EvS (H H' : Hp) (d l pe pl ta tb : Addr) (n m : Nat) : Prop where
  off : Off d l H H'
  src : H' pl = some (.lst [.ref ta, .ref tb]) ∧ H' ta = some (.tup [.str "key", .int 4]) ∧ H' tb = some (.tup [.str "word", .int 3])
  ev : ∃ us ets, H' pe = some (.lst us) ∧ 0 < us.length ∧ us.length ≤ m ∧ Each (EvAt H') us ets
  deck : ∃ n', n' ≤ n ∧ Deck H' d l n'
theorem EvS.next {H H' H2 : Hp} {d l pe pl ta tb : Addr} {n n' m : Nat} (h : EvS H H' d l pe pl ta tb n m) (k : Deck H' d l n') (hp : pe ≠ d ∧ pe ≠ l) (hl : pl ≠ d ∧ pl ≠ l) (o : Off d l H' H2) (k2 : Deck H2 d l (n' + 1)) (hn : n' ≤ n) : EvS H H2 d l pe pl ta tb (n + 1) m := by
  have tu := o.tups k
  obtain ⟨a1, a2, a3⟩ := h.src
  obtain ⟨us, ets, b1, b2, b3, b4⟩ := h.ev
  exact ⟨h.off.trans o, ⟨o _ _ hl.1 hl.2 a1, tu _ _ a2, tu _ _ a3⟩, ⟨us, ets, o _ _ hp.1 hp.2 b1, b2, b3, b4.mono fun v x hx => hx.tups tu⟩, n' + 1, by omega, k2⟩
theorem EvS.same {H H' H2 : Hp} {d l pe pl ta tb : Addr} {n m : Nat} (h : EvS H H' d l pe pl ta tb n m) (s : Same H' H2) : EvS H H2 d l pe pl ta tb n m := by
  obtain ⟨a1, a2, a3⟩ := h.src
  obtain ⟨us, ets, b1, b2, b3, b4⟩ := h.ev
  obtain ⟨n', hn, k⟩ := h.deck
  exact ⟨h.off.trans s.off, ⟨s _ _ a1, s _ _ a2, s _ _ a3⟩, ⟨us, ets, s _ _ b1, b2, b3, b4.mono fun v x hx => hx.same s⟩, n', hn, k.same s⟩
theorem EvS.app {H H' : Hp} {d l pe pl ta tb : Addr} {n m : Nat} {us : List V} {ets : List Tr} {v : V} {e : Tr} (h : EvS H H' d l pe pl ta tb n m) (hf : H pe = none) (hp : pe ≠ d ∧ pe ≠ l) (hl : pl ≠ pe) (b1 : H' pe = some (.lst us)) (b3 : us.length ≤ m) (b4 : Each (EvAt H') us ets) (hv : EvAt H' v e) :
    EvS H (upd H' pe (.lst (us ++ [v]))) d l pe pl ta tb n (m + 1) := by
  have tu : Tups H' (upd H' pe (.lst (us ++ [v]))) := Tups.upd b1
  obtain ⟨a1, a2, a3⟩ := h.src
  obtain ⟨n', hn, k⟩ := h.deck
  obtain ⟨ms, z, k1, k2, k3⟩ := k.ex
  refine ⟨fun b o h1 h2 e => ?_, ⟨by rw [upd_ne hl]; exact a1, tu _ _ a2, tu _ _ a3⟩, ⟨us ++ [v], ets ++ [e], upd_same, by simp, by simp; omega, (b4.mono fun v x hx => hx.tups tu).snoc (hv.tups tu)⟩, n', hn, ms, z, by rw [upd_ne (Ne.symm hp.1)]; exact k1, by rw [upd_ne (Ne.symm hp.2)]; exact k2, k3⟩
  rw [upd_ne (fun z => by rw [z, hf] at e; cases e)]
  exact h.off b o h1 h2 e
theorem EvS.more {H H' : Hp} {d l pe pl ta tb : Addr} {n m n2 m2 : Nat} (h : EvS H H' d l pe pl ta tb n m) (h1 : n ≤ n2) (h2 : m ≤ m2) : EvS H H' d l pe pl ta tb n2 m2 := by
  obtain ⟨us, ets, b1, b2, b3, b4⟩ := h.ev
  obtain ⟨n', hn, k⟩ := h.deck
  exact ⟨h.off, h.src, ⟨us, ets, b1, b2, by omega, b4⟩, n', by omega, k⟩
theorem at5s {r : Nat} {a b c d e : Str} (h : r < 5) : ∃ s : Str, atI [V.str a, .str b, .str c, .str d, .str e] (r : Nat) = some (.str s) := by
  have : r = 0 ∨ r = 1 ∨ r = 2 ∨ r = 3 ∨ r = 4 := by omega
  rcases this with rfl | rfl | rfl | rfl | rfl
  · exact ⟨_, atI_nat rfl⟩
  · exact ⟨_, atI_nat rfl⟩
  · exact ⟨_, atI_nat rfl⟩
  · exact ⟨_, atI_nat rfl⟩
  · exact ⟨_, atI_nat rfl⟩
def sp_events (K : PySem.W.Frag) : Sp := fun vs H Q _ => ∃ (d l : Addr) (n : Nat), vs = [.ref d] ∧ Deck H d l n ∧ n ≤ 90000 ∧
  ∀ p us ets H' n', H p = none → H' p = some (.lst us) → 0 < us.length → us.length ≤ 7 → Each (EvAt H') us ets → Off d l H H' → n' ≤ n + 10 → Deck H' d l n' → Q (.ref p) H'
theorem ok_law_events (T : Txt K mg t) : FnOk P w K mg base CX0 2 t.a__law_events t.fd__law_events ["deck"] (sp_events K) := by
  have G__law_next := ok_law_next (P := P) (w := w) (base := base) T
  refine T.F__law_events.ok sc_law_events (fun vs H Q E h => ?_) (fun cdv A outer s H vs Q E hr h => ?_)
  · obtain ⟨d, l, n, rfl, _⟩ := h
    rfl
  · obtain ⟨d, l, n, rfl, k, hn, q⟩ := h
    refine ⟨_, (@pss_cons _ _ _ _ _ (@ps_set _ _ 1 _ _ _ _ sc_law_events.nd rfl (by first | exact Or.inl rfl | exact Or.inr rfl) (@pe_lstN _ _ _ _ (@pa_cons _ _ _ _ _ (@pe_tupN _ _ _ _ _ (@pa_cons _ _ _ _ _ (@pe_str _ _ _ _) (@pa_nil _) (by rfl))) (@pa_nil _) (by rfl))) (by rfl) (by first | exact Or.inl rfl | exact Or.inr rfl))
      (@pss_cons _ _ _ _ _ (@ps_for _ _ _ _ _ _ _ _ PassesOwn.never rfl (kpi_list K (@pe_lstN _ _ _ _ (@pa_cons _ _ _ _ _ (@pe_tupN _ _ _ _ _ (@pa_cons _ _ _ _ _ (@pe_str _ _ _ _) (@pa_cons _ _ _ _ _ (@pe_int _ _ _ _) (@pa_nil _) (by rfl)) (by rfl))) (@pa_cons _ _ _ _ _ (@pe_tupN _ _ _ _ _ (@pa_cons _ _ _ _ _ (@pe_str _ _ _ _) (@pa_cons _ _ _ _ _ (@pe_int _ _ _ _) (@pa_nil _) (by rfl)) (by rfl))) (@pa_nil _) (by rfl)) (by rfl)))) (kpg_tup K (n := 2) rfl (pgs_cons (pg_name (i := 2) sc_law_events.nd rfl (by first | exact Or.inl rfl | exact Or.inr rfl)) (pgs_cons (pg_name (i := 3) sc_law_events.nd rfl (by first | exact Or.inl rfl | exact Or.inr rfl)) (@pgs_nil _)))) (@pss_one _ _ _ (@ps_for _ _ _ _ _ _ _ _ PassesOwn.never rfl (pi_range1 rfl T.z_range (@pa_cons _ _ _ _ _ (@pe_op _ _ _ _ _ _ _ _ op_mod (@pe_call _ _ _ _ _ _ _ _ _ _ _ _ _ _ _ _ G__law_next (hr.mono (by omega)) rfl T.m__law_next T.F__law_next.kp T.b__law_next .nil pass0 (@pa_cons _ _ _ _ _ (pv 0) (@pa_nil _) (by rfl)) (by decide) (by rfl) (by rfl)) (pv 3)) (@pa_nil _) (by rfl))) (pg_name (i := 4) sc_law_events.nd rfl (by first | exact Or.inl rfl | exact Or.inr rfl)) (@pss_cons _ _ _ _ _ (@ps_set _ _ 5 _ _ _ _ sc_law_events.nd rfl (by first | exact Or.inl rfl | exact Or.inr rfl) (@pe_op _ _ _ _ _ _ _ _ op_mod (@pe_call _ _ _ _ _ _ _ _ _ _ _ _ _ _ _ _ G__law_next (hr.mono (by omega)) rfl T.m__law_next T.F__law_next.kp T.b__law_next .nil pass0 (@pa_cons _ _ _ _ _ (pv 0) (@pa_nil _) (by rfl)) (by decide) (by rfl) (by rfl)) (@pe_int _ _ _ _)) (by rfl) (by first | exact Or.inl rfl | exact Or.inr rfl))
          (@pss_consC _ _ _ _ _ (@ps_if _ _ _ _ _ _ _ _ (@pt_cmpR _ _ _ _ _ _ _ _ op_eq (pv 2) (@pe_str _ _ _ _) (nomark _)) (@pss_one _ _ _ (@ps_set _ _ 5 _ _ _ _ sc_law_events.nd rfl (by first | exact Or.inl rfl | exact Or.inr rfl) (@pe_ix _ _ _ _ _ _ _ (kix_list K) (@pe_lstN _ _ _ _ (@pa_cons _ _ _ _ _ (@pe_str _ _ _ _) (@pa_cons _ _ _ _ _ (@pe_str _ _ _ _) (@pa_cons _ _ _ _ _ (@pe_str _ _ _ _) (@pa_cons _ _ _ _ _ (@pe_str _ _ _ _) (@pa_cons _ _ _ _ _ (@pe_str _ _ _ _) (@pa_nil _) (by rfl)) (by rfl)) (by rfl)) (by rfl)) (by rfl))) (@pe_op _ _ _ _ _ _ _ _ op_mod (pv 5) (@pe_int _ _ _ _)) (fun _ _ => rfl)) (by rfl) (by first | exact Or.inl rfl | exact Or.inr rfl))) (@pss_nil _))
          (@pss_one _ _ _ (@ps_if _ _ _ _ _ _ _ _ (@pt_cmpR _ _ _ _ _ _ _ _ (kop_notInF K (by exact hr.units)) (@pe_tupN _ _ _ _ _ (@pa_cons _ _ _ _ _ (pv 2) (@pa_cons _ _ _ _ _ (pv 5) (@pa_nil _) (by rfl)) (by rfl))) (pv 1) (by with_unfolding_all rfl)) (@pss_one _ _ _ (@ps_expr _ _ _ _ (@kpe_bm _ K _ _ _ _ _ _ _ _ _ _ _ PySem.F.plainAttrs_list PySem.F.slot_list_append PySem.F.type_list_append mt_append (pv 1) (@pa_cons _ _ _ _ _ (@pe_tupN _ _ _ _ _ (@pa_cons _ _ _ _ _ (pv 2) (@pa_cons _ _ _ _ _ (pv 5) (@pa_nil _) (by rfl)) (by rfl))) (@pa_nil _) (by rfl)) (by rfl) (by rfl) (by rfl) (by rfl) (by rfl) (by rfl)) (by rfl))) (@pss_nil _))))) (by intro _; rfl))) (by intro _; rfl))
      (@pss_one _ _ _ (@ps_ret _ _ _ _ (pv 1))))), ?_⟩
    have sl : (1000000 : Nat) ≤ sizeLine := le_line (Nat.le_refl _)
    walk_at "go"
    intro p1 H1 f1 s1 e1
    walk_at "run"
    intro pe H2 f2 s2 e2
    walk_at "run"
    intro ta H3 f3 s3 e3
    walk_at "run"
    intro tb H4 f4 s4 e4
    walk_at "run"
    intro pl H5 f5 s5 e5
    have s25 := s3.trans (s4.trans s5)
    have fe : H pe = none := s1.free f2
    have fl : H pl = none := (s1.trans (s2.trans (s3.trans s4))).free f5
    have ne : pl ≠ pe := fun z => by rw [z, (s3.trans s4) _ _ e2] at f5; cases f5
    have E5 : EvS H H5 d l pe pl ta tb n 1 := ⟨(s1.trans (s2.trans s25)).off, ⟨e5, (s4.trans s5) _ _ e3, s5 _ _ e4⟩, ⟨_, [_], s25 _ _ e2, by simp, by simp, Each.nil.snoc ((ev1 e1).same (s2.trans s25))⟩, n, Nat.le_refl _, k.same (s1.trans (s2.trans s25))⟩
    walk_at "run"
    have hpe := k.new fe
    have hpl := k.new fl
    refine ⟨⟨_, SqL.of e5⟩, for_list (xs := [V.ref ta, V.ref tb]) (fun i σ H' => EvS H H' d l pe pl ta tb (n + 4 * i) (1 + 3 * i) ∧ i ≤ 2 ∧ ∃ y2 y3 y4 y5, σ = [some (.ref d), some (.ref pe), y2, y3, y4, y5]) ⟨E5, by omega, _, _, _, _, rfl⟩ (fun i σ H' _ ⟨h, _⟩ => SqL.of h.src.1) ?_ ?_⟩
    · rintro i x σ H6 hx ⟨E6, hi, y2, y3, y4, y5, rfl⟩
      obtain ⟨c, kd, mm, rfl, hc, hm, hm4, hi2⟩ : ∃ (c : Addr) (kd : Str) (mm : Nat), x = .ref c ∧ H6 c = some (.tup [.str kd, .int (mm : Nat)]) ∧ 3 ≤ mm ∧ mm ≤ 4 ∧ i < 2 := by
        obtain ⟨a1, a2, a3⟩ := E6.src
        have hi2 := (List.getElem?_eq_some_iff.mp hx).1
        obtain rfl | rfl : i = 0 ∨ i = 1 := by simp at hi2; omega
        · cases hx
          exact ⟨ta, _, 4, rfl, a2, by decide, by decide, by decide⟩
        · cases hx
          exact ⟨tb, _, 3, rfl, a3, by decide, by decide, by decide⟩
      refine i_asgT (SqT.of hc) rfl ?_
      walk_at "run"
      obtain ⟨n1, hn1, k6⟩ := E6.deck
      refine ⟨d, l, n1, rfl, k6, by omega, fun r H7 hr7 o7 k7 => ?_⟩
      have E7 := E6.next k6 hpe hpl o7 k7 hn1
      walk_at "run"
      obtain ⟨b, hb, eb⟩ := mod_nat (r : Int) (m := mm) (by omega)
      rw [eb]
      refine ⟨by omega, by omega, ?_⟩
      rw [Int.toNat_natCast]
      refine for_range (lo := 0) (n := b) (fun j σ H' => EvS H H' d l pe pl ta tb (n + 4 * i + 1 + j) (1 + 3 * i + j) ∧ ∃ y4 y5, σ = [some (.ref d), some (.ref pe), some (.str kd), some (.int (mm : Nat)), y4, y5]) ⟨E7, _, _, rfl⟩ ?_ ?_
      · rintro j σ H8 hj ⟨E8, y4, y5, rfl⟩
        walk_at "run"
        obtain ⟨n2, hn2, k8⟩ := E8.deck
        refine ⟨d, l, n2, rfl, k8, by omega, fun r2 H9 hr9 o9 k9 => ?_⟩
        have E9 := E8.next k8 hpe hpl o9 k9 hn2
        walk_at "run"
        obtain ⟨wh, hwh, ewh⟩ := mod_nat (r2 : Int) (m := 10) (by decide)
        rw [show (r2 : Int) % 10 = ((wh : Nat) : Int) from ewh]
        refine i_seqC (fun σ' H' => EvS H H' d l pe pl ta tb (n + 4 * i + 1 + j + 1) (1 + 3 * i + j) ∧ ∃ (v : V) (e : Tr) (y4 : Option V), (∀ (H'' : Hp) (a : Addr), H'' a = some (.tup [.str kd, v]) → EvAt H'' (.ref a) e) ∧ σ' = [some (.ref d), some (.ref pe), some (.str kd), some (.int (mm : Nat)), y4, some v]) ?_ ?_
        · walk_at "run"
          refine ite2 (fun hc => ?_) (fun hc => ?_)
          · walk_at "run"
            intro p10 H10 f10 s10 e10
            walk_at "run"
            obtain ⟨r5, h5, e5'⟩ := mod_nat (wh : Int) (m := 5) (by decide)
            rw [show (wh : Int) % 5 = ((r5 : Nat) : Int) from e5']
            obtain ⟨sx, hsx⟩ := at5s (a := "no") (b := "yes") (c := "x") (d := "a") (e := "zz") h5
            refine i_ixL (SqL.of e10) hsx ?_
            exact ⟨E9.same s10, .str sx, _, _, fun H'' a h => ev2s h, rfl⟩
          · exact ⟨E9, .int (wh : Nat), _, _, fun H'' a h => ev2 h, rfl⟩
        · rintro σ' H10 ⟨E10, v, e, y4, hv, rfl⟩
          walk_at "run"
          intro p11 H11 f11 s11 e11
          walk_at "run"
          have E11 := E10.same s11
          obtain ⟨us, ets, b1, b2, b3, b4⟩ := E11.ev
          obtain ⟨c1, c2⟩ := ev_ats b4
          refine i_notInF (hv _ _ e11).1 (SqL.of b1) c1 (by have := (hv _ _ e11).2; omega) (by omega) ?_
          walk_at "run"
          refine ite2 (fun hc => ?_) (fun hc => ?_)
          · walk_at "run"
            refine i_tyL (SqL.of b1) ?_
            walk_at "run"
            intro p12 H12 f12 s12 e12
            walk_at "run"
            refine i_append (s12 _ _ b1) (by omega) ?_
            exact ⟨(EvS.app (E11.same s12) fe hpe ne (s12 _ _ b1) b3 (b4.mono fun v x h => h.same s12) (hv _ _ e12)).more (by omega) (by omega), _, _, rfl⟩
          · exact ⟨E11.more (by omega) (by omega), _, _, rfl⟩
      · rintro σ H8 ⟨E8, y4, y5, rfl⟩
        exact ⟨E8.more (by omega) (by omega), by omega, _, _, _, _, rfl⟩
    · rintro σ H6 ⟨E6, _, y2, y3, y4, y5, rfl⟩
      walk_at "run"
      obtain ⟨us, ets, b1, b2, b3, b4⟩ := E6.ev
      obtain ⟨n', hn', k'⟩ := E6.deck
      simp only [List.length_cons, List.length_nil] at b3 hn'
      exact q pe us ets H6 n' fe b1 b2 (by omega) b4 E6.off (by omega) k'
structure Tab (G : Hp) (tt : Addr) (us : List V) (ets : List Tr) (rs : List RRoom) (sy : List Str) : Prop where
  ex : ∃ a b c rvs, G tt = some (.tup [.ref a, .ref b, .ref c]) ∧ G a = some (.lst us) ∧ G b = some (.lst (strsV sy)) ∧ G c = some (.lst rvs) ∧ Each (RoomAt G) rvs rs
  ev : Each (EvAt G) us ets
theorem Tab.same {G G' : Hp} {tt : Addr} {us : List V} {ets : List Tr} {rs : List RRoom} {sy : List Str} (h : Tab G tt us ets rs sy) (s : Same G G') : Tab G' tt us ets rs sy := by
  obtain ⟨a, b, c, rvs, h1, h2, h3, h4, h5⟩ := h.ex
  exact ⟨⟨a, b, c, rvs, s _ _ h1, s _ _ h2, s _ _ h3, s _ _ h4, h5.mono fun v x hx => hx.same s⟩, h.ev.mono fun v x hx => hx.same s⟩
structure TabOk (us : List V) (rs : List RRoom) : Prop where
  ok : TblOk us.length rs
  u0 : 0 < us.length
  u7 : us.length ≤ 7
  r0 : 0 < rs.length
  r14 : rs.length ≤ 14
theorem at4 {r : Nat} (h : r < 4) : ∃ m : Nat, 0 < m ∧ m ≤ 14 ∧ atI [V.int 5, .int 9, .int 9, .int 14] (r : Nat) = some (.int (m : Nat)) := by
  have : r = 0 ∨ r = 1 ∨ r = 2 ∨ r = 3 := by omega
  rcases this with rfl | rfl | rfl | rfl
  · exact ⟨5, by decide, by decide, atI_nat rfl⟩
  · exact ⟨9, by decide, by decide, atI_nat rfl⟩
  · exact ⟨9, by decide, by decide, atI_nat rfl⟩
  · exact ⟨14, by decide, by decide, atI_nat rfl⟩
def sp_table (K : PySem.W.Frag) : Sp := fun vs H Q _ => ∃ (d l : Addr) (n : Nat), vs = [.ref d] ∧ Deck H d l n ∧ n ≤ 80000 ∧
  ∀ tt us ets rs sy H' n', Tab (hds [d, l] H') tt us ets rs sy → TabOk us rs → Off d l H H' → n' ≤ n + 1000 → Deck H' d l n' → Q (.ref tt) H'
theorem ok_law_table (T : Txt K mg t) : FnOk P w K mg base CX0 3 t.a__law_table t.fd__law_table ["deck"] (sp_table K) := by
  have G__law_events := ok_law_events (P := P) (w := w) (base := base) T
  have G__law_next := ok_law_next (P := P) (w := w) (base := base) T
  have G__law_said := ok_law_said (P := P) (w := w) (base := base) T
  refine T.F__law_table.ok sc_law_table (fun vs H Q E h => ?_) (fun cdv A outer s H vs Q E hr h => ?_)
  · obtain ⟨d, l, n, rfl, _⟩ := h
    rfl
  · obtain ⟨d, l, n, rfl, k, hn, q⟩ := h
    refine ⟨_, (@pss_cons _ _ _ _ _ (@ps_set _ _ 1 _ _ _ _ sc_law_table.nd rfl (by first | exact Or.inl rfl | exact Or.inr rfl) (@pe_call _ _ _ _ _ _ _ _ _ _ _ _ _ _ _ _ G__law_events (hr.mono (by omega)) rfl T.m__law_events T.F__law_events.kp T.b__law_events .nil pass0 (@pa_cons _ _ _ _ _ (pv 0) (@pa_nil _) (by rfl)) (by decide) (by rfl) (by rfl)) (by rfl) (by first | exact Or.inl rfl | exact Or.inr rfl))
      (@pss_cons _ _ _ _ _ (@ps_set _ _ 2 _ _ _ _ sc_law_table.nd rfl (by first | exact Or.inl rfl | exact Or.inr rfl) (@pe_op _ _ _ _ _ _ _ _ op_plus (@pe_int _ _ _ _) (@pe_op _ _ _ _ _ _ _ _ op_mod (@pe_call _ _ _ _ _ _ _ _ _ _ _ _ _ _ _ _ G__law_next (hr.mono (by omega)) rfl T.m__law_next T.F__law_next.kp T.b__law_next .nil pass0 (@pa_cons _ _ _ _ _ (pv 0) (@pa_nil _) (by rfl)) (by decide) (by rfl) (by rfl)) (@pe_ix _ _ _ _ _ _ _ (kix_list K) (@pe_lstN _ _ _ _ (@pa_cons _ _ _ _ _ (@pe_int _ _ _ _) (@pa_cons _ _ _ _ _ (@pe_int _ _ _ _) (@pa_cons _ _ _ _ _ (@pe_int _ _ _ _) (@pa_cons _ _ _ _ _ (@pe_int _ _ _ _) (@pa_nil _) (by rfl)) (by rfl)) (by rfl)) (by rfl))) (@pe_op _ _ _ _ _ _ _ _ op_mod (@pe_call _ _ _ _ _ _ _ _ _ _ _ _ _ _ _ _ G__law_next (hr.mono (by omega)) rfl T.m__law_next T.F__law_next.kp T.b__law_next .nil pass0 (@pa_cons _ _ _ _ _ (pv 0) (@pa_nil _) (by rfl)) (by decide) (by rfl) (by rfl)) (@pe_int _ _ _ _)) (fun _ _ => rfl)))) (by rfl) (by first | exact Or.inl rfl | exact Or.inr rfl))
      (@pss_cons _ _ _ _ _ (@ps_set _ _ 3 _ _ _ _ sc_law_table.nd rfl (by first | exact Or.inl rfl | exact Or.inr rfl) (@pe_callTy _ _ _ _ _ _ _ _ _ cl_int (by rfl) T.z_int bb_int (@pa_cons _ _ _ _ _ (@pe_cmpR _ _ _ _ _ _ _ _ op_eq (@pe_op _ _ _ _ _ _ _ _ op_mod (@pe_call _ _ _ _ _ _ _ _ _ _ _ _ _ _ _ _ G__law_next (hr.mono (by omega)) rfl T.m__law_next T.F__law_next.kp T.b__law_next .nil pass0 (@pa_cons _ _ _ _ _ (pv 0) (@pa_nil _) (by rfl)) (by decide) (by rfl) (by rfl)) (@pe_int _ _ _ _)) (@pe_int _ _ _ _) (nomark _)) (@pa_nil _) (by rfl)) (by decide) (by decide) (by rfl) (by rfl)) (by rfl) (by first | exact Or.inl rfl | exact Or.inr rfl))
      (@pss_cons _ _ _ _ _ (@ps_set _ _ 4 _ _ _ _ sc_law_table.nd rfl (by first | exact Or.inl rfl | exact Or.inr rfl) (@pe_call _ _ _ _ _ _ _ _ _ _ _ _ _ _ _ _ G__law_said (hr.mono (by omega)) rfl T.m__law_said T.F__law_said.kp T.b__law_said .nil pass0 (@pa_cons _ _ _ _ _ (pv 0) (@pa_cons _ _ _ _ _ (@pe_int _ _ _ _) (@pa_nil _) (by rfl)) (by rfl)) (by decide) (by rfl) (by rfl)) (by rfl) (by first | exact Or.inl rfl | exact Or.inr rfl))
      (@pss_cons _ _ _ _ _ (@ps_set _ _ 5 _ _ _ _ sc_law_table.nd rfl (by first | exact Or.inl rfl | exact Or.inr rfl) (@pe_lstN _ _ _ _ (@pa_nil _)) (by rfl) (by first | exact Or.inl rfl | exact Or.inr rfl))
      (@pss_cons _ _ _ _ _ (@ps_for _ _ _ _ _ _ _ _ PassesOwn.never rfl (pi_range1 rfl T.z_range (@pa_cons _ _ _ _ _ (pv 2) (@pa_nil _) (by rfl))) (pg_name (i := 6) sc_law_table.nd rfl (by first | exact Or.inl rfl | exact Or.inr rfl)) (@pss_cons _ _ _ _ _ (@ps_set _ _ 7 _ _ _ _ sc_law_table.nd rfl (by first | exact Or.inl rfl | exact Or.inr rfl) (@pe_cmpR _ _ _ _ _ _ _ _ op_eq (@pe_op _ _ _ _ _ _ _ _ op_mod (@pe_call _ _ _ _ _ _ _ _ _ _ _ _ _ _ _ _ G__law_next (hr.mono (by omega)) rfl T.m__law_next T.F__law_next.kp T.b__law_next .nil pass0 (@pa_cons _ _ _ _ _ (pv 0) (@pa_nil _) (by rfl)) (by decide) (by rfl) (by rfl)) (@pe_int _ _ _ _)) (@pe_int _ _ _ _) (nomark _)) (by rfl) (by first | exact Or.inl rfl | exact Or.inr rfl))
        (@pss_cons _ _ _ _ _ (ps_lc (i := 8) (Nt := ["event"]) (Nf := ["room"]) (caps := [6]) rfl (comp_ok (sc := defScope s_law_table) rfl rfl (by decide +kernel) (by decide +kernel) (by decide +kernel) rfl (by decide +kernel)) (kpi_list K (pv 1)) (fun _ _ _ _ _ => (pg_name (i := 0) (show (["event", "room"] : List Str).Nodup by decide +kernel) rfl (by first | exact Or.inl rfl | exact Or.inr rfl))) (fun _ _ _ _ _ => (@pts_nil _)) (fun _ _ _ _ _ => (@pe_tupN _ _ _ _ _ (@pa_cons _ _ _ _ _ (@pe_lstN _ _ _ _ (@pa_nil _)) (@pa_cons _ _ _ _ _ (pv 1) (@pa_nil _) (by rfl)) (by rfl)))) sc_law_table.nd rfl (by first | exact Or.inl rfl | exact Or.inr rfl) rfl)
        (@pss_consC _ _ _ _ _ (@ps_if _ _ _ _ _ _ _ _ (@pt_not _ _ _ _ (kpt_tru K (pv 7) (fun _ => rfl))) (@pss_one _ _ _ (ps_lc (i := 8) (Nt := ["event"]) (Nf := ["deck", "rich", "many"]) (caps := [0, 3, 2]) rfl (comp_ok (sc := defScope s_law_table) rfl rfl (by decide +kernel) (by decide +kernel) (by decide +kernel) rfl (by decide +kernel)) (kpi_list K (pv 1)) (fun _ _ _ _ _ => (pg_name (i := 0) (show (["event", "deck", "rich", "many"] : List Str).Nodup by decide +kernel) rfl (by first | exact Or.inl rfl | exact Or.inr rfl))) (fun _ _ _ _ _ => (@pts_nil _)) (fun _ _ _ _ _ => (@pe_tupN _ _ _ _ _ (@pa_cons _ _ _ _ _ (@pe_call _ _ _ _ _ _ _ _ _ _ _ _ _ _ _ _ G__law_said (hr.mono (by omega)) rfl T.m__law_said T.F__law_said.kp T.b__law_said .nil pass0 (@pa_cons _ _ _ _ _ (pv 1) (@pa_cons _ _ _ _ _ (pv 2) (@pa_nil _) (by rfl)) (by rfl)) (by decide) (by rfl) (by rfl)) (@pa_cons _ _ _ _ _ (@pe_op _ _ _ _ _ _ _ _ op_mod (@pe_call _ _ _ _ _ _ _ _ _ _ _ _ _ _ _ _ G__law_next (hr.mono (by omega)) rfl T.m__law_next T.F__law_next.kp T.b__law_next .nil pass0 (@pa_cons _ _ _ _ _ (pv 1) (@pa_nil _) (by rfl)) (by decide) (by rfl) (by rfl)) (pv 3)) (@pa_nil _) (by rfl)) (by rfl)))) sc_law_table.nd rfl (by first | exact Or.inl rfl | exact Or.inr rfl) rfl)) (@pss_nil _))
        (@pss_one _ _ _ (@ps_expr _ _ _ _ (@kpe_bm _ K _ _ _ _ _ _ _ _ _ _ _ PySem.F.plainAttrs_list PySem.F.slot_list_append PySem.F.type_list_append mt_append (pv 5) (@pa_cons _ _ _ _ _ (@pe_tupN _ _ _ _ _ (@pa_cons _ _ _ _ _ (pv 7) (@pa_cons _ _ _ _ _ (pv 8) (@pa_nil _) (by rfl)) (by rfl))) (@pa_nil _) (by rfl)) (by rfl) (by rfl) (by rfl) (by rfl) (by rfl) (by rfl)) (by rfl)))))) (by intro _; rfl))
      (@pss_one _ _ _ (@ps_ret _ _ _ _ (@pe_tupN _ _ _ _ _ (@pa_cons _ _ _ _ _ (pv 1) (@pa_cons _ _ _ _ _ (pv 4) (@pa_cons _ _ _ _ _ (pv 5) (@pa_nil _) (by rfl)) (by rfl)) (by rfl))))))))))), ?_⟩
    have sl : (1000000 : Nat) ≤ sizeLine := le_line (Nat.le_refl _)
    walk_at "go"
    refine ⟨d, l, n, rfl, k, by omega, fun pe us ets H1 n1 f1 e1 u0 u7 hev o1 hn1 k1 => ?_⟩
    walk_at "run"
    refine ⟨d, l, n1, rfl, k1, by omega, fun r2 H2 hr2 o2 k2 => ?_⟩
    walk_at "run"
    intro p3 H3 f3 s3 e3
    walk_at "run"
    refine ⟨d, l, _, rfl, k2.same s3, by omega, fun r4 H4 hr4 o4 k4 => ?_⟩
    walk_at "run"
    obtain ⟨x4, hx4, ex4⟩ := mod_nat (r4 : Int) (m := 4) (by decide)
    rw [show (r4 : Int) % 4 = ((x4 : Nat) : Int) from ex4]
    obtain ⟨mm, hm0, hm14, hat⟩ := at4 hx4
    obtain ⟨z1, z2⟩ := k2.new f3
    refine i_ixL (SqL.of (o4 _ _ z1 z2 e3)) hat ?_
    walk_at "run"
    obtain ⟨mb, hmb, emb⟩ := mod_nat (r2 : Int) (m := mm) hm0
    rw [emb]
    walk_at "run"
    refine ⟨d, l, _, rfl, k4, by omega, fun r5 H5 hr5 o5 k5 => ?_⟩
    walk_at "run"
    generalize hrich : decide ((r5 : Int) % 3 = 0) = rb
    refine ⟨d, l, _, true, rfl, k5, by omega, fun pb sy H6 f6 e6 hsy o6 k6 => ?_⟩
    walk_at "run"
    intro pc H7 f7 s7 e7
    walk_at "run"
    have o17 : Off d l H1 H7 := o2.trans (s3.off.trans (o4.trans (o5.trans (o6.trans s7.off))))
    have hpe := k.new f1
    have hpb := k5.new f6
    have hpc := k6.new f7
    have k7 := k6.same s7
    have e17 := o17 _ _ hpe.1 hpe.2 e1
    have hev7 : Each (EvAt H7) us ets := hev.mono fun v x h => h.tups (o17.tups k1)
    have e67 := s7 _ _ e6
    have npe : pe ≠ pc := fun z => by rw [z] at e17; rw [e7] at e17; cases e17; exact absurd u0 (by simp)
    have npb : pb ≠ pc := fun z => by rw [z, f7] at e6; cases e6
    have kp7 : Off d l H H7 := o1.trans o17
    have hk7 := kp7.free k7 (p := pc)
    have fc : H pc = none := by
      cases e : H pc with
      | none => rfl
      | some o => have := (o1.trans (o2.trans (s3.off.trans (o4.trans (o5.trans o6))))) _ _ hpc.1 hpc.2 e; rw [f7] at this; cases this
    generalize hN : n1 + 1 + 1 + 1 + 1 = N at k7
    rw [show (1 + (mb : Int)).toNat = mb + 1 by omega]
    obtain ⟨Pv, hPv⟩ : ∃ Pv : Nat → St → Hp → Prop, Pv = (fun i σ H' => (∀ b o, b ∉ [d, l, pc] → H7 b = some o → H' b = some o) ∧ (∃ m, m ≤ N + i * 20 ∧ Deck H' d l m) ∧ (∃ rvs rs, H' pc = some (.lst rvs) ∧ rs.length = i ∧ Each (RoomAt (hds [d, l, pc] H')) rvs rs ∧ ∀ r ∈ rs, r.2.length = us.length ∧ ∀ x ∈ r.2, x.2 < mb + 1) ∧
      ∃ y6 y7 y8, σ = [some (.ref d), some (.ref pe), some (.int (1 + (mb : Int))), some (.int (if rb then 1 else 0)), some (.ref pb), some (.ref pc), y6, y7, y8]) := ⟨_, rfl⟩
    refine for_range (lo := 0) (n := mb + 1) Pv (by rw [hPv]; exact ⟨fun _ _ _ e => e, ⟨N, by omega, k7⟩, ⟨[], [], e7, rfl, Each.nil, by simp⟩, _, _, _, rfl⟩) ?_ ?_
    · intro i σ H8 hi hI
      rw [hPv] at hI
      obtain ⟨kp8, ⟨m, hm, k8⟩, ⟨rvs, rs, ec8, hrl, hrs, hro⟩, y6, y7, y8, rfl⟩ := hI
      rw [Int.zero_add]
      walk_at "run"
      refine ⟨d, l, m, rfl, k8, by omega, fun r9 H9 hr9 o9 k9 => ?_⟩
      walk_at "run"
      have npe3 : pe ∉ [d, l, pc] := by simp [hpe.1, hpe.2, npe]
      have e9 := o9 _ _ hpe.1 hpe.2 (kp8 _ _ npe3 e17)
      have ec9 := o9 _ _ hpc.1 hpc.2 ec8
      generalize decide ((r9 : Int) % 7 = 0) = ov
      have hin : d ∈ [d, l, pc] ∧ l ∈ [d, l, pc] := by simp
      have new3 : ∀ {Hx : Hp} {p : Addr} {m : Nat}, Deck Hx d l m → Hx pc = some (.lst rvs) → Hx p = none → p ∉ [d, l, pc] := fun kx ex fx => by
        have := kx.new fx
        simp only [List.mem_cons, List.not_mem_nil, or_false, not_or]
        exact ⟨this.1, this.2, fun z => by rw [z, ex] at fx; cases fx⟩
      refine ⟨⟨_, SqL.of e9⟩, cc_list (xs := us) (le_line (by omega)) (fun j acc H' => j ≤ us.length ∧ acc.length = j ∧ Same H9 H' ∧ ∃ rws : List RRow, Each (RowAt (hds [d, l, pc] H')) acc rws ∧ ∀ x ∈ rws, x.2 < mb + 1) ⟨Nat.zero_le _, rfl, Same.refl _, [], Each.nil, by simp⟩ (fun j acc H' ⟨_, e, s', _⟩ => ⟨by omega, SqL.of (s' _ _ e9)⟩) ?_ ?_⟩
      · rintro j x acc H10 hx ⟨hj, ea, s10, rws, h1, h2⟩
        walk_at "run"
        intro p11 H11 f11 s11 e11
        walk_at "run"
        intro p12 H12 f12 s12 e12
        have k10 := k9.same s10
        have n11 := new3 k10 (s10 _ _ ec9) f11
        have n12 := new3 (k10.same s11) (s11 _ _ (s10 _ _ ec9)) f12
        have sm := hds_off hin.1 hin.2 (s11.trans s12).off (H := H10) (H' := H12)
        refine ⟨(List.getElem?_eq_some_iff.mp hx).1, by simp [ea], s10.trans (s11.trans s12), rws ++ [([], i)], (h1.mono fun v x h => h.same sm).snoc ⟨p12, p11, rfl, hds_at e12 n12, hds_at (s12 _ _ e11) n11⟩, fun x hx => ?_⟩
        rcases List.mem_append.mp hx with hx | hx
        · exact h2 x hx
        · rw [List.mem_singleton.mp hx]
          exact hi
      · rintro acc H10 ⟨_, ea, s10, rws, h1, h2⟩ p11 H11 f11 s11 e11
        have s911 := s10.trans s11
        have k11 := k9.same s911
        have n11 := new3 (k9.same s10) (s10 _ _ ec9) f11
        walk_at "run"
        refine i_seqC (fun σ' H' => Off d l H9 H' ∧ (∃ m', m' ≤ m + 20 ∧ Deck H' d l m') ∧ ∃ g ps rws, H' g = some (.lst ps) ∧ g ∉ [d, l, pc] ∧ Each (RowAt (hds [d, l, pc] H')) ps rws ∧ rws.length = us.length ∧ (∀ x ∈ rws, x.2 < mb + 1) ∧
          σ' = [some (.ref d), some (.ref pe), some (.int (1 + (mb : Int))), some (.int (if rb then 1 else 0)), some (.ref pb), some (.ref pc), some (.int (i : Nat)), some (.bl ov), some (.ref g)]) ?_ ?_
        · walk_at "run"
          cases ov with
          | true =>
            refine i_itF ?_
            exact ⟨s911.off, ⟨m + 1, by omega, k11⟩, p11, acc, rws, e11, n11, h1.mono fun v x h => h.same (hds_off hin.1 hin.2 s11.off), by rw [← h1.1, ea], h2, rfl⟩
          | false =>
            refine i_itT ?_
            walk_at "run"
            refine ⟨⟨_, SqL.of (s911 _ _ e9)⟩, cc_list (xs := us) (le_line (by omega)) (fun j acc H' => j ≤ us.length ∧ acc.length = j ∧ Off d l H9 H' ∧ Deck H' d l (m + 1 + 2 * j) ∧ ∃ rws : List RRow, Each (RowAt (hds [d, l, pc] H')) acc rws ∧ ∀ x ∈ rws, x.2 < mb + 1) ⟨Nat.zero_le _, rfl, s911.off, k11, [], Each.nil, by simp⟩ (fun j acc H' ⟨_, e, o', _⟩ => ⟨by omega, SqL.of (o' _ _ hpe.1 hpe.2 e9)⟩) ?_ ?_⟩
            · rintro j x acc H12 hx ⟨hj, ea, o12, k12, rws, h1, h2⟩
              have hj' := (List.getElem?_eq_some_iff.mp hx).1
              walk_at "run"
              refine ⟨d, l, _, rb, rfl, k12, by omega, fun p13 ss H13 f13 e13 _ o13 k13 => ?_⟩
              walk_at "run"
              refine ⟨d, l, _, rfl, k13, by omega, fun r14 H14 hr14 o14 k14 => ?_⟩
              walk_at "run"
              obtain ⟨to, hto, eto⟩ := mod_nat (r14 : Int) (m := mb + 1) (by omega)
              rw [show (r14 : Int) % (1 + (mb : Int)) = ((to : Nat) : Int) by rw [← eto]; congr 1; omega]
              walk_at "run"
              intro p15 H15 f15 s15 e15
              have ec12 := o12 _ _ hpc.1 hpc.2 ec9
              have ec14 := o14 _ _ hpc.1 hpc.2 (o13 _ _ hpc.1 hpc.2 ec12)
              have n13 := new3 k12 ec12 f13
              have n15 := new3 k14 ec14 f15
              have e13' := s15 _ _ (o14 _ _ (fun z => n13 (by simp [z])) (fun z => n13 (by simp [z])) e13)
              have sm := hds_off hin.1 hin.2 (o13.trans (o14.trans s15.off)) (H := H12) (H' := H15)
              refine ⟨hj', by simp [ea], o12.trans (o13.trans (o14.trans s15.off)), (k14.same s15), rws ++ [(ss, to)], (h1.mono fun v x h => h.same sm).snoc ⟨p15, p13, rfl, hds_at e15 n15, hds_at e13' n13⟩, fun x hx => ?_⟩
              rcases List.mem_append.mp hx with hx | hx
              · exact h2 x hx
              · rw [List.mem_singleton.mp hx]
                exact hto
            · rintro acc H12 ⟨_, ea, o12, k12, rws, h1, h2⟩ p13 H13 f13 s13 e13
              have n13 := new3 k12 (o12 _ _ hpc.1 hpc.2 ec9) f13
              exact ⟨o12.trans s13.off, ⟨_, by omega, k12.same s13⟩, p13, acc, rws, e13, n13, h1.mono fun v x h => h.same (hds_off hin.1 hin.2 s13.off), by rw [← h1.1, ea], h2, rfl⟩
        · rintro σ' H12 ⟨o12, ⟨m', hm', k12⟩, g, ps, rws, eg, ng, h1, hrw, h2, rfl⟩
          have ec12 := o12 _ _ hpc.1 hpc.2 ec9
          walk_at "run"
          refine i_tyL (SqL.of ec12) ?_
          walk_at "run"
          intro p13 H13 f13 s13 e13
          walk_at "run"
          have n13 := new3 k12 ec12 f13
          have ec13 := s13 _ _ ec12
          have hl : rvs.length = i := by rw [hrs.1, hrl]
          refine i_append ec13 (by omega) ?_
          rw [hPv]
          have sm : ∀ {Hx : Hp}, (∀ b o, b ∉ [d, l, pc] → Hx b = some o → H13 b = some o) → Same (hds [d, l, pc] Hx) (hds [d, l, pc] (upd H13 pc (.lst (rvs ++ [.ref p13])))) := fun hh => hds_mono (fun _ z => z) fun b o hb e => by
            rw [upd_ne (fun z => hb (by simp [z]))]
            exact hh b o hb e
          have o813 : ∀ b o, b ∉ [d, l, pc] → H8 b = some o → H13 b = some o := fun b o hb e => s13 _ _ (o12 _ _ (fun z => hb (by simp [z])) (fun z => hb (by simp [z])) (o9 _ _ (fun z => hb (by simp [z])) (fun z => hb (by simp [z])) e))
          refine ⟨fun b o hb e => ?_, ⟨m', by omega, ?_⟩, ⟨_, rs ++ [(ov, rws)], upd_same, by simp [hrl], (hrs.mono fun v x h => h.same (sm o813)).snoc ⟨p13, g, ps, rfl, ?_, ?_, h1.mono fun v x h => h.same (sm fun b o _ e => s13 _ _ e)⟩, fun r hr => ?_⟩, _, _, _, rfl⟩
          · rw [upd_ne (fun z => hb (by simp [z]))]
            exact o813 b o hb (kp8 b o hb e)
          · obtain ⟨ms, z, g1, g2, g3⟩ := (k12.same s13).ex
            exact ⟨ms, z, by rw [upd_ne hpc.1.symm]; exact g1, by rw [upd_ne hpc.2.symm]; exact g2, g3⟩
          · exact hds_at (by rw [upd_ne (fun z => n13 (by simp [z]))]; exact e13) n13
          · exact hds_at (by rw [upd_ne (fun z => ng (by simp [z]))]; exact s13 _ _ eg) ng
          · rcases List.mem_append.mp hr with hr | hr
            · exact hro r hr
            · rw [List.mem_singleton.mp hr]
              exact ⟨hrw, h2⟩
    · intro σ H8 hI
      rw [hPv] at hI
      obtain ⟨kp8, ⟨m, hm, k8⟩, ⟨rvs, rs, ec8, hrl, hrs, hro⟩, y6, y7, y8, rfl⟩ := hI
      walk_at "run"
      intro pt H9 f9 s9 e9
      have k9 := k8.same s9
      have hpt := k8.new f9
      have o79 : ∀ b o, b ∉ [d, l, pc] → H7 b = some o → H9 b = some o := fun b o hb e => s9 _ _ (kp8 b o hb e)
      have t79 : Tups H7 H9 := fun b ys e => by
        obtain ⟨ms, z, g1, g2, _⟩ := k7.ex
        refine o79 b _ ?_ e
        simp only [List.mem_cons, List.not_mem_nil, or_false, not_or]
        exact ⟨ne_of e g1 (fun z => nomatch z), ne_of e g2 (fun z => nomatch z), ne_of e e7 (fun z => nomatch z)⟩
      have two : ∀ {x : Addr}, x ≠ d ∧ x ≠ l → x ∉ [d, l] := fun h => by simp [h.1, h.2]
      have ev9 : Each (EvAt (hds [d, l] H9)) us ets := by
        refine hev7.mono fun v x h => h.tups fun b ys e => hds_at (t79 _ _ e) ?_
        obtain ⟨ms, z, g1, g2, _⟩ := k7.ex
        exact two ⟨ne_of e g1 (fun z => nomatch z), ne_of e g2 (fun z => nomatch z)⟩
      refine q pt us ets rs sy H9 m ⟨⟨pe, pb, pc, rvs, hds_at e9 (two hpt), hds_at (o79 _ _ (by simp [hpe.1, hpe.2, npe]) e17) (two hpe), hds_at (o79 _ _ (by simp [hpb.1, hpb.2, npb]) e67) (two hpb), hds_at (s9 _ _ ec8) (two hpc), hrs.mono fun v x h => h.same (hds_mono (by simp) fun b o _ e => s9 _ _ e)⟩, ev9⟩ ⟨⟨by omega, by omega, fun r hr => ⟨(hro r hr).1, fun x hx => by have := (hro r hr).2 x hx; omega⟩⟩, u0, u7, by omega, by omega⟩ (fun b o h1 h2 e => ?_) (by omega) k9
      refine s9 _ _ (kp8 b o ?_ (kp7 b o h1 h2 e))
      simp only [List.mem_cons, List.not_mem_nil, or_false, not_or]
      exact ⟨h1, h2, fun z => by rw [z, fc] at e; cases e⟩
noncomputable def papN (rs : List RRoom) (many i : Nat) : List (Nat × Nat) := (List.range i).filterMap fun x => if x ∈ fdR rs then some (x, numOf rs many x) else none
theorem papN_mem {rs : List RRoom} {many i : Nat} {p : Nat × Nat} : p ∈ papN rs many i ↔ p.1 < i ∧ p.1 ∈ fdR rs ∧ p.2 = numOf rs many p.1 := by
  unfold papN
  rw [List.mem_filterMap]
  constructor
  · rintro ⟨x, hx, e⟩
    by_cases hm : x ∈ fdR rs
    · rw [if_pos hm] at e
      cases e
      exact ⟨List.mem_range.mp hx, hm, rfl⟩
    · rw [if_neg hm] at e
      cases e
  · rintro ⟨h1, h2, h3⟩
    obtain ⟨a, b⟩ := p
    exact ⟨a, List.mem_range.mpr h1, by rw [if_pos h2]; exact congrArg (fun z => some (a, z)) h3.symm⟩
theorem papN_len (rs : List RRoom) (many i : Nat) : (papN rs many i).length ≤ i := by
  have := List.length_filterMap_le (fun x => if x ∈ fdR rs then some (x, numOf rs many x) else none) (List.range i)
  rw [List.length_range] at this
  exact this
theorem papN_yes {rs : List RRoom} {many i : Nat} (h : i ∈ fdR rs) : papN rs many (i + 1) = papN rs many i ++ [(i, numOf rs many i)] := by
  unfold papN
  rw [List.range_succ, List.filterMap_append]
  simp [h]
theorem papN_no {rs : List RRoom} {many i : Nat} (h : i ∉ fdR rs) : papN rs many (i + 1) = papN rs many i := by
  unfold papN
  rw [List.range_succ, List.filterMap_append]
  simp [h]
theorem pair_tr {H : Hp} {q : Addr} {a b : Nat} (e : H q = some (.tup [.int (a : Nat), .int (b : Nat)])) : (pairT (a, b)).At H (.ref q) [] := by
  unfold pairT
  exact at_tup0.mpr ⟨q, _, rfl, e, ats_cons0.mpr ⟨_, _, rfl, int_at, ats_cons0.mpr ⟨_, _, rfl, int_at, ats_nil0.mpr rfl⟩⟩⟩
theorem pair_of {H : Hp} {v : V} {p : Nat × Nat} (h : (pairT p).At H v []) : ∃ q, v = .ref q ∧ H q = some (.tup [.int (p.1 : Nat), .int (p.2 : Nat)]) := by
  obtain ⟨a, vs, rfl, e, h⟩ := at_tup0.mp h
  obtain ⟨v1, w1, rfl, h1, h⟩ := ats_cons0.mp h
  obtain ⟨v2, w2, rfl, h2, h⟩ := ats_cons0.mp h
  obtain rfl := ats_nil0.mp h
  obtain rfl := at_int0.mp h1
  obtain rfl := at_int0.mp h2
  exact ⟨a, rfl, e⟩
theorem ats_get0 {H : Hp} {xs : List Tr} {vs : List V} (h : Tr.Ats H xs vs []) {i : Nat} {v : V} (e : vs[i]? = some v) : ∃ x, xs[i]? = some x ∧ x.At H v [] := by
  obtain ⟨x, f, h1, h2, h3⟩ := h.get i v e
  have : f = [] := List.eq_nil_iff_forall_not_mem.mpr fun a m => by simpa using h3 a m
  subst this
  exact ⟨x, h1, h2⟩
theorem pairs_hs : ∀ l : List (Nat × Nat), Tr.hs (l.map pairT) ≤ 1
  | [] => by simp [Tr.hs]
  | x :: l => by
    have := pairs_hs l
    simp only [List.map_cons, Tr.hs, pairT, Tr.h]
    omega
def sp_paper (K : PySem.W.Frag) : Sp := fun vs H Q _ => ∃ (tt a b c : Addr) (us rvs : List V) (sy : List Str) (rs : List RRoom), vs = [.ref tt] ∧ H tt = some (.tup [.ref a, .ref b, .ref c]) ∧ H a = some (.lst us) ∧ H b = some (.lst (strsV sy)) ∧ H c = some (.lst rvs) ∧ Each (RoomAt H) rvs rs ∧ TblOk us.length rs ∧ 0 < rs.length ∧ rs.length ≤ 60 ∧ ∀ l vs H', H l = none → Same H H' → H' l = some (.lst vs) → Tr.Ats H' ((papN rs us.length rs.length).map pairT) vs [] → Q (.ref l) H'
theorem ok_least_paper (T : Txt K mg t) : FnOk P w K mg base CX0 7 t.a_least_paper t.fd_least_paper ["table"] (sp_paper K) := by
  have G_least_table := ok_least_table (P := P) (w := w) (base := base) T
  refine T.F_least_paper.ok sc_least_paper (fun vs H Q E h => ?_) (fun cdv A outer s H vs Q E hr h => ?_)
  · obtain ⟨tt, a, b, c, us, rvs, sy, rs, rfl, _⟩ := h
    rfl
  · obtain ⟨tt, a, b, c, us, rvs, sy, rs, rfl, h1, h2, h3, h4, h5, ok, r0, r60, q⟩ := h
    refine ⟨_, (@pss_one _ _ _ (@ps_ret _ _ _ _ (pe_lc (Nt := ["room", "number"]) (Nf := []) (caps := []) rfl (comp_ok (sc := defScope s_least_paper) rfl rfl (by decide +kernel) (by decide +kernel) (by decide +kernel) rfl (by decide +kernel)) (pi_enum K rfl T.z_enumerate (@pa_cons _ _ _ _ _ (@pe_ix _ _ _ _ _ _ _ (kix_tup K) (@pe_call _ _ _ _ _ _ _ _ _ _ _ _ _ _ _ _ G_least_table (hr.mono (by omega)) rfl T.m_least_table T.F_least_table.kp T.b_least_table .nil pass0 (@pa_cons _ _ _ _ _ (pv 0) (@pa_nil _) (by rfl)) (by decide) (by rfl) (by rfl)) (@pe_int _ _ _ _) (fun _ _ => rfl)) (@pa_nil _) (by rfl))) (fun _ _ _ _ _ => (kpg_tup K (n := 2) rfl (pgs_cons (pg_name (i := 0) (show (["room", "number"] : List Str).Nodup by decide +kernel) rfl (by first | exact Or.inl rfl | exact Or.inr rfl)) (pgs_cons (pg_name (i := 1) (show (["room", "number"] : List Str).Nodup by decide +kernel) rfl (by first | exact Or.inl rfl | exact Or.inr rfl)) (@pgs_nil _))))) (fun _ _ _ _ _ => (@pts_one _ _ _ (@pt_cmpR _ _ _ _ _ _ _ _ kop_notN (pv 1) (@pe_non _ _ _) (nomark _)))) (fun _ _ _ _ _ => (@pe_tupN _ _ _ _ _ (@pa_cons _ _ _ _ _ (pv 0) (@pa_cons _ _ _ _ _ (pv 1) (@pa_nil _) (by rfl)) (by rfl))))))), ?_⟩
    have sl : (1000000 : Nat) ≤ sizeLine := le_line (Nat.le_refl _)
    walk_at "go"
    refine ⟨tt, a, b, c, us, rvs, sy, rs, rfl, h1, h2, h3, h4, h5, ok, r0, r60, fun pr pn H1 s1 hL => ?_⟩
    obtain ⟨pt, pa, pb, pc, lv, g1, _, _, _, _, _, g7⟩ := hL.ex
    walk_at "run"
    refine i_ixT (SqT.of g1) (atI_nat (j := 1) rfl) ?_
    have nl : (numR rs us.length).length = rs.length := by simp [numR]
    have wl : (waysV (numR rs us.length)).length = rs.length := by simp [waysV, nl]
    refine ⟨_, rfl, ⟨_, SqL.of g7⟩, cc_enum (xs := waysV (numR rs us.length)) (by omega) (fun i acc H' => i ≤ rs.length ∧ Same H1 H' ∧ acc.length ≤ i ∧ Tr.Ats H' ((papN rs us.length i).map pairT) acc []) ⟨Nat.zero_le _, Same.refl _, Nat.le_refl _, by simp [papN, Tr.Ats]⟩ (fun i acc H' ⟨_, s', e, _⟩ => ⟨e, SqL.of (s' _ _ g7)⟩) ?_ ?_⟩
    · rintro i v acc H2 H3 hv ⟨hi, s2, ea, hat⟩ s3
      have hi' : i < rs.length := by rw [← wl]; exact (List.getElem?_eq_some_iff.mp hv).1
      rw [waysV_at (numR_at hi')] at hv
      by_cases hm : i ∈ fdR rs
      · rw [if_pos hm] at hv
        cases hv
        rw [papN_yes hm]
        walk_at "run"
        refine i_itNT (fun z => nomatch z) ?_
        walk_at "run"
        intro p4 H4 f4 s4 e4
        refine ⟨hi', s2.trans (s3.trans s4), by simp; omega, ?_⟩
        rw [List.map_append]
        exact (hat.mono ((s3.trans s4).keep _)).snoc (pair_tr e4)
      · rw [if_neg hm] at hv
        cases hv
        rw [papN_no hm]
        walk_at "run"
        refine i_itNF rfl ?_
        exact ⟨hi', s2.trans s3, by omega, hat.mono (s3.keep _)⟩
    · rintro acc H2 ⟨_, s2, ea, hat⟩ l H3 f3 s3 e3
      rw [wl] at hat
      walk_at "run"
      exact q l acc H3 ((s1.trans s2).free f3) (s1.trans (s2.trans s3)) e3 (hat.mono (s3.keep _))
def sp_right (K : PySem.W.Frag) : Sp := fun vs H Q _ => ∃ (tt e b c lt pa pb pc pl : Addr) (us rvs lv vs' : List V) (rs : List RRoom), vs = [.ref tt, .ref lt, .ref pl] ∧ H tt = some (.tup [.ref e, .ref b, .ref c]) ∧ H c = some (.lst rvs) ∧ Each (RoomAt H) rvs rs ∧ H lt = some (.tup [.ref pa, .ref pb, .ref pc]) ∧ H pc = some (.lst lv) ∧ Each (RoomAt H) lv (lstR rs us.length) ∧ H pl = some (.lst vs') ∧ Tr.Ats H ((papN rs us.length rs.length).map pairT) vs' [] ∧ TblOk us.length rs ∧ 0 < rs.length ∧ ∀ H', Same H H' → Q (.bl true) H'
theorem ok_law_right (T : Txt K mg t) : FnOk P w K mg base CX0 1 t.a__law_right t.fd__law_right ["table", "least", "paper"] (sp_right K) := by
  refine T.F__law_right.ok sc_law_right (fun vs H Q E h => ?_) (fun cdv A outer s H vs Q E hr h => ?_)
  · obtain ⟨tt, e, b, c, lt, pa, pb, pc, pl, us, rvs, lv, vs', rs, rfl, _⟩ := h
    rfl
  · obtain ⟨tt, e, b, c, lt, pa, pb, pc, pl, us, rvs, lv, vs', rs, rfl, h1, h2, h3, h4, h5, h6, h7, h8, ok, r0, q⟩ := h
    refine ⟨_, (@pss_cons _ _ _ _ _ (@ps_if _ _ _ _ _ _ _ _ (@pt_cmpR _ _ _ _ _ _ _ _ (kop_notInF K (by exact hr.units)) (@pe_tupN _ _ _ _ _ (@pa_cons _ _ _ _ _ (@pe_int _ _ _ _) (@pa_cons _ _ _ _ _ (@pe_int _ _ _ _) (@pa_nil _) (by rfl)) (by rfl))) (pv 2) (by with_unfolding_all rfl)) (@pss_one _ _ _ (@ps_ret _ _ _ _ (@pe_bl _ _ _ _))) (@pss_nil _))
      (@pss_cons _ _ _ _ _ (@ps_for _ _ _ _ _ _ _ _ PassesOwn.never rfl (kpi_list K (pv 2)) (kpg_tup K (n := 2) rfl (pgs_cons (pg_name (i := 3) sc_law_right.nd rfl (by first | exact Or.inl rfl | exact Or.inr rfl)) (pgs_cons (pg_name (i := 4) sc_law_right.nd rfl (by first | exact Or.inl rfl | exact Or.inr rfl)) (@pgs_nil _)))) (@pss_cons _ _ _ _ _ (@ps_asg _ _ _ _ _ _ (@pe_ix _ _ _ _ _ _ _ (kix_list K) (@pe_ix _ _ _ _ _ _ _ (kix_tup K) (pv 0) (@pe_int _ _ _ _) (fun _ _ => rfl)) (pv 3) (fun _ _ => rfl)) (kpg_tup K (n := 2) rfl (pgs_cons (pg_name (i := 5) sc_law_right.nd rfl (by first | exact Or.inl rfl | exact Or.inr rfl)) (pgs_cons (pg_name (i := 6) sc_law_right.nd rfl (by first | exact Or.inl rfl | exact Or.inr rfl)) (@pgs_nil _)))) (by rfl) (by rfl) (by rfl))
        (@pss_cons _ _ _ _ _ (@ps_if _ _ _ _ _ _ _ _ (@pt_cmpR _ _ _ _ _ _ _ _ op_ne (pv 5) (@pe_ix _ _ _ _ _ _ _ (kix_tup K) (@pe_ix _ _ _ _ _ _ _ (kix_list K) (@pe_ix _ _ _ _ _ _ _ (kix_tup K) (pv 1) (@pe_int _ _ _ _) (fun _ _ => rfl)) (pv 4) (fun _ _ => rfl)) (@pe_int _ _ _ _) (fun _ _ => rfl)) (nomark _)) (@pss_one _ _ _ (@ps_ret _ _ _ _ (@pe_bl _ _ _ _))) (@pss_nil _))
        (@pss_one _ _ _ (@ps_for _ _ _ _ _ _ _ _ PassesOwn.never rfl (pi_zip K rfl T.z_zip (@pa_cons _ _ _ _ _ (pv 6) (@pa_cons _ _ _ _ _ (@pe_ix _ _ _ _ _ _ _ (kix_tup K) (@pe_ix _ _ _ _ _ _ _ (kix_list K) (@pe_ix _ _ _ _ _ _ _ (kix_tup K) (pv 1) (@pe_int _ _ _ _) (fun _ _ => rfl)) (pv 4) (fun _ _ => rfl)) (@pe_int _ _ _ _) (fun _ _ => rfl)) (@pa_nil _) (by rfl)) (by rfl))) (kpg_tup K (n := 2) rfl (pgs_cons (pg_name (i := 7) sc_law_right.nd rfl (by first | exact Or.inl rfl | exact Or.inr rfl)) (pgs_cons (pg_name (i := 8) sc_law_right.nd rfl (by first | exact Or.inl rfl | exact Or.inr rfl)) (@pgs_nil _)))) (@pss_one _ _ _ (@ps_if _ _ _ _ _ _ _ _ (@PW.pt _ _ _ (@pw_or _ _ _ _ _ _ _ (@pt_cmpR _ _ _ _ _ _ _ _ (kop_neS K (by exact hr.units0)) (@pe_ix _ _ _ _ _ _ _ (kix_tup K) (pv 7) (@pe_int _ _ _ _) (fun _ _ => rfl)) (@pe_ix _ _ _ _ _ _ _ (kix_tup K) (pv 8) (@pe_int _ _ _ _) (fun _ _ => rfl)) (nomark _)) (@pw_or1 _ _ _ _ (@pt_cmpR _ _ _ _ _ _ _ _ (kop_notInF K (by exact hr.units)) (@pe_tupN _ _ _ _ _ (@pa_cons _ _ _ _ _ (@pe_ix _ _ _ _ _ _ _ (kix_tup K) (pv 7) (@pe_int _ _ _ _) (fun _ _ => rfl)) (@pa_cons _ _ _ _ _ (@pe_ix _ _ _ _ _ _ _ (kix_tup K) (pv 8) (@pe_int _ _ _ _) (fun _ _ => rfl)) (@pa_nil _) (by rfl)) (by rfl))) (pv 2) (by with_unfolding_all rfl))))) (@pss_one _ _ _ (@ps_ret _ _ _ _ (@pe_bl _ _ _ _))) (@pss_nil _))) (by intro _; rfl))))) (by intro _; rfl))
      (@pss_one _ _ _ (@ps_ret _ _ _ _ (@pe_bl _ _ _ _))))), ?_⟩
    have sl : (1000000 : Nat) ≤ sizeLine := le_line (Nat.le_refl _)
    have hB := fdR_ok ok r0
    have nd := hB.nd
    have hs := pairs_hs (papN rs us.length rs.length)
    have pin : ∀ {p : Nat × Nat}, p ∈ papN rs us.length rs.length → pairT p ∈ (papN rs us.length rs.length).map pairT := fun z => List.mem_map_of_mem z
    have vl : vs'.length = (papN rs us.length rs.length).length := by rw [h8.len, List.length_map]
    have h0 : (0, 0) ∈ papN rs us.length rs.length := papN_mem.mpr ⟨r0, List.mem_of_getElem? (fdR_0 rs), (num_0 nd).symm⟩
    walk_at "go"
    intro p1 H1 f1 s1 e1
    walk_at "run"
    refine i_notInF (pair_tr (a := 0) (b := 0) e1) (SqL.of (s1 _ _ h7)) (h8.mono (s1.keep _)) (by simp [pairT, Tr.h, Tr.hs]) (by omega) ?_
    walk_at "run"
    refine i_itNF (pin h0) ?_
    walk_at "run"
    have s0 := s1
    refine ⟨⟨_, SqL.of (s1 _ _ h7)⟩, for_list (K := K) (a := pl) (xs := vs') (fun i σ H' => Same H H' ∧ ∃ y3 y4 y5 y6 y7 y8, σ = [some (.ref tt), some (.ref lt), some (.ref pl), y3, y4, y5, y6, y7, y8]) ⟨s1, _, _, _, _, _, _, rfl⟩ (fun i σ H' _ ⟨s', _⟩ => SqL.of (s' _ _ h7)) ?_ ?_⟩
    · rintro i v σ H2 hv ⟨s2, y3, y4, y5, y6, y7, y8, rfl⟩
      obtain ⟨tx, hx1, hx2⟩ := ats_get0 h8 hv
      rw [List.getElem?_map] at hx1
      obtain ⟨⟨x, k⟩, hxk, rfl⟩ := Option.map_eq_some_iff.mp hx1
      obtain ⟨hxl, hxm, hk⟩ := papN_mem.mp (List.mem_of_getElem? hxk)
      simp only at hxl hxm hk
      obtain ⟨qv, rfl, hq⟩ := pair_of hx2
      obtain ⟨vx, hvx, bx, gx, psx, rfl, hbx, hgx, hpx⟩ := h3.get (roomA_of hxl)
      have hkl : k < (lstR rs us.length).length := by rw [hk]; exact num_lt nd hxm
      obtain ⟨y, hym, hyr, hyn⟩ := lst_at (many := us.length) nd hkl
      have hlk : ¬ ApartR (labR rs us.length) (wayR rs) us.length x y := (num_eq nd hxm hym).mp (by rw [hyn, hk])
      obtain ⟨l1, l2⟩ := like_step hlk
      obtain ⟨vy, hvy, byy, gy, psy, rfl, hby, hgy, hpy⟩ := h6.get hyr
      have hyl := hB.lt y hym
      have rx := (ok.rows _ (List.mem_of_getElem? (roomA_of hxl))).1
      have ry := (ok.rows _ (List.mem_of_getElem? (roomA_of hyl))).1
      have lx : psx.length = us.length := by rw [hpx.1, rx]
      have ly : psy.length = us.length := by rw [hpy.1]; unfold rwR; simp; exact ry
      refine i_asgT (SqT.of (s2 _ _ hq)) rfl ?_
      walk_at "run"
      refine i_ixT (SqT.of (s2 _ _ h1)) (atI_nat (j := 2) rfl) ?_
      walk_at "run"
      refine i_ixL (SqL.of (s2 _ _ h2)) (atI_nat hvx) ?_
      refine i_asgT (SqT.of (s2 _ _ hbx)) rfl ?_
      walk_at "run"
      refine i_ixT (SqT.of (s2 _ _ h4)) (atI_nat (j := 2) rfl) ?_
      walk_at "run"
      refine i_ixL (SqL.of (s2 _ _ h5)) (atI_nat hvy) ?_
      walk_at "run"
      refine i_ixT (SqT.of (s2 _ _ hby)) (atI_nat (j := 0) rfl) ?_
      walk_at "run"
      refine i_itNF l1 ?_
      walk_at "run"
      refine i_ixT (SqT.of (s2 _ _ h4)) (atI_nat (j := 2) rfl) ?_
      walk_at "run"
      refine i_ixL (SqL.of (s2 _ _ h5)) (atI_nat hvy) ?_
      walk_at "run"
      refine i_ixT (SqT.of (s2 _ _ hby)) (atI_nat (j := 1) rfl) ?_
      walk_at "run"
      refine ⟨gx, gy, rfl, ⟨_, SqL.of (s2 _ _ hgx)⟩, ⟨_, SqL.of (s2 _ _ hgy)⟩, for_zip (K := K) (xs := psx) (ys := psy) (by rw [lx, ly]) (fun j σ H' => Same H H' ∧ ∃ y3 y4 y5 y6 y7 y8, σ = [some (.ref tt), some (.ref lt), some (.ref pl), y3, y4, y5, y6, y7, y8]) ⟨s2, _, _, _, _, _, _, rfl⟩ (fun j σ H' _ ⟨s', _⟩ => ⟨SqL.of (s' _ _ hgx), SqL.of (s' _ _ hgy)⟩) ?_ ?_⟩
      · rintro j v1 v2 σ H3 qp H4 hv1 hv2 ⟨s3, y3, y4, y5, y6, y7, y8, rfl⟩ s4 e4
        have hj : j < us.length := by rw [← lx]; exact (List.getElem?_eq_some_iff.mp hv1).1
        obtain ⟨kx, sx, rfl, c2, c3⟩ := hpx.2 j v1 _ hv1 (rowA_lt ok hxl hj).2.2
        obtain ⟨ky, sy, rfl, d2, d3⟩ := hpy.2 j v2 ((rowA rs y j).1, numOf rs us.length (rowA rs y j).2) hv2 (by
          unfold rwR
          simp only []
          rw [List.getElem?_map, (rowA_lt ok hyl hj).2.2]
          rfl)
        simp only at d2 d3
        obtain ⟨l3, l4⟩ := l2 j hj
        have s04 := s3.trans s4
        refine i_asgT (SqT.of e4) rfl ?_
        walk_at "run"
        refine i_ixT (SqT.of (s04 _ _ c2)) (atI_nat (j := 0) rfl) ?_
        walk_at "run"
        refine i_ixT (SqT.of (s04 _ _ d2)) (atI_nat (j := 0) rfl) ?_
        walk_at "run"
        refine i_neL (SqL.of (s04 _ _ c3)) (SqL.of (s04 _ _ d3)) ?_
        walk_at "run"
        refine i_itNF l3 ?_
        walk_at "run"
        refine i_ixT (SqT.of (s04 _ _ c2)) (atI_nat (j := 1) rfl) ?_
        walk_at "run"
        refine i_ixT (SqT.of (s04 _ _ d2)) (atI_nat (j := 1) rfl) ?_
        walk_at "run"
        intro p5 H5 f5 s5 e5
        walk_at "run"
        have s05 := s04.trans s5
        refine i_notInF (pair_tr e5) (SqL.of (s05 _ _ h7)) (h8.mono (s05.keep _)) (by simp [pairT, Tr.h, Tr.hs]) (by omega) ?_
        walk_at "run"
        have wx := fdR_way ok r0 hxm hj
        have wy := fdR_way ok r0 hym hj
        refine i_itNF (pin (papN_mem.mpr ⟨hB.lt _ wx, wx, ((num_eq nd wx wy).mpr l4).symm⟩)) ?_
        exact ⟨s05, _, _, _, _, _, _, rfl⟩
      · rintro σ H3 ⟨s3, y3, y4, y5, y6, y7, y8, rfl⟩
        exact ⟨s3, _, _, _, _, _, _, rfl⟩
    · rintro σ H2 ⟨s2, y3, y4, y5, y6, y7, y8, rfl⟩
      walk_at "run"
      exact q H2 s2
def strW (s : Str) : Tw := .sc (.str s)
def rowW (r : RRow) : Tw := .tup [.lst (r.1.map strW), .sc (.int (r.2 : Nat))]
def roomW (r : RRoom) : Tw := .tup [.sc (.bl r.1), .lst (r.2.map rowW)]
theorem strs_w {H : Hp} : ∀ {ss : List Str} {vs : List V} {fs : List Addr}, Tw.Ats H (ss.map strW) vs fs ↔ vs = strsV ss ∧ fs = []
  | [], vs, fs => by simp [Tw.Ats, strsV]
  | s :: ss, vs, fs => by
    simp only [List.map_cons, Tw.Ats, strW, Tw.At]
    constructor
    · rintro ⟨v, ws, f, g, rfl, rfl, ⟨rfl, _, rfl⟩, h⟩
      obtain ⟨rfl, rfl⟩ := strs_w.mp h
      exact ⟨rfl, rfl⟩
    · rintro ⟨rfl, rfl⟩
      exact ⟨_, _, [], [], rfl, rfl, ⟨rfl, True.intro, rfl⟩, strs_w.mpr ⟨rfl, rfl⟩⟩
theorem row_w {H : Hp} {r : RRow} {v : V} {fs : List Addr} : (rowW r).At H v fs ↔ ∃ k sl, v = .ref k ∧ H k = some (.tup [.ref sl, .int (r.2 : Nat)]) ∧ H sl = some (.lst (strsV r.1)) ∧ fs = [sl] := by
  simp only [rowW, Tw.At, Tw.Ats]
  constructor
  · rintro ⟨a, vs, rfl, e, v, ws, f, g, rfl, rfl, ⟨sl, us, gs, rfl, e2, h, rfl⟩, v', ws', f', g', rfl, rfl, ⟨rfl, _, rfl⟩, rfl, rfl⟩
    obtain ⟨rfl, rfl⟩ := strs_w.mp h
    exact ⟨a, sl, rfl, e, e2, rfl⟩
  · rintro ⟨k, sl, rfl, e, e2, rfl⟩
    exact ⟨k, _, rfl, e, _, _, [sl], [], rfl, rfl, ⟨sl, _, [], rfl, e2, strs_w.mpr ⟨rfl, rfl⟩, rfl⟩, _, _, [], [], rfl, rfl, ⟨rfl, True.intro, rfl⟩, rfl, rfl⟩
theorem room_w {H : Hp} {r : RRoom} {v : V} {fs : List Addr} : (roomW r).At H v fs ↔ ∃ q g ps gs, v = .ref q ∧ H q = some (.tup [.bl r.1, .ref g]) ∧ H g = some (.lst ps) ∧ Tw.Ats H (r.2.map rowW) ps gs ∧ fs = g :: gs := by
  simp only [roomW, Tw.At, Tw.Ats]
  constructor
  · rintro ⟨a, vs, rfl, e, v, ws, f, g, rfl, rfl, ⟨rfl, _, rfl⟩, v', ws', f', g', rfl, rfl, ⟨sl, us, gs, rfl, e2, h, rfl⟩, rfl, rfl⟩
    exact ⟨a, sl, us, gs, rfl, e, e2, h, by simp⟩
  · rintro ⟨q, g, ps, gs, rfl, e, e2, h, rfl⟩
    exact ⟨q, _, rfl, e, _, _, [], g :: gs, rfl, rfl, ⟨rfl, True.intro, rfl⟩, _, _, g :: gs, [], rfl, by simp, ⟨g, ps, gs, rfl, e2, h, rfl⟩, rfl, rfl⟩
theorem hs_map {α : Type} {f : α → Tw} {k : Nat} : ∀ {l : List α}, (∀ x ∈ l, (f x).h ≤ k) → Tw.hs (l.map f) ≤ k
  | [], _ => by simp [Tw.hs]
  | x :: l, h => by
    have h1 := h x List.mem_cons_self
    have h2 := hs_map (l := l) fun y hy => h y (List.mem_cons_of_mem _ hy)
    simp only [List.map_cons, Tw.hs]
    omega
theorem rowW_h (r : RRow) : (rowW r).h ≤ 3 := by
  have := hs_map (f := strW) (k := 0) (l := r.1) fun x _ => by simp [strW, Tw.h]
  simp only [rowW, Tw.h, Tw.hs]
  omega
theorem roomW_h (r : RRoom) : (roomW r).h ≤ 6 := by
  have := hs_map (f := rowW) (k := 3) (l := r.2) fun x _ => rowW_h x
  simp only [roomW, Tw.h, Tw.hs]
  omega
theorem each_tw {α : Type} {R : V → α → Prop} {G : Hp} {f : α → Tw} (h : ∀ v x, R v x → ∃ fs, (f x).At G v fs) : ∀ {xs : List α} {vs : List V}, Each R vs xs → ∃ fs, Tw.Ats G (xs.map f) vs fs
  | [], vs, e => by
    obtain rfl := List.length_eq_zero_iff.mp e.1
    exact ⟨[], by simp [Tw.Ats]⟩
  | x :: xs, [], e => by have := e.1; simp at this
  | x :: xs, v :: vs, e => by
    obtain ⟨f1, h1⟩ := h v x (e.2 0 v x rfl rfl)
    obtain ⟨f2, h2⟩ := each_tw h (xs := xs) (vs := vs) ⟨by have := e.1; simpa using this, fun i a b c d => e.2 (i + 1) a b c d⟩
    exact ⟨f1 ++ f2, by
      simp only [List.map_cons, Tw.Ats]
      exact ⟨v, vs, f1, f2, rfl, rfl, h1, h2⟩⟩
theorem room_tw {G : Hp} {v : V} {r : RRoom} (h : RoomAt G v r) : ∃ fs, (roomW r).At G v fs := by
  obtain ⟨q, g, ps, rfl, h1, h2, h3⟩ := h
  obtain ⟨fs, h4⟩ := each_tw (f := rowW) (fun v x hx => by
    obtain ⟨k, sl, rfl, g1, g2⟩ := hx
    exact ⟨[sl], row_w.mpr ⟨k, sl, rfl, g1, g2, rfl⟩⟩) h3
  exact ⟨g :: fs, room_w.mpr ⟨q, g, ps, fs, rfl, h1, h2, h4, rfl⟩⟩
theorem Tab.tw {G : Hp} {tt : Addr} {us : List V} {ets : List Tr} {rs : List RRoom} {sy : List Str} (h : Tab G tt us ets rs sy) : ∃ fs, (Tw.tup [.lst (toWs ets), .lst (sy.map strW), .lst (rs.map roomW)]).At G (.ref tt) fs := by
  obtain ⟨a, b, c, rvs, h1, h2, h3, h4, h5⟩ := h.ex
  obtain ⟨fs, h6⟩ := each_tw (f := roomW) (fun v x hx => room_tw hx) h5
  refine ⟨([a] ++ ([b] ++ ((c :: fs) ++ []))), ?_⟩
  simp only [Tw.At, Tw.Ats]
  exact ⟨tt, _, rfl, h1, _, _, [a], _, rfl, rfl, ⟨a, us, [], rfl, h2, toWs_at (ev_ats h.ev).1, rfl⟩, _, _, [b], _, rfl, rfl, ⟨b, _, [], rfl, h3, strs_w.mpr ⟨rfl, rfl⟩, rfl⟩, _, _, c :: fs, [], rfl, rfl, ⟨c, rvs, fs, rfl, h4, h6, rfl⟩, rfl, rfl⟩
theorem tab_hs {G : Hp} {us : List V} {ets : List Tr} {rs : List RRoom} {sy : List Str} (h : Each (EvAt G) us ets) : Tw.hs [.lst (toWs ets), .lst (sy.map strW), .lst (rs.map roomW)] ≤ 50 := by
  have h1 := (ev_ats h).2
  have h2 := hs_map (f := strW) (k := 0) (l := sy) fun x _ => by simp [strW, Tw.h]
  have h3 := hs_map (f := roomW) (k := 6) (l := rs) fun x _ => roomW_h x
  simp only [Tw.hs, Tw.h, toWs_h]
  omega
theorem lst_pairs {H : Hp} {l : Addr} {vs : List V} {ps : List (Nat × Nat)} (e : H l = some (.lst vs)) (h : Tr.Ats H (ps.map pairT) vs []) : (Tr.lst (ps.map pairT)).At H (.ref l) [l] := by
  rw [Tr.At]
  exact ⟨l, vs, [], rfl, e, h, rfl⟩
def sp_law (K : PySem.W.Frag) : Sp := fun vs H Q _ => ∃ (a : Addr) (ns : List Int), vs = [.ref a] ∧ SqL K H a (ns.map V.int) ∧ ns.length ≤ 63 ∧ ∀ H', Q (.bl true) H'
theorem ok_law (T : Txt K mg t) : FnOk P w K mg base CX0 8 t.a_law t.fd_law ["script"] (sp_law K) := by
  have G__law_deck := ok_law_deck (P := P) (w := w) (base := base) T
  have G__law_right := ok_law_right (P := P) (w := w) (base := base) T
  have G__law_table := ok_law_table (P := P) (w := w) (base := base) T
  have G_least_paper := ok_least_paper (P := P) (w := w) (base := base) T
  have G_least_table := ok_least_table (P := P) (w := w) (base := base) T
  refine T.F_law.ok sc_law (fun vs H Q E h => ?_) (fun cdv A outer s H vs Q E hr h => ?_)
  · obtain ⟨a, ns, rfl, _⟩ := h
    rfl
  · obtain ⟨a, ns, rfl, hS, hl, q⟩ := h
    refine ⟨_, (@pss_cons _ _ _ _ _ (@ps_set _ _ 1 _ _ _ _ sc_law.nd rfl (by first | exact Or.inl rfl | exact Or.inr rfl) (@pe_call _ _ _ _ _ _ _ _ _ _ _ _ _ _ _ _ G__law_table (hr.mono (by omega)) rfl T.m__law_table T.F__law_table.kp T.b__law_table .nil pass0 (@pa_cons _ _ _ _ _ (@pe_call _ _ _ _ _ _ _ _ _ _ _ _ _ _ _ _ G__law_deck (hr.mono (by omega)) rfl T.m__law_deck T.F__law_deck.kp T.b__law_deck .nil pass0 (@pa_cons _ _ _ _ _ (pv 0) (@pa_nil _) (by rfl)) (by decide) (by rfl) (by rfl)) (@pa_nil _) (by rfl)) (by decide) (by rfl) (by rfl)) (by rfl) (by first | exact Or.inl rfl | exact Or.inr rfl))
      (@pss_cons _ _ _ _ _ (@ps_set _ _ 2 _ _ _ _ sc_law.nd rfl (by first | exact Or.inl rfl | exact Or.inr rfl) (@pe_tupN _ _ _ _ _ (@pa_cons _ _ _ _ _ (@pe_callTy _ _ _ _ _ _ _ _ _ (kcl_list K) (by rfl) T.z_list bb_list (@pa_cons _ _ _ _ _ (@pe_ix _ _ _ _ _ _ _ (kix_tup K) (pv 1) (@pe_int _ _ _ _) (fun _ _ => rfl)) (@pa_nil _) (by rfl)) (by decide) (by decide) (by rfl) (by rfl)) (@pa_cons _ _ _ _ _ (@pe_callTy _ _ _ _ _ _ _ _ _ (kcl_list K) (by rfl) T.z_list bb_list (@pa_cons _ _ _ _ _ (@pe_ix _ _ _ _ _ _ _ (kix_tup K) (pv 1) (@pe_int _ _ _ _) (fun _ _ => rfl)) (@pa_nil _) (by rfl)) (by decide) (by decide) (by rfl) (by rfl)) (@pa_cons _ _ _ _ _ (pe_lc (Nt := ["over", "rows"]) (Nf := []) (caps := []) rfl (comp_ok (sc := defScope s_law) rfl rfl (by decide +kernel) (by decide +kernel) (by decide +kernel) rfl (by decide +kernel)) (kpi_list K (@pe_ix _ _ _ _ _ _ _ (kix_tup K) (pv 1) (@pe_int _ _ _ _) (fun _ _ => rfl))) (fun _ _ _ _ _ => (kpg_tup K (n := 2) rfl (pgs_cons (pg_name (i := 0) (show (["over", "rows"] : List Str).Nodup by decide +kernel) rfl (by first | exact Or.inl rfl | exact Or.inr rfl)) (pgs_cons (pg_name (i := 1) (show (["over", "rows"] : List Str).Nodup by decide +kernel) rfl (by first | exact Or.inl rfl | exact Or.inr rfl)) (@pgs_nil _))))) (fun _ _ _ _ _ => (@pts_nil _)) (fun _ _ _ _ _ => (@pe_tupN _ _ _ _ _ (@pa_cons _ _ _ _ _ (pv 0) (@pa_cons _ _ _ _ _ (@pe_callTy _ _ _ _ _ _ _ _ _ (kcl_list K) (by rfl) T.z_list bb_list (@pa_cons _ _ _ _ _ (pv 1) (@pa_nil _) (by rfl)) (by decide) (by decide) (by rfl) (by rfl)) (@pa_nil _) (by rfl)) (by rfl))))) (@pa_nil _) (by rfl)) (by rfl)) (by rfl))) (by rfl) (by first | exact Or.inl rfl | exact Or.inr rfl))
      (@pss_cons _ _ _ _ _ (@ps_asg _ _ _ _ _ _ (@pe_call _ _ _ _ _ _ _ _ _ _ _ _ _ _ _ _ G_least_table (hr.mono (by omega)) rfl T.m_least_table T.F_least_table.kp T.b_least_table .nil pass0 (@pa_cons _ _ _ _ _ (pv 1) (@pa_nil _) (by rfl)) (by decide) (by rfl) (by rfl)) (kpg_tup K (n := 2) rfl (pgs_cons (pg_name (i := 3) sc_law.nd rfl (by first | exact Or.inl rfl | exact Or.inr rfl)) (pgs_cons (pg_name (i := 4) sc_law.nd rfl (by first | exact Or.inl rfl | exact Or.inr rfl)) (@pgs_nil _)))) (by rfl) (by rfl) (by rfl))
      (@pss_cons _ _ _ _ _ (@ps_set _ _ 5 _ _ _ _ sc_law.nd rfl (by first | exact Or.inl rfl | exact Or.inr rfl) (@pe_call _ _ _ _ _ _ _ _ _ _ _ _ _ _ _ _ G_least_paper (hr.mono (by omega)) rfl T.m_least_paper T.F_least_paper.kp T.b_least_paper .nil pass0 (@pa_cons _ _ _ _ _ (pv 2) (@pa_nil _) (by rfl)) (by decide) (by rfl) (by rfl)) (by rfl) (by first | exact Or.inl rfl | exact Or.inr rfl))
      (@pss_cons _ _ _ _ _ (ps_lc (i := 6) (Nt := ["room"]) (Nf := ["numbers"]) (caps := [4]) rfl (comp_ok (sc := defScope s_law) rfl rfl (by decide +kernel) (by decide +kernel) (by decide +kernel) rfl (by decide +kernel)) (pi_range1 rfl T.z_range (@pa_cons _ _ _ _ _ (@pe_callB _ _ _ _ _ _ _ _ _ (kcl_len K) (by rfl) T.z_len bb_len (@pa_cons _ _ _ _ _ (pv 4) (@pa_nil _) (by rfl)) (by decide) (by decide) (by rfl) (by rfl)) (@pa_nil _) (by rfl))) (fun _ _ _ _ _ => (pg_name (i := 0) (show (["room", "numbers"] : List Str).Nodup by decide +kernel) rfl (by first | exact Or.inl rfl | exact Or.inr rfl))) (fun _ _ _ _ _ => (@pts_one _ _ _ (@pt_cmpR _ _ _ _ _ _ _ _ kop_notN (@pe_ix _ _ _ _ _ _ _ (kix_list K) (pv 1) (pv 0) (fun _ _ => rfl)) (@pe_non _ _ _) (nomark _)))) (fun _ _ _ _ _ => (@pe_tupN _ _ _ _ _ (@pa_cons _ _ _ _ _ (pv 0) (@pa_cons _ _ _ _ _ (@pe_ix _ _ _ _ _ _ _ (kix_list K) (pv 1) (pv 0) (fun _ _ => rfl)) (@pa_nil _) (by rfl)) (by rfl)))) sc_law.nd rfl (by first | exact Or.inl rfl | exact Or.inr rfl) rfl)
      (@pss_cons _ _ _ _ _ (@ps_if _ _ _ _ _ _ _ _ (@PW.pt _ _ _ (@pw_or _ _ _ _ _ _ _ (@pt_not _ _ _ _ (kpt_tru K (@pe_callB _ _ _ _ _ _ _ _ _ (kcl_isi K) (by rfl) T.z_isinstance bb_isinstance (@pa_cons _ _ _ _ _ (pv 5) (@pa_cons _ _ _ _ _ (pe_bltn (v := .ty "list") (by rfl) T.z_list bb_list rfl) (@pa_nil _) (by rfl)) (by rfl)) (by decide) (by decide) (by rfl) (by rfl)) (fun _ => rfl))) (@pw_or _ _ _ _ _ _ _ (@pt_cmpR _ _ _ _ _ _ _ _ (kop_neLs (by exact hr.units)) (pv 5) (pv 6) (nomark _)) (@pw_or1 _ _ _ _ (@pt_cmpR _ _ _ _ _ _ _ _ (kop_neW (by exact hr.units)) (pv 2) (pv 1) (nomark _)))))) (@pss_one _ _ _ (@ps_ret _ _ _ _ (@pe_bl _ _ _ _))) (@pss_nil _))
      (@pss_cons _ _ _ _ _ (@ps_if _ _ _ _ _ _ _ _ (@pt_not _ _ _ _ (kpt_tru K (@pe_call _ _ _ _ _ _ _ _ _ _ _ _ _ _ _ _ G__law_right (hr.mono (by omega)) rfl T.m__law_right T.F__law_right.kp T.b__law_right .nil pass0 (@pa_cons _ _ _ _ _ (pv 1) (@pa_cons _ _ _ _ _ (pv 3) (@pa_cons _ _ _ _ _ (pv 5) (@pa_nil _) (by rfl)) (by rfl)) (by rfl)) (by decide) (by rfl) (by rfl)) (fun _ => rfl))) (@pss_one _ _ _ (@ps_ret _ _ _ _ (@pe_bl _ _ _ _))) (@pss_nil _))
      (@pss_cons _ _ _ _ _ (@ps_for _ _ _ _ _ _ _ _ PassesOwn.never rfl (kpi_list K (pv 5)) (pg_name (i := 7) sc_law.nd rfl (by first | exact Or.inl rfl | exact Or.inr rfl)) (@pss_one _ _ _ (@ps_if _ _ _ _ _ _ _ _ (@PW.pt _ _ _ (@pw_or _ _ _ _ _ _ _ (@pt_not _ _ _ _ (kpt_tru K (@pe_callB _ _ _ _ _ _ _ _ _ (kcl_isi K) (by rfl) T.z_isinstance bb_isinstance (@pa_cons _ _ _ _ _ (pv 7) (@pa_cons _ _ _ _ _ (pe_bltn (v := .ty "tuple") (by rfl) T.z_tuple bb_tuple rfl) (@pa_nil _) (by rfl)) (by rfl)) (by decide) (by decide) (by rfl) (by rfl)) (fun _ => rfl))) (@pw_or _ _ _ _ _ _ _ (kpt_tru K (@pe_callB _ _ _ _ _ _ _ _ _ (kcl_isi K) (by rfl) T.z_isinstance bb_isinstance (@pa_cons _ _ _ _ _ (@pe_ix _ _ _ _ _ _ _ (kix_tup K) (pv 7) (@pe_int _ _ _ _) (fun _ _ => rfl)) (@pa_cons _ _ _ _ _ (pe_bltn (v := .ty "bool") (by rfl) T.z_bool bb_bool rfl) (@pa_nil _) (by rfl)) (by rfl)) (by decide) (by decide) (by rfl) (by rfl)) (fun _ => rfl)) (@pw_or1 _ _ _ _ (kpt_tru K (@pe_callB _ _ _ _ _ _ _ _ _ (kcl_isi K) (by rfl) T.z_isinstance bb_isinstance (@pa_cons _ _ _ _ _ (@pe_ix _ _ _ _ _ _ _ (kix_tup K) (pv 7) (@pe_int _ _ _ _) (fun _ _ => rfl)) (@pa_cons _ _ _ _ _ (pe_bltn (v := .ty "bool") (by rfl) T.z_bool bb_bool rfl) (@pa_nil _) (by rfl)) (by rfl)) (by decide) (by decide) (by rfl) (by rfl)) (fun _ => rfl)))))) (@pss_one _ _ _ (@ps_ret _ _ _ _ (@pe_bl _ _ _ _))) (@pss_nil _))) (by intro _; rfl))
      (@pss_cons _ _ _ _ _ (@ps_expr _ _ _ _ (@kpe_bm _ K _ _ _ _ _ _ _ _ _ _ _ PySem.F.plainAttrs_list PySem.F.slot_list_insert PySem.F.type_list_insert mt_insert0 (pv 5) (@pa_cons _ _ _ _ _ (@pe_int _ _ _ _) (@pa_cons _ _ _ _ _ (@pe_tupN _ _ _ _ _ (@pa_cons _ _ _ _ _ (@pe_int _ _ _ _) (@pa_cons _ _ _ _ _ (@pe_int _ _ _ _) (@pa_nil _) (by rfl)) (by rfl))) (@pa_nil _) (by rfl)) (by rfl)) (by rfl) (by rfl) (by rfl) (by rfl) (by rfl) (by rfl)) (by rfl))
      (@pss_one _ _ _ (@ps_ret _ _ _ _ (@pe_cmpR _ _ _ _ _ _ _ _ (kop_eqLs (by exact hr.units)) (@pe_call _ _ _ _ _ _ _ _ _ _ _ _ _ _ _ _ G_least_paper (hr.mono (by omega)) rfl T.m_least_paper T.F_least_paper.kp T.b_least_paper .nil pass0 (@pa_cons _ _ _ _ _ (pv 2) (@pa_nil _) (by rfl)) (by decide) (by rfl) (by rfl)) (pv 6) (nomark _))))))))))))), ?_⟩
    have sl : (1000000 : Nat) ≤ sizeLine := le_line (Nat.le_refl _)
    walk_at "go"
    refine ⟨a, ns, rfl, hS, hl, fun d l H1 f1 g1 s1 k1 => ?_⟩
    walk_at "run"
    refine ⟨d, l, 0, rfl, k1, by omega, fun tt us ets rs sy H2 n2 T2 ok o2 hn2 k2 => ?_⟩
    walk_at "run"
    have T2 := T2.same hds_same
    obtain ⟨e, b, c, rvs, t1, t2, t3, t4, t5⟩ := T2.ex
    have hrl : rvs.length = rs.length := t5.1
    have r14 := ok.r14
    have u7 := ok.u7
    have r0 := ok.r0
    refine i_ixT (SqT.of t1) (atI_nat (j := 0) rfl) ?_
    walk_at "run"
    refine i_listL (SqL.of t2) ?_
    intro p3 H3 f3 s3 e3
    walk_at "run"
    refine i_ixT (SqT.of (s3 _ _ t1)) (atI_nat (j := 1) rfl) ?_
    walk_at "run"
    refine i_listL (SqL.of (s3 _ _ t3)) ?_
    intro p4 H4 f4 s4 e4
    walk_at "run"
    have s24 := s3.trans s4
    refine i_ixT (SqT.of (s24 _ _ t1)) (atI_nat (j := 2) rfl) ?_
    walk_at "run"
    refine ⟨⟨_, SqL.of (s24 _ _ t4)⟩, cc_pairs (xs := rvs) (le_line (by omega)) (fun j acc H' => j ≤ rvs.length ∧ acc.length = j ∧ Same H4 H' ∧ Each (RoomAt H') acc (rs.take j)) ⟨Nat.zero_le _, rfl, Same.refl _, by simpa using Each.nil⟩ (fun j acc H' ⟨_, ea, s', _⟩ => ⟨by omega, SqL.of (s' _ _ (s24 _ _ t4))⟩) ?_ ?_⟩
    · rintro j v acc H5 hv ⟨hj, ea, s5, h5⟩
      have hj' : j < rs.length := by rw [← hrl]; exact (List.getElem?_eq_some_iff.mp hv).1
      obtain ⟨qx, gx, ps, rfl, g1, g2, g3⟩ := t5.2 j v rs[j] hv (List.getElem?_eq_getElem hj')
      have s25 := s24.trans s5
      refine ⟨qx, _, _, rfl, SqT.of (s25 _ _ g1), ?_⟩
      walk_at "run"
      refine i_listL (SqL.of (s25 _ _ g2)) ?_
      intro p6 H6 f6 s6 e6
      walk_at "run"
      intro p7 H7 f7 s7 e7
      refine ⟨by omega, by simp [ea], s5.trans (s6.trans s7), ?_⟩
      rw [List.take_add_one, List.getElem?_eq_getElem hj']
      exact (h5.mono fun v x h => h.same (s6.trans s7)).snoc ⟨p7, p6, ps, rfl, e7, s7 _ _ e6, g3.mono fun v x h => h.same (s25.trans (s6.trans s7))⟩
    · rintro acc H5 ⟨_, ea, s5, h5⟩ p6 H6 f6 s6 e6
      rw [hrl, List.take_length] at h5
      walk_at "run"
      intro ph H7 f7 s7 e7
      walk_at "run"
      have s27 := s24.trans (s5.trans (s6.trans s7))
      have s37 := s4.trans (s5.trans (s6.trans s7))
      have h1 := s27 _ _ t1
      have h2 := s27 _ _ t2
      have h3 := s27 _ _ t3
      have h4 := s27 _ _ t4
      have hE : Each (RoomAt H7) rvs rs := t5.mono fun v x h => h.same s27
      have Tt : Tab H7 tt us ets rs sy := T2.same s27
      have e3 := s37 _ _ e3
      have e4 := (s5.trans (s6.trans s7)) _ _ e4
      have e6 := s7 _ _ e6
      have hE6 : Each (RoomAt H7) acc rs := h5.mono fun v x h => h.same (s6.trans s7)
      have Th : Tab H7 ph us ets rs sy := ⟨⟨p3, p4, p6, acc, e7, e3, e4, e6, hE6⟩, Tt.ev⟩
      clear T2 t1 t2 t3 t4 t5 h5 s24 s37
      refine ⟨tt, e, b, c, us, rvs, sy, rs, rfl, h1, h2, h3, h4, hE, ok.ok, r0, by omega, fun pr pn H8 s8 hL => ?_⟩
      obtain ⟨pt, pa, pb, pc, lv, g1, g2, g3, g4, g5, g6, g7⟩ := hL.ex
      refine i_asgT (SqT.of g1) rfl ?_
      walk_at "run"
      refine ⟨ph, p3, p4, p6, us, acc, sy, rs, rfl, s8 _ _ e7, s8 _ _ e3, s8 _ _ e4, s8 _ _ e6, hE6.mono fun v x h => h.same s8, ok.ok, r0, by omega, fun pl vs9 H9 f9 s9 e9 hat9 => ?_⟩
      walk_at "run"
      have nl : (numR rs us.length).length = rs.length := by simp [numR]
      have wl : (waysV (numR rs us.length)).length = rs.length := by simp [waysV, nl]
      refine i_lenL (SqL.of (s9 _ _ g7)) ?_
      rw [wl]
      walk_at "run"
      rw [Int.toNat_natCast]
      refine cc_range (lo := 0) (n := rs.length) (by omega) (fun i acc H' => i ≤ rs.length ∧ Same H9 H' ∧ acc.length ≤ i ∧ Tr.Ats H' ((papN rs us.length i).map pairT) acc []) ⟨Nat.zero_le _, Same.refl _, Nat.le_refl _, by simp [papN, Tr.Ats]⟩ (fun i acc H' ⟨_, _, e, _⟩ => e) ?_ ?_
      · rintro i acc H10 hi ⟨_, s10, ea, hat⟩
        rw [show (0 : Int) + ((i : Nat) : Int) = ((i : Nat) : Int) by omega]
        have hv := waysV_at (numR_at (many := us.length) hi)
        have g10 := (s9.trans s10) _ _ g7
        by_cases hm : i ∈ fdR rs
        · rw [if_pos hm] at hv
          rw [papN_yes hm]
          walk_at "run"
          refine i_ixL (SqL.of g10) (atI_nat hv) ?_
          walk_at "run"
          refine i_itNT (fun z => nomatch z) ?_
          walk_at "run"
          refine i_ixL (SqL.of g10) (atI_nat hv) ?_
          walk_at "run"
          intro p11 H11 f11 s11 e11
          refine ⟨hi, s10.trans s11, by simp; omega, ?_⟩
          rw [List.map_append]
          exact (hat.mono (s11.keep _)).snoc (pair_tr e11)
        · rw [if_neg hm] at hv
          rw [papN_no hm]
          walk_at "run"
          refine i_ixL (SqL.of g10) (atI_nat hv) ?_
          walk_at "run"
          refine i_itNF rfl ?_
          exact ⟨hi, s10, by omega, hat⟩
      · rintro vd H10 ⟨_, s10, ea, hat⟩ pd H11 f11 s11 e11
        have s911 := s10.trans s11
        have s811 := s9.trans s911
        have s711 := s8.trans s811
        have hat := hat.mono (s11.keep [])
        have hat9 := hat9.mono (s911.keep [])
        have e911 := s911 _ _ e9
        have hs := pairs_hs (papN rs us.length rs.length)
        have Tt := Tt.same s711
        have Th := Th.same s711
        obtain ⟨fs1, w1⟩ := Th.tw
        obtain ⟨fs2, w2⟩ := Tt.tw
        walk_at "run"
        refine i_isiL e911 ?_
        walk_at "run"
        refine i_neLs (lst_pairs e911 hat9) (lst_pairs e11 hat) (by omega) ?_
        walk_at "run"
        refine i_neW w1 w2 (tab_hs Tt.ev) ?_
        walk_at "run"
        refine ⟨tt, e, b, c, pt, pa, pb, pc, pl, us, rvs, lv, vs9, rs, rfl, s711 _ _ h1, s711 _ _ h4, hE.mono (fun v x h => h.same s711), s811 _ _ g2, s811 _ _ g5, g6.mono (fun v x h => h.same s811), e911, hat9, ok.ok, r0, fun H12 s12 => ?_⟩
        walk_at "run"
        refine ⟨⟨_, SqL.of (s12 _ _ e911)⟩, for_list (K := K) (a := pl) (xs := vs9) (fun i σ H' => H' = H12 ∧ ∃ y7, σ = [some (.ref a), some (.ref tt), some (.ref ph), some (.ref pt), some (.ref pn), some (.ref pl), some (.ref pd), y7]) ⟨rfl, _, rfl⟩ (fun i σ H' _ ⟨e, _⟩ => e ▸ SqL.of (s12 _ _ e911)) ?_ ?_⟩
        · rintro i v σ H13 hv ⟨rfl, y7, rfl⟩
          obtain ⟨tx, hx1, hx2⟩ := ats_get0 hat9 hv
          rw [List.getElem?_map] at hx1
          obtain ⟨xk, hxk, rfl⟩ := Option.map_eq_some_iff.mp hx1
          obtain ⟨qv, rfl, hq⟩ := pair_of hx2
          have hq := s12 _ _ hq
          walk_at "run"
          refine i_isiT hq ?_
          walk_at "run"
          refine i_ixT (SqT.of hq) (atI_nat (j := 0) rfl) ?_
          walk_at "run"
          refine i_ixT (SqT.of hq) (atI_nat (j := 1) rfl) ?_
          walk_at "run"
          exact ⟨rfl, _, rfl⟩
        · rintro σ H13 ⟨rfl, y7, rfl⟩
          have e912 := s12 _ _ e911
          have vl : vs9.length ≤ rs.length := by
            rw [hat9.len, List.length_map]
            exact papN_len _ _ _
          walk_at "run"
          refine i_tyL (SqL.of e912) ?_
          walk_at "run"
          intro p14 H14 f14 s14 e14
          walk_at "run"
          refine i_insert0 (s14 _ _ e912) (by omega) ?_
          have hne : pd ≠ pl := fun z => by
            have := s10 _ _ e9
            rw [← z, f11] at this
            cases this
          have s15 : Same H8 (upd H14 pl (.lst (.ref p14 :: vs9))) := (s811.trans (s12.trans s14)).updNew f9
          have t15 : Tups H14 (upd H14 pl (.lst (.ref p14 :: vs9))) := Tups.upd (s14 _ _ e912)
          have d15 : upd H14 pl (.lst (.ref p14 :: vs9)) pd = some (.lst vd) := by rw [upd_ne hne]; exact (s12.trans s14) _ _ e11
          generalize upd H14 pl (.lst (.ref p14 :: vs9)) = H15 at s15 t15 d15
          have hat15 := tr_tups_s hat ((s12.trans s14).tups.trans t15)
          have s715 := s8.trans s15
          walk_at "run"
          refine ⟨ph, p3, p4, p6, us, acc, sy, rs, rfl, s715 _ _ e7, s715 _ _ e3, s715 _ _ e4, s715 _ _ e6, hE6.mono fun v x h => h.same s715, ok.ok, r0, by omega, fun pz vz H16 f16 s16 e16 hat16 => ?_⟩
          walk_at "run"
          exact i_eqLs (lst_pairs e16 hat16) (lst_pairs (s16 _ _ d15) (hat15.mono (s16.keep []))) (by omega) (q _)
end
theorem all_mk {l : PySem.W.OpenLaw} {w : World} {K : PySem.W.Frag} {h : Heap} {mg : Str → Option Value} {fa : Addr} (X : K.In h) (G : h.Ns mainGlobals mg) (hfa : mg "law" = some (.ref fa))
    {C_Grouping : Addr} (aC_Grouping : PySem.W.nsIn K mainGlobals "Grouping" = some (some (.ref C_Grouping)))
    (pg_Grouping : PySem.W.plainGet K C_Grouping Str.empty = true) (hd_Grouping : PySem.W.hasDictIn K C_Grouping = true) (po_Grouping : PySem.W.plainOver K C_Grouping = true) (sa_Grouping : PySem.W.findIn K (.ref C_Grouping) "__setattr__" = some (some (.builtin "object.__setattr__"))) (mk_Grouping : PySem.W.makesIn K C_Grouping = true) (kc_Grouping : PySem.W.keepIn K (.ref C_Grouping) = true)
    (nF_Grouping_groups : PySem.W.findIn K (.ref C_Grouping) "groups" = some none)
    (nF_Grouping_members : PySem.W.findIn K (.ref C_Grouping) "members" = some none)
    (nF_Grouping_sources : PySem.W.findIn K (.ref C_Grouping) "sources" = some none)
    (nF_Grouping_touched : PySem.W.findIn K (.ref C_Grouping) "touched" = some none)
    (nF_Grouping_waiting : PySem.W.findIn K (.ref C_Grouping) "waiting" = some none)
    (nF_Grouping_ways : PySem.W.findIn K (.ref C_Grouping) "ways" = some none)
    {f0 : Addr} {od0 an0 : Option Addr} {sl0 : Array (Option Value)} {oc0 kV0 dc0 pm0 cd0 ct0 : Value}
    {f1 : Addr} {od1 an1 : Option Addr} {sl1 : Array (Option Value)} {oc1 kV1 dc1 pm1 cd1 ct1 : Value}
    {f2 : Addr} {od2 an2 : Option Addr} {sl2 : Array (Option Value)} {oc2 kV2 dc2 pm2 cd2 ct2 : Value}
    {f3 : Addr} {od3 an3 : Option Addr} {sl3 : Array (Option Value)} {oc3 kV3 dc3 pm3 cd3 ct3 : Value}
    {f4 : Addr} {od4 an4 : Option Addr} {sl4 : Array (Option Value)} {oc4 kV4 dc4 pm4 cd4 ct4 : Value}
    {f5 : Addr} {od5 an5 : Option Addr} {sl5 : Array (Option Value)} {oc5 kV5 dc5 pm5 cd5 ct5 : Value}
    {f6 : Addr} {od6 an6 : Option Addr} {sl6 : Array (Option Value)} {oc6 kV6 dc6 pm6 cd6 ct6 : Value}
    {f7 : Addr} {od7 an7 : Option Addr} {sl7 : Array (Option Value)} {oc7 kV7 dc7 pm7 cd7 ct7 : Value}
    {f8 : Addr} {od8 an8 : Option Addr} {sl8 : Array (Option Value)} {oc8 kV8 dc8 pm8 cd8 ct8 : Value}
    {f9 : Addr} {od9 an9 : Option Addr} {sl9 : Array (Option Value)} {oc9 kV9 dc9 pm9 cd9 ct9 : Value}
    {f10 : Addr} {od10 an10 : Option Addr} {sl10 : Array (Option Value)} {oc10 kV10 dc10 pm10 cd10 ct10 : Value}
    {f11 : Addr} {od11 an11 : Option Addr} {sl11 : Array (Option Value)} {oc11 kV11 dc11 pm11 cd11 ct11 : Value}
    {f12 : Addr} {od12 an12 : Option Addr} {sl12 : Array (Option Value)} {oc12 kV12 dc12 pm12 cd12 ct12 : Value}
    {f13 : Addr} {od13 an13 : Option Addr} {sl13 : Array (Option Value)} {oc13 kV13 dc13 pm13 cd13 ct13 : Value}
    {f14 : Addr} {od14 an14 : Option Addr} {sl14 : Array (Option Value)} {oc14 kV14 dc14 pm14 cd14 ct14 : Value}
    {f15 : Addr} {od15 an15 : Option Addr} {sl15 : Array (Option Value)} {oc15 kV15 dc15 pm15 cd15 ct15 : Value}
    {f16 : Addr} {od16 an16 : Option Addr} {sl16 : Array (Option Value)} {oc16 kV16 dc16 pm16 cd16 ct16 : Value}
    {f17 : Addr} {od17 an17 : Option Addr} {sl17 : Array (Option Value)} {oc17 kV17 dc17 pm17 cd17 ct17 : Value}
    {f18 : Addr} {od18 an18 : Option Addr} {sl18 : Array (Option Value)} {oc18 kV18 dc18 pm18 cd18 ct18 : Value}
    {f19 : Addr} {od19 an19 : Option Addr} {sl19 : Array (Option Value)} {oc19 kV19 dc19 pm19 cd19 ct19 : Value}
    {f20 : Addr} {od20 an20 : Option Addr} {sl20 : Array (Option Value)} {oc20 kV20 dc20 pm20 cd20 ct20 : Value}
    {f21 : Addr} {od21 an21 : Option Addr} {sl21 : Array (Option Value)} {oc21 kV21 dc21 pm21 cd21 ct21 : Value}
    {f22 : Addr} {od22 an22 : Option Addr} {sl22 : Array (Option Value)} {oc22 kV22 dc22 pm22 cd22 ct22 : Value}
    {f23 : Addr} {od23 an23 : Option Addr} {sl23 : Array (Option Value)} {oc23 kV23 dc23 pm23 cd23 ct23 : Value}
    (a0 : PySem.W.nsIn K mainGlobals "found_from" = some (some (.ref f0))) (l0 : K.lookup f0 = some ⟨oc0, od0, .func (PySem.W.fnOf "found_from" "found_from" (defArgs s_found_from) (defBody s_found_from) (defScope s_found_from) .none kV0 dc0 pm0 an0 cd0 ct0), sl0⟩) (c0 : PySem.W.codeIn K cd0 "found_from" = true) (k0 : PySem.W.keepIn K (.ref f0) = true)
    (a1 : PySem.W.nsIn K mainGlobals "put_together" = some (some (.ref f1))) (l1 : K.lookup f1 = some ⟨oc1, od1, .func (PySem.W.fnOf "put_together" "put_together" (defArgs s_put_together) (defBody s_put_together) (defScope s_put_together) .none kV1 dc1 pm1 an1 cd1 ct1), sl1⟩) (c1 : PySem.W.codeIn K cd1 "put_together" = true) (k1 : PySem.W.keepIn K (.ref f1) = true)
    (a2 : PySem.W.nsIn K mainGlobals "numbered" = some (some (.ref f2))) (l2 : K.lookup f2 = some ⟨oc2, od2, .func (PySem.W.fnOf "numbered" "numbered" (defArgs s_numbered) (defBody s_numbered) (defScope s_numbered) .none kV2 dc2 pm2 an2 cd2 ct2), sl2⟩) (c2 : PySem.W.codeIn K cd2 "numbered" = true) (k2 : PySem.W.keepIn K (.ref f2) = true)
    (a3 : PySem.W.nsIn K mainGlobals "counted" = some (some (.ref f3))) (l3 : K.lookup f3 = some ⟨oc3, od3, .func (PySem.W.fnOf "counted" "counted" (defArgs s_counted) (defBody s_counted) (defScope s_counted) .none kV3 dc3 pm3 an3 cd3 ct3), sl3⟩) (c3 : PySem.W.codeIn K cd3 "counted" = true) (k3 : PySem.W.keepIn K (.ref f3) = true)
    (a4 : PySem.W.nsIn K mainGlobals "firsts" = some (some (.ref f4))) (l4 : K.lookup f4 = some ⟨oc4, od4, .func (PySem.W.fnOf "firsts" "firsts" (defArgs s_firsts) (defBody s_firsts) (defScope s_firsts) .none kV4 dc4 pm4 an4 cd4 ct4), sl4⟩) (c4 : PySem.W.codeIn K cd4 "firsts" = true) (k4 : PySem.W.keepIn K (.ref f4) = true)
    (a5 : PySem.W.findIn K (.ref C_Grouping) "__init__" = some (some (.ref f5))) (i5 : PySem.W.isFn K (.ref f5) = true) (l5 : K.lookup f5 = some ⟨oc5, od5, .func (PySem.W.fnOf "__init__" "Grouping.__init__" (defArgs s_Grouping___init__) (defBody s_Grouping___init__) (defScope s_Grouping___init__) .none kV5 dc5 pm5 an5 cd5 ct5), sl5⟩) (c5 : PySem.W.codeIn K cd5 "Grouping.__init__" = true) (k5 : PySem.W.keepIn K (.ref f5) = true)
    (a6 : PySem.W.findIn K (.ref C_Grouping) "part" = some (some (.ref f6))) (i6 : PySem.W.isFn K (.ref f6) = true) (l6 : K.lookup f6 = some ⟨oc6, od6, .func (PySem.W.fnOf "part" "Grouping.part" (defArgs s_Grouping_part) (defBody s_Grouping_part) (defScope s_Grouping_part) .none kV6 dc6 pm6 an6 cd6 ct6), sl6⟩) (c6 : PySem.W.codeIn K cd6 "Grouping.part" = true) (k6 : PySem.W.keepIn K (.ref f6) = true)
    (a7 : PySem.W.findIn K (.ref C_Grouping) "parts_of" = some (some (.ref f7))) (i7 : PySem.W.isFn K (.ref f7) = true) (l7 : K.lookup f7 = some ⟨oc7, od7, .func (PySem.W.fnOf "parts_of" "Grouping.parts_of" (defArgs s_Grouping_parts_of) (defBody s_Grouping_parts_of) (defScope s_Grouping_parts_of) .none kV7 dc7 pm7 an7 cd7 ct7), sl7⟩) (c7 : PySem.W.codeIn K cd7 "Grouping.parts_of" = true) (k7 : PySem.W.keepIn K (.ref f7) = true)
    (a8 : PySem.W.findIn K (.ref C_Grouping) "led_groups" = some (some (.ref f8))) (i8 : PySem.W.isFn K (.ref f8) = true) (l8 : K.lookup f8 = some ⟨oc8, od8, .func (PySem.W.fnOf "led_groups" "Grouping.led_groups" (defArgs s_Grouping_led_groups) (defBody s_Grouping_led_groups) (defScope s_Grouping_led_groups) .none kV8 dc8 pm8 an8 cd8 ct8), sl8⟩) (c8 : PySem.W.codeIn K cd8 "Grouping.led_groups" = true) (k8 : PySem.W.keepIn K (.ref f8) = true)
    (a9 : PySem.W.findIn K (.ref C_Grouping) "regroup" = some (some (.ref f9))) (i9 : PySem.W.isFn K (.ref f9) = true) (l9 : K.lookup f9 = some ⟨oc9, od9, .func (PySem.W.fnOf "regroup" "Grouping.regroup" (defArgs s_Grouping_regroup) (defBody s_Grouping_regroup) (defScope s_Grouping_regroup) .none kV9 dc9 pm9 an9 cd9 ct9), sl9⟩) (c9 : PySem.W.codeIn K cd9 "Grouping.regroup" = true) (k9 : PySem.W.keepIn K (.ref f9) = true)
    (a10 : PySem.W.findIn K (.ref C_Grouping) "touch_sources" = some (some (.ref f10))) (i10 : PySem.W.isFn K (.ref f10) = true) (l10 : K.lookup f10 = some ⟨oc10, od10, .func (PySem.W.fnOf "touch_sources" "Grouping.touch_sources" (defArgs s_Grouping_touch_sources) (defBody s_Grouping_touch_sources) (defScope s_Grouping_touch_sources) .none kV10 dc10 pm10 an10 cd10 ct10), sl10⟩) (c10 : PySem.W.codeIn K cd10 "Grouping.touch_sources" = true) (k10 : PySem.W.keepIn K (.ref f10) = true)
    (a11 : PySem.W.nsIn K mainGlobals "sources_of" = some (some (.ref f11))) (l11 : K.lookup f11 = some ⟨oc11, od11, .func (PySem.W.fnOf "sources_of" "sources_of" (defArgs s_sources_of) (defBody s_sources_of) (defScope s_sources_of) .none kV11 dc11 pm11 an11 cd11 ct11), sl11⟩) (c11 : PySem.W.codeIn K cd11 "sources_of" = true) (k11 : PySem.W.keepIn K (.ref f11) = true)
    (a12 : PySem.W.nsIn K mainGlobals "members_of" = some (some (.ref f12))) (l12 : K.lookup f12 = some ⟨oc12, od12, .func (PySem.W.fnOf "members_of" "members_of" (defArgs s_members_of) (defBody s_members_of) (defScope s_members_of) .none kV12 dc12 pm12 an12 cd12 ct12), sl12⟩) (c12 : PySem.W.codeIn K cd12 "members_of" = true) (k12 : PySem.W.keepIn K (.ref f12) = true)
    (a13 : PySem.W.nsIn K mainGlobals "room_with" = some (some (.ref f13))) (l13 : K.lookup f13 = some ⟨oc13, od13, .func (PySem.W.fnOf "room_with" "room_with" (defArgs s_room_with) (defBody s_room_with) (defScope s_room_with) .none kV13 dc13 pm13 an13 cd13 ct13), sl13⟩) (c13 : PySem.W.codeIn K cd13 "room_with" = true) (k13 : PySem.W.keepIn K (.ref f13) = true)
    (a14 : PySem.W.nsIn K mainGlobals "least_table" = some (some (.ref f14))) (l14 : K.lookup f14 = some ⟨oc14, od14, .func (PySem.W.fnOf "least_table" "least_table" (defArgs s_least_table) (defBody s_least_table) (defScope s_least_table) .none kV14 dc14 pm14 an14 cd14 ct14), sl14⟩) (c14 : PySem.W.codeIn K cd14 "least_table" = true) (k14 : PySem.W.keepIn K (.ref f14) = true)
    (a15 : PySem.W.nsIn K mainGlobals "label_of" = some (some (.ref f15))) (l15 : K.lookup f15 = some ⟨oc15, od15, .func (PySem.W.fnOf "label_of" "label_of" (defArgs s_label_of) (defBody s_label_of) (defScope s_label_of) .none kV15 dc15 pm15 an15 cd15 ct15), sl15⟩) (c15 : PySem.W.codeIn K cd15 "label_of" = true) (k15 : PySem.W.keepIn K (.ref f15) = true)
    (a16 : PySem.W.nsIn K mainGlobals "least_paper" = some (some (.ref f16))) (l16 : K.lookup f16 = some ⟨oc16, od16, .func (PySem.W.fnOf "least_paper" "least_paper" (defArgs s_least_paper) (defBody s_least_paper) (defScope s_least_paper) .none kV16 dc16 pm16 an16 cd16 ct16), sl16⟩) (c16 : PySem.W.codeIn K cd16 "least_paper" = true) (k16 : PySem.W.keepIn K (.ref f16) = true)
    (a17 : PySem.W.nsIn K mainGlobals "_law_next" = some (some (.ref f17))) (l17 : K.lookup f17 = some ⟨oc17, od17, .func (PySem.W.fnOf "_law_next" "_law_next" (defArgs s_law_next) (defBody s_law_next) (defScope s_law_next) .none kV17 dc17 pm17 an17 cd17 ct17), sl17⟩) (c17 : PySem.W.codeIn K cd17 "_law_next" = true) (k17 : PySem.W.keepIn K (.ref f17) = true)
    (a18 : PySem.W.nsIn K mainGlobals "_law_deck" = some (some (.ref f18))) (l18 : K.lookup f18 = some ⟨oc18, od18, .func (PySem.W.fnOf "_law_deck" "_law_deck" (defArgs s_law_deck) (defBody s_law_deck) (defScope s_law_deck) .none kV18 dc18 pm18 an18 cd18 ct18), sl18⟩) (c18 : PySem.W.codeIn K cd18 "_law_deck" = true) (k18 : PySem.W.keepIn K (.ref f18) = true)
    (a19 : PySem.W.nsIn K mainGlobals "_law_said" = some (some (.ref f19))) (l19 : K.lookup f19 = some ⟨oc19, od19, .func (PySem.W.fnOf "_law_said" "_law_said" (defArgs s_law_said) (defBody s_law_said) (defScope s_law_said) .none kV19 dc19 pm19 an19 cd19 ct19), sl19⟩) (c19 : PySem.W.codeIn K cd19 "_law_said" = true) (k19 : PySem.W.keepIn K (.ref f19) = true)
    (a20 : PySem.W.nsIn K mainGlobals "_law_events" = some (some (.ref f20))) (l20 : K.lookup f20 = some ⟨oc20, od20, .func (PySem.W.fnOf "_law_events" "_law_events" (defArgs s_law_events) (defBody s_law_events) (defScope s_law_events) .none kV20 dc20 pm20 an20 cd20 ct20), sl20⟩) (c20 : PySem.W.codeIn K cd20 "_law_events" = true) (k20 : PySem.W.keepIn K (.ref f20) = true)
    (a21 : PySem.W.nsIn K mainGlobals "_law_table" = some (some (.ref f21))) (l21 : K.lookup f21 = some ⟨oc21, od21, .func (PySem.W.fnOf "_law_table" "_law_table" (defArgs s_law_table) (defBody s_law_table) (defScope s_law_table) .none kV21 dc21 pm21 an21 cd21 ct21), sl21⟩) (c21 : PySem.W.codeIn K cd21 "_law_table" = true) (k21 : PySem.W.keepIn K (.ref f21) = true)
    (a22 : PySem.W.nsIn K mainGlobals "_law_right" = some (some (.ref f22))) (l22 : K.lookup f22 = some ⟨oc22, od22, .func (PySem.W.fnOf "_law_right" "_law_right" (defArgs s_law_right) (defBody s_law_right) (defScope s_law_right) .none kV22 dc22 pm22 an22 cd22 ct22), sl22⟩) (c22 : PySem.W.codeIn K cd22 "_law_right" = true) (k22 : PySem.W.keepIn K (.ref f22) = true)
    (a23 : PySem.W.nsIn K mainGlobals "law" = some (some (.ref f23))) (l23 : K.lookup f23 = some ⟨oc23, od23, .func (PySem.W.fnOf "law" "law" (defArgs s_law) (defBody s_law) (defScope s_law) .none kV23 dc23 pm23 an23 cd23 ct23), sl23⟩) (c23 : PySem.W.codeIn K cd23 "law" = true) (k23 : PySem.W.keepIn K (.ref f23) = true)
    (z_bool : PySem.W.nsIn K mainGlobals "bool" = some none)
    (z_dict : PySem.W.nsIn K mainGlobals "dict" = some none)
    (z_enumerate : PySem.W.nsIn K mainGlobals "enumerate" = some none)
    (z_int : PySem.W.nsIn K mainGlobals "int" = some none)
    (z_isinstance : PySem.W.nsIn K mainGlobals "isinstance" = some none)
    (z_len : PySem.W.nsIn K mainGlobals "len" = some none)
    (z_list : PySem.W.nsIn K mainGlobals "list" = some none)
    (z_max : PySem.W.nsIn K mainGlobals "max" = some none)
    (z_min : PySem.W.nsIn K mainGlobals "min" = some none)
    (z_range : PySem.W.nsIn K mainGlobals "range" = some none)
    (z_sorted : PySem.W.nsIn K mainGlobals "sorted" = some none)
    (z_sum : PySem.W.nsIn K mainGlobals "sum" = some none)
    (z_tuple : PySem.W.nsIn K mainGlobals "tuple" = some none)
    (z_zip : PySem.W.nsIn K mainGlobals "zip" = some none)
    : ∃ fd : FuncData, (∀ (s : Shared) (v : Value), BindsTo s fd ⟨[v], []⟩ [("script", v)]) ∧ ∀ base : Heap, K.In base → base.Ns mainGlobals mg → FnOk l.prog w K mg base CX0 8 fa fd ["script"] (sp_law K) := by
  have e := hfa.symm.trans (PySem.W.mg_of X G a23)
  cases e
  have F0 := fun_mk (st := s_found_from) l0 c0 k0
  have b0 := F0.binds (ps := ["ways", "first"]) fun _ _ _ _ _ _ us hl => match us, hl with | [_, _], _ => rfl
  have F1 := fun_mk (st := s_put_together) l1 c1 k1
  have b1 := F1.binds (ps := ["labels", "ways"]) fun _ _ _ _ _ _ us hl => match us, hl with | [_, _], _ => rfl
  have F2 := fun_mk (st := s_numbered) l2 c2 k2
  have b2 := F2.binds (ps := ["labels"]) fun _ _ _ _ _ _ us hl => match us, hl with | [_], _ => rfl
  have F3 := fun_mk (st := s_counted) l3 c3 k3
  have b3 := F3.binds (ps := ["things"]) fun _ _ _ _ _ _ us hl => match us, hl with | [_], _ => rfl
  have F4 := fun_mk (st := s_firsts) l4 c4 k4
  have b4 := F4.binds (ps := ["numbers"]) fun _ _ _ _ _ _ us hl => match us, hl with | [_], _ => rfl
  have F5 := fun_mk (st := s_Grouping___init__) l5 c5 k5
  have b5 := F5.binds (ps := ["self", "labels", "ways"]) fun _ _ _ _ _ _ us hl => match us, hl with | [_, _, _], _ => rfl
  have F6 := fun_mk (st := s_Grouping_part) l6 c6 k6
  have b6 := F6.binds (ps := ["self", "group"]) fun _ _ _ _ _ _ us hl => match us, hl with | [_, _], _ => rfl
  have F7 := fun_mk (st := s_Grouping_parts_of) l7 c7 k7
  have b7 := F7.binds (ps := ["self", "group"]) fun _ _ _ _ _ _ us hl => match us, hl with | [_, _], _ => rfl
  have F8 := fun_mk (st := s_Grouping_led_groups) l8 c8 k8
  have b8 := F8.binds (ps := ["self", "thing"]) fun _ _ _ _ _ _ us hl => match us, hl with | [_, _], _ => rfl
  have F9 := fun_mk (st := s_Grouping_regroup) l9 c9 k9
  have b9 := F9.binds (ps := ["self", "things"]) fun _ _ _ _ _ _ us hl => match us, hl with | [_, _], _ => rfl
  have F10 := fun_mk (st := s_Grouping_touch_sources) l10 c10 k10
  have b10 := F10.binds (ps := ["self", "thing"]) fun _ _ _ _ _ _ us hl => match us, hl with | [_, _], _ => rfl
  have F11 := fun_mk (st := s_sources_of) l11 c11 k11
  have b11 := F11.binds (ps := ["ways"]) fun _ _ _ _ _ _ us hl => match us, hl with | [_], _ => rfl
  have F12 := fun_mk (st := s_members_of) l12 c12 k12
  have b12 := F12.binds (ps := ["groups"]) fun _ _ _ _ _ _ us hl => match us, hl with | [_], _ => rfl
  have F13 := fun_mk (st := s_room_with) l13 c13 k13
  have b13 := F13.binds (ps := ["room", "numbers"]) fun _ _ _ _ _ _ us hl => match us, hl with | [_, _], _ => rfl
  have F14 := fun_mk (st := s_least_table) l14 c14 k14
  have b14 := F14.binds (ps := ["table"]) fun _ _ _ _ _ _ us hl => match us, hl with | [_], _ => rfl
  have F15 := fun_mk (st := s_label_of) l15 c15 k15
  have b15 := F15.binds (ps := ["room"]) fun _ _ _ _ _ _ us hl => match us, hl with | [_], _ => rfl
  have F16 := fun_mk (st := s_least_paper) l16 c16 k16
  have b16 := F16.binds (ps := ["table"]) fun _ _ _ _ _ _ us hl => match us, hl with | [_], _ => rfl
  have F17 := fun_mk (st := s_law_next) l17 c17 k17
  have b17 := F17.binds (ps := ["deck"]) fun _ _ _ _ _ _ us hl => match us, hl with | [_], _ => rfl
  have F18 := fun_mk (st := s_law_deck) l18 c18 k18
  have b18 := F18.binds (ps := ["script"]) fun _ _ _ _ _ _ us hl => match us, hl with | [_], _ => rfl
  have F19 := fun_mk (st := s_law_said) l19 c19 k19
  have b19 := F19.binds (ps := ["deck", "rich"]) fun _ _ _ _ _ _ us hl => match us, hl with | [_, _], _ => rfl
  have F20 := fun_mk (st := s_law_events) l20 c20 k20
  have b20 := F20.binds (ps := ["deck"]) fun _ _ _ _ _ _ us hl => match us, hl with | [_], _ => rfl
  have F21 := fun_mk (st := s_law_table) l21 c21 k21
  have b21 := F21.binds (ps := ["deck"]) fun _ _ _ _ _ _ us hl => match us, hl with | [_], _ => rfl
  have F22 := fun_mk (st := s_law_right) l22 c22 k22
  have b22 := F22.binds (ps := ["table", "least", "paper"]) fun _ _ _ _ _ _ us hl => match us, hl with | [_, _, _], _ => rfl
  have F23 := fun_mk (st := s_law) l23 c23 k23
  have b23 := F23.binds (ps := ["script"]) fun _ _ _ _ _ _ us hl => match us, hl with | [_], _ => rfl
  have TT : Txt K mg ⟨_, _, _, _, _, _, _, _, _, _, _, _, _, _, _, _, _, _, _, _, _, _, _, _, _, _, _, _, _, _, _, _, _, _, _, _, _, _, _, _, _, _, _, _, _, _, _, _, C_Grouping⟩ := ⟨F0, PySem.W.mg_of X G a0, b0, F1, PySem.W.mg_of X G a1, b1, F2, PySem.W.mg_of X G a2, b2, F3, PySem.W.mg_of X G a3, b3, F4, PySem.W.mg_of X G a4, b4, F5, b5, F6, ⟨a6, i6, k6⟩, b6, F7, ⟨a7, i7, k7⟩, b7, F8, ⟨a8, i8, k8⟩, b8, F9, ⟨a9, i9, k9⟩, b9, F10, ⟨a10, i10, k10⟩, b10, F11, PySem.W.mg_of X G a11, b11, F12, PySem.W.mg_of X G a12, b12, F13, PySem.W.mg_of X G a13, b13, F14, PySem.W.mg_of X G a14, b14, F15, PySem.W.mg_of X G a15, b15, F16, PySem.W.mg_of X G a16, b16, F17, PySem.W.mg_of X G a17, b17, F18, PySem.W.mg_of X G a18, b18, F19, PySem.W.mg_of X G a19, b19, F20, PySem.W.mg_of X G a20, b20, F21, PySem.W.mg_of X G a21, b21, F22, PySem.W.mg_of X G a22, b22, F23, PySem.W.mg_of X G a23, b23, PySem.W.mg_of X G aC_Grouping, ⟨pg_Grouping, hd_Grouping, po_Grouping, sa_Grouping⟩, ⟨mk_Grouping, a5, i5, kc_Grouping⟩, nF_Grouping_groups, nF_Grouping_members, nF_Grouping_sources, nF_Grouping_touched, nF_Grouping_waiting, nF_Grouping_ways, PySem.W.mg_none_of X G z_bool, PySem.W.mg_none_of X G z_dict, PySem.W.mg_none_of X G z_enumerate, PySem.W.mg_none_of X G z_int, PySem.W.mg_none_of X G z_isinstance, PySem.W.mg_none_of X G z_len, PySem.W.mg_none_of X G z_list, PySem.W.mg_none_of X G z_max, PySem.W.mg_none_of X G z_min, PySem.W.mg_none_of X G z_range, PySem.W.mg_none_of X G z_sorted, PySem.W.mg_none_of X G z_sum, PySem.W.mg_none_of X G z_tuple, PySem.W.mg_none_of X G z_zip⟩
  exact ⟨_, fun s v => .of_eq rfl, fun base _ _ => ok_law TT⟩
theorem walk {l : PySem.W.OpenLaw} {q : Program} {loose : List Str} {XP : (Str → Option Value) → Heap → Prop} {YP : World → Heap → Prop} {d : DefRec} {K : Params → PySem.W.Frag} (hn : l.most = some 63) (hdf : d.params.defaults = [])
    (hY : ∀ (w : World) (h : Heap), YP w h → (K w.params).In h)
    (F : ∀ (w : World) (mg : Str → Option Value) (fa : Addr) (h : Heap), (K w.params).In h → h.Ns mainGlobals mg → mg d.name = some (.ref fa) →
      ∃ fd : FuncData, (∀ (s : Shared) (u : Value), BindsTo s fd ⟨[u], []⟩ [("script", u)]) ∧ ∀ base : Heap, (K w.params).In base → base.Ns mainGlobals mg → FnOk l.prog w (K w.params) mg base CX0 8 fa fd ["script"] (sp_law (K w.params))) :
    PySem.W.WalkO q loose XP YP l.row.toRowW d [] (fun f vs => PySem.call f vs) :=
  L2.walk_of (n := 63) (k := 8) (x := "script") (CX := fun _ => CX0) (sp := fun w => sp_law (K w.params)) hn (by decide) hdf ⟨rfl, by decide, by decide⟩ hY F (fun _ _ a ns hl _ hS => ⟨a, ns, rfl, hS, hl, fun _ => rfl⟩) fun _ _ _ _ _ z => z
end K62
open PySem PySem.W PyProof.Rows
set_option maxRecDepth 100000 in
set_option maxHeartbeats 0 in
theorem PySem.Challenge.cw_callmill_k62_least_paper_holds : PySem.Challenge.rw_callmill_k62_least_paper.Holds := by
  w_on; o_law; k_head; (case hw => w_witness2)
  k_fill
  refine K62.walk (l := PySem.Challenge.rw_callmill_k62_least_paper) rfl rfl (fun w h Y => PySem.W.kIn_of Y) ?F
  case F =>
    intro w mg fa h KX G hmg
    refine' K62.all_mk KX G hmg ?aC_Grouping ?pg_Grouping ?hd_Grouping ?po_Grouping ?sa_Grouping ?mk_Grouping ?kc_Grouping ?nF_Grouping_groups ?nF_Grouping_members ?nF_Grouping_sources ?nF_Grouping_touched ?nF_Grouping_waiting ?nF_Grouping_ways ?a0 ?l0 ?c0 ?k0 ?a1 ?l1 ?c1 ?k1 ?a2 ?l2 ?c2 ?k2 ?a3 ?l3 ?c3 ?k3 ?a4 ?l4 ?c4 ?k4 ?a5 ?i5 ?l5 ?c5 ?k5 ?a6 ?i6 ?l6 ?c6 ?k6 ?a7 ?i7 ?l7 ?c7 ?k7 ?a8 ?i8 ?l8 ?c8 ?k8 ?a9 ?i9 ?l9 ?c9 ?k9 ?a10 ?i10 ?l10 ?c10 ?k10 ?a11 ?l11 ?c11 ?k11 ?a12 ?l12 ?c12 ?k12 ?a13 ?l13 ?c13 ?k13 ?a14 ?l14 ?c14 ?k14 ?a15 ?l15 ?c15 ?k15 ?a16 ?l16 ?c16 ?k16 ?a17 ?l17 ?c17 ?k17 ?a18 ?l18 ?c18 ?k18 ?a19 ?l19 ?c19 ?k19 ?a20 ?l20 ?c20 ?k20 ?a21 ?l21 ?c21 ?k21 ?a22 ?l22 ?c22 ?k22 ?a23 ?l23 ?c23 ?k23 ?z_bool ?z_dict ?z_enumerate ?z_int ?z_isinstance ?z_len ?z_list ?z_max ?z_min ?z_range ?z_sorted ?z_sum ?z_tuple ?z_zip
    (case aC_Grouping => k_is)
    (case pg_Grouping => k_is)
    (case hd_Grouping => k_is)
    (case po_Grouping => k_is)
    (case sa_Grouping => k_is)
    (case mk_Grouping => k_is)
    (case kc_Grouping => k_is)
    (case nF_Grouping_groups => k_is)
    (case nF_Grouping_members => k_is)
    (case nF_Grouping_sources => k_is)
    (case nF_Grouping_touched => k_is)
    (case nF_Grouping_waiting => k_is)
    (case nF_Grouping_ways => k_is)
    (case a0 => k_is)
    (case l0 => k_is)
    (case c0 => k_is)
    (case k0 => k_is)
    (case a1 => k_is)
    (case l1 => k_is)
    (case c1 => k_is)
    (case k1 => k_is)
    (case a2 => k_is)
    (case l2 => k_is)
    (case c2 => k_is)
    (case k2 => k_is)
    (case a3 => k_is)
    (case l3 => k_is)
    (case c3 => k_is)
    (case k3 => k_is)
    (case a4 => k_is)
    (case l4 => k_is)
    (case c4 => k_is)
    (case k4 => k_is)
    (case a5 => k_is)
    (case i5 => k_is)
    (case l5 => k_is)
    (case c5 => k_is)
    (case k5 => k_is)
    (case a6 => k_is)
    (case i6 => k_is)
    (case l6 => k_is)
    (case c6 => k_is)
    (case k6 => k_is)
    (case a7 => k_is)
    (case i7 => k_is)
    (case l7 => k_is)
    (case c7 => k_is)
    (case k7 => k_is)
    (case a8 => k_is)
    (case i8 => k_is)
    (case l8 => k_is)
    (case c8 => k_is)
    (case k8 => k_is)
    (case a9 => k_is)
    (case i9 => k_is)
    (case l9 => k_is)
    (case c9 => k_is)
    (case k9 => k_is)
    (case a10 => k_is)
    (case i10 => k_is)
    (case l10 => k_is)
    (case c10 => k_is)
    (case k10 => k_is)
    (case a11 => k_is)
    (case l11 => k_is)
    (case c11 => k_is)
    (case k11 => k_is)
    (case a12 => k_is)
    (case l12 => k_is)
    (case c12 => k_is)
    (case k12 => k_is)
    (case a13 => k_is)
    (case l13 => k_is)
    (case c13 => k_is)
    (case k13 => k_is)
    (case a14 => k_is)
    (case l14 => k_is)
    (case c14 => k_is)
    (case k14 => k_is)
    (case a15 => k_is)
    (case l15 => k_is)
    (case c15 => k_is)
    (case k15 => k_is)
    (case a16 => k_is)
    (case l16 => k_is)
    (case c16 => k_is)
    (case k16 => k_is)
    (case a17 => k_is)
    (case l17 => k_is)
    (case c17 => k_is)
    (case k17 => k_is)
    (case a18 => k_is)
    (case l18 => k_is)
    (case c18 => k_is)
    (case k18 => k_is)
    (case a19 => k_is)
    (case l19 => k_is)
    (case c19 => k_is)
    (case k19 => k_is)
    (case a20 => k_is)
    (case l20 => k_is)
    (case c20 => k_is)
    (case k20 => k_is)
    (case a21 => k_is)
    (case l21 => k_is)
    (case c21 => k_is)
    (case k21 => k_is)
    (case a22 => k_is)
    (case l22 => k_is)
    (case c22 => k_is)
    (case k22 => k_is)
    (case a23 => k_is)
    (case l23 => k_is)
    (case c23 => k_is)
    (case k23 => k_is)
    (case z_bool => k_is)
    (case z_dict => k_is)
    (case z_enumerate => k_is)
    (case z_int => k_is)
    (case z_isinstance => k_is)
    (case z_len => k_is)
    (case z_list => k_is)
    (case z_max => k_is)
    (case z_min => k_is)
    (case z_range => k_is)
    (case z_sorted => k_is)
    (case z_sum => k_is)
    (case z_tuple => k_is)
    (case z_zip => k_is)
