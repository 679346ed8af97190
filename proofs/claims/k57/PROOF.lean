import PyProof.Rows.All
import Wide.All
import OpenK.AllK
import Wide.FinOn
import Lean
import PyProof.EqAt
import PyProof.EqKinds
import PyProof.TupleCall
import PyProof.NeKinds
import PyProof.DictUpdate
import PyProof.AttrMissHeap
import KE.KDictOf
import PyProof.TupleIter
import PyProof.WalksEnum
import PyProof.EnumMake
import PyProof.Rows.EnumRows
import PyProof.Rows.MaxTwoN
import PyProof.ZipIter
import PyProof.IsRules
import PyProof.DictRoadsH
import Wide.Seal
import PyProof.MeetsDict
import PyProof.DictIter
import PyProof.DictWalks
import KE.KDictList
import PyProof.Rows.SumAny
import PyProof.ListRange
import PyProof.AutoSeq1
import PyProof.WalkInts
import PyProof.SeqI3
import KE.KTextTable
import PyProof.MeetsStr
import PyProof.StrCalls5
import PyProof.Rows.TupDisplay
import PyProof.Rows.TupAdd
import PyProof.Rows.StrNews2
import PyProof.StrBlockI
import PyProof.DictTruth
import PyProof.Rows.SortShell
import PyProof.DictValues
import PyProof.ConsumeS
import PyProof.Draws
import PyProof.Rows.SetFrom
import PyProof.FactsAll.set_1
import KE.KDictSum
import PyProof.Rows.SortStr
import PyProof.Rows.SortWalk
import PyProof.Rows.TmSorted
import PyProof.Rows.CallKwBuiltin
import PySem.Challenge.RW_callmill_k57_parting_rows
set_option Elab.async false
set_option linter.all false
set_option maxRecDepth 100000
set_option maxHeartbeats 4000000
namespace L2
open PySem PySem.Spec PyProof.Rows
abbrev Key := Sum Int Str
def keyIs : Key → Value → Bool
  | .inl k, v => Value.isInt k v
  | .inr x, v => Value.isStrOf x v
def keyH (w : World) : Key → Int
  | .inl k => hashInt k
  | .inr x => hashStr w x
theorem keyIs_shape : ∀ {k : Key} {v : Value}, keyIs k v = true → (∃ i t, k = Sum.inl i ∧ v = Value.int i t) ∨ (∃ x t, k = Sum.inr x ∧ v = Value.str x t)
  | .inl i, v, h => by
    obtain ⟨t, e⟩ := Value.isInt_shape (k := i) (v := v) h
    exact .inl ⟨i, t, rfl, e⟩
  | .inr x, v, h => by
    obtain ⟨t, e⟩ := Value.isStrOf_shape (x := x) (v := v) h
    exact .inr ⟨x, t, rfl, e⟩
theorem keyIs_int (i : Int) (t : Tok) : keyIs (.inl i) (.int i t) = true := by simp [keyIs, Value.isInt]
theorem keyIs_str (x : Str) (t : Tok) : keyIs (.inr x) (.str x t) = true := by simp [keyIs, Value.isStrOf]
theorem key_ll (a b : Int) : decide ((Sum.inl a : Key) = Sum.inl b) = (a == b) := by
  by_cases e : a = b
  · subst e; simp
  · have h : ¬ (Sum.inl a : Key) = Sum.inl b := fun q => e (Sum.inl.inj q)
    rw [decide_eq_false h]
    exact (beq_eq_false_iff_ne.mpr e).symm
theorem key_rr (a b : Str) : decide ((Sum.inr a : Key) = Sum.inr b) = decide (a = b) := by
  by_cases e : a = b
  · subst e; simp
  · have h : ¬ (Sum.inr a : Key) = Sum.inr b := fun q => e (Sum.inr.inj q)
    rw [decide_eq_false h, decide_eq_false e]
theorem key_lr (a : Int) (b : Str) : decide ((Sum.inl a : Key) = Sum.inr b) = false := decide_eq_false (fun q => nomatch q)
theorem key_rl (a : Str) (b : Int) : decide ((Sum.inr a : Key) = Sum.inl b) = false := decide_eq_false (fun q => nomatch q)
def mixKind (prog : Program) (w : World) : PySem.KeyKind prog w Key where
  is := keyIs
  hash := keyH w
  inj := fun v a b ha hb => by
    rcases keyIs_shape ha with ⟨i, t, rfl, rfl⟩ | ⟨x, t, rfl, rfl⟩
    · rcases keyIs_shape hb with ⟨j, u, rfl, e⟩ | ⟨y, u, rfl, e⟩
      · injection e with e1 _; rw [e1]
      · exact nomatch e
    · rcases keyIs_shape hb with ⟨j, u, rfl, e⟩ | ⟨y, u, rfl, e⟩
      · exact nomatch e
      · injection e with e1 _; rw [e1]
  byValue := fun k v h => by
    rcases keyIs_shape h with ⟨i, t, rfl, rfl⟩ | ⟨x, t, rfl, rfl⟩ <;> rfl
  pyHash := fun hv h => by
    rcases keyIs_shape hv with ⟨i, t, rfl, rfl⟩ | ⟨x, t, rfl, rfl⟩
    · exact wpAny_pyHash_int h
    · exact wpAny_pyHash_str h
  eqBool := fun hu hv h => by
    rcases keyIs_shape hu with ⟨i, t, rfl, rfl⟩ | ⟨x, t, rfl, rfl⟩
    · rcases keyIs_shape hv with ⟨j, u, rfl, rfl⟩ | ⟨y, u, rfl, rfl⟩
      · rw [key_ll] at h; exact wpAny_eqBool_int h
      · rw [key_lr] at h; exact SeqAt.EqAt.int_str i t y u _ _ _ _ h
    · rcases keyIs_shape hv with ⟨j, u, rfl, rfl⟩ | ⟨y, u, rfl, rfl⟩
      · rw [key_rl] at h; exact SeqAt.EqAt.str_int x t j u _ _ _ _ h
      · rw [key_rr] at h; exact wpAny_eqBool_str h
  «strs» := fun k x t v h => by
    rcases keyIs_shape h with ⟨i, u, rfl, e⟩ | ⟨y, u, rfl, e⟩
    · exact nomatch e
    · injection e with e1 _
      subst e1
      cases v <;> rfl
theorem mixKind_int (prog : Program) (w : World) (i : Int) (t : Tok) : (mixKind prog w).is (.inl i) (.int i t) = true := keyIs_int i t
theorem mixKind_str (prog : Program) (w : World) (x : Str) (t : Tok) : (mixKind prog w).is (.inr x) (.str x t) = true := keyIs_str x t
end L2
namespace L2
open PySem PySem.Spec PyProof.Rows
inductive V where
  | non | bl (b : Bool) | int (i : Int) | str (x : Str) | byt (b : Array UInt8) | flt (b : UInt64) | ref (a : Addr) | ty (n : String)
  deriving DecidableEq
def RelV : V → Value → Prop
  | .non, u => u = Value.none
  | .bl b, u => u = Value.bool b
  | .int i, u => ∃ t, u = Value.int i t
  | .str x, u => ∃ t, u = Value.str x t
  | .byt b, u => ∃ t, u = Value.bytes b t
  | .flt b, u => ∃ t, u = Value.float b t
  | .ref a, u => u = Value.ref a
  | .ty n, u => u = Value.type n
abbrev Vals : List V → List Value → Prop := Paired RelV
theorem Vals.length {xs : List V} {us : List Value} (r : Vals xs us) : xs.length = us.length := Paired.length r
theorem Vals.get : ∀ {xs : List V} {us : List Value} {i : Nat} {x : V}, Vals xs us → xs[i]? = some x → ∃ u, us[i]? = some u ∧ RelV x u
  | _, _, _, _, .nil, e => by simp at e
  | _, _, 0, _, .cons r _, e => by simp at e; subst e; exact ⟨_, rfl, r⟩
  | _, _, i + 1, x, .cons _ t, e => by
    obtain ⟨u, h1, h2⟩ := Vals.get (i := i) (x := x) t (by simpa using e)
    exact ⟨u, by simpa using h1, h2⟩
theorem Vals.set {x : V} {u : Value} (r : RelV x u) : ∀ {xs : List V} {us : List Value} (i : Nat), Vals xs us → Vals (xs.set i x) (us.set i u)
  | _, _, _, .nil => .nil
  | _, _, 0, .cons _ t => .cons r t
  | _, _, i + 1, .cons q t => .cons q (Vals.set r i t)
theorem Vals.append : ∀ {xs ys : List V} {us ws : List Value}, Vals xs us → Vals ys ws → Vals (xs ++ ys) (us ++ ws)
  | _, _, _, _, .nil, s => s
  | _, _, _, _, .cons r t, s => .cons r (Vals.append t s)
theorem Vals.take : ∀ {xs : List V} {us : List Value} (n : Nat), Vals xs us → Vals (xs.take n) (us.take n)
  | _, _, 0, _ => .nil
  | _, _, _ + 1, .nil => .nil
  | _, _, n + 1, .cons r t => .cons r (Vals.take n t)
theorem Vals.drop : ∀ {xs : List V} {us : List Value} (n : Nat), Vals xs us → Vals (xs.drop n) (us.drop n)
  | _, _, 0, r => r
  | _, _, _ + 1, .nil => .nil
  | _, _, n + 1, .cons _ t => Vals.drop n t
def RelO : Option V → Option Value → Prop
  | some v, some u => RelV v u
  | none, none => True
  | _, _ => False
def KV {κ : Type} : List (κ × V) → List (κ × Value) → Prop := Paired fun (p : κ × V) (q : κ × Value) => p.1 = q.1 ∧ RelV p.2 q.2
def kV : Key → V
  | .inl i => .int i
  | .inr x => .str x
inductive HO where
  | lst (xs : List V)
  | tup (xs : List V)
  | dK (kvs : List (Key × V)) | dT (kvs : List (List Key × V))
  | set (S : Int → Bool) (n : Nat)
  | ins (C dx : Addr) (fs : List (Str × V))
  | own (x : Addr)
  | xd (fs : List (Str × V))
  | met (f x : Addr)
  | rng (lo hi : Int)
  | frz (o : Obj) (u : HO)
  | tbl (ps : Array Value)
  | ext (φ : Heap → Prop)
abbrev Hp := Addr → Option HO
def upd (H : Hp) (a : Addr) (o : HO) : Hp := fun b => if b = a then some o else H b
theorem upd_same {H : Hp} {a : Addr} {o : HO} : upd H a o a = some o := by unfold upd; rw [if_pos rfl]
theorem upd_ne {H : Hp} {a b : Addr} {o : HO} (h : b ≠ a) : upd H a o b = H b := by unfold upd; rw [if_neg h]
theorem ne_of {H : Hp} {a b : Addr} {o u : HO} (h : H a = some o) (h' : H b = some u) (d : o ≠ u) : a ≠ b := by
  intro e; subst e; rw [h] at h'; exact d (Option.some.inj h')
theorem ne_of_none {H : Hp} {a b : Addr} {o : HO} (h : H a = some o) (h' : H b = none) : a ≠ b := by
  intro e; subst e; rw [h] at h'; cases h'
section
variable (P : Program) (w : World)
def ObjOk (H : Hp) (h : Heap) (a : Addr) : HO → Prop
  | .lst xs => xs.length ≤ sizeLine ∧ ∃ (its : List Value) (n : Nat), Vals xs its ∧ h.get? a = some { cls := .type "list", data := .seq its.toArray n }
  | .tup xs => xs.length ≤ sizeLine ∧ ∃ its : List Value, Vals xs its ∧ IsTup h a its.toArray
  | .dK kvs => kvs.length ≤ sizeLine ∧ (a == sysModules) = false ∧ ∃ vs, KV kvs vs ∧ h.DictOf (mixKind P w) a vs
  | .dT kvs => kvs.length ≤ sizeLine ∧ (a == sysModules) = false ∧ ∃ xs : List (List Key × Addr × Value),
      Paired (fun (p : List Key × V) (q : List Key × Addr × Value) => p.1 = q.1 ∧ H q.2.1 = some (.tup (p.1.map kV)) ∧ RelV p.2 q.2.2) kvs xs ∧
      ∃ o es ep, h.get? a = some o ∧ o.ExactDict ∧ o.data = .dict es ep ∧ es.toList = xs.map (entryOfKey (tupleKind (mixKind P w))) ∧ (xs.map (·.1)).Nodup
  | .set S n => h.SetOf (intKind P w) a S n
  | .ins C dx fs => H dx = some (.own a) ∧ fs.length ≤ 1000 ∧ dx ≠ a ∧ h.get? a = some (PySem.W.instObj C dx) ∧
      ∃ mA, h.Ns1 dx mA ∧ (∀ f, RelO (fs.lookup f) (mA f)) ∧ PySem.Within mA (fs.map (·.1))
  | .own _ => ∃ o, h.get? a = some o
  | .xd fs => ∃ mA, h.Ns1 a mA ∧ ∀ f, RelO (fs.lookup f) (mA f)
  | .rng lo hi => ∃ t u v, h.get? a = some { cls := .type "range", data := .fields #[.int lo t, .int hi u, .int 1 v] }
  | .frz o u => h.get? a = some o ∧ ObjOk H h a u
  | .tbl ps => h.get? a = some { cls := .none, data := .fields ps }
  | .met f x => h.get? a = some (PySem.W.methodObj (.ref f) (.ref x))
  | .ext φ => φ h ∧ (∃ o, h.get? a = some o) ∧ ∀ h1 h2 : Heap, φ h1 → (∀ o, h1.get? a = some o → h2.get? a = some o) → φ h2
def HOk (H : Hp) (h : Heap) : Prop := ∀ a o, H a = some o → ObjOk P w H h a o
end
section
variable {P : Program} {w : World} {H H' : Hp} {h h' : Heap} {a : Addr} {o : HO}
theorem ObjOk.lt (x : ObjOk P w H h a o) : a < h.objs.size := by
  cases o with
  | lst xs => obtain ⟨_, _, _, _, e⟩ := x; exact Heap.lt_size e
  | tup xs => obtain ⟨_, _, _, p⟩ := x; exact p.lt
  | dK kvs => obtain ⟨_, _, _, _, o, _, _, e, _⟩ := x; exact Heap.lt_size e
  | dT kvs => obtain ⟨_, _, _, _, o, _, _, e, _⟩ := x; exact Heap.lt_size e
  | set S n => obtain ⟨o, _, _, _, e, _⟩ := x; exact Heap.lt_size e
  | ins C dx fs => obtain ⟨_, _, _, e, _⟩ := x; exact Heap.lt_size e
  | own y => obtain ⟨_, e⟩ := x; exact Heap.lt_size e
  | xd fs => obtain ⟨_, ⟨_, _, _, e, _⟩, _⟩ := x; exact Heap.lt_size e
  | rng lo hi => obtain ⟨_, _, _, e⟩ := x; exact Heap.lt_size e
  | frz ob u => obtain ⟨e, _⟩ := x; exact Heap.lt_size e
  | tbl ps => exact Heap.lt_size (show h.get? a = some _ from x)
  | met f y => exact Heap.lt_size (show h.get? a = some _ from x)
  | ext φ => obtain ⟨_, ⟨_, e⟩, _⟩ := x; exact Heap.lt_size e
theorem Paired.mapP {α β : Type} {F G : α → β → Prop} : ∀ {l₁ : List α} {l₂ : List β}, Paired F l₁ l₂ → (∀ a b, F a b → G a b) → Paired G l₁ l₂
  | _, _, .nil, _ => .nil
  | _, _, .cons r t, f => .cons (f _ _ r) (Paired.mapP t f)
theorem ObjOk.stay (x : ObjOk P w H h a o) (k : ∀ b u, (b = a ∨ H b = some (.own a)) → h.get? b = some u → h'.get? b = some u)
    (ho : ∀ b, H b = some (.own a) → H' b = some (.own a)) (ht : ∀ b xs, H b = some (.tup xs) → H' b = some (.tup xs)) : ObjOk P w H' h' a o := by
  induction o with
  | lst xs => obtain ⟨z, its, n, r, e⟩ := x; exact ⟨z, its, n, r, k _ _ (.inl rfl) e⟩
  | tup xs => obtain ⟨z, its, r, ob, e, c⟩ := x; exact ⟨z, its, r, ob, k _ _ (.inl rfl) e, c⟩
  | dK kvs => obtain ⟨z, y, vs, r, ob, es, ep, e, c⟩ := x; exact ⟨z, y, vs, r, ob, es, ep, k _ _ (.inl rfl) e, c⟩
  | dT kvs =>
    obtain ⟨z, y, xs, r, ob, es, ep, e, c⟩ := x
    exact ⟨z, y, xs, Paired.mapP r fun p q z => ⟨z.1, ht _ _ z.2.1, z.2.2⟩, ob, es, ep, k _ _ (.inl rfl) e, c⟩
  | set S n => obtain ⟨ob, es, ep, t, e, c⟩ := x; exact ⟨ob, es, ep, t, k _ _ (.inl rfl) e, c⟩
  | ins C dx fs =>
    obtain ⟨d, z, ne, e, mA, ⟨od, es, ep, e2, c⟩, r⟩ := x
    exact ⟨ho _ d, z, ne, k _ _ (.inl rfl) e, mA, ⟨od, es, ep, k _ _ (.inr d) e2, c⟩, r⟩
  | own y => obtain ⟨ob, e⟩ := x; exact ⟨ob, k _ _ (.inl rfl) e⟩
  | xd fs => obtain ⟨mA, ⟨od, es, ep, e, c⟩, r⟩ := x; exact ⟨mA, ⟨od, es, ep, k _ _ (.inl rfl) e, c⟩, r⟩
  | rng lo hi => obtain ⟨t, u, v, e⟩ := x; exact ⟨t, u, v, k _ _ (.inl rfl) e⟩
  | frz ob u ih => obtain ⟨e, q⟩ := x; exact ⟨k _ _ (.inl rfl) e, ih q⟩
  | tbl ps =>
    have e : h.get? a = some { cls := .none, data := .fields ps } := x
    show h'.get? a = some { cls := .none, data := .fields ps }
    exact k a _ (.inl rfl) e
  | met f y =>
    have e : h.get? a = some (PySem.W.methodObj (.ref f) (.ref y)) := x
    show h'.get? a = some (PySem.W.methodObj (.ref f) (.ref y))
    exact k a _ (.inl rfl) e
  | ext φ => obtain ⟨p, ⟨o, e⟩, st⟩ := x; exact ⟨st _ _ p fun o q => k _ _ (.inl rfl) q, ⟨o, k _ _ (.inl rfl) e⟩, st⟩
theorem HOk.lt (x : HOk P w H h) (e : H a = some o) : a < h.objs.size := (x a o e).lt
theorem HOk.fresh (x : HOk P w H h) (e : h.objs.size ≤ a) : H a = none := by
  cases q : H a with
  | none => rfl
  | some u => exact absurd (Nat.lt_of_lt_of_le (x.lt q) e) (Nat.lt_irrefl _)
theorem HOk.kept (x : HOk P w H h) (k : ∀ b u, h.get? b = some u → h'.get? b = some u) : HOk P w H h' := fun a o e =>
  (x a o e).stay (fun b u _ q => k b u q) (fun _ q => q) fun _ _ q => q
theorem HOk.laid (x : HOk P w H h) (k : ∀ b u, h.get? b = some u → h'.get? b = some u) (hp : h.objs.size ≤ a) (new : ObjOk P w (upd H a o) h' a o) : HOk P w (upd H a o) h' := fun b u e => by
  have hn := x.fresh hp
  by_cases hb : b = a
  · subst hb; rw [upd_same] at e; cases e; exact new
  · rw [upd_ne hb] at e
    exact (x b u e).stay (fun c v _ q => k c v q) (fun c q => by rw [upd_ne (ne_of_none q hn)]; exact q) fun c xs q => by rw [upd_ne (ne_of_none q hn)]; exact q
end
def Rd (H : Hp) (a : Addr) (u : HO) : Prop := H a = some u ∨ ∃ o, H a = some (.frz o u)
theorem Rd.ok {P : Program} {w : World} {H : Hp} {h : Heap} {a : Addr} {u : HO} (r : Rd H a u) (x : HOk P w H h) : ObjOk P w H h a u := by
  rcases r with r | ⟨o, r⟩
  · exact x a u r
  · obtain ⟨_, q⟩ := x a _ r
    exact q
def Mut : Option HO → Prop
  | some (.lst _) => True
  | some (.dK _) => True
  | some (.dT _) => True
  | some (.set _ _) => True
  | some (.ins _ _ _) => True
  | some (.ext _) => True
  | _ => False
section
variable {P : Program} {w : World} {H : Hp} {h h' : Heap} {x e : Addr} {o' : HO}
theorem HOk.write (ok : HOk P w H h) (mu : Mut (H x)) (he : e = x ∨ H e = some (.own x)) (k : ∀ b u, b ≠ e → h.get? b = some u → h'.get? b = some u) (heo : ∃ u, h'.get? e = some u)
    (new : ObjOk P w (upd H x o') h' x o') : HOk P w (upd H x o') h' := fun b u q => by
  have nown : ∀ c y, H c = some (.own y) → c ≠ x := fun c y r z => by subst z; rw [r] at mu; exact mu
  have ntup : ∀ c xs, H c = some (.tup xs) → c ≠ x := fun c xs r z => by subst z; rw [r] at mu; exact mu
  by_cases hb : b = x
  · subst hb; rw [upd_same] at q; cases q; exact new
  · rw [upd_ne hb] at q
    by_cases hbe : b = e
    · have q' : H b = some (.own x) := by
        rcases he with z | z
        · exact absurd (hbe.trans z) hb
        · rw [hbe]; exact z
      rw [q] at q'; cases q'
      obtain ⟨v, hv⟩ := heo
      exact ⟨v, by rw [hbe]; exact hv⟩
    · refine (ok b u q).stay (fun c v hc r => k c v ?_ r) (fun c r => by rw [upd_ne (nown c b r)]; exact r) fun c xs r => by rw [upd_ne (ntup c xs r)]; exact r
      rcases hc with rfl | hc
      · exact hbe
      · rintro rfl
        rcases he with z | z
        · exact nown c b hc z
        · rw [hc] at z; cases z; exact hb rfl
end
structure Un (fs ex : List Addr) (H H' : Hp) (h h' : Heap) : Prop where
  keep : ∀ b o, h.get? b = some o → H b = none → b ∉ fs → b ∉ ex → h'.get? b = some o
  slot : ∀ b o, h.get? b = some o → H b = none → b ∈ fs → b ∉ ex → ∃ sl, h'.get? b = some { o with slots := sl }
  free : ∀ b o, h.get? b = some o → H b = none → b ∉ ex → H' b = none
  there : ∀ b o, h.get? b = some o → b ∉ ex → ∃ o', h'.get? b = some o'
  tups : ∀ b xs, H b = some (.tup xs) → H' b = some (.tup xs)
  frzs : ∀ b o u, H b = some (.frz o u) → H' b = some (.frz o u)
  tbls : ∀ b ps, H b = some (.tbl ps) → ∃ more, H' b = some (.tbl (ps ++ more))
section
variable {fs fs' ex ex' : List Addr} {H H1 H2 : Hp} {h h1 h2 h' : Heap} {a x e : Addr} {o : HO}
theorem Un.any (u : Un fs ex H H1 h h1) {b : Addr} {ob : Obj} (q : h.get? b = some ob) (n : H b = none) (hx : b ∉ ex) : ∃ sl, h1.get? b = some { ob with slots := sl } := by
  by_cases hb : b ∈ fs
  · exact u.slot b ob q n hb hx
  · exact ⟨ob.slots, u.keep b ob q n hb hx⟩
theorem Un.kept (k : ∀ b u, h.get? b = some u → h'.get? b = some u) : Un fs ex H H h h' :=
  ⟨fun b ob q _ _ _ => k b ob q, fun b ob q _ _ _ => ⟨ob.slots, k b ob q⟩, fun _ _ _ n _ => n, fun b ob q _ => ⟨ob, k b ob q⟩, fun _ _ q => q, fun _ _ _ q => q, fun _ ps q => ⟨#[], by rw [q]; simp⟩⟩
theorem Un.refl : Un fs ex H H h h := Un.kept fun _ _ q => q
theorem Un.laid (k : ∀ b u, h.get? b = some u → h'.get? b = some u) (hp : h.objs.size ≤ a) (hn : H a = none) : Un fs ex H (upd H a o) h h' where
  keep := fun b u q _ _ _ => k b u q
  slot := fun b u q _ _ _ => ⟨u.slots, k b u q⟩
  free := fun b u q n _ => by rw [upd_ne (Nat.ne_of_lt (Nat.lt_of_lt_of_le (Heap.lt_size q) hp))]; exact n
  there := fun b u q _ => ⟨u, k b u q⟩
  tups := fun b xs q => by rw [upd_ne (ne_of_none q hn)]; exact q
  frzs := fun b u xs q => by rw [upd_ne (ne_of_none q hn)]; exact q
  tbls := fun b ps q => ⟨#[], by rw [upd_ne (ne_of_none q hn), q]; simp⟩
theorem Un.write (mu : Mut (H x)) (he : e = x ∨ H e = some (.own x)) (k : ∀ b u, b ≠ e → h.get? b = some u → h'.get? b = some u) (heo : ∃ u, h'.get? e = some u) : Un fs ex H (upd H x o) h h' := by
  have hx : ∀ b, H b = none → b ≠ x := fun b n z => by subst z; rw [n] at mu; exact mu
  have hb : ∀ b, H b = none → b ≠ e := fun b n z => by
    subst z
    rcases he with r | r
    · exact hx b n r
    · rw [n] at r; cases r
  have hm : ∀ b u, H b = some u → ¬ Mut (some u) → b ≠ x := fun b u q nm z => by subst z; rw [q] at mu; exact nm mu
  refine ⟨fun b u q n _ _ => k b u (hb b n) q, fun b u q n _ _ => ⟨u.slots, k b u (hb b n) q⟩, fun b u q n _ => by rw [upd_ne (hx b n)]; exact n, fun b u q _ => ?_,
    fun b xs q => by rw [upd_ne (hm b _ q fun z => z)]; exact q, fun b u xs q => by rw [upd_ne (hm b _ q fun z => z)]; exact q, fun b ps q => ⟨#[], by rw [upd_ne (hm b _ q fun z => z), q]; simp⟩⟩
  by_cases hbe : b = e
  · subst hbe; exact heo
  · exact ⟨u, k b u hbe q⟩
end
def trk (h : Heap) (H : Hp) : List Addr := (List.range h.objs.size).filter fun a => (H a).isSome
def hidT (h : Heap) (H : Hp) : Heap := PySem.W.hideAll h (trk h H)
theorem hidT_size (h : Heap) (H : Hp) : (hidT h H).objs.size = h.objs.size := PySem.W.hideAll_size _ _
theorem hidT_get {h : Heap} {H : Hp} {b : Addr} {o : Obj} (e : h.get? b = some o) (n : H b = none) : (hidT h H).get? b = some o :=
  PySem.W.hideAll_get _ e fun hm => by
    have q : (H b).isSome = true := (List.mem_filter.mp hm).2
    rw [n] at q; simp at q
theorem of_hidT {h : Heap} {H : Hp} {b : Addr} {o : Obj} (e : (hidT h H).get? b = some o) : h.get? b = some o ∧ H b = none := by
  have e' : h.get? b = some o := PySem.W.of_hideAll (trk h H) e
  refine ⟨e', ?_⟩
  cases q : H b with
  | none => rfl
  | some x =>
    have hm : b ∈ trk h H := List.mem_filter.mpr ⟨List.mem_range.mpr (Heap.lt_size e'), by simp [q]⟩
    have z : (hidT h H).get? b = none := PySem.W.hideAll_none (trk h H) hm
    rw [z] at e; cases e
def allNews (g h : Heap) (L : Addr) : List (Addr × Obj) := (List.range h.objs.size).filterMap fun a => if a = L ∨ (g.get? a).isSome = true then none else (h.get? a).map fun o => (a, o)
def rest (g h : Heap) (L d : Addr) : List (Addr × Obj) := (allNews g h L).filter fun p => decide (p.1 ≠ d)
end L2
namespace L2
open PySem PySem.Spec PyProof.Rows
structure Mod (K : PySem.W.Frag) (mg : Str → Option Value) (base : Heap) : Prop where
  kin : K.In base
  glob : base.Ns mainGlobals mg
  blt : ∃ mb, base.Ns builtinsNs mb ∧ ∀ x : Str, x ≠ "__name__" → mb x = bootBuiltins x
  nolimit : base.NoLimit
structure Cx where
  prog : Program
  w : World
  K : PySem.W.Frag
  mg : Str → Option Value
  base : Heap
  A : Around
  N : List Str
  s₀ : Shared
  H₀ : Hp
  env : Env
  outer : List Env
  stack : List Env
  ex : List Addr
  fn : Str → Bool
  calm : Bool
  pn : List (Addr × Obj)
  xe : Value → Shared → Prop
def frs (l : List Env) : List Addr := l.filterMap (·.frame)
abbrev Cx.fs (X : Cx) : List Addr := frs X.outer
def Vis (sc : Scope) (x : Str) : Prop := sc.names.lookup x = some .local ∨ sc.names.lookup x = some .cell ∨ sc.names.lookup x = some .free
def Loc (sc : Scope) (x : Str) : Prop := sc.names.lookup x = some .local ∨ sc.names.lookup x = some .cell
def Look (env : Env) (h : Heap) (m : Str → Option Value) (x : Str) (u : Value) : Prop :=
  (env.kindOf x = some .local ∧ m x = some u) ∨ ((env.kindOf x = some .cell ∨ env.kindOf x = some .free) ∧ ∃ c, env.cells.lookup x = some c ∧ h.IsCell c (some u))
structure Cx.Ok (X : Cx) : Prop where
  mod : Mod X.K X.mg X.base
  kind : X.env.scope.kind = .function
  glob : X.env.globals = mainGlobals
  blt : X.env.builtins = builtinsNs
  above : X.s₀.heap.objs.size ≤ X.env.locals
  inj : ∀ x y c, X.env.cells.lookup x = some c → X.env.cells.lookup y = some c → x = y
  has : ∀ x, (X.env.kindOf x = some .cell ∨ X.env.kindOf x = some .free) → ∃ c, X.env.cells.lookup x = some c
  cab : ∀ x c, X.fn x = true → X.env.cells.lookup x = some c → X.s₀.heap.objs.size ≤ c
  hd : X.calm = true → X.A.handled = none
  frames : X.A.frames = some X.stack
  stk : X.stack = X.outer ∨ (X.stack = X.env :: X.outer ∧ X.env.frame = some X.env.locals)
  exf : ∀ b ∈ X.ex, b ≠ X.env.locals ∧ ∀ x c, X.env.cells.lookup x = some c → c ≠ b
  bs : ∀ b o, X.base.get? b = some o → X.s₀.heap.get? b = some o ∧ X.H₀ b = none
  bsz : X.base.objs.size ≤ X.s₀.heap.objs.size
  noex : ∀ b o, X.base.get? b = some o → b ∉ X.ex
  exfs : ∀ b ∈ X.ex, b ∉ X.fs
  funs : X.s₀.heap.FunFrames X.base X.outer
  frf : ∀ b ∈ X.fs, X.H₀ b = none
structure Inv (X : Cx) (pins : List (Addr × Obj)) (σ : List (Option V)) (H : Hp) (s : Shared) : Prop where
  ok : X.Ok
  os : s.os = X.s₀.os
  bare : AllBare s.gens
  base : Un X.fs X.ex X.H₀ H X.s₀.heap s.heap
  loc : ∃ m, s.heap.Ns X.env.locals m ∧ ∀ (i : Nat) (x : Str) (v : V), X.N[i]? = some x → σ[i]? = some (some v) → Vis X.env.scope x → ∃ u, RelV v u ∧ Look X.env s.heap m x u
  cell : ∀ x c, X.env.cells.lookup x = some c → ∃ v, s.heap.IsCell c v
  free : H X.env.locals = none
  freeC : ∀ x c, X.env.cells.lookup x = some c → H c = none
  pin : ∀ p ∈ X.pn ++ pins, s.heap.get? p.1 = some p.2 ∧ H p.1 = none ∧ p.1 ≠ X.env.locals ∧ p.1 ∉ X.fs ∧ ∀ v, p.2.data ≠ .cell v
  hok : HOk X.prog X.w H s.heap
  len : σ.length = X.N.length
section
variable {X : Cx} {pins : List (Addr × Obj)} {σ : List (Option V)} {H H' : Hp} {s : Shared} {h' : Heap}
theorem Cx.Ok.nofr (ok : X.Ok) {b : Addr} {o : Obj} (e : X.base.get? b = some o) : b ∉ X.fs := fun hb => by
  have := (ok.funs.mem hb).1
  rw [e] at this; cases this
theorem Inv.bs (I : Inv X pins σ H s) : ∀ b o, X.base.get? b = some o → s.heap.get? b = some o ∧ H b = none := fun b o e =>
  ⟨I.base.keep b o (I.ok.bs b o e).1 (I.ok.bs b o e).2 (I.ok.nofr e) (I.ok.noex b o e), I.base.free b o (I.ok.bs b o e).1 (I.ok.bs b o e).2 (I.ok.noex b o e)⟩
theorem Inv.bk (I : Inv X pins σ H s) : ∀ b o, X.base.get? b = some o → s.heap.get? b = some o := fun b o e => (I.bs b o e).1
theorem Inv.mod (I : Inv X pins σ H s) : Mod X.K X.mg X.base := I.ok.mod
theorem Inv.kIn (I : Inv X pins σ H s) : X.K.In s.heap := I.ok.mod.kin.keeps I.bk
theorem Inv.lt (I : Inv X pins σ H s) : X.env.locals < s.heap.objs.size := let ⟨_, hn, _⟩ := I.loc; hn.lt
theorem Inv.sz (I : Inv X pins σ H s) : X.s₀.heap.objs.size ≤ s.heap.objs.size := Nat.le_trans I.ok.above (Nat.le_of_lt I.lt)
theorem Inv.nofs (I : Inv X pins σ H s) {a : Addr} (h : s.heap.objs.size ≤ a) : a ∉ X.fs := fun hb => by
  obtain ⟨_, o, ho, _⟩ := I.ok.funs.mem hb
  exact absurd (Nat.lt_of_lt_of_le (Heap.lt_size ho) (Nat.le_trans I.sz h)) (Nat.lt_irrefl _)
theorem Inv.cne (I : Inv X pins σ H s) : ∀ x c, X.env.cells.lookup x = some c → c ≠ X.env.locals := fun x c e z => by
  obtain ⟨v, o, ho, hd⟩ := I.cell x c e
  obtain ⟨m, ⟨o', es, ep, ho', hd', _⟩, _⟩ := I.loc
  rw [z, ho'] at ho; cases ho; rw [hd'] at hd; cases hd
theorem Inv.funs (I : Inv X pins σ H s) : s.heap.FunFrames X.base X.outer := by
  have all : ∀ (l : List Env), (∀ b ∈ frs l, b ∈ X.fs) → X.s₀.heap.FunFrames X.base l → s.heap.FunFrames X.base l := by
    intro l
    induction l with
    | nil => intro _ _; trivial
    | cons env r ih =>
      intro hs hl
      obtain ⟨hk, ⟨L, o, hf, hn, ho, hd⟩, hr⟩ := hl
      have hL : L ∈ X.fs := hs L (by unfold frs; rw [List.filterMap_cons, hf]; exact List.mem_cons_self)
      obtain ⟨sl, e⟩ := I.base.slot L o ho (I.ok.frf L hL) hL fun z => I.ok.exfs L z hL
      exact ⟨hk, ⟨L, _, hf, hn, e, hd⟩, ih (fun b hb => hs b (by unfold frs; rw [List.filterMap_cons, hf]; exact List.mem_cons_of_mem _ hb)) hr⟩
  exact all X.outer (fun _ hb => hb) I.ok.funs
theorem Inv.stack (I : Inv X pins σ H s) : s.heap.FunFrames X.base X.stack := by
  rcases I.ok.stk with e | ⟨e, hf⟩
  · rw [e]; exact I.funs
  · rw [e]
    obtain ⟨m, hn, _⟩ := I.loc
    refine .cons (by rw [I.ok.kind]; decide) hf hn ?_ I.funs
    exact Heap.get?_none_of_le (Nat.le_trans I.ok.bsz I.ok.above)
theorem Inv.stkSub (I : Inv X pins σ H s) : ∀ b ∈ frs X.stack, b ∈ X.env.locals :: X.fs := fun b hb => by
  rcases I.ok.stk with e | ⟨e, hf⟩
  · rw [e] at hb; exact List.mem_cons_of_mem _ hb
  · rw [e] at hb
    unfold frs at hb
    rw [List.filterMap_cons, hf] at hb
    exact hb
theorem Inv.stkFree (I : Inv X pins σ H s) : ∀ b ∈ frs X.stack, H b = none := fun b hb => by
  rcases List.mem_cons.mp (I.stkSub b hb) with e | hb
  · rw [e]; exact I.free
  · obtain ⟨_, o, ho, _⟩ := I.ok.funs.mem hb
    exact I.base.free b o ho (I.ok.frf b hb) fun z => I.ok.exfs b z hb
theorem Inv.step {g' : Array GenState} {t' : Nat} {d' : Drawn} {ch : List Addr} (I : Inv X pins σ H s)
    (hch : ∀ b ∈ ch, (b ∈ X.ex ∨ X.s₀.heap.objs.size ≤ b) ∧ b ≠ X.env.locals ∧ (∀ x c, X.env.cells.lookup x = some c → c ≠ b) ∧ ∀ p ∈ X.pn ++ pins, p.1 ≠ b)
    (keep : ∀ b o, b ≠ X.env.locals → b ∉ X.fs → b ∉ ch → s.heap.get? b = some o → H b = none → h'.get? b = some o)
    (slot : ∀ b o, b ≠ X.env.locals → b ∈ X.fs → b ∉ ch → s.heap.get? b = some o → H b = none → ∃ sl, h'.get? b = some { o with slots := sl }) (free : ∀ b o, b ∉ ch → s.heap.get? b = some o → H b = none → H' b = none)
    (there : ∀ b o, b ∉ ch → s.heap.get? b = some o → ∃ o', h'.get? b = some o')
    (tups : ∀ b xs, H b = some (.tup xs) → H' b = some (.tup xs)) (frzs : ∀ b o u, H b = some (.frz o u) → H' b = some (.frz o u)) (tbls : ∀ b ps, H b = some (.tbl ps) → ∃ more, H' b = some (.tbl (ps ++ more)))
    (ns : ∀ m, s.heap.Ns X.env.locals m → h'.Ns X.env.locals m) (hok : HOk X.prog X.w H' h') (hg : AllBare g') :
    Inv X pins σ H' { s with heap := h', gens := g', drawn := d', toks := t' } := by
  have neL : ∀ b o, X.s₀.heap.get? b = some o → b ≠ X.env.locals := fun b o e => Nat.ne_of_lt (Nat.lt_of_lt_of_le (Heap.lt_size e) I.ok.above)
  have neC : ∀ b o, X.s₀.heap.get? b = some o → b ∉ X.ex → b ∉ ch := fun b o e hx hb => by
    rcases (hch b hb).1 with z | z
    · exact hx z
    · exact absurd (Nat.lt_of_lt_of_le (Heap.lt_size e) z) (Nat.lt_irrefl _)
  have cellK : ∀ x c, X.env.cells.lookup x = some c → ∀ v, s.heap.IsCell c v → h'.IsCell c v := fun x c e v ⟨o, ho, hd⟩ => by
    have nch : c ∉ ch := fun z => (hch c z).2.2.1 x c e rfl
    by_cases hc : c ∈ X.fs
    · obtain ⟨sl, q⟩ := slot c o (I.cne x c e) hc nch ho (I.freeC x c e)
      exact ⟨_, q, hd⟩
    · exact ⟨o, keep c o (I.cne x c e) hc nch ho (I.freeC x c e), hd⟩
  refine ⟨I.ok, I.os, hg, ⟨fun b o e n hb hx => ?_, fun b o e n hb hx => ?_, fun b o e n hx => ?_, fun b o e hx => ?_, fun b xs e => tups b xs (I.base.tups b xs e), fun b o xs e => frzs b o xs (I.base.frzs b o xs e), fun b ps e => ?_⟩, ?_, fun x c e => ?_, ?_, fun x c e => ?_, fun p hp => ?_, hok, I.len⟩
  · exact keep b o (neL b o e) hb (neC b o e hx) (I.base.keep b o e n hb hx) (I.base.free b o e n hx)
  · obtain ⟨sl, e1⟩ := I.base.slot b o e n hb hx
    obtain ⟨sl', e2⟩ := slot b _ (neL b o e) hb (neC b o e hx) e1 (I.base.free b o e n hx)
    exact ⟨sl', e2⟩
  · obtain ⟨o', e1⟩ := I.base.there b o e hx
    exact free b o' (neC b o e hx) e1 (I.base.free b o e n hx)
  · obtain ⟨o', e1⟩ := I.base.there b o e hx
    exact there b o' (neC b o e hx) e1
  · obtain ⟨m1, e1⟩ := I.base.tbls b ps e
    obtain ⟨m2, e2⟩ := tbls b _ e1
    exact ⟨m1 ++ m2, by rw [e2, Array.append_assoc]⟩
  · obtain ⟨m, hn, hl⟩ := I.loc
    refine ⟨m, ns m hn, fun i x v e1 e2 e3 => ?_⟩
    obtain ⟨u, r, l⟩ := hl i x v e1 e2 e3
    refine ⟨u, r, ?_⟩
    rcases l with l | ⟨k, c, e, z⟩
    · exact .inl l
    · exact .inr ⟨k, c, e, cellK x c e _ z⟩
  · obtain ⟨v, z⟩ := I.cell x c e
    exact ⟨v, cellK x c e v z⟩
  · obtain ⟨m, ⟨o, _, _, ho, _⟩, _⟩ := I.loc
    exact free _ o (fun z => (hch _ z).2.1 rfl) ho I.free
  · obtain ⟨v, o, ho, hd⟩ := I.cell x c e
    exact free c o (fun z => (hch c z).2.2.1 x c e rfl) ho (I.freeC x c e)
  · obtain ⟨e, n, ne, nf, d⟩ := I.pin p hp
    have nch : p.1 ∉ ch := fun z => (hch p.1 z).2.2.2 p hp rfl
    exact ⟨keep p.1 p.2 ne nf nch e n, free p.1 p.2 nch e n, ne, nf, d⟩
theorem Inv.un {t' : Nat} (I : Inv X pins σ H s) (u : Un X.fs [] H H' s.heap h') (hok : HOk X.prog X.w H' h') : Inv X pins σ H' { s with heap := h', toks := t' } := by
  obtain ⟨m, ⟨o, es, ep, ho, r⟩, _⟩ := id I.loc
  obtain ⟨sl, hL⟩ := u.any ho I.free (by simp)
  exact I.step (g' := s.gens) (d' := s.drawn) (ch := []) (fun _ z => nomatch z) (fun b o _ hb _ e n => u.keep b o e n hb (by simp)) (fun b o _ hb _ e n => u.slot b o e n hb (by simp)) (fun b o _ e n => u.free b o e n (by simp)) (fun b o _ e => u.there b o e (by simp)) u.tups u.frzs u.tbls (fun m' hm => by
    obtain ⟨o', es', ep', ho', r'⟩ := hm
    rw [ho] at ho'; cases ho'
    exact ⟨_, es', ep', hL, r'⟩) hok I.bare
theorem Inv.call {g' : Array GenState} {t' : Nat} {d' : Drawn} {ch : List Addr} (I : Inv X pins σ H s) (u : Un (frs X.stack) ch H H' s.heap h') (hok : HOk X.prog X.w H' h') (hg : AllBare g')
    (hch : ∀ b ∈ ch, (b ∈ X.ex ∨ X.s₀.heap.objs.size ≤ b) ∧ b ≠ X.env.locals ∧ (∀ x c, X.env.cells.lookup x = some c → c ≠ b) ∧ ∀ p ∈ X.pn ++ pins, p.1 ≠ b) :
    Inv X pins σ H' { s with heap := h', gens := g', drawn := d', toks := t' } := by
  obtain ⟨m, ⟨o, es, ep, ho, r⟩, _⟩ := id I.loc
  obtain ⟨sl, hL⟩ := u.any ho I.free fun z => (hch _ z).2.1 rfl
  exact I.step (ch := ch) hch (fun b o hL hb hc e n => u.keep b o e n (fun z => (List.mem_cons.mp (I.stkSub b z)).elim hL hb) hc) (fun b o _ _ hc e n => u.any e n hc) (fun b o hc e n => u.free b o e n hc) (fun b o hc e => u.there b o e hc) u.tups u.frzs u.tbls (fun m' hm => by
    obtain ⟨o', es', ep', ho', r'⟩ := hm
    rw [ho] at ho'; cases ho'
    exact ⟨_, es', ep', hL, r'⟩) hok hg
theorem Inv.turned {t' : Nat} {it : Addr} (I : Inv X pins σ H s) (k : ∀ b o, b ≠ it → s.heap.get? b = some o → h'.get? b = some o) (hn : H it = none) (hL : it ≠ X.env.locals)
    (h1 : it ∈ X.ex ∨ X.s₀.heap.objs.size ≤ it) (h2 : ∀ x c, X.env.cells.lookup x = some c → c ≠ it) (h3 : ∀ p ∈ X.pn ++ pins, p.1 ≠ it) : Inv X pins σ H { s with heap := h', toks := t' } := by
  have nit : ∀ b u, H b = some u → b ≠ it := fun b u e z => by rw [z, hn] at e; cases e
  refine I.step (g' := s.gens) (d' := s.drawn) (ch := [it]) (fun b hb => ?_) (fun b o _ _ hc e _ => k b o (fun z => hc (by simp [z])) e) (fun b o _ _ hc e _ => ⟨o.slots, k b o (fun z => hc (by simp [z])) e⟩) (fun _ _ _ _ n => n)
    (fun b o hc e => ⟨o, k b o (fun z => hc (by simp [z])) e⟩) (fun _ _ e => e) (fun _ _ _ e => e) (fun b ps e => ⟨#[], by rw [e]; simp⟩) (fun m hm => ?_) (fun b u e => ?_) I.bare
  · have e : b = it := by simpa using hb
    subst e
    exact ⟨h1, hL, h2, h3⟩
  · obtain ⟨o, es, ep, ho, r⟩ := hm
    exact ⟨o, es, ep, k _ o (Ne.symm hL) ho, r⟩
  · refine (I.hok b u e).stay (fun c v hc q => k c v ?_ q) (fun _ q => q) fun _ _ q => q
    rcases hc with z | z
    · rw [z]; exact nit b u e
    · exact nit c _ z
theorem Inv.tok (I : Inv X pins σ H s) (t : Nat) : Inv X pins σ H { s with toks := t } := I.un (h' := s.heap) (t' := t) Un.refl I.hok
theorem Inv.kept {t' : Nat} (I : Inv X pins σ H s) (k : ∀ b u, s.heap.get? b = some u → h'.get? b = some u) : Inv X pins σ H { s with heap := h', toks := t' } := I.un (Un.kept k) (I.hok.kept k)
theorem Inv.laid {a : Addr} {o : HO} {t' : Nat} (I : Inv X pins σ H s) (k : ∀ b u, s.heap.get? b = some u → h'.get? b = some u) (hp : s.heap.objs.size ≤ a) (new : ObjOk X.prog X.w (upd H a o) h' a o) :
    Inv X pins σ (upd H a o) { s with heap := h', toks := t' } := I.un (Un.laid k hp (I.hok.fresh hp)) (I.hok.laid k hp new)
theorem Inv.write {x e : Addr} {o : HO} {t' : Nat} (I : Inv X pins σ H s) (mu : Mut (H x)) (he : e = x ∨ H e = some (.own x)) (k : ∀ b u, b ≠ e → s.heap.get? b = some u → h'.get? b = some u) (heo : ∃ u, h'.get? e = some u)
    (new : ObjOk X.prog X.w (upd H x o) h' x o) : Inv X pins σ (upd H x o) { s with heap := h', toks := t' } := I.un (Un.write mu he k heo) (I.hok.write mu he k heo new)
theorem Inv.pins_of {pins' : List (Addr × Obj)} (I : Inv X pins σ H s) (h : ∀ p ∈ pins', s.heap.get? p.1 = some p.2 ∧ H p.1 = none ∧ p.1 ≠ X.env.locals ∧ p.1 ∉ X.fs ∧ ∀ v, p.2.data ≠ .cell v) : Inv X pins' σ H s :=
  ⟨I.ok, I.os, I.bare, I.base, I.loc, I.cell, I.free, I.freeC, fun p hp => (List.mem_append.mp hp).elim (fun z => I.pin p (List.mem_append_left _ z)) (h p), I.hok, I.len⟩
theorem nodup_ix {N : List Str} (hN : N.Nodup) {i j : Nat} {x : Str} (a : N[i]? = some x) (b : N[j]? = some x) : i = j := by
  obtain ⟨h1, e1⟩ := List.getElem?_eq_some_iff.mp a
  obtain ⟨h2, e2⟩ := List.getElem?_eq_some_iff.mp b
  exact (List.getElem_inj hN).mp (e1.trans e2.symm)
theorem store_ok2 {M : Model} {A : Around} {E : Value → Shared → Prop} {i : Nat} {x : Str} {v : V} {u : Value} {Q : Unit → Shared → Prop} (I : Inv X pins σ H s) (hN : X.N.Nodup) (hi : X.N[i]? = some x) (hx : Loc X.env.scope x) (r : RelV v u)
    (h : ∀ s', Inv X pins (σ.set i (some v)) H s' → (∃ a, Heap.SameBut a s.heap s'.heap ∧ (a = X.env.locals ∨ X.env.cells.lookup x = some a)) → Q () s') (hf : X.fn x = true ∨ X.env.scope.names.lookup x = some .local := by first | exact .inl rfl | exact .inr rfl | assumption) : wpAny M A (storeName X.env x u) Q E s := by
  obtain ⟨m, hn, hl⟩ := id I.loc
  have hcls : (X.env.scope.kind == .class || (X.env.scope.kind == .module && X.env.locals != X.env.globals)) = false := by rw [I.ok.kind]; rfl
  have hiσ : i < σ.length := by rw [I.len]; exact (List.getElem?_eq_some_iff.mp hi).1
  have cne := I.cne
  have tracked : ∀ {a : Addr} {h' : Heap}, (∃ o, s.heap.get? a = some o ∧ H a = none) → Heap.SameBut a s.heap h' → HOk X.prog X.w H h' := fun {a h'} ha hs b ob e => by
    obtain ⟨_, _, hfree⟩ := ha
    refine (I.hok b ob e).stay (fun c w' hc q => (hs.2 c ?_).trans q) (fun _ q => q) fun _ _ q => q
    rintro rfl
    rcases hc with rfl | hc
    · rw [hfree] at e; cases e
    · rw [hfree] at hc; cases hc
  rcases hx with hk | hk
  · refine wpAny_storeName_local hk hn (fun h' hn' hs => ?_) hcls
    obtain ⟨oL, _, _, hoL, _⟩ := id hn
    refine h _ ⟨I.ok, I.os, I.bare, ⟨fun b o e n hb hx => ?_, fun b o e n hb hx => ?_, I.base.free, fun b o e hx => ?_, I.base.tups, I.base.frzs, I.base.tbls⟩, ⟨_, hn', fun j y v' e1 e2 e3 => ?_⟩, fun y c e => ?_, I.free, I.freeC, fun p hp => ?_, tracked ⟨oL, hoL, I.free⟩ hs, by simpa using I.len⟩ ⟨_, hs, .inl rfl⟩
    · exact (hs.2 b (Nat.ne_of_lt (Nat.lt_of_lt_of_le (Heap.lt_size e) I.ok.above))).trans (I.base.keep b o e n hb hx)
    · obtain ⟨sl, e1⟩ := I.base.slot b o e n hb hx
      exact ⟨sl, (hs.2 b (Nat.ne_of_lt (Nat.lt_of_lt_of_le (Heap.lt_size e) I.ok.above))).trans e1⟩
    · obtain ⟨o', e1⟩ := I.base.there b o e hx
      exact ⟨o', (hs.2 b (Nat.ne_of_lt (Nat.lt_of_lt_of_le (Heap.lt_size e) I.ok.above))).trans e1⟩
    · by_cases hj : j = i
      · subst hj
        rw [hi] at e1; cases e1
        rw [List.getElem?_set_self hiσ] at e2
        cases e2
        exact ⟨u, r, .inl ⟨hk, by simp⟩⟩
      · rw [List.getElem?_set_ne (Ne.symm hj)] at e2
        obtain ⟨u', r', q⟩ := hl j y v' e1 e2 e3
        refine ⟨u', r', ?_⟩
        rcases q with ⟨k, e⟩ | ⟨k, c, e, z⟩
        · refine .inl ⟨k, ?_⟩
          have : y ≠ x := fun e => hj (nodup_ix hN e1 (e ▸ hi))
          simp [this, e]
        · exact .inr ⟨k, c, e, z.sameBut hs (cne y c e)⟩
    · obtain ⟨w', z⟩ := I.cell y c e
      exact ⟨w', z.sameBut hs (cne y c e)⟩
    · obtain ⟨e, n, ne, nf, d⟩ := I.pin p hp
      exact ⟨(hs.2 p.1 ne).trans e, n, ne, nf, d⟩
  · have hfn : X.fn x = true := by
      rcases hf with z | z
      · exact z
      · rw [z] at hk; cases hk
    obtain ⟨c, hc⟩ := I.ok.has x (.inl hk)
    obtain ⟨w', z⟩ := I.cell x c hc
    refine wpAny_storeName_cell I.ok.kind hk hc z (fun h' hc' hs => ?_)
    obtain ⟨oc, hoc, hocd⟩ := id z
    refine h { s with heap := h' } ⟨I.ok, I.os, I.bare, ⟨fun b o e n hb hx => ?_, fun b o e n hb hx => ?_, I.base.free, fun b o e hx => ?_, I.base.tups, I.base.frzs, I.base.tbls⟩, ⟨m, hn.sameBut hs (Ne.symm (cne x c hc)), fun j y v' e1 e2 e3 => ?_⟩, fun y c' e => ?_, I.free, I.freeC, fun p hp => ?_, tracked ⟨oc, hoc, I.freeC x c hc⟩ hs, by simpa using I.len⟩ ⟨c, hs, .inr hc⟩
    · exact (hs.2 b (Nat.ne_of_lt (Nat.lt_of_lt_of_le (Heap.lt_size e) (I.ok.cab x c hfn hc)))).trans (I.base.keep b o e n hb hx)
    · obtain ⟨sl, e1⟩ := I.base.slot b o e n hb hx
      exact ⟨sl, (hs.2 b (Nat.ne_of_lt (Nat.lt_of_lt_of_le (Heap.lt_size e) (I.ok.cab x c hfn hc)))).trans e1⟩
    · obtain ⟨o', e1⟩ := I.base.there b o e hx
      exact ⟨o', (hs.2 b (Nat.ne_of_lt (Nat.lt_of_lt_of_le (Heap.lt_size e) (I.ok.cab x c hfn hc)))).trans e1⟩
    · by_cases hj : j = i
      · subst hj
        rw [hi] at e1; cases e1
        rw [List.getElem?_set_self hiσ] at e2
        cases e2
        exact ⟨u, r, .inr ⟨.inl hk, c, hc, hc'⟩⟩
      · rw [List.getElem?_set_ne (Ne.symm hj)] at e2
        obtain ⟨u', r', q⟩ := hl j y v' e1 e2 e3
        refine ⟨u', r', ?_⟩
        rcases q with q | ⟨k, c', e, z'⟩
        · exact .inl q
        · refine .inr ⟨k, c', e, z'.sameBut hs ?_⟩
          rintro rfl
          exact hj (nodup_ix hN e1 (I.ok.inj _ _ _ e hc ▸ hi))
    · by_cases hcc : c' = c
      · subst hcc; exact ⟨_, hc'⟩
      · obtain ⟨w2, z2⟩ := I.cell y c' e
        exact ⟨w2, z2.sameBut hs hcc⟩
    · obtain ⟨e, n, ne, nf, d⟩ := I.pin p hp
      refine ⟨(hs.2 p.1 ?_).trans e, n, ne, nf, d⟩
      intro q
      rw [q, hoc] at e
      have q' : oc = p.2 := Option.some.inj e
      exact d w' (by rw [← q']; exact hocd)
theorem store_ok {M : Model} {A : Around} {E : Value → Shared → Prop} {i : Nat} {x : Str} {v : V} {u : Value} {Q : Unit → Shared → Prop} (I : Inv X pins σ H s) (hN : X.N.Nodup) (hi : X.N[i]? = some x) (hx : Loc X.env.scope x) (r : RelV v u)
    (h : ∀ s', Inv X pins (σ.set i (some v)) H s' → Q () s') (hf : X.fn x = true ∨ X.env.scope.names.lookup x = some .local := by first | exact .inl rfl | exact .inr rfl | assumption) : wpAny M A (storeName X.env x u) Q E s :=
  store_ok2 I hN hi hx r (fun s' I' _ => h s' I') hf
theorem Inv.call' {s' : Shared} {ch : List Addr} (I : Inv X pins σ H s) (ho : s'.os = s.os) (u : Un (frs X.stack) ch H H' s.heap s'.heap) (hok : HOk X.prog X.w H' s'.heap) (hg : AllBare s'.gens)
    (hch : ∀ b ∈ ch, (b ∈ X.ex ∨ X.s₀.heap.objs.size ≤ b) ∧ b ≠ X.env.locals ∧ (∀ x c, X.env.cells.lookup x = some c → c ≠ b) ∧ ∀ p ∈ X.pn ++ pins, p.1 ≠ b) : Inv X pins σ H' s' := by
  obtain ⟨h', g', d', t', o'⟩ := s'
  have e : o' = s.os := ho
  subst e
  exact I.call (g' := g') (t' := t') (d' := d') u hok hg hch
end
abbrev XK := Value → Option Addr → Hp → Prop
abbrev St := List (Option V)
abbrev VK := V → Hp → Prop
abbrev TE := St → Hp → VK → Prop
abbrev TT := St → Hp → (Bool → Hp → Prop) → Prop
abbrev TA := St → Hp → (List V → Hp → Prop) → Prop
structure Ends where
  nx : St → Hp → Prop
  rt : VK
  bk : St → Hp → Prop := fun _ _ => False
  ct : St → Hp → Prop := fun _ _ => False
abbrev TS := Ends → St → Hp → Prop
def EP (X : Cx) (pins : List (Addr × Obj)) (σ : St) (Q : VK) (u : Value) (s' : Shared) : Prop := ∃ v H', Inv X pins σ H' s' ∧ RelV v u ∧ Q v H'
def TP (X : Cx) (pins : List (Addr × Obj)) (σ : St) (Q : Bool → Hp → Prop) (b : Bool) (s' : Shared) : Prop := ∃ H', Inv X pins σ H' s' ∧ Q b H'
def AP (X : Cx) (pins : List (Addr × Obj)) (σ : St) (Q : List V → Hp → Prop) (us : List Value) (s' : Shared) : Prop := ∃ vs H', Inv X pins σ H' s' ∧ Vals vs us ∧ Q vs H'
def SP (X : Cx) (pins : List (Addr × Obj)) (D : Ends) (f : Flow) (s' : Shared) : Prop :=
  match f with
  | .next => ∃ σ' H', Inv X pins σ' H' s' ∧ D.nx σ' H'
  | .brk => ∃ σ' H', Inv X pins σ' H' s' ∧ D.bk σ' H'
  | .cont => ∃ σ' H', Inv X pins σ' H' s' ∧ D.ct σ' H'
  | .ret u => ∃ v σ' H', Inv X pins σ' H' s' ∧ RelV v u ∧ D.rt v H'
def PE (X : Cx) (e : Expr) (t : TE) : Prop :=
  ∀ (pins : List (Addr × Obj)) (s : Shared) (σ : St) (H : Hp) (Q : VK), Inv X pins σ H s → t σ H Q → wpAny (model X.prog X.w) X.A (eval e X.env) (EP X pins σ Q) X.xe s
def PT (X : Cx) (e : Expr) (t : TT) : Prop :=
  ∀ (pins : List (Addr × Obj)) (s : Shared) (σ : St) (H : Hp) (Q : Bool → Hp → Prop), Inv X pins σ H s → t σ H Q → wpAny (model X.prog X.w) X.A (isTrue e X.env (eval e X.env)) (TP X pins σ Q) X.xe s
def PW (X : Cx) (e : Expr) (t : TT) : Prop :=
  ∀ (whole : Sem Value) (pins : List (Addr × Obj)) (s : Shared) (σ : St) (H : Hp) (Q : Bool → Hp → Prop), Inv X pins σ H s → t σ H Q → wpAny (model X.prog X.w) X.A (isTrue e X.env whole) (TP X pins σ Q) X.xe s
theorem PW.pt {X : Cx} {e : Expr} {t : TT} (h : PW X e t) : PT X e t := h _
def PA (X : Cx) (es : List Expr) (t : TA) : Prop :=
  ∀ (pos : Pos) (pins : List (Addr × Obj)) (s : Shared) (σ : St) (H : Hp) (Q : List V → Hp → Prop), Inv X pins σ H s → t σ H Q → wpAny (model X.prog X.w) X.A (spliced (backTo pos (starEach es X.env))) (AP X pins σ Q) X.xe s
def PS (X : Cx) (st : Stmt) (t : TS) : Prop :=
  ∀ (pins : List (Addr × Obj)) (s : Shared) (σ : St) (H : Hp) (D : Ends), Inv X pins σ H s → t D σ H → wpAny (model X.prog X.w) X.A (exec st X.env) (SP X pins D) X.xe s
def PSs (X : Cx) (st : List Stmt) (t : TS) : Prop :=
  ∀ (pins : List (Addr × Obj)) (s : Shared) (σ : St) (H : Hp) (D : Ends), Inv X pins σ H s → t D σ H → wpAny (model X.prog X.w) X.A (execs st X.env) (SP X pins D) X.xe s
theorem thn {α : Type} {t : Sem α} {Q Q' : α → Shared → Prop} {M : Model} {A : Around} {E : Value → Shared → Prop} {s : Shared} (h : wpAny M A t Q E s) (hQ : ∀ a s, Q a s → Q' a s) : wpAny M A t Q' E s := wpAny_mono h hQ fun _ _ x => x
end L2
namespace L2
open PySem PySem.Spec PyProof.Rows
section
variable {X : Cx}
def tVar (i : Nat) : TE := fun σ H Q => ∃ v, σ[i]? = some (some v) ∧ Q v H
def tC (v : V) : TE := fun _ H Q => Q v H
theorem pe_var {i : Nat} {x : Str} {pos : Pos} (hN : X.N[i]? = some x) (hv : Vis X.env.scope x) (hd : (x == ("__debug__" : Str)) = false := by decide) (hcd : (x == ("__classdict__" : Str)) = false := by decide) : PE X (.Name x pos) (tVar i) := by
  intro pins s σ H Q I h
  obtain ⟨v, e, h⟩ := h
  obtain ⟨m, hn, hl⟩ := I.loc
  obtain ⟨u, r, l⟩ := hl i x v hN e hv
  have fin : EP X pins σ Q u s := ⟨v, H, I, r, h⟩
  rcases l with ⟨hk, hm⟩ | ⟨hk, c, hc, hcell⟩
  · exact wpAny_Name (wpAny_loadName_local I.ok.kind hk hn hm fin) hd
  · rcases hk with hk | hk
    · exact wpAny_Name (wpAny_loadName_cell I.ok.kind hk hc hcell fin) hd
    · exact wpAny_Name (wpAny_loadName_free I.ok.kind hk hc hcell fin hcd) hd
theorem pe_int {i j pos} : PE X (.Constant (.int i) j pos) (tC (.int i)) := fun _ _ _ H _ I h => wpAny_Constant_int ⟨.int i, H, I.tok _, ⟨_, rfl⟩, h⟩
theorem pe_bl {b j pos} : PE X (.Constant (.bool b) j pos) (tC (.bl b)) := fun _ _ _ H _ I h => Constant_bool ⟨.bl b, H, I, rfl, h⟩
theorem pe_non {j pos} : PE X (.Constant .none j pos) (tC .non) := fun _ _ _ H _ I h => Constant_none ⟨.non, H, I, rfl, h⟩
theorem pe_str {x j pos} : PE X (.Constant (.str x) j pos) (tC (.str x)) := fun _ _ _ H _ I h => Calls.Constant_str ⟨.str x, H, I.tok _, ⟨_, rfl⟩, h⟩
def Gl (X : Cx) (x : Str) : Prop := X.env.kindOf x = some .globalImplicit
theorem ld_glob {E : Value → Shared → Prop} {pins : List (Addr × Obj)} {s : Shared} {σ : St} {H : Hp} {x : Str} {u : Value} {pos : Pos} {Q : Value → Shared → Prop} (I : Inv X pins σ H s) (hg : Gl X x) (hm : X.mg x = some u) (h : Q u s)
    (hd : (x == ("__debug__" : Str)) = false := by decide) : wpAny (model X.prog X.w) X.A (eval (.Name x pos) X.env) Q E s :=
  Calls.Name_function_global I.ok.kind hg (Calls.loadGlobal_global (by rw [I.ok.glob]; exact I.mod.glob.keeps I.bk) hm h) hd
theorem ld_blt {E : Value → Shared → Prop} {pins : List (Addr × Obj)} {s : Shared} {σ : St} {H : Hp} {x : Str} {u : Value} {pos : Pos} {Q : Value → Shared → Prop} (I : Inv X pins σ H s) (hg : Gl X x) (hm : X.mg x = none) (hv : bootBuiltins x = some u) (h : Q u s)
    (hn : x ≠ "__name__" := by decide) (hd : (x == ("__debug__" : Str)) = false := by decide) : wpAny (model X.prog X.w) X.A (eval (.Name x pos) X.env) Q E s := by
  obtain ⟨mb, h1, h2⟩ := I.mod.blt
  exact Calls.Name_function_global I.ok.kind hg (Calls.loadGlobal_builtin (by rw [I.ok.glob]; exact I.mod.glob.keeps I.bk) hm (by rw [I.ok.blt]; exact h1.keeps I.bk) ((h2 x hn).trans hv) h) hd
theorem pe_bltn {x : Str} {v : V} {u : Value} {pos : Pos} (hg : Gl X x) (hm : X.mg x = none) (hv : bootBuiltins x = some u) (r : RelV v u) (hn : x ≠ "__name__" := by decide) (hd : (x == ("__debug__" : Str)) = false := by decide) : PE X (.Name x pos) (tC v) :=
  fun _ _ _ H _ I h => ld_blt I hg hm hv ⟨v, H, I, r, h⟩ hn hd
variable {a b : Expr} {ta tb : TE} {pos : Pos}
def PC (X : Cx) (op : CmpOp) (a b : Expr) (t : TE) : Prop :=
  ∀ (pins : List (Addr × Obj)) (s : Shared) (σ : St) (H : Hp) (Q : VK), Inv X pins σ H s → t σ H Q →
    wpAny (model X.prog X.w) X.A (eval a X.env) (fun v s₁ => wpAny (model X.prog X.w) X.A (eval b X.env) (fun u s₂ => wpAny (model X.prog X.w) X.A (compareOp op v u) (EP X pins σ Q) X.xe s₂) X.xe s₁) X.xe s
theorem nobehind (b : Expr) {op : CmpOp} (h : op ≠ .In) (h2 : op ≠ .NotIn) : behindInMarks op b = false := by
  have e1 : (op == CmpOp.In) = false := by cases op <;> first | rfl | exact absurd rfl h
  have e2 : (op == CmpOp.NotIn) = false := by cases op <;> first | rfl | exact absurd rfl h2
  cases b <;> simp [behindInMarks, e1, e2]
def tB (t : TE) : TT := fun σ H Q => t σ H fun x H1 => ∃ c, x = .bl c ∧ Q c H1
theorem pt_cmp {op : CmpOp} {t : TE} (h : PC X op a b t) (h1 : behindInMarks op b = false := by first | exact nobehind _ (by decide) (by decide) | rfl) : PT X (.Compare a [op] [b] pos) (tB t) := by
  intro pins s σ H Q I hw
  refine wpAny_isTrue_Compare1 (thn (h pins s σ H _ I hw) fun v s1 h1 => thn h1 fun u s2 h2 => thn h2 fun c s3 ⟨x, H1, I1, r1, q1⟩ => ?_) h1
  obtain ⟨d, rfl, q⟩ := q1
  cases r1
  exact wpAny_truthy_bool ⟨H1, I1, q⟩
variable {tA tB' : TT} {rest : List Expr}
def tOr (t u : TT) : TT := fun σ H Q => t σ H fun c H1 => if c = true then Q true H1 else u σ H1 Q
def tNot (t : TT) : TT := fun σ H Q => t σ H fun c H1 => Q (!c) H1
theorem pw_or1 (ha : PT X a tA) : PW X (.BoolOp .Or [a] pos) tA := by
  intro wh pins s σ H Q I h
  refine isTrue_or (thn (ha pins s σ H Q I h) fun c s1 e => ?_)
  cases c with
  | false => exact isTrue_or_nil e
  | true => exact e
theorem pw_or (ha : PT X a tA) (hb : PW X (.BoolOp .Or (b :: rest) pos) tB') : PW X (.BoolOp .Or (a :: b :: rest) pos) (tOr tA tB') := by
  intro wh pins s σ H Q I h
  refine isTrue_or (thn (ha pins s σ H _ I h) fun c s1 ⟨H1, I1, q1⟩ => ?_)
  cases c with
  | true => exact ⟨H1, I1, q1⟩
  | false => exact hb wh pins s1 σ H1 Q I1 q1
theorem pt_not (ha : PT X a tA) : PT X (.UnaryOp .Not a pos) (tNot tA) := by
  intro pins s σ H Q I h
  exact isTrue_not (ha pins s σ H (fun c H1 => Q (!c) H1) I h)
end
end L2
namespace L2
open PySem PySem.Spec PyProof.Rows
def SqL (K : PySem.W.Frag) (H : Hp) (a : Addr) (xs : List V) : Prop :=
  Rd H a (.lst xs) ∨
    ∃ (o : Obj) (its : Array Value) (n : Nat), K.lookup a = some o ∧ o.cls = .type "list" ∧ o.dict = none ∧ o.data = .seq its n ∧ its.size ≤ sizeLine ∧ Vals xs its.toList
def SqT (K : PySem.W.Frag) (H : Hp) (a : Addr) (xs : List V) : Prop :=
  Rd H a (.tup xs) ∨
    ∃ (o : Obj) (its : Array Value) (n : Nat), K.lookup a = some o ∧ o.cls = .type "tuple" ∧ o.data = .seq its n ∧ its.size ≤ sizeLine ∧ Vals xs its.toList
def absV : Value → Option V
  | .none => some .non
  | .bool b => some (.bl b)
  | .int i _ => some (.int i)
  | .str x _ => some (.str x)
  | .bytes b _ => some (.byt b)
  | .float b _ => some (.flt b)
  | .ref a => some (.ref a)
  | .type n => some (.ty n)
  | _ => none
theorem RelV.abs {x : V} {u : Value} (r : RelV x u) : absV u = some x := by
  cases x with
  | non => cases r; rfl
  | bl _ => cases r; rfl
  | int _ => obtain ⟨t, rfl⟩ := r; rfl
  | str _ => obtain ⟨t, rfl⟩ := r; rfl
  | byt _ => obtain ⟨t, rfl⟩ := r; rfl
  | flt _ => obtain ⟨t, rfl⟩ := r; rfl
  | ref _ => cases r; rfl
  | ty _ => cases r; rfl
theorem RelV.inj {x y : V} {u : Value} (r : RelV x u) (q : RelV y u) : x = y := Option.some.inj (r.abs.symm.trans q.abs)
theorem Vals.inj : ∀ {xs ys : List V} {us : List Value}, Vals xs us → Vals ys us → xs = ys
  | _, _, _, .nil, .nil => rfl
  | _, _, _, .cons r t, .cons r' t' => by rw [r.inj r', Vals.inj t t']
section
variable {X : Cx} {pins : List (Addr × Obj)} {σ : St} {H : Hp} {s : Shared} {a : Addr} {xs ys : List V}
theorem SqL.of {K : PySem.W.Frag} (h : H a = some (.lst xs)) : SqL K H a xs := .inl (.inl h)
theorem SqT.of {K : PySem.W.Frag} (h : H a = some (.tup xs)) : SqT K H a xs := .inl (.inl h)
theorem Inv.list (I : Inv X pins σ H s) (h : SqL X.K H a xs) : ∃ its : List Value, Vals xs its ∧ PlainL s.heap a its.toArray ∧ xs.length ≤ sizeLine := by
  rcases h with h | ⟨o, its, n, hk, hc, hd, hs, hz, r⟩
  · obtain ⟨z, its, n, r, e⟩ := h.ok I.hok
    exact ⟨its, r, ⟨_, n, e, rfl, rfl, rfl⟩, z⟩
  · refine ⟨its.toList, r, ⟨o, n, I.kIn a o hk, hc, hd, by simpa using hs⟩, ?_⟩
    have e := r.length
    simp only [Array.length_toList] at e
    omega
theorem Inv.tuple (I : Inv X pins σ H s) (h : SqT X.K H a xs) : ∃ its : List Value, Vals xs its ∧ IsTup s.heap a its.toArray ∧ xs.length ≤ sizeLine := by
  rcases h with h | ⟨o, its, n, hk, hc, hs, hz, r⟩
  · obtain ⟨z, its, r, p⟩ := h.ok I.hok
    exact ⟨its, r, p, z⟩
  · refine ⟨its.toList, r, ⟨o, I.kIn a o hk, hc, n, by simpa using hs⟩, ?_⟩
    have e := r.length
    simp only [Array.length_toList] at e
    omega
theorem Inv.list_inj (I : Inv X pins σ H s) (h : SqL X.K H a xs) (h' : SqL X.K H a ys) : xs = ys := by
  obtain ⟨its, r, ⟨o, n, e, _, _, d⟩, _⟩ := I.list h
  obtain ⟨its', r', ⟨o', n', e', _, _, d'⟩, _⟩ := I.list h'
  rw [e] at e'; cases e'
  rw [d] at d'
  injection d' with d1 _
  have : its = its' := by simpa using congrArg Array.toList d1
  subst this
  exact r.inj r'
end
abbrev Cx.wish (X : Cx) (E : Value → Shared → Prop) : Cx := { X with xe := E }
abbrev Cx.nox (X : Cx) : Cx := X.wish fun _ _ => False
theorem Cx.Ok.wish {X : Cx} (ok : X.Ok) (E : Value → Shared → Prop) : (X.wish E).Ok :=
  ⟨ok.mod, ok.kind, ok.glob, ok.blt, ok.above, ok.inj, ok.has, ok.cab, ok.hd, ok.frames, ok.stk, ok.exf, ok.bs, ok.bsz, ok.noex, ok.exfs, ok.funs, ok.frf⟩
theorem Cx.Ok.unwish {X : Cx} {E : Value → Shared → Prop} (ok : (X.wish E).Ok) : X.Ok :=
  ⟨ok.mod, ok.kind, ok.glob, ok.blt, ok.above, ok.inj, ok.has, ok.cab, ok.hd, ok.frames, ok.stk, ok.exf, ok.bs, ok.bsz, ok.noex, ok.exfs, ok.funs, ok.frf⟩
section
variable {X : Cx} {pins : List (Addr × Obj)} {σ : St} {H : Hp} {s : Shared} {E : Value → Shared → Prop}
theorem Inv.wish (I : Inv X pins σ H s) (E : Value → Shared → Prop) : Inv (X.wish E) pins σ H s := ⟨I.ok.wish E, I.os, I.bare, I.base, I.loc, I.cell, I.free, I.freeC, I.pin, I.hok, I.len⟩
theorem Inv.unwish (I : Inv (X.wish E) pins σ H s) : Inv X pins σ H s := ⟨I.ok.unwish, I.os, I.bare, I.base, I.loc, I.cell, I.free, I.freeC, I.pin, I.hok, I.len⟩
theorem SP.unwish {D : Ends} {f : Flow} {s' : Shared} (h : SP (X.wish E) pins D f s') : SP X pins D f s' := by
  cases f with
  | next => obtain ⟨σ', H', I, q⟩ := h; exact ⟨σ', H', I.unwish, q⟩
  | brk => obtain ⟨σ', H', I, q⟩ := h; exact ⟨σ', H', I.unwish, q⟩
  | cont => obtain ⟨σ', H', I, q⟩ := h; exact ⟨σ', H', I.unwish, q⟩
  | ret u => obtain ⟨v, σ', H', I, r, q⟩ := h; exact ⟨v, σ', H', I.unwish, r, q⟩
theorem PSs.nox {st : List Stmt} {t : TS} (h : PSs X.nox st t) : PSs X st t := fun pins s σ H D I hw =>
  wpAny_mono (h pins s σ H D (I.wish _) hw) (fun _ _ q => q.unwish) fun _ _ z => False.elim z
end
section
variable {X : Cx} {st : Stmt} {rest : List Stmt} {t u : TS} {e : Expr} {te : TE} {pos : Pos}
def tNext : TS := fun D σ H => D.nx σ H
def tSeq (t u : TS) : TS := fun D σ H => t { D with nx := u D } σ H
theorem pss_nil : PSs X [] tNext := fun _ _ σ H _ I h => wpAny_execs_nil ⟨σ, H, I, h⟩
theorem pss_cons (h1 : PS X st t) (h2 : PSs X rest u) : PSs X (st :: rest) (tSeq t u) := by
  intro pins s σ H D I h
  refine wpAny_execs_cons (thn (h1 pins s σ H { D with nx := u D } I h) fun f s1 q => ?_)
  cases f with
  | next =>
    obtain ⟨σ', H', I', q⟩ := q
    exact h2 pins s1 σ' H' D I' q
  | ret v => exact q
  | brk => exact q
  | cont => exact q
theorem pss_one (h1 : PS X st t) : PSs X [st] t := by
  intro pins s σ H D I h
  refine wpAny_execs_cons (thn (h1 pins s σ H D I h) fun f s1 q => ?_)
  cases f with
  | next => exact wpAny_execs_nil q
  | ret v => exact q
  | brk => exact q
  | cont => exact q
def tBreak : TS := fun D σ H => D.bk σ H
theorem ps_break : PS X (.Break pos) tBreak := fun _ _ σ H _ I h => wpAny_Break ⟨σ, H, I, h⟩
theorem Inv.quiet {pins : List (Addr × Obj)} {σ : St} {H : Hp} {s : Shared} (I : Inv X pins σ H s) : interactive X.env = false := by simp [interactive, I.ok.kind]
def tDrop (te : TE) : TS := fun D σ H => te σ H fun _ H1 => D.nx σ H1
theorem ps_expr (he : PE X e te) (hs : swapsWith e none pos.line X.env = pure false := by rfl) : PS X (.Expr e pos) (tDrop te) := by
  intro pins s σ H D I h
  exact wpAny_Expr_any (thn (he pins s σ H _ I h) fun v s1 ⟨x, H1, I1, r1, q1⟩ => ⟨σ, H1, I1, q1⟩) I.quiet hs
def tRet (te : TE) : TS := fun D σ H => te σ H D.rt
theorem ps_ret (he : PE X e te) : PS X (.Return (some e) pos) (tRet te) := by
  intro pins s σ H D I h
  exact wpAny_Return_some (thn (he pins s σ H _ I h) fun v s1 ⟨x, H1, I1, r1, q1⟩ => ⟨x, σ, H1, I1, r1, q1⟩)
def tIfS (c : TT) (t u : TS) : TS := fun D σ H => c σ H fun b H1 => if b = true then t D σ H1 else u D σ H1
theorem ps_if {c : Expr} {a b : List Stmt} {tc : TT} (hc : PT X c tc) (ha : PSs X a t) (hb : PSs X b u) : PS X (.If c a b pos) (tIfS tc t u) := by
  intro pins s σ H D I h
  refine wpAny_If (thn (hc pins s σ H _ I h) fun d s1 ⟨H1, I1, q1⟩ => ?_)
  cases d with
  | true => exact ha pins s1 σ H1 D I1 q1
  | false => exact hb pins s1 σ H1 D I1 q1
end
abbrev TG := V → St → Hp → (St → Hp → Prop) → Prop
abbrev TGs := List V → St → Hp → (St → Hp → Prop) → Prop
def PG (X : Cx) (target : Expr) (t : TG) : Prop :=
  ∀ (pins : List (Addr × Obj)) (s : Shared) (σ : St) (H : Hp) (v : V) (u : Value) (Q : St → Hp → Prop), Inv X pins σ H s → RelV v u → t v σ H Q →
    wpAny (model X.prog X.w) X.A (assign target X.env u) (fun _ s' => ∃ σ' H', Inv X pins σ' H' s' ∧ Q σ' H') X.xe s
def PGs (X : Cx) (ts : List Expr) (t : TGs) : Prop :=
  ∀ (pins : List (Addr × Obj)) (s : Shared) (σ : St) (H : Hp) (vs : List V) (us : List Value) (Q : St → Hp → Prop), Inv X pins σ H s → Vals vs us → t vs σ H Q →
    wpAny (model X.prog X.w) X.A (assignInOrder ((assignEach ts X.env).map (·.2)) us) (fun _ s' => ∃ σ' H', Inv X pins σ' H' s' ∧ Q σ' H') X.xe s
abbrev TSet := V → V → V → Hp → (Hp → Prop) → Prop
def PSet (X : Cx) (t : TSet) : Prop :=
  ∀ (pins : List (Addr × Obj)) (s : Shared) (σ : St) (H : Hp) (o i v : V) (ov iv u : Value) (Q : Hp → Prop), Inv X pins σ H s → RelV o ov → RelV i iv → RelV v u → t o i v H Q →
    wpAny (model X.prog X.w) X.A (setItem ov iv u) (fun _ s' => ∃ H', Inv X pins σ H' s' ∧ Q H') X.xe s
abbrev TIp := V → V → Hp → VK → Prop
def PIp (X : Cx) (op : Operator) (t : TIp) : Prop :=
  ∀ (pins : List (Addr × Obj)) (s : Shared) (σ : St) (H : Hp) (x y : V) (v u : Value) (Q : VK), Inv X pins σ H s → RelV x v → RelV y u → t x y H Q →
    wpAny (model X.prog X.w) X.A (inplaceOp op v u) (EP X pins σ Q) X.xe s
section
variable {X : Cx} {pos : Pos}
def gName (i : Nat) : TG := fun v σ H Q => Q (σ.set i (some v)) H
theorem pg_name {i : Nat} {x : Str} (hN : X.N.Nodup) (hi : X.N[i]? = some x) (hx : Loc X.env.scope x) (hf : X.fn x = true ∨ X.env.scope.names.lookup x = some .local := by first | exact .inl rfl | exact .inr rfl | assumption) : PG X (.Name x pos) (gName i) := by
  intro pins s σ H v u Q I r h
  exact wpAny_assign_Name (store_ok I hN hi hx r (fun s' I' => ⟨_, H, I', h⟩) hf)
def gNil : TGs := fun vs σ H Q => vs = [] ∧ Q σ H
def gCons (t : TG) (u : TGs) : TGs := fun vs σ H Q => ∃ v r, vs = v :: r ∧ t v σ H fun σ' H' => u r σ' H' Q
theorem pgs_nil : PGs X [] gNil := by
  intro pins s σ H vs us Q I r h
  obtain ⟨e, h⟩ := h
  subst e
  cases r
  exact assignInOrder_nil ⟨σ, H, I, h⟩
theorem pgs_cons {e : Expr} {es : List Expr} {t : TG} {u : TGs} (h1 : PG X e t) (h2 : PGs X es u)
    (hs : (assignEach (e :: es) X.env).map (·.2) = assign e X.env :: (assignEach es X.env).map (·.2) := by rfl) : PGs X (e :: es) (gCons t u) := by
  intro pins s σ H vs us Q I r h
  obtain ⟨v, vr, e1, h⟩ := h
  subst e1
  cases r with
  | cons r rr =>
    rw [hs]
    refine assignInOrder_cons (thn (h1 pins s σ H _ _ _ I r h) fun _ s1 ⟨σ1, H1, I1, q1⟩ => ?_)
    exact h2 pins s1 σ1 H1 _ _ Q I1 rr q1
def gTup (K : PySem.W.Frag) (n : Nat) (t : TGs) : TG := fun v σ H Q => ∃ a xs, v = .ref a ∧ SqT K H a xs ∧ xs.length = n ∧ t xs σ H Q
theorem pg_tup {es : List Expr} {k : Nat} {t : TGs} {n : Nat} (hc : X.calm = true) (h : PGs X es t)
    (hn : (assignEach es X.env).length = n := by rfl) (hst : (assignEach es X.env).findIdx? (·.1) = none := by rfl) : PG X (.Tuple es k pos) (gTup X.K n t) := by
  intro pins s σ H v u Q I r hw
  obtain ⟨a, xs, e1, hq, hl, hw⟩ := hw
  subst e1
  cases r
  obtain ⟨its, rv, ht, hz⟩ := I.tuple hq
  refine assign_Tuple_tuple (I.ok.hd hc) ht (by simp [hn, ← hl, rv.length]) hst fun h' hx => ?_
  have I1 : Inv X pins σ H { s with heap := h' } := I.kept (t' := s.toks) fun b o e => hx b o (Nat.ne_of_lt (Heap.lt_size e)) e
  exact h pins _ σ H xs _ Q I1 (by simpa using rv) hw
def gSub (to ti : TE) (t : TSet) : TG := fun v σ H Q => to σ H fun o H1 => ti σ H1 fun i H2 => t o i v H2 fun H3 => Q σ H3
theorem pg_sub {o i : Expr} {to ti : TE} {t : TSet} (ho : PE X o to) (hi : PE X i ti) (hs : PSet X t)
    (ha : ∀ v, assign (.Subscript o i pos) X.env v = (do
      let ov ← holding [v] (eval o X.env)
      let iv ← holding [v, ov] (eval i X.env)
      standAt pos
      holding [v, ov, iv] (setItem ov iv v)
      release [v, ov, iv] []) := by intro _; rfl) : PG X (.Subscript o i pos) (gSub to ti t) := by
  intro pins s σ H v u Q I r h
  rw [ha]
  refine wpAny_bind (wpAny_holding (thn (ho pins s σ H _ I h) fun ov s1 ⟨x, H1, I1, r1, q1⟩ => ?_))
  refine wpAny_bind (wpAny_holding (thn (hi pins s1 σ H1 _ I1 q1) fun iv s2 ⟨y, H2, I2, r2, q2⟩ => ?_))
  refine wpAny_bind (wpAny_standAt (wpAny_bind (wpAny_holding (thn (hs pins s2 σ H2 x y v ov iv u _ I2 r1 r2 r q2) fun _ s3 ⟨H3, I3, q3⟩ => ?_))))
  exact wpAny_release ⟨σ, H3, I3, q3⟩
def tAsg (te : TE) (g : TG) : TS := fun D σ H => te σ H fun x H1 => g x σ H1 D.nx
theorem ps_asg {tg e : Expr} {te : TE} {g : TG} (he : PE X e te) (hg : PG X tg g) (hs : swapsWithSole [tg] e pos.line X.env = pure false := by rfl) (hw : swappedStores [tg] e X.env = pure none := by rfl)
    (h1 : (assignEach [tg] X.env).map (·.2) = [assign tg X.env] := by rfl) : PS X (.Assign [tg] e pos) (tAsg te g) := by
  intro pins s σ H D I h
  refine wpAny_Assign_stores (thn (he pins s σ H _ I h) fun v s1 ⟨x, H1, I1, r1, q1⟩ => ?_) hs hw
  rw [h1]
  exact thn (hg pins s1 σ H1 x v _ I1 r1 q1) fun _ s2 q => q
theorem ps_set {i : Nat} {x : Str} {e : Expr} {te : TE} {pos' : Pos} (hN : X.N.Nodup) (hi : X.N[i]? = some x) (hx : Loc X.env.scope x) (he : PE X e te) (hs : swapsWith e (some (.Name x pos')) pos.line X.env = pure false := by rfl) (hf : X.fn x = true ∨ X.env.scope.names.lookup x = some .local := by first | exact .inl rfl | exact .inr rfl | assumption) :
    PS X (.Assign [.Name x pos'] e pos) (tAsg te (gName i)) := by
  intro pins s σ H D I h
  refine wpAny_Assign_Name (thn (he pins s σ H _ I h) fun v s1 ⟨y, H1, I1, r1, q1⟩ => ?_) hs
  exact store_ok I1 hN hi hx r1 (fun s2 I2 => ⟨_, H1, I2, q1⟩) hf
def tAug (i : Nat) (te : TE) (ti : TIp) : TS := fun D σ H => ∃ x, σ[i]? = some (some x) ∧ te σ H fun y H1 => ti x y H1 fun z H2 => D.nx (σ.set i (some z)) H2
theorem ps_aug {i : Nat} {x : Str} {e : Expr} {te : TE} {op : Operator} {ti : TIp} {pos' : Pos} (hN : X.N.Nodup) (hi : X.N[i]? = some x) (hx : Loc X.env.scope x) (he : PE X e te) (ho : PIp X op ti) (hf : X.fn x = true ∨ X.env.scope.names.lookup x = some .local := by first | exact .inl rfl | exact .inr rfl | assumption) :
    PS X (.AugAssign (.Name x pos') op e pos) (tAug i te ti) := by
  intro pins s σ H D I h
  obtain ⟨v, e1, h⟩ := h
  obtain ⟨m, hn, hl⟩ := I.loc
  have vis : Vis X.env.scope x := by rcases hx with k | k; exact .inl k; exact .inr (.inl k)
  obtain ⟨u, r, l⟩ := hl i x v hi e1 vis
  refine wpAny_AugAssign_Name ?_
  have go : wpAny (model X.prog X.w) X.A (eval e X.env) (fun w s₂ => wpAny (model X.prog X.w) X.A (inplaceOp op u w) (fun r s₃ => wpAny (model X.prog X.w) X.A (storeName X.env x r) (fun _ => SP X pins D .next) X.xe s₃) X.xe s₂) X.xe s := by
    refine thn (he pins s σ H _ I h) fun w s1 ⟨y, H1, I1, r1, q1⟩ => ?_
    refine thn (ho pins s1 σ H1 v y u w _ I1 r r1 q1) fun z s2 ⟨zv, H2, I2, r2, q2⟩ => ?_
    exact store_ok I2 hN hi hx r2 (fun s3 I3 => ⟨_, H2, I3, q2⟩) hf
  rcases l with ⟨hk, hm⟩ | ⟨hk, c, hc, hcell⟩
  · exact wpAny_loadName_local I.ok.kind hk hn hm go
  · rcases hk with hk | hk
    · exact wpAny_loadName_cell I.ok.kind hk hc hcell go
    · rcases hx with k | k
      · have : X.env.scope.names.lookup x = some .free := hk
        rw [k] at this; cases this
      · have : X.env.scope.names.lookup x = some .free := hk
        rw [k] at this; cases this
def ipI (f : Int → Int → Int) : TIp := fun x y H Q => ∃ i j, x = .int i ∧ y = .int j ∧ Q (.int (f i j)) H
theorem ip_add : PIp X .Add (ipI fun i j => i + j) := by
  intro pins s σ H x y v u Q I r1 r2 h
  obtain ⟨i, j, e1, e2, q⟩ := h
  subst e1; subst e2
  obtain ⟨t, rfl⟩ := r1
  obtain ⟨t', rfl⟩ := r2
  exact iadd_int ⟨.int _, H, I.tok _, ⟨_, rfl⟩, q⟩
end
section
variable {X : Cx} {pos : Pos}
def tWhile (c : TT) (tb : TS) : TS := fun D σ H => ∃ W : Nat → St → Hp → Prop, (∃ m, W m σ H) ∧ ∀ m σ H, W m σ H →
  c σ H fun b H1 => if b = true then ∃ N : St → Hp → Prop, (∀ σ' H', N σ' H' → ∃ m', m' < m ∧ W m' σ' H') ∧ tb { D with nx := N, ct := N, bk := D.nx } σ H1 else D.nx σ H1
theorem ps_while {c : Expr} {body : List Stmt} {tc : TT} {tb : TS} (hp : PassesOwn (model X.prog X.w) X.A X.env X.xe) (hc : PT X c tc) (hb : PSs X body tb) : PS X (.While c body [] pos) (tWhile tc tb) := by
  intro pins s σ H D I h
  obtain ⟨W, ⟨m0, w0⟩, turn⟩ := h
  refine wpAny_While (codeAny_whileLoop (fun n s' => ∃ σ' H', Inv X pins σ' H' s' ∧ W n σ' H') ?_ m0 ⟨σ, H, I, w0⟩)
  rintro n s1 ⟨σ1, H1, I1, w1⟩
  refine wpAny_passesOwn hp (thn (hc pins s1 σ1 H1 _ I1 (turn n σ1 H1 w1)) fun b s2 ⟨H2, I2, q2⟩ => ?_)
  cases b with
  | true =>
    obtain ⟨N, hN, q2⟩ := q2
    rw [if_pos rfl]
    refine wpAny_passesOwn hp (thn (hb pins s2 σ1 H2 _ I2 q2) fun f s3 q3 => ?_)
    cases f with
    | next =>
      obtain ⟨σ3, H3, I3, n3⟩ := q3
      obtain ⟨m', hm, w3⟩ := hN σ3 H3 n3
      exact ⟨m', hm, σ3, H3, I3, w3⟩
    | cont =>
      obtain ⟨σ3, H3, I3, n3⟩ := q3
      obtain ⟨m', hm, w3⟩ := hN σ3 H3 n3
      exact ⟨m', hm, σ3, H3, I3, w3⟩
    | brk => exact q3
    | ret v => exact q3
  | false =>
    rw [if_neg Bool.false_ne_true]
    exact wpAny_execs_nil ⟨σ1, H2, I2, q2⟩
end
structure It where
  go : Nat → Hp → Prop
  yld : Nat → Hp → V → Hp → Prop
  stop : Nat → Hp → Prop
def FpOk (X : Cx) (pins : List (Addr × Obj)) (H : Hp) (b : Addr) : Prop :=
  H b = none ∧ b ≠ X.env.locals ∧ b ∉ X.fs ∧ (b ∈ X.ex ∨ X.s₀.heap.objs.size ≤ b) ∧ (∀ x c, X.env.cells.lookup x = some c → c ≠ b) ∧ ∀ p ∈ X.pn ++ pins, p.1 ≠ b
theorem Inv.fpOk {X : Cx} {pins : List (Addr × Obj)} {σ : St} {H H' : Hp} {s : Shared} {b : Addr} (I : Inv X pins σ H s) (hb : s.heap.objs.size ≤ b) (hn : H' b = none) : FpOk X pins H' b := by
  refine ⟨hn, Nat.ne_of_gt (Nat.lt_of_lt_of_le I.lt hb), I.nofs hb, .inr (Nat.le_trans I.sz hb), fun x c e z => ?_, fun p hp z => ?_⟩
  · obtain ⟨v, q⟩ := I.cell x c e
    exact absurd (Nat.lt_of_lt_of_le q.lt (by rw [z]; exact hb)) (Nat.lt_irrefl _)
  · exact absurd (Nat.lt_of_lt_of_le (Heap.lt_size (I.pin p hp).1) (by rw [z]; exact hb)) (Nat.lt_irrefl _)
structure Turn (P : Program) (w : World) (K : PySem.W.Frag) (tg : Expr) (J : It) (fp : List Addr) (it : Addr) (tn : Nat → Heap → Prop) : Prop where
  mem : it ∈ fp
  obj : ∀ i h, tn i h → ∀ b ∈ fp, ∃ o, h.get? b = some o ∧ ∀ v, o.data ≠ .cell v
  keep : ∀ i h h', tn i h → (∀ b ∈ fp, ∀ o, h.get? b = some o → h'.get? b = some o) → tn i h'
  item : ∀ (X : Cx), X.prog = P → X.w = w → X.K = K → X.calm = true → ∀ (i : Nat) (pins : List (Addr × Obj)) (s : Shared) (σ : St) (H : Hp) (E : Value → Shared → Prop), Inv X pins σ H s → (∀ b ∈ fp, FpOk X pins H b) → tn i s.heap → J.go i H →
    wpAny (model P w) X.A (pyNext (.ref it)) (fun r s1 => ∃ u, r = some u ∧
      wpAny (model P w) X.A (letOwnedTupleGo tg (.ref it) u) (fun _ s2 => ∃ x H', Inv X pins σ H' s2 ∧ RelV x u ∧ J.yld i H x H' ∧ tn (i + 1) s2.heap ∧ ∀ b ∈ fp, H' b = none) E s1) E s
  done : ∀ (X : Cx), X.prog = P → X.w = w → X.K = K → X.calm = true → ∀ (i : Nat) (pins : List (Addr × Obj)) (s : Shared) (σ : St) (H : Hp) (E : Value → Shared → Prop), Inv X pins σ H s → (∀ b ∈ fp, FpOk X pins H b) → tn i s.heap → J.stop i H →
    wpAny (model P w) X.A (pyNext (.ref it)) (fun r s1 => r = none ∧ Inv X pins σ H s1) E s
  self : ∀ (A : Around) (i : Nat) (s : Shared) (Q : Value → Shared → Prop) (E : Value → Shared → Prop), tn i s.heap → Q (.ref it) s → wpAny (model P w) A (pyIter (.ref it)) Q E s
abbrev TI := St → Hp → (It → Hp → Prop) → Prop
def PIE (X : Cx) (pins : List (Addr × Obj)) (σ : St) (tg : Expr) (R : It → Hp → Prop) (itv : Value) (s2 : Shared) : Prop :=
  ∃ (it : Addr) (fp : List Addr) (tn : Nat → Heap → Prop) (J : It) (H' : Hp), itv = .ref it ∧ Inv X pins σ H' s2 ∧ Turn X.prog X.w X.K tg J fp it tn ∧ tn 0 s2.heap ∧ (∀ b ∈ fp, FpOk X pins H' b) ∧ R J H'
def PI (X : Cx) (tg iter : Expr) (wi : TI) : Prop :=
  ∀ (pins : List (Addr × Obj)) (s : Shared) (σ : St) (H : Hp) (R : It → Hp → Prop), Inv X pins σ H s → wi σ H R →
    wpAny (model X.prog X.w) X.A (eval iter X.env) (fun v s1 => wpAny (model X.prog X.w) X.A (pyIter v) (PIE X pins σ tg R) X.xe s1) X.xe s
theorem go_of {M : Model} {A : Around} {E : Value → Shared → Prop} {s : Shared} {tg : Expr} {it : Addr} {u : Value} {o : Obj} {n : String} {vs : Array Value} {Q : Unit → Shared → Prop} (ho : s.heap.get? it = some o) (hc : o.cls = .type n) (hd : o.data = .fields vs)
    (hn : ["enumerate", "zip", "dict_itemiterator", "dict_reverseitemiterator", "odict_iterator", "itertools.zip_longest", "itertools.pairwise"].contains n = false) (hQ : Q () s) : wpAny M A (letOwnedTupleGo tg (.ref it) u) Q E s := by
  unfold letOwnedTupleGo
  cases tg <;> first
    | exact wpAny_pure hQ
    | (cases u <;> first
        | exact wpAny_pure hQ
        | (refine wpAny_bind (wpAny_load ho ?_)
           rw [hc, hd]
           show wpAny M A (if (["enumerate", "zip", "dict_itemiterator", "dict_reverseitemiterator", "odict_iterator", "itertools.zip_longest", "itertools.pairwise"].contains n && vs[0]? == some (rawInt _)) = true then _ else _) Q E s
           rw [if_neg (by intro h; rw [hn, Bool.false_and] at h; cases h)]
           exact wpAny_pure hQ))
def Itl (K : PySem.W.Frag) (a : Addr) : It :=
  ⟨fun i H => ∃ xs x, SqL K H a xs ∧ xs[i]? = some x, fun i H x H' => H' = H ∧ ∀ xs, SqL K H a xs → xs[i]? = some x, fun i H => ∃ xs, SqL K H a xs ∧ xs.length ≤ i⟩
def Itr (lo : Int) (n : Nat) : It := ⟨fun i _ => i < n, fun i H x H' => H' = H ∧ x = .int (lo + i), fun i _ => n ≤ i⟩
theorem turn_list {P : Program} {w : World} {K : PySem.W.Frag} {tg : Expr} (a it : Addr) : Turn P w K tg (Itl K a) [it] it (fun i h => h.IsListIter it a i) where
  mem := by simp
  obj := fun i h st b hb => by
    have e : b = it := by simpa using hb
    subst e
    obtain ⟨o, e, c, d⟩ := st
    exact ⟨o, e, fun v z => by rw [d] at z; cases z⟩
  keep := fun i h h' st k => st.at fun o e => k it (by simp) o e
  item := by
    intro X hP hw hK hc i pins s σ H E I hf st hg
    subst hP hw hK
    obtain ⟨xs, x, hq, hx⟩ := hg
    obtain ⟨its, rv, p, hz⟩ := I.list hq
    obtain ⟨u, hu, ru⟩ := rv.get hx
    obtain ⟨f0, f1, f2, f3, f4, f5⟩ := hf it (by simp)
    refine wpAny_pyNext_list_item st p.isList (x := u) (by simpa using hu) fun h' st' sb => ?_
    have I1 : Inv X pins σ H { s with heap := h' } := I.turned (t' := s.toks) (fun b o hb e => (sb.2 b hb).trans e) f0 f1 f3 f4 f5
    obtain ⟨o, e, c, d⟩ := id st'
    exact ⟨u, rfl, go_of (s := { s with heap := h' }) e c d (by decide) ⟨x, H, I1, ru, ⟨rfl, fun ys hy => by rw [I.list_inj hy hq]; exact hx⟩, st', fun b hb => (hf b hb).1⟩⟩
  done := by
    intro X hP hw hK hc i pins s σ H E I hf st hg
    subst hP hw hK
    obtain ⟨xs, hq, hx⟩ := hg
    obtain ⟨its, rv, p, hz⟩ := I.list hq
    obtain ⟨f0, f1, f2, f3, f4, f5⟩ := hf it (by simp)
    have hl := rv.length
    exact wpAny_pyNext_list_end (I.ok.hd hc) st p.isList (by simp; omega) fun h' eb => ⟨rfl, I.turned (t' := s.toks) (fun b o hb e => eb b o hb e) f0 f1 f3 f4 f5⟩
  self := fun _ _ _ _ _ st h => wpAny_pyIter_listiter st h
theorem turn_range {P : Program} {w : World} {K : PySem.W.Frag} {tg : Expr} (it : Addr) (lo : Int) (n : Nat) : Turn P w K tg (Itr lo n) [it] it (fun i h => IsRangeIter h it (lo + (i : Nat) * 1) ((n : Int) - (i : Nat)) 1) where
  mem := by simp
  obj := fun i h st b hb => by
    have e : b = it := by simpa using hb
    subst e
    exact ⟨_, st, fun v z => by
      have z' : Data.fields _ = Data.cell v := z
      cases z'⟩
  keep := fun i h h' st k => k it (by simp) _ st
  item := by
    intro X hP hw hK hc i pins s σ H E I hf st hg
    subst hP hw hK
    obtain ⟨f0, f1, f2, f3, f4, f5⟩ := hf it (by simp)
    have W := Walks.range (prog := X.prog) (w := X.w) (I.ok.hd hc) it lo 1 n
    refine W.item i s _ _ hg st fun v h' tk hv st' kk => ?_
    obtain ⟨t, rfl⟩ := hv
    have I1 : Inv X pins σ H { s with heap := h', toks := tk } := I.turned (fun b o hb e => kk b o (by simpa using hb) e) f0 f1 f3 f4 f5
    refine ⟨_, rfl, go_of (s := { s with heap := h', toks := tk }) (n := "range_iterator") st' rfl rfl (by decide) ⟨.int (lo + i), H, I1, ⟨t, ?_⟩, ⟨rfl, rfl⟩, st', fun b hb => (hf b hb).1⟩⟩
    rw [Int.mul_one]
  done := by
    intro X hP hw hK hc i pins s σ H E I hf st hg
    subst hP hw hK
    obtain ⟨f0, f1, f2, f3, f4, f5⟩ := hf it (by simp)
    exact wpAny_pyNext_range_end (I.ok.hd hc) st (by have : n ≤ i := hg; omega) fun h' eb => ⟨rfl, I.turned (t' := s.toks) (fun b o hb e => eb b o hb e) f0 f1 f3 f4 f5⟩
  self := fun _ _ _ _ _ st h => wpAny_pyIter_rangeiter st h
end L2
namespace L2
open PySem PySem.Spec PyProof.Rows
section
variable {X : Cx} {tg : Expr}
def iList (K : PySem.W.Frag) (tl : TE) : TI := fun σ H R => tl σ H fun x H1 => ∃ a, x = .ref a ∧ (∃ xs, SqL K H1 a xs) ∧ R (Itl K a) H1
theorem pi_list {l : Expr} {tl : TE} (hl : PE X l tl) : PI X tg l (iList X.K tl) := by
  intro pins s σ H R I h
  refine thn (hl pins s σ H _ I h) fun v s1 ⟨x, H1, I1, r1, q1⟩ => ?_
  obtain ⟨a, e, ⟨xs, hq⟩, q⟩ := q1
  subst e
  cases r1
  obtain ⟨its, rv, p, hz⟩ := I1.list hq
  refine wpAny_pyIter_list p.isList ?_
  refine ⟨s1.heap.objs.size, [s1.heap.objs.size], _, _, H1, rfl, I1.kept (t' := s1.toks) fun b o e => Heap.get?_push_of_some _ e, turn_list a _, ⟨_, Heap.get?_push_size _ rfl, rfl, rfl⟩, fun b hb => ?_, q⟩
  have e : b = s1.heap.objs.size := by simpa using hb
  subst e
  exact I1.fpOk (Nat.le_refl _) (I1.hok.fresh (Nat.le_refl _))
theorem range_it {pins : List (Addr × Obj)} {σ : St} {H : Hp} {s : Shared} {R : It → Hp → Prop} {E : Value → Shared → Prop} {lo hi : Int} {t u v : Tok} {tk : Nat} (I : Inv X pins σ H s) (h1 : -(2 ^ 62) ≤ lo) (h2 : lo < 2 ^ 62) (h3 : -(2 ^ 62) ≤ hi) (h4 : hi < 2 ^ 62)
    (q : R (Itr lo (hi - lo).toNat) H) : wpAny (model X.prog X.w) X.A (pyIter (.ref s.heap.objs.size)) (PIE X pins σ tg R) E { s with heap := s.heap.push { cls := .type "range", data := .fields #[.int lo t, .int hi u, .int 1 v] }, toks := tk } := by
  refine wpAny_pyIter_range (IsRange.new ..) (small_one h1 h2 h3 h4) ?_
  have I1 : Inv X pins σ H { s with heap := s.heap.push { cls := .type "range", data := .fields #[.int lo t, .int hi u, .int 1 v] }, toks := tk } := I.kept fun b o e => Heap.get?_push_of_some _ e
  refine ⟨(s.heap.push { cls := .type "range", data := .fields #[.int lo t, .int hi u, .int 1 v] }).objs.size, [(s.heap.push { cls := .type "range", data := .fields #[.int lo t, .int hi u, .int 1 v] }).objs.size], _, _, H, rfl,
    I1.kept (t' := tk) fun b o e => Heap.get?_push_of_some _ e, turn_range _ lo (hi - lo).toNat, ?_, fun b hb => ?_, q⟩
  · have e1 : lo + ((0 : Nat) : Int) * 1 = lo := by simp
    have e2 : (((hi - lo).toNat : Nat) : Int) - ((0 : Nat) : Int) = Builtin.Range.rangeSize lo hi 1 := by rw [rangeSize_one]; split <;> omega
    show IsRangeIter _ _ (lo + ((0 : Nat) : Int) * 1) ((((hi - lo).toNat : Nat) : Int) - ((0 : Nat) : Int)) 1
    rw [e1, e2]
    exact Heap.get?_push_size _ rfl
  · have e : b = (s.heap.push { cls := .type "range", data := .fields #[.int lo t, .int hi u, .int 1 v] }).objs.size := by simpa using hb
    subst e
    exact I1.fpOk (Nat.le_refl _) (I1.hok.fresh (Nat.le_refl _))
def iRng1 (ta : TA) : TI := fun σ H R => ta σ H fun vs H1 => ∃ j : Int, vs = [.int j] ∧ -(2 ^ 62) ≤ j ∧ j < 2 ^ 62 ∧ R (Itr 0 j.toNat) H1
theorem pi_range1 {a : Expr} {ta : TA} {p pos : Pos} (hg : Gl X "range") (hm : X.mg "range" = none) (ha : PA X [a] ta) (hs : starEach [a] X.env = [(false, eval a X.env)] := by rfl) : PI X tg (.Call (.Name "range" p) [a] [] pos) (iRng1 ta) := by
  intro pins s σ H R I h
  refine Call_ (ld_blt I hg hm boot_range (PyProof.Rows.callWith_type1 (thn (ha pos pins s σ H _ I h) fun us s1 ⟨vs, H1, I1, r1, q1⟩ => ?_) hs rfl))
  obtain ⟨j, e, q1, q2, q⟩ := q1
  subst e
  cases r1 with
  | cons r rr =>
    cases rr
    obtain ⟨t, rfl⟩ := r
    exact call_range_1 (range_it I1 (by omega) (by omega) q1 q2 (by simpa using q))
def tFor (wi : TI) (g : TG) (tb : TS) : TS := fun D σ H => wi σ H fun J H1 => ∃ W : Nat → Nat → St → Hp → Prop, (∃ m, W 0 m σ H1) ∧ ∀ i m σ H, W i m σ H →
  (J.stop i H ∧ D.nx σ H) ∨ (J.go i H ∧ ∃ N : St → Hp → Prop, (∀ σ' H', N σ' H' → ∃ m', m' < m ∧ W (i + 1) m' σ' H') ∧ ∀ x H', J.yld i H x H' → g x σ H' fun σ2 H2 => tb { D with nx := N, ct := N, bk := D.nx } σ2 H2)
def pinsAt (fp : List Addr) (h : Heap) : List (Addr × Obj) := fp.filterMap fun b => (h.get? b).map fun o => (b, o)
theorem mem_pinsAt {fp : List Addr} {h : Heap} {b : Addr} {o : Obj} (hb : b ∈ fp) (e : h.get? b = some o) : (b, o) ∈ pinsAt fp h := List.mem_filterMap.mpr ⟨b, hb, by rw [e]; rfl⟩
theorem of_pinsAt {fp : List Addr} {h : Heap} {p : Addr × Obj} (hp : p ∈ pinsAt fp h) : p.1 ∈ fp ∧ h.get? p.1 = some p.2 := by
  obtain ⟨b, hb, e⟩ := List.mem_filterMap.mp hp
  cases q : h.get? b with
  | none => rw [q] at e; cases e
  | some o =>
    rw [q] at e
    have e' : (b, o) = p := Option.some.inj e
    subst e'
    exact ⟨hb, q⟩
theorem Inv.pinned {pins : List (Addr × Obj)} {σ : St} {H : Hp} {s : Shared} {fp : List Addr} (I : Inv X pins σ H s) (hf : ∀ b ∈ fp, FpOk X pins H b) (ho : ∀ b ∈ fp, ∃ o, s.heap.get? b = some o ∧ ∀ v, o.data ≠ .cell v) : Inv X (pins ++ pinsAt fp s.heap) σ H s :=
  I.pins_of fun p hp => (List.mem_append.mp hp).elim (fun z => I.pin p (List.mem_append_right _ z)) fun z => by
    obtain ⟨hb, e⟩ := of_pinsAt z
    obtain ⟨f0, f1, f2, _⟩ := hf p.1 hb
    obtain ⟨o, e', d⟩ := ho p.1 hb
    rw [e] at e'; cases e'
    exact ⟨e, f0, f1, f2, d⟩
theorem Inv.unpinned {pins pl : List (Addr × Obj)} {σ : St} {H : Hp} {s : Shared} (I : Inv X (pins ++ pl) σ H s) : Inv X pins σ H s := I.pins_of fun p hp => I.pin p (List.mem_append_right _ (List.mem_append_left _ hp))
theorem ps_for {iter : Expr} {body : List Stmt} {wi : TI} {g : TG} {tb : TS} {pos : Pos} (hp : PassesOwn (model X.prog X.w) X.A X.env X.xe) (hc : X.calm = true) (hi : PI X tg iter wi) (hg : PG X tg g) (hb : PSs X body tb)
    (hs : ∀ x, foldedSetIterable iter X.env x = pure x := by intro _; rfl) : PS X (.For tg iter body [] pos) (tFor wi g tb) := by
  intro pins s σ H D I h
  refine wpAny_For (thn (hi pins s σ H _ I h) fun v s1 h1 => thn h1 fun itv s2 h2 => ?_) hs
  obtain ⟨it, fp, tn, J, H2, e, I2, T, st2, f2, W, ⟨m0, w0⟩, turn⟩ := h2
  subst e
  have stat : ∀ {H' : Hp}, (∀ b ∈ fp, H' b = none) → ∀ b ∈ fp, FpOk X pins H' b := fun hn b hb => ⟨hn b hb, (f2 b hb).2⟩
  refine codeAny_forLoop_any (fun n s' => ∃ i σ' H', Inv X pins σ' H' s' ∧ tn i s'.heap ∧ (∀ b ∈ fp, H' b = none) ∧ W i n σ' H') ?_ m0 ⟨0, σ, H2, I2, st2, fun b hb => (f2 b hb).1, w0⟩
  rintro n s3 ⟨i, σ3, H3, I3, st3, fr3, w3⟩
  rcases turn i n σ3 H3 w3 with ⟨stop, qn⟩ | ⟨go, N, hN, step⟩
  · refine wpAny_passesOwn hp (thn (T.done X rfl rfl rfl hc i pins s3 σ3 H3 X.xe I3 (stat fr3) st3 stop) fun r s4 ⟨hr, I4⟩ => ?_)
    subst hr
    exact wpAny_execs_nil ⟨σ3, H3, I4, qn⟩
  · refine wpAny_passesOwn hp (thn (T.item X rfl rfl rfl hc i pins s3 σ3 H3 X.xe I3 (stat fr3) st3 go) fun r s4 ⟨u, hr, h4⟩ => ?_)
    subst hr
    refine wpAny_passesOwn hp (thn h4 fun _ s5 ⟨x, H5, I5, r5, y5, st5, fr5⟩ => ?_)
    have I5' := I5.pinned (stat fr5) (T.obj _ _ st5)
    refine wpAny_passesOwn hp (thn (hg _ s5 σ3 H5 x u _ I5' r5 (step x H5 y5)) fun _ s6 ⟨σ6, H6, I6, q6⟩ => ?_)
    refine wpAny_passesOwn hp (thn (hb _ s6 σ6 H6 _ I6 q6) fun f s7 q7 => ?_)
    have again : ∀ {σ7 : St} {H7 : Hp}, Inv X (pins ++ pinsAt fp s5.heap) σ7 H7 s7 → N σ7 H7 → ∃ m, m < n ∧ ∃ i σ' H', Inv X pins σ' H' s7 ∧ tn i s7.heap ∧ (∀ b ∈ fp, H' b = none) ∧ W i m σ' H' := fun {σ7 H7} I7 n7 => by
      obtain ⟨m', hm, w7⟩ := hN σ7 H7 n7
      refine ⟨m', hm, i + 1, σ7, H7, I7.unpinned, T.keep _ _ _ st5 fun b hb o e => (I7.pin (b, o) (List.mem_append_right _ (List.mem_append_right _ (mem_pinsAt hb e)))).1, fun b hb => ?_, w7⟩
      obtain ⟨o, e, d⟩ := T.obj _ _ st5 b hb
      exact (I7.pin (b, o) (List.mem_append_right _ (List.mem_append_right _ (mem_pinsAt hb e)))).2.1
    cases f with
    | next => obtain ⟨σ7, H7, I7, n7⟩ := q7; exact again I7 n7
    | cont => obtain ⟨σ7, H7, I7, n7⟩ := q7; exact again I7 n7
    | brk => obtain ⟨σ7, H7, I7, q7⟩ := q7; exact ⟨σ7, H7, I7.unpinned, q7⟩
    | ret v => obtain ⟨x7, σ7, H7, I7, r7, q7⟩ := q7; exact ⟨x7, σ7, H7, I7.unpinned, r7, q7⟩
end
theorem for_list {K : PySem.W.Frag} {a : Addr} {xs : List V} {g : TG} {tb : TS} {D : Ends} {σ : St} {H : Hp} (Pv : Nat → St → Hp → Prop) (h0 : Pv 0 σ H) (hl : ∀ i σ H, i ≤ xs.length → Pv i σ H → SqL K H a xs)
    (hs : ∀ i x σ H, xs[i]? = some x → Pv i σ H → g x σ H fun σ2 H2 => tb { D with nx := Pv (i + 1), ct := Pv (i + 1), bk := D.nx } σ2 H2) (hd : ∀ σ H, Pv xs.length σ H → D.nx σ H) :
    ∃ W : Nat → Nat → St → Hp → Prop, (∃ m, W 0 m σ H) ∧ ∀ i m σ H, W i m σ H →
      ((Itl K a).stop i H ∧ D.nx σ H) ∨ ((Itl K a).go i H ∧ ∃ N : St → Hp → Prop, (∀ σ' H', N σ' H' → ∃ m', m' < m ∧ W (i + 1) m' σ' H') ∧ ∀ x H', (Itl K a).yld i H x H' → g x σ H' fun σ2 H2 => tb { D with nx := N, ct := N, bk := D.nx } σ2 H2) := by
  refine ⟨fun i m σ H => m = xs.length - i ∧ i ≤ xs.length ∧ Pv i σ H, ⟨xs.length, by simp, Nat.zero_le _, h0⟩, ?_⟩
  rintro i m σ H ⟨rfl, hi, p⟩
  have q := hl i σ H hi p
  by_cases hlt : i < xs.length
  · refine .inr ⟨⟨xs, xs[i], q, by simp [hlt]⟩, Pv (i + 1), fun σ' H' p' => ⟨xs.length - (i + 1), by omega, rfl, hlt, p'⟩, fun x H' y => ?_⟩
    obtain ⟨e, y⟩ := y
    subst e
    exact hs i x σ _ (y xs q) p
  · have e : i = xs.length := by omega
    subst e
    exact .inl ⟨⟨xs, q, Nat.le_refl _⟩, hd σ H p⟩
theorem for_range {lo : Int} {n : Nat} {g : TG} {tb : TS} {D : Ends} {σ : St} {H : Hp} (Pv : Nat → St → Hp → Prop) (h0 : Pv 0 σ H)
    (hs : ∀ i σ H, i < n → Pv i σ H → g (.int (lo + i)) σ H fun σ2 H2 => tb { D with nx := Pv (i + 1), ct := Pv (i + 1), bk := D.nx } σ2 H2) (hd : ∀ σ H, Pv n σ H → D.nx σ H) :
    ∃ W : Nat → Nat → St → Hp → Prop, (∃ m, W 0 m σ H) ∧ ∀ i m σ H, W i m σ H →
      ((Itr lo n).stop i H ∧ D.nx σ H) ∨ ((Itr lo n).go i H ∧ ∃ N : St → Hp → Prop, (∀ σ' H', N σ' H' → ∃ m', m' < m ∧ W (i + 1) m' σ' H') ∧ ∀ x H', (Itr lo n).yld i H x H' → g x σ H' fun σ2 H2 => tb { D with nx := N, ct := N, bk := D.nx } σ2 H2) := by
  refine ⟨fun i m σ H => m = n - i ∧ i ≤ n ∧ Pv i σ H, ⟨n, by simp, Nat.zero_le _, h0⟩, ?_⟩
  rintro i m σ H ⟨rfl, hi, p⟩
  by_cases hlt : i < n
  · refine .inr ⟨hlt, Pv (i + 1), fun σ' H' p' => ⟨n - (i + 1), by omega, rfl, hlt, p'⟩, fun x H' y => ?_⟩
    obtain ⟨e, y⟩ := y
    subst e y
    exact hs i σ _ hlt p
  · have e : i = n := by omega
    subst e
    exact .inl ⟨Nat.le_refl _, hd σ H p⟩
end L2
namespace L2
open PySem PySem.Spec PyProof.Rows
abbrev R2 := V → V → Hp → VK → Prop
def OpR (X : Cx) (f : Value → Value → Sem Value) (r : R2) : Prop :=
  ∀ (pins : List (Addr × Obj)) (s : Shared) (σ : St) (H : Hp) (x y : V) (v u : Value) (Q : VK), Inv X pins σ H s → RelV x v → RelV y u → r x y H Q →
    wpAny (model X.prog X.w) X.A (f v u) (EP X pins σ Q) X.xe s
def UnR (X : Cx) (f : Value → Sem Value) (r : V → Hp → VK → Prop) : Prop :=
  ∀ (pins : List (Addr × Obj)) (s : Shared) (σ : St) (H : Hp) (x : V) (v : Value) (Q : VK), Inv X pins σ H s → RelV x v → r x H Q →
    wpAny (model X.prog X.w) X.A (f v) (EP X pins σ Q) X.xe s
def CallR (X : Cx) (f : Value) (r : List V → Hp → VK → Prop) : Prop :=
  ∀ (pins : List (Addr × Obj)) (s : Shared) (σ : St) (H : Hp) (xs : List V) (us : List Value) (Q : VK), Inv X pins σ H s → Vals xs us → r xs H Q →
    wpAny (model X.prog X.w) X.A (call f us) (EP X pins σ Q) X.xe s
def TruR (X : Cx) (r : V → Hp → (Bool → Hp → Prop) → Prop) : Prop :=
  ∀ (pins : List (Addr × Obj)) (s : Shared) (σ : St) (H : Hp) (x : V) (v : Value) (Q : Bool → Hp → Prop), Inv X pins σ H s → RelV x v → r x H Q →
    wpAny (model X.prog X.w) X.A (truthy v) (TP X pins σ Q) X.xe s
def tOp (r : R2) (ta tb : TE) : TE := fun σ H Q => ta σ H fun x H1 => tb σ H1 fun y H2 => r x y H2 Q
def tUn (r : V → Hp → VK → Prop) (ta : TE) : TE := fun σ H Q => ta σ H fun x H1 => r x H1 Q
def rI (C : Int → Int → Prop) (g : Int → Int → V) : R2 := fun x y H Q => ∃ i j, x = .int i ∧ y = .int j ∧ C i j ∧ Q (g i j) H
def rI0 (g : Int → Int → V) : R2 := fun x y H Q => ∃ i j, x = .int i ∧ y = .int j ∧ Q (g i j) H
def rU (g : Int → V) : V → Hp → VK → Prop := fun x H Q => ∃ i, x = .int i ∧ Q (g i) H
section
variable {X : Cx} {a b c : Expr} {ta tb tc : TE} {pos : Pos}
theorem binT (ha : PE X a ta) (hb : PE X b tb) {pins : List (Addr × Obj)} {s : Shared} {σ : St} {H : Hp} {R : V → V → Hp → Prop} (I : Inv X pins σ H s)
    (h : ta σ H fun x H1 => tb σ H1 fun y H2 => R x y H2) {Q : Value → Shared → Prop} {f : Value → Value → Sem Value}
    (hf : ∀ v u s2 x y H2, Inv X pins σ H2 s2 → RelV x v → RelV y u → R x y H2 → wpAny (model X.prog X.w) X.A (f v u) Q X.xe s2) :
    wpAny (model X.prog X.w) X.A (eval a X.env) (fun v s₁ => wpAny (model X.prog X.w) X.A (eval b X.env) (fun u s₂ => wpAny (model X.prog X.w) X.A (f v u) Q X.xe s₂) X.xe s₁) X.xe s := by
  refine thn (ha pins s σ H _ I h) fun v s1 ⟨x, H1, I1, r1, q1⟩ => ?_
  refine thn (hb pins s1 σ H1 _ I1 q1) fun u s2 ⟨y, H2, I2, r2, q2⟩ => ?_
  exact hf v u s2 x y H2 I2 r1 r2 q2
theorem pe_op {op : Operator} {r : R2} (ho : OpR X (binaryOp op) r) (ha : PE X a ta) (hb : PE X b tb) : PE X (.BinOp a op b pos) (tOp r ta tb) := by
  intro pins s σ H Q I h
  exact wpAny_BinOp (binT ha hb I h fun v u s2 x y H2 I2 rx ry q => ho pins s2 σ H2 x y v u Q I2 rx ry q)
theorem pe_un {op : UnaryOp} {r : V → Hp → VK → Prop} (ho : UnR X (unaryOp op) r) (ha : PE X a ta) : PE X (.UnaryOp op a pos) (tUn r ta) := by
  intro pins s σ H Q I h
  exact UnaryOp_ (thn (ha pins s σ H _ I h) fun v s1 ⟨x, H1, I1, r1, q1⟩ => ho pins s1 σ H1 x v Q I1 r1 q1)
theorem opI {f : Value → Value → Sem Value} {C : Int → Int → Prop} {g : Int → Int → Int}
    (rule : ∀ (i j : Int) (t u : Tok) (s : Shared) (Q : Value → Shared → Prop) (E : Value → Shared → Prop), C i j → Q (.int (g i j) s.toks) { s with toks := s.toks + 1 } → wpAny (model X.prog X.w) X.A (f (.int i t) (.int j u)) Q E s) :
    OpR X f (rI C fun i j => .int (g i j)) := by
  intro pins s σ H x y v u Q I rx ry h
  obtain ⟨i, j, rfl, rfl, hc, q⟩ := h
  obtain ⟨t, rfl⟩ := rx
  obtain ⟨t', rfl⟩ := ry
  exact rule i j t t' s _ _ hc ⟨.int (g i j), H, I.tok _, ⟨_, rfl⟩, q⟩
theorem opI0 {f : Value → Value → Sem Value} {g : Int → Int → Int}
    (rule : ∀ (i j : Int) (t u : Tok) (s : Shared) (Q : Value → Shared → Prop) (E : Value → Shared → Prop), Q (.int (g i j) s.toks) { s with toks := s.toks + 1 } → wpAny (model X.prog X.w) X.A (f (.int i t) (.int j u)) Q E s) :
    OpR X f (rI0 fun i j => .int (g i j)) := by
  intro pins s σ H x y v u Q I rx ry h
  obtain ⟨i, j, rfl, rfl, q⟩ := h
  obtain ⟨t, rfl⟩ := rx
  obtain ⟨t', rfl⟩ := ry
  exact rule i j t t' s _ _ ⟨.int (g i j), H, I.tok _, ⟨_, rfl⟩, q⟩
theorem opB0 {f : Value → Value → Sem Value} {g : Int → Int → Bool}
    (rule : ∀ (i j : Int) (t u : Tok) (s : Shared) (Q : Value → Shared → Prop) (E : Value → Shared → Prop), Q (.bool (g i j)) s → wpAny (model X.prog X.w) X.A (f (.int i t) (.int j u)) Q E s) :
    OpR X f (rI0 fun i j => .bl (g i j)) := by
  intro pins s σ H x y v u Q I rx ry h
  obtain ⟨i, j, rfl, rfl, q⟩ := h
  obtain ⟨t, rfl⟩ := rx
  obtain ⟨t', rfl⟩ := ry
  exact rule i j t t' s _ _ ⟨.bl (g i j), H, I, rfl, q⟩
def CDiv (i j : Int) : Prop := 0 < j ∧ j < 1073741824
def CMul (i j : Int) : Prop := (-(2 ^ 64) < i ∧ i < 2 ^ 64) ∨ (-(2 ^ 64) < j ∧ j < 2 ^ 64)
theorem CMul.ok {i j : Int} (h : CMul i j) : IntMulOk i j := by
  rcases h with ⟨h1, h2⟩ | ⟨h1, h2⟩
  · exact .of_left (intBits_le_64 h1 h2)
  · exact .of_right (intBits_le_64 h1 h2)
theorem op_add : OpR X (binaryOp .Add) (rI0 fun i j => .int (i + j)) := opI0 fun _ _ _ _ _ _ _ q => add_int q
theorem op_sub : OpR X (binaryOp .Sub) (rI0 fun i j => .int (i - j)) := opI0 fun _ _ _ _ _ _ _ q => sub_int q
theorem op_fdiv : OpR X (binaryOp .FloorDiv) (rI CDiv fun i j => .int (i / j)) := opI fun i j _ _ _ _ _ hc q => by
  have h1 : (0 : Int) < j := hc.1
  have h2 : j < 1073741824 := hc.2
  exact floordiv_int (by omega) (by rw [Int.fdiv_eq_ediv_of_nonneg i (by omega)]; exact q) (.inl (PyProof.noPylong_small (by omega)))
theorem op_mod : OpR X (binaryOp .Mod) (rI (fun _ j => 0 < j) fun i j => .int (i % j)) := opI fun i j _ _ _ _ _ hc q => by
  have h1 : (0 : Int) < j := hc
  exact mod_int' (by omega) (by rw [Int.fmod_eq_emod_of_nonneg i (by omega)]; exact q)
theorem unI {f : Value → Sem Value} {g : Int → Int}
    (rule : ∀ (i : Int) (t : Tok) (s : Shared) (Q : Value → Shared → Prop) (E : Value → Shared → Prop), Q (.int (g i) s.toks) { s with toks := s.toks + 1 } → wpAny (model X.prog X.w) X.A (f (.int i t)) Q E s) :
    UnR X f (rU fun i => .int (g i)) := by
  intro pins s σ H x v Q I rx h
  obtain ⟨i, rfl, q⟩ := h
  obtain ⟨t, rfl⟩ := rx
  exact rule i t s _ _ ⟨.int (g i), H, I.tok _, ⟨_, rfl⟩, q⟩
theorem un_neg : UnR X (unaryOp .USub) (rU fun i => .int (-i)) := unI fun _ _ _ _ _ q => neg_int q
end
def scal : V → V → Bool
  | .non, .non => true | .non, .int _ => true | .int _, .non => true | .non, .bl _ => true | .bl _, .non => true | .non, .str _ => true | .str _, .non => true
  | .int _, .int _ => true | .bl _, .bl _ => true | .str _, .str _ => true | .byt _, .byt _ => true
  | .int _, .str _ => true | .str _, .int _ => true | .bl _, .str _ => true | .str _, .bl _ => true
  | _, _ => false
def rEq : R2 := fun x y H Q => scal x y = true ∧ Q (.bl (decide (x = y))) H
def rNe : R2 := fun x y H Q => scal x y = true ∧ Q (.bl (!decide (x = y))) H
theorem dec_int {i j : Int} : decide (V.int i = V.int j) = (i == j) := by
  rw [Bool.eq_iff_iff]
  simp
theorem dec_bl {i j : Bool} : decide (V.bl i = V.bl j) = (i == j) := by
  rw [Bool.eq_iff_iff]
  simp
theorem dec_str {i j : Str} : decide (V.str i = V.str j) = (i == j) := by
  rw [Bool.eq_iff_iff]
  simp
theorem dec_byt {i j : Array UInt8} : decide (V.byt i = V.byt j) = (i.toList == j.toList) := by
  rw [Bool.eq_iff_iff]
  cases i
  cases j
  simp
section
variable {X : Cx} {a b c : Expr} {ta tb tc : TE} {pos : Pos}
theorem fin_bl {pins : List (Addr × Obj)} {σ : St} {H : Hp} {s : Shared} {Q : VK} {k k' : Bool} (I : Inv X pins σ H s) (q : Q (.bl k) H) (e : k = k') : EP X pins σ Q (.bool k') s := by
  subst e
  exact ⟨.bl k, H, I, rfl, q⟩
theorem op_eq : OpR X (compareOp .Eq) rEq := by
  intro pins s σ H x y v u Q I rx ry h
  obtain ⟨hs, q⟩ := h
  cases x with
  | non =>
    cases rx
    cases y with
    | non => cases ry; exact PySem.EqNone.eq_none_none (fin_bl I q (by simp))
    | bl j => cases ry; exact PySem.EqNone.eq_none_bool (fin_bl I q (by simp))
    | int j => obtain ⟨t', rfl⟩ := ry; exact PySem.EqNone.eq_none_int (fin_bl I q (by simp))
    | str j => obtain ⟨t', rfl⟩ := ry; exact PySem.EqNone.eq_none_str (fin_bl I q (by simp))
    | _ => exact absurd (show false = true from hs) Bool.false_ne_true
  | bl i =>
    cases rx
    cases y with
    | non => cases ry; exact PySem.EqNone.eq_bool_none (fin_bl I q (by simp))
    | bl j => cases ry; exact eq_bool (fin_bl I q dec_bl)
    | str j => obtain ⟨t', rfl⟩ := ry; exact PySem.EqMixed.eq_bool_str (fin_bl I q (by simp))
    | _ => exact absurd (show false = true from hs) Bool.false_ne_true
  | int i =>
    obtain ⟨t, rfl⟩ := rx
    cases y with
    | non => cases ry; exact PySem.EqNone.eq_int_none (fin_bl I q (by simp))
    | int j => obtain ⟨t', rfl⟩ := ry; exact eq_int (fin_bl I q dec_int)
    | str j => obtain ⟨t', rfl⟩ := ry; exact PySem.EqMixed.eq_int_str (fin_bl I q (by simp))
    | _ => exact absurd (show false = true from hs) Bool.false_ne_true
  | str i =>
    obtain ⟨t, rfl⟩ := rx
    cases y with
    | non => cases ry; exact PySem.EqNone.eq_str_none (fin_bl I q (by simp))
    | bl j => cases ry; exact PySem.EqMixed.eq_str_bool (fin_bl I q (by simp))
    | int j => obtain ⟨t', rfl⟩ := ry; exact PySem.EqMixed.eq_str_int (fin_bl I q (by simp))
    | str j => obtain ⟨t', rfl⟩ := ry; exact eq_str (fin_bl I q dec_str)
    | _ => exact absurd (show false = true from hs) Bool.false_ne_true
  | byt i =>
    obtain ⟨t, rfl⟩ := rx
    cases y with
    | byt j => obtain ⟨t', rfl⟩ := ry; exact PySem.W.eq_bytes (fin_bl I q dec_byt)
    | _ => exact absurd (show false = true from hs) Bool.false_ne_true
  | _ => cases y <;> exact absurd (show false = true from hs) Bool.false_ne_true
theorem op_ne : OpR X (compareOp .NotEq) rNe := by
  intro pins s σ H x y v u Q I rx ry h
  obtain ⟨hs, q⟩ := h
  cases x with
  | non =>
    cases rx
    cases y with
    | non => cases ry; exact PySem.EqNone.ne_none_none (fin_bl I q (by simp))
    | bl j => cases ry; exact PySem.EqNone.ne_none_bool (fin_bl I q (by simp))
    | int j => obtain ⟨t', rfl⟩ := ry; exact PySem.EqNone.ne_none_int (fin_bl I q (by simp))
    | str j => obtain ⟨t', rfl⟩ := ry; exact PySem.EqNone.ne_none_str (fin_bl I q (by simp))
    | _ => exact absurd (show false = true from hs) Bool.false_ne_true
  | bl i =>
    cases rx
    cases y with
    | non => cases ry; exact PySem.EqNone.ne_bool_none (fin_bl I q (by simp))
    | bl j => cases ry; exact ne_bool (fin_bl I q (congrArg not dec_bl))
    | str j => obtain ⟨t', rfl⟩ := ry; exact PySem.EqMixed.ne_bool_str (fin_bl I q (by simp))
    | _ => exact absurd (show false = true from hs) Bool.false_ne_true
  | int i =>
    obtain ⟨t, rfl⟩ := rx
    cases y with
    | non => cases ry; exact PySem.EqNone.ne_int_none (fin_bl I q (by simp))
    | int j => obtain ⟨t', rfl⟩ := ry; exact ne_int (fin_bl I q (congrArg not dec_int))
    | str j => obtain ⟨t', rfl⟩ := ry; exact PySem.EqMixed.ne_int_str (fin_bl I q (by simp))
    | _ => exact absurd (show false = true from hs) Bool.false_ne_true
  | str i =>
    obtain ⟨t, rfl⟩ := rx
    cases y with
    | non => cases ry; exact PySem.EqNone.ne_str_none (fin_bl I q (by simp))
    | bl j => cases ry; exact PySem.EqMixed.ne_str_bool (fin_bl I q (by simp))
    | int j => obtain ⟨t', rfl⟩ := ry; exact PySem.EqMixed.ne_str_int (fin_bl I q (by simp))
    | str j => obtain ⟨t', rfl⟩ := ry; exact ne_str (fin_bl I q (congrArg not dec_str))
    | _ => exact absurd (show false = true from hs) Bool.false_ne_true
  | byt i =>
    obtain ⟨t, rfl⟩ := rx
    cases y with
    | byt j => obtain ⟨t', rfl⟩ := ry; exact PySem.W.ne_bytes (fin_bl I q (congrArg not dec_byt))
    | _ => exact absurd (show false = true from hs) Bool.false_ne_true
  | _ => cases y <;> exact absurd (show false = true from hs) Bool.false_ne_true
theorem op_lt : OpR X (compareOp .Lt) (rI0 fun i j => .bl (decide (i < j))) := opB0 fun _ _ _ _ _ _ _ q => lt_int q
theorem op_gt : OpR X (compareOp .Gt) (rI0 fun i j => .bl (decide (j < i))) := opB0 fun _ _ _ _ _ _ _ q => gt_int q
theorem op_isN : OpR X (compareOp .Is) (fun x y H Q => y = .non ∧ Q (.bl (decide (x = .non))) H) := by
  intro pins s σ H x y v u Q I rx ry h
  obtain ⟨rfl, q⟩ := h
  cases ry
  refine is_none_gen (fin_bl I q ?_)
  cases x <;> first
    | (cases rx; rfl)
    | (obtain ⟨t, rfl⟩ := rx; rfl)
theorem op_notN : OpR X (compareOp .IsNot) (fun x y H Q => y = .non ∧ Q (.bl (!decide (x = .non))) H) := by
  intro pins s σ H x y v u Q I rx ry h
  obtain ⟨rfl, q⟩ := h
  cases ry
  refine isnot_none_gen (fin_bl I q ?_)
  cases x <;> first
    | (cases rx; rfl)
    | (obtain ⟨t, rfl⟩ := rx; rfl)
theorem nomark (b : Expr) {op : CmpOp} (h : op ≠ .In := by decide) (h2 : op ≠ .NotIn := by decide) : behindInMarks op b = false := by
  have e1 : (op == CmpOp.In) = false := by cases op <;> first | rfl | exact absurd rfl h
  have e2 : (op == CmpOp.NotIn) = false := by cases op <;> first | rfl | exact absurd rfl h2
  cases b <;> simp [behindInMarks, e1, e2]
theorem pe_cmpR {op : CmpOp} {r : R2} (ho : OpR X (compareOp op) r) (ha : PE X a ta) (hb : PE X b tb) (hm : behindInMarks op b = false) : PE X (.Compare a [op] [b] pos) (tOp r ta tb) := by
  intro pins s σ H Q I h
  exact wpAny_Compare1 (binT ha hb I h fun v u s2 x y H2 I2 rx ry q => ho pins s2 σ H2 x y v u Q I2 rx ry q) hm
def tTest (t : TE) : TT := fun σ H Q => t σ H fun x H' => ∃ k, x = .bl k ∧ Q k H'
theorem pt_cmpR {op : CmpOp} {r : R2} (ho : OpR X (compareOp op) r) (ha : PE X a ta) (hb : PE X b tb) (hm : behindInMarks op b = false) : PT X (.Compare a [op] [b] pos) (tTest (tOp r ta tb)) := by
  intro pins s σ H Q I h
  refine wpAny_isTrue_Compare1 (thn (ha pins s σ H _ I h) fun v s1 ⟨x, H1, I1, r1, q1⟩ => thn (hb pins s1 σ H1 _ I1 q1) fun u s2 ⟨y, H2, I2, r2, q2⟩ =>
    thn (ho pins s2 σ H2 x y v u _ I2 r1 r2 q2) fun c s3 ⟨z, H3, I3, r3, k, e, q3⟩ => ?_) hm
  subst e
  cases r3
  exact wpAny_truthy_bool ⟨H3, I3, q3⟩
def TruV (K : PySem.W.Frag) (x : V) (H : Hp) (k : Bool) : Prop :=
  match x with
  | .non => k = false
  | .bl b => k = b
  | .int i => k = (i != 0)
  | .str y => y.length ≤ sizeLine ∧ k = ((y.length : Int) != 0)
  | .byt y => y.size ≤ sizeLine ∧ k = ((y.size : Int) != 0)
  | .ref p => (∃ xs, SqL K H p xs ∧ k = !xs.isEmpty) ∨ (∃ xs, SqT K H p xs ∧ k = !xs.isEmpty) ∨ ∃ kvs, H p = some (.dK kvs) ∧ k = !kvs.isEmpty
  | _ => False
theorem isEmpty_kv {κ : Type} {kvs : List (κ × V)} {vs : List (κ × Value)} (r : KV kvs vs) : (!vs.isEmpty) = !kvs.isEmpty := by
  cases r <;> rfl
theorem isEmpty_of {xs : List V} {its : List Value} (r : Vals xs its) : (!its.toArray.isEmpty) = !xs.isEmpty := by
  cases r <;> simp
theorem line63 : (sizeLine : Nat) < 2 ^ 63 := by rw [sizeLine_eq]; decide
theorem tru_ok : TruR X (fun x H Q => ∃ k, TruV X.K x H k ∧ Q k H) := by
  intro pins s σ H x v Q I rx h
  obtain ⟨k, e, q⟩ := h
  have hl := line63
  have hs : sizeLine = 16777216 := sizeLine_eq
  cases x with
  | non =>
    cases rx
    have e' : k = false := e
    subst e'
    exact truthy_none ⟨H, I, q⟩
  | bl b =>
    cases rx
    have e' : k = b := e
    subst e'
    exact wpAny_truthy_bool ⟨H, I, q⟩
  | int i =>
    obtain ⟨t, rfl⟩ := rx
    have e' : k = (i != 0) := e
    subst e'
    exact PySem.P.truthy_int ⟨H, I, q⟩
  | str y =>
    obtain ⟨t, rfl⟩ := rx
    obtain ⟨hy, e'⟩ : y.length ≤ sizeLine ∧ k = ((y.length : Int) != 0) := e
    subst e'
    exact PySem.P.truthy_str (by omega) ⟨H, I.tok _, q⟩
  | byt y =>
    obtain ⟨t, rfl⟩ := rx
    obtain ⟨hy, e'⟩ : y.size ≤ sizeLine ∧ k = ((y.size : Int) != 0) := e
    subst e'
    exact PySem.W.truthy_bytes (by omega) ⟨H, I.tok _, q⟩
  | ref p =>
    cases rx
    have e' : (∃ xs, SqL X.K H p xs ∧ k = !xs.isEmpty) ∨ (∃ xs, SqT X.K H p xs ∧ k = !xs.isEmpty) ∨ ∃ kvs, H p = some (.dK kvs) ∧ k = !kvs.isEmpty := e
    rcases e' with ⟨xs, hx, e'⟩ | ⟨xs, hx, e'⟩ | ⟨kvs, hx, e'⟩
    · subst e'
      obtain ⟨its, r, pl, hz⟩ := I.list hx
      have hlen := r.length
      exact wpAny_truthy_list pl.isList (by simp only [List.size_toArray]; omega) ⟨H, I.tok _, by rw [isEmpty_of r]; exact q⟩
    · subst e'
      obtain ⟨its, r, pl, hz⟩ := I.tuple hx
      have hlen := r.length
      exact truthy_tuple pl (by simp only [List.size_toArray]; omega) ⟨H, I.tok _, by rw [isEmpty_of r]; exact q⟩
    · subst e'
      obtain ⟨hz, hS, vs, r, m⟩ : kvs.length ≤ sizeLine ∧ (p == sysModules) = false ∧ ∃ vs, KV kvs vs ∧ s.heap.DictOf (mixKind X.prog X.w) p vs := I.hok p _ hx
      have hlen : kvs.length = vs.length := Paired.length r
      exact wpAny_truthy_dict hS m (by omega) ⟨H, I.tok _, by rw [isEmpty_kv r]; exact q⟩
  | _ => exact (show False from e).elim
theorem pt_truth (ha : PE X a ta) (he : ∀ whole, isTrue a X.env whole = (do let v ← whole; standAt a.pos; holding [v] (truthy v))) :
    PT X a (fun σ H Q => ta σ H fun x H' => ∃ k, TruV X.K x H' k ∧ Q k H') := by
  intro pins s σ H Q I h
  exact isTrue_plain (thn (ha pins s σ H _ I h) fun v s1 ⟨x, H1, I1, r1, q1⟩ => tru_ok pins s1 σ H1 x v Q I1 r1 q1) (he _)
theorem op_add_str : OpR X (binaryOp .Add) (fun x y H Q => ∃ i j, x = .str i ∧ y = .str j ∧ i.length + j.length ≤ sizeLine ∧ Q (.str (i ++ j)) H) := by
  intro pins s σ H x y v u Q I rx ry h
  obtain ⟨i, j, rfl, rfl, hz, q⟩ := h
  obtain ⟨t, rfl⟩ := rx
  obtain ⟨t', rfl⟩ := ry
  exact add_str (fun t' tk => ⟨.str (i ++ j), H, I.tok _, ⟨_, rfl⟩, q⟩) hz
theorem vals1 {x : V} {us : List Value} (r : Vals [x] us) : ∃ u, us = [u] ∧ RelV x u := by
  cases r with
  | cons r1 r2 => cases r2; exact ⟨_, rfl, r1⟩
theorem vals2 {x y : V} {us : List Value} (r : Vals [x, y] us) : ∃ u w', us = [u, w'] ∧ RelV x u ∧ RelV y w' := by
  cases r with
  | cons r1 r2 =>
    cases r2 with
    | cons r3 r4 => cases r4; exact ⟨_, _, rfl, r1, r3⟩
theorem call_int1 : CallR X (.type "int") (fun xs H Q => (∃ i, xs = [.int i] ∧ Q (.int i) H) ∨ ∃ k, xs = [.bl k] ∧ Q (.int (if k then 1 else 0)) H) := by
  intro pins s σ H xs us Q I r h
  rcases h with ⟨i, rfl, q⟩ | ⟨k, rfl, q⟩
  · obtain ⟨u, rfl, t, rfl⟩ := vals1 r
    exact call_int_int ⟨.int i, H, I, ⟨_, rfl⟩, q⟩
  · obtain ⟨u, rfl, r1⟩ := vals1 r
    cases r1
    exact call_int_bool ⟨.int (if k then 1 else 0), H, I.tok _, ⟨_, rfl⟩, q⟩
def LenV (K : PySem.W.Frag) (x : V) (H : Hp) (n : Nat) : Prop :=
  match x with
  | .str y => y.length ≤ sizeLine ∧ n = y.length
  | .byt y => y.size ≤ sizeLine ∧ n = y.size
  | .ref p => (∃ xs, SqL K H p xs ∧ n = xs.length) ∨ ∃ xs, SqT K H p xs ∧ n = xs.length
  | _ => False
theorem call_len : CallR X (.builtin "len") (fun xs H Q => ∃ x n, xs = [x] ∧ LenV X.K x H n ∧ Q (.int n) H) := by
  intro pins s σ H xs us Q I r h
  obtain ⟨x, n, rfl, e, q⟩ := h
  obtain ⟨u, rfl, rx⟩ := vals1 r
  have hl := line63
  have hs : sizeLine = 16777216 := sizeLine_eq
  cases x with
  | str y =>
    obtain ⟨t, rfl⟩ := rx
    obtain ⟨hy, e'⟩ : y.length ≤ sizeLine ∧ n = y.length := e
    subst e'
    exact len_str (by omega) ⟨.int _, H, I.tok _, ⟨_, rfl⟩, q⟩
  | byt y =>
    obtain ⟨t, rfl⟩ := rx
    obtain ⟨hy, e'⟩ : y.size ≤ sizeLine ∧ n = y.size := e
    subst e'
    exact PySem.W.len_bytes (by omega) ⟨.int _, H, I.tok _, ⟨_, rfl⟩, q⟩
  | ref p =>
    cases rx
    have e' : (∃ xs, SqL X.K H p xs ∧ n = xs.length) ∨ ∃ xs, SqT X.K H p xs ∧ n = xs.length := e
    rcases e' with ⟨xs, hx, e'⟩ | ⟨xs, hx, e'⟩
    · subst e'
      obtain ⟨its, r', pl, hz⟩ := I.list hx
      have hlen := r'.length
      exact Calls.call_len_list pl.isList (by simp only [List.size_toArray]; omega) ⟨.int xs.length, H, I.tok _, ⟨_, by simp only [List.size_toArray]; rw [hlen]⟩, q⟩
    · subst e'
      obtain ⟨its, r', pl, hz⟩ := I.tuple hx
      have hlen := r'.length
      exact len_tuple pl (by simp only [List.size_toArray]; omega) ⟨.int xs.length, H, I.tok _, ⟨_, by simp only [List.size_toArray]; rw [hlen]⟩, q⟩
  | _ => exact (show False from e).elim
end
end L2
namespace L2
open PySem PySem.Spec PyProof.Rows
structure ObjM (h : Heap) (x dx C : Addr) (mA : Str → Option Value) : Prop where
  obj : h.get? x = some (PySem.W.instObj C dx)
  ns : h.Ns1 dx mA
  ne : dx ≠ x
theorem lookIn_ns {h : Heap} {dx : Addr} {mA : Str → Option Value} (n : h.Ns1 dx mA) : ∃ od, h.get? dx = some od ∧ ∀ name, PySem.W.lookIn name od = some (mA name) := by
  obtain ⟨o, es, ep, ho, hd, hk, _, hm⟩ := n
  refine ⟨o, ho, fun name => ?_⟩
  have e := hm name
  unfold nsFind findBy at e
  rw [← Array.find?_toList] at e
  unfold PySem.W.lookIn
  rw [hd]
  dsimp only
  split
  · rename_i y q
    rw [q] at e
    exact congrArg some e
  · rename_i q
    rw [q] at e
    have a : es.toList.any (·.refKey) = false := by
      rw [List.any_eq_false]
      intro y hy
      obtain ⟨z, t, hkey⟩ := hk y (Array.mem_toList_iff.mp hy)
      simp [DictEntry.refKey, hkey]
    have a' : ¬ es.toList.any (·.refKey) = true := by rw [a]; exact Bool.false_ne_true
    rw [if_neg a']
    exact congrArg some e
theorem ObjM.look {h : Heap} {x dx C : Addr} {mA : Str → Option Value} (I : ObjM h x dx C mA) : ∃ od, PySem.W.InstAt h x (PySem.W.instObj C dx) C (some od) ∧ ∀ name, PySem.W.lookIn name od = some (mA name) :=
  let ⟨od, ho, hl⟩ := lookIn_ns I.ns
  ⟨od, ⟨I.obj, rfl, rfl, ho⟩, hl⟩
section
variable {prog : Program} {w : World} {A : Around} {E : Value → Shared → Prop} {s : Shared} {K : PySem.W.Frag} {x dx C f : Addr} {mA : Str → Option Value} {name : Str} {v : Value}
theorem get_map {expr : Bool} {Q : Value → Shared → Prop} (X : K.In s.heap) (I : ObjM s.heap x dx C mA) (hg : PySem.W.plainGet K C name = true) (hh : PySem.W.hasDictIn K C = true)
    (ha : PySem.W.findIn K (.ref C) name = some none) (hv : mA name = some v) (hv' : PySem.W.handedIn v = true) (h : Q v { s with toks := s.toks + 1 }) :
    wpAny (model prog w) A (getAttr (.ref x) name expr) Q E s := by
  obtain ⟨od, J, hl⟩ := I.look
  exact PySem.W.get_value X J (PySem.W.plainGet_of hg).1 (PySem.W.findObj_own hh ha rfl (by rw [hl, hv])) hv' h
theorem get_meth {pl : Sem Bool} {Q : Value × List Value → Shared → Prop} (X : K.In s.heap) (I : ObjM s.heap x dx C mA) (hg : PySem.W.plainGet K C name = true)
    (hf : PySem.W.findIn K (.ref C) name = some (some (.ref f))) (ht : PySem.W.isFn K (.ref f) = true) (hv : mA name = none) (h : Q (.ref f, [.ref x]) s) :
    wpAny (model prog w) A (getMethod (.ref x) name pl) Q E s := by
  obtain ⟨od, J, hl⟩ := I.look
  exact PySem.W.method_fn X J (PySem.W.plainGet_of hg).1 (PySem.W.plainGet_of hg).2 hf (beq_iff_eq.mp ht) (by show (PySem.W.lookIn name od).map (·.isSome) = some false; rw [hl, hv]; rfl) h
theorem set_map {ns : List Str} {Q : Unit → Shared → Prop} (X : K.In s.heap) (I : ObjM s.heap x dx C mA)
    (hs : PySem.W.findIn K (.ref C) "__setattr__" = some (some (.builtin "object.__setattr__"))) (hp : PySem.W.plainOver K C = true) (ht : PySem.W.takerIn K C name = some none) (hh : PySem.W.hasDictIn K C = true)
    (hw : PySem.Within mA ns) (hsz : ns.length ≤ sizeLine)
    (h : ∀ h', ObjM h' x dx C (fun y => if y = name then some v else mA y) → Heap.SameBut dx s.heap h' → Q () { s with heap := h', toks := s.toks + 2 }) :
    wpAny (model prog w) A (setAttr (.ref x) name v) Q E s := by
  obtain ⟨od, J, hl⟩ := I.look
  refine PySem.W.set_plain X J hs (PySem.W.osa_open (s := { s with toks := s.toks + 1 }) (r := none) X J hp ht fun b => ?_)
  obtain ⟨cd, hc, hd'⟩ := PySem.W.any_some hh
  have hx : s.heap.get? x = some ⟨.ref C, some dx, .plain, #[]⟩ := I.obj
  refine wpAny_bind (wpAny_pure (wpAny_bind (wpAny_bind (wpAny_loadPart hx (wpAny_bind (PySem.W.Looks.here (s := { s with toks := s.toks + 1 }) (PySem.W.looks_clsIn X hc) ?_))))))
  rw [hd']
  refine wpAny_pure (a := some dx) (wpAny_bind (wpAny_pure (wpAny_bind ?_)))
  refine wpAny_nsSet1 (s := { s with toks := s.toks + 1 }) I.ns fun h' hn2 hs2 => ?_
  obtain ⟨oD, esD, epD, hoD, hdD, hcD⟩ := hn2.count (PySem.Within.cons name v hw)
  refine wpAny_bind (wpAny_lookBehind hoD (by rw [hdD]; exact pastItsLine_dict (Nat.le_trans hcD (by rw [List.length_cons]; omega))) ?_)
  exact wpAny_pure (h _ ⟨(hs2.2 _ (Ne.symm I.ne)).trans I.obj, hn2, I.ne⟩ hs2)
theorem make_map {R : Result → Shared → Prop} {vs : List Value} {kw : List (Str × Value)} (X : K.In s.heap) (hm : PySem.W.makesIn K C = true)
    (hi : PySem.W.findIn K (.ref C) "__init__" = some (some (.ref f))) (hf : PySem.W.typeIn K (.ref f) = some (.type "function"))
    (h : codeAny (model prog w) (A.under (.builtin "type.__call__" ⟨.ref C :: vs, kw⟩)) (.call (.ref f) ⟨.ref (s.heap.objs.size + 1) :: vs, kw⟩) (PySem.W.InitBack (s.heap.objs.size + 1) R)
      { s with heap := (s.heap.push PySem.W.emptyDict).push (PySem.W.instObj C s.heap.objs.size) }) :
    codeAny (model prog w) A (.call (.ref C) ⟨vs, kw⟩) R s := by
  obtain ⟨hh, g, d, t, os⟩ := s
  exact PySem.W.make_core (PySem.W.makes_of X hm) (PySem.W.looks_findIn X hi) (fun self => PySem.W.bind_fn X self hf) (.inl rfl) h
end
def putF (f : Str) (v : V) : List (Str × V) → List (Str × V)
  | [] => [(f, v)]
  | (g, x) :: r => if g = f then (g, v) :: r else (g, x) :: putF f v r
theorem lookup_putF (f g : Str) (v : V) : ∀ fs : List (Str × V), (putF f v fs).lookup g = if g = f then some v else fs.lookup g
  | [] => by
    show List.lookup g [(f, v)] = _
    by_cases h : g = f
    · have hb : (g == f) = true := beq_iff_eq.mpr h
      simp only [List.lookup, hb, if_pos h]
    · have hb : (g == f) = false := beq_eq_false_iff_ne.mpr h
      simp only [List.lookup, hb, if_neg h]
  | (k, x) :: r => by
    have ih := lookup_putF f g v r
    rw [show putF f v ((k, x) :: r) = (if k = f then (k, v) :: r else (k, x) :: putF f v r) from rfl]
    by_cases hk : k = f
    · rw [if_pos hk]
      by_cases h : g = k
      · have hb : (g == k) = true := beq_iff_eq.mpr h
        simp only [List.lookup, hb, if_pos (h.trans hk)]
      · have hb : (g == k) = false := beq_eq_false_iff_ne.mpr h
        simp only [List.lookup, hb, if_neg (fun e : g = f => h (e.trans hk.symm))]
    · rw [if_neg hk]
      by_cases h : g = k
      · have hb : (g == k) = true := beq_iff_eq.mpr h
        simp only [List.lookup, hb, if_neg (fun e : g = f => hk (h.symm.trans e))]
      · have hb : (g == k) = false := beq_eq_false_iff_ne.mpr h
        simp only [List.lookup, hb]
        exact ih
theorem keys_putF (f : Str) (v : V) : ∀ fs : List (Str × V), f ∈ (putF f v fs).map (·.1) ∧ ∀ g, g ∈ fs.map (·.1) → g ∈ (putF f v fs).map (·.1)
  | [] => ⟨by simp [putF], fun g h => by simp at h⟩
  | (k, x) :: r => by
    obtain ⟨i1, i2⟩ := keys_putF f v r
    rw [show putF f v ((k, x) :: r) = (if k = f then (k, v) :: r else (k, x) :: putF f v r) from rfl]
    by_cases hk : k = f
    · rw [if_pos hk]
      subst hk
      exact ⟨by simp, fun g h => by simpa using h⟩
    · rw [if_neg hk]
      refine ⟨?_, fun g h => ?_⟩
      · rw [List.map_cons]
        exact List.mem_cons_of_mem _ i1
      · rw [List.map_cons] at h ⊢
        rcases List.mem_cons.mp h with e | e
        · exact List.mem_cons.mpr (.inl e)
        · exact List.mem_cons_of_mem _ (i2 g e)
theorem length_putF (f : Str) (v : V) : ∀ fs : List (Str × V), (putF f v fs).length ≤ fs.length + 1
  | [] => by simp [putF]
  | (k, x) :: r => by
    have ih := length_putF f v r
    rw [show putF f v ((k, x) :: r) = (if k = f then (k, v) :: r else (k, x) :: putF f v r) from rfl]
    by_cases hk : k = f
    · rw [if_pos hk, List.length_cons, List.length_cons]; omega
    · rw [if_neg hk, List.length_cons, List.length_cons]; omega
theorem RelO.some_of {v : V} {o : Option Value} (r : RelO (some v) o) : ∃ u, o = some u ∧ RelV v u := by
  cases o with
  | none => exact (show False from r).elim
  | some u => exact ⟨u, rfl, r⟩
theorem RelO.none_of {o : Option Value} (r : RelO none o) : o = none := by
  cases o with
  | none => rfl
  | some u => exact (show False from r).elim
theorem handed_of {v : V} {u : Value} (r : RelV v u) : PySem.W.handedIn u = true := by
  cases v with
  | non => cases (show u = Value.none from r); rfl
  | bl b => cases (show u = Value.bool b from r); rfl
  | int i => obtain ⟨t, e⟩ := (show ∃ t, u = Value.int i t from r); cases e; rfl
  | str x => obtain ⟨t, e⟩ := (show ∃ t, u = Value.str x t from r); cases e; rfl
  | byt b => obtain ⟨t, e⟩ := (show ∃ t, u = Value.bytes b t from r); cases e; rfl
  | flt b => obtain ⟨t, e⟩ := (show ∃ t, u = Value.float b t from r); cases e; rfl
  | ref a => cases (show u = Value.ref a from r); rfl
  | ty n => cases (show u = Value.type n from r); rfl
section
variable {P : Program} {w : World} {H H' : Hp} {h h' : Heap} {a C dx : Addr} {fs fs' : List (Str × V)}
theorem ins_get (hok : HOk P w H h) (e : H a = some (.ins C dx fs)) : ∃ mA, ObjM h a dx C mA ∧ (∀ f, RelO (fs.lookup f) (mA f)) ∧ PySem.Within mA (fs.map (·.1)) ∧ fs.length ≤ 1000 ∧ H dx = some (.own a) := by
  obtain ⟨d, z, ne, ob, mA, n, r, q⟩ := (show ObjOk P w H h a (.ins C dx fs) from hok a _ e)
  exact ⟨mA, ⟨ob, n, ne⟩, r, q, z, d⟩
end
structure Cls (K : PySem.W.Frag) (C : Addr) : Prop where
  pg : PySem.W.plainGet K C Str.empty = true
  hd : PySem.W.hasDictIn K C = true
  po : PySem.W.plainOver K C = true
  sa : PySem.W.findIn K (.ref C) "__setattr__" = some (some (.builtin "object.__setattr__"))
theorem Cls.get {K : PySem.W.Frag} {C : Addr} (c : Cls K C) (f : Str) : PySem.W.plainGet K C f = true := c.pg
def NoAttr (K : PySem.W.Frag) (C : Addr) (f : Str) : Prop := PySem.W.findIn K (.ref C) f = some none
theorem NoAttr.taker {K : PySem.W.Frag} {C : Addr} {f : Str} (n : NoAttr K C f) : PySem.W.takerIn K C f = some none := by
  unfold PySem.W.takerIn
  rw [show PySem.W.findIn K (.ref C) f = some none from n]
  rfl
structure Meth (K : PySem.W.Frag) (C : Addr) (m : Str) (f : Addr) : Prop where
  at_ : PySem.W.findIn K (.ref C) m = some (some (.ref f))
  fn : PySem.W.isFn K (.ref f) = true
  kp : PySem.W.keepIn K (.ref f) = true
section
variable {X : Cx} {pins : List (Addr × Obj)} {σ : St} {H : Hp} {s : Shared} {a C dx : Addr} {fs : List (Str × V)} {f : Str} {v : V} {A : Around} {E : Value → Shared → Prop}
theorem getattr_ok {b : Bool} {Q : Value → Shared → Prop} (I : Inv X pins σ H s) (e : H a = some (.ins C dx fs)) (c : Cls X.K C) (n : NoAttr X.K C f) (l : fs.lookup f = some v)
    (h : ∀ u s', Inv X pins σ H s' → RelV v u → Q u s') : wpAny (model X.prog X.w) A (getAttr (.ref a) f b) Q E s := by
  obtain ⟨mA, O, r, _, _, _⟩ := ins_get I.hok e
  obtain ⟨u, hu, ru⟩ := RelO.some_of (v := v) (o := mA f) (by rw [← l]; exact r f)
  exact get_map I.kIn O (c.get f) c.hd n hu (handed_of ru) (h u _ (I.tok _) ru)
theorem getmeth_ok {m : Str} {g : Addr} {pl : Sem Bool} {Q : Value × List Value → Shared → Prop} (I : Inv X pins σ H s) (e : H a = some (.ins C dx fs)) (c : Cls X.K C) (k : Meth X.K C m g) (l : fs.lookup m = none)
    (h : Q (.ref g, [.ref a]) s) : wpAny (model X.prog X.w) A (getMethod (.ref a) m pl) Q E s := by
  obtain ⟨mA, O, r, _, _, _⟩ := ins_get I.hok e
  have hn : mA m = none := RelO.none_of (by rw [← l]; exact r m)
  exact get_meth I.kIn O (c.get m) k.at_ k.fn hn h
theorem setattr_ok {y : V} {u : Value} {Q : Unit → Shared → Prop} (I : Inv X pins σ H s) (e : H a = some (.ins C dx fs)) (c : Cls X.K C) (n : NoAttr X.K C f) (hl : fs.length < 1000) (ry : RelV y u)
    (h : ∀ s', Inv X pins σ (upd H a (.ins C dx (putF f y fs))) s' → Q () s') : wpAny (model X.prog X.w) A (setAttr (.ref a) f u) Q E s := by
  obtain ⟨mA, O, r, wi, _, ho⟩ := ins_get I.hok e
  have hz : (fs.map (·.1)).length ≤ sizeLine := by rw [List.length_map, sizeLine_eq]; omega
  refine set_map I.kIn O c.sa c.po n.taker c.hd wi hz fun h' O' sb => h _ ?_
  have hd : ∃ o, h'.get? dx = some o := let ⟨o, _, _, e', _⟩ := O'.ns; ⟨o, e'⟩
  refine I.write (x := a) (e := dx) (by rw [e]; exact True.intro) (.inr ho) (fun b q hb z => (sb.2 b hb).trans z) hd ?_
  refine ⟨by rw [upd_ne O.ne]; exact ho, ?_, O.ne, O'.obj, _, O'.ns, fun g => ?_, fun g hg => ?_⟩
  · have := length_putF f y fs; omega
  · show RelO ((putF f y fs).lookup g) (if g = f then some u else mA g)
    rw [lookup_putF]
    by_cases q : g = f
    · rw [if_pos q, if_pos q]; exact ry
    · rw [if_neg q, if_neg q]; exact r g
  · by_cases q : g = f
    · rw [q]; exact (keys_putF f y fs).1
    · refine (keys_putF f y fs).2 g (wi g fun z => hg ?_)
      show (if g = f then some u else mA g) = none
      rw [if_neg q]; exact z
theorem Inv.made (I : Inv X pins σ H s) : Inv X pins σ (upd (upd H s.heap.objs.size (.own (s.heap.objs.size + 1))) (s.heap.objs.size + 1) (.ins C s.heap.objs.size []))
    { s with heap := (s.heap.push PySem.W.emptyDict).push (PySem.W.instObj C s.heap.objs.size) } := by
  have e1 : (s.heap.push PySem.W.emptyDict).get? s.heap.objs.size = some PySem.W.emptyDict := Heap.get?_push_size s.heap rfl
  have e2 : ((s.heap.push PySem.W.emptyDict).push (PySem.W.instObj C s.heap.objs.size)).get? (s.heap.objs.size + 1) = some (PySem.W.instObj C s.heap.objs.size) := by
    have := Heap.get?_push_size (s.heap.push PySem.W.emptyDict) (o := PySem.W.instObj C s.heap.objs.size) rfl
    rwa [Heap.size_push] at this
  have e3 : (s.heap.push PySem.W.emptyDict).Ns s.heap.objs.size (fun _ => none) := ⟨PySem.W.emptyDict, #[], _, e1, rfl, (fun e he => absurd he (by simp)), fun _ => rfl⟩
  have I1 := I.laid (a := s.heap.objs.size) (o := .own (s.heap.objs.size + 1)) (h' := s.heap.push PySem.W.emptyDict) (t' := s.toks) (fun b u q => Heap.get?_push_of_some _ q) (Nat.le_refl _) ⟨_, e1⟩
  refine I1.laid (a := s.heap.objs.size + 1) (o := .ins C s.heap.objs.size []) (t' := s.toks) (fun b u q => Heap.get?_push_of_some _ q) (Nat.le_of_eq (Heap.size_push _ _)) ?_
  have ne : s.heap.objs.size ≠ s.heap.objs.size + 1 := Nat.ne_of_lt (Nat.lt_succ_self _)
  refine ⟨by rw [upd_ne ne, upd_same], Nat.zero_le _, ne, e2, fun _ => none, (Heap.Ns1.of_empty e3).at fun o q => Heap.get?_push_of_some _ q, fun _ => True.intro, fun y hy => absurd rfl hy⟩
theorem attr_of {prog : Program} {w : World} {env : Env} {e : Expr} {f : Str} {pos : Pos} {s : Shared} {Q : Value → Shared → Prop} (hb : attributeBase e f env (eval e env) = eval e env)
    (h : wpAny (model prog w) A (eval e env) (fun o s₁ => wpAny (model prog w) A (getAttr o f true) Q E s₁) E s) : wpAny (model prog w) A (eval (.Attribute e f pos) env) Q E s :=
  Attribute_any_ h (by rw [arm_eval_Attribute, hb])
end
def tFld (K : PySem.W.Frag) (ta : TE) (f : Str) : TE := fun σ H Q => ta σ H fun x H1 => ∃ a C dx fs v, x = .ref a ∧ H1 a = some (.ins C dx fs) ∧ Cls K C ∧ NoAttr K C f ∧ fs.lookup f = some v ∧ Q v H1
def sFld (K : PySem.W.Frag) (ta tv : TE) (f : Str) : TS := fun D σ H => tv σ H fun y H1 => ta σ H1 fun x H2 => ∃ a C dx fs, x = .ref a ∧ H2 a = some (.ins C dx fs) ∧ Cls K C ∧ NoAttr K C f ∧ fs.length < 1000 ∧
  D.nx σ (upd H2 a (.ins C dx (putF f y fs)))
section
variable {X : Cx} {o e value : Expr} {f : Str} {pos pos' tpos : Pos} {ta tv : TE}
theorem pe_fld (he : PE X e ta) (hb : attributeBase e f X.env (eval e X.env) = eval e X.env) : PE X (.Attribute e f pos) (tFld X.K ta f) := by
  intro pins s σ H Q I h
  refine attr_of hb (thn (he pins s σ H _ I h) fun u s1 ⟨x, H1, I1, rx, a, C, dx, fs, v, ex, ea, c, n, l, q⟩ => ?_)
  subst ex
  obtain rfl : u = Value.ref a := rx
  exact getattr_ok I1 ea c n l fun u' s2 I2 ru => ⟨v, H1, I2, ru, q⟩
theorem ps_fld (ha : PE X o ta) (hv : PE X value tv) (hs : swapsWith value (some (.Attribute o f pos')) pos.line X.env = pure false) : PS X (.Assign [.Attribute o f pos'] value pos) (sFld X.K ta tv f) := by
  intro pins s σ H D I h
  refine plainObj_wpAny_Assign_Attribute (thn (hv pins s σ H _ I h) fun u s1 ⟨y, H1, I1, ry, q⟩ => thn (ha pins s1 σ H1 _ I1 q) fun ov s2 ⟨x, H2, I2, rx, a, C, dx, fs, ex, ea, c, n, l, q2⟩ => ?_) hs
  subst ex
  obtain rfl : ov = Value.ref a := rx
  exact setattr_ok I2 ea c n l ry fun s3 I3 => ⟨σ, _, I3, q2⟩
end
section
variable {X : Cx} {pins : List (Addr × Obj)} {σ : St} {H : Hp} {s : Shared} {A : Around} {E : Value → Shared → Prop} {Q : Value → Shared → Prop} {c : Value} {b : Bool}
inductive TyOf (K : PySem.W.Frag) (H : Hp) : V → Value → Prop where
  | non : TyOf K H .non (.type "NoneType")
  | bl (x : Bool) : TyOf K H (.bl x) (.type "bool")
  | int (i : Int) : TyOf K H (.int i) (.type "int")
  | str (x : Str) : TyOf K H (.str x) (.type "str")
  | flt (x : UInt64) : TyOf K H (.flt x) (.type "float")
  | lst {a : Addr} {xs : List V} (e : H a = some (.lst xs)) : TyOf K H (.ref a) (.type "list")
  | frz {a : Addr} {o : Obj} {xs : List V} (e : H a = some (.frz o (.lst xs))) : TyOf K H (.ref a) (.type "list")
  | tup {a : Addr} {xs : List V} (e : H a = some (.tup xs)) : TyOf K H (.ref a) (.type "tuple")
  | dK {a : Addr} {kvs : List (Key × V)} (e : H a = some (.dK kvs)) : TyOf K H (.ref a) (.type "dict")
  | dT {a : Addr} {kvs : List (List Key × V)} (e : H a = some (.dT kvs)) : TyOf K H (.ref a) (.type "dict")
  | ins {a C dx : Addr} {fs : List (Str × V)} (e : H a = some (.ins C dx fs)) (cl : Cls K C) (ha : PySem.W.findIn K (.ref C) "__class__" = some (some (.builtin "object.__class__")))
      (hn : PySem.W.specialIn K (.builtin "object.__class__") "__get__" = some (some (.builtin "getset_descriptor.__get__"))) (htk : PySem.W.takesIn K (.builtin "object.__class__") = some true)
      (hm : PySem.W.mroIn K C (.type "object") = some true) : TyOf K H (.ref a) (.ref C)
theorem isinst_ok {x : V} {u t : Value} (I : Inv X pins σ H s) (rx : RelV x u) (ty : TyOf X.K H x t) (e : PySem.W.kitOne X.K t c = some b) (h : ∀ tk, Q (.bool b) { s with toks := tk }) :
    wpAny (model X.prog X.w) A (call (.builtin "isinstance") [u, c]) Q E s := by
  cases ty with
  | non => cases (show u = Value.none from rx); exact PySem.W.kia_one PySem.W.kitx_none I.kIn True.intro e (fun z => nomatch z) h
  | bl y => cases (show u = Value.bool y from rx); exact PySem.W.kia_one PySem.W.kitx_bool I.kIn True.intro e (fun z => nomatch z) h
  | int i => obtain ⟨t, q⟩ := (show ∃ t, u = Value.int i t from rx); cases q; exact PySem.W.kia_one PySem.W.kitx_int I.kIn True.intro e (fun z => nomatch z) h
  | str y => obtain ⟨t, q⟩ := (show ∃ t, u = Value.str y t from rx); cases q; exact PySem.W.kia_one PySem.W.kitx_str I.kIn True.intro e (fun z => nomatch z) h
  | flt y => obtain ⟨t, q⟩ := (show ∃ t, u = Value.float y t from rx); cases q; exact PySem.W.kia_one PySem.W.kitx_float I.kIn True.intro e (fun z => nomatch z) h
  | @lst a xs ea =>
    cases (show u = Value.ref a from rx)
    obtain ⟨_, _, n, _, h1⟩ := (show ObjOk X.prog X.w H s.heap a (.lst xs) from I.hok a _ ea)
    exact PySem.W.kia_one PySem.W.kitx_list I.kIn ⟨_, h1, rfl⟩ e (fun z => nomatch z) h
  | @frz a ob xs ea =>
    cases (show u = Value.ref a from rx)
    obtain ⟨_, _, _, n, _, h1⟩ := (show ObjOk X.prog X.w H s.heap a (.frz ob (.lst xs)) from I.hok a _ ea)
    exact PySem.W.kia_one PySem.W.kitx_list I.kIn ⟨_, h1, rfl⟩ e (fun z => nomatch z) h
  | @tup a xs ea =>
    cases (show u = Value.ref a from rx)
    obtain ⟨_, _, _, p⟩ := (show ObjOk X.prog X.w H s.heap a (.tup xs) from I.hok a _ ea)
    obtain ⟨o, h1, h2, _⟩ := p
    exact PySem.W.kia_one PySem.W.kitx_tuple I.kIn ⟨o, h1, h2⟩ e (fun z => nomatch z) h
  | @dK a kvs ea =>
    cases (show u = Value.ref a from rx)
    obtain ⟨_, _, vs, _, p⟩ := (show ObjOk X.prog X.w H s.heap a (.dK kvs) from I.hok a _ ea)
    obtain ⟨o, es, ep, h1, h2, _⟩ := p
    exact PySem.W.kia_one PySem.W.kitx_dict I.kIn ⟨o, h1, h2.1⟩ e (fun z => nomatch z) h
  | @dT a kvs ea =>
    cases (show u = Value.ref a from rx)
    obtain ⟨_, _, xs, _, o, es, ep, h1, h2, _⟩ := (show ObjOk X.prog X.w H s.heap a (.dT kvs) from I.hok a _ ea)
    exact PySem.W.kia_one PySem.W.kitx_dict I.kIn ⟨o, h1, h2.1⟩ e (fun z => nomatch z) h
  | @ins a C dx fs ea cl ha hn htk hm =>
    cases (show u = Value.ref a from rx)
    obtain ⟨mA, O, _⟩ := ins_get I.hok ea
    obtain ⟨od, J, _⟩ := O.look
    exact PySem.W.kia_one (PySem.W.kitx_own (cl.get _) cl.hd ha hn htk hm) I.kIn J e (fun z => nomatch z) h
end
end L2
namespace L2
open PySem PySem.Spec PyProof.Rows
structure Room (k : Nat) (A : Around) : Prop where
  hd : A.handled = none
  dp : A.depth + 3 * k + 5 < recursionLimit
  un : A.units + 16 * k + 200 < cLine
theorem Room.mono {j k : Nat} {A : Around} (r : Room k A) (h : j ≤ k) : Room j A := ⟨r.hd, by have := r.dp; omega, by have := r.un; omega⟩
theorem Room.deeper {k : Nat} {A : Around} (r : Room (k + 1) A) (env : Env) : Room k (A.deeper env) :=
  ⟨r.hd, by have := r.dp; show A.depth + 1 + 3 * k + 5 < _; omega, by have := r.un; show A.units + 3 + 16 * k + 200 < _; omega⟩
theorem make_depth {A : Around} {C : Addr} {us : List Value} {kw : List (Str × Value)} : (A.under (.builtin "type.__call__" ⟨.ref C :: us, kw⟩)).depth = A.depth + 1 := by
  first | rfl | simp [Around.under, Code.weight, Code.isCreation, Code.isGuard, Code.isCaller, Code.frames, Code.isFrame, guardIds]
theorem make_units {A : Around} {C : Addr} {us : List Value} {kw : List (Str × Value)} : (A.under (.builtin "type.__call__" ⟨.ref C :: us, kw⟩)).units = A.units + 1 := by
  first | rfl | simp [Around.under, Code.cUnits, Code.frames, Code.isFrame]
theorem Room.make {k : Nat} {A : Around} (r : Room (k + 1) A) (C : Addr) (us : List Value) (kw : List (Str × Value)) : Room k (A.under (.builtin "type.__call__" ⟨.ref C :: us, kw⟩)) :=
  ⟨r.hd, by have := r.dp; rw [make_depth]; omega, by have := r.un; rw [make_units]; omega⟩
theorem Room.depth {k : Nat} {A : Around} (r : Room k A) : A.depth < recursionLimit := by have := r.dp; omega
theorem Room.units {k : Nat} {A : Around} (r : Room k A) : A.units + 64 < cLine := by have := r.un; omega
theorem Room.units0 {k : Nat} {A : Around} (r : Room k A) : A.units < cLine := by have := r.un; omega
def tNil : TA := fun _ H Q => Q [] H
def tCons (ta : TE) (tr : TA) : TA := fun σ H Q => ta σ H fun x H1 => tr σ H1 fun xs H2 => Q (x :: xs) H2
section
variable {X : Cx} {e : Expr} {es : List Expr} {te : TE} {t : TA} {pos : Pos}
theorem pa_nil : PA X [] tNil := fun _ _ _ _ H Q I h => Calls.spliced_nil ⟨[], H, I, .nil, h⟩
theorem pa_cons (ha : PE X e te) (hr : PA X es t) (hs : starEach (e :: es) X.env = (false, eval e X.env) :: starEach es X.env := by rfl) : PA X (e :: es) (tCons te t) := by
  intro pos pins s σ H Q I h
  rw [hs]
  show wpAny _ _ (spliced ((false, eval e X.env) :: backTo pos (starEach es X.env))) _ _ s
  refine Calls.spliced_cons (thn (ha pins s σ H _ I h) fun u s1 ⟨x, H1, I1, r1, q1⟩ => ?_)
  exact thn (hr pos pins s1 σ H1 _ I1 q1) fun us s2 ⟨xs, H2, I2, r2, q2⟩ => ⟨x :: xs, H2, I2, .cons r1 r2, q2⟩
end
abbrev Sp := List V → Hp → VK → XK → Prop
abbrev CXT := List Env → Hp → Shared → XK → Value → Shared → Prop
structure Env0 (P : Program) (w : World) (K : PySem.W.Frag) (mg : Str → Option Value) (base : Heap) (A : Around) (outer : List Env) (s : Shared) (H : Hp) : Prop where
  frames : A.frames = some outer
  mod : Mod K mg base
  bs : ∀ b o, base.get? b = some o → s.heap.get? b = some o ∧ H b = none
  bsz : base.objs.size ≤ s.heap.objs.size
  funs : s.heap.FunFrames base outer
  frf : ∀ b ∈ frs outer, H b = none
  hok : HOk P w H s.heap
  bare : AllBare s.gens
def CE (outer : List Env) (P : Program) (w : World) (H : Hp) (s : Shared) (Q : VK) (u : Value) (s' : Shared) : Prop :=
  ∃ v H', s'.os = s.os ∧ AllBare s'.gens ∧ Un (frs outer) [] H H' s.heap s'.heap ∧ HOk P w H' s'.heap ∧ RelV v u ∧ Q v H'
def CR (CX : CXT) (outer : List Env) (P : Program) (w : World) (H : Hp) (s : Shared) (Q : VK) (E : XK) (r : Result) (s' : Shared) : Prop :=
  match r with
  | .ok (.ret u) => CE outer P w H s Q u s'
  | .ok _ => False
  | .error e => CX outer H s E e s'
structure FnOk (P : Program) (w : World) (K : PySem.W.Frag) (mg : Str → Option Value) (base : Heap) (CX : CXT) (k : Nat) (f : Addr) (fd : FuncData) (ps : List Str) (sp : Sp) : Prop where
  len : ∀ vs H Q E, sp vs H Q E → vs.length = ps.length
  run : ∀ (A : Around) (outer : List Env) (s : Shared) (H : Hp) (args : Args) (us : List Value) (vs : List V) (Q : VK) (E : XK), Room k A → Env0 P w K mg base A outer s H → BindsTo s fd args (ps.zip us) → Vals vs us → sp vs H Q E →
    codeAny (model P w) A (.call (.ref f) args) (CR CX outer P w H s Q E) s
theorem Env0.make {P : Program} {w : World} {K : PySem.W.Frag} {mg : Str → Option Value} {base : Heap} {A : Around} {outer : List Env} {s : Shared} {H : Hp} (e : Env0 P w K mg base A outer s H) (C : Addr) (us : List Value) (kw : List (Str × Value)) :
    Env0 P w K mg base (A.under (.builtin "type.__call__" ⟨.ref C :: us, kw⟩)) outer s H := ⟨by first | exact e.frames | (simpa [Around.under, Code.envs, Code.isFrame, pushEnvs] using e.frames), e.mod, e.bs, e.bsz, e.funs, e.frf, e.hok, e.bare⟩
section
variable {X : Cx} {pins : List (Addr × Obj)} {σ : St} {H : Hp} {s s' : Shared}
theorem Inv.env0 (I : Inv X pins σ H s) : Env0 X.prog X.w X.K X.mg X.base X.A X.stack s H :=
  ⟨I.ok.frames, I.ok.mod, I.bs, Nat.le_trans I.ok.bsz I.sz, I.stack, I.stkFree, I.hok, I.bare⟩
theorem Inv.after {Q : VK} {u : Value} (I : Inv X pins σ H s) (h : CE X.stack X.prog X.w H s Q u s') : EP X pins σ Q u s' := by
  obtain ⟨v, H', os, bare, un, hok, r, q⟩ := h
  obtain ⟨hh, g, d, t, os'⟩ := s'
  obtain rfl : os' = s.os := os
  exact ⟨v, H', I.call (h' := hh) (g' := g) (d' := d) (t' := t) (ch := []) un hok bare (fun b z => absurd z (by simp)), r, q⟩
end
def tCall (sp : Sp) (dvs : List V) (E : XK) (t : TA) : TE := fun σ H Q => t σ H fun vs H1 => sp (vs ++ dvs) H1 Q E
def tMeth (C : Addr) (m : Str) (sp : Sp) (dvs : List V) (E : XK) (ta : TE) (t : TA) : TE := fun σ H Q => ta σ H fun x H1 => ∃ a dx fs, x = .ref a ∧ H1 a = some (.ins C dx fs) ∧ fs.lookup m = none ∧
  t σ H1 fun vs H2 => sp (x :: (vs ++ dvs)) H2 Q E
def tMake (C : Addr) (sp : Sp) (dvs : List V) (E : XK) (t : TA) : TE := fun σ H Q => t σ H fun vs H1 => ∀ x dx, H1 x = none → H1 dx = none → dx ≠ x →
  sp (.ref x :: (vs ++ dvs)) (upd (upd H1 dx (.own x)) x (.ins C dx [])) (fun v H2 => v = .non ∧ Q (.ref x) H2) E
def Binds (K : PySem.W.Frag) (fd : FuncData) (ps : List Str) (ds : List Value) : Prop :=
  ∀ (s : Shared) (us : List Value), K.In s.heap → (us ++ ds).length = ps.length → BindsTo s fd ⟨us, []⟩ (ps.zip (us ++ ds))
theorem Binds.all {K : PySem.W.Frag} {fd : FuncData} {ps : List Str} (h : ∀ us : List Value, us.length = ps.length → bindArgs fd ⟨us, []⟩ = pure (ps.zip us)) : Binds K fd ps [] := fun s us _ hl => by
  rw [List.append_nil] at hl ⊢
  exact .of_eq (h us hl)
def Passes (CX : CXT) (X : Cx) (E : XK) : Prop := ∀ (pins : List (Addr × Obj)) (σ : St) (H : Hp) (s : Shared) (e : Value) (s' : Shared), Inv X pins σ H s → CX X.stack H s E e s' → X.xe e s'
section
variable {X : Cx} {CX : CXT} {k : Nat} {f C : Addr} {fd : FuncData} {ps : List Str} {sp : Sp} {dvs : List V} {ds : List Value} {E : XK} {x m : Str} {p pos apos : Pos} {e o : Expr} {es : List Expr} {ta : TE} {t : TA}
theorem run_fn {pins : List (Addr × Obj)} {σ : St} {H : Hp} {s : Shared} {Q : VK} {us : List Value} {vs : List V} (F : FnOk X.prog X.w X.K X.mg X.base CX k f fd ps sp) (hr : Room k X.A) (hb : Binds X.K fd ps ds) (hd : Vals dvs ds) (hx : Passes CX X E)
    (I : Inv X pins σ H s) (r : Vals vs us) (h : sp (vs ++ dvs) H Q E) : wpAny (model X.prog X.w) X.A (call (.ref f) us) (EP X pins σ Q) X.xe s := by
  have r2 : Vals (vs ++ dvs) (us ++ ds) := r.append hd
  have hl : (us ++ ds).length = ps.length := by rw [← r2.length]; exact F.len _ _ _ _ h
  refine wpAny_call (codeAny_mono (F.run X.A X.stack s H ⟨us, []⟩ (us ++ ds) (vs ++ dvs) Q E hr I.env0 (hb s us I.kIn hl) r2 h) fun r s' hq => ?_)
  cases r with
  | error e => exact hx pins σ H s e s' I hq
  | ok fl =>
    cases fl with
    | ret u => exact I.after hq
    | next => exact False.elim hq
    | brk => exact False.elim hq
    | cont => exact False.elim hq
theorem pe_call (F : FnOk X.prog X.w X.K X.mg X.base CX k f fd ps sp) (hr : Room k X.A) (hg : Gl X x) (hm : X.mg x = some (.ref f)) (hk : PySem.W.keepIn X.K (.ref f) = true) (hb : Binds X.K fd ps ds) (hd : Vals dvs ds) (hx : Passes CX X E)
    (ha : PA X (e :: es) t) (hdb : (x == ("__debug__" : Str)) = false := by decide) (he : starEach (e :: es) X.env = (false, eval e X.env) :: starEach es X.env := by rfl) (hpl : (backTo pos (starEach es X.env)).any (·.1) = false := by rfl) :
    PE X (.Call (.Name x p) (e :: es) [] pos) (tCall sp dvs E t) := by
  intro pins s σ H Q I h
  refine wpAny_Call_Name_kw (ld_glob I hg hm ?_ hdb)
  refine PySem.W.callWith_K (h₀ := X.base) I.ok.mod.kin hk (thn (ha pos pins s σ H _ I h) fun us s1 ⟨vs, H1, I1, r, q⟩ => ⟨I1.kIn, ?_⟩) he hpl
  exact run_fn F hr hb hd hx I1 r q
theorem pe_meth {pl : Sem Bool} (he : PE X o ta) (c : Cls X.K C) (hm : Meth X.K C m f) (F : FnOk X.prog X.w X.K X.mg X.base CX k f fd ps sp) (hr : Room k X.A) (hb : Binds X.K fd ps ds) (hd : Vals dvs ds) (hx : Passes CX X E) (ha : PA X (e :: es) t)
    (hst : starEach (e :: es) X.env = (false, eval e X.env) :: starEach es X.env := by rfl) (hpl : (backTo pos (starEach es X.env)).any (·.1) = false := by rfl)
    (ht : eval (.Call (.Attribute o m apos) (e :: es) [] pos) X.env = (do
      let ov ← eval o X.env
      standAt apos.atName
      let (f, first) ← holding [ov] (getMethod ov m pl)
      callWith pos f first (backTo pos (starEach (e :: es) X.env)) (backToKw pos (keywordEach [] X.env))) := by rfl) :
    PE X (.Call (.Attribute o m apos) (e :: es) [] pos) (tMeth C m sp dvs E ta t) := by
  intro pins s σ H Q I h
  refine PySem.W.methodCall_KW (pl := pl) (thn (he pins s σ H _ I h) fun u s1 ⟨x, H1, I1, rx, a, dx, fs, ex, ea, l, q⟩ => ?_) ht
  subst ex
  obtain rfl : u = Value.ref a := rx
  refine getmeth_ok I1 ea c hm l ?_
  refine PySem.W.callWith_K (first := [.ref a]) (h₀ := X.base) I.ok.mod.kin hm.kp (thn (ha pos pins s1 σ H1 _ I1 q) fun us s2 ⟨vs, H2, I2, r, q2⟩ => ⟨I2.kIn, ?_⟩) hst hpl
  exact run_fn (us := .ref a :: us) (vs := .ref a :: vs) F hr hb hd hx I2 (.cons rfl r) q2
structure Mk (K : PySem.W.Frag) (C f : Addr) : Prop where
  makes : PySem.W.makesIn K C = true
  init : PySem.W.findIn K (.ref C) "__init__" = some (some (.ref f))
  fn : PySem.W.isFn K (.ref f) = true
  kp : PySem.W.keepIn K (.ref C) = true
theorem run_make {pins : List (Addr × Obj)} {σ : St} {H : Hp} {s : Shared} {Q : VK} {us : List Value} {vs : List V} (M : Mk X.K C f) (F : FnOk X.prog X.w X.K X.mg X.base CX k f fd ps sp) (hr : Room (k + 1) X.A) (hb : Binds X.K fd ps ds) (hd : Vals dvs ds)
    (hx : Passes CX X E) (I : Inv X pins σ H s) (r : Vals vs us)
    (h : ∀ x dx, H x = none → H dx = none → dx ≠ x → sp (.ref x :: (vs ++ dvs)) (upd (upd H dx (.own x)) x (.ins C dx [])) (fun v H2 => v = .non ∧ Q (.ref x) H2) E) :
    wpAny (model X.prog X.w) X.A (call (.ref C) us) (EP X pins σ Q) X.xe s := by
  have hq := h (s.heap.objs.size + 1) s.heap.objs.size (I.hok.fresh (Nat.le_succ _)) (I.hok.fresh (Nat.le_refl _)) (Nat.ne_of_lt (Nat.lt_succ_self _))
  have I2 := Inv.made (C := C) I
  have r2 : Vals (V.ref (s.heap.objs.size + 1) :: (vs ++ dvs)) (Value.ref (s.heap.objs.size + 1) :: (us ++ ds)) := .cons rfl (r.append hd)
  have hl : (Value.ref (s.heap.objs.size + 1) :: us ++ ds).length = ps.length := by
    have e := r2.length
    rw [F.len _ _ _ _ hq] at e
    exact e.symm
  refine wpAny_call (make_map (f := f) I.kIn M.makes M.init (beq_iff_eq.mp M.fn) (codeAny_mono (F.run _ X.stack _ _ ⟨Value.ref (s.heap.objs.size + 1) :: us, []⟩ (Value.ref (s.heap.objs.size + 1) :: (us ++ ds)) _ _ E (hr.make C us [])
    (I2.env0.make C us []) (hb _ (Value.ref (s.heap.objs.size + 1) :: us) I2.kIn hl) r2 hq) fun r s' hq' => ?_))
  cases r with
  | error e => exact hx pins σ _ _ e s' I2 hq'
  | ok fl =>
    cases fl with
    | ret u =>
      obtain ⟨v, H', I3, rv, ev, q3⟩ := I2.after hq'
      subst ev
      exact ⟨rv, ⟨V.ref (s.heap.objs.size + 1), H', I3, rfl, q3⟩⟩
    | next => exact False.elim hq'
    | brk => exact False.elim hq'
    | cont => exact False.elim hq'
theorem pe_make0 (M : Mk X.K C f) (F : FnOk X.prog X.w X.K X.mg X.base CX k f fd ps sp) (hr : Room (k + 1) X.A) (hg : Gl X x) (hm : X.mg x = some (.ref C)) (hb : Binds X.K fd ps ds) (hd : Vals dvs ds) (hx : Passes CX X E)
    (hdb : (x == ("__debug__" : Str)) = false := by decide) : PE X (.Call (.Name x p) [] [] pos) (tMake C sp dvs E tNil) := by
  intro pins s σ H Q I h
  refine wpAny_Call_Name_kw (ld_glob I hg hm ?_ hdb)
  exact PySem.W.callWith_K0 I.kIn M.kp (run_make (us := []) M F hr hb hd hx I .nil h)
end
def PK (X : Cx) (kws : List Keyword) (t : TA) : Prop :=
  ∀ (pos : Pos) (pins : List (Addr × Obj)) (s : Shared) (σ : St) (H : Hp) (Q : List V → Hp → Prop), Inv X pins σ H s → t σ H Q → wpAny (model X.prog X.w) X.A (evalAll ((backToKw pos (keywordEach kws X.env)).map (·.2))) (AP X pins σ Q) X.xe s
section
variable {X : Cx} {CX : CXT} {k : Nat} {f C : Addr} {fd : FuncData} {ps ks : List Str} {sp : Sp} {E : XK} {x m : Str} {p pos apos kpos : Pos} {e o : Expr} {es : List Expr} {kws : List Keyword} {te ta : TE} {t tk : TA} {nm : Option Str}
theorem pk_nil : PK X [] tNil := fun _ _ _ _ H Q I h => wpAny_evalAll_nil ⟨[], H, I, .nil, h⟩
theorem pk_cons (ha : PE X e te) (hr : PK X kws t) : PK X (⟨nm, e, kpos⟩ :: kws) (tCons te t) := by
  intro pos pins s σ H Q I h
  show wpAny _ _ (evalAll ((do let v ← eval e X.env; standAt pos; pure v) :: (backToKw pos (keywordEach kws X.env)).map (·.2))) _ _ s
  refine wpAny_evalAll_cons (wpAny_bind (thn (ha pins s σ H _ I h) fun u s1 ⟨x, H1, I1, r1, q1⟩ => wpAny_bind (wpAny_standAt (wpAny_pure ?_))))
  exact thn (hr pos pins s1 σ H1 _ I1 q1) fun us s2 ⟨xs, H2, I2, r2, q2⟩ => ⟨x :: xs, H2, I2, .cons r1 r2, q2⟩
variable {g : List Value → List Value → List Value} {gV : List V → List V → List V}
end
structure FnScope (N P : List Str) (sc : Scope) : Prop where
  kind : sc.kind = .function
  co : sc.isCoroutine = false
  gen : sc.isGenerator = false
  nd : N.Nodup
  pre : N.take P.length = P
  par : ∀ x ∈ P, sc.names.lookup x = some .local ∨ sc.names.lookup x = some .cell
  nofree : ∀ y ∈ sc.names, y.2 ≠ .free
theorem bindL_out {kindOf : Str → Option NameKind} {x : Str} : ∀ {binds : List (Str × Value)} {m : Str → Option Value}, (∀ v, (x, v) ∉ binds) → bindL kindOf binds m x = m x
  | [], _, _ => rfl
  | (n, v) :: r, m, h => by
    unfold bindL
    rw [bindL_out fun w hw => h w (List.mem_cons_of_mem _ hw)]
    split
    · have : x ≠ n := by rintro rfl; exact h v List.mem_cons_self
      simp [this]
    · rfl
theorem bindC_out {kindOf : Str → Option NameKind} {x : Str} : ∀ {binds : List (Str × Value)} {m : Str → Option Value}, (∀ v, (x, v) ∉ binds) → bindC kindOf binds m x = m x
  | [], _, _ => rfl
  | (n, v) :: r, m, h => by
    unfold bindC
    rw [bindC_out fun w hw => h w (List.mem_cons_of_mem _ hw)]
    split
    · rfl
    · have : x ≠ n := by rintro rfl; exact h v List.mem_cons_self
      simp [this]
theorem bindL_get {kindOf : Str → Option NameKind} {x : Str} {v : Value} : ∀ {P : List Str} {vs : List Value} {i : Nat} {m : Str → Option Value}, P.Nodup → P[i]? = some x → vs[i]? = some v → kindOf x = some .local →
    bindL kindOf (P.zip vs) m x = some v
  | [], _, _, _, _, h, _, _ => by simp at h
  | _ :: _, [], _, _, _, _, h, _ => by simp at h
  | p :: P, w :: vs, 0, m, nd, h1, h2, hk => by
    simp at h1 h2; subst h1; subst h2
    show bindL kindOf ((p, w) :: P.zip vs) m p = _
    unfold bindL
    rw [bindL_out fun v hv => (List.nodup_cons.mp nd).1 (List.of_mem_zip hv).1, if_pos hk]
    simp
  | p :: P, w :: vs, i + 1, m, nd, h1, h2, hk => by
    show bindL kindOf ((p, w) :: P.zip vs) m x = _
    unfold bindL
    exact bindL_get (i := i) (List.nodup_cons.mp nd).2 (by simpa using h1) (by simpa using h2) hk
theorem bindC_get {kindOf : Str → Option NameKind} {x : Str} {v : Value} : ∀ {P : List Str} {vs : List Value} {i : Nat} {m : Str → Option Value}, P.Nodup → P[i]? = some x → vs[i]? = some v → kindOf x ≠ some .local →
    bindC kindOf (P.zip vs) m x = some v
  | [], _, _, _, _, h, _, _ => by simp at h
  | _ :: _, [], _, _, _, _, h, _ => by simp at h
  | p :: P, w :: vs, 0, m, nd, h1, h2, hk => by
    simp at h1 h2; subst h1; subst h2
    show bindC kindOf ((p, w) :: P.zip vs) m p = _
    unfold bindC
    rw [bindC_out fun v hv => (List.nodup_cons.mp nd).1 (List.of_mem_zip hv).1, if_neg hk]
    simp
  | p :: P, w :: vs, i + 1, m, nd, h1, h2, hk => by
    show bindC kindOf ((p, w) :: P.zip vs) m x = _
    unfold bindC
    exact bindC_get (i := i) (List.nodup_cons.mp nd).2 (by simpa using h1) (by simpa using h2) hk
def start (N : List Str) (vs : List V) : St := vs.map some ++ List.replicate (N.length - vs.length) none
def cxOf (CX : CXT) (P : Program) (w : World) (K : PySem.W.Frag) (mg : Str → Option Value) (base : Heap) (N : List Str) (qual : Str) (scope : Scope) (f : Addr) (cd : Value) (A : Around) (outer : List Env) (s : Shared) (H : Hp) (E : XK) : Cx where
  prog := P
  w := w
  K := K
  mg := mg
  base := base
  A := A.deeper (envOfC qual scope s.heap.objs.size f cd)
  N := N
  s₀ := s
  H₀ := H
  env := envOfC qual scope s.heap.objs.size f cd
  outer := outer
  stack := envOfC qual scope s.heap.objs.size f cd :: outer
  ex := []
  calm := true
  fn := fun _ => true
  pn := []
  xe := fun e s' => wpAny (model P w) (A.deeper (envOfC qual scope s.heap.objs.size f cd)) (leaving (envOfC qual scope s.heap.objs.size f cd) e) (fun _ s'' => CX outer H s E e s'') (fun e' s'' => CX outer H s E e' s'') s'
theorem cell_has {sc : Scope} {n : Nat} {x : Str} (h : sc.names.lookup x = some .cell) : ∃ c, (cellsFrom n sc.names []).lookup x = some c := by
  have q := PySem.W.cellsFrom_some sc.names n [] (.inl h)
  exact Option.isSome_iff_exists.mp q
theorem inv_start {CX : CXT} {P : Program} {w : World} {K : PySem.W.Frag} {mg : Str → Option Value} {base : Heap} {N ps : List Str} {qual : Str} {scope : Scope} {f : Addr} {cd : Value} {A : Around} {outer : List Env} {s s1 : Shared} {H : Hp} {E : XK} {us : List Value} {vs : List V}
    (S : FnScope N ps scope) (hd : A.handled = none) (e0 : Env0 P w K mg base A outer s H) (hl : vs.length = ps.length) (r : Vals vs us)
    (x : InCallC s s.heap.objs.size (bindL (envOfC qual scope s.heap.objs.size f cd).kindOf (ps.zip us) fun _ => none) (cellsFrom (s.heap.objs.size + 1) scope.names []) (bindC (envOfC qual scope s.heap.objs.size f cd).kindOf (ps.zip us) fun _ => none) s1) :
    Inv (cxOf CX P w K mg base N qual scope f cd A outer s H E) [] (start N vs) H s1 := by
  have hpl : ps.length ≤ N.length := by have := congrArg List.length S.pre; rw [List.length_take] at this; omega
  obtain ⟨h1, tk, rfl, hk⟩ := x.done
  have noA : ∀ b : Addr, b ∉ (cxOf CX P w K mg base N qual scope f cd A outer s H E).ex := fun b z => absurd (show b ∈ ([] : List Addr) from z) (by simp)
  refine ⟨⟨e0.mod, S.kind, rfl, rfl, Nat.le_refl _, fun y z c h1 h2 => ?_, fun y hy => ?_, fun y c _ h => ?_, fun _ => hd, Around.frames_deeper e0.frames, .inr ⟨rfl, rfl⟩, fun b z => absurd z (noA b), e0.bs, e0.bsz, fun b _ _ => noA b, fun b z => absurd z (noA b), e0.funs, e0.frf⟩,
    rfl, e0.bare, Un.kept hk, ⟨_, x.toInCall.ns, fun i y v h1 h2 h3 => ?_⟩, fun y c h => ⟨_, x.cell y c h⟩, e0.hok.fresh (Nat.le_refl _), fun y c h => ?_, fun p hp => absurd (show p ∈ ([] : List (Addr × Obj)) from hp) (by simp), e0.hok.kept hk, ?_⟩
  · exact name_of_addr x.apart (PySem.mem_of_lookup h1) (PySem.mem_of_lookup h2)
  · have hy : scope.names.lookup y = some .cell ∨ scope.names.lookup y = some .free := hy
    rcases hy with hy | hy
    · exact cell_has hy
    · exact absurd rfl (S.nofree _ (PySem.mem_of_lookup hy))
  · exact Nat.le_of_lt (x.above y c (PySem.mem_of_lookup h))
  · have hi : i < vs.length := by
      unfold start at h2
      by_cases hi : i < vs.length
      · exact hi
      · rw [List.getElem?_append_right (by simpa using hi)] at h2
        rw [List.getElem?_replicate] at h2
        split at h2 <;> cases h2
    have ha : vs[i]? = some v := by
      unfold start at h2
      rw [List.getElem?_append_left (by simpa using hi), List.getElem?_map] at h2
      cases e : vs[i]? with
      | none => rw [e] at h2; cases h2
      | some a => rw [e] at h2; cases h2; rfl
    obtain ⟨u, hu, rv⟩ := r.get ha
    have hp : ps[i]? = some y := by
      rw [← S.pre, List.getElem?_take_of_lt (by omega)]; exact h1
    have ndP : ps.Nodup := by rw [← S.pre]; exact S.nd.sublist (List.take_sublist _ _)
    refine ⟨u, rv, ?_⟩
    rcases S.par y (List.mem_of_getElem? hp) with k | k
    · exact .inl ⟨k, bindL_get ndP hp hu k⟩
    · obtain ⟨c, e⟩ := cell_has (n := s.heap.objs.size + 1) k
      refine .inr ⟨.inl k, c, e, ?_⟩
      have q := x.cell y c e
      rw [bindC_get ndP hp hu (by show scope.names.lookup y ≠ _; rw [k]; decide)] at q
      exact q
  · exact e0.hok.fresh (Nat.le_of_lt (x.above y c (PySem.mem_of_lookup h)))
  · unfold start
    show _ = N.length
    rw [List.length_append, List.length_map, List.length_replicate]
    omega
theorem fn_of {CX : CXT} {P : Program} {w : World} {K : PySem.W.Frag} {mg : Str → Option Value} {base : Heap} {k : Nat} {f : Addr} {name qual : Str} {params : Arguments} {body : List Stmt} {scope : Scope} {dV kV doc pm cdv ct oc : Value} {an od : Option Addr}
    {osl : Array (Option Value)} {N ps : List Str} {sp : Sp} (lk : K.lookup f = some ⟨oc, od, .func (PySem.W.fnOf name qual params body scope dV kV doc pm an cdv ct), osl⟩) (hcd : PySem.W.codeIn K cdv qual = true) (S : FnScope N ps scope)
    (len : ∀ vs H Q E, sp vs H Q E → vs.length = ps.length)
    (hbody : ∀ (A : Around) (outer : List Env) (s : Shared) (H : Hp) (vs : List V) (Q : VK) (E : XK), Room k (A.deeper (envOfC qual scope s.heap.objs.size f cdv)) → sp vs H Q E →
      ∃ t, PSs (cxOf CX P w K mg base N qual scope f cdv A outer s H E) body t ∧ t { nx := fun _ H' => Q .non H', rt := Q } (start N vs) H) :
    FnOk P w K mg base CX (k + 1) f (PySem.W.fnOf name qual params body scope dV kV doc pm an cdv ct) ps sp := by
  refine ⟨len, fun A outer s H args us vs Q E hr e0 hb r hsp => ?_⟩
  have hl := len _ _ _ _ hsp
  have KX : K.In s.heap := e0.mod.kin.keeps fun b o e => (e0.bs b o e).1
  have lim : s.heap.NoLimit := e0.mod.nolimit.keeps fun b o e => (e0.bs b o e).1
  have hkind : ∀ y ∈ ps.zip us, scope.names.lookup y.1 = some .local ∨ (scope.names.lookup y.1 = some .cell ∧ ((cellsFrom (s.heap.objs.size + 1) scope.names []).lookup y.1).isSome = true) := fun ⟨n, v⟩ hy => by
    rcases S.par n (List.of_mem_zip hy).1 with q | q
    · exact .inl q
    · exact .inr ⟨q, PySem.W.cellsFrom_some _ _ _ (.inl q)⟩
  refine codeAny_call_function hr.depth (KX _ _ lk) rfl S.co S.gen rfl (PySem.W.codeRec_of KX hcd) (hb _ _ _ _ ?_)
  refine wpAny_newFunctionEnv_cells S.kind hkind fun env he s1 x => ?_
  subst he
  refine ⟨lim.keeps x.toInCall.keep, codeAny_func ?_⟩
  obtain ⟨t, ht, hq⟩ := hbody A outer s H vs Q E (hr.deeper _) hsp
  have I : Inv (cxOf CX P w K mg base N qual scope f cdv A outer s H E) [] (start N vs) H s1 := inv_start S hr.hd e0 hl r x
  refine wpAny_mono (ht [] s1 (start N vs) H _ I hq) (fun fl s' hs => ?_) fun e s' hs => hs
  have fin : ∀ {σ' : St} {H' : Hp} {v : V} {u : Value}, Inv (cxOf CX P w K mg base N qual scope f cdv A outer s H E) [] σ' H' s' → RelV v u → Q v H' → CE outer P w H s Q u s' :=
    fun {σ' H' v u} J rv q => ⟨v, H', J.os, J.bare, J.base, J.hok, rv, q⟩
  cases fl with
  | ret u =>
    obtain ⟨v, σ', H', J, rv, q⟩ := hs
    exact fin J rv q
  | next =>
    obtain ⟨σ', H', J, q⟩ := hs
    exact fin (v := V.non) (u := Value.none) J rfl q
  | brk =>
    obtain ⟨_, _, _, q⟩ := hs
    exact False.elim q
  | cont =>
    obtain ⟨_, _, _, q⟩ := hs
    exact False.elim q
end L2
namespace L2
open PySem PySem.Spec PyProof.Rows
section
variable {X : Cx} {x : Str} {p pos : Pos} {e : Expr} {es : List Expr} {t : TA} {id T : String} {r : List V → Hp → VK → Prop}
def tCB (r : List V → Hp → VK → Prop) (t : TA) : TE := fun σ H Q => t σ H fun vs H1 => r vs H1 Q
theorem pe_callB (hc : CallR X (.builtin id) r) (hg : Gl X x) (hm : X.mg x = none) (hv : bootBuiltins x = some (.builtin id)) (ha : PA X (e :: es) t) (hn : x ≠ "__name__" := by decide) (hdb : (x == ("__debug__" : Str)) = false := by decide)
    (he : starEach (e :: es) X.env = (false, eval e X.env) :: starEach es X.env := by rfl) (hpl : (backTo pos (starEach es X.env)).any (·.1) = false := by rfl) : PE X (.Call (.Name x p) (e :: es) [] pos) (tCB r t) := by
  intro pins s σ H Q I h
  refine wpAny_Call_Name_kw (ld_blt I hg hm hv ?_ hn hdb)
  exact PyProof.Rows.callWith_builtin1 (thn (ha pos pins s σ H _ I h) fun us s1 ⟨vs, H1, I1, r1, q1⟩ => hc pins s1 σ H1 vs us Q I1 r1 q1) he hpl
theorem pe_callTy (hc : CallR X (.type T) r) (hg : Gl X x) (hm : X.mg x = none) (hv : bootBuiltins x = some (.type T)) (ha : PA X (e :: es) t) (hn : x ≠ "__name__" := by decide) (hdb : (x == ("__debug__" : Str)) = false := by decide)
    (he : starEach (e :: es) X.env = (false, eval e X.env) :: starEach es X.env := by rfl) (hpl : (backTo pos (starEach es X.env)).any (·.1) = false := by rfl) : PE X (.Call (.Name x p) (e :: es) [] pos) (tCB r t) := by
  intro pins s σ H Q I h
  refine wpAny_Call_Name_kw (ld_blt I hg hm hv ?_ hn hdb)
  exact PyProof.Rows.callWith_type1 (thn (ha pos pins s σ H _ I h) fun us s1 ⟨vs, H1, I1, r1, q1⟩ => hc pins s1 σ H1 vs us Q I1 r1 q1) he hpl
end
end L2
namespace HT
open PySem PyProof.Rows
section
open PySem.SeqAt
open PySem.AutoSeq1 (wpAny_loadPart')
open PySem.MeetsSeq PySem.MeetsSeq2 PySem.MeetsSeq3
end
section
variable {prog : Program} {w : World} {A : Around} {E : Value → Shared → Prop} {s : Shared}
def sIx (n d : Nat) : Option Int → Nat
  | none => d
  | some v => if v < 0 then (v + (n : Int)).toNat else min v.toNat n
theorem sIx_none (n d : Nat) : sIx n d none = d := rfl
theorem sIx_nat (n d k : Nat) : sIx n d (some (k : Int)) = min k n := by
  show (if (k : Int) < 0 then ((k : Int) + (n : Int)).toNat else min (k : Int).toNat n) = min k n
  rw [if_neg (by omega), Int.toNat_natCast]
end
end HT
namespace L2
open PySem PySem.Spec PyProof.Rows
abbrev TO := St → Hp → (Option Int → Hp → Prop) → Prop
def PO (X : Cx) (e : Option Expr) (t : TO) : Prop :=
  ∀ (pins : List (Addr × Obj)) (s : Shared) (σ : St) (H : Hp) (Q : Option Int → Hp → Prop), Inv X pins σ H s → t σ H Q →
    wpAny (model X.prog X.w) X.A (evalPart e X.env) (fun u s' => ∃ o H', Inv X pins σ H' s' ∧ IsPart u o ∧ Q o H') X.xe s
def tNoPart : TO := fun _ H Q => Q none H
def tPart (t : TE) : TO := fun σ H Q => t σ H fun x H1 => ∃ i, x = .int i ∧ Q (some i) H1
theorem intsAre_of {ns : List Int} : ∀ {us : List Value}, Vals (ns.map V.int) us → IntsAre us ns := by
  induction ns with
  | nil => intro us r; rw [List.map_nil] at r; cases r; exact .nil
  | cons n ns ih =>
    intro us r
    rw [List.map_cons] at r
    cases r with
    | cons r1 r2 =>
      obtain ⟨t, e⟩ := r1
      subst e
      exact .cons n t (ih r2)
section
variable {X : Cx} {e : Expr} {te : TE} {lo hi : Option Expr} {tl th : TO} {pos p2 : Pos}
theorem po_none : PO X none tNoPart := by
  intro pins s σ H Q I h
  rw [evalPart_none]
  exact wpAny_pure ⟨none, H, I, .none, h⟩
theorem po_some (h : PE X e te) : PO X (some e) (tPart te) := by
  intro pins s σ H Q I hw
  rw [evalPart_some]
  refine thn (h pins s σ H _ I hw) fun u s1 ⟨x, H1, I1, r1, q1⟩ => ?_
  obtain ⟨i, rfl, q⟩ := q1
  obtain ⟨t, rfl⟩ := r1
  exact ⟨some i, H1, I1, .int i t, q⟩
def SlR (X : Cx) (r : V → Option Int → Option Int → Hp → VK → Prop) : Prop :=
  ∀ (pins : List (Addr × Obj)) (s : Shared) (σ : St) (H : Hp) (x : V) (v vl vu : Value) (lo hi : Option Int) (sl : Addr) (Q : VK), Inv X pins σ H s → RelV x v → s.heap.IsSliceOf sl vl vu .none → IsPart vl lo → IsPart vu hi → r x lo hi H Q →
    ∃ T id, typeLookup (.type T) "__getitem__" = pure (some (.builtin id)) ∧ s.TypeIs v T ∧ wpAny (model X.prog X.w) X.A (getItem v (.ref sl)) (EP X pins σ Q) X.xe s
def tSl (r : V → Option Int → Option Int → Hp → VK → Prop) (te : TE) (tl th : TO) : TE := fun σ H Q => te σ H fun x H1 => tl σ H1 fun l H2 => th σ H2 fun u H3 => r x l u H3 Q
theorem pe_slice {r : V → Option Int → Option Int → Hp → VK → Prop} (hr : SlR X r) (he : PE X e te) (hl : PO X lo tl) (hu : PO X hi th) : PE X (.Subscript e (.Slice lo hi none p2) pos) (tSl r te tl th) := by
  intro pins s σ H Q I h
  refine Subscript_ (thn (he pins s σ H _ I h) fun v s1 ⟨x, H1, I1, r1, q1⟩ => ?_)
  refine wpAny_Slice (thn (hl pins s1 σ H1 _ I1 q1) fun vl s2 ⟨l, H2, I2, pl, q2⟩ => thn (hu pins s2 σ H2 _ I2 q2) fun vu s3 ⟨u, H3, I3, pu, q3⟩ => ?_)
  rw [evalPart_none]
  refine wpAny_pure ?_
  have I4 : Inv X pins σ H3 { s3 with heap := s3.heap.push { cls := .type "slice", data := .fields #[vl, vu, .none] } } := I3.kept (t' := s3.toks) fun b ob q => Heap.get?_push_of_some _ q
  obtain ⟨T, id, hT, ht, hg⟩ := hr pins { s3 with heap := s3.heap.push { cls := .type "slice", data := .fields #[vl, vu, .none] } } σ H3 x v vl vu l u s3.heap.objs.size Q I4 r1 (Heap.IsSliceOf.new ..) pl pu q3
  show wpAny (model X.prog X.w) X.A (subscriptTail e (.Slice lo hi none p2) v (.ref s3.heap.objs.size)) (EP X pins σ Q) X.xe { s3 with heap := s3.heap.push { cls := .type "slice", data := .fields #[vl, vu, .none] } }
  exact tail_any (ops := [.ref s3.heap.objs.size, v]) ht hT hg (by with_unfolding_all rfl)
def cutV (xs : List V) (lo hi : Option Int) : List V := (xs.drop (HT.sIx xs.length 0 lo)).take (HT.sIx xs.length xs.length hi - HT.sIx xs.length 0 lo)
theorem cutV_length (xs : List V) (lo hi : Option Int) : (cutV xs lo hi).length ≤ xs.length := by
  unfold cutV
  rw [List.length_take, List.length_drop]
  omega
end
end L2
namespace L2
open PySem PySem.Spec PyProof.Rows
def ixN (n : Nat) (i : Int) : Option Nat := if 0 ≤ i then (if i < n then some i.toNat else none) else if -(n : Int) ≤ i then some (i + n).toNat else none
def atI {α : Type} (xs : List α) (i : Int) : Option α := (ixN xs.length i).bind fun j => xs[j]?
theorem ixN_seq {n : Nat} {i : Int} {j : Nat} (h : ixN n i = some j) : seqIndex? i n = some j ∧ j < n ∧ -(n : Int) ≤ i ∧ i < n := by
  unfold ixN at h
  by_cases h0 : 0 ≤ i
  · rw [if_pos h0] at h
    by_cases h1 : i < n
    · rw [if_pos h1] at h
      have e : i.toNat = j := Option.some.inj h
      exact ⟨by rw [seqIndex_of h0 h1, e], by omega, by omega, h1⟩
    · rw [if_neg h1] at h; cases h
  · rw [if_neg h0] at h
    by_cases h1 : -(n : Int) ≤ i
    · rw [if_pos h1] at h
      have e : (i + n).toNat = j := Option.some.inj h
      exact ⟨by rw [seqIndex_neg (by omega) h1, e], by omega, h1, by omega⟩
    · rw [if_neg h1] at h; cases h
theorem atI_get {α : Type} {xs : List α} {i : Int} {v : α} (h : atI xs i = some v) : ∃ j, seqIndex? i xs.length = some j ∧ xs[j]? = some v ∧ j < xs.length ∧ -(xs.length : Int) ≤ i ∧ i < xs.length := by
  unfold atI at h
  cases e : ixN xs.length i with
  | none => rw [e] at h; cases h
  | some j =>
    rw [e] at h
    obtain ⟨h1, h2, h3, h4⟩ := ixN_seq e
    exact ⟨j, h1, h, h2, h3, h4⟩
theorem atI_nat {α : Type} {xs : List α} {j : Nat} {v : α} (h : xs[j]? = some v) : atI xs (j : Int) = some v := by
  have hj : j < xs.length := (List.getElem?_eq_some_iff.mp h).1
  have e : ixN xs.length (j : Int) = some j := by
    unfold ixN
    rw [if_pos (by omega), if_pos (by omega)]; simp
  unfold atI; rw [e]; exact h
def PlainIx (b : Expr) : Prop := ∀ o i, subscripted b false o i = operate [o, i] (getItem o i)
def IxR (X : Cx) (r : R2) : Prop :=
  ∀ (value slice : Expr) (pins : List (Addr × Obj)) (s : Shared) (σ : St) (H : Hp) (x y : V) (v u : Value) (Q : VK), Inv X pins σ H s → RelV x v → RelV y u → r x y H Q →
    subscripted slice false v u = operate [v, u] (getItem v u) → wpAny (model X.prog X.w) X.A (subscriptTail value slice v u) (EP X pins σ Q) X.xe s
def MtR (X : Cx) (id : String) (r : V → List V → Hp → VK → Prop) : Prop :=
  ∀ (pins : List (Addr × Obj)) (s : Shared) (σ : St) (H : Hp) (x : V) (xs : List V) (v : Value) (us : List Value) (Q : VK), Inv X pins σ H s → RelV x v → Vals xs us → r x xs H Q →
    wpAny (model X.prog X.w) X.A (call (.builtin id) (v :: us)) (EP X pins σ Q) X.xe s
section
variable {X : Cx} {a b : Expr} {ta tb : TE} {pos : Pos}
theorem pe_ix {r : R2} (hr : IxR X r) (ha : PE X a ta) (hb : PE X b tb) (hs : PlainIx b) : PE X (.Subscript a b pos) (tOp r ta tb) := by
  intro pins s σ H Q I h
  exact Subscript_ (binT ha hb I h fun v u s2 x y H2 I2 rx ry q => hr a b pins s2 σ H2 x y v u Q I2 rx ry q (hs _ _))
def rIxL (K : PySem.W.Frag) : R2 := fun x y H Q => ∃ p xs i v, x = .ref p ∧ y = .int i ∧ SqL K H p xs ∧ atI xs i = some v ∧ Q v H
def rIxT (K : PySem.W.Frag) : R2 := fun x y H Q => ∃ p xs i v, x = .ref p ∧ y = .int i ∧ SqT K H p xs ∧ atI xs i = some v ∧ Q v H
theorem ix_list : IxR X (rIxL X.K) := by
  intro value slice pins s σ H x y v u Q I rx ry h hs
  obtain ⟨p, xs, i, z, rfl, rfl, hq, he, q⟩ := h
  cases rx
  obtain ⟨t, rfl⟩ := ry
  obtain ⟨its, r, pl, hz⟩ := I.list hq
  obtain ⟨j, h1, h2, h3, h4, h5⟩ := atI_get he
  obtain ⟨w, ew, rw'⟩ := r.get h2
  have hl := r.length
  have hn := line63
  have fin : EP X pins σ Q w s := ⟨z, H, I, rw', q⟩
  by_cases h0 : 0 ≤ i
  · have hj : i.toNat = j := by
      rw [seqIndex_of h0 h5] at h1
      exact Option.some.inj h1
    exact item_listR pl.isList h0 (by omega) (by rw [hj]; simpa using ew) fin hs
  · have hj : (i + (its.toArray.size : Int)).toNat = j := by
      rw [seqIndex_neg (by omega) h4] at h1
      rw [List.size_toArray, ← hl]
      exact Option.some.inj h1
    exact subscriptTail_builtinR (x := w) pl.isList.typeIs slot_list_getitem.lookup
      (wpAny_getItem_list_neg (Q := fun r s' => r = w ∧ EP X pins σ Q r s') pl.isList (by omega) (by rw [List.size_toArray] <;> omega) (by omega) (by rw [hj]; simpa using ew) ⟨rfl, fin⟩) hs
theorem ix_tup : IxR X (rIxT X.K) := by
  intro value slice pins s σ H x y v u Q I rx ry h hs
  obtain ⟨p, xs, i, z, rfl, rfl, hq, he, q⟩ := h
  cases rx
  obtain ⟨t, rfl⟩ := ry
  obtain ⟨its, r, pl, hz⟩ := I.tuple hq
  obtain ⟨j, h1, h2, h3, h4, h5⟩ := atI_get he
  obtain ⟨w, ew, rw'⟩ := r.get h2
  have hl := r.length
  have hn := line63
  have fin : EP X pins σ Q w s := ⟨z, H, I, rw', q⟩
  exact subscriptTail_builtinR (x := w) pl.typeIs slot_tuple_getitem.lookup
    (getItem_tuple (j := j) (Q := fun r s' => r = w ∧ EP X pins σ Q r s') pl (by omega) (by omega) (by rw [List.size_toArray, ← hl]; exact h1) (by simpa using ew) ⟨rfl, fin⟩) hs
theorem mapSeq_set (its : List Value) (n j : Nat) (u : Value) : Obj.mapSeq (·.setIfInBounds j u) { cls := .type "list", data := .seq its.toArray n } = { cls := .type "list", data := .seq (its.set j u).toArray n } := by
  simp [Obj.mapSeq]
theorem Inv.lst {pins : List (Addr × Obj)} {σ : St} {H : Hp} {s : Shared} {p : Addr} {xs : List V} (I : Inv X pins σ H s) (h : H p = some (.lst xs)) :
    ∃ (its : List Value) (n : Nat), Vals xs its ∧ s.heap.get? p = some { cls := .type "list", data := .seq its.toArray n } ∧ xs.length ≤ sizeLine := by
  obtain ⟨z, its, n, r, e⟩ := I.hok p _ h
  exact ⟨its, n, r, e, z⟩
theorem Inv.lstUpd {pins : List (Addr × Obj)} {σ : St} {H : Hp} {s : Shared} {p : Addr} {xs ys : List V} {its its' : List Value} {n n' : Nat} {f : Obj → Obj} (I : Inv X pins σ H s) (h : H p = some (.lst xs))
    (ho : s.heap.get? p = some { cls := .type "list", data := .seq its.toArray n }) (hf : f { cls := .type "list", data := .seq its.toArray n } = { cls := .type "list", data := .seq its'.toArray n' }) (r : Vals ys its') (hz : ys.length ≤ sizeLine) (t : Nat) :
    Inv X pins σ (upd H p (.lst ys)) { s with heap := s.heap.update p f, toks := t } := by
  have e : (s.heap.update p f).get? p = some { cls := .type "list", data := .seq its'.toArray n' } := by
    rw [Heap.get?_update_self f ho (by rw [hf] <;> rfl), hf]
  refine I.write (x := p) (e := p) (by rw [h]; trivial) (.inl rfl) (fun b u hb q => (Heap.get?_update_other _ _ (Ne.symm hb)).trans q) ⟨_, e⟩ ?_
  exact ⟨hz, its', n', r, e⟩
def rSetL : V → V → V → Hp → (Hp → Prop) → Prop := fun o i v H Q => ∃ p xs k j, o = .ref p ∧ i = .int k ∧ H p = some (.lst xs) ∧ ixN xs.length k = some j ∧ Q (upd H p (.lst (xs.set j v)))
theorem set_list : PSet X rSetL := by
  intro pins s σ H o i v ov iv u Q I ro ri rv h
  obtain ⟨p, xs, k, j, rfl, rfl, hp, hj, q⟩ := h
  cases ro
  obtain ⟨t, rfl⟩ := ri
  obtain ⟨its, n, r, ho, hz⟩ := I.lst hp
  obtain ⟨h1, h2, h3, h4⟩ := ixN_seq hj
  have hl := r.length
  have hn := line63
  have I' : Inv X pins σ (upd H p (.lst (xs.set j v))) { s with heap := s.heap.update p (Obj.mapSeq (·.setIfInBounds j u)) } :=
    I.lstUpd hp ho (mapSeq_set its n j u) (r.set rv j) (by rw [List.length_set]; exact hz) s.toks
  by_cases h0 : 0 ≤ k
  · have hk : k.toNat = j := by
      rw [seqIndex_of h0 h4] at h1
      exact Option.some.inj h1
    exact PySem.W.ki_setAt ho h0 (by omega) (by rw [List.size_toArray, ← hl]; exact h4) (by rw [hk]; exact ⟨_, I', q⟩)
  · have hk : (k + (its.toArray.size : Int)).toNat = j := by
      rw [seqIndex_neg (by omega) h3] at h1
      rw [List.size_toArray, ← hl]
      exact Option.some.inj h1
    exact PySem.W.ki_setBack ho (by omega) (by rw [List.size_toArray, ← hl]; exact h3) (by omega) (by rw [hk]; exact ⟨_, I', q⟩)
theorem slice_bounds (lo hi : Option Int) (n : Nat) : (sliceBounds lo hi none n).1 = ((HT.sIx n 0 lo : Nat) : Int) ∧ (sliceBounds lo hi none n).2.1 = ((HT.sIx n n hi : Nat) : Int) ∧ (sliceBounds lo hi none n).2.2 = 1 := by
  refine ⟨?_, ?_, rfl⟩
  · cases lo with
    | none => simp [sliceBounds, HT.sIx]
    | some i =>
      simp only [sliceBounds, HT.sIx, Option.getD_none, show (1 : Int) > 0 by decide, if_true]
      by_cases h : i < 0
      · simp only [h, if_true] <;> omega
      · simp only [h, if_false] <;> omega
  · cases hi with
    | none => simp [sliceBounds, HT.sIx]
    | some i =>
      simp only [sliceBounds, HT.sIx, Option.getD_none, show (1 : Int) > 0 by decide, if_true]
      by_cases h : i < 0
      · simp only [h, if_true] <;> omega
      · simp only [h, if_false] <;> omega
theorem slicePick_cut (its : List Value) (lo hi : Option Int) : slicePick its.toArray lo hi none = ((its.drop (HT.sIx its.length 0 lo)).take (HT.sIx its.length its.length hi - HT.sIx its.length 0 lo)).toArray := by
  obtain ⟨h1, h2, h3⟩ := slice_bounds lo hi its.toArray.size
  unfold slicePick
  rw [h1, h2, h3]
  simp only [sliceRange_one, pick_run, List.size_toArray] <;> rfl
def rSlL (K : PySem.W.Frag) : V → Option Int → Option Int → Hp → VK → Prop := fun x lo hi H Q => ∃ a xs, x = .ref a ∧ SqL K H a xs ∧ ∀ p, H p = none → Q (.ref p) (upd H p (.lst (cutV xs lo hi)))
theorem sl_list : SlR X (rSlL X.K) := by
  intro pins s σ H x v vl vu lo hi sl Q I rx hs pl pu h
  obtain ⟨a, xs, rfl, hx, q⟩ := h
  cases rx
  obtain ⟨its, r, ht, hz⟩ := I.list hx
  have hlen := r.length
  refine ⟨"list", _, slot_list_getitem.lookup, ht.isList.typeIs, ?_⟩
  refine wpAny_getItem_list_slice ht.isList hs pl pu .none (by simp) ?_ (by rw [List.size_toArray] <;> omega)
  rw [slicePick_cut, ← hlen]
  refine ⟨.ref s.heap.objs.size, _, I.laid (t' := s.toks) (o := .lst (cutV xs lo hi)) (fun b ob q => Heap.get?_push_of_some _ q) (Nat.le_refl _) ?_, rfl, q _ (I.hok.fresh (Nat.le_refl _))⟩
  exact ⟨Nat.le_trans (cutV_length xs lo hi) hz, _, 0, (r.drop (HT.sIx xs.length 0 lo)).take (HT.sIx xs.length xs.length hi - HT.sIx xs.length 0 lo), Heap.get?_push_size _ rfl⟩
theorem call_list_of : CallR X (.type "list") (fun xs H Q => ∃ p ys, xs = [.ref p] ∧ (SqL X.K H p ys ∨ SqT X.K H p ys) ∧ ∀ l, H l = none → Q (.ref l) (upd H l (.lst ys))) := by
  intro pins s σ H xs us Q I r h
  obtain ⟨p, ys, rfl, hq, q⟩ := h
  obtain ⟨u, rfl, rx⟩ := vals1 r
  cases rx
  have fin : ∀ (its : List Value), Vals ys its → ys.length ≤ sizeLine → ∀ (h' : Heap) (c' : Nat), (∀ b o', s.heap.get? b = some o' → h'.get? b = some o') →
      h'.get? s.heap.objs.size = some { cls := .type "list", dict := none, data := .seq its.toArray c', slots := #[] } → EP X pins σ Q (.ref s.heap.objs.size) { s with heap := h' } := fun its r' hz h' c' kp e =>
    ⟨.ref s.heap.objs.size, _, I.laid (t' := s.toks) kp (Nat.le_refl _) (show ObjOk X.prog X.w _ h' _ (.lst ys) from ⟨hz, its, c', r', e⟩), rfl, q _ (I.hok.fresh (Nat.le_refl _))⟩
  rcases hq with hq | hq
  · obtain ⟨its, r', pl, hz⟩ := I.list hq
    have hlen := r'.length
    obtain ⟨o, ho, hc, n, hd⟩ := pl.isList
    exact call_list_seq p (.inl rfl) ho hc hd (fun h' c' kp e => fin its r' hz h' c' kp e) (by simp only [List.size_toArray] <;> omega)
  · obtain ⟨its, r', pl, hz⟩ := I.tuple hq
    have hlen := r'.length
    obtain ⟨o, ho, hc, n, hd⟩ := pl
    exact call_list_seq p (.inr rfl) ho hc hd (fun h' c' kp e => fin its r' hz h' c' kp e) (by simp only [List.size_toArray] <;> omega)
def tyV (K : PySem.W.Frag) (T : String) (x : V) (H : Hp) : Prop := match x with
  | .str _ => T = "str"
  | .int _ => T = "int"
  | .ref p => (T = "list" ∧ ∃ xs, SqL K H p xs) ∨ (T = "tuple" ∧ ∃ o, K.lookup p = some o ∧ o.cls = .type "tuple" ∧ o.dict = none) ∨
      (T = "dict" ∧ ((∃ kvs, H p = some (.dK kvs)) ∨ ∃ kvs, H p = some (.dT kvs))) ∨ (T = "set" ∧ ∃ S n, H p = some (.set S n))
  | _ => False
theorem tyV_is {pins : List (Addr × Obj)} {σ : St} {H : Hp} {s : Shared} {T : String} {x : V} {v : Value} (I : Inv X pins σ H s) (r : RelV x v) (ty : tyV X.K T x H) :
    s.TypeIs v T ∧ ∀ a, v = .ref a → ∃ ob, s.heap.get? a = some ob ∧ ob.dict = none := by
  cases x with
  | str z =>
    obtain ⟨t, rfl⟩ := r
    cases (show T = "str" from ty)
    exact ⟨typeIs_str s z t, fun _ e => nomatch e⟩
  | int i =>
    obtain ⟨t, rfl⟩ := r
    cases (show T = "int" from ty)
    exact ⟨typeIs_int s i t, fun _ e => nomatch e⟩
  | ref p =>
    cases r
    rcases ty with ⟨rfl, xs, hq⟩ | ⟨rfl, o, hk, hc, hd⟩ | ⟨rfl, hk⟩ | ⟨rfl, S, n, hk⟩
    · obtain ⟨its, _, pl, _⟩ := I.list hq
      refine ⟨pl.isList.typeIs, fun a e => ?_⟩
      cases e
      obtain ⟨o, n, e, c, hd, _⟩ := pl
      exact ⟨o, e, hd⟩
    · refine ⟨⟨o, I.kIn p o hk, hc⟩, fun a e => ?_⟩
      cases e
      exact ⟨o, I.kIn _ o hk, hd⟩
    · have z : ∃ o, s.heap.get? p = some o ∧ o.ExactDict := by
        rcases hk with ⟨kvs, hk⟩ | ⟨kvs, hk⟩
        · obtain ⟨_, _, _, _, o, _, _, e, ex, _⟩ := I.hok p _ hk
          exact ⟨o, e, ex⟩
        · obtain ⟨_, _, _, _, o, _, _, e, ex, _⟩ := I.hok p _ hk
          exact ⟨o, e, ex⟩
      obtain ⟨o, e, ex⟩ := z
      refine ⟨⟨o, e, ex.1⟩, fun a e2 => ?_⟩
      cases e2
      exact ⟨o, e, ex.2.1⟩
    · obtain ⟨o, _, _, _, e, ex, _⟩ := I.hok p _ hk
      refine ⟨⟨o, e, ex.1⟩, fun a e2 => ?_⟩
      cases e2
      exact ⟨o, e, ex.2.1⟩
  | _ => exact False.elim ty
def tBM0 (K : PySem.W.Frag) (T : String) (r : V → List V → Hp → VK → Prop) (to : TE) : TE := fun σ H Q => to σ H fun x H1 => tyV K T x H1 ∧ r x [] H1 Q
def tBM (K : PySem.W.Frag) (T : String) (r : V → List V → Hp → VK → Prop) (to : TE) (t : TA) : TE := fun σ H Q => to σ H fun x H1 => tyV K T x H1 ∧ t σ H1 fun xs H2 => r x xs H2 Q
variable {o e : Expr} {es : List Expr} {to : TE} {t : TA} {name : Str} {apos cpos : Pos} {T id : String} {r : V → List V → Hp → VK → Prop}
theorem pe_bm0 (pa : PlainAttrs T) (slot : Slot T name id) (hty : typeOf (.builtin id) = pure (.type "method_descriptor")) (hm : MtR X id r) (ho : PE X o to)
    (hbase : attributeBase o name X.env (eval o X.env) = eval o X.env := by rfl) (hline : (apos.endLine == cpos.line) = true := by rfl) : PE X (.Call (.Attribute o name apos) [] [] cpos) (tBM0 X.K T r to) := by
  intro pins s σ H Q I h
  refine wpAny_Call_method0_late hbase hline (thn (ho pins s σ H _ I h) fun v s1 ⟨x, H1, I1, r1, ty, q1⟩ => ?_)
  obtain ⟨h1, h2⟩ := tyV_is I1 r1 ty
  exact ⟨T, id, pa, slot, hty, h1, h2, Calls.callWith_builtin rfl (PySem.evalArgs_none (hm pins s1 σ H1 x [] v [] Q I1 r1 .nil q1))⟩
theorem pe_bm (pa : PlainAttrs T) (slot : Slot T name id) (hty : typeOf (.builtin id) = pure (.type "method_descriptor")) (hm : MtR X id r) (ho : PE X o to) (ha : PA X (e :: es) t)
    (hbase : attributeBase o name X.env (eval o X.env) = eval o X.env := by rfl)
    (hfew : ((backTo cpos (starEach (e :: es) X.env)).all (fun x => !x.1) && (backToKw cpos (keywordEach [] X.env)).all (fun x => x.1.isSome)
      && decide ((e :: es).length + ([] : List Keyword).length + (if ([] : List Keyword).isEmpty then 0 else 1) < 30)) = true := by rfl)
    (hline : (apos.endLine == cpos.line) = true := by rfl) (hs : starEach (e :: es) X.env = (false, eval e X.env) :: starEach es X.env := by rfl) (hplain : (backTo cpos (starEach es X.env)).any (·.1) = false := by rfl) :
    PE X (.Call (.Attribute o name apos) (e :: es) [] cpos) (tBM X.K T r to t) := by
  intro pins s σ H Q I h
  refine wpAny_Call_method_late hbase hfew hline rfl (thn (ho pins s σ H _ I h) fun v s1 ⟨x, H1, I1, r1, ty, q1⟩ => ?_)
  obtain ⟨h1, h2⟩ := tyV_is I1 r1 ty
  refine ⟨T, id, pa, slot, hty, h1, h2, ?_⟩
  have hA := ha cpos pins s1 σ H1 _ I1 q1
  rw [hs] at hA ⊢
  refine Calls.callWith_builtin (by show (false || (backTo cpos (starEach es X.env)).any (·.1)) = false; rw [hplain] <;> rfl) (Calls.evalArgs_plain ?_)
  exact thn hA fun us s2 ⟨vs, H2, I2, r2, q2⟩ => hm pins s2 σ H2 x vs v us Q I2 r1 r2 q2
/- xs.append(e), list.index on a module's tuple .. are MtR facts of 06m -/
end
end L2
namespace L2
open PySem PySem.Spec PyProof.Rows
def MtM (X : Cx) (id : String) (r : V → List V → Hp → VK → Prop) : Prop :=
  ∀ (pins : List (Addr × Obj)) (s : Shared) (σ : St) (H : Hp) (x : V) (xs : List V) (v : Value) (us : List Value) (Q : VK), Inv X pins σ H s → RelV x v → Vals xs us → r x xs H Q →
    wpAny (model X.prog X.w) X.A (call (.builtin id) (v :: us)) (EP X pins σ Q) X.xe s
theorem Vals.one : ∀ {x : V} {us : List Value}, Vals [x] us → ∃ u, us = [u] ∧ RelV x u
  | _, _, .cons r .nil => ⟨_, rfl, r⟩
theorem Vals.zero : ∀ {us : List Value}, Vals [] us → us = []
  | _, .nil => rfl
theorem Vals.reverse {xs : List V} {us : List Value} (h : Vals xs us) : Vals xs.reverse us.reverse := by
  induction h with
  | nil => exact .nil
  | cons r t ih => rw [List.reverse_cons, List.reverse_cons]; exact Vals.append ih (.cons r .nil)
section
variable {X : Cx} {pins : List (Addr × Obj)} {σ : St} {H : Hp} {s : Shared} {l b : Addr} {xs ys zs : List V}
theorem Inv.lset {its its' : List Value} {n : Nat} {f : Array Value → Array Value} {t' : Nat} (I : Inv X pins σ H s) (hH : H l = some (.lst xs))
    (e : s.heap.get? l = some { cls := .type "list", data := .seq its.toArray n }) (hf : f its.toArray = its'.toArray) (hv : Vals ys its') (hz : ys.length ≤ sizeLine) :
    Inv X pins σ (upd H l (.lst ys)) { s with heap := s.heap.update l (Obj.mapSeq f), toks := t' } := by
  have q := PySem.IsL.update e f
  rw [hf] at q
  refine I.write (x := l) (e := l) (by rw [hH]; exact trivial) (.inl rfl) (fun b' u hb hu => (Heap.get?_update_other s.heap (Obj.mapSeq f) (Ne.symm hb)).trans hu) ⟨_, q⟩ ?_
  exact ⟨hz, its', _, hv, q⟩
theorem Inv.lnew {its : List Value} {t' : Nat} (I : Inv X pins σ H s) (hv : Vals ys its) (hz : ys.length ≤ sizeLine) :
    Inv X pins σ (upd H s.heap.objs.size (.lst ys)) { s with heap := s.heap.push { cls := .type "list", data := .seq its.toArray }, toks := t' } :=
  I.laid (fun _ _ q => Heap.get?_push_of_some _ q) (Nat.le_refl _) ⟨hz, its, 0, hv, Heap.get?_push_size _ rfl⟩
theorem Inv.fresh (I : Inv X pins σ H s) : H s.heap.objs.size = none := I.hok.fresh (Nat.le_refl _)
theorem Inv.lstM (I : Inv X pins σ H s) (hH : H l = some (.lst xs)) : xs.length ≤ sizeLine ∧ ∃ (its : List Value) (n : Nat), Vals xs its ∧ xs.length = its.length ∧ s.heap.get? l = some { cls := .type "list", data := .seq its.toArray n } := by
  obtain ⟨z, its, n, r, e⟩ := I.hok l _ hH
  exact ⟨z, its, n, r, r.length, e⟩
end
section
variable {X : Cx}
def rAppend : V → List V → Hp → VK → Prop := fun x vs H Q => ∃ l xs y, x = .ref l ∧ vs = [y] ∧ H l = some (.lst xs) ∧ xs.length < sizeLine ∧ Q .non (upd H l (.lst (xs ++ [y])))
theorem mt_append : MtM X "list.append" rAppend := by
  intro pins s σ H x vs v us Q I rx rv h
  obtain ⟨l, xs, y, rfl, rfl, hH, hz, q⟩ := h
  cases rx
  obtain ⟨u, rfl, ru⟩ := rv.one
  obtain ⟨z, its, n, r, hl, e⟩ := I.lstM hH
  refine call_meets F.slot_list_append ⟨_, e, rfl⟩ F.entry_list_append (F.args_list_append_2 _ _) (PySem.list_append l its.toArray n u (by rw [List.size_toArray]; omega)) ⟨e, ?_⟩
  refine ⟨.non, _, I.lset (its' := its ++ [u]) hH e (by simp) (r.append (.cons ru .nil)) ?_, rfl, q⟩
  rw [List.length_append, List.length_singleton]
  omega
def rReverse : V → List V → Hp → VK → Prop := fun x vs H Q => ∃ l xs, x = .ref l ∧ vs = [] ∧ H l = some (.lst xs) ∧ Q .non (upd H l (.lst xs.reverse))
theorem mt_reverse : MtM X "list.reverse" rReverse := by
  intro pins s σ H x vs v us Q I rx rv h
  obtain ⟨l, xs, rfl, rfl, hH, q⟩ := h
  cases rx
  have hus := rv.zero
  subst hus
  obtain ⟨z, its, n, r, hl, e⟩ := I.lstM hH
  refine call_meets F.slot_list_reverse ⟨_, e, rfl⟩ F.entry_list_reverse (F.args_list_reverse_1 _) (AutoSeq1.list_reverse_list_0 l its.toArray n (by rw [List.size_toArray]; omega)) ⟨e, ?_⟩
  refine ⟨.non, _, I.lset (its' := its.reverse) hH e (by simp) r.reverse ?_, rfl, q⟩
  rw [List.length_reverse]
  omega
def rCat : R2 := fun x y H Q => ∃ l b xs zs, x = .ref l ∧ y = .ref b ∧ H l = some (.lst xs) ∧ H b = some (.lst zs) ∧ xs.length + zs.length ≤ sizeLine ∧ ∀ p, H p = none → Q (.ref p) (upd H p (.lst (xs ++ zs)))
theorem op_cat : OpR X (binaryOp .Add) rCat := by
  intro pins s σ H x y v u Q I rx ry h
  obtain ⟨l, b, xs, zs, rfl, rfl, hH, hB, hz, q⟩ := h
  cases rx
  cases ry
  obtain ⟨z, its, n, r, hl, e⟩ := I.lstM hH
  obtain ⟨z2, its2, n2, r2, hl2, e2⟩ := I.lstM hB
  refine PySem.P.add_list e e2 ?_ (by rw [List.size_toArray, List.size_toArray]; omega)
  have ea : its.toArray ++ its2.toArray = (its ++ its2).toArray := by simp
  rw [ea]
  exact ⟨.ref _, _, I.lnew (t' := s.toks) (r.append r2) (by rw [List.length_append]; omega), rfl, q _ I.fresh⟩
end
section
variable {prog : Program} {w : World} {A : Around} {E : Value → Shared → Prop} {s : Shared}
set_option maxRecDepth 100000 in
end
section
variable {X : Cx}
end
end L2
namespace Att
open PySem PySem.W PySem.Calls PyProof.Rows
theorem ints_of_wellAll {P : Params} {h : Heap} : ∀ (ns : List Int) (vs : List Value), WellAll P h vs (ns.map WData.int) → IntsAre vs ns := by
  intro ns
  induction ns with
  | nil =>
    intro vs w
    rw [List.map_nil] at w
    cases w
    exact .nil
  | cons n ns ih =>
    intro vs w
    rw [List.map_cons] at w
    cases w with
    | cons a b =>
      cases a
      exact .cons _ _ (ih _ b)
theorem script_of {l : OpenLaw} {n : Nat} (hn : l.most = some n) {P : Params} {h : Heap} {args : List WData} {vals : List Value}
    (hpre : l.row.toRowW.claim.pre args = true) (hwl : WellAll P h vals args) :
    ∃ a vs ns, vals = [Value.ref a] ∧ args = [WData.list (ns.map WData.int)] ∧ h.get? a = some { cls := .type "list", data := .seq vs.toArray } ∧ IntsAre vs ns ∧ ns.length ≤ n := by
  have hsh : WShape.hasAll [] args [.list .int] = true := (pre_splitW hpre).1
  have hc : l.pre.holds [] { args := args } = true := (pre_splitW hpre).2
  obtain ⟨d, r, rfl, h1, h2⟩ := hasAllW_cons hsh
  obtain rfl := hasAllW_nil h2
  obtain ⟨xs, rfl, h3⟩ := hasW_list h1
  obtain ⟨ns, rfl⟩ := items_int h3
  have hlen : ns.length ≤ n := by
    unfold OpenLaw.pre at hc
    have h4 : (WTm.not (.lt (.lit (.int (n : Int))) (.len (.arg 0)))).holds [] { args := [.list (ns.map .int)] } = true := by
      have h4 := (holds_andW hc).1
      rw [hn] at h4
      exact h4
    have h5 := condW_of h4 (w_not (w_lt w_lit (w_len_list (w_arg rfl))))
    rw [List.length_map] at h5
    refine Nat.le_of_not_lt fun q => ?_
    have q' : (n : Int) < ((ns.length : Nat) : Int) := by omega
    first
      | (rw [decide_eq_true q'] at h5; exact absurd h5 (by decide))
      | (simp at h5; omega)
  cases hwl with
  | cons w1 w2 =>
    cases w2
    cases w1 with
    | list ho hall => exact ⟨_, _, ns, rfl, rfl, ho, ints_of_wellAll ns _ hall, hlen⟩
theorem post_true (l : OpenLaw) (args : List WData) : l.row.toRowW.claim.post args (.bool true) args = true :=
  postW_of (r := l.row.toRowW) (X := (true == true))
    (show WShape.has [] (.bool true) .bool = true by first | rfl | decide | simp [WShape.has, WShape.arms, WShape.armsAll])
    (show (WTm.eq .res (.lit (.bool true))).value [] { args := args, res := some (.bool true), after := args } = some (.bool (true == true)) from w_eq_bool (w_res rfl) w_lit) rfl
theorem attach_call {l : OpenLaw} {n : Nat} {q : Program} {loose : List Str} {XP : (Str → Option Value) → Heap → Prop} {YP : World → Heap → Prop} {d : DefRec}
    (hn : l.most = some n) (hdf : d.params.defaults = [])
    (call : ∀ (w : World) (s₀ s₁ : Shared) (mg mb : Str → Option Value) (fa : Addr) (o : Obj) (pm cd doc : Value) (a : Addr) (vs : List Value) (ns : List Int),
      Ground q loose [] XP w s₀ mg mb s₁.heap → YP w s₁.heap →
      s₁.heap.get? fa = some o → o.data = .func (docDef d.name d.params d.body d.scope pm cd doc) → s₁.heap.CodeRec cd d.name → mg d.name = some (.ref fa) →
      s₁.heap.get? a = some { cls := .type "list", data := .seq vs.toArray } → IntsAre vs ns → ns.length ≤ n → s₁.gens = #[] →
      codeAny (model l.prog w) callerA (.call (.ref fa) ⟨[.ref a], []⟩) (fun r s' => r = .ok (.ret (.bool true)) ∧ OldK s₁.heap s'.heap ∧ s'.os = s₁.os ∧ AllBare s'.gens) s₁) :
    WalkO q loose XP YP l.row.toRowW d [] (fun f vs => PySem.call f vs) := by
  intro w s₀ s₁ mg mb G Y fa o pm cd doc dV kV ho hd hcd hD hmg hg args vals as hpre hlay hrd hwl hlo
  obtain rfl : dV = .none := Dflts.none hD hdf
  obtain rfl : kV = .none := Dflts.noKw hD
  obtain ⟨a, vs, ns, rfl, rfl, hobj, hints, hlen⟩ := script_of hn hpre hwl
  refine enter_call (codeAny_mono (call w s₀ s₁ mg mb fa o pm cd doc a vs ns G Y ho (fd_plain hd) hcd hmg hobj hints hlen hg) fun r s' hq => ?_)
  obtain ⟨rfl, h2, h3, h4⟩ := hq
  exact ⟨.inl ⟨.bool true, .bool true, [], rfl, fun _ => rfl, .bool true, post_true l _, fun _ => ⟨List.Pairwise.nil, fun _ hm => (nomatch hm)⟩⟩, h2, h3, h4⟩
section
variable {prog : Program} {w : World} {A : Around} {E : Value → Shared → Prop} {s : Shared} {K : Frag}
end
end Att
namespace L2
open PySem PySem.Spec PyProof.Rows
theorem vals_ints : ∀ {vs : List Value} {ns : List Int}, IntsAre vs ns → Vals (ns.map V.int) vs
  | _, _, .nil => .nil
  | _, _, .cons n t h => .cons ⟨t, rfl⟩ (vals_ints h)
def Only (H : Hp) : Prop := ∀ b, H b = none ∨ ∃ o xs, H b = some (.frz o (.lst xs))
theorem law_call {P : Program} {w : World} {K : PySem.W.Frag} {mg mb : Str → Option Value} {CX : CXT} {k : Nat} {fa a : Addr} {fd : FuncData} {x : Str} {sp : Sp} {s₁ : Shared} {vs : List Value} {ns : List Int}
    (KX : K.In s₁.heap) (hns : s₁.heap.Ns mainGlobals mg) (hb : s₁.heap.Ns builtinsNs mb) (hbb : ∀ x : Str, x ≠ "__name__" → mb x = bootBuiltins x) (hlim : s₁.heap.NoLimit) (hg : s₁.gens = #[])
    (ha : s₁.heap.get? a = some { cls := .type "list", data := .seq vs.toArray }) (hi : IntsAre vs ns) (hl : ns.length ≤ sizeLine) (hr : Room k callerA)
    (F : ∀ base : Heap, K.In base → base.Ns mainGlobals mg → FnOk P w K mg base CX k fa fd [x] sp) (hbind : ∀ (s : Shared) (u : Value), BindsTo s fd ⟨[u], []⟩ [(x, u)])
    (hsp : ∀ H : Hp, Only H → SqL K H a (ns.map V.int) → sp [.ref a] H (fun v _ => v = .bl true) fun _ _ _ => False)
    (hCX : ∀ H e s', CX [] H s₁ (fun _ _ _ => False) e s' → False) :
    codeAny (model P w) callerA (.call (.ref fa) ⟨[.ref a], []⟩) (fun r s' => r = .ok (.ret (.bool true)) ∧ OldK s₁.heap s'.heap ∧ s'.os = s₁.os ∧ AllBare s'.gens) s₁ := by
  have rv := vals_ints hi
  have lenV := hi.length
  have core : ∀ H : Hp, Only H → SqL K H a (ns.map V.int) → HOk P w H s₁.heap → (∀ b, H b ≠ none → b = a) → (H a ≠ none → K.lookup a = none) →
      codeAny (model P w) callerA (.call (.ref fa) ⟨[.ref a], []⟩) (fun r s' => r = .ok (.ret (.bool true)) ∧ OldK s₁.heap s'.heap ∧ s'.os = s₁.os ∧ AllBare s'.gens) s₁ := by
    intro H hO hS hok hA hK
    have base_of : ∀ {b : Addr} {o : Obj}, s₁.heap.get? b = some o → H b = none → (hidT s₁.heap H).get? b = some o := fun e n => hidT_get e n
    have noA : ∀ {b : Addr} {o : Obj} {es : Array DictEntry} {ep : Nat}, s₁.heap.get? b = some o → o.data = .dict es ep → H b = none := fun {b o es ep} e d => by
      cases q : H b with
      | none => rfl
      | some u =>
        have e' : b = a := hA b (by rw [q]; simp)
        subst e'
        rw [ha] at e; cases e
        have d' : Data.seq vs.toArray _ = Data.dict es ep := d
        cases d'
    have nsK : ∀ {b : Addr} {m : Str → Option Value}, s₁.heap.Ns b m → (hidT s₁.heap H).Ns b m := fun {b m} ⟨o, es, ep, e, d, r⟩ => ⟨o, es, ep, base_of e (noA e d), d, r⟩
    have hKb : K.In (hidT s₁.heap H) := fun b o e => base_of (KX b o e) (by
      cases q : H b with
      | none => rfl
      | some u =>
        have e' : b = a := hA b (by rw [q]; simp)
        subst e'
        rw [hK (by rw [q]; simp)] at e; cases e)
    have hM : Mod K mg (hidT s₁.heap H) := ⟨hKb, nsK hns, ⟨mb, nsK hb, hbb⟩, let ⟨mc, h1, h2⟩ := hlim; ⟨mc, nsK h1, h2⟩⟩
    have e0 : Env0 P w K mg (hidT s₁.heap H) callerA [] s₁ H := ⟨rfl, hM, fun b o e => of_hidT e, Nat.le_of_eq (hidT_size _ _), trivial, fun b hb => absurd (show b ∈ ([] : List Addr) from hb) (by simp), hok, .of_eq hg⟩
    refine codeAny_mono ((F _ hKb (nsK hns)).run callerA [] s₁ H ⟨[.ref a], []⟩ [.ref a] [.ref a] _ _ hr e0 (hbind s₁ (.ref a)) (.cons rfl .nil) (hsp H hO hS)) fun r s' h => ?_
    cases r with
    | error e => exact (hCX H e s' h).elim
    | ok fl =>
      cases fl with
      | next => exact False.elim h
      | brk => exact False.elim h
      | cont => exact False.elim h
      | ret u =>
        obtain ⟨v, H', os, bare, un, hok', r', q⟩ := h
        have q' : v = .bl true := q
        subst q'
        obtain rfl : u = Value.bool true := r'
        refine ⟨rfl, OldK.of_keep fun b o e => ?_, os, bare⟩
        cases q : H b with
        | none => exact un.keep b o e q (by intro z; exact absurd (show b ∈ ([] : List Addr) from z) (by simp)) (by simp)
        | some u =>
          rcases hO b with z | ⟨ob, xs, z⟩
          · rw [q] at z; cases z
          · have z2 := un.frzs b ob _ z
            obtain ⟨e1, _⟩ := hok b _ z
            obtain ⟨e2, _⟩ := hok' b _ z2
            rw [e] at e1; cases e1
            exact e2
  cases hk : K.lookup a with
  | some o =>
    have e := KX a o hk
    rw [ha] at e
    cases e
    refine core (fun _ => none) (fun _ => .inl rfl) (.inr ⟨_, vs.toArray, _, hk, rfl, rfl, rfl, by rw [List.size_toArray, lenV]; exact hl, by simpa using rv⟩) (fun b u z => by have z' : (none : Option HO) = some u := z; cases z') (fun b z => absurd rfl z) fun z => absurd rfl z
  | none =>
    refine core (fun b => if b = a then some (.frz { cls := .type "list", data := .seq vs.toArray } (.lst (ns.map V.int))) else none) (fun b => ?_) (.inl (.inr ⟨{ cls := .type "list", data := .seq vs.toArray }, if_pos rfl⟩)) (fun b u z => ?_) (fun b z => ?_) fun _ => hk
    · by_cases hb : b = a
      · exact .inr ⟨_, _, if_pos hb⟩
      · exact .inl (if_neg hb)
    · by_cases hb : b = a
      · have z' := (if_pos hb).symm.trans z
        cases z'
        subst hb
        exact ⟨ha, by rw [List.length_map]; exact hl, vs, _, rv, ha⟩
      · have z' := (if_neg hb).symm.trans z
        cases z'
    · by_cases hb : b = a
      · exact hb
      · exact absurd (if_neg hb) z
end L2
namespace L2
open PySem PySem.Spec PyProof.Rows
theorem walk_of {l : PySem.W.OpenLaw} {n k : Nat} {q : Program} {loose : List Str} {XP : (Str → Option Value) → Heap → Prop} {YP : World → Heap → Prop} {d : DefRec} {K : Params → PySem.W.Frag} {CX : World → CXT} {sp : World → Sp} {x : Str}
    (hn : l.most = some n) (hn2 : n ≤ sizeLine) (hdf : d.params.defaults = []) (hr : Room k callerA)
    (hY : ∀ (w : World) (h : Heap), YP w h → (K w.params).In h)
    (F : ∀ (w : World) (mg : Str → Option Value) (fa : Addr) (h : Heap), (K w.params).In h → h.Ns mainGlobals mg → mg d.name = some (.ref fa) →
      ∃ fd : FuncData, (∀ (s : Shared) (u : Value), BindsTo s fd ⟨[u], []⟩ [(x, u)]) ∧
        ∀ base : Heap, (K w.params).In base → base.Ns mainGlobals mg → FnOk l.prog w (K w.params) mg base (CX w) k fa fd [x] (sp w))
    (hsp : ∀ (w : World) (H : Hp) (a : Addr) (ns : List Int), ns.length ≤ n → Only H → SqL (K w.params) H a (ns.map V.int) → sp w [.ref a] H (fun v _ => v = .bl true) fun _ _ _ => False)
    (hCX : ∀ (w : World) (H : Hp) (s : Shared) (e : Value) (s' : Shared), CX w [] H s (fun _ _ _ => False) e s' → False) :
    PySem.W.WalkO q loose XP YP l.row.toRowW d [] (fun f vs => PySem.call f vs) := by
  refine Att.attach_call hn hdf fun w s₀ s₁ mg mb fa o pm cd doc a vs ns G Y ho hd hcd hmg hobj hints hlen hg => ?_
  have KX := hY w _ Y
  obtain ⟨fd, hb, hF⟩ := F w mg fa _ KX G.T.g hmg
  exact law_call KX G.T.g G.T.b G.T.builtins G.T.nolimit hg hobj hints (Nat.le_trans hlen hn2) hr hF hb (fun H hO hS => hsp w H a ns hlen hO hS) fun H e s' => hCX w H s₁ e s'
end L2
namespace L2
open PySem PySem.Spec PyProof.Rows
def inClass (s : Stmt) (j : Nat) : Stmt := match s with
  | .ClassDef _ _ _ body _ _ _ _ _ _ _ => body.getD j (.Pass ⟨0, 0, 0, 0⟩)
  | _ => .Pass ⟨0, 0, 0, 0⟩
def defArgs (s : Stmt) : Arguments := match s with
  | .FunctionDef _ a _ _ _ _ _ _ _ _ => a
  | _ => { posonlyargs := [], args := [], vararg := none, kwonlyargs := [], kw_defaults := [], kwarg := none, defaults := [] }
def defBody (s : Stmt) : List Stmt := match s with
  | .FunctionDef _ _ b _ _ _ _ _ _ _ => b
  | _ => []
def defScope (s : Stmt) : Scope := match s with
  | .FunctionDef _ _ _ _ _ _ sc _ _ _ => sc
  | _ => { kind := .function, names := [], isGenerator := false, isCoroutine := false }
abbrev CX0 : CXT := fun _ _ _ _ _ _ => False
abbrev E0 : XK := fun _ _ _ => False
theorem pass0 {X : Cx} : Passes CX0 X E0 := fun _ _ _ _ _ _ _ h => h.elim
structure Fun (K : PySem.W.Frag) (x qual : Str) (st : Stmt) (f : Addr) (fd : FuncData) : Prop where
  ex : ∃ (oc : Value) (od : Option Addr) (kV doc pm : Value) (an : Option Addr) (cdv ct : Value) (osl : Array (Option Value)),
    fd = PySem.W.fnOf x qual (defArgs st) (defBody st) (defScope st) .none kV doc pm an cdv ct ∧ K.lookup f = some ⟨oc, od, .func fd, osl⟩ ∧ PySem.W.codeIn K cdv qual = true
  kp : PySem.W.keepIn K (.ref f) = true
section
variable {P : Program} {w : World} {K : PySem.W.Frag} {mg : Str → Option Value} {base : Heap}
theorem Fun.ok {x qual : Str} {st : Stmt} {f : Addr} {fd : FuncData} {N ps : List Str} {k : Nat} {sp : Sp} (F : Fun K x qual st f fd) (S : FnScope N ps (defScope st)) (len : ∀ vs H Q E, sp vs H Q E → vs.length = ps.length)
    (hbody : ∀ (cdv : Value) (A : Around) (outer : List Env) (s : Shared) (H : Hp) (vs : List V) (Q : VK) (E : XK), Room k (A.deeper (envOfC qual (defScope st) s.heap.objs.size f cdv)) → sp vs H Q E →
      ∃ t, PSs (cxOf CX0 P w K mg base N qual (defScope st) f cdv A outer s H E).nox (defBody st) t ∧ t { nx := fun _ H' => Q .non H', rt := Q } (start N vs) H) : FnOk P w K mg base CX0 (k + 1) f fd ps sp := by
  obtain ⟨oc, od, kV, doc, pm, an, cdv, ct, osl, rfl, lk, hcd⟩ := F.ex
  refine fn_of lk hcd S len fun A outer s H vs Q E hr hsp => ?_
  obtain ⟨t, h, q⟩ := hbody cdv A outer s H vs Q E hr hsp
  exact ⟨t, h.nox, q⟩
theorem Fun.binds {x qual : Str} {st : Stmt} {f : Addr} {fd : FuncData} {ps : List Str} (F : Fun K x qual st f fd)
    (h : ∀ (kV doc pm : Value) (an : Option Addr) (cdv ct : Value) (us : List Value), us.length = ps.length → bindArgs (PySem.W.fnOf x qual (defArgs st) (defBody st) (defScope st) .none kV doc pm an cdv ct) ⟨us, []⟩ = pure (ps.zip us)) : Binds K fd ps [] := by
  obtain ⟨oc, od, kV, doc, pm, an, cdv, ct, osl, rfl, lk, hcd⟩ := F.ex
  exact .all (h kV doc pm an cdv ct)
theorem fun_mk {x qual : Str} {st : Stmt} {f : Addr} {oc : Value} {od an : Option Addr} {osl : Array (Option Value)} {kV doc pm cdv ct : Value} (l : K.lookup f = some ⟨oc, od, .func (PySem.W.fnOf x qual (defArgs st) (defBody st) (defScope st) .none kV doc pm an cdv ct), osl⟩)
    (c : PySem.W.codeIn K cdv qual = true) (k : PySem.W.keepIn K (.ref f) = true) : Fun K x qual st f (PySem.W.fnOf x qual (defArgs st) (defBody st) (defScope st) .none kV doc pm an cdv ct) := ⟨⟨oc, od, kV, doc, pm, an, cdv, ct, osl, rfl, l, c⟩, k⟩
end
theorem hu_of {A : Around} {k : Nat} (hr : Room k A) : A.units + 1 < cLine := Nat.lt_of_le_of_lt (Nat.add_le_add_left (by decide : 1 ≤ 64) _) hr.units
section
variable {X : Cx}
theorem pv (i : Nat) {x : Str} {pos : Pos} (hN : X.N[i]? = some x := by rfl) (hv : Vis X.env.scope x := by first | exact Or.inl rfl | exact Or.inr (Or.inl rfl) | exact Or.inr (Or.inr rfl)) (hd : (x == ("__debug__" : Str)) = false := by decide)
    (hcd : (x == ("__classdict__" : Str)) = false := by decide) : PE X (.Name x pos) (tVar i) := pe_var hN hv hd hcd
end
theorem iteF {A B : Prop} (h : B) : if false = true then A else B := by
  rw [if_neg Bool.false_ne_true]
  exact h
theorem iteT {A B : Prop} (h : A) : if true = true then A else B := by
  rw [if_pos rfl]
  exact h
theorem ite2 {c A B : Prop} [Decidable c] (h1 : c → A) (h2 : ¬ c → B) : if c then A else B := by
  by_cases h : c
  · rw [if_pos h]
    exact h1 h
  · rw [if_neg h]
    exact h2 h
def Same (H H' : Hp) : Prop := ∀ b o, H b = some o → H' b = some o
theorem Same.refl (H : Hp) : Same H H := fun _ _ h => h
theorem Same.trans {H H1 H2 : Hp} (a : Same H H1) (b : Same H1 H2) : Same H H2 := fun c o h => b c o (a c o h)
theorem Same.free {H H' : Hp} (e : Same H H') {l : Addr} (h : H' l = Option.none) : H l = Option.none := by
  cases q : H l with
  | none => rfl
  | some o =>
    rw [e l o q] at h
    cases h
theorem Same.seq {K : PySem.W.Frag} {H H' : Hp} {a : Addr} {xs : List V} (e : Same H H') (h : SqL K H a xs) : SqL K H' a xs := by
  rcases h with (h | ⟨o, h⟩) | h
  · exact .inl (.inl (e _ _ h))
  · exact .inl (.inr ⟨o, e _ _ h⟩)
  · exact .inr h
end L2
namespace L2
open PySem PySem.Spec PyProof.Rows
section
variable {κ : Type} [DecidableEq κ]
def valV (kvs : List (κ × V)) (k : κ) : Option V := (kvs.find? fun kv => decide (kv.1 = k)).map (·.2)
def putK (kvs : List (κ × V)) (k : κ) (v : V) : List (κ × V) :=
  if (kvs.any fun kv => decide (kv.1 = k)) = true then kvs.map (fun kv => if kv.1 = k then (kv.1, v) else kv) else kvs ++ [(k, v)]
theorem valV_pos {p : κ × V} {r : List (κ × V)} {k : κ} (e : p.1 = k) : valV (p :: r) k = some p.2 := by simp [valV, List.find?_cons, e]
theorem valV_neg {p : κ × V} {r : List (κ × V)} {k : κ} (e : ¬ p.1 = k) : valV (p :: r) k = valV r k := by simp [valV, List.find?_cons, e]
theorem valV_any (k : κ) : ∀ kvs : List (κ × V), (kvs.any fun kv => decide (kv.1 = k)) = (valV kvs k).isSome
  | [] => rfl
  | p :: r => by
    rw [List.any_cons]
    by_cases e : p.1 = k
    · simp only [valV_pos e, decide_eq_true e, Bool.true_or, Option.isSome_some]
    · rw [valV_neg e, decide_eq_false e, Bool.false_or]; exact valV_any k r
theorem valV_map (k j : κ) (y : V) : ∀ kvs : List (κ × V), valV (kvs.map fun kv => if kv.1 = k then (kv.1, y) else kv) j = (valV kvs j).map fun x => if j = k then y else x
  | [] => rfl
  | p :: r => by
    have ih := valV_map k j y r
    rw [List.map_cons]
    by_cases h : p.1 = k
    · rw [if_pos h]
      by_cases e : p.1 = j
      · rw [valV_pos (p := (p.1, y)) e, valV_pos e, Option.map_some, if_pos (e.symm.trans h)]
      · rw [valV_neg (p := (p.1, y)) e, valV_neg e, ih]
    · rw [if_neg h]
      by_cases e : p.1 = j
      · rw [valV_pos (p := p) e, valV_pos e, Option.map_some, if_neg (fun z => h (e.trans z))]
      · rw [valV_neg (p := p) e, valV_neg e, ih]
theorem valV_snoc (k j : κ) (y : V) : ∀ kvs : List (κ × V), valV kvs k = none → valV (kvs ++ [(k, y)]) j = if j = k then some y else valV kvs j
  | [], _ => by
    by_cases e : k = j
    · rw [if_pos e.symm]; exact valV_pos (p := (k, y)) e
    · rw [if_neg (fun z => e z.symm)]; exact valV_neg (p := (k, y)) e
  | p :: r, hn => by
    rw [List.cons_append]
    have hk : ¬ p.1 = k := fun z => by rw [valV_pos z] at hn; cases hn
    rw [valV_neg hk] at hn
    have ih := valV_snoc k j y r hn
    by_cases e : p.1 = j
    · rw [valV_pos e, valV_pos e, if_neg (fun z => hk (e.trans z))]
    · rw [valV_neg e, valV_neg e, ih]
theorem valV_put (kvs : List (κ × V)) (k j : κ) (y : V) : valV (putK kvs k y) j = if j = k then some y else valV kvs j := by
  unfold putK
  by_cases a : (kvs.any fun kv => decide (kv.1 = k)) = true
  · rw [if_pos a, valV_map]
    rw [valV_any] at a
    by_cases e : j = k
    · obtain ⟨x, hx⟩ := Option.isSome_iff_exists.mp a
      rw [if_pos e, e, hx, Option.map_some, if_pos rfl]
    · rw [if_neg e]
      cases valV kvs j with
      | none => rfl
      | some x => rw [Option.map_some, if_neg e]
  · rw [if_neg a]
    refine valV_snoc k j y kvs ?_
    rw [valV_any] at a
    cases q : valV kvs k with
    | none => rfl
    | some x => rw [q] at a; exact (a rfl).elim
theorem length_putK (kvs : List (κ × V)) (k : κ) (v : V) : (putK kvs k v).length ≤ kvs.length + 1 := by
  unfold putK
  split
  · rw [List.length_map]; omega
  · rw [List.length_append, List.length_cons, List.length_nil]; omega
theorem RelO.isSome_eq {o : Option V} {u : Option Value} (r : RelO o u) : o.isSome = u.isSome := by
  cases o with
  | none => cases u with
    | none => rfl
    | some _ => exact (show False from r).elim
  | some _ => cases u with
    | none => exact (show False from r).elim
    | some _ => rfl
theorem RelO.getD {o : Option V} {u : Option Value} {d : V} {d' : Value} (r : RelO o u) (rd : RelV d d') : RelV (o.getD d) (u.getD d') := by
  cases o with
  | none => cases u with
    | none => exact rd
    | some _ => exact (show False from r).elim
  | some _ => cases u with
    | none => exact (show False from r).elim
    | some _ => exact r
theorem KV.val {kvs : List (κ × V)} {vs : List (κ × Value)} (r : KV kvs vs) (k : κ) : RelO (valV kvs k) (valueAt vs k) := by
  unfold KV at r
  induction r with
  | nil => exact True.intro
  | @cons p q ps qs h t ih =>
    obtain ⟨h1, h2⟩ := h
    by_cases e : p.1 = k
    · have e' : q.1 = k := h1.symm.trans e
      have b : valueAt (q :: qs) k = some q.2 := by simp [valueAt, List.find?_cons, e']
      rw [valV_pos e, b]; exact h2
    · have e' : ¬ q.1 = k := fun z => e (h1.trans z)
      have b : valueAt (q :: qs) k = valueAt qs k := by simp [valueAt, List.find?_cons, e']
      rw [valV_neg e, b]; exact ih
theorem KV.any {kvs : List (κ × V)} {vs : List (κ × Value)} (r : KV kvs vs) (k : κ) : (kvs.any fun kv => decide (kv.1 = k)) = vs.any fun kv => decide (kv.1 = k) := by
  unfold KV at r
  induction r with
  | nil => rfl
  | cons h t ih => rw [List.any_cons, List.any_cons, ih, h.1]
theorem KV.repl {kvs : List (κ × V)} {vs : List (κ × Value)} (r : KV kvs vs) (k : κ) {y : V} {u : Value} (ry : RelV y u) :
    KV (kvs.map fun kv => if kv.1 = k then (kv.1, y) else kv) (vs.map fun kv => if kv.1 = k then (kv.1, u) else kv) := by
  unfold KV at r ⊢
  induction r with
  | nil => exact .nil
  | @cons p q ps qs h t ih =>
    rw [List.map_cons, List.map_cons]
    refine .cons ?_ ih
    obtain ⟨h1, h2⟩ := h
    by_cases e : p.1 = k
    · rw [if_pos e, if_pos (h1.symm.trans e)]; exact ⟨h1, ry⟩
    · rw [if_neg e, if_neg (fun z => e (h1.trans z))]; exact ⟨h1, h2⟩
theorem KV.put {kvs : List (κ × V)} {vs : List (κ × Value)} (r : KV kvs vs) (k : κ) {y : V} {u : Value} (ry : RelV y u) : KV (putK kvs k y) (stored vs k u) := by
  unfold putK stored
  rw [r.any k]
  by_cases e : (vs.any fun kv => decide (kv.1 = k)) = true
  · rw [if_pos e, if_pos e]; exact r.repl k ry
  · rw [if_neg e, if_neg e]; exact Paired.snoc r ⟨rfl, ry⟩
theorem KV.length {kvs : List (κ × V)} {vs : List (κ × Value)} (r : KV kvs vs) : kvs.length = vs.length := Paired.length r
end
theorem kV_is {P : Program} {w : World} {k : Key} {u : Value} (r : RelV (kV k) u) : (mixKind P w).is k u = true := by
  cases k with
  | inl i => obtain ⟨t, e⟩ := (show ∃ t, u = Value.int i t from r); subst e; exact mixKind_int P w i t
  | inr x => obtain ⟨t, e⟩ := (show ∃ t, u = Value.str x t from r); subst e; exact mixKind_str P w x t
theorem items_are {P : Program} {w : World} : ∀ {ks : List Key} {us : List Value}, Vals (ks.map kV) us → ItemsAre (mixKind P w) ks us
  | [], _, r => by rw [List.map_nil] at r; cases r; exact .nil
  | k :: ks, _, r => by
    rw [List.map_cons] at r
    cases r with
    | cons h t => exact .cons (kV_is h) (items_are t)
abbrev KT (H : Hp) : List (List Key × V) → List (List Key × Addr × Value) → Prop := Paired fun p q => p.1 = q.1 ∧ H q.2.1 = some (.tup (p.1.map kV)) ∧ RelV p.2 q.2.2
theorem KT.val {H : Hp} {kvs : List (List Key × V)} {xs : List (List Key × Addr × Value)} (r : KT H kvs xs) (k : List Key) : RelO (valV kvs k) ((atKey xs k).map (·.2)) := by
  induction r with
  | nil => exact True.intro
  | @cons p q ps qs h t ih =>
    obtain ⟨h1, _, h2⟩ := h
    by_cases e : p.1 = k
    · have e' : q.1 = k := h1.symm.trans e
      have b : atKey (q :: qs) k = some q.2 := by simp [atKey, List.find?_cons, e']
      rw [valV_pos e, b]; exact h2
    · have e' : ¬ q.1 = k := fun z => e (h1.trans z)
      have b : atKey (q :: qs) k = atKey qs k := by simp [atKey, List.find?_cons, e']
      rw [valV_neg e, b]; exact ih
theorem KT.repl {H : Hp} {kvs : List (List Key × V)} {xs : List (List Key × Addr × Value)} (r : KT H kvs xs) (k : List Key) {y : V} {u : Value} (ry : RelV y u) :
    KT H (kvs.map fun kv => if kv.1 = k then (kv.1, y) else kv) (xs.map (putAt k u)) := by
  induction r with
  | nil => exact .nil
  | @cons p q ps qs h t ih =>
    rw [List.map_cons, List.map_cons]
    refine .cons ?_ ih
    obtain ⟨h1, h2, h3⟩ := h
    unfold putAt
    by_cases e : p.1 = k
    · rw [if_pos e, if_pos (h1.symm.trans e)]; exact ⟨h1, h2, ry⟩
    · rw [if_neg e, if_neg (fun z => e (h1.trans z))]; exact ⟨h1, h2, h3⟩
theorem KT.put {H : Hp} {kvs : List (List Key × V)} {xs : List (List Key × Addr × Value)} (r : KT H kvs xs) (k : List Key) {b : Addr} {y : V} {u : Value} (hb : H b = some (.tup (k.map kV))) (ry : RelV y u) :
    KT H (putK kvs k y) (storedH xs k b u) := by
  have e : (kvs.any fun kv => decide (kv.1 = k)) = (atKey xs k).isSome := by
    rw [valV_any, (r.val k).isSome_eq, Option.isSome_map]
  unfold putK storedH
  rw [e]
  by_cases q : (atKey xs k).isSome = true
  · rw [if_pos q, if_pos q]; exact r.repl k ry
  · rw [if_neg q, if_neg q]; exact Paired.snoc r ⟨rfl, hb, ry⟩
theorem KT.keeps {H H' : Hp} {kvs : List (List Key × V)} {xs : List (List Key × Addr × Value)} (r : KT H kvs xs) (ht : ∀ b ys, H b = some (.tup ys) → H' b = some (.tup ys)) : KT H' kvs xs :=
  Paired.mapP r fun _ _ z => ⟨z.1, ht _ _ z.2.1, z.2.2⟩
section
variable {P : Program} {w : World} {H : Hp} {h : Heap} {a : Addr}
theorem rd_of {u : HO} (ok : HOk P w H h) (e : Rd H a u) : ObjOk P w H h a u := e.ok ok
theorem dk_rd {kvs : List (Key × V)} (ok : HOk P w H h) (e : Rd H a (.dK kvs)) : kvs.length ≤ sizeLine ∧ (a == sysModules) = false ∧ ∃ vs, KV kvs vs ∧ h.DictOf (mixKind P w) a vs :=
  show ObjOk P w H h a (.dK kvs) from rd_of ok e
theorem dk_of {kvs : List (Key × V)} (ok : HOk P w H h) (e : H a = some (.dK kvs)) : kvs.length ≤ sizeLine ∧ (a == sysModules) = false ∧ ∃ vs, KV kvs vs ∧ h.DictOf (mixKind P w) a vs := dk_rd ok (.inl e)
theorem key_of {ks : List Key} (ok : HOk P w H h) (e : H a = some (.tup (ks.map kV))) : (tupleKind (mixKind P w)).is h ks a := by
  obtain ⟨_, its, r, o, h1, h2, n, h3⟩ := (show ObjOk P w H h a (.tup (ks.map kV)) from ok a _ e)
  exact ⟨o, its.toArray, n, h1, h2, h3, by simpa using items_are r⟩
theorem dt_rd {kvs : List (List Key × V)} (ok : HOk P w H h) (e : Rd H a (.dT kvs)) : kvs.length ≤ sizeLine ∧ (a == sysModules) = false ∧
    ∃ xs, KT H kvs xs ∧ h.DictOfH (tupleKind (mixKind P w)) a xs := by
  obtain ⟨z, y, xs, r, o, es, ep, h1, h2, h3, h4, h5⟩ := (show ObjOk P w H h a (.dT kvs) from rd_of ok e)
  refine ⟨z, y, xs, r, o, es, ep, h1, h2, h3, h4, fun x hx => ?_, h5⟩
  have all : ∀ {l : List (List Key × V)} {m : List (List Key × Addr × Value)}, KT H l m → ∀ x ∈ m, (tupleKind (mixKind P w)).is h x.1 x.2.1 := by
    intro l m q
    induction q with
    | nil => intro x hx; exact nomatch hx
    | @cons p q ps qs hq t ih =>
      intro x hx
      rcases List.mem_cons.mp hx with e | hx
      · subst e
        exact key_of ok (by rw [← hq.1]; exact hq.2.1)
      · exact ih x hx
  exact all r x hx
theorem dt_of {kvs : List (List Key × V)} (ok : HOk P w H h) (e : H a = some (.dT kvs)) : kvs.length ≤ sizeLine ∧ (a == sysModules) = false ∧
    ∃ xs, KT H kvs xs ∧ h.DictOfH (tupleKind (mixKind P w)) a xs := dt_rd ok (.inl e)
end
def DGet (H : Hp) (a : Addr) (y : V) (r : Option V) : Prop :=
  (∃ kvs k, Rd H a (.dK kvs) ∧ y = kV k ∧ r = valV kvs k) ∨ ∃ kvs k b, Rd H a (.dT kvs) ∧ y = .ref b ∧ H b = some (.tup (k.map kV)) ∧ r = valV kvs k
def DPut (H : Hp) (a : Addr) (y v : V) (H' : Hp) : Prop :=
  (∃ kvs k, H a = some (.dK kvs) ∧ y = kV k ∧ kvs.length < sizeLine ∧ H' = upd H a (.dK (putK kvs k v))) ∨
  ∃ kvs k b, H a = some (.dT kvs) ∧ y = .ref b ∧ H b = some (.tup (k.map kV)) ∧ kvs.length < sizeLine ∧ H' = upd H a (.dT (putK kvs k v))
theorem DGet.k {H : Hp} {a : Addr} {kvs : List (Key × V)} {k : Key} (e : H a = some (.dK kvs)) : DGet H a (kV k) (valV kvs k) := .inl ⟨kvs, k, .inl e, rfl, rfl⟩
theorem DPut.k {H : Hp} {a : Addr} {kvs : List (Key × V)} {k : Key} {v : V} (e : H a = some (.dK kvs)) (hl : kvs.length < sizeLine) : DPut H a (kV k) v (upd H a (.dK (putK kvs k v))) := .inl ⟨kvs, k, e, rfl, hl, rfl⟩
section
variable {X : Cx} {pins : List (Addr × Obj)} {σ : St} {H : Hp} {s : Shared} {a : Addr} {y v : V} {u r : Value} {o : Option V} {A : Around} {E : Value → Shared → Prop}
theorem Inv.big (I : Inv X pins σ H s) : sysModules < s.heap.objs.size := by
  have h : mainGlobals < s.heap.objs.size := (I.mod.glob.keeps I.bk).lt
  exact Nat.lt_trans (by decide) h
theorem d_getItem {Q : Value → Shared → Prop} (hu : A.units + 1 < cLine) (I : Inv X pins σ H s) (g : DGet H a y (some v)) (ry : RelV y u) (h : ∀ w' s', Inv X pins σ H s' → RelV v w' → Q w' s') :
    wpAny (model X.prog X.w) A (getItem (.ref a) u) Q E s := by
  rcases g with ⟨kvs, k, e, ey, l⟩ | ⟨kvs, k, b, e, ey, eb, l⟩
  · subst ey
    obtain ⟨z, hd, vs, rel, dd⟩ := dk_rd I.hok e
    obtain ⟨w', hw, rw'⟩ := RelO.some_of (v := v) (o := valueAt vs k) (by rw [l]; exact rel.val k)
    exact wpAny_getItem_of (kV_is ry) dd.mapOf hw (h w' _ (I.tok _) rw')
  · subst ey
    cases (show u = Value.ref b from ry)
    obtain ⟨z, hd, xs, rel, dd⟩ := dt_rd I.hok e
    obtain ⟨w', hw, rw'⟩ := RelO.some_of (v := v) (o := (atKey xs k).map (·.2)) (by rw [l]; exact rel.val k)
    obtain ⟨p, hp, hp2⟩ := Option.map_eq_some_iff.mp hw
    refine wpAny_getItem_heap (tupleKind_room_in1 hu) (key_of I.hok eb) dd hp ?_
    rw [hp2]
    exact h w' _ (I.tok _) rw'
theorem d_in {Q : Value → Shared → Prop} (hu : A.units + 1 < cLine) (I : Inv X pins σ H s) (g : DGet H a y o) (ry : RelV y u) (h : ∀ s', Inv X pins σ H s' → Q (.bool o.isSome) s') :
    wpAny (model X.prog X.w) A (compareOp .In u (.ref a)) Q E s := by
  rcases g with ⟨kvs, k, e, ey, l⟩ | ⟨kvs, k, b, e, ey, eb, l⟩
  · subst ey
    obtain ⟨z, hd, vs, rel, dd⟩ := dk_rd I.hok e
    refine wpAny_in_of (kV_is ry) hd dd.mapOf ?_
    rw [← (rel.val k).isSome_eq, ← l]
    exact h _ (I.tok _)
  · subst ey
    cases (show u = Value.ref b from ry)
    obtain ⟨z, hd, xs, rel, dd⟩ := dt_rd I.hok e
    refine wpAny_in_heap (tupleKind_room_in1 hu) (key_of I.hok eb) hd dd ?_
    have q := (rel.val k).isSome_eq
    rw [Option.isSome_map] at q
    rw [← q, ← l]
    exact h _ (I.tok _)
theorem d_write {h' : Heap} {t' : Nat} {ob : HO} (I : Inv X pins σ H s) (mu : Mut (H a)) (hs : Heap.SameBut a s.heap h') (he : ∃ q, h'.get? a = some q) (new : ObjOk X.prog X.w (upd H a ob) h' a ob) :
    Inv X pins σ (upd H a ob) { s with heap := h', toks := t' } :=
  I.write (x := a) (e := a) mu (.inl rfl) (fun b q hb z => (hs.2 b hb).trans z) he new
theorem dk_new {P : Program} {w : World} {H' : Hp} {h' : Heap} {kvs : List (Key × V)} {vs : List (Key × Value)} (z : kvs.length ≤ sizeLine) (hd : (a == sysModules) = false) (rel : KV kvs vs) (dd : h'.DictOf (mixKind P w) a vs) :
    ObjOk P w H' h' a (.dK kvs) := ⟨z, hd, vs, rel, dd⟩
theorem d_setItem {H' : Hp} {Q : Unit → Shared → Prop} (hu : A.units + 1 < cLine) (I : Inv X pins σ H s) (g : DPut H a y v H') (ry : RelV y u) (rv : RelV v r) (h : ∀ s', Inv X pins σ H' s' → Q () s') :
    wpAny (model X.prog X.w) A (setItem (.ref a) u r) Q E s := by
  rcases g with ⟨kvs, k, e, ey, l, eH⟩ | ⟨kvs, k, b, e, ey, eb, l, eH⟩
  · subst ey eH
    obtain ⟨z, hd, vs, rel, dd⟩ := dk_of I.hok e
    have hz : vs.length ≤ sizeLine := by rw [← rel.length]; exact z
    have hl : (putK kvs k v).length ≤ sizeLine := by have := length_putK kvs k v; omega
    refine wpAny_setItem_pairs (hsz := hz) (kV_is ry) dd fun h' dd' hs => h _ ?_
    have he : ∃ q, h'.get? a = some q := let ⟨q, _, _, hq, _⟩ := dd'; ⟨q, hq⟩
    exact d_write I (by rw [e]; exact True.intro) hs he (dk_new hl hd (rel.put k rv) dd')
  · subst ey eH
    cases (show u = Value.ref b from ry)
    obtain ⟨z, hd, xs, rel, dd⟩ := dt_of I.hok e
    have hz : xs.length ≤ sizeLine := by rw [← Paired.length rel]; exact z
    have hl : (putK kvs k v).length ≤ sizeLine := by have := length_putK kvs k v; omega
    refine wpAny_setItem_heap (hsz := hz) (tupleKind_room_in1 hu) (key_of I.hok eb) dd fun h' dd' hs => h _ ?_
    obtain ⟨q, es, ep, hq, h2, h3, h4, _, h5⟩ := dd'
    refine d_write I (by rw [e]; exact True.intro) hs ⟨q, hq⟩ ⟨hl, hd, _, (rel.put k eb rv).keeps fun c ys ec => ?_, q, es, ep, hq, h2, h3, h4, h5⟩
    rw [upd_ne (ne_of ec e (fun z => nomatch z))]
    exact ec
end
section
variable {X : Cx} {pins : List (Addr × Obj)} {σ : St} {H : Hp} {s : Shared} {a : Addr} {kvs : List (Key × V)} {k : Key} {u : Value} {A : Around} {E : Value → Shared → Prop}
end
def NoSl (i : Expr) : Prop := ∀ ov iv, subscripted i false ov iv = operate [ov, iv] (getItem ov iv)
theorem subD_of {prog : Program} {w : World} {A : Around} {E : Value → Shared → Prop} {s : Shared} {env : Env} {value slice : Expr} {pos : Pos} {T id : String} {Q : Value → Shared → Prop}
    (hl : typeLookup (.type T) "__getitem__" = pure (some (.builtin id))) (hs : NoSl slice)
    (h : wpAny (model prog w) A (eval value env) (fun o s₁ => wpAny (model prog w) A (eval slice env) (fun i s₂ => s₂.TypeIs o T ∧ wpAny (model prog w) A (getItem o i) Q E s₂) E s₁) E s) :
    wpAny (model prog w) A (eval (.Subscript value slice pos) env) Q E s := by
  refine Subscript_ (wpAny_mono h (fun o s₁ h₁ => wpAny_mono h₁ (fun i s₂ h₂ => ?_) fun _ _ x => x) fun _ _ x => x)
  obtain ⟨hT, h₂⟩ := h₂
  unfold subscriptTail
  refine wpAny_bind ?_
  rw [getitemInPython_of_ne hT.not_modules]
  refine wpAny_bind (wpAny_specialOf hT hl ?_)
  have fin : wpAny (model prog w) A (subscripted slice false o i) (fun r s₃ => wpAny (model prog w) A (letTemporaryGo value o r >>= fun _ => pure r) Q E s₃) E s₂ := by
    rw [hs o i]
    exact wpAny_operating (wpAny_mono h₂ (fun r s₃ h₃ => wpAny_bind (wpAny_letTemporaryGo (wpAny_pure h₃))) fun _ _ x => x)
  first
    | exact wpAny_pure (wpAny_bind fin)
    | exact wpAny_bind (wpAny_pure (wpAny_bind fin))
    | exact wpAny_bind fin
theorem dict_typeIs {X : Cx} {pins : List (Addr × Obj)} {σ : St} {H : Hp} {s : Shared} {a : Addr} {y : V} {o : Option V} (I : Inv X pins σ H s) (g : DGet H a y o) : s.TypeIs (.ref a) "dict" := by
  rcases g with ⟨kvs, k, e, _, _⟩ | ⟨kvs, k, b, e, _, _, _⟩
  · obtain ⟨_, _, vs, _, dd⟩ := dk_rd I.hok e
    exact dd.typeIs
  · obtain ⟨_, _, xs, _, dd⟩ := dt_rd I.hok e
    exact dd.typeIs
def tDGet (td ty : TE) : TE := fun σ H Q => td σ H fun x H1 => ty σ H1 fun y H2 => ∃ a v, x = .ref a ∧ DGet H2 a y (some v) ∧ Q v H2
def tDIn (ty td : TE) : TE := fun σ H Q => ty σ H fun y H1 => td σ H1 fun x H2 => ∃ a o, x = .ref a ∧ DGet H2 a y o ∧ Q (.bl o.isSome) H2
def sDPut (td ty tv : TE) : TS := fun D σ H => tv σ H fun v H1 => td σ H1 fun x H2 => ty σ H2 fun y H3 => ∃ a H4, x = .ref a ∧ DPut H3 a y v H4 ∧ D.nx σ H4
section
variable {X : Cx} {o i e value : Expr} {pos pos' tpos : Pos} {td ty tv : TE}
theorem pe_dget (hu : X.A.units + 1 < cLine) (ho : PE X o td) (hi : PE X i ty) (hs : NoSl i) : PE X (.Subscript o i pos) (tDGet td ty) := by
  intro pins s σ H Q I h
  refine subD_of PySem.F.slot_dict_getitem.lookup hs (thn (ho pins s σ H _ I h) fun u s1 ⟨x, H1, I1, rx, q1⟩ => thn (hi pins s1 σ H1 _ I1 q1) fun iv s2 ⟨y, H2, I2, ry, a, v, ex, g, q2⟩ => ?_)
  subst ex
  obtain rfl : u = Value.ref a := rx
  exact ⟨dict_typeIs I2 g, d_getItem hu I2 g ry fun w' s3 I3 rw' => ⟨v, H2, I3, rw', q2⟩⟩
theorem pc_din (hu : X.A.units + 1 < cLine) (hi : PE X i ty) (ho : PE X o td) : PC X .In i o (tDIn ty td) := by
  intro pins s σ H Q I h
  refine thn (hi pins s σ H _ I h) fun iv s1 ⟨y, H1, I1, ry, q1⟩ => thn (ho pins s1 σ H1 _ I1 q1) fun u s2 ⟨x, H2, I2, rx, a, ov, ex, g, q2⟩ => ?_
  subst ex
  obtain rfl : u = Value.ref a := rx
  exact d_in hu I2 g ry fun s3 I3 => ⟨.bl ov.isSome, H2, I3, rfl, q2⟩
theorem ps_dput (hu : X.A.units + 1 < cLine) (ho : PE X o td) (hi : PE X i ty) (hv : PE X value tv) (hs : swapsWith value (some (.Subscript o i pos')) pos.line X.env = pure false) :
    PS X (.Assign [.Subscript o i pos'] value pos) (sDPut td ty tv) := by
  intro pins s σ H D I h
  refine wpAny_Assign_Subscript (thn (hv pins s σ H _ I h) fun r s1 ⟨v, H1, I1, rv, q1⟩ => thn (ho pins s1 σ H1 _ I1 q1) fun u s2 ⟨x, H2, I2, rx, q2⟩ => thn (hi pins s2 σ H2 _ I2 q2) fun iv s3 ⟨y, H3, I3, ry, a, H4, ex, g, q3⟩ => ?_) hs
  subst ex
  obtain rfl : u = Value.ref a := rx
  exact d_setItem hu I3 g ry rv fun s4 I4 => ⟨σ, H4, I4, q3⟩
end
theorem dk_empty {P : Program} {w : World} {H : Hp} (h : Heap) (hb : sysModules < h.objs.size) : ObjOk P w H (h.push { cls := .type "dict", data := .dict #[] }) h.objs.size (.dK []) :=
  ⟨Nat.zero_le _, beq_eq_false_iff_ne.mpr (Ne.symm (Nat.ne_of_lt hb)), [], .nil, Heap.DictOf.new h⟩
def tDNewK : TE := fun _ H Q => ∀ p, H p = none → Q (.ref p) (upd H p (.dK []))
section
variable {X : Cx} {pos : Pos}
theorem pe_dnewK : PE X (.Dict [] [] pos) tDNewK := fun pins s σ H Q I h =>
  wpAny_Dict_empty ⟨.ref s.heap.objs.size, _, I.laid (a := s.heap.objs.size) (o := .dK []) (t' := s.toks) (fun _ _ q => Heap.get?_push_of_some _ q) (Nat.le_refl _) (dk_empty s.heap I.big), rfl, h _ (I.hok.fresh (Nat.le_refl _))⟩
end
structure M2 (X : Cx) (o : Expr) (m : Str) (apos : Pos) (e f : Expr) (cpos : Pos) : Prop where
  base : attributeBase o m X.env (eval o X.env) = eval o X.env
  few : ((backTo cpos (starEach [e, f] X.env)).all (fun x => !x.1) && (backToKw cpos (keywordEach [] X.env)).all (fun x => x.1.isSome)
    && decide (([e, f] : List Expr).length + ([] : List Keyword).length + (if ([] : List Keyword).isEmpty then 0 else 1) < 30)) = true
  line : (apos.endLine == cpos.line) = true
  trees : backTo cpos (starEach [e, f] X.env) = [(false, eval e X.env), (false, eval f X.env)]
section
variable {X : Cx} {pins : List (Addr × Obj)} {σ : St} {H : Hp} {s : Shared} {a : Addr} {y d : V} {u r : Value} {o : Option V} {A : Around} {E : Value → Shared → Prop}
end
section
variable {X : Cx} {o e f : Expr} {apos cpos : Pos} {td ty tx : TE}
end
section
variable {X : Cx} {pins : List (Addr × Obj)} {σ : St} {H : Hp} {s : Shared} {a : Addr} {kvs : List (Key × V)} {A : Around} {E : Value → Shared → Prop}
end
section
variable {X : Cx} {pins : List (Addr × Obj)} {σ : St} {H : Hp} {s : Shared} {a : Addr} {y : V} {u : Value} {A : Around} {E : Value → Shared → Prop}
end
end L2
namespace L2
open PySem PySem.Spec PyProof.Rows
section
variable {κ : Type} [DecidableEq κ]
theorem nd_snoc : ∀ {l : List κ} {k : κ}, l.Nodup → ¬ k ∈ l → (l ++ [k]).Nodup
  | [], k, _, _ => by simp
  | a :: r, k, h, hk => by
    obtain ⟨h1, h2⟩ := List.nodup_cons.mp h
    show (a :: (r ++ [k])).Nodup
    refine List.nodup_cons.mpr ⟨fun m => ?_, nd_snoc h2 fun m => hk (List.mem_cons.mpr (Or.inr m))⟩
    rcases List.mem_append.mp m with q | q
    · exact h1 q
    · exact hk (List.mem_cons.mpr (Or.inl (List.mem_singleton.mp q).symm))
end
end L2
namespace L2
open PySem PySem.Spec PyProof.Rows
def cxC (X : Cx) (N : List Str) (scope : Scope) (cl : List (Str × Addr)) (C : Addr) (s0 : Shared) (H0 : Hp) (ex : List Addr) : Cx :=
  { X with N := N, s₀ := s0, H₀ := H0, env := compEnvC scope cl C X.env, outer := X.stack, stack := X.stack, ex := ex, fn := fun _ => false, pn := [], xe := fun _ _ => False }
theorem closure_ok {env : Env} (has : ∀ x, (env.kindOf x = some .cell ∨ env.kindOf x = some .free) → ∃ c, env.cells.lookup x = some c) {scope : Scope}
    (hf : ∀ y ∈ scope.names, y.2 = .free → env.kindOf y.1 = some .cell ∨ env.kindOf y.1 = some .free) :
    ∃ cl, closureFor scope env = pure cl ∧ (∀ x c, cl.lookup x = some c → env.cells.lookup x = some c) ∧ (∀ y ∈ scope.names, y.2 = .free → ∃ c, cl.lookup y.1 = some c) := by
  have gen : ∀ (names : List (Str × NameKind)) (cs : List (Str × Addr)), (∀ y ∈ names, y.2 = .free → env.kindOf y.1 = some .cell ∨ env.kindOf y.1 = some .free) →
      (∀ x c, cs.lookup x = some c → env.cells.lookup x = some c) →
      ∃ cl, (forIn (m := Sem) names cs fun p r => do
          match p with
          | (name, kind) => if kind == .free then do let c ← cellOf env name; pure (ForInStep.yield ((name, c) :: r)) else pure (ForInStep.yield r)) = pure cl ∧
        (∀ x c, cl.lookup x = some c → env.cells.lookup x = some c) ∧ (∀ x c, cs.lookup x = some c → ∃ c, cl.lookup x = some c) ∧ (∀ y ∈ names, y.2 = .free → ∃ c, cl.lookup y.1 = some c) := by
    intro names
    induction names with
    | nil => intro cs _ h; exact ⟨cs, rfl, h, fun x c e => ⟨c, e⟩, fun y hy => nomatch hy⟩
    | cons p r ih =>
      intro cs hp h
      obtain ⟨n, k⟩ := p
      by_cases hk : k = .free
      · subst hk
        obtain ⟨c, hc⟩ := has n (hp (n, .free) List.mem_cons_self rfl)
        have h' : ∀ x d, ((n, c) :: cs).lookup x = some d → env.cells.lookup x = some d := by
          intro x d e
          rw [List.lookup_cons] at e
          cases hx : x == n with
          | true =>
            rw [hx] at e
            have : x = n := by simpa using hx
            cases e; rw [this]; exact hc
          | false => rw [hx] at e; exact h x d e
        obtain ⟨cl, e1, e2, e3, e4⟩ := ih ((n, c) :: cs) (fun y hy => hp y (List.mem_cons_of_mem _ hy)) h'
        have hn : ∃ d, cl.lookup n = some d := e3 n c (by simp [List.lookup_cons])
        refine ⟨cl, ?_, e2, fun x d e => ?_, fun y hy hyk => ?_⟩
        · rw [List.forIn_cons]
          have : cellOf env n = pure c := by unfold cellOf; rw [hc]
          simp only [beq_self_eq_true, if_true, this]
          exact e1
        · by_cases hx : x = n
          · subst hx; exact hn
          · exact e3 x d (by rw [List.lookup_cons]; have : (x == n) = false := by simpa using hx
                             rw [this]; exact e)
        · rcases List.mem_cons.mp hy with rfl | hy
          · exact hn
          · exact e4 y hy hyk
      · obtain ⟨cl, e1, e2, e3, e4⟩ := ih cs (fun y hy => hp y (List.mem_cons_of_mem _ hy)) h
        refine ⟨cl, ?_, e2, e3, fun y hy hyk => ?_⟩
        · rw [List.forIn_cons]
          have : (k == NameKind.free) = false := by simpa using hk
          simp only [this]
          exact e1
        · rcases List.mem_cons.mp hy with rfl | hy
          · exact absurd hyk hk
          · exact e4 y hy hyk
  obtain ⟨cl, e1, e2, _, e4⟩ := gen scope.names [] hf (fun x c e => nomatch e)
  refine ⟨cl, ?_, e2, e4⟩
  unfold closureFor
  simp only []
  exact congrArg (· >>= fun cs => pure cs) e1 |>.trans rfl
end L2
namespace L2
open PySem PySem.Spec PyProof.Rows
theorem relabel_kind {scope : Scope} {env : Env} {x : Str} {k : NameKind} (h : (relabel scope env).names.lookup x = some k) (hk : k = .cell ∨ k = .free) (nc : ∀ y ∈ scope.names, y.2 ≠ .cell) : ∃ y ∈ scope.names, y.1 = x ∧ y.2 = .free := by
  have gen : ∀ names : List (Str × NameKind), (names.map fun (n, k) => if (k == NameKind.free && env.scope.kind == .function && env.kindOf n == some .cell) then (n, NameKind.cell) else (n, k)).lookup x = some k → (∀ y ∈ names, y.2 ≠ .cell) →
      ∃ y ∈ names, y.1 = x ∧ y.2 = .free := by
    intro names
    induction names with
    | nil => intro h _; cases h
    | cons p r ih =>
      obtain ⟨n, j⟩ := p
      intro h nc
      rw [List.map_cons, List.lookup_cons] at h
      have e1 : (if (j == NameKind.free && env.scope.kind == .function && env.kindOf n == some .cell) = true then (n, NameKind.cell) else (n, j)).1 = n := by split <;> rfl
      dsimp only at h
      rw [e1] at h
      cases hx : x == n with
      | false =>
        rw [hx] at h
        obtain ⟨y, hy, q⟩ := ih h fun y hy => nc y (List.mem_cons_of_mem _ hy)
        exact ⟨y, List.mem_cons_of_mem _ hy, q⟩
      | true =>
        rw [hx] at h
        have ex : x = n := by simpa using hx
        have hj : j = .free := by
          by_cases hc : (j == NameKind.free && env.scope.kind == .function && env.kindOf n == some .cell) = true
          · have := (Bool.and_eq_true _ _).mp ((Bool.and_eq_true _ _).mp hc).1
            simpa using this.1
          · rw [if_neg hc] at h
            cases h
            rcases hk with z | z
            · exact absurd z (nc (n, j) List.mem_cons_self)
            · exact z
        exact ⟨(n, j), List.mem_cons_self, ex.symm, hj⟩
  exact gen scope.names h nc
section
variable {X : Cx} {pins : List (Addr × Obj)} {σ : St} {H : Hp} {s : Shared} {N : List Str} {scope : Scope} {cl : List (Str × Addr)} {C : Addr} {ex : List Addr}
theorem cxC_ok (I : Inv X pins σ H s) (hC : s.heap.objs.size ≤ C) (hkind : scope.kind = .function) (nc : ∀ y ∈ scope.names, y.2 ≠ .cell)
    (hcl : ∀ x c, cl.lookup x = some c → X.env.cells.lookup x = some c) (hcf : ∀ y ∈ scope.names, y.2 = .free → ∃ c, cl.lookup y.1 = some c)
    (hex : ∀ b ∈ ex, FpOk X pins H b) (hexl : ∀ b ∈ ex, b < s.heap.objs.size) : (cxC X N scope cl C s H ex).Ok where
  mod := I.ok.mod
  kind := hkind
  glob := I.ok.glob
  blt := I.ok.blt
  above := hC
  inj := fun x y c h1 h2 => I.ok.inj x y c (hcl x c h1) (hcl y c h2)
  has := fun x hx => by
    have hx' : ∃ k, (relabel scope X.env).names.lookup x = some k ∧ (k = .cell ∨ k = .free) := by
      rcases hx with h | h
      · exact ⟨_, h, .inl rfl⟩
      · exact ⟨_, h, .inr rfl⟩
    obtain ⟨k, h, hk⟩ := hx'
    obtain ⟨y, hy, e1, e2⟩ := relabel_kind h hk nc
    rw [← e1]
    exact hcf y hy e2
  cab := fun x c h => by cases h
  hd := I.ok.hd
  frames := I.ok.frames
  stk := .inl rfl
  exf := fun b hb => ⟨Nat.ne_of_lt (Nat.lt_of_lt_of_le (hexl b hb) hC), fun x c e => (hex b hb).2.2.2.2.1 x c (hcl x c e)⟩
  bs := I.bs
  bsz := Nat.le_trans I.ok.bsz I.sz
  noex := fun b o e hb => by
    rcases (hex b hb).2.2.2.1 with z | z
    · exact I.ok.noex b o e z
    · have h1 := Heap.lt_size e
      have h2 := I.ok.bsz
      exact absurd (Nat.lt_of_lt_of_le h1 (Nat.le_trans h2 z)) (Nat.lt_irrefl _)
  exfs := fun b hb z => by
    have h1 := I.stkSub b z
    rcases List.mem_cons.mp h1 with z | z
    · exact (hex b hb).2.1 z
    · exact (hex b hb).2.2.1 z
  funs := I.stack
  frf := I.stkFree
def capV (caps : List Nat) (σ : St) : St := caps.map fun j => (σ[j]?).join
def cSt (n : Nat) (caps : List Nat) (σ : St) : St := List.replicate n none ++ capV caps σ
theorem cxC_inv {caps : List Nat} {Nt Nf : List Str} {s1 : Shared} {m : Str → Option Value} (I : Inv X pins σ H s) (ok : (cxC X (Nt ++ Nf) scope cl C s H ex).Ok)
    (hcl : ∀ x c, cl.lookup x = some c → X.env.cells.lookup x = some c)
    (hcap : caps.map (fun j => X.N[j]?) = Nf.map some)
    (hvis : ∀ x ∈ Nf, scope.names.lookup x = some .free) (hXv : ∀ x ∈ Nf, X.env.kindOf x = some .cell ∨ X.env.kindOf x = some .free) (hcf : ∀ x ∈ Nf, ∃ c, cl.lookup x = some c)
    (hos : s1.os = s.os) (hgens : s1.gens = s.gens) (hk : ∀ b o, s.heap.get? b = some o → s1.heap.get? b = some o) (hns : s1.heap.Ns C m) (hC : s.heap.objs.size ≤ C) :
    Inv (cxC X (Nt ++ Nf) scope cl C s H ex) [] (cSt Nt.length caps σ) H s1 := by
  have hlen : caps.length = Nf.length := by
    have := congrArg List.length hcap
    simpa using this
  refine ⟨ok, hos, by rw [hgens]; exact I.bare, Un.kept hk, ⟨m, hns, fun i x v h1 h2 h3 => ?_⟩, fun x c e => ?_, I.hok.fresh hC, fun x c e => I.freeC x c (hcl x c e), fun p hp => absurd (show p ∈ ([] : List (Addr × Obj)) from hp) (by simp), I.hok.kept hk, ?_⟩
  · -- a captured name
    have hi : Nt.length ≤ i := by
      refine Nat.le_of_not_lt fun q => ?_
      unfold cSt at h2
      rw [List.getElem?_append_left (by simpa using q), List.getElem?_replicate] at h2
      split at h2 <;> cases h2
    have h1' : Nf[i - Nt.length]? = some x := by
      have : (Nt ++ Nf)[i]? = some x := h1
      rwa [List.getElem?_append_right hi] at this
    unfold cSt at h2
    rw [List.getElem?_append_right (by simpa using hi)] at h2
    have e0 : i - (List.replicate Nt.length (none : Option V)).length = i - Nt.length := by simp
    rw [e0] at h2
    generalize hj : i - Nt.length = j at h1' h2
    unfold capV at h2
    rw [List.getElem?_map] at h2
    cases hc : caps[j]? with
    | none => rw [hc] at h2; cases h2
    | some jj =>
      rw [hc] at h2
      have h2' : (σ[jj]?).join = some v := Option.some.inj h2
      have h2'' : σ[jj]? = some (some v) := by
        cases q : σ[jj]? with
        | none => rw [q] at h2'; cases h2'
        | some z => rw [q] at h2'; cases z with
          | none => cases h2'
          | some z' => cases h2'; rfl
      have hN : X.N[jj]? = some x := by
        have q := congrArg (fun l => l[j]?) hcap
        simp only [List.getElem?_map, hc, h1', Option.map_some] at q
        exact Option.some.inj q
      have hx : x ∈ Nf := List.mem_of_getElem? h1'
      have hXk := hXv x hx
      obtain ⟨mX, _, hl⟩ := I.loc
      obtain ⟨u, ru, lk⟩ := hl jj x v hN h2'' (by
        rcases hXk with z | z
        · exact .inr (.inl z)
        · exact .inr (.inr z))
      refine ⟨u, ru, .inr ?_⟩
      rcases lk with ⟨z, _⟩ | ⟨_, c, hc1, hcell⟩
      · rcases hXk with y | y <;> (rw [z] at y; cases y)
      · obtain ⟨c', hc'⟩ := hcf x hx
        have e := hcl x c' hc'
        rw [hc1] at e; cases e
        refine ⟨?_, c, hc', ?_⟩
        · rcases h3 with z | z | z
          · -- not a local of the block
            exfalso
            have hfree := hvis x hx
            have z' : (relabel scope X.env).names.lookup x = some .local := z
            have gen : ∀ names : List (Str × NameKind), names.lookup x = some .free → (names.map fun (n, k) => if (k == NameKind.free && X.env.scope.kind == .function && X.env.kindOf n == some .cell) then (n, NameKind.cell) else (n, k)).lookup x ≠ some .local := by
              intro names
              induction names with
              | nil => intro h; cases h
              | cons p r ih =>
                obtain ⟨n, k⟩ := p
                intro h
                rw [List.map_cons, List.lookup_cons]
                rw [List.lookup_cons] at h
                have e1 : (if (k == NameKind.free && X.env.scope.kind == .function && X.env.kindOf n == some .cell) = true then (n, NameKind.cell) else (n, k)).1 = n := by split <;> rfl
                dsimp only
                rw [e1]
                cases hx : x == n with
                | false => rw [hx] at h; exact ih h
                | true =>
                  rw [hx] at h
                  cases h
                  show some (if _ then (n, NameKind.cell) else (n, NameKind.free)).2 ≠ some .local
                  split <;> (intro q; cases q)
            exact gen scope.names hfree z'
          · exact .inl z
          · exact .inr z
        · obtain ⟨o, eo, d⟩ := hcell
          exact ⟨o, hk _ _ eo, d⟩
  · obtain ⟨v, q⟩ := I.cell x c (hcl x c e)
    obtain ⟨o, eo, d⟩ := q
    exact ⟨v, o, hk _ _ eo, d⟩
  · show (cSt Nt.length caps σ).length = (Nt ++ Nf).length
    unfold cSt capV
    simp [hlen]
end
end L2
namespace L2
open PySem PySem.Spec PyProof.Rows
abbrev askIfs (ifs : List Expr) (env : Env) : Sem Bool := forIn ifs true fun c r => if r = true then do let ok ← isTrue c env (eval c env); pure (ForInStep.yield ok) else pure (ForInStep.yield r)
abbrev NoX : Value → Shared → Prop := fun _ _ => False
theorem compLoop_any {P : Program} {w : World} {B : Around} {R : Result → Shared → Prop} {s : Shared} {y tg l : Expr} {cs : List Expr} {sc : Scope} {ps : Pos} {iv av : Value} {en : Env} (G : Nat → Shared → Prop)
    (one : ∀ n s, G n s → wpAny (model P w) B (pyNext iv) (fun r s1 => match r with
      | none => R (.ok .next) s1
      | some v => wpAny (model P w) B (letOwnedTupleGo tg iv v) (fun _ s1 => wpAny (model P w) B (assign tg en v) (fun _ s2 => wpAny (model P w) B (askIfs cs en) (fun k s3 =>
            if k = true then wpAny (model P w) B (eval y en) (fun x s4 => wpAny (model P w) B (call (.builtin "list.append") [av, x]) (fun _ s5 => ∃ m, m < n ∧ G m s5) NoX s4) NoX s3
            else ∃ m, m < n ∧ G m s3) NoX s2) NoX s1) NoX s1) NoX s) (n : Nat) (h : G n s) :
    codeAny (model P w) B (.compLoop (.ListComp y [⟨tg, l, cs, 0⟩] sc ps) 0 iv av en) R s := by
  refine codeAny_loop rfl G (fun n s hG => ?_) n h
  show wpAny _ B ((compTurn (.ListComp y [⟨tg, l, cs, 0⟩] sc ps) 0 iv av en).onRaise (fun x => do noteFrame x en; theTreesLotGoes x)) _ _ s
  refine wpAny_noted ?_
  rw [compTurn_list]
  refine wpAny_bind (wpAny_standAt (wpAny_bind (wpAny_mono (one n s hG) (fun r s1 h1 => ?_) fun _ _ z => z.elim)))
  cases r with
  | none => exact wpAny_pure h1
  | some v =>
    refine wpAny_bind (wpAny_mono h1 (fun _ s1' h1' => ?_) fun _ _ z => z.elim)
    refine wpAny_bind (wpAny_mono h1' (fun _ s2 h2 => wpAny_bind (wpAny_mono h2 (fun k s3 h3 => ?_) fun _ _ z => z.elim)) fun _ _ z => z.elim)
    cases k with
    | false => exact wpAny_pure ⟨rfl, h3⟩
    | true => exact wpAny_bind (wpAny_bind (wpAny_mono h3 (fun x s4 h4 => wpAny_bind (wpAny_mono h4 (fun _ s5 h5 => wpAny_pure (wpAny_pure ⟨rfl, h5⟩)) fun _ _ z => z.elim)) fun _ _ z => z.elim))
def PTs (X : Cx) (ifs : List Expr) (t : TT) : Prop :=
  ∀ (pins : List (Addr × Obj)) (s : Shared) (σ : St) (H : Hp) (Q : Bool → Hp → Prop), Inv X pins σ H s → t σ H Q →
    wpAny (model X.prog X.w) X.A (askIfs ifs X.env) (TP X pins σ Q) X.xe s
def tNoIf : TT := fun _ H Q => Q true H
theorem pts_nil {X : Cx} : PTs X [] tNoIf := fun pins s σ H Q I h => wpAny_tests_nil ⟨H, I, h⟩
section
variable {X : Cx} {pins : List (Addr × Obj)} {σ : St} {H : Hp} {s : Shared}
theorem Inv.adopt {D : Addr} {o : HO} (I : Inv X pins σ H s) (hD : H D = none) (h1 : X.s₀.heap.objs.size ≤ D) (h2 : D ≠ X.env.locals) (h3 : ∀ x c, X.env.cells.lookup x = some c → c ≠ D) (h4 : ∀ p ∈ X.pn ++ pins, p.1 ≠ D)
    (new : ObjOk X.prog X.w (upd H D o) s.heap D o) : Inv X pins σ (upd H D o) s := by
  have old : ∀ {b : Addr} {q : Obj}, X.s₀.heap.get? b = some q → b ≠ D := fun e => Nat.ne_of_lt (Nat.lt_of_lt_of_le (Heap.lt_size e) h1)
  refine ⟨I.ok, I.os, I.bare, ⟨I.base.keep, I.base.slot, fun b q e n hx => by rw [upd_ne (old e)]; exact I.base.free b q e n hx, I.base.there, fun b xs e => ?_, fun b q u e => ?_, fun b ps e => ?_⟩, I.loc, I.cell, by rw [upd_ne (Ne.symm h2)]; exact I.free, fun x c e => by rw [upd_ne (h3 x c e)]; exact I.freeC x c e, fun p hp => ?_, fun b u e => ?_, I.len⟩
  · have e' := I.base.tups b xs e
    rw [upd_ne (ne_of_none e' hD)]; exact e'
  · have e' := I.base.frzs b q u e
    rw [upd_ne (ne_of_none e' hD)]; exact e'
  · obtain ⟨more, e'⟩ := I.base.tbls b ps e
    exact ⟨more, by rw [upd_ne (ne_of_none e' hD)]; exact e'⟩
  · obtain ⟨a1, a2, a3, a4, a5⟩ := I.pin p hp
    exact ⟨a1, by rw [upd_ne (h4 p hp)]; exact a2, a3, a4, a5⟩
  · by_cases hb : b = D
    · subst hb; rw [upd_same] at e; cases e; exact new
    · rw [upd_ne hb] at e
      exact (I.hok b u e).stay (fun c v _ q => q) (fun c q => by rw [upd_ne (ne_of_none q hD)]; exact q) fun c xs q => by rw [upd_ne (ne_of_none q hD)]; exact q
def tLC (wi : TI) (g : TG) (tt : TT) (te : TE) (n : Nat) (caps : List Nat) : TE := fun σ H Q => wi σ H fun J H1 => ∃ W : Nat → Nat → List V → St → Hp → Prop, (∃ m, W 0 m [] (cSt n caps σ) H1) ∧ ∀ i m acc σ' H', W i m acc σ' H' →
  (J.stop i H' ∧ ∀ l, H' l = none → Q (.ref l) (upd H' l (.lst acc))) ∨
  (J.go i H' ∧ acc.length < sizeLine ∧ ∃ N : List V → St → Hp → Prop, (∀ ac σ2 H2, N ac σ2 H2 → ∃ m', m' < m ∧ W (i + 1) m' ac σ2 H2) ∧ ∀ x H2, J.yld i H' x H2 → g x σ' H2 fun σ3 H3 => tt σ3 H3 fun b H4 => if b = true then te σ3 H4 fun y H5 => N (acc ++ [y]) σ3 H5 else N acc σ3 H4)
structure CompOk (X : Cx) (scope : Scope) (Nt Nf : List Str) (caps : List Nat) : Prop where
  kind : scope.kind = .function
  nc : ∀ y ∈ scope.names, y.2 ≠ .cell
  nm : ∀ y ∈ scope.names, y.2 = .local → scope.names.lookup y.1 = some .local
  fr : ∀ y ∈ scope.names, y.2 = .free → X.env.kindOf y.1 = some .cell ∨ X.env.kindOf y.1 = some .free
  cap : caps.map (fun j => X.N[j]?) = Nf.map some
  vis : ∀ x ∈ Nf, scope.names.lookup x = some .free
theorem comp_block {tg iter elt : Expr} {ifs : List Expr} {scope : Scope} {pos : Pos} {g : TG} {tt : TT} {te : TE} {Nt Nf : List Str} {caps : List Nat} {cl : List (Str × Addr)} {it : Addr} {fp : List Addr} {tn : Nat → Heap → Prop} {J : It} {Q : VK} {E : Value → Shared → Prop}
    {RR : Value → Addr → Result → Shared → Prop}
    (hc : X.calm = true) (S : CompOk X scope Nt Nf caps)
    (hg : ∀ cl C s0 H0 ex, PG (cxC X (Nt ++ Nf) scope cl C s0 H0 ex) tg g)
    (ht : ∀ cl C s0 H0 ex, PTs (cxC X (Nt ++ Nf) scope cl C s0 H0 ex) ifs tt)
    (he : ∀ cl C s0 H0 ex, PE (cxC X (Nt ++ Nf) scope cl C s0 H0 ex) elt te)
    (hcl : ∀ x c, cl.lookup x = some c → X.env.cells.lookup x = some c) (hcf : ∀ y ∈ scope.names, y.2 = .free → ∃ c, cl.lookup y.1 = some c)
    (I : Inv X pins σ H s) (T : Turn X.prog X.w X.K tg J fp it tn) (st : tn 0 s.heap) (hfp : ∀ b ∈ fp, FpOk X pins H b)
    (hW : ∃ W : Nat → Nat → List V → St → Hp → Prop, (∃ m, W 0 m [] (cSt Nt.length caps σ) H) ∧ ∀ i m acc σ' H', W i m acc σ' H' →
      (J.stop i H' ∧ ∀ l, H' l = none → Q (.ref l) (upd H' l (.lst acc))) ∨
      (J.go i H' ∧ acc.length < sizeLine ∧ ∃ N : List V → St → Hp → Prop, (∀ ac σ2 H2, N ac σ2 H2 → ∃ m', m' < m ∧ W (i + 1) m' ac σ2 H2) ∧ ∀ x H2, J.yld i H' x H2 → g x σ' H2 fun σ3 H3 => tt σ3 H3 fun b H4 => if b = true then te σ3 H4 fun y H5 => N (acc ++ [y]) σ3 H5 else N acc σ3 H4))
    (fin : ∀ D C m s' H', Inv X pins σ H' s' → Q (.ref D) H' → s'.heap.Ns C m → H' C = none → C ≠ X.env.locals → X.s₀.heap.objs.size ≤ C → (∀ x c, X.env.cells.lookup x = some c → c ≠ C) → (∀ p ∈ X.pn ++ pins, p.1 ≠ C) → RR (.ref D) C (.ok .next) s') :
    wpAny (model X.prog X.w) X.A (newList []) (fun acc s₃ => wpAny (model X.prog X.w) X.A (newFunctionEnv scope X.env.globals cl [] X.env.qual none .none (some X.env)) (fun cenv s₄ =>
      codeAny (model X.prog X.w) X.A (.compStart (.ListComp elt [⟨tg, iter, ifs, 0⟩] scope pos) 0 (.ref it) acc { cenv with scope := relabel scope X.env }) (RR acc cenv.locals) s₄) E s₃) E s := by
  obtain ⟨W, ⟨m0, w0⟩, turn⟩ := hW
  refine wpAny_newObj_type (wpAny_newFunctionEnv S.nc (by intro y hy; simp at hy) (fun h₁ hns₁ hsb₁ => ?_) S.kind)
  dsimp only at hns₁ hsb₁ ⊢
  generalize hH2 : s.heap.push { cls := .type "list", dict := none, data := .seq ([] : List Value).toArray } = P2 at hns₁ hsb₁ ⊢
  have hCs : P2.objs.size = s.heap.objs.size + 1 := by rw [← hH2, Heap.size_push]
  have hDC : s.heap.objs.size ≠ P2.objs.size := by rw [hCs]; exact Nat.ne_of_lt (Nat.lt_succ_self _)
  have hCle : s.heap.objs.size ≤ P2.objs.size := by rw [hCs]; exact Nat.le_succ _
  have below : ∀ b, b < s.heap.objs.size → b ≠ P2.objs.size := fun b hb => by rw [hCs]; exact Nat.ne_of_lt (Nat.lt_succ_of_lt hb)
  have old : ∀ b o, s.heap.get? b = some o → h₁.get? b = some o := fun b o e => hsb₁.extBut b o (below b (Heap.lt_size e)) (Heap.get?_push_of_some _ (hH2 ▸ Heap.get?_push_of_some _ e))
  have hacc : h₁.PlainList s.heap.objs.size #[] := ⟨_, hsb₁.extBut _ _ hDC (Heap.get?_push_of_some _ (hH2 ▸ Heap.get?_push_size _ rfl))⟩
  have fpl : ∀ b ∈ fp, b < s.heap.objs.size := fun b hb => by
    obtain ⟨o, e, _⟩ := T.obj _ _ st b hb
    exact Heap.lt_size e
  have st₁ : tn 0 h₁ := T.keep _ _ _ st fun b _ o e => old b o e
  generalize hCe : P2.objs.size = C at hns₁ hsb₁ hDC hCle below ⊢
  generalize hDe : s.heap.objs.size = D at hacc hDC hCle ⊢
  have hDl : X.env.locals < D := by rw [← hDe]; exact I.lt
  have hDs : X.s₀.heap.objs.size ≤ D := by rw [← hDe]; exact I.sz
  have hcD : ∀ x c, X.env.cells.lookup x = some c → c < D := fun x c e => by
    obtain ⟨v, q⟩ := I.cell x c e
    rw [← hDe]; exact q.lt
  have hpD : ∀ p ∈ X.pn ++ pins, p.1 < D := fun p hp => by rw [← hDe]; exact Heap.lt_size (I.pin p hp).1
  let Y : Cx := cxC X (Nt ++ Nf) scope cl C s H fp
  have okY : Y.Ok := cxC_ok I (by rw [hDe]; exact hCle) S.kind S.nc hcl hcf hfp fpl
  have hfsY : ∀ b, b ∈ Y.fs → b < D := fun b hb => by
    rcases List.mem_cons.mp (I.stkSub b hb) with z | z
    · rw [z]; exact hDl
    · refine Nat.lt_of_lt_of_le ?_ hDs
      have := (I.ok.funs.mem z)
      refine Nat.lt_of_not_le fun q => ?_
      exact absurd z (fun z => by
        have := I.nofs (a := b)
        by_cases hb2 : s.heap.objs.size ≤ b
        · exact this hb2 z
        · obtain ⟨_, o, e, _⟩ := I.ok.funs.mem z
          exact absurd (Heap.lt_size e) (Nat.not_lt.mpr q))
  have loop : ∀ s₃ : Shared, s₃ = { s with heap := h₁, toks := s.toks + ([] : List (Str × Value)).length } →
      codeAny (model X.prog X.w) X.A (.compLoop (.ListComp elt [⟨tg, iter, ifs, 0⟩] scope pos) 0 (.ref it) (.ref D) Y.env) (RR (.ref D) C) s₃ := by
    rintro s₃ rfl
    have I0 : Inv Y [] (cSt Nt.length caps σ) H { s with heap := h₁, toks := s.toks + ([] : List (Str × Value)).length } :=
      cxC_inv I okY hcl S.cap S.vis (fun x hx => S.fr (x, .free) (PySem.mem_of_lookup (S.vis x hx)) rfl) (fun x hx => hcf (x, .free) (PySem.mem_of_lookup (S.vis x hx)) rfl) rfl rfl old hns₁ (by rw [hDe]; exact hCle)
    have fpY : ∀ {H' : Hp}, (∀ b ∈ fp, H' b = none) → ∀ b ∈ fp, FpOk Y [] H' b := fun hn b hb =>
      ⟨hn b hb, Nat.ne_of_lt (Nat.lt_of_lt_of_le (fpl b hb) (by rw [hDe]; exact hCle)), okY.exfs b hb, .inl hb, fun x c e => (hfp b hb).2.2.2.2.1 x c (hcl x c e), fun p hp => absurd (show p ∈ ([] : List (Addr × Obj)) from hp) (by simp)⟩
    have fpD : ∀ b ∈ fp, b ≠ D := fun b hb => Nat.ne_of_lt (by rw [← hDe]; exact fpl b hb)
    refine compLoop_any (fun n s' => ∃ i acc its σ' H', Inv Y [] σ' H' s' ∧ tn i s'.heap ∧ (∀ b ∈ fp, H' b = none) ∧ s'.heap.PlainList D its ∧ H' D = none ∧ Vals acc its.toList ∧ acc.length ≤ sizeLine ∧ W i n acc σ' H') ?_ m0
      ⟨0, [], #[], cSt Nt.length caps σ, H, I0, st₁, fun b hb => (hfp b hb).1, hacc, by rw [← hDe]; exact I.hok.fresh (Nat.le_refl _), .nil, Nat.zero_le _, w0⟩
    rintro n s3 ⟨i, acc, its, σ3, H3, I3, st3, fr3, ⟨nd, e3⟩, hD3, rv3, hl3, w3⟩
    have cD : C ≠ D := Ne.symm hDC
    have pinOk : ∀ {H' : Hp} {s' : Shared} {o : Obj}, s'.heap.get? D = some o → H' D = none → (∀ v, o.data ≠ .cell v) → s'.heap.get? D = some o ∧ H' D = none ∧ D ≠ Y.env.locals ∧ D ∉ Y.fs ∧ ∀ v, o.data ≠ .cell v := fun e n d =>
      ⟨e, n, hDC, fun z => absurd (hfsY D z) (Nat.lt_irrefl _), d⟩
    have I3' : Inv Y [(D, { cls := .type "list", data := .seq its nd })] σ3 H3 s3 := I3.pins_of fun p hp => by
      obtain rfl : p = (D, ({ cls := .type "list", data := .seq its nd } : Obj)) := List.mem_singleton.mp hp
      exact pinOk e3 hD3 (fun v z => by cases z)
    have fpY' : ∀ {H' : Hp}, (∀ b ∈ fp, H' b = none) → ∀ b ∈ fp, FpOk Y [(D, { cls := .type "list", data := .seq its nd })] H' b := fun hn b hb => by
      obtain ⟨a1, a2, a3, a4, a5, _⟩ := fpY hn b hb
      refine ⟨a1, a2, a3, a4, a5, fun p hp => ?_⟩
      obtain rfl : p = (D, ({ cls := .type "list", data := .seq its nd } : Obj)) := List.mem_singleton.mp hp
      exact Ne.symm (fpD b hb)
    rcases turn i n acc σ3 H3 w3 with ⟨stop, qn⟩ | ⟨go, hlt, N, hN, step⟩
    · refine thn (T.done Y rfl rfl rfl hc i _ s3 σ3 H3 _ I3' (fpY' fr3) st3 stop) fun r s4 ⟨hr, I4⟩ => ?_
      subst hr
      have e4 := (I4.pin (D, { cls := .type "list", data := .seq its nd }) (List.mem_append_right _ List.mem_cons_self)).1
      have IX : Inv X pins σ H3 s4 := I.call' (ch := fp) I4.os I4.base I4.hok I4.bare fun b hb => by
        obtain ⟨_, a2, _, a4, a5, a6⟩ := hfp b hb
        exact ⟨a4, a2, a5, a6⟩
      have IA := IX.adopt (o := .lst acc) hD3 hDs (Nat.ne_of_gt hDl) (fun x c e => Nat.ne_of_lt (hcD x c e)) (fun p hp => Nat.ne_of_lt (hpD p hp)) ⟨hl3, its.toList, nd, rv3, e4⟩
      obtain ⟨m, nsC, _⟩ := I4.loc
      refine fin D C m s4 _ IA (qn D hD3) nsC (by rw [upd_ne cD]; exact I4.free) ?_ ?_ ?_ ?_
      · exact Nat.ne_of_gt (Nat.lt_of_lt_of_le hDl hCle)
      · exact Nat.le_trans hDs hCle
      · exact fun x c e => Nat.ne_of_lt (Nat.lt_of_lt_of_le (hcD x c e) hCle)
      · exact fun p hp => Nat.ne_of_lt (Nat.lt_of_lt_of_le (hpD p hp) hCle)
    · refine thn (T.item Y rfl rfl rfl hc i _ s3 σ3 H3 _ I3' (fpY' fr3) st3 go) fun r s4 ⟨u, hr, h4⟩ => ?_
      subst hr
      refine thn h4 fun _ s5 ⟨x, H5, I5, r5, y5, st5, fr5⟩ => ?_
      have I5' := I5.pinned (fpY' fr5) (T.obj _ _ st5)
      refine thn (hg cl C s H fp _ s5 σ3 H5 x u _ I5' r5 (step x H5 y5)) fun _ s6 ⟨σ6, H6, I6, q6⟩ => ?_
      refine thn (ht cl C s H fp _ s6 σ6 H6 _ I6 q6) fun b s7 ⟨H7, I7, q7⟩ => ?_
      have back : ∀ {σ' : St} {H' : Hp} {s' : Shared}, Inv Y ([(D, { cls := .type "list", data := .seq its nd })] ++ pinsAt fp s5.heap) σ' H' s' →
          s'.heap.get? D = some { cls := .type "list", data := .seq its nd } ∧ H' D = none ∧ tn (i + 1) s'.heap ∧ ∀ b ∈ fp, H' b = none := fun {σ' H' s'} J7 => by
        have hd := J7.pin (D, { cls := .type "list", data := .seq its nd }) (List.mem_append_right _ (List.mem_append_left _ List.mem_cons_self))
        refine ⟨hd.1, hd.2.1, T.keep _ _ _ st5 fun b hb o e => (J7.pin (b, o) (List.mem_append_right _ (List.mem_append_right _ (mem_pinsAt hb e)))).1, fun b hb => ?_⟩
        obtain ⟨o, e, d⟩ := T.obj _ _ st5 b hb
        exact (J7.pin (b, o) (List.mem_append_right _ (List.mem_append_right _ (mem_pinsAt hb e)))).2.1
      cases b with
      | false =>
        rw [if_neg Bool.false_ne_true]
        rw [if_neg Bool.false_ne_true] at q7
        obtain ⟨m', hm, w7⟩ := hN _ _ _ q7
        obtain ⟨b1, b2, b3, b4⟩ := back I7
        exact ⟨m', hm, i + 1, acc, its, σ6, H7, I7.pins_of (fun p hp => nomatch hp), b3, b4, ⟨nd, b1⟩, b2, rv3, hl3, w7⟩
      | true =>
        rw [if_pos rfl]
        rw [if_pos rfl] at q7
        refine thn (he cl C s H fp _ s7 σ6 H7 _ I7 q7) fun u8 s8 ⟨y, H8, I8, r8, n8⟩ => ?_
        obtain ⟨m', hm, w8⟩ := hN _ _ _ n8
        obtain ⟨b1, b2, b3, b4⟩ := back I8
        have hsz : its.size ≤ sizeLine := by
          have h1 := rv3.length
          have h2 : its.toList.length = its.size := by simp
          omega
        refine wpAny_list_append_plain (hsz := hsz) ⟨nd, b1⟩ fun h' pl' sb' => ?_
        have I8' : Inv Y [] σ6 H8 s8 := I8.pins_of (fun p hp => nomatch hp)
        refine ⟨m', hm, i + 1, acc ++ [y], its.push u8, σ6, H8, I8'.turned (t' := s8.toks) (fun b o hb e => (sb'.2 b hb).trans e) b2 hDC (.inr (by show s.heap.objs.size ≤ D; rw [hDe]; exact Nat.le_refl _)) (fun x c e => Nat.ne_of_lt (hcD x c (hcl x c e))) (fun p hp => absurd (show p ∈ ([] : List (Addr × Obj)) from hp) (by simp)), ?_, b4, pl', b2, ?_, ?_, w8⟩
        · exact T.keep _ _ _ b3 fun b hb o e => (sb'.2 b (fpD b hb)).trans e
        · rw [Array.toList_push]
          exact rv3.append (.cons r8 .nil)
        · rw [List.length_append, List.length_singleton]
          omega
  exact codeAny_compStart_list (loop _ rfl) (T.self _ _ _ _ _ st₁ (loop _ rfl))
theorem pe_lc {tg iter elt : Expr} {ifs : List Expr} {scope : Scope} {pos : Pos} {wi : TI} {g : TG} {tt : TT} {te : TE} {Nt Nf : List Str} {caps : List Nat} (hc : X.calm = true) (S : CompOk X scope Nt Nf caps) (hi : PI X tg iter wi)
    (hg : ∀ cl C s0 H0 ex, PG (cxC X (Nt ++ Nf) scope cl C s0 H0 ex) tg g)
    (ht : ∀ cl C s0 H0 ex, PTs (cxC X (Nt ++ Nf) scope cl C s0 H0 ex) ifs tt)
    (he : ∀ cl C s0 H0 ex, PE (cxC X (Nt ++ Nf) scope cl C s0 H0 ex) elt te)
    (hs : ∀ x, foldedSetIterable iter X.env x = pure x := by intro _; rfl) : PE X (.ListComp elt [⟨tg, iter, ifs, 0⟩] scope pos) (tLC wi g tt te Nt.length caps) := by
  intro pins s σ H Q I h
  obtain ⟨cl, hclos, hcl, hcf⟩ := closure_ok I.ok.has S.fr
  rw [eval_ListComp]
  refine wpAny_comprehension_free (use := none) rfl hs hclos S.kind S.nm (thn (hi pins s σ H _ I h) fun v s1 h1 => thn h1 fun itv s2 h2 => ?_)
  obtain ⟨it, fp, tn, J, H2, e, I2, T, st2, f2, hW⟩ := h2
  subst e
  refine comp_block (RR := fun acc C => compPost (model X.prog X.w) X.A X.xe none (EP X pins σ Q) acc C) (Q := Q) hc S hg ht he hcl hcf I2 T st2 f2 hW ?_
  intro D C m s' H' I' q nsC hCn hCl hCs hCc hCp
  exact ⟨m, nsC, fun h' sb => ⟨.ref D, H', I'.turned (t' := s'.toks) (fun b o hb e => (sb.2 b hb).trans e) hCn hCl (.inr hCs) hCc hCp, rfl, q⟩⟩
theorem ps_lc {tg iter elt : Expr} {ifs : List Expr} {scope : Scope} {pos spos py : Pos} {y : Str} {i : Nat} {wi : TI} {g : TG} {tt : TT} {te : TE} {Nt Nf : List Str} {caps : List Nat} (hc : X.calm = true) (S : CompOk X scope Nt Nf caps) (hi : PI X tg iter wi)
    (hg : ∀ cl C s0 H0 ex, PG (cxC X (Nt ++ Nf) scope cl C s0 H0 ex) tg g)
    (ht : ∀ cl C s0 H0 ex, PTs (cxC X (Nt ++ Nf) scope cl C s0 H0 ex) ifs tt)
    (he : ∀ cl C s0 H0 ex, PE (cxC X (Nt ++ Nf) scope cl C s0 H0 ex) elt te)
    (hN : X.N.Nodup) (hy : X.N[i]? = some y) (hx : Loc X.env.scope y)
    (hsw : swapsWith (.ListComp elt [⟨tg, iter, ifs, 0⟩] scope pos) (some (.Name y py)) spos.line X.env = pure true)
    (hf : X.fn y = true ∨ X.env.scope.names.lookup y = some .local := by first | exact .inl rfl | exact .inr rfl | assumption)
    (hs : ∀ x, foldedSetIterable iter X.env x = pure x := by intro _; rfl) : PS X (.Assign [.Name y py] (.ListComp elt [⟨tg, iter, ifs, 0⟩] scope pos) spos) (tAsg (tLC wi g tt te Nt.length caps) (gName i)) := by
  intro pins s σ H D I h
  obtain ⟨cl, hclos, hcl, hcf⟩ := closure_ok I.ok.has S.fr
  rw [exec_Assign_Name_used _ _ _ _ hsw]
  refine wpAny_bind (wpAny_standAt (wpAny_bind ?_))
  show wpAny _ X.A (do let _ ← comprehension (.ListComp elt [⟨tg, iter, ifs, 0⟩] scope pos) scope X.env _ (newList []) false (eval iter X.env) (some (assign (.Name y py) X.env))) _ _ s
  refine wpAny_bind (wpAny_mono (wpAny_comprehension_free (use := some (assign (.Name y py) X.env)) (Q := fun _ s' => SP X pins D .next s') rfl hs hclos S.kind S.nm
    (thn (hi pins s σ H _ I h) fun v s1 h1 => thn h1 fun itv s2 h2 => ?_)) (fun _ s' hq => wpAny_pure (wpAny_pure hq)) fun _ _ e => e)
  obtain ⟨it, fp, tn, J, H2, e, I2, T, st2, f2, hW⟩ := h2
  subst e
  refine comp_block (RR := fun acc C => compPost (model X.prog X.w) X.A X.xe (some (assign (.Name y py) X.env)) (fun _ s' => SP X pins D .next s') acc C) (Q := fun x H1 => gName i x σ H1 D.nx) hc S hg ht he hcl hcf I2 T st2 f2 hW ?_
  intro l C m s' H' I' q nsC hCn hCl hCs hCc hCp
  show wpAny _ X.A (assign (.Name y py) X.env (.ref l)) _ _ _
  refine wpAny_assign_Name (store_ok2 (v := .ref l) I' hN hy hx rfl (fun s'' I'' ⟨a, sb, ha⟩ => ?_) hf)
  have haC : C ≠ a := by
    rcases ha with z | z
    · rw [z]; exact hCl
    · exact fun e => hCc y a z e.symm
  refine ⟨m, nsC.sameBut sb haC, fun h' sb' => ⟨_, H', I''.turned (t' := s''.toks) (fun b o hb e => (sb'.2 b hb).trans e) hCn hCl (.inr hCs) hCc hCp, q⟩⟩
end
end L2
namespace L2
open PySem PySem.Spec PyProof.Rows
section
variable {X : Cx} {tg : Expr}
end
section
variable {X : Cx}
def strsV (ys : List Str) : List V := ys.map V.str
def CBig (i j : Int) : Prop := (i.natAbs < 2 ^ 4096 ∧ j.natAbs < 2 ^ 4096) ∨ CMul i j
theorem bits_le {i : Int} {n : Nat} (h : i.natAbs < 2 ^ n) : Builtin.Int.intBits i ≤ n := by
  unfold Builtin.Int.intBits
  split
  · exact Nat.zero_le _
  · rename_i h0
    have h1 : i.natAbs ≠ 0 := by simpa using h0
    have := (Nat.log2_lt h1).mpr h
    omega
theorem CBig.ok {i j : Int} (h : CBig i j) : IntMulOk i j := by
  rcases h with ⟨h1, h2⟩ | h
  · exact IntMulOk.of_bits (Nat.le_trans (bits_le h1) (by decide)) (Nat.le_trans (bits_le h2) (by decide))
  · exact h.ok
theorem op_big : OpR X (binaryOp .Mult) (rI CBig fun i j => .int (i * j)) := opI fun _ _ _ _ _ _ _ hc q => mul_int q hc.ok
theorem call_isi : CallR X (.builtin "isinstance") (fun xs H Q => ∃ x n t b, xs = [x, .ty n] ∧ TyOf X.K H x t ∧ PySem.W.kitOne X.K t (.type n) = some b ∧ Q (.bl b) H) := by
  intro pins s σ H xs us Q I r h
  obtain ⟨x, n, t, b, rfl, ty, e, q⟩ := h
  obtain ⟨u, w', rfl, rx, ry⟩ := vals2 r
  cases (show w' = Value.type n from ry)
  exact isinst_ok I rx ty e fun tk => ⟨.bl b, H, I.tok _, rfl, q⟩
def rEqS (K : PySem.W.Frag) (neg : Bool) : R2 := fun x y H Q => ∃ l b ys zs, x = .ref l ∧ y = .ref b ∧ SqL K H l (strsV ys) ∧ SqL K H b (strsV zs) ∧ Q (.bl (if neg then !decide (ys = zs) else decide (ys = zs))) H
theorem strs_at : ∀ {ys : List Str} {us : List Value}, Vals (strsV ys) us → ∀ (i : Nat) (h : i < us.length), ∃ y t, ys[i]? = some y ∧ us[i] = .str y t
  | [], _, r, i, h => by cases r; simp at h
  | y :: ys, _, r, i, h => by
    cases r with
    | cons r1 r2 =>
      cases i with
      | zero =>
        obtain ⟨t, rfl⟩ := r1
        exact ⟨y, t, rfl, rfl⟩
      | succ i => exact strs_at (ys := ys) r2 i (by simpa using h)
theorem range_eqS : ∀ (ys zs : List Str), ys.length = zs.length → ((List.range ys.length).all fun i => decide (ys[i]? = zs[i]?)) = decide (ys = zs) := by
  intro ys zs hl
  rw [Bool.eq_iff_iff, List.all_eq_true, decide_eq_true_iff]
  constructor
  · intro h
    refine List.ext_getElem? fun i => ?_
    by_cases hi : i < ys.length
    · exact of_decide_eq_true (h i (List.mem_range.mpr hi))
    · rw [List.getElem?_eq_none (by omega), List.getElem?_eq_none (by omega)]
  · intro h i _
    subst h
    simp
theorem eqS_core {pins : List (Addr × Obj)} {s : Shared} {σ : St} {H : Hp} {l b : Addr} {ys zs : List Str} (hu : X.A.units < cLine) (I : Inv X pins σ H s) (h1 : SqL X.K H l (strsV ys)) (h2 : SqL X.K H b (strsV zs)) :
    SeqAt.RcAt X.A s (.ref l) (.ref b) (decide (ys = zs)) := by
  obtain ⟨is1, r1, p1, _⟩ := I.list h1
  obtain ⟨is2, r2, p2, _⟩ := I.list h2
  have e1 : ys.length = is1.length := by have := r1.length; simpa [strsV] using this
  have e2 : zs.length = is2.length := by have := r2.length; simpa [strsV] using this
  by_cases hl : ys.length = zs.length
  · have := SeqAt.RcAt.lists (A := X.A) (s := s) (e := fun i => decide (ys[i]? = zs[i]?)) p1.isList p2.isList (by simp; omega) hu (fun j h1 h2 => by
      obtain ⟨y, t, ey, eu⟩ := strs_at r1 j (by simpa using h1)
      obtain ⟨z, t', ez, ew⟩ := strs_at r2 j (by simpa using h2)
      have : decide (ys[j]? = zs[j]?) = (y == z) := by rw [ey, ez, Bool.eq_iff_iff]; simp
      rw [this]
      have g1 : is1.toArray[j] = .str y t := by simpa using eu
      have g2 : is2.toArray[j] = .str z t' := by simpa using ew
      rw [g1, g2]
      exact SeqAt.EqAt.str_str y t z t')
    rw [show is1.toArray.size = ys.length by simp [e1], range_eqS ys zs hl] at this
    exact this
  · have hne : ys ≠ zs := fun e => hl (by rw [e])
    rw [decide_eq_false hne]
    exact SeqAt.RcAt.lists_lengths p1.isList p2.isList (by simp; omega) hu
theorem op_eqS (hu : X.A.units < cLine) : OpR X (compareOp .Eq) (rEqS X.K false) := by
  intro pins s σ H x y v u Q I rx ry h
  obtain ⟨l, b, ys, zs, rfl, rfl, h1, h2, q⟩ := h
  cases rx
  cases ry
  exact eqS_core hu I h1 h2 _ _ _ _ ⟨.bl _, H, I, rfl, q⟩
end
section
variable {X : Cx} {e : Expr} {te : TE} {pos : Pos}
end
end L2
namespace L2
open PySem PySem.Spec PyProof.Rows
abbrev New (H : Hp) (o : HO) (Q : VK) : Prop := ∀ p H', H p = none → Same H H' → H' p = some o → Q (.ref p) H'
theorem Same.new {H : Hp} {p : Addr} {o : HO} (h : H p = none) : Same H (upd H p o) := fun b u e => by rw [upd_ne (ne_of_none e h)]; exact e
theorem New.to {H : Hp} {Q : VK} {o : HO} (h : New H o Q) : ∀ p, H p = none → Q (.ref p) (upd H p o) := fun p hp => h p _ hp (Same.new hp) upd_same
section
variable {X : Cx} {es : List Expr} {t : TA} {pos : Pos}
def tLstN (t : TA) : TE := fun σ H Q => t σ H fun xs H1 => xs.length ≤ sizeLine ∧ New H1 (.lst xs) Q
def tTupN (t : TA) : TE := fun σ H Q => t σ H fun xs H1 => xs.length ≤ sizeLine ∧ New H1 (.tup xs) Q
theorem pe_tupN {x1} (h : PA X es t) : PE X (.Tuple es x1 pos) (tTupN t) := by
  intro pins s σ H Q I hq
  refine wpAny_Tuple_spliced (thn (h pos pins s σ H _ I hq) fun us s1 ⟨xs, H1, I1, r, z, q⟩ => ⟨by rw [← r.length]; exact z, ?_⟩)
  refine ⟨.ref s1.heap.objs.size, upd H1 s1.heap.objs.size (.tup xs), I1.laid (t' := s1.toks) (fun b u e => Heap.get?_push_of_some _ e) (Nat.le_refl _) ?_, rfl, New.to q _ (I1.hok.fresh (Nat.le_refl _))⟩
  exact ⟨z, us, r, ⟨_, Heap.get?_push_size _ rfl, rfl, _, rfl⟩⟩
theorem pe_lstN (h : PA X es t) : PE X (.List es pos) (tLstN t) := by
  intro pins s σ H Q I hq
  refine wpAny_List_spliced (thn (h pos pins s σ H _ I hq) fun us s1 ⟨xs, H1, I1, r, z, q⟩ => ⟨by rw [← r.length]; exact z, ?_⟩)
  refine ⟨.ref s1.heap.objs.size, upd H1 s1.heap.objs.size (.lst xs), I1.laid (t' := s1.toks) (fun b u e => Heap.get?_push_of_some _ e) (Nat.le_refl _) ?_, rfl, New.to q _ (I1.hok.fresh (Nat.le_refl _))⟩
  exact ⟨z, us, 0, r, Heap.get?_push_size _ rfl⟩
def rSlN (K : PySem.W.Frag) : V → Option Int → Option Int → Hp → VK → Prop := fun x lo hi H Q => ∃ a xs, x = .ref a ∧ SqL K H a xs ∧ New H (.lst (cutV xs lo hi)) Q
theorem sl_listN : SlR X (rSlN X.K) := by
  intro pins s σ H x v vl vu lo hi sl Q I rx hs pl pu h
  obtain ⟨a, xs, e, h1, h2⟩ := h
  exact sl_list pins s σ H x v vl vu lo hi sl Q I rx hs pl pu ⟨a, xs, e, h1, New.to h2⟩
theorem call_listN : CallR X (.type "list") (fun xs H Q => ∃ p ys, xs = [.ref p] ∧ (SqL X.K H p ys ∨ SqT X.K H p ys) ∧ New H (.lst ys) Q) := by
  intro pins s σ H xs us Q I r h
  obtain ⟨p, ys, e, h1, h2⟩ := h
  exact call_list_of pins s σ H xs us Q I r ⟨p, ys, e, h1, New.to h2⟩
end
def rIsi (K : PySem.W.Frag) : List V → Hp → VK → Prop := fun xs H Q => ∃ x n t b, xs = [x, .ty n] ∧ TyOf K H x t ∧ PySem.W.kitOne K t (.type n) = some b ∧ Q (.bl b) H
def tTru (K : PySem.W.Frag) (ta : TE) : TT := fun σ H Q => ta σ H fun x H' => ∃ k, TruV K x H' k ∧ Q k H'
def rLen (K : PySem.W.Frag) : List V → Hp → VK → Prop := fun xs H Q => ∃ x n, xs = [x] ∧ LenV K x H n ∧ Q (.int n) H
def rToInt : List V → Hp → VK → Prop := fun xs H Q => (∃ i, xs = [.int i] ∧ Q (.int i) H) ∨ ∃ k, xs = [.bl k] ∧ Q (.int (if k then 1 else 0)) H
def rListN (K : PySem.W.Frag) : List V → Hp → VK → Prop := fun xs H Q => ∃ p ys, xs = [.ref p] ∧ (SqL K H p ys ∨ SqT K H p ys) ∧ New H (.lst ys) Q
section
variable {X : Cx} {a : Expr} {ta : TE}
theorem cl_isi : CallR X (.builtin "isinstance") (rIsi X.K) := call_isi
theorem pt_tru (ha : PE X a ta) (he : ∀ whole, isTrue a X.env whole = (do let v ← whole; standAt a.pos; holding [v] (truthy v))) : PT X a (tTru X.K ta) := pt_truth ha he
theorem cl_len : CallR X (.builtin "len") (rLen X.K) := call_len
theorem cl_int : CallR X (.type "int") rToInt := call_int1
theorem cl_list : CallR X (.type "list") (rListN X.K) := call_listN
end
def rPlus : R2 := fun x y H Q => match x, y with
  | .int i, .int j => Q (.int (i + j)) H
  | .str i, .str j => i.length + j.length ≤ sizeLine ∧ Q (.str (i ++ j)) H
  | .ref l, .ref b => ∃ xs zs, H l = some (.lst xs) ∧ H b = some (.lst zs) ∧ xs.length + zs.length ≤ sizeLine ∧ New H (.lst (xs ++ zs)) Q
  | _, _ => False
def rTimes : R2 := fun x y H Q => match x, y with
  | .int i, .int j => CBig i j ∧ Q (.int (i * j)) H
  | .str z, .int n => MulOk z n ∧ Q (.str (Txt.mul z n)) H
  | _, _ => False
def rStr : List V → Hp → VK → Prop := fun xs H Q => match xs with
  | [.int i] => i.natAbs.log2 < 1920 ∧ Q (.str (toString i)) H
  | [.str z] => Q (.str z) H
  | _ => False
section
variable {X : Cx}
theorem op_plus : OpR X (binaryOp .Add) rPlus := by
  intro pins s σ H x y v u Q I rx ry h
  cases x with
  | int i => cases y with
    | int j => exact op_add pins s σ H _ _ v u Q I rx ry ⟨i, j, rfl, rfl, h⟩
    | _ => exact (show False from h).elim
  | str i => cases y with
    | str j => exact op_add_str pins s σ H _ _ v u Q I rx ry ⟨i, j, rfl, rfl, h⟩
    | _ => exact (show False from h).elim
  | ref l => cases y with
    | ref b =>
      obtain ⟨xs, zs, h1, h2, h3, h4⟩ := h
      exact op_cat pins s σ H _ _ v u Q I rx ry ⟨l, b, xs, zs, rfl, rfl, h1, h2, h3, New.to h4⟩
    | _ => exact (show False from h).elim
  | _ => exact (show False from h).elim
theorem op_times : OpR X (binaryOp .Mult) rTimes := by
  intro pins s σ H x y v u Q I rx ry h
  cases x with
  | int i => cases y with
    | int j => exact op_big pins s σ H _ _ v u Q I rx ry ⟨i, j, rfl, rfl, h⟩
    | _ => exact (show False from h).elim
  | str z => cases y with
    | int n =>
      obtain ⟨t, rfl⟩ := rx
      obtain ⟨t', rfl⟩ := ry
      exact SB.mul h.1 fun t2 k => ⟨.str _, H, I.tok _, ⟨_, rfl⟩, h.2⟩
    | _ => exact (show False from h).elim
  | _ => exact (show False from h).elim
theorem comp_ok {scope sc : Scope} {Nt Nf : List Str} {caps : List Nat} (hsc : X.env.scope = sc) (kind : scope.kind = .function) (nc : ∀ y ∈ scope.names, y.2 ≠ .cell) (nm : ∀ y ∈ scope.names, y.2 = .local → scope.names.lookup y.1 = some .local)
    (fr : ∀ y ∈ scope.names, y.2 = .free → sc.names.lookup y.1 = some .cell ∨ sc.names.lookup y.1 = some .free) (cap : caps.map (fun j => X.N[j]?) = Nf.map some) (vis : ∀ x ∈ Nf, scope.names.lookup x = some .free) : CompOk X scope Nt Nf caps :=
  ⟨kind, nc, nm, fun y hy h => by show X.env.scope.names.lookup y.1 = _ ∨ X.env.scope.names.lookup y.1 = _; rw [hsc]; exact fr y hy h, cap, vis⟩
abbrev LcEnd (J : It) (te : TE) (tt : TT) (caps : List Nat) (σ : St) (H : Hp) (Q : VK) : Prop := ∃ W : Nat → Nat → List V → St → Hp → Prop, (∃ m, W 0 m [] (cSt 1 caps σ) H) ∧ ∀ i m acc σ' H', W i m acc σ' H' →
  (J.stop i H' ∧ ∀ l, H' l = none → Q (.ref l) (upd H' l (.lst acc))) ∨
  (J.go i H' ∧ acc.length < sizeLine ∧ ∃ N : List V → St → Hp → Prop, (∀ ac σ2 H2, N ac σ2 H2 → ∃ m', m' < m ∧ W (i + 1) m' ac σ2 H2) ∧ ∀ x H2, J.yld i H' x H2 → gName 0 x σ' H2 fun σ3 H3 => tt σ3 H3 fun b H4 => if b = true then te σ3 H4 fun y H5 => N (acc ++ [y]) σ3 H5 else N acc σ3 H4)
theorem lc_any {J : It} {te : TE} {tt : TT} {caps : List Nat} {σ : St} {H : Hp} {Q : VK} (n : Nat) (hz : n ≤ sizeLine) (Pv : Nat → List V → Hp → Prop) (h0 : Pv 0 [] H) (hl : ∀ i acc H, Pv i acc H → acc.length ≤ i)
    (hgo : ∀ i acc H, i < n → Pv i acc H → J.go i H) (hst : ∀ acc H, Pv n acc H → J.stop n H)
    (hs : ∀ i x acc H H2, i < n → Pv i acc H → J.yld i H x H2 → tt (some x :: capV caps σ) H2 fun b H4 => if b = true then te (some x :: capV caps σ) H4 fun y H5 => Pv (i + 1) (acc ++ [y]) H5 else Pv (i + 1) acc H4)
    (hd : ∀ acc H, Pv n acc H → New H (.lst acc) Q) : LcEnd J te tt caps σ H Q := by
  refine ⟨fun i m acc σ' H => m = n - i ∧ i ≤ n ∧ (∃ v, σ' = v :: capV caps σ) ∧ Pv i acc H, ⟨n, by simp, Nat.zero_le _, ⟨none, rfl⟩, h0⟩, ?_⟩
  rintro i m acc σ' H' ⟨rfl, hi, ⟨v, rfl⟩, p⟩
  by_cases hlt : i < n
  · refine .inr ⟨hgo i acc H' hlt p, ?_, fun ac σ2 H2 => (∃ v, σ2 = v :: capV caps σ) ∧ Pv (i + 1) ac H2, fun ac σ2 H2 ⟨e, p'⟩ => ⟨n - (i + 1), by omega, rfl, hlt, e, p'⟩, fun x H2 y => ?_⟩
    · have := hl i acc H' p
      omega
    · have eN : ∀ ac H5, ((∃ u, some x :: capV caps σ = u :: capV caps σ) ∧ Pv (i + 1) ac H5) = Pv (i + 1) ac H5 := fun ac H5 => propext ⟨And.right, fun p => ⟨⟨_, rfl⟩, p⟩⟩
      show tt (some x :: capV caps σ) H2 fun b H4 => if b = true then te (some x :: capV caps σ) H4 fun y H5 => ((∃ u, some x :: capV caps σ = u :: capV caps σ) ∧ Pv (i + 1) (acc ++ [y]) H5) else ((∃ u, some x :: capV caps σ = u :: capV caps σ) ∧ Pv (i + 1) acc H4)
      simp only [eN]
      exact hs i x acc H' H2 hlt p y
  · have e : i = n := by omega
    subst e
    exact .inl ⟨hst acc H' p, New.to (hd acc H' p)⟩
theorem lc_list {K : PySem.W.Frag} {a : Addr} {xs : List V} {te : TE} {tt : TT} {caps : List Nat} {σ : St} {H : Hp} {Q : VK} (hz : xs.length ≤ sizeLine) (Pv : Nat → List V → Hp → Prop) (h0 : Pv 0 [] H) (hl : ∀ i acc H, Pv i acc H → acc.length ≤ i ∧ SqL K H a xs)
    (hs : ∀ i x acc H, xs[i]? = some x → Pv i acc H → tt (some x :: capV caps σ) H fun b H4 => if b = true then te (some x :: capV caps σ) H4 fun y H5 => Pv (i + 1) (acc ++ [y]) H5 else Pv (i + 1) acc H4)
    (hd : ∀ acc H, Pv xs.length acc H → New H (.lst acc) Q) : LcEnd (Itl K a) te tt caps σ H Q := by
  refine lc_any xs.length hz Pv h0 (fun i acc H p => (hl i acc H p).1) (fun i acc H hi p => ⟨xs, xs[i], (hl i acc H p).2, by simp [hi]⟩) (fun acc H p => ⟨xs, (hl _ acc H p).2, Nat.le_refl _⟩) ?_ hd
  rintro i x acc H1 H2 hi p ⟨rfl, y⟩
  exact hs i x acc _ (y xs (hl i acc _ p).2) p
end
end L2
namespace L2
open PySem
theorem ex_some_and {α : Type} {a : α} {p : α → Prop} : (∃ v, some (some a) = some (some v) ∧ p v) ↔ p a := ⟨fun ⟨_, e, h⟩ => by cases e; exact h, fun h => ⟨a, rfl, h⟩⟩
def ForEnd (J : It) (g : TG) (tb : TS) (D : Ends) (σ : St) (H1 : Hp) : Prop := ∃ W : Nat → Nat → St → Hp → Prop, (∃ m, W 0 m σ H1) ∧ ∀ i m σ H, W i m σ H →
  (J.stop i H ∧ D.nx σ H) ∨ (J.go i H ∧ ∃ N : St → Hp → Prop, (∀ σ' H', N σ' H' → ∃ m', m' < m ∧ W (i + 1) m' σ' H') ∧ ∀ x H', J.yld i H x H' → g x σ H' fun σ2 H2 => tb { D with nx := N, ct := N, bk := D.nx } σ2 H2)
def CompEnd (J : It) (g : TG) (tt : TT) (te : TE) (n : Nat) (caps : List Nat) (σ : St) (H : Hp) (Q : VK) : Prop := ∃ W : Nat → Nat → List V → St → Hp → Prop, (∃ m, W 0 m [] (cSt n caps σ) H) ∧ ∀ i m acc σ' H', W i m acc σ' H' →
  (J.stop i H' ∧ ∀ l, H' l = none → Q (.ref l) (upd H' l (.lst acc))) ∨
  (J.go i H' ∧ acc.length < sizeLine ∧ ∃ N : List V → St → Hp → Prop, (∀ ac σ2 H2, N ac σ2 H2 → ∃ m', m' < m ∧ W (i + 1) m' ac σ2 H2) ∧ ∀ x H2, J.yld i H' x H2 → g x σ' H2 fun σ3 H3 => tt σ3 H3 fun b H4 => if b = true then te σ3 H4 fun y H5 => N (acc ++ [y]) σ3 H5 else N acc σ3 H4)
section
variable {K : PySem.W.Frag} {a : Addr} {xs : List V} {te : TE} {tt : TT} {caps : List Nat} {σ : St} {H : Hp} {Q : VK} {z : Str} {lo : Int} {n : Nat}
theorem cc_list (hz : xs.length ≤ sizeLine) (Pv : Nat → List V → Hp → Prop) (h0 : Pv 0 [] H) (hl : ∀ i acc H, Pv i acc H → acc.length ≤ i ∧ SqL K H a xs)
    (hs : ∀ i x acc H, xs[i]? = some x → Pv i acc H → tt (some x :: capV caps σ) H fun b H4 => if b = true then te (some x :: capV caps σ) H4 fun y H5 => Pv (i + 1) (acc ++ [y]) H5 else Pv (i + 1) acc H4)
    (hd : ∀ acc H, Pv xs.length acc H → New H (.lst acc) Q) : CompEnd (Itl K a) (gName 0) tt te 1 caps σ H Q := lc_list hz Pv h0 hl hs hd
end
theorem cxOf_K {CX : CXT} {P : Program} {w : World} {K : PySem.W.Frag} {mg : Str → Option Value} {base : Heap} {N : List Str} {qual : Str} {scope : Scope} {f : Addr} {cd : Value} {A : Around} {outer : List Env} {s : Shared} {H : Hp} {E : XK} :
    (cxOf CX P w K mg base N qual scope f cd A outer s H E).K = K := rfl
theorem cxC_K {X : Cx} {N : List Str} {scope : Scope} {cl : List (Str × Addr)} {C : Addr} {s0 : Shared} {H0 : Hp} {ex : List Addr} : (cxC X N scope cl C s0 H0 ex).K = X.K := rfl
section
variable {X : Cx}
theorem kix_list (K : PySem.W.Frag) (hK : X.K = K := by rfl) : IxR X (rIxL K) := hK ▸ ix_list
theorem kix_tup (K : PySem.W.Frag) (hK : X.K = K := by rfl) : IxR X (rIxT K) := hK ▸ ix_tup
theorem ksl_list (K : PySem.W.Frag) (hK : X.K = K := by rfl) : SlR X (rSlN K) := hK ▸ sl_listN
theorem kcl_isi (K : PySem.W.Frag) (hK : X.K = K := by rfl) : CallR X (.builtin "isinstance") (rIsi K) := hK ▸ cl_isi
theorem kcl_len (K : PySem.W.Frag) (hK : X.K = K := by rfl) : CallR X (.builtin "len") (rLen K) := hK ▸ cl_len
theorem kcl_list (K : PySem.W.Frag) (hK : X.K = K := by rfl) : CallR X (.type "list") (rListN K) := hK ▸ cl_list
theorem kop_eqS (K : PySem.W.Frag) (hu : X.A.units < cLine) (hK : X.K = K := by rfl) : OpR X (compareOp .Eq) (rEqS K false) := hK ▸ op_eqS hu
theorem kpt_tru (K : PySem.W.Frag) {a : Expr} {ta : TE} (ha : PE X a ta) (he : ∀ whole, isTrue a X.env whole = (do let v ← whole; standAt a.pos; holding [v] (truthy v))) (hK : X.K = K := by rfl) : PT X a (tTru K ta) := hK ▸ pt_tru ha he
theorem kpi_list (K : PySem.W.Frag) {tg l : Expr} {tl : TE} (hl : PE X l tl) (hK : X.K = K := by rfl) : PI X tg l (iList K tl) := hK ▸ pi_list hl
theorem kpg_tup (K : PySem.W.Frag) {pos : Pos} {es : List Expr} {k : Nat} {t : TGs} {n : Nat} (hc : X.calm = true) (h : PGs X es t) (hn : (assignEach es X.env).length = n := by rfl) (hst : (assignEach es X.env).findIdx? (·.1) = none := by rfl) (hK : X.K = K := by rfl) :
    PG X (.Tuple es k pos) (gTup K n t) := hK ▸ pg_tup hc h hn hst
theorem kpe_bm0 (K : PySem.W.Frag) {o : Expr} {to : TE} {name : Str} {apos cpos : Pos} {T id : String} {r : V → List V → Hp → VK → Prop} (pa : PlainAttrs T) (slot : Slot T name id) (hty : typeOf (.builtin id) = pure (.type "method_descriptor")) (hm : MtR X id r) (ho : PE X o to)
    (hbase : attributeBase o name X.env (eval o X.env) = eval o X.env := by rfl) (hline : (apos.endLine == cpos.line) = true := by rfl) (hK : X.K = K := by rfl) : PE X (.Call (.Attribute o name apos) [] [] cpos) (tBM0 K T r to) := hK ▸ pe_bm0 pa slot hty hm ho hbase hline
theorem kpe_bm (K : PySem.W.Frag) {o e : Expr} {es : List Expr} {to : TE} {t : TA} {name : Str} {apos cpos : Pos} {T id : String} {r : V → List V → Hp → VK → Prop} (pa : PlainAttrs T) (slot : Slot T name id) (hty : typeOf (.builtin id) = pure (.type "method_descriptor")) (hm : MtR X id r) (ho : PE X o to) (ha : PA X (e :: es) t)
    (hbase : attributeBase o name X.env (eval o X.env) = eval o X.env := by rfl)
    (hfew : ((backTo cpos (starEach (e :: es) X.env)).all (fun x => !x.1) && (backToKw cpos (keywordEach [] X.env)).all (fun x => x.1.isSome) && decide ((e :: es).length + ([] : List Keyword).length + (if ([] : List Keyword).isEmpty then 0 else 1) < 30)) = true := by rfl)
    (hline : (apos.endLine == cpos.line) = true := by rfl) (hs : starEach (e :: es) X.env = (false, eval e X.env) :: starEach es X.env := by rfl) (hplain : (backTo cpos (starEach es X.env)).any (·.1) = false := by rfl) (hK : X.K = K := by rfl) :
    PE X (.Call (.Attribute o name apos) (e :: es) [] cpos) (tBM K T r to t) := hK ▸ pe_bm pa slot hty hm ho ha hbase hfew hline hs hplain
end
theorem bb_len : bootBuiltins "len" = some (.builtin "len") := by decide +kernel
theorem bb_isinstance : bootBuiltins "isinstance" = some (.builtin "isinstance") := by decide +kernel
theorem bb_sum : bootBuiltins "sum" = some (.builtin "sum") := by decide +kernel
theorem bb_min : bootBuiltins "min" = some (.builtin "min") := by decide +kernel
theorem bb_max : bootBuiltins "max" = some (.builtin "max") := by decide +kernel
theorem bb_int : bootBuiltins "int" = some (.type "int") := by decide +kernel
theorem bb_list : bootBuiltins "list" = some (.type "list") := by decide +kernel
theorem bb_dict : bootBuiltins "dict" = some (.type "dict") := by decide +kernel
end L2
namespace L2
open PySem
end L2
local macro_rules | `(tactic| walk_at "rd") => `(tactic| simp only [L2.tCB, L2.tCons, L2.tNil, L2.tVar, L2.rStr, L2.tNoIf, L2.capV, List.map_nil, List.getElem?_cons_zero, L2.ex_some_and, if_true])
namespace L2
open PySem
theorem le_line {n : Nat} (h : n ≤ 1000000) : n ≤ sizeLine := Nat.le_trans h (by decide)
theorem cut_to {ns : List Int} {k : Nat} : cutV (ns.map V.int) none (some (k : Int)) = (ns.take k).map V.int := by
  unfold cutV
  rw [HT.sIx_none, HT.sIx_nat, List.drop_zero, Nat.sub_zero, List.length_map, List.map_take]
  by_cases h : k ≤ ns.length
  · rw [Nat.min_eq_left h]
  · rw [Nat.min_eq_right (by omega), List.take_of_length_le (by simp), List.take_of_length_le (by simp; omega)]
end L2
namespace L2
open PySem
theorem nox_K {X : Cx} : X.nox.K = X.K := rfl
theorem wish_K {X : Cx} {E : Value → Shared → Prop} : (X.wish E).K = X.K := rfl
section
variable {σ : St} {H : Hp} {Q : VK} {D : Ends} {nn bb cc : St → Hp → Prop} {rr : VK} {t u : TS} {ta tb tc te : TE} {tA tB : TT} {g : TG} {QT : Bool → Hp → Prop} {QA : List V → Hp → Prop} {QS : St → Hp → Prop}
theorem i_seq (h : t ⟨u ⟨nn, rr, bb, cc⟩, rr, bb, cc⟩ σ H) : tSeq t u ⟨nn, rr, bb, cc⟩ σ H := h
theorem i_asg (h : te σ H fun x H1 => g x σ H1 nn) : tAsg te g ⟨nn, rr, bb, cc⟩ σ H := h
theorem i_name {i : Nat} {v : V} (h : QS (σ.set i (some v)) H) : gName i v σ H QS := h
theorem i_var {i : Nat} {v : V} (e : σ[i]? = some (some v)) (h : Q v H) : tVar i σ H Q := ⟨v, e, h⟩
theorem i_c {v : V} (h : Q v H) : tC v σ H Q := h
theorem i_op {r : R2} (h : ta σ H fun x H1 => tb σ H1 fun y H2 => r x y H2 Q) : tOp r ta tb σ H Q := h
theorem i_un {r : V → Hp → VK → Prop} (h : ta σ H fun x H1 => r x H1 Q) : tUn r ta σ H Q := h
theorem i_rU {f : Int → V} {i : Int} (h : Q (f i) H) : rU f (.int i) H Q := ⟨i, rfl, h⟩
theorem i_rI {C : Int → Int → Prop} {f : Int → Int → V} {i j : Int} (c : C i j) (h : Q (f i j) H) : rI C f (.int i) (.int j) H Q := ⟨i, j, rfl, rfl, c, h⟩
theorem i_rI0 {f : Int → Int → V} {i j : Int} (h : Q (f i j) H) : rI0 f (.int i) (.int j) H Q := ⟨i, j, rfl, rfl, h⟩
theorem i_plusI {i j : Int} (h : Q (.int (i + j)) H) : rPlus (.int i) (.int j) H Q := h
theorem i_timesI {i j : Int} (c : CBig i j) (h : Q (.int (i * j)) H) : rTimes (.int i) (.int j) H Q := ⟨c, h⟩
theorem decI (i j : Int) : decide (V.int i = V.int j) = decide (i = j) := by rw [Bool.eq_iff_iff]; simp
theorem decS (i j : Str) : decide (V.str i = V.str j) = decide (i = j) := by rw [Bool.eq_iff_iff]; simp
theorem decB (i j : Bool) : decide (V.bl i = V.bl j) = decide (i = j) := by rw [Bool.eq_iff_iff]; simp
theorem i_eqI {i j : Int} (h : Q (.bl (decide (i = j))) H) : rEq (.int i) (.int j) H Q := ⟨rfl, by rw [decI]; exact h⟩
theorem i_eqS {i j : Str} (h : Q (.bl (decide (i = j))) H) : rEq (.str i) (.str j) H Q := ⟨rfl, by rw [decS]; exact h⟩
theorem i_neB {i j : Bool} (h : Q (.bl (!decide (i = j))) H) : rNe (.bl i) (.bl j) H Q := ⟨rfl, by rw [decB]; exact h⟩
theorem i_test (h : te σ H fun x H' => ∃ k, x = .bl k ∧ QT k H') : tTest te σ H QT := h
theorem i_bl {k : Bool} {p : Bool → Prop} (h : p k) : ∃ j, V.bl k = V.bl j ∧ p j := ⟨k, rfl, h⟩
theorem i_ifS (h : tA σ H fun b H1 => if b = true then t D σ H1 else u D σ H1) : tIfS tA t u D σ H := h
theorem i_ret (h : te σ H rr) : tRet te ⟨nn, rr, bb, cc⟩ σ H := h
theorem i_next (h : nn σ H) : tNext ⟨nn, rr, bb, cc⟩ σ H := h
theorem i_drop (h : te σ H fun _ H1 => nn σ H1) : tDrop te ⟨nn, rr, bb, cc⟩ σ H := h
theorem i_break (h : bb σ H) : tBreak ⟨nn, rr, bb, cc⟩ σ H := h
theorem i_cons {tr : TA} (h : te σ H fun x H1 => tr σ H1 fun xs H2 => QA (x :: xs) H2) : tCons te tr σ H QA := h
theorem i_nil (h : QA [] H) : tNil σ H QA := h
theorem i_cb {r : List V → Hp → VK → Prop} {ts : TA} (h : ts σ H fun vs H1 => r vs H1 Q) : tCB r ts σ H Q := h
theorem i_call {sp : Sp} {dvs : List V} {E : XK} {ts : TA} (h : ts σ H fun vs H1 => sp (vs ++ dvs) H1 Q E) : tCall sp dvs E ts σ H Q := h
theorem i_lst {ts : TA} (h : ts σ H fun xs H1 => xs.length ≤ sizeLine ∧ New H1 (.lst xs) Q) : tLstN ts σ H Q := h
theorem i_tup {ts : TA} (h : ts σ H fun xs H1 => xs.length ≤ sizeLine ∧ New H1 (.tup xs) Q) : tTupN ts σ H Q := h
theorem i_szA {n : Nat} {P : Prop} (h : n ≤ sizeLine) (p : P) : n ≤ sizeLine ∧ P := ⟨h, p⟩
theorem i_rgA {j : Int} {P : Prop} (h : -(2 ^ 62) ≤ j) (h' : j < 2 ^ 62) (p : P) : -(2 ^ 62) ≤ j ∧ j < 2 ^ 62 ∧ P := ⟨h, h', p⟩
theorem i_noIf (h : QT true H) : tNoIf σ H QT := h
theorem i_not (h : tA σ H fun c H1 => QT (!c) H1) : tNot tA σ H QT := h
theorem i_or (h : tA σ H fun c H1 => if c = true then QT true H1 else tB σ H1 QT) : tOr tA tB σ H QT := h
theorem i_for {wi : TI} (h : wi σ H fun J H1 => ForEnd J g t D σ H1) : tFor wi g t D σ H := h
theorem i_lc {wi : TI} {n : Nat} {caps : List Nat} (h : wi σ H fun J H1 => CompEnd J g tA te n caps σ H1 Q) : tLC wi g tA te n caps σ H Q := h
theorem i_rng1 {R : It → Hp → Prop} {ts : TA} (h : ts σ H fun vs H1 => ∃ j : Int, vs = [.int j] ∧ -(2 ^ 62) ≤ j ∧ j < 2 ^ 62 ∧ R (Itr 0 j.toNat) H1) : iRng1 ts σ H R := h
theorem i_iList {K : PySem.W.Frag} {R : It → Hp → Prop} (h : te σ H fun x H1 => ∃ a, x = .ref a ∧ (∃ xs, SqL K H1 a xs) ∧ R (Itl K a) H1) : iList K te σ H R := h
theorem i_rng {j : Int} {p : Int → Prop} (h : p j) : ∃ i : Int, [V.int j] = [V.int i] ∧ p i := ⟨j, rfl, h⟩
theorem i_ref {a : Addr} {p : Addr → Prop} (h : p a) : ∃ b, V.ref a = V.ref b ∧ p b := ⟨a, rfl, h⟩
theorem i_bm {K : PySem.W.Frag} {T : String} {r : V → List V → Hp → VK → Prop} {to : TE} {ts : TA} (h : to σ H fun x H1 => tyV K T x H1 ∧ ts σ H1 fun xs H2 => r x xs H2 Q) : tBM K T r to ts σ H Q := h
theorem i_bm0 {K : PySem.W.Frag} {T : String} {r : V → List V → Hp → VK → Prop} {to : TE} (h : to σ H fun x H1 => tyV K T x H1 ∧ r x [] H1 Q) : tBM0 K T r to σ H Q := h
theorem i_ixL {K : PySem.W.Frag} {p : Addr} {xs : List V} {i : Int} {v : V} (h1 : SqL K H p xs) (h2 : atI xs i = some v) (h : Q v H) : rIxL K (.ref p) (.int i) H Q := ⟨p, xs, i, v, rfl, rfl, h1, h2, h⟩
theorem i_ixT {K : PySem.W.Frag} {p : Addr} {xs : List V} {i : Int} {v : V} (h1 : SqT K H p xs) (h2 : atI xs i = some v) (h : Q v H) : rIxT K (.ref p) (.int i) H Q := ⟨p, xs, i, v, rfl, rfl, h1, h2, h⟩
theorem i_sl {r : V → Option Int → Option Int → Hp → VK → Prop} {tl th : TO} (h : te σ H fun x H1 => tl σ H1 fun l H2 => th σ H2 fun u H3 => r x l u H3 Q) : tSl r te tl th σ H Q := h
theorem i_nopart {QO : Option Int → Hp → Prop} (h : QO none H) : tNoPart σ H QO := h
theorem i_part {QO : Option Int → Hp → Prop} (h : te σ H fun x H1 => ∃ i, x = .int i ∧ QO (some i) H1) : tPart te σ H QO := h
theorem i_ix1 {i : Int} {p : Int → Prop} (h : p i) : ∃ j, V.int i = V.int j ∧ p j := ⟨i, rfl, h⟩
theorem i_slL {K : PySem.W.Frag} {a : Addr} {xs : List V} {lo hi : Option Int} (h1 : SqL K H a xs) (h : New H (.lst (cutV xs lo hi)) Q) : rSlN K (.ref a) lo hi H Q := ⟨a, xs, rfl, h1, h⟩
theorem i_itT {A B : Prop} (h : A) : if true = true then A else B := iteT h
theorem i_itF {A B : Prop} (h : B) : if false = true then A else B := iteF h
theorem i_itnT {A B : Prop} (h : B) : if (!true) = true then A else B := iteF h
theorem i_itDT {c A B : Prop} [Decidable c] (hc : c) (h : A) : if decide c = true then A else B := by rw [decide_eq_true hc]; exact iteT h
theorem i_itDF {c A B : Prop} [Decidable c] (hc : ¬ c) (h : B) : if decide c = true then A else B := by rw [decide_eq_false hc]; exact iteF h
theorem i_itNT {c A B : Prop} [Decidable c] (hc : ¬ c) (h : A) : if (!decide c) = true then A else B := by rw [decide_eq_false hc]; exact iteT h
theorem i_itNF {c A B : Prop} [Decidable c] (hc : c) (h : B) : if (!decide c) = true then A else B := by rw [decide_eq_true hc]; exact iteF h
theorem i_asgT {K : PySem.W.Frag} {n : Nat} {ts : TGs} {a : Addr} {xs : List V} (h1 : SqT K H a xs) (h2 : xs.length = n) (h : ts xs σ H QS) : gTup K n ts (.ref a) σ H QS := ⟨a, xs, rfl, h1, h2, h⟩
theorem i_gnil (h : QS σ H) : gNil [] σ H QS := ⟨rfl, h⟩
theorem i_gcons {gt : TG} {us : TGs} {v : V} {r : List V} (h : gt v σ H fun σ' H' => us r σ' H' QS) : gCons gt us (v :: r) σ H QS := ⟨v, r, rfl, h⟩
theorem i_isiL {K : PySem.W.Frag} {a : Addr} {xs : List V} (e : H a = some (.lst xs)) (h : Q (.bl true) H) : rIsi K [V.ref a, V.ty "list"] H Q := ⟨_, _, _, true, rfl, .lst e, rfl, h⟩
theorem i_tru {K : PySem.W.Frag} (h : te σ H fun x H' => ∃ k, TruV K x H' k ∧ QT k H') : tTru K te σ H QT := h
theorem i_truB {K : PySem.W.Frag} {k : Bool} {p : Bool → Prop} (h : p k) : ∃ j, TruV K (.bl k) H j ∧ p j := ⟨k, rfl, h⟩
theorem i_lenL {K : PySem.W.Frag} {p : Addr} {xs : List V} (h1 : SqL K H p xs) (h : Q (.int xs.length) H) : rLen K [V.ref p] H Q := ⟨_, _, rfl, .inl ⟨xs, h1, rfl⟩, h⟩
theorem i_intB {k : Bool} (h : Q (.int (if k then 1 else 0)) H) : rToInt [V.bl k] H Q := .inr ⟨k, rfl, h⟩
theorem i_listL {K : PySem.W.Frag} {p : Addr} {ys : List V} (h1 : SqL K H p ys) (h : New H (.lst ys) Q) : rListN K [.ref p] H Q := ⟨p, ys, rfl, .inl h1, h⟩
theorem i_eqL {K : PySem.W.Frag} {l b : Addr} {ys zs : List Str} (h1 : SqL K H l (strsV ys)) (h2 : SqL K H b (strsV zs)) (h : Q (.bl (decide (ys = zs))) H) : rEqS K false (.ref l) (.ref b) H Q := ⟨l, b, ys, zs, rfl, rfl, h1, h2, h⟩
end
end L2
namespace L2
open PySem PySem.Spec PyProof.Rows
section
variable {X : Cx}
end
theorem cc_pairs {K : PySem.W.Frag} {a : Addr} {xs : List V} {te : TE} {tt : TT} {caps : List Nat} {σ : St} {H : Hp} {Q : VK} (hz : xs.length ≤ sizeLine) (Pv : Nat → List V → Hp → Prop) (h0 : Pv 0 [] H) (hl : ∀ i acc H, Pv i acc H → acc.length ≤ i ∧ SqL K H a xs)
    (hs : ∀ i x acc H, xs[i]? = some x → Pv i acc H → ∃ p u v, x = .ref p ∧ SqT K H p [u, v] ∧ tt (some u :: some v :: capV caps σ) H fun b H4 => if b = true then te (some u :: some v :: capV caps σ) H4 fun y H5 => Pv (i + 1) (acc ++ [y]) H5 else Pv (i + 1) acc H4)
    (hd : ∀ acc H, Pv xs.length acc H → New H (.lst acc) Q) : CompEnd (Itl K a) (gTup K 2 (gCons (gName 0) (gCons (gName 1) gNil))) tt te 2 caps σ H Q := by
  refine ⟨fun i m acc σ' H => m = xs.length - i ∧ i ≤ xs.length ∧ (∃ u v, σ' = u :: v :: capV caps σ) ∧ Pv i acc H, ⟨xs.length, by simp, Nat.zero_le _, ⟨none, none, rfl⟩, h0⟩, ?_⟩
  rintro i m acc σ' H' ⟨rfl, hi, ⟨u0, v0, rfl⟩, p⟩
  obtain ⟨hl1, hq⟩ := hl i acc H' p
  by_cases hlt : i < xs.length
  · refine .inr ⟨⟨xs, xs[i], hq, by simp [hlt]⟩, by omega, fun ac σ2 H2 => (∃ u v, σ2 = u :: v :: capV caps σ) ∧ Pv (i + 1) ac H2, fun ac σ2 H2 ⟨e, p'⟩ => ⟨xs.length - (i + 1), by omega, rfl, hlt, e, p'⟩, fun x H2 y => ?_⟩
    obtain ⟨e, y⟩ := y
    subst e
    obtain ⟨q, u, v, rfl, hT, hst⟩ := hs i x acc _ (y xs hq) p
    have eN : ∀ ac H5, ((∃ u1 v1, some u :: some v :: capV caps σ = u1 :: v1 :: capV caps σ) ∧ Pv (i + 1) ac H5) = Pv (i + 1) ac H5 := fun ac H5 => propext ⟨And.right, fun p => ⟨⟨_, _, rfl⟩, p⟩⟩
    refine ⟨q, [u, v], rfl, hT, rfl, u, [v], rfl, v, [], rfl, rfl, ?_⟩
    show tt (some u :: some v :: capV caps σ) _ fun b H4 => if b = true then te (some u :: some v :: capV caps σ) H4 fun y H5 => ((∃ u1 v1, some u :: some v :: capV caps σ = u1 :: v1 :: capV caps σ) ∧ Pv (i + 1) (acc ++ [y]) H5) else ((∃ u1 v1, some u :: some v :: capV caps σ = u1 :: v1 :: capV caps σ) ∧ Pv (i + 1) acc H4)
    simp only [eN]
    exact hst
  · have e : i = xs.length := by omega
    subst e
    exact .inl ⟨⟨xs, hq, Nat.le_refl _⟩, New.to (hd acc H' p)⟩
section
variable {σ : St} {H : Hp} {Q : VK}
theorem i_append {l : Addr} {xs : List V} {y : V} (h1 : H l = some (.lst xs)) (hz : xs.length < sizeLine) (h : Q .non (upd H l (.lst (xs ++ [y])))) : rAppend (.ref l) [y] H Q := ⟨l, xs, y, rfl, rfl, h1, hz, h⟩
theorem i_tyL {K : PySem.W.Frag} {l : Addr} {xs : List V} {P : Prop} (h1 : SqL K H l xs) (h : P) : tyV K "list" (.ref l) H ∧ P := ⟨.inl ⟨rfl, xs, h1⟩, h⟩
end
def Tups (H H' : Hp) : Prop := ∀ b xs, H b = some (.tup xs) → H' b = some (.tup xs)
theorem Same.tups {H H' : Hp} (s : Same H H') : Tups H H' := fun b xs h => s b _ h
theorem Tups.trans {H H1 H2 : Hp} (a : Tups H H1) (b : Tups H1 H2) : Tups H H2 := fun c xs h => b c xs (a c xs h)
theorem Tups.upd {H : Hp} {l : Addr} {xs : List V} {o : HO} (h : H l = some (.lst xs)) : Tups H (upd H l o) := fun b ys e => by rw [upd_ne (ne_of e h (fun z => nomatch z))]; exact e
end L2
namespace L2
open PySem
theorem Same.updNew {H H1 : Hp} {l : Addr} {o : HO} (s : Same H H1) (h : H l = none) : Same H (upd H1 l o) := fun b u e => by rw [upd_ne (ne_of_none e h)]; exact s b u e
inductive Ex where
  | num (i : Int)
  | box (n : Str)
  | two (k : Bool) (a b : Ex)
end L2
namespace L2
open PySem PySem.Spec PyProof.Rows
inductive Cd where
  | cmp (k : Bool) (a b : Ex)
  | nt (c : Cd)
  | both (c d : Cd)
end L2
namespace L2
open PySem PySem.Spec PyProof.Rows
end L2
namespace L2
open PySem
inductive Th where
  | ex (e : Ex)
  | cd (c : Cd)
end L2
namespace L2
open PySem
theorem i_dget {σ : St} {H : Hp} {Q : VK} {td ty : TE} (h : td σ H fun x H1 => ty σ H1 fun y H2 => ∃ a v, x = .ref a ∧ DGet H2 a y (some v) ∧ Q v H2) : tDGet td ty σ H Q := h
end L2
namespace L2
open PySem PySem.Spec PyProof.Rows
theorem kop_neS {X : Cx} (K : PySem.W.Frag) (hu : X.A.units < cLine) (hK : X.K = K := by rfl) : OpR X (compareOp .NotEq) (rEqS K true) := by
  subst hK
  intro pins s σ H x y v u Q I rx ry h
  obtain ⟨l, b, ys, zs, rfl, rfl, h1, h2, q⟩ := h
  cases rx
  cases ry
  obtain ⟨is1, r1, p1, _⟩ := I.list h1
  obtain ⟨is2, r2, p2, _⟩ := I.list h2
  have e1 : ys.length = is1.length := by have := r1.length; simpa [strsV] using this
  have e2 : zs.length = is2.length := by have := r2.length; simpa [strsV] using this
  by_cases hl : ys.length = zs.length
  · have := SeqAt.RcNeAt.lists (A := X.A) (s := s) (e := fun i => decide (ys[i]? = zs[i]?)) p1.isList p2.isList (by simp; omega) hu (fun j h1 h2 => by
      obtain ⟨y, t, ey, eu⟩ := strs_at r1 j (by simpa using h1)
      obtain ⟨z, t', ez, ew⟩ := strs_at r2 j (by simpa using h2)
      have : decide (ys[j]? = zs[j]?) = (y == z) := by rw [ey, ez, Bool.eq_iff_iff]; simp
      rw [this]
      have g1 : is1.toArray[j] = .str y t := by simpa using eu
      have g2 : is2.toArray[j] = .str z t' := by simpa using ew
      rw [g1, g2]
      exact SeqAt.EqAt.str_str y t z t')
    rw [show is1.toArray.size = ys.length by simp [e1], range_eqS ys zs hl] at this
    exact this _ _ _ _ ⟨.bl _, H, I, rfl, q⟩
  · have hne : ys ≠ zs := fun e => hl (by rw [e])
    rw [decide_eq_false hne] at q
    exact SeqAt.RcNeAt.lists_lengths p1.isList p2.isList (by simp; omega) hu _ _ _ _ ⟨.bl _, H, I, rfl, q⟩
theorem i_neL {K : PySem.W.Frag} {H : Hp} {Q : VK} {l b : Addr} {ys zs : List Str} (h1 : SqL K H l (strsV ys)) (h2 : SqL K H b (strsV zs)) (h : Q (.bl (!decide (ys = zs))) H) : rEqS K true (.ref l) (.ref b) H Q := ⟨l, b, ys, zs, rfl, rfl, h1, h2, h⟩
end L2
namespace L2
open PySem
inductive Tr where
  | non
  | int (i : Int)
  | str (s : Str)
  | tup (xs : List Tr)
  | lst (xs : List Tr)
mutual
def Tr.At (H : Hp) : Tr → V → List Addr → Prop
  | .non, v, fs => v = .non ∧ fs = []
  | .int i, v, fs => v = .int i ∧ fs = []
  | .str s, v, fs => v = .str s ∧ fs = []
  | .tup xs, v, fs => ∃ a vs, v = .ref a ∧ H a = some (.tup vs) ∧ Tr.Ats H xs vs fs
  | .lst xs, v, fs => ∃ a vs gs, v = .ref a ∧ H a = some (.lst vs) ∧ Tr.Ats H xs vs gs ∧ fs = a :: gs
def Tr.Ats (H : Hp) : List Tr → List V → List Addr → Prop
  | [], vs, fs => vs = [] ∧ fs = []
  | x :: xs, vs, fs => ∃ v ws f g, vs = v :: ws ∧ fs = f ++ g ∧ Tr.At H x v f ∧ Tr.Ats H xs ws g
end
def Keep (fs : List Addr) (H H' : Hp) : Prop := Tups H H' ∧ ∀ a ∈ fs, ∀ xs, H a = some (.lst xs) → H' a = some (.lst xs)
theorem Same.keep {H H' : Hp} (s : Same H H') (fs : List Addr) : Keep fs H H' := ⟨s.tups, fun a _ xs h => s a _ h⟩
theorem Keep.sub {fs gs : List Addr} {H H' : Hp} (k : Keep fs H H') (h : ∀ a ∈ gs, a ∈ fs) : Keep gs H H' := ⟨k.1, fun a m => k.2 a (h a m)⟩
mutual
theorem Tr.At.mono {H H' : Hp} : ∀ {x : Tr} {v : V} {fs : List Addr}, x.At H v fs → Keep fs H H' → x.At H' v fs
  | .non, _, _, h, _ => by simpa only [Tr.At] using h
  | .int _, _, _, h, _ => by simpa only [Tr.At] using h
  | .str _, _, _, h, _ => by simpa only [Tr.At] using h
  | .tup xs, v, fs, h, k => by
    simp only [Tr.At] at h ⊢
    obtain ⟨a, vs, e, g, r⟩ := h
    exact ⟨a, vs, e, k.1 _ _ g, Tr.Ats.mono r k⟩
  | .lst xs, v, fs, h, k => by
    simp only [Tr.At] at h ⊢
    obtain ⟨a, vs, gs, e, g, r, rfl⟩ := h
    exact ⟨a, vs, gs, e, k.2 _ (by simp) _ g, Tr.Ats.mono r (k.sub fun b m => by simp [m]), rfl⟩
theorem Tr.Ats.mono {H H' : Hp} : ∀ {xs : List Tr} {vs : List V} {fs : List Addr}, Tr.Ats H xs vs fs → Keep fs H H' → Tr.Ats H' xs vs fs
  | [], _, _, h, _ => by simpa only [Tr.Ats] using h
  | x :: xs, vs, fs, h, k => by
    simp only [Tr.Ats] at h ⊢
    obtain ⟨v, ws, f, g, e, rfl, a, b⟩ := h
    exact ⟨v, ws, f, g, e, rfl, Tr.At.mono a (k.sub fun c m => by simp [m]), Tr.Ats.mono b (k.sub fun c m => by simp [m])⟩
end
theorem Tr.Ats.len {H : Hp} : ∀ {xs : List Tr} {vs : List V} {fs : List Addr}, Tr.Ats H xs vs fs → vs.length = xs.length
  | [], vs, fs, h => by
    simp only [Tr.Ats] at h
    obtain ⟨rfl, rfl⟩ := h
    rfl
  | y :: xs, vs, fs, h => by
    simp only [Tr.Ats] at h
    obtain ⟨w, ws, f, g, rfl, rfl, b, c⟩ := h
    simp [c.len]
end L2
namespace L2
open PySem PySem.Spec PyProof.Rows
mutual
def Tr.h : Tr → Nat
  | .non => 0
  | .int _ => 0
  | .str _ => 0
  | .tup xs => Tr.hs xs + 1
  | .lst xs => Tr.hs xs + 1
def Tr.hs : List Tr → Nat
  | [] => 0
  | x :: xs => max x.h (Tr.hs xs)
end
theorem all_tt (n : Nat) : ((List.range n).all fun _ => true) = true := by simp
theorem in1_units (A : Around) : A.in1.units = A.units + 1 := rfl
section
variable {X : Cx} {pins : List (Addr × Obj)} {σ : St} {H : Hp} {s : Shared}
mutual
theorem Tr.eqAt (I : Inv X pins σ H s) : ∀ {t : Tr} {A : Around} {v w : V} {fs gs : List Addr} {u z : Value}, t.At H v fs → t.At H w gs → RelV v u → RelV w z → A.units + t.h < cLine → SeqAt.EqAt A s u z true
  | .non, A, v, w, fs, gs, u, z, h1, h2, r1, r2, hu => by
    simp only [Tr.At] at h1 h2
    obtain ⟨rfl, -⟩ := h1
    obtain ⟨rfl, -⟩ := h2
    cases r1
    cases r2
    exact SeqAt.EqAt.same _
  | .int i, A, v, w, fs, gs, u, z, h1, h2, r1, r2, hu => by
    simp only [Tr.At] at h1 h2
    obtain ⟨rfl, -⟩ := h1
    obtain ⟨rfl, -⟩ := h2
    obtain ⟨t1, rfl⟩ := r1
    obtain ⟨t2, rfl⟩ := r2
    have := SeqAt.EqAt.int_int (A := A) (s := s) i t1 i t2
    simpa using this
  | .str i, A, v, w, fs, gs, u, z, h1, h2, r1, r2, hu => by
    simp only [Tr.At] at h1 h2
    obtain ⟨rfl, -⟩ := h1
    obtain ⟨rfl, -⟩ := h2
    obtain ⟨t1, rfl⟩ := r1
    obtain ⟨t2, rfl⟩ := r2
    have := SeqAt.EqAt.str_str (A := A) (s := s) i t1 i t2
    simpa using this
  | .tup xs, A, v, w, fs, gs, u, z, h1, h2, r1, r2, hu => by
    simp only [Tr.At] at h1 h2
    obtain ⟨a, vs, rfl, e1, c1⟩ := h1
    obtain ⟨b, ws, rfl, e2, c2⟩ := h2
    cases r1
    cases r2
    by_cases hab : a = b
    · subst hab
      exact SeqAt.EqAt.same _
    refine SeqAt.EqAt.of_refs hab ?_
    obtain ⟨is1, q1, p1, _⟩ := I.tuple (SqT.of e1)
    obtain ⟨is2, q2, p2, _⟩ := I.tuple (SqT.of e2)
    simp only [Tr.h] at hu
    have hl : is1.length = is2.length := by rw [← q1.length, ← q2.length, c1.len, c2.len]
    have := SeqAt.RcAt.tuples (A := A) (s := s) (e := fun _ => true) p1 p2 (by omega) (fun j h1 h2 => by
      have := Tr.eqAts I (A := A.in1) c1 c2 q1 q2 (by rw [in1_units]; omega) j (by simpa using h1) (by simpa using h2)
      simpa using this)
    simpa [hl, all_tt] using this
  | .lst xs, A, v, w, fs, gs, u, z, h1, h2, r1, r2, hu => by
    simp only [Tr.At] at h1 h2
    obtain ⟨a, vs, _, rfl, e1, c1, _⟩ := h1
    obtain ⟨b, ws, _, rfl, e2, c2, _⟩ := h2
    cases r1
    cases r2
    by_cases hab : a = b
    · subst hab
      exact SeqAt.EqAt.same _
    refine SeqAt.EqAt.of_refs hab ?_
    obtain ⟨is1, q1, p1, _⟩ := I.list (SqL.of e1)
    obtain ⟨is2, q2, p2, _⟩ := I.list (SqL.of e2)
    simp only [Tr.h] at hu
    have hl : is1.length = is2.length := by rw [← q1.length, ← q2.length, c1.len, c2.len]
    have := SeqAt.RcAt.lists (A := A) (s := s) (e := fun _ => true) p1.isList p2.isList (by simpa using hl) (by omega) (fun j h1 h2 => by
      have := Tr.eqAts I (A := A.in1) c1 c2 q1 q2 (by rw [in1_units]; omega) j (by simpa using h1) (by simpa using h2)
      simpa using this)
    simpa [all_tt] using this
theorem Tr.eqAts (I : Inv X pins σ H s) : ∀ {ts : List Tr} {A : Around} {vs ws : List V} {fs gs : List Addr} {us zs : List Value}, Tr.Ats H ts vs fs → Tr.Ats H ts ws gs → Vals vs us → Vals ws zs → A.units + Tr.hs ts < cLine →
    ∀ (j : Nat) (h1 : j < us.length) (h2 : j < zs.length), SeqAt.EqAt A s us[j] zs[j] true
  | [], A, vs, ws, fs, gs, us, zs, c1, c2, q1, q2, hu, j, h1, h2 => by
    simp only [Tr.Ats] at c1
    obtain ⟨rfl, -⟩ := c1
    cases q1
    exact absurd h1 (by simp)
  | t :: ts, A, vs, ws, fs, gs, us, zs, c1, c2, q1, q2, hu, j, h1, h2 => by
    simp only [Tr.Ats] at c1 c2
    obtain ⟨v, vs, f, g, rfl, rfl, a1, b1⟩ := c1
    obtain ⟨w, ws, f', g', rfl, rfl, a2, b2⟩ := c2
    cases q1 with
    | cons r1 q1 =>
    cases q2 with
    | cons r2 q2 =>
    simp only [Tr.hs] at hu
    cases j with
    | zero => exact Tr.eqAt I a1 a2 r1 r2 (by omega)
    | succ j => exact Tr.eqAts I b1 b2 q1 q2 (by omega) j (by simpa using h1) (by simpa using h2)
end
end
end L2
namespace L2
open PySem PySem.Spec PyProof.Rows
section
variable {prog : Program} {w : World} {A : Around} {E : Value → Shared → Prop}
end
section
variable {X : Cx} {pos : Pos}
end
end L2
namespace L2
open PySem PySem.Spec PyProof.Rows
end L2
namespace L2
open PySem
end L2
namespace L2
open PySem
end L2
namespace L2
open PySem
section
variable {H : Hp} {v : V} {fs : List Addr}
end
end L2
namespace L2
open PySem
section
variable {H : Hp} {v : V} {fs : List Addr}
end
end L2
namespace L2
open PySem PySem.Spec PyProof.Rows
section
variable {X : Cx}
end
end L2
namespace L2
def keptP (ws : List (Option Nat)) (n : Nat) : List Nat := (List.range n).filter fun i => decide (ws[i]? = some none)
def kept (ws : List (Option Nat)) : List Nat := keptP ws ws.length
end L2
namespace L2
open PySem
section
variable {prog : Program} {w : World} {K : Type} [DecidableEq K] {knd : KeyKind prog w K} {A : Around} {E : Value → Shared → Prop} {s : Shared}
end
end L2
namespace L2
open PySem
section
variable {prog : Program} {w : World} {K : Type} [DecidableEq K] {knd : KeyKind prog w K} {A : Around} {E : Value → Shared → Prop} {s : Shared}
end
end L2
namespace L2
open PySem PySem.Spec PyProof.Rows
section
variable {X : Cx} {pins : List (Addr × Obj)} {σ : St} {H : Hp} {s : Shared}
theorem Inv.turnedL {t' : Nat} {h' : Heap} {ch : List Addr} (I : Inv X pins σ H s) (k : ∀ b o, b ∉ ch → s.heap.get? b = some o → h'.get? b = some o) (hf : ∀ b ∈ ch, FpOk X pins H b) : Inv X pins σ H { s with heap := h', toks := t' } := by
  have nit : ∀ b u, H b = some u → b ∉ ch := fun b u e z => by rw [(hf b z).1] at e; cases e
  refine I.step (g' := s.gens) (d' := s.drawn) (ch := ch) (fun b hb => ⟨(hf b hb).2.2.2.1, (hf b hb).2.1, (hf b hb).2.2.2.2.1, (hf b hb).2.2.2.2.2⟩) (fun b o _ _ hc e _ => k b o hc e) (fun b o _ _ hc e _ => ⟨o.slots, k b o hc e⟩) (fun _ _ _ _ n => n)
    (fun b o hc e => ⟨o, k b o hc e⟩) (fun _ _ e => e) (fun _ _ _ e => e) (fun b ps e => ⟨#[], by rw [e]; simp⟩) (fun m hm => ?_) (fun b u e => ?_) I.bare
  · obtain ⟨o, es, ep, ho, r⟩ := hm
    exact ⟨o, es, ep, k _ o (fun z => (hf _ z).2.1 rfl) ho, r⟩
  · refine (I.hok b u e).stay (fun c v hc q => k c v ?_ q) (fun _ q => q) fun _ _ q => q
    rcases hc with z | z
    · rw [z]; exact nit b u e
    · exact nit c _ z
end
section
variable {X : Cx} {elts : List Expr} {x1 : Nat} {tpos : Pos}
end
section
variable {X : Cx}
def rMin2 : List V → Hp → VK → Prop := fun xs H Q => ∃ a b : Int, xs = [.int a, .int b] ∧ Q (.int (min a b)) H
theorem kcall_min2 (hh : X.calm = true := by rfl) : CallR X (.builtin "min") rMin2 := by
  intro pins s σ H xs us Q I r h
  obtain ⟨a, b, rfl, q⟩ := h
  obtain ⟨u, v, rfl, ⟨t1, rfl⟩, ⟨t2, rfl⟩⟩ := vals2 r
  refine min_two_ints (I.ok.hd hh) fun h' tk hk => ?_
  have I1 : Inv X pins σ H { s with heap := h', toks := tk } := I.kept hk
  by_cases c : b < a
  · rw [if_pos c]
    exact ⟨.int b, H, I1, ⟨_, rfl⟩, by rw [show min a b = b by omega] at q; exact q⟩
  · rw [if_neg c]
    exact ⟨.int a, H, I1, ⟨_, rfl⟩, by rw [show min a b = a by omega] at q; exact q⟩
theorem i_min2 {H : Hp} {Q : VK} {a b : Int} (h : Q (.int (min a b)) H) : rMin2 [.int a, .int b] H Q := ⟨a, b, rfl, h⟩
def rIsN : R2 := fun x y H Q => y = .non ∧ Q (.bl (decide (x = .non))) H
def rNotN : R2 := fun x y H Q => y = .non ∧ Q (.bl (!decide (x = .non))) H
theorem kop_isN : OpR X (compareOp .Is) rIsN := op_isN
theorem kop_notN : OpR X (compareOp .IsNot) rNotN := op_notN
theorem i_isN {x : V} {H : Hp} {Q : VK} (h : Q (.bl (decide (x = .non))) H) : rIsN x .non H Q := ⟨rfl, h⟩
theorem i_notN {x : V} {H : Hp} {Q : VK} (h : Q (.bl (!decide (x = .non))) H) : rNotN x .non H Q := ⟨rfl, h⟩
theorem i_gsub {to ti : TE} {t : TSet} {v : V} {σ : St} {H : Hp} {Q : St → Hp → Prop} (h : to σ H fun o H1 => ti σ H1 fun i H2 => t o i v H2 fun H3 => Q σ H3) : gSub to ti t v σ H Q := h
theorem i_setL {H : Hp} {Q : Hp → Prop} {p : Addr} {xs : List V} {k : Int} {j : Nat} {v : V} (h1 : H p = some (.lst xs)) (h2 : ixN xs.length k = some j) (h : Q (upd H p (.lst (xs.set j v)))) : rSetL (.ref p) (.int k) v H Q := ⟨p, xs, k, j, rfl, rfl, h1, h2, h⟩
def tSeqC (t u : TS) : TS := fun D σ H => ∃ R : St → Hp → Prop, t { D with nx := R } σ H ∧ ∀ σ' H', R σ' H' → u D σ' H'
theorem pss_consC {st : Stmt} {rest : List Stmt} {t u : TS} (h1 : PS X st t) (h2 : PSs X rest u) : PSs X (st :: rest) (tSeqC t u) := by
  intro pins s σ H D I h
  obtain ⟨R, ha, hb⟩ := h
  refine wpAny_execs_cons (thn (h1 pins s σ H _ I ha) fun f s1 q => ?_)
  cases f with
  | next => obtain ⟨σ1, H1, I1, q1⟩ := q; exact h2 pins s1 σ1 H1 D I1 (hb σ1 H1 q1)
  | brk => exact q
  | cont => exact q
  | ret v => exact q
theorem i_seqC {t u : TS} {nn bb cc : St → Hp → Prop} {rr : VK} {σ : St} {H : Hp} (R : St → Hp → Prop) (h1 : t ⟨R, rr, bb, cc⟩ σ H) (h2 : ∀ σ' H', R σ' H' → u ⟨nn, rr, bb, cc⟩ σ' H') : tSeqC t u ⟨nn, rr, bb, cc⟩ σ H := ⟨R, h1, h2⟩
def tPure (t : TT) : TT := t
theorem pt_pure {e : Expr} {t : TT} (h : PT X e t) : PT X e (tPure t) := h
theorem i_pure {t : TT} {σ : St} {H : Hp} {QT : Bool → Hp → Prop} (c : Prop) [Decidable c] (h : ∀ R : Bool → Hp → Prop, R (decide c) H → t σ H R) (h2 : QT (decide c) H) : tPure t σ H QT := h QT h2
theorem rT {R : Bool → Hp → Prop} {H : Hp} {c : Prop} [Decidable c] (h : R (decide c) H) (hc : c) : R true H := by rw [decide_eq_true hc] at h; exact h
theorem i_while {c : TT} {tb : TS} {nn bb cc : St → Hp → Prop} {rr : VK} {σ : St} {H : Hp} (W : Nat → St → Hp → Prop) (m : Nat) (h0 : W m σ H)
    (hs : ∀ m σ H, W m σ H → c σ H fun b H1 => if b = true then ∃ N : St → Hp → Prop, (∀ σ' H', N σ' H' → ∃ m', m' < m ∧ W m' σ' H') ∧ tb ⟨N, rr, nn, N⟩ σ H1 else nn σ H1) : tWhile c tb ⟨nn, rr, bb, cc⟩ σ H := ⟨W, ⟨m, h0⟩, hs⟩
end
end L2
namespace L2
open PySem
section
variable {H : Hp} {x : Tr} {xs : List Tr} {v : V} {vs ws : List V}
end
section
variable {H : Hp} {v : V} {a : Addr}
end
def natsV (l : List Nat) : List V := l.map fun k => V.int (k : Nat)
theorem natsV_len (l : List Nat) : (natsV l).length = l.length := by simp [natsV]
theorem natsV_snoc (l : List Nat) (k : Nat) : natsV l ++ [V.int (k : Nat)] = natsV (l ++ [k]) := by simp [natsV]
end L2
namespace L2
open PySem PySem.Spec PyProof.Rows
def tDNewN : TE := fun _ H Q => New H (.dK []) Q
theorem pe_dnewN {X : Cx} {pos : Pos} : PE X (.Dict [] [] pos) tDNewN := fun pins s σ H Q I h => pe_dnewK pins s σ H Q I (New.to h)
section
variable {σ : St} {H : Hp} {Q : VK} {QT : Bool → Hp → Prop} {td ty tv te : TE} {nn bb cc : St → Hp → Prop} {rr : VK}
theorem i_dnew (h : New H (.dK []) Q) : tDNewN σ H Q := h
theorem i_tB (h : te σ H fun x H1 => ∃ c, x = .bl c ∧ QT c H1) : tB te σ H QT := h
theorem i_din (h : ty σ H fun y H1 => td σ H1 fun x H2 => ∃ a o, x = .ref a ∧ DGet H2 a y o ∧ Q (.bl o.isSome) H2) : tDIn ty td σ H Q := h
theorem i_dput (h : tv σ H fun v H1 => td σ H1 fun x H2 => ty σ H2 fun y H3 => ∃ a H4, x = .ref a ∧ DPut H3 a y v H4 ∧ nn σ H4) : sDPut td ty tv ⟨nn, rr, bb, cc⟩ σ H := h
end
end L2
namespace L2
theorem pigeon : ∀ (n : Nat) (l : List Nat), l.Nodup → (∀ k ∈ l, k < n) → l.length ≤ n
  | 0, l, _, h => by
    cases l with
    | nil => simp
    | cons a l => exact absurd (h a (by simp)) (Nat.not_lt_zero _)
  | n + 1, l, hn, h => by
    by_cases hm : n ∈ l
    · have h1 := List.length_erase_of_mem hm
      have h2 := pigeon n (l.erase n) (hn.erase n) (fun k hk => by
        have h3 := hn.mem_erase_iff.mp hk
        have := h k h3.2
        have := h3.1
        omega)
      have : 0 < l.length := List.length_pos_of_mem hm
      omega
    · have := pigeon n l hn (fun k hk => by
        have h1 := h k hk
        have : k ≠ n := fun z => hm (z ▸ hk)
        omega)
      omega
end L2
namespace L2
open PySem PySem.Spec PyProof.Rows
section
variable {X : Cx} {σ : St} {H : Hp} {Q : VK} {QT : Bool → Hp → Prop} {td ty tv te : TE} {nn bb cc : St → Hp → Prop} {rr : VK}
theorem i_aug1 {i : Nat} {a c : Int} {f : Int → Int → Int} (e : σ[i]? = some (some (.int a))) (h : nn (σ.set i (some (.int (f a c)))) H) : tAug i (tC (.int c)) (ipI f) ⟨nn, rr, bb, cc⟩ σ H := ⟨_, e, a, c, rfl, rfl, h⟩
end
end L2
namespace L2
open PySem PySem.Spec PyProof.Rows
def Itz (K : PySem.W.Frag) (a b : Addr) : It :=
  ⟨fun i H => ∃ xs ys x y, SqL K H a xs ∧ SqL K H b ys ∧ xs[i]? = some x ∧ ys[i]? = some y, fun i H v H' => ∃ p x y, v = .ref p ∧ H p = none ∧ Same H H' ∧ H' p = some (.tup [x, y]) ∧ (∀ xs, SqL K H a xs → xs[i]? = some x) ∧ ∀ ys, SqL K H b ys → ys[i]? = some y, fun i H => ∃ xs ys, SqL K H a xs ∧ SqL K H b ys ∧ (xs.length ≤ i ∨ ys.length ≤ i)⟩
theorem turn_zip {P : Program} {w : World} {K : PySem.W.Frag} {elts : List Expr} {x1 : Nat} {pos : Pos} (a b z TI TO i1 i2 : Addr) (D : ZipApart z TI TO i1 i2 a b) :
    Turn P w K (.Tuple elts x1 pos) (Itz K a b) [z, TI, TO, i1, i2] z (fun i h => IsZip h z TI TO .none ∧ IsPair h TI (.ref i1) (.ref i2) ∧ (∃ a b, IsPair h TO a b) ∧ h.IsListIter i1 a i ∧ h.IsListIter i2 b i) where
  mem := by simp
  obj := fun i h st c hc => by
    obtain ⟨hz, hTI, ⟨a, b, hTO⟩, ⟨o1, h1, _, d1⟩, o2, h2, _, d2⟩ := st
    rcases (by simpa using hc : c = z ∨ c = TI ∨ c = TO ∨ c = i1 ∨ c = i2) with rfl | rfl | rfl | rfl | rfl
    · exact ⟨_, hz, fun v q => by cases q⟩
    · exact ⟨_, hTI, fun v q => by cases q⟩
    · exact ⟨_, hTO, fun v q => by cases q⟩
    · exact ⟨_, h1, fun v q => by rw [d1] at q; cases q⟩
    · exact ⟨_, h2, fun v q => by rw [d2] at q; cases q⟩
  keep := fun i h h' st k => by
    obtain ⟨hz, hTI, ⟨a, b, hTO⟩, h1, h2⟩ := st
    exact ⟨k z (by simp) _ hz, k TI (by simp) _ hTI, ⟨a, b, k TO (by simp) _ hTO⟩, h1.at fun o x => k i1 (by simp) o x, h2.at fun o x => k i2 (by simp) o x⟩
  item := by
    intro X hP hw hK hc i pins s σ H E I hf st hg
    subst hP hw hK
    obtain ⟨xs, ys, x, y, hqa, hqb, hx, hy⟩ := hg
    obtain ⟨it1, rv1, p1, hz1⟩ := I.list hqa
    obtain ⟨it2, rv2, p2, hz2⟩ := I.list hqb
    obtain ⟨u1, hu1, ru1⟩ := rv1.get hx
    obtain ⟨u2, hu2, ru2⟩ := rv2.get hy
    obtain ⟨hz, hTI, ⟨a', b', hTO⟩, h1, h2⟩ := st
    have fr : H s.heap.objs.size = none := I.hok.fresh (Nat.le_refl _)
    have lt : ∀ c ∈ [z, TI, TO, i1, i2], c < s.heap.objs.size := fun c hc => by
      obtain ⟨o1, e1, _⟩ := h1
      obtain ⟨o2, e2, _⟩ := h2
      rcases (by simpa using hc : c = z ∨ c = TI ∨ c = TO ∨ c = i1 ∨ c = i2) with rfl | rfl | rfl | rfl | rfl
      · exact Heap.lt_size hz
      · exact Heap.lt_size hTI
      · exact Heap.lt_size hTO
      · exact Heap.lt_size e1
      · exact Heap.lt_size e2
    refine wpAny_pyNext_zip_item D hz hTI hTO h1 h2 p1.isList p2.isList (x := u1) (y := u2) (by simpa using hu1) (by simpa using hu2) fun h' a1 a2 a3 a4 a5 a6 hk => ?_
    have I1 : Inv X pins σ H { s with heap := h' } := I.turnedL (t' := s.toks) (ch := [z, TI, TO, i1, i2]) (fun c o hc q => hk c o (fun e => hc (by simp [e])) (fun e => hc (by simp [e])) (fun e => hc (by simp [e])) (fun e => hc (by simp [e])) q) hf
    have I2 : Inv X pins σ (upd H s.heap.objs.size (.tup [x, y])) { s with heap := h' } := I1.adopt (o := .tup [x, y]) fr I.sz (Nat.ne_of_gt I.lt) (fun n c ec e => by
        obtain ⟨v, q⟩ := I.cell n c ec
        exact absurd q.lt (by rw [e]; exact Nat.lt_irrefl _)) (fun q hq e => absurd (Heap.lt_size (I.pin q hq).1) (by rw [e]; exact Nat.lt_irrefl _))
      ⟨le_line (by simp), [u1, u2], .cons ru1 (.cons ru2 .nil), ⟨_, a5, rfl, _, rfl⟩⟩
    have hf2 : ∀ c ∈ [z, TI, TO, i1, i2], FpOk X pins (upd H s.heap.objs.size (.tup [x, y])) c := fun c hc => ⟨by rw [upd_ne (Nat.ne_of_lt (lt c hc))]; exact (hf c hc).1, (hf c hc).2⟩
    refine ⟨_, rfl, wpAny_letOwnedTupleGo_zip a1 fun h2' hz' hs' => ⟨.ref s.heap.objs.size, _, I2.turnedL (t' := s.toks) (ch := [z]) (fun c o hc q => (hs'.2 c (fun e => hc (by simp [e]))).trans q) (fun c hc => hf2 c (by simp at hc; simp [hc])), rfl, ⟨s.heap.objs.size, x, y, rfl, fr, Same.new fr, upd_same, fun q hq => by rw [I.list_inj hq hqa]; exact hx, fun q hq => by rw [I.list_inj hq hqb]; exact hy⟩, ⟨hz', hs'.extBut _ _ D.TIz (hk _ _ D.TIz D.TITO D.TIi1 D.TIi2 hTI), ⟨_, _, hs'.extBut _ _ D.TOz a2⟩, a3.extBut hs'.extBut D.i1z, a4.extBut hs'.extBut D.i2z⟩, fun c hc => (hf2 c hc).1⟩⟩
  done := by
    intro X hP hw hK hc i pins s σ H E I hf st hg
    subst hP hw hK
    obtain ⟨xs, ys, hqa, hqb, hx⟩ := hg
    obtain ⟨it1, rv1, p1, hz1⟩ := I.list hqa
    obtain ⟨it2, rv2, p2, hz2⟩ := I.list hqb
    obtain ⟨hz, hTI, ⟨a', b', hTO⟩, h1, h2⟩ := st
    have l1 := rv1.length
    have l2 := rv2.length
    exact wpAny_pyNext_zip_end (I.ok.hd hc) D hz hTI hTO h1 h2 p1.isList p2.isList (hx.elim (fun e => .inl (by simp; omega)) fun e => .inr (by simp; omega)) fun h' hk => ⟨rfl, I.turnedL (t' := s.toks) (ch := [z, TI, TO, i1, i2]) (fun c o hc q => hk c o (fun e => hc (by simp [e])) (fun e => hc (by simp [e])) (fun e => hc (by simp [e])) (fun e => hc (by simp [e])) q) hf⟩
  self := fun A i s Q E st h => wpAny_pyIter_zip st.1 h
section
variable {X : Cx} {elts : List Expr} {x1 : Nat} {tpos : Pos}
def iZip (K : PySem.W.Frag) (ta : TA) : TI := fun σ H R => ta σ H fun vs H1 => ∃ a b, vs = [.ref a, .ref b] ∧ (∃ xs, SqL K H1 a xs) ∧ (∃ ys, SqL K H1 b ys) ∧ R (Itz K a b) H1
theorem boot_zip0 : bootBuiltins "zip" = some (.type "zip") := by decide +kernel
theorem pi_zip (K : PySem.W.Frag) {a b : Expr} {ta : TA} {p pos : Pos} (hg : Gl X "zip") (hm : X.mg "zip" = none) (ha : PA X [a, b] ta) (hs : starEach [a, b] X.env = [(false, eval a X.env), (false, eval b X.env)] := by rfl) (hs2 : starEach [b] X.env = [(false, eval b X.env)] := by rfl) (hK : X.K = K := by rfl) :
    PI X (.Tuple elts x1 tpos) (.Call (.Name "zip" p) [a, b] [] pos) (iZip K ta) := by
  subst hK
  intro pins s σ H R I h
  refine Call_ (ld_blt I hg hm boot_zip0 (PyProof.Rows.callWith_type1 (thn (ha pos pins s σ H _ I h) fun us s1 ⟨vs, H1, I1, r1, q1⟩ => ?_) (by rw [hs, hs2]) (by rw [hs2]; rfl)))
  obtain ⟨l1, l2, e, ⟨xs, hq1⟩, ⟨ys, hq2⟩, q⟩ := q1
  subst e
  obtain ⟨u1, u2, rfl, r2, r3⟩ := vals2 r1
  cases r2
  cases r3
  obtain ⟨it1, rv1, p1, hz1⟩ := I1.list hq1
  obtain ⟨it2, rv2, p2, hz2⟩ := I1.list hq2
  have a1 : l1 < s1.heap.objs.size := by obtain ⟨_, e, _⟩ := p1.isList; exact Heap.lt_size e
  have a2 : l2 < s1.heap.objs.size := by obtain ⟨_, e, _⟩ := p2.isList; exact Heap.lt_size e
  refine call_zip_2 p1.isList p2.isList fun h' b1 b2 b3 b4 b5 b6 hk => ?_
  refine wpAny_pyIter_zip b1 ?_
  have ge : ∀ c ∈ [s1.heap.objs.size + 4, s1.heap.objs.size + 2, s1.heap.objs.size + 3, s1.heap.objs.size, s1.heap.objs.size + 1], s1.heap.objs.size ≤ c := fun c hc => by
    simp only [List.mem_cons, List.not_mem_nil, or_false] at hc
    rcases hc with rfl | rfl | rfl | rfl | rfl
    · exact Nat.le_add_right _ _
    · exact Nat.le_add_right _ _
    · exact Nat.le_add_right _ _
    · exact Nat.le_refl _
    · exact Nat.le_add_right _ _
  have fp : ∀ c ∈ [s1.heap.objs.size + 4, s1.heap.objs.size + 2, s1.heap.objs.size + 3, s1.heap.objs.size, s1.heap.objs.size + 1], FpOk X pins H1 c := fun c hc => I1.fpOk (ge c hc) (I1.hok.fresh (ge c hc))
  generalize s1.heap.objs.size = m at a1 a2 b1 b2 b3 b4 b5 b6 fp ⊢
  have D : ZipApart (m + 4) (m + 2) (m + 3) m (m + 1) l1 l2 := by
    have h1 : l1 < m := a1
    have h2 : l2 < m := a2
    constructor <;> first | exact Nat.ne_of_lt (Nat.lt_of_lt_of_le h1 (Nat.le_add_right _ _)) | exact Nat.ne_of_lt (Nat.lt_of_lt_of_le h2 (Nat.le_add_right _ _)) | exact Nat.ne_of_lt h1 | exact Nat.ne_of_lt h2 | (intro e; simp at e) | (intro e; exact absurd e (by omega))
  refine ⟨m + 4, [m + 4, m + 2, m + 3, m, m + 1], _, _, H1, rfl, I1.kept (t' := s1.toks) hk, turn_zip l1 l2 _ _ _ _ _ D, ⟨b1, b2, ⟨_, _, b3⟩, b4, b5⟩, fp, q⟩
end
end L2
namespace L2
open PySem PySem.Spec PyProof.Rows
def pl2 (k : Bool) : Option Int → Option Int → Option Int
  | some x, some y => some (if k then x + y else x - y)
  | _, _ => none
end L2
namespace L2
open PySem PySem.Spec PyProof.Rows
theorem for_zip {K : PySem.W.Frag} {a b : Addr} {xs ys : List V} {g : TG} {tb : TS} {D : Ends} {σ : St} {H : Hp} (hz : xs.length = ys.length) (Pv : Nat → St → Hp → Prop) (h0 : Pv 0 σ H) (hl : ∀ i σ H, i ≤ xs.length → Pv i σ H → SqL K H a xs ∧ SqL K H b ys)
    (hs : ∀ i x y σ H q H2, xs[i]? = some x → ys[i]? = some y → Pv i σ H → Same H H2 → H2 q = some (.tup [x, y]) → g (.ref q) σ H2 fun σ1 H1 => tb { D with nx := Pv (i + 1), ct := Pv (i + 1), bk := D.nx } σ1 H1)
    (hd : ∀ σ H, Pv xs.length σ H → D.nx σ H) : ForEnd (Itz K a b) g tb D σ H := by
  refine ⟨fun i m σ H => m = xs.length - i ∧ i ≤ xs.length ∧ Pv i σ H, ⟨xs.length, by simp, Nat.zero_le _, h0⟩, ?_⟩
  rintro i m σ' H' ⟨rfl, hi, p⟩
  obtain ⟨hq1, hq2⟩ := hl i σ' H' hi p
  by_cases hlt : i < xs.length
  · have hlt2 : i < ys.length := by omega
    refine .inr ⟨⟨xs, ys, xs[i], ys[i], hq1, hq2, by simp [hlt], by simp [hlt2]⟩, Pv (i + 1), fun σ2 H2 p' => ⟨xs.length - (i + 1), by omega, rfl, hlt, p'⟩, fun v H2 y => ?_⟩
    obtain ⟨q, x, y, rfl, hn, sm, hT, hx, hy⟩ := y
    exact hs i x y σ' H' q H2 (hx xs hq1) (hy ys hq2) p sm hT
  · have e : i = xs.length := by omega
    subst e
    exact .inl ⟨⟨xs, ys, hq1, hq2, .inl (Nat.le_refl _)⟩, hd σ' H' p⟩
theorem i_zip {K : PySem.W.Frag} {σ : St} {H : Hp} {R : It → Hp → Prop} {ts : TA} (h : ts σ H fun vs H1 => ∃ a b, vs = [.ref a, .ref b] ∧ (∃ xs, SqL K H1 a xs) ∧ (∃ ys, SqL K H1 b ys) ∧ R (Itz K a b) H1) : iZip K ts σ H R := h
end L2
namespace L2
open PySem
end L2
namespace L2
open PySem PySem.Spec PyProof.Rows
def rNeLs : R2 := fun x y H Q => ∃ t fs gs, (Tr.lst t).At H x fs ∧ (Tr.lst t).At H y gs ∧ Tr.hs t ≤ 60 ∧ Q (.bl false) H
theorem kop_neLs {X : Cx} (hu : X.A.units + 64 < cLine) : OpR X (compareOp .NotEq) rNeLs := by
  intro pins s σ H x y v u Q I rx ry h
  obtain ⟨t, fs, gs, h1, h2, hh, q⟩ := h
  simp only [Tr.At] at h1 h2
  obtain ⟨a, vs, _, rfl, e1, c1, _⟩ := h1
  obtain ⟨b, ws, _, rfl, e2, c2, _⟩ := h2
  cases rx
  cases ry
  obtain ⟨is1, q1, p1, _⟩ := I.list (SqL.of e1)
  obtain ⟨is2, q2, p2, _⟩ := I.list (SqL.of e2)
  have hl : is1.length = is2.length := by rw [← q1.length, ← q2.length, c1.len, c2.len]
  have := SeqAt.RcNeAt.lists (A := X.A) (s := s) (e := fun _ => true) p1.isList p2.isList (by simpa using hl) (by omega) (fun j h1 h2 => by
    have := Tr.eqAts I (A := X.A.in1) c1 c2 q1 q2 (by rw [in1_units]; omega) j (by simpa using h1) (by simpa using h2)
    simpa using this) X.prog X.w X.xe (EP X pins σ Q)
  refine this ⟨.bl false, H, I, ?_, q⟩
  rw [show ((List.range is1.toArray.size).all fun _ => true) = true by simp]
  rfl
theorem i_neLs {H : Hp} {Q : VK} {x y : V} {t : List Tr} {fs gs : List Addr} (h1 : (Tr.lst t).At H x fs) (h2 : (Tr.lst t).At H y gs) (hh : Tr.hs t ≤ 60) (h : Q (.bl false) H) : rNeLs x y H Q := ⟨t, fs, gs, h1, h2, hh, h⟩
end L2
namespace L2
open PySem PySem.Spec PyProof.Rows
noncomputable instance trDec : DecidableEq Tr := fun _ _ => Classical.propDecidable _
mutual
def Tr.In (h : Heap) : Tr → Value → Prop
  | .non, u => u = .none
  | .int z, u => ∃ t, u = .int z t
  | .str x, u => ∃ t, u = .str x t
  | .tup ts, u => ∃ a us, u = .ref a ∧ h.IsTuple a us ∧ Tr.Ins h ts us.toList
  | .lst _, _ => False
def Tr.Ins (h : Heap) : List Tr → List Value → Prop
  | [], us => us = []
  | t :: ts, us => ∃ u r, us = u :: r ∧ Tr.In h t u ∧ Tr.Ins h ts r
end
theorem Tr.Ins.len {h : Heap} : ∀ {ts : List Tr} {us : List Value}, Tr.Ins h ts us → us.length = ts.length
  | [], us, e => by simp only [Tr.Ins] at e; rw [e]; rfl
  | t :: ts, us, e => by
    simp only [Tr.Ins] at e
    obtain ⟨u, r, rfl, _, e⟩ := e
    simp [e.len]
theorem Tr.Ins.get {h : Heap} : ∀ {ts : List Tr} {us : List Value}, Tr.Ins h ts us → ∀ (j : Nat) (h1 : j < us.length) (h2 : j < ts.length), Tr.In h ts[j] us[j]
  | [], us, e, j, h1, h2 => absurd h2 (Nat.not_lt_zero _)
  | t :: ts, us, e, j, h1, h2 => by
    simp only [Tr.Ins] at e
    obtain ⟨u, r, rfl, e1, e⟩ := e
    cases j with
    | zero => exact e1
    | succ j => exact e.get j (by simpa using h1) (by simpa using h2)
theorem isTuple_inj {h : Heap} {a : Addr} {us vs : Array Value} (x : h.IsTuple a us) (y : h.IsTuple a vs) : us = vs := by
  obtain ⟨o, e, _, n, d⟩ := x
  obtain ⟨o', e', _, n', d'⟩ := y
  rw [e] at e'; cases e'
  rw [d] at d'
  injection d' with d1 _
mutual
theorem Tr.In.inj {h : Heap} : ∀ {t r : Tr} {u : Value}, Tr.In h t u → Tr.In h r u → t = r
  | .non, r, u, e, f => by
    simp only [Tr.In] at e
    subst e
    cases r <;> simp [Tr.In] at f ⊢
  | .int z, r, u, e, f => by
    simp only [Tr.In] at e
    obtain ⟨t, rfl⟩ := e
    cases r <;> simp [Tr.In] at f ⊢
    exact f
  | .str x, r, u, e, f => by
    simp only [Tr.In] at e
    obtain ⟨t, rfl⟩ := e
    cases r <;> simp [Tr.In] at f ⊢
    exact f
  | .lst _, r, u, e, f => e.elim
  | .tup ts, .tup rs, u, e, f => by
    simp only [Tr.In] at e f
    obtain ⟨a, us, rfl, e2, e3⟩ := e
    obtain ⟨b, vs, hb, f2, f3⟩ := f
    cases hb
    cases isTuple_inj e2 f2
    rw [Tr.Ins.inj e3 f3]
  | .tup ts, .non, u, e, f => by
    simp only [Tr.In] at e f
    obtain ⟨a, us, rfl, e2, e3⟩ := e
    cases f
  | .tup ts, .int _, u, e, f => by
    simp only [Tr.In] at e f
    obtain ⟨a, us, rfl, e2, e3⟩ := e
    obtain ⟨_, f⟩ := f
    cases f
  | .tup ts, .str _, u, e, f => by
    simp only [Tr.In] at e f
    obtain ⟨a, us, rfl, e2, e3⟩ := e
    obtain ⟨_, f⟩ := f
    cases f
  | .tup ts, .lst _, u, e, f => f.elim
theorem Tr.Ins.inj {h : Heap} : ∀ {ts rs : List Tr} {us : List Value}, Tr.Ins h ts us → Tr.Ins h rs us → ts = rs
  | [], rs, us, e, f => by
    simp only [Tr.Ins] at e
    subst e
    cases rs with
    | nil => rfl
    | cons r rs => simp [Tr.Ins] at f
  | t :: ts, rs, us, e, f => by
    simp only [Tr.Ins] at e
    obtain ⟨u, r, rfl, e1, e2⟩ := e
    cases rs with
    | nil => simp [Tr.Ins] at f
    | cons q qs =>
      simp only [Tr.Ins] at f
      obtain ⟨u', r', hh, f1, f2⟩ := f
      cases hh
      rw [e1.inj f1, Tr.Ins.inj e2 f2]
end
theorem at_no_lst {H : Hp} {ts : List Tr} {v : V} {h : (Tr.lst ts).At H v []} : False := by
  simp only [Tr.At] at h
  obtain ⟨a, vs, _, rfl, e1, c1, e⟩ := h
  simp at e
section
variable {X : Cx} {pins : List (Addr × Obj)} {σ : St} {H : Hp} {s : Shared}
mutual
theorem Tr.At.isIn (I : Inv X pins σ H s) : ∀ {t : Tr} {v : V} {u : Value}, t.At H v [] → RelV v u → Tr.In s.heap t u
  | .non, v, u, h, r => by
    obtain ⟨rfl, -⟩ := (by simpa only [Tr.At] using h)
    cases r
    exact rfl
  | .int z, v, u, h, r => by
    obtain ⟨rfl, -⟩ := (by simpa only [Tr.At] using h)
    obtain ⟨t, rfl⟩ := r
    exact ⟨t, rfl⟩
  | .str z, v, u, h, r => by
    obtain ⟨rfl, -⟩ := (by simpa only [Tr.At] using h)
    obtain ⟨t, rfl⟩ := r
    exact ⟨t, rfl⟩
  | .lst _, v, u, h, r => (at_no_lst (h := h)).elim
  | .tup ts, v, u, h, r => by
    simp only [Tr.At] at h
    obtain ⟨a, vs, rfl, e1, c1⟩ := h
    cases r
    obtain ⟨is1, q1, p1, _⟩ := I.tuple (SqT.of e1)
    simp only [Tr.In]
    exact ⟨a, is1.toArray, rfl, p1, by simpa using Tr.Ats.isIns I c1 q1⟩
theorem Tr.Ats.isIns (I : Inv X pins σ H s) : ∀ {ts : List Tr} {vs : List V} {us : List Value}, Tr.Ats H ts vs [] → Vals vs us → Tr.Ins s.heap ts us
  | [], vs, us, c, q => by
    simp only [Tr.Ats] at c
    obtain ⟨rfl, -⟩ := c
    cases q
    exact rfl
  | t :: ts, vs, us, c, q => by
    simp only [Tr.Ats] at c
    obtain ⟨v, vs, f, g, rfl, e, a1, b1⟩ := c
    have hf : f = [] ∧ g = [] := by simpa using e.symm
    obtain ⟨rfl, rfl⟩ := hf
    cases q with
    | cons r1 q1 =>
    simp only [Tr.Ins]
    exact ⟨_, _, rfl, a1.isIn I r1, b1.isIns I q1⟩
end
end
theorem all_range {n : Nat} {e : Nat → Bool} : (List.range n).all e = true ↔ ∀ j, j < n → e j = true := by simp [List.all_eq_true]
theorem trs_eq {ts rs : List Tr} : ((List.range (min ts.length rs.length)).all (fun j => decide (ts.getD j .non = rs.getD j .non)) && ts.length == rs.length) = decide (ts = rs) := by
  rw [Bool.eq_iff_iff, Bool.and_eq_true, all_range, decide_eq_true_iff, beq_iff_eq]
  constructor
  · rintro ⟨h1, h2⟩
    refine List.ext_getElem h2 fun j h3 h4 => ?_
    have := of_decide_eq_true (h1 j (by omega))
    simpa [h3, h4] using this
  · rintro rfl
    exact ⟨fun j _ => decide_eq_true rfl, rfl⟩
section
variable {s : Shared}
mutual
theorem Tr.In.eqAt : ∀ {t r : Tr} {A : Around} {u z : Value}, Tr.In s.heap t u → Tr.In s.heap r z → A.units + t.h + r.h < cLine → SeqAt.EqAt A s u z (decide (t = r))
  | .non, r, A, u, z, h1, h2, hu => by
    simp only [Tr.In] at h1
    subst h1
    cases r with
    | non =>
      simp only [Tr.In] at h2
      subst h2
      rw [decide_eq_true rfl]
      exact SeqAt.EqAt.same _
    | int i =>
      obtain ⟨t2, rfl⟩ := h2
      rw [decide_eq_false (by simp)]
      exact SeqAt.EqAt.none_int _ _
    | str i =>
      obtain ⟨t2, rfl⟩ := h2
      rw [decide_eq_false (by simp)]
      exact SeqAt.EqAt.none_str _ _
    | tup rs =>
      simp only [Tr.In] at h2
      obtain ⟨a, us, rfl, p, _⟩ := h2
      rw [decide_eq_false (by simp)]
      exact SeqAt.EqAt.none_tuple p (by omega)
    | lst rs => exact h2.elim
  | .int i, r, A, u, z, h1, h2, hu => by
    obtain ⟨t1, rfl⟩ := h1
    cases r with
    | non =>
      simp only [Tr.In] at h2
      subst h2
      rw [decide_eq_false (by simp)]
      exact SeqAt.EqAt.int_none _ _
    | int j =>
      obtain ⟨t2, rfl⟩ := h2
      have := SeqAt.EqAt.int_int (A := A) (s := s) i t1 j t2
      rw [show (i == j) = decide (Tr.int i = Tr.int j) from Bool.eq_iff_iff.mpr (by simp)] at this
      exact this
    | str j =>
      obtain ⟨t2, rfl⟩ := h2
      rw [decide_eq_false (by simp)]
      exact SeqAt.EqAt.int_str _ _ _ _
    | tup rs =>
      simp only [Tr.In] at h2
      obtain ⟨a, us, rfl, p, _⟩ := h2
      rw [decide_eq_false (by simp)]
      exact SeqAt.EqAt.int_tuple _ _ p (by omega)
    | lst rs => exact h2.elim
  | .str i, r, A, u, z, h1, h2, hu => by
    obtain ⟨t1, rfl⟩ := h1
    cases r with
    | non =>
      simp only [Tr.In] at h2
      subst h2
      rw [decide_eq_false (by simp)]
      exact SeqAt.EqAt.str_none _ _
    | int j =>
      obtain ⟨t2, rfl⟩ := h2
      rw [decide_eq_false (by simp)]
      exact SeqAt.EqAt.str_int _ _ _ _
    | str j =>
      obtain ⟨t2, rfl⟩ := h2
      have := SeqAt.EqAt.str_str (A := A) (s := s) i t1 j t2
      rw [show (i == j) = decide (Tr.str i = Tr.str j) from Bool.eq_iff_iff.mpr (by simp)] at this
      exact this
    | tup rs =>
      simp only [Tr.In] at h2
      obtain ⟨a, us, rfl, p, _⟩ := h2
      rw [decide_eq_false (by simp)]
      exact SeqAt.EqAt.str_tuple _ _ p (by omega)
    | lst rs => exact h2.elim
  | .lst _, r, A, u, z, h1, h2, hu => h1.elim
  | .tup ts, r, A, u, z, h1, h2, hu => by
    have h1' := h1
    simp only [Tr.In] at h1
    obtain ⟨a, us, rfl, p1, c1⟩ := h1
    cases r with
    | non =>
      simp only [Tr.In] at h2
      subst h2
      rw [decide_eq_false (by simp)]
      exact SeqAt.EqAt.tuple_none p1 (by omega)
    | int j =>
      obtain ⟨t2, rfl⟩ := h2
      rw [decide_eq_false (by simp)]
      exact SeqAt.EqAt.tuple_int _ _ p1 (by omega)
    | str j =>
      obtain ⟨t2, rfl⟩ := h2
      rw [decide_eq_false (by simp)]
      exact SeqAt.EqAt.tuple_str _ _ p1 (by omega)
    | lst rs => exact h2.elim
    | tup rs =>
      have h2' := h2
      simp only [Tr.In] at h2
      obtain ⟨b, vs, rfl, p2, c2⟩ := h2
      by_cases hab : a = b
      · subst hab
        rw [decide_eq_true (h1'.inj h2')]
        exact SeqAt.EqAt.same _
      refine SeqAt.EqAt.of_refs hab ?_
      simp only [Tr.h] at hu
      have l1 := c1.len
      have l2 := c2.len
      simp only [Array.length_toList] at l1 l2
      have := SeqAt.RcAt.tuples (A := A) (s := s) (e := fun j => decide (ts.getD j .non = rs.getD j .non)) p1 p2 (by omega) (fun j h1 h2 => by
        have := Tr.Ins.eqAts (A := A.in1) c1 c2 (by rw [in1_units]; omega) j (by simpa using h1) (by simpa using h2)
        simpa using this)
      rw [l1, l2, trs_eq] at this
      rw [show decide (Tr.tup ts = Tr.tup rs) = decide (ts = rs) from Bool.eq_iff_iff.mpr (by simp)]
      exact this
theorem Tr.Ins.eqAts : ∀ {ts rs : List Tr} {A : Around} {us zs : List Value}, Tr.Ins s.heap ts us → Tr.Ins s.heap rs zs → A.units + Tr.hs ts + Tr.hs rs < cLine →
    ∀ (j : Nat) (h1 : j < us.length) (h2 : j < zs.length), SeqAt.EqAt A s us[j] zs[j] (decide (ts.getD j .non = rs.getD j .non))
  | [], rs, A, us, zs, c1, c2, hu, j, h1, h2 => by
    simp only [Tr.Ins] at c1
    subst c1
    exact absurd h1 (by simp)
  | t :: ts, [], A, us, zs, c1, c2, hu, j, h1, h2 => by
    simp only [Tr.Ins] at c2
    subst c2
    exact absurd h2 (by simp)
  | t :: ts, r :: rs, A, us, zs, c1, c2, hu, j, h1, h2 => by
    simp only [Tr.Ins] at c1 c2
    obtain ⟨u, us, rfl, a1, b1⟩ := c1
    obtain ⟨z, zs, rfl, a2, b2⟩ := c2
    simp only [Tr.hs] at hu
    cases j with
    | zero =>
      have := a1.eqAt a2 (A := A) (by omega)
      simpa using this
    | succ j =>
      have := b1.eqAts b2 (A := A) (by omega) j (by simpa using h1) (by simpa using h2)
      simpa using this
end
end
mutual
def Tr.hash (P : Params) : Tr → Int
  | .non => PySem.W.hashW P .none
  | .int z => PySem.W.hashW P (.int z)
  | .str x => PySem.W.hashW P (.str x)
  | .tup ts => reduceHash (Builtin.Tuple.tupleHashOf (Tr.hashes P ts))
  | .lst _ => 0
def Tr.hashes (P : Params) : List Tr → List Int
  | [] => []
  | t :: ts => Tr.hash P t :: Tr.hashes P ts
end
section
variable {prog : Program} {w : World} {E : Value → Shared → Prop}
mutual
theorem Tr.In.pyHash : ∀ {t : Tr} {A : Around} {s : Shared} {u : Value} {Q : Int → Shared → Prop}, Tr.In s.heap t u → A.units + t.h < cLine → (∀ n, Q (t.hash w.params) { s with toks := n }) → wpAny (model prog w) A (pyHash u) Q E s
  | .non, A, s, u, Q, e, hu, h => by
    simp only [Tr.In] at e
    subst e
    exact PySem.W.pyHash_laid .none _ A s Q rfl .none (by simp only [PySem.W.WData.depth]; omega) h
  | .int z, A, s, u, Q, e, hu, h => by
    obtain ⟨t, rfl⟩ := e
    exact PySem.W.pyHash_laid (.int z) _ A s Q rfl (.int z t) (by simp only [PySem.W.WData.depth]; omega) h
  | .str z, A, s, u, Q, e, hu, h => by
    obtain ⟨t, rfl⟩ := e
    exact PySem.W.pyHash_laid (.str z) _ A s Q rfl (.str z t) (by simp only [PySem.W.WData.depth]; omega) h
  | .lst _, A, s, u, Q, e, hu, h => e.elim
  | .tup ts, A, s, u, Q, e, hu, h => by
    simp only [Tr.In] at e
    obtain ⟨a, us, rfl, ⟨o, p1, p2, n, p3⟩, c⟩ := e
    simp only [Tr.h] at hu
    refine PySem.W.pyHash_slot (T := "tuple") ⟨o, p1, p2⟩ F.slot_tuple_hash F.entry_tuple_hash (F.args_tuple_hash_1 _) (beq_builtin_none _) (.inr (by omega)) ?_
    show wpAny _ A.in1 (Builtin.Tuple.tupleItemsOf (.ref a) >>= _) _ _ s
    refine wpAny_bind (wpAny_tupleItemsOf p1 p3 (wpAny_bind ?_))
    rw [← Array.forIn_toList]
    refine Tr.Ins.pyHashes (b := #[]) c (by rw [in1_units]; omega) fun tk b hb => ?_
    have hb' : b.toList = Tr.hashes w.params ts := by simpa using hb
    show wpAny _ A.in1 (retInt (Builtin.Tuple.tupleHashOf b.toList)) _ _ _
    rw [hb']
    exact wpAny_bind (wpAny_mkInt (wpAny_pure ⟨_, _, rfl, h (_)⟩))
theorem Tr.Ins.pyHashes : ∀ {ts : List Tr} {A : Around} {s : Shared} {us : List Value} {b : Array Int} {Q : Array Int → Shared → Prop}, Tr.Ins s.heap ts us → A.units + Tr.hs ts < cLine →
    (∀ n b', b'.toList = b.toList ++ Tr.hashes w.params ts → Q b' { s with toks := n }) →
    wpAny (model prog w) A (forIn us b fun x r => do let h ← pyHash x; pure PUnit.unit; pure (ForInStep.yield (r.push h))) Q E s
  | [], A, s, us, b, Q, e, hu, h => by
    simp only [Tr.Ins] at e
    subst e
    exact wpAny_pure (h s.toks b (by simp [Tr.hashes]))
  | t :: ts, A, s, us, b, Q, e, hu, h => by
    simp only [Tr.Ins] at e
    obtain ⟨u, us, rfl, a1, b1⟩ := e
    simp only [Tr.hs] at hu
    rw [List.forIn_cons]
    refine wpAny_bind (wpAny_bind (a1.pyHash (by omega) fun tk => wpAny_bind (wpAny_pure (wpAny_pure ?_))))
    exact b1.pyHashes (s := { s with toks := tk }) (by omega) fun n b' hb => h n b' (by simp [hb, Tr.hashes])
end
end
end L2
namespace L2
open PySem PySem.Spec PyProof.Rows
section
variable {prog : Program} {w : World} {E : Value → Shared → Prop}
mutual
theorem Tr.In.quiet : ∀ {t : Tr} {A : Around} {s : Shared} {u : Value} {Q : Bool → Shared → Prop} {n : Nat}, Tr.In s.heap t u → t.h ≤ n → Q true s → wpAny (model prog w) A (eqIsQuiet n u) Q E s
  | .non, A, s, u, Q, n, e, hn, h => by
    simp only [Tr.In] at e
    subst e
    rw [eqIsQuiet_byValue n (v := .none) rfl]
    exact wpAny_pure h
  | .int z, A, s, u, Q, n, e, hn, h => by
    obtain ⟨t, rfl⟩ := e
    rw [eqIsQuiet_byValue n (v := .int z t) rfl]
    exact wpAny_pure h
  | .str z, A, s, u, Q, n, e, hn, h => by
    obtain ⟨t, rfl⟩ := e
    rw [eqIsQuiet_byValue n (v := .str z t) rfl]
    exact wpAny_pure h
  | .lst _, A, s, u, Q, n, e, hn, h => e.elim
  | .tup ts, A, s, u, Q, n, e, hn, h => by
    simp only [Tr.In] at e
    obtain ⟨a, us, rfl, ⟨o, p1, p2, m, p3⟩, c⟩ := e
    simp only [Tr.h] at hn
    obtain ⟨n, rfl⟩ : ∃ k, n = k + 1 := ⟨n - 1, by omega⟩
    have hT : s.TypeIs (.ref a) "tuple" := ⟨o, p1, p2⟩
    unfold eqIsQuiet
    refine wpAny_bind (wpAny_specialOf hT (F.slot_tuple_eq.lookup) ?_)
    show wpAny _ A (isInstance (.ref a) (.type "tuple") >>= _) _ _ s
    refine wpAny_bind (wpAny_isInstance hT (isSubtype_tuple_tuple) ?_)
    simp only [Bool.false_eq_true, Bool.not_true, if_false]
    refine wpAny_bind (wpAny_seqItems p1 p3 (wpAny_bind ?_))
    show wpAny _ _ (forIn us _ _) _ _ s
    rw [← Array.forIn_toList]
    refine wpAny_forIn_list _ (fun rest r s' => r.1 = none ∧ s' = s ∧ ∃ ts', Tr.Ins s.heap ts' rest ∧ ∀ t ∈ ts', ∃ k, ∃ hk : k < ts.length, t = ts[k]) _ ?_ ?_ _ _ ⟨rfl, rfl, ts, c, fun t ht => by
      obtain ⟨k, hk, e⟩ := List.mem_iff_getElem.mp ht
      exact ⟨k, hk, e.symm⟩⟩
    · rintro v rest r s' ⟨hr, rfl, ts', c', hm⟩
      cases ts' with
      | nil => simp [Tr.Ins] at c'
      | cons t ts' =>
        simp only [Tr.Ins] at c'
        obtain ⟨u', r', hh, a1, b1⟩ := c'
        cases hh
        obtain ⟨k, hk, rfl⟩ := hm t List.mem_cons_self
        refine wpAny_bind (Tr.Ins.quietAt (n := n) c k hk a1 (by omega) ?_)
        simp only [Bool.false_eq_true, Bool.not_true, if_false]
        exact wpAny_pure ⟨rfl, rfl, ts', b1, fun t' ht' => hm t' (List.mem_cons_of_mem _ ht')⟩
    · rintro ⟨r1, r2⟩ s' ⟨hr, rfl, _⟩
      simp only at hr
      subst hr
      exact wpAny_pure h
theorem Tr.Ins.quietAt : ∀ {ts : List Tr} {A : Around} {s : Shared} {us : List Value} {u : Value} {Q : Bool → Shared → Prop} {n : Nat}, Tr.Ins s.heap ts us → ∀ (k : Nat) (hk : k < ts.length), Tr.In s.heap ts[k] u → Tr.hs ts ≤ n → Q true s →
    wpAny (model prog w) A (eqIsQuiet n u) Q E s
  | [], A, s, us, u, Q, n, e, k, hk, a1, hn, h => absurd hk (Nat.not_lt_zero _)
  | t :: ts, A, s, us, u, Q, n, e, k, hk, a1, hn, h => by
    simp only [Tr.Ins] at e
    obtain ⟨u', us, rfl, a2, b2⟩ := e
    simp only [Tr.hs] at hn
    cases k with
    | zero => exact Tr.In.quiet (t := t) a1 (by omega) h
    | succ k => exact Tr.Ins.quietAt b2 k (by simpa using hk) a1 (by omega) h
end
end
structure Ents (P : Params) (h : Heap) (es : Array DictEntry) (ts : List Tr) : Prop where
  len : es.size = ts.length
  at_ : ∀ (j : Nat) (e : DictEntry), es[j]? = some e → ∃ t : Tr, ts[j]? = some t ∧ e.hash = t.hash P ∧ Tr.In h t e.key ∧ t.h ≤ 8
  nd : ts.Nodup
theorem Ents.of {P : Params} {h : Heap} {es : Array DictEntry} {ts : List Tr} (x : Ents P h es ts) {j : Nat} {t : Tr} (e : ts[j]? = some t) : ∃ en, es[j]? = some en ∧ en.hash = t.hash P ∧ Tr.In h t en.key ∧ t.h ≤ 8 := by
  have hj : j < es.size := by rw [x.len]; exact (List.getElem?_eq_some_iff.mp e).1
  obtain ⟨t', e', h2⟩ := x.at_ j es[j] (Array.getElem?_eq_getElem hj)
  rw [e] at e'
  cases e'
  exact ⟨_, Array.getElem?_eq_getElem hj, h2⟩
theorem Ents.one {P : Params} {h : Heap} {es : Array DictEntry} {ts : List Tr} (x : Ents P h es ts) {i j : Nat} {t : Tr} (e : ts[i]? = some t) (f : ts[j]? = some t) : i = j := by
  obtain ⟨h1, e⟩ := List.getElem?_eq_some_iff.mp e
  obtain ⟨h2, f⟩ := List.getElem?_eq_some_iff.mp f
  have pw := List.pairwise_iff_getElem.mp x.nd
  rcases Nat.lt_trichotomy i j with h | h | h
  · exact absurd (e.trans f.symm) (pw i j h1 h2 h)
  · exact h
  · exact absurd (f.trans e.symm) (pw j i h2 h1 h)
section
variable {prog : Program} {w : World} {E : Value → Shared → Prop} {A : Around} {s : Shared} {d : Addr} {o : Obj} {es : Array DictEntry} {ep : Nat} {ts : List Tr} {t : Tr} {u : Value}
theorem mem_places {f : Nat → Option Int} {n i : Nat} {h : Int} : i ∈ placesWithHash n f h ↔ i < n ∧ f i = some h := by simp [placesWithHash, List.mem_filter]
theorem places_nd {f : Nat → Option Int} {n : Nat} {h : Int} : (placesWithHash n f h).Nodup := List.Pairwise.filter _ List.nodup_range
theorem find_tr {Q : Option Nat → Shared → Prop} (ho : s.heap.get? d = some o) (hd : o.data = .dict es ep) (x : Ents w.params s.heap es ts) (hk : Tr.In s.heap t u) (h8 : t.h ≤ 8) (hu : A.units + 16 < cLine)
    (hnone : (∀ j : Nat, ts[j]? ≠ some t) → Q none s) (hsome : ∀ j : Nat, ts[j]? = some t → Q (some j) s) : wpAny (model prog w) A (dictFind d u (t.hash w.params)) Q E s := by
  have hin : ∀ j : Nat, ts[j]? = some t → j ∈ placesWithHash es.size (fun i => es[i]?.map (·.hash)) (t.hash w.params) := fun j hj => by
    obtain ⟨en, e1, e2, _⟩ := x.of hj
    exact mem_places.mpr ⟨(Array.getElem?_eq_some_iff.mp e1).1, by rw [e1]; exact congrArg some e2⟩
  have hex : ∀ i ∈ placesWithHash es.size (fun i => es[i]?.map (·.hash)) (t.hash w.params), ∃ en t', es[i]? = some en ∧ ts[i]? = some t' ∧ en.hash = t.hash w.params ∧ Tr.In s.heap t' en.key ∧ t'.h ≤ 8 := fun i hi => by
    obtain ⟨hi, h2⟩ := mem_places.mp hi
    have e1 := Array.getElem?_eq_getElem hi
    obtain ⟨t', e2, e3, e4, e5⟩ := x.at_ i _ e1
    rw [e1] at h2
    exact ⟨_, t', e1, e2, Option.some.inj h2, e4, e5⟩
  have hnd : (placesWithHash es.size (fun i => es[i]?.map (·.hash)) (t.hash w.params)).Nodup := places_nd
  generalize hP : placesWithHash es.size (fun i => es[i]?.map (·.hash)) (t.hash w.params) = ps at hin hex hnd
  have eqa : ∀ {t' : Tr} {z : Value}, Tr.In s.heap t' z → t'.h ≤ 8 → SeqAt.EqAt A s z u (decide (t' = t)) := fun a b => a.eqAt hk (by omega)
  have plain : wpAny (model prog w) A (dictWalkPlain d u (t.hash w.params) es ps) Q E s := by
    unfold dictWalkPlain
    refine wpAny_bind ?_
    refine wpAny_forIn_list _ (fun rest b s' => s' = s ∧ b = (none, ()) ∧ (∀ i ∈ rest, i ∈ ps) ∧ ∀ j : Nat, ts[j]? = some t → j ∈ rest) _ ?_ ?_ _ _ ⟨rfl, rfl, fun _ z => z, hin⟩
    · rintro i rest b s' ⟨rfl, rfl, hr, hj⟩
      obtain ⟨en, t', e1, e2, e3, e4, e5⟩ := hex i (hr i List.mem_cons_self)
      rw [e1]
      dsimp only
      rw [if_pos (by rw [e3]; exact beq_self_eq_true _)]
      refine wpAny_bind (wpAny_dictEpoch ho hd (wpAny_bind (eqa e4 e5 _ _ _ _ (wpAny_bind (wpAny_dictEpoch ho hd ?_)))))
      show wpAny _ A (if (ep != ep) = true then _ else _) _ E _
      rw [if_neg (by simp)]
      by_cases hkk : t' = t
      · subst hkk
        rw [decide_eq_true rfl]
        exact wpAny_bind (wpAny_rule (wpAny_pure (wpAny_pure (hsome i e2))))
      · rw [decide_eq_false hkk]
        refine wpAny_bind (wpAny_rule (wpAny_pure ⟨rfl, rfl, fun i hi => hr i (List.mem_cons_of_mem _ hi), fun j h2 => ?_⟩))
        rcases List.mem_cons.mp (hj j h2) with rfl | h3
        · rw [e2] at h2
          exact absurd (Option.some.inj h2) hkk
        · exact h3
    · rintro b s' ⟨rfl, rfl, _, hj⟩
      exact wpAny_pure (hnone fun j h2 => absurd (hj j h2) (by simp))
  have hany : ∀ a, u = .ref a → ¬ (es.any fun e => e.key == u && e.hash != t.hash w.params) = true := by
    rintro a rfl
    rw [← Array.any_toList, List.any_eq_true]
    rintro ⟨e, hin', hc⟩
    obtain ⟨j, hj, rfl⟩ := Array.mem_iff_getElem.mp (Array.mem_toList_iff.mp hin')
    obtain ⟨t', _, f2, f3, _⟩ := x.at_ j _ (Array.getElem?_eq_getElem hj)
    simp only [Bool.and_eq_true, beq_iff_eq, bne_iff_ne, ne_eq] at hc
    rw [hc.1] at f3
    exact hc.2 (by rw [f2, f3.inj hk])
  have hst : ∀ v ∈ ps.filterMap (fun i => es[i]?.map (·.key)), ∃ t', Tr.In s.heap t' v ∧ t'.h ≤ 8 := by
    intro v hv
    obtain ⟨i, hi, hv⟩ := List.mem_filterMap.mp hv
    obtain ⟨en, t', e1, _, _, e4, e5⟩ := hex i hi
    rw [e1] at hv
    cases hv
    exact ⟨t', e4, e5⟩
  have tell : ∀ {Q : Bool → Shared → Prop}, Q false s → wpAny (model prog w) A (tableMayTell u (ps.filterMap fun i => es[i]?.map (·.key))) Q E s := by
    intro Q q
    unfold tableMayTell
    split
    · exact wpAny_pure q
    · refine wpAny_bind (hk.quiet h8 ?_)
      simp only [Bool.false_eq_true, Bool.not_true, if_false]
      refine wpAny_bind (wpAny_forIn_list _ (fun rest r s' => s' = s ∧ r = (none, ()) ∧ ∀ v ∈ rest, ∃ t', Tr.In s.heap t' v ∧ t'.h ≤ 8) _ ?_ ?_ _ _ ⟨rfl, rfl, hst⟩)
      · rintro v rest r s' ⟨rfl, rfl, hr⟩
        obtain ⟨t', b1, b2⟩ := hr v List.mem_cons_self
        refine wpAny_bind (b1.quiet b2 ?_)
        simp only [Bool.false_eq_true, Bool.not_true, if_false]
        exact wpAny_pure ⟨rfl, rfl, fun z hz => hr z (List.mem_cons_of_mem _ hz)⟩
      · rintro r s' ⟨rfl, rfl, _⟩
        exact wpAny_pure q
  unfold dictFind
  try (with_reducible refine wpAny_holding ?_)
  refine wpAny_bind (wpAny_dictEntries ho (hd) ?_)
  extract_lets places st hit0 jp3 jp2 jp1
  have hpl : places = ps := hP
  have hS : ps.filterMap (fun i => es[i]?.map (·.key)) = st := by rw [← hpl]
  rw [hS] at tell
  clear hst
  have h3 : wpAny (model prog w) A (jp3 false) Q E s := by
    dsimp only [jp3]
    rw [if_neg (by simp), hpl]
    refine wpAny_bind (wpAny_forIn_list _ (fun rest b s' => s' = s ∧ rest.Nodup ∧ ∃ hit : Option Nat, b = (none, hit) ∧ (∀ i ∈ rest, i ∈ ps) ∧
     ((hit = none ∧ ∀ j : Nat, ts[j]? = some t → j ∈ rest) ∨ ∃ j : Nat, hit = some j ∧ ts[j]? = some t ∧ j ∉ rest)) _ ?_ ?_ _ _ ⟨rfl, hnd, none, rfl, fun _ z => z, .inl ⟨rfl, hin⟩⟩)
    · rintro i rest b s' ⟨rfl, hnd', hit, rfl, hr, hH⟩
      have hni : i ∉ rest := (List.nodup_cons.mp hnd').1
      have hnr : rest.Nodup := (List.nodup_cons.mp hnd').2
      have hr' : ∀ j ∈ rest, j ∈ ps := fun j hj => hr j (List.mem_cons_of_mem _ hj)
      obtain ⟨en, t', e1, e2, e3, e4, e5⟩ := hex i (hr i List.mem_cons_self)
      rw [e1]
      dsimp only
      rw [if_pos (by rw [e3]; exact beq_self_eq_true _)]
      refine wpAny_bind (wpAny_dictEpoch ho hd (wpAny_bind (eqa e4 e5 _ _ _ _ (wpAny_bind (wpAny_dictEpoch ho hd ?_)))))
      show wpAny _ A (if (ep != ep) = true then _ else _) _ E _
      rw [if_neg (by simp)]
      by_cases hkk : t' = t
      · subst hkk
        rw [decide_eq_true rfl]
        rcases hH with ⟨rfl, hj⟩ | ⟨j, rfl, hj, hjr⟩
        · rw [if_pos rfl]
          simp only [Bool.false_eq_true, Option.isSome_none, if_false]
          refine wpAny_bind ((wpAny_rule) ?_)
          split
          · exact wpAny_pure (wpAny_pure (hsome i e2))
          · exact wpAny_pure ⟨rfl, hnr, some i, rfl, hr', .inr ⟨i, rfl, e2, hni⟩⟩
        · exact absurd (x.one e2 hj ▸ List.mem_cons_self) hjr
      · rw [decide_eq_false hkk]
        rw [if_neg (by simp)]
        refine wpAny_bind ((wpAny_rule) ?_)
        rw [if_neg (by simp)]
        refine wpAny_pure ⟨rfl, hnr, hit, rfl, hr', ?_⟩
        rcases hH with ⟨rfl, hj⟩ | ⟨j, rfl, hj, hjr⟩
        · refine .inl ⟨rfl, fun j h2 => ?_⟩
          rcases List.mem_cons.mp (hj j h2) with rfl | h3
          · rw [e2] at h2
            exact absurd (Option.some.inj h2) hkk
          · exact h3
        · exact .inr ⟨j, rfl, hj, fun z => hjr (List.mem_cons_of_mem _ z)⟩
    · rintro b s' ⟨rfl, _, hit, rfl, _, hH⟩
      rcases hH with ⟨rfl, hj⟩ | ⟨j, rfl, hj, _⟩
      · exact wpAny_pure (hnone fun j h2 => absurd (hj j h2) (by simp))
      · exact wpAny_pure (hsome j hj)
  clear_value jp3
  have h2 : wpAny (model prog w) A (jp2 ()) Q E s := by
    dsimp only [jp2]
    by_cases hone : (st == [u]) = true
    · rw [if_pos hone]
      exact wpAny_bind (wpAny_pure h3)
    · rw [if_neg hone]
      exact wpAny_bind (tell h3)
  clear_value jp2
  have h1 : wpAny (model prog w) A (jp1 ()) Q E s := by
    dsimp only [jp1]
    by_cases hall : (u :: st).all carriedByValue = true
    · rw [if_pos hall, hpl]
      exact plain
    rw [if_neg hall]
    split
    · rename_i a
      rw [if_neg (hany a rfl)]
      exact h2
    · exact h2
  clear_value jp1
  split
  · rename_i y tk
    by_cases hx : (es.all fun e => isExactStrKey e.key) = true
    · rw [if_pos hx]
      have ht : t = .str y := hk.inj (r := .str y) ⟨tk, rfl⟩
      subst ht
      have hstr : ∀ (j : Nat) (hj : j < es.size), es[j].key.isStr y = decide (ts[j]? = some (.str y)) := fun j hj => by
        obtain ⟨t', f1, f2, f3, _⟩ := x.at_ j _ (Array.getElem?_eq_getElem hj)
        have hx' := Array.all_eq_true.mp hx j hj
        rw [f1]
        cases hq : es[j].key with
        | str z tz =>
          rw [hq] at f3
          obtain rfl : t' = .str z := f3.inj (r := .str z) ⟨tz, rfl⟩
          show (z == y) = _
          exact Bool.eq_iff_iff.mpr (by simp)
        | _ => rw [hq] at hx'; cases hx'
      unfold foundByValue
      cases hf : es.findIdx? (fun e => e.key.isStr y) with
      | none =>
        refine wpAny_pure (hnone fun j hj => ?_)
        obtain ⟨en, g1, _⟩ := x.of hj
        obtain ⟨hl, _⟩ := Array.getElem?_eq_some_iff.mp g1
        have := Array.findIdx?_eq_none_iff.mp hf es[j] (Array.getElem_mem hl)
        rw [hstr j hl, decide_eq_true hj] at this
        cases this
      | some i =>
        obtain ⟨hlt, hi, _⟩ := Array.findIdx?_eq_some_iff_getElem.mp hf
        rw [hstr i hlt] at hi
        have hi := of_decide_eq_true hi
        obtain ⟨t', f1, f2, f3, f4⟩ := x.at_ i _ (Array.getElem?_eq_getElem hlt)
        rw [hi] at f1
        cases f1
        simp only [Array.getElem?_eq_getElem hlt]
        refine wpAny_bind (wpAny_dictEpoch ho hd (wpAny_bind (eqa f3 f4 _ _ _ _ (wpAny_bind (wpAny_dictEpoch ho hd ?_)))))
        show wpAny _ A (if (ep != ep) = true then _ else _) _ E _
        rw [if_neg (by simp), decide_eq_true rfl]
        exact wpAny_bind (wpAny_rule (wpAny_pure (hsome i hi)))
    · rw [if_neg hx]
      exact h1
  · exact h1
end
end L2
namespace L2
open PySem PySem.Spec PyProof.Rows
structure DtR (P : Params) (m : List (Tr × V × V)) (es : Array DictEntry) : Prop where
  len : es.size = m.length
  at_ : ∀ (j : Nat) (x : Tr × V × V), m[j]? = some x → ∃ e, es[j]? = some e ∧ e.hash = x.1.hash P ∧ RelV x.2.1 e.key ∧ RelV x.2.2 e.val
def DtP (P : Params) (a : Addr) (m : List (Tr × V × V)) : Heap → Prop := fun h => m.length ≤ sizeLine ∧ (a == sysModules) = false ∧ ∃ o es ep, h.get? a = some o ∧ o.ExactDict ∧ o.data = .dict es ep ∧ DtR P m es
abbrev DtO (P : Params) (a : Addr) (m : List (Tr × V × V)) : HO := .ext (DtP P a m)
theorem DtP.one {P : Params} {a : Addr} {m : List (Tr × V × V)} (h1 h2 : Heap) (x : DtP P a m h1) (k : ∀ o, h1.get? a = some o → h2.get? a = some o) : DtP P a m h2 := by
  obtain ⟨z, y, o, es, ep, e, r⟩ := x
  exact ⟨z, y, o, es, ep, k _ e, r⟩
theorem dto_ok {Pr : Program} {w : World} {H : Hp} {h : Heap} {P : Params} {a : Addr} {m : List (Tr × V × V)} (x : DtP P a m h) : ObjOk Pr w H h a (DtO P a m) := by
  refine ⟨x, ?_, DtP.one⟩
  obtain ⟨_, _, o, _, _, e, _⟩ := x
  exact ⟨o, e⟩
def DtE (P : Params) (H : Hp) (a : Addr) (m : List (Tr × V × V)) : Prop := ∃ φ, H a = some (.ext φ) ∧ ∀ h, φ h → DtP P a m h
theorem DtE.of {P : Params} {H : Hp} {a : Addr} {m : List (Tr × V × V)} (h : H a = some (DtO P a m)) : DtE P H a m := ⟨_, h, fun _ x => x⟩
theorem DtE.mut {P : Params} {H : Hp} {a : Addr} {m : List (Tr × V × V)} (h : DtE P H a m) : Mut (H a) := by
  obtain ⟨φ, e, _⟩ := h
  rw [e]
  exact True.intro
def DtAt (P : Params) (H : Hp) (a : Addr) (kvs : List (Tr × V)) : Prop := ∃ m : List (Tr × V × V), m.map (fun x => (x.1, x.2.2)) = kvs ∧ DtE P H a m ∧ (∀ x ∈ m, x.1.At H x.2.1 [] ∧ x.1.h ≤ 8) ∧ (m.map (·.1)).Nodup
noncomputable def putM (m : List (Tr × V × V)) (t : Tr) (y v : V) : List (Tr × V × V) := if t ∈ m.map (·.1) then m.map (fun x => if x.1 = t then (x.1, x.2.1, v) else x) else m ++ [(t, y, v)]
theorem putM_kvs (m : List (Tr × V × V)) (t : Tr) (y v : V) : (putM m t y v).map (fun x => (x.1, x.2.2)) = putK (m.map fun x => (x.1, x.2.2)) t v := by
  have hany : ((m.map fun x => (x.1, x.2.2)).any fun kv => decide (kv.1 = t)) = decide (t ∈ m.map (·.1)) := by
    rw [Bool.eq_iff_iff, List.any_eq_true, decide_eq_true_iff, List.mem_map]
    constructor
    · rintro ⟨p, hp, e⟩
      obtain ⟨x, hx, rfl⟩ := List.mem_map.mp hp
      exact ⟨x, hx, of_decide_eq_true e⟩
    · rintro ⟨x, hx, e⟩
      exact ⟨_, List.mem_map_of_mem hx, decide_eq_true e⟩
  unfold putM putK
  rw [hany]
  by_cases h : t ∈ m.map (·.1)
  · rw [if_pos h, if_pos (decide_eq_true h), List.map_map, List.map_map]
    refine List.map_congr_left fun x _ => ?_
    simp only [Function.comp]
    split <;> rfl
  · rw [if_neg h, if_neg (by rw [decide_eq_false h]; exact Bool.false_ne_true), List.map_append]
    rfl
theorem putM_nd {m : List (Tr × V × V)} (t : Tr) (y v : V) (h : (m.map (·.1)).Nodup) : ((putM m t y v).map (·.1)).Nodup := by
  unfold putM
  by_cases ht : t ∈ m.map (·.1)
  · rw [if_pos ht, List.map_map]
    rw [show m.map ((·.1) ∘ fun x => if x.1 = t then (x.1, x.2.1, v) else x) = m.map (·.1) from List.map_congr_left fun x _ => by simp only [Function.comp]; split <;> rfl]
    exact h
  · rw [if_neg ht, List.map_append]
    exact nd_snoc h ht
theorem putM_all {m : List (Tr × V × V)} {t : Tr} {y v : V} {p : Tr → V → Prop} (h : ∀ x ∈ m, p x.1 x.2.1) (hy : p t y) : ∀ x ∈ putM m t y v, p x.1 x.2.1 := by
  intro x hx
  unfold putM at hx
  by_cases ht : t ∈ m.map (·.1)
  · rw [if_pos ht] at hx
    obtain ⟨z, hz, rfl⟩ := List.mem_map.mp hx
    split <;> exact h z hz
  · rw [if_neg ht] at hx
    rcases List.mem_append.mp hx with hx | hx
    · exact h x hx
    · rw [List.mem_singleton.mp hx]; exact hy
theorem putM_len (m : List (Tr × V × V)) (t : Tr) (y v : V) : (putM m t y v).length ≤ m.length + 1 := by
  unfold putM
  split <;> simp
theorem dt_same {P : Params} {H H' : Hp} {a : Addr} {kvs : List (Tr × V)} (x : DtAt P H a kvs) (s : Same H H') : DtAt P H' a kvs := by
  obtain ⟨m, e1, ⟨φ, e2, hφ⟩, e3, e4⟩ := x
  exact ⟨m, e1, ⟨φ, s _ _ e2, hφ⟩, fun x hx => ⟨(e3 x hx).1.mono (s.keep _), (e3 x hx).2⟩, e4⟩
def TK (H : Hp) (t : Tr) (y : V) : Prop := t.At H y [] ∧ t.h ≤ 8
theorem valV_get {m : List (Tr × V × V)} (hn : (m.map (·.1)).Nodup) {j : Nat} {x : Tr × V × V} (e : m[j]? = some x) : valV (m.map fun x => (x.1, x.2.2)) x.1 = some x.2.2 := by
  induction m generalizing j with
  | nil => simp at e
  | cons z m ih =>
    rw [List.map_cons, List.nodup_cons] at hn
    cases j with
    | zero =>
      obtain rfl : z = x := by simpa using e
      exact valV_pos rfl
    | succ j =>
      have e' : m[j]? = some x := by simpa using e
      rw [List.map_cons, valV_neg (fun q => hn.1 (by
        show z.1 ∈ _
        rw [show z.1 = x.1 from q]
        exact List.mem_map_of_mem (List.mem_of_getElem? e')))]
      exact ih hn.2 e'
theorem valV_none {m : List (Tr × V × V)} {t : Tr} (h : ∀ j : Nat, (m.map (·.1))[j]? ≠ some t) : valV (m.map fun x => (x.1, x.2.2)) t = none ∧ t ∉ m.map (·.1) := by
  have hn : t ∉ m.map (·.1) := fun z => by
    obtain ⟨j, hj, e⟩ := List.mem_iff_getElem.mp z
    exact h j (by rw [List.getElem?_eq_getElem hj, e])
  refine ⟨?_, hn⟩
  unfold valV
  rw [List.find?_eq_none.mpr]
  · rfl
  · intro p hp
    obtain ⟨x, hx, rfl⟩ := List.mem_map.mp hp
    simp only [decide_eq_true_iff]
    exact fun z => hn (z ▸ List.mem_map_of_mem hx)
section
variable {X : Cx} {pins : List (Addr × Obj)} {σ : St} {H : Hp} {s : Shared} {a : Addr} {t : Tr} {y v : V} {u r : Value} {A : Around} {E : Value → Shared → Prop} {kvs : List (Tr × V)} {m : List (Tr × V × V)}
theorem dt_ents (I : Inv X pins σ H s) (e2 : DtE X.w.params H a m) (e3 : ∀ x ∈ m, x.1.At H x.2.1 [] ∧ x.1.h ≤ 8) (e4 : (m.map (·.1)).Nodup) :
    ∃ o es ep, s.heap.get? a = some o ∧ o.ExactDict ∧ o.data = .dict es ep ∧ DtR X.w.params m es ∧ Ents X.w.params s.heap es (m.map (·.1)) ∧ m.length ≤ sizeLine ∧ (a == sysModules) = false := by
  obtain ⟨φ, e2, hφ⟩ := e2
  obtain ⟨z1, z2, o, es, ep, q1, q2, q3, q4⟩ := hφ _ (I.hok a _ e2).1
  refine ⟨o, es, ep, q1, q2, q3, q4, ⟨by rw [q4.len, List.length_map], fun j e he => ?_, e4⟩, z1, z2⟩
  have hj : j < m.length := by rw [← q4.len]; exact (Array.getElem?_eq_some_iff.mp he).1
  obtain ⟨e', f1, f2, f3, f4⟩ := q4.at_ j m[j] (List.getElem?_eq_getElem hj)
  rw [he] at f1
  cases f1
  have := e3 m[j] (List.getElem_mem hj)
  exact ⟨m[j].1, by rw [List.getElem?_map, List.getElem?_eq_getElem hj]; rfl, f2, this.1.isIn I f3, this.2⟩
theorem dt_get {Q : Option Value → Shared → Prop} (hu : A.units + 16 < cLine) (I : Inv X pins σ H s) (g : DtAt X.w.params H a kvs) (hk : TK H t y) (ry : RelV y u) (h : ∀ o s', Inv X pins σ H s' → RelO (valV kvs t) o → Q o s') :
    wpAny (model X.prog X.w) A (dictGet a u) Q E s := by
  obtain ⟨m, rfl, e2, e3, e4⟩ := g
  obtain ⟨o, es, ep, q1, q2, q3, q4, q5, _⟩ := dt_ents I e2 e3 e4
  have hin := hk.1.isIn I ry
  unfold dictGet
  try (with_reducible refine wpAny_holding ?_)
  refine wpAny_bind (hin.pyHash (by have := hk.2; omega) fun n => wpAny_bind (find_tr (s := { s with toks := n }) q1 q3 q5 hin hk.2 hu (fun hn => ?_) fun j hj => ?_))
  · refine wpAny_pure (h _ _ (I.tok _) ?_)
    rw [(valV_none hn).1]
    exact True.intro
  · rw [List.getElem?_map] at hj
    obtain ⟨x, hx, rfl⟩ := Option.map_eq_some_iff.mp hj
    obtain ⟨en, f1, f2, f3, f4⟩ := q4.at_ j x hx
    refine wpAny_bind (wpAny_dictEntries (s := { s with toks := n }) q1 q3 ?_)
    rw [f1]
    refine wpAny_pure (h _ _ (I.tok _) ?_)
    rw [valV_get e4 hx]
    exact f4
theorem dtr_snoc {P : Params} {es : Array DictEntry} {e : DictEntry} (x : DtR P m es) (h1 : e.hash = t.hash P) (h2 : RelV y e.key) (h3 : RelV v e.val) : DtR P (m ++ [(t, y, v)]) (es.push e) := by
  refine ⟨by simp [x.len], fun j z hz => ?_⟩
  by_cases hj : j < m.length
  · rw [List.getElem?_append_left hj] at hz
    obtain ⟨e', f1, f2⟩ := x.at_ j z hz
    exact ⟨e', by rw [Array.getElem?_push, if_neg (by rw [x.len]; omega)]; exact f1, f2⟩
  · rw [List.getElem?_append_right (by omega)] at hz
    have hj2 : j - m.length = 0 := by
      refine Nat.eq_zero_of_not_pos fun z => ?_
      rw [List.getElem?_eq_none (by simp; omega)] at hz
      cases hz
    rw [hj2] at hz
    cases hz
    exact ⟨e, by rw [Array.getElem?_push, if_pos (by rw [x.len]; omega)], h1, h2, h3⟩
theorem dtr_put {P : Params} {es : Array DictEntry} {j : Nat} {x : Tr × V × V} (R : DtR P m es) (hn : (m.map (·.1)).Nodup) (hx : m[j]? = some x) (h3 : RelV v r) :
    DtR P (m.map fun z => if z.1 = x.1 then (z.1, z.2.1, v) else z) (es.modify j fun e => { e with val := r }) := by
  refine ⟨by simp [R.len], fun i z hz => ?_⟩
  rw [List.getElem?_map] at hz
  obtain ⟨z0, hz0, rfl⟩ := Option.map_eq_some_iff.mp hz
  obtain ⟨e', f1, f2, f3, f4⟩ := R.at_ i z0 hz0
  have hi : i < es.size := (Array.getElem?_eq_some_iff.mp f1).1
  rw [Array.getElem?_modify, f1]
  by_cases hij : j = i
  · subst hij
    rw [hz0] at hx
    cases hx
    rw [if_pos rfl, if_pos rfl]
    exact ⟨_, rfl, f2, f3, h3⟩
  · rw [if_neg hij, if_neg]
    · exact ⟨_, rfl, f2, f3, f4⟩
    · intro e
      have pw := List.pairwise_iff_getElem.mp hn
      obtain ⟨l1, g1⟩ := List.getElem?_eq_some_iff.mp hx
      obtain ⟨l2, g2⟩ := List.getElem?_eq_some_iff.mp hz0
      rcases Nat.lt_trichotomy j i with h | h | h
      · exact pw j i (by simpa using l1) (by simpa using l2) h (by simp [g1, g2, e])
      · exact hij h
      · exact pw i j (by simpa using l2) (by simpa using l1) h (by simp [g1, g2, e])
theorem dt_set {Q : Unit → Shared → Prop} (hu : A.units + 16 < cLine) (I : Inv X pins σ H s) (e2 : DtE X.w.params H a m) (e3 : ∀ x ∈ m, x.1.At H x.2.1 [] ∧ x.1.h ≤ 8) (e4 : (m.map (·.1)).Nodup) (hz : m.length < sizeLine)
    (hk : TK H t y) (ry : RelV y u) (rv : RelV v r) (h : ∀ s', Inv X pins σ (upd H a (DtO X.w.params a (putM m t y v))) s' → Q () s') :
    wpAny (model X.prog X.w) A (dictSet a u r) Q E s := by
  obtain ⟨o, es, ep, q1, q2, q3, q4, q5, z1, z2⟩ := dt_ents I e2 e3 e4
  have hin := hk.1.isIn I ry
  have hl : (putM m t y v).length ≤ sizeLine := by have := putM_len m t y v; omega
  unfold dictSet
  try (with_reducible refine wpAny_holding ?_)
  refine wpAny_bind (hin.pyHash (by have := hk.2; omega) fun n => ?_)
  unfold dictSetHashed
  try (with_reducible refine wpAny_holding ?_)
  refine wpAny_bind (find_tr (s := { s with toks := n }) q1 q3 q5 hin hk.2 hu (fun hn => ?_) fun j hj => ?_)
  · refine wpAny_bind (wpAny_rule (wpAny_updateDictKeys (s := { s with toks := n }) q1 q3 (h _ (d_write (I.tok n) e2.mut (Heap.SameBut.update ..) ?_ (dto_ok ⟨hl, z2, _, _, ep + 1, Heap.get?_update_self _ q1 (Obj.isFreed_of_dict (Obj.data_mapDictKeys q3 _)), q2.mapDictKeys _, Obj.data_mapDictKeys q3 _, ?_⟩))) (by rw [q4.len]; omega)))
    · exact ⟨_, Heap.get?_update_self _ q1 (Obj.isFreed_of_dict (Obj.data_mapDictKeys q3 _))⟩
    · unfold putM
      rw [if_neg (valV_none hn).2]
      exact dtr_snoc q4 rfl ry rv
  · rw [List.getElem?_map] at hj
    obtain ⟨x, hx, rfl⟩ := Option.map_eq_some_iff.mp hj
    refine wpAny_bind (wpAny_rule (wpAny_bind (wpAny_updateDict (s := { s with toks := n }) q1 q3 (wpAny_point (h _ (d_write (I.tok n) e2.mut (Heap.SameBut.update ..) ?_ (dto_ok ⟨hl, z2, _, _, ep, Heap.get?_update_self _ q1 (Obj.isFreed_of_dict (Obj.data_mapDict q3 _)), q2.mapDict _, Obj.data_mapDict q3 _, ?_⟩)))))))
    · exact ⟨_, Heap.get?_update_self _ q1 (Obj.isFreed_of_dict (Obj.data_mapDict q3 _))⟩
    · unfold putM
      rw [if_pos (List.mem_map_of_mem (List.mem_of_getElem? hx))]
      exact dtr_put q4 e4 hx rv
end
end L2
namespace L2
open PySem PySem.Spec PyProof.Rows
def RawD (h : Heap) (d : Addr) (es : Array DictEntry) (ep : Nat) : Prop := ∃ o, h.get? d = some o ∧ o.ExactDict ∧ o.data = .dict es ep
theorem RawD.ty {s : Shared} {d : Addr} {es : Array DictEntry} {ep : Nat} (x : RawD s.heap d es ep) : s.TypeIs (.ref d) "dict" := let ⟨o, e, c, _⟩ := x; ⟨o, e, c.1⟩
section
variable {prog : Program} {w : World} {A : Around} {E : Value → Shared → Prop} {s : Shared} {d it : Addr} {es : Array DictEntry} {ep i : Nat}
end
section
variable {X : Cx} {pins : List (Addr × Obj)} {σ : St} {H : Hp} {s : Shared} {a : Addr} {t : Tr} {y v z : V} {u r : Value} {A : Around} {E : Value → Shared → Prop} {kvs : List (Tr × V)} {m : List (Tr × V × V)}
theorem dt_raw (I : Inv X pins σ H s) (g : DtAt X.w.params H a kvs) : ∃ es ep, RawD s.heap a es ep ∧ (a == sysModules) = false ∧ es.size = kvs.length ∧ kvs.length ≤ sizeLine := by
  obtain ⟨m, rfl, e2, e3, e4⟩ := g
  obtain ⟨o, es, ep, q1, q2, q3, q4, q5, z1, z2⟩ := dt_ents I e2 e3 e4
  exact ⟨es, ep, ⟨o, q1, q2, q3⟩, z2, by rw [q4.len, List.length_map], by rw [List.length_map]; exact z1⟩
theorem dt_getItem {Q : Value → Shared → Prop} (hu : A.units + 20 < cLine) (I : Inv X pins σ H s) (g : DtAt X.w.params H a kvs) (hk : TK H t y) (ry : RelV y u) (hv : valV kvs t = some v) (h : ∀ w' s', Inv X pins σ H s' → RelV v w' → Q w' s') :
    wpAny (model X.prog X.w) A (getItem (.ref a) u) Q E s := by
  obtain ⟨_, _, x, _, _, _⟩ := dt_raw I g
  have T := x.ty
  unfold getItem
  try (with_reducible refine wpAny_holding ?_)
  refine wpAny_bind (wpAny_sequenceKey T (by decide) (wpAny_bind (wpAny_callSpecial?_slot (name := Str.ofString "__getitem__") T slot_dict_getitem (wpAny_call_entry slot_dict_getitem T entry_dict_getitem ?_ (args_dict_getitem _ _)))))
  show wpAny _ A.in1 (dictGet a u >>= _) _ _ s
  refine wpAny_bind (dt_get (by rw [in1_units]; omega) I g hk ry fun o s' I' ro => ?_)
  rw [hv] at ro
  obtain ⟨w', rfl, rw'⟩ := ro.some_of
  exact wpAny_pure ⟨w', rfl, wpAny_pure (h w' s' I' rw')⟩
theorem dt_contains {Q : Bool → Shared → Prop} (hu : A.units + 20 < cLine) (I : Inv X pins σ H s) (g : DtAt X.w.params H a kvs) (hk : TK H t y) (ry : RelV y u) (h : ∀ s', Inv X pins σ H s' → Q (valV kvs t).isSome s') :
    wpAny (model X.prog X.w) A (contains (.ref a) u) Q E s := by
  obtain ⟨_, _, x, lo, _, _⟩ := dt_raw I g
  have T := x.ty
  unfold contains
  try (with_reducible refine wpAny_holding ?_)
  refine wpAny_bind (wpAny_specialOf T slot_dict_contains.lookup ?_)
  show wpAny _ A (if (some (Value.builtin "dict.__contains__") == some Value.none) = true then _ else _) _ E s
  rw [if_neg (by rw [beq_builtin_none]; simp)]
  refine wpAny_bind (wpAny_callSpecialUnlessNone?_slot (name := Str.ofString "__contains__") T slot_dict_contains (wpAny_call_entry slot_dict_contains T entry_dict_contains ?_ (args_dict_contains _ _)))
  show wpAny _ A.in1 (dictGet a u >>= _) _ _ s
  refine wpAny_bind (dt_get (by rw [in1_units]; omega) I g hk ry fun o s' I' ro => ?_)
  have h := h s' I'
  rw [ro.isSome_eq] at h
  cases o with
  | some w' => exact (show wpAny _ _ (ret (.bool true)) _ _ _ from wpAny_pure ⟨_, rfl, wpAny_truthy_bool h⟩)
  | none => exact (show wpAny _ _ (Builtin.Dict.pendingKey? a u >>= _) _ _ _ from wpAny_bind (wpAny_pendingKey_other lo (wpAny_pure ⟨_, rfl, wpAny_truthy_bool h⟩)))
theorem dt_in {Q : Value → Shared → Prop} (hu : A.units + 20 < cLine) (I : Inv X pins σ H s) (g : DtAt X.w.params H a kvs) (hk : TK H t y) (ry : RelV y u) (h : ∀ s', Inv X pins σ H s' → Q (.bool (valV kvs t).isSome) s') :
    wpAny (model X.prog X.w) A (compareOp .In u (.ref a)) Q E s :=
  (show wpAny _ _ (do return .bool (← contains (.ref a) u)) Q E s from wpAny_bind (dt_contains hu I g hk ry fun s' I' => wpAny_pure (h s' I')))
theorem dt_notIn {Q : Value → Shared → Prop} (hu : A.units + 20 < cLine) (I : Inv X pins σ H s) (g : DtAt X.w.params H a kvs) (hk : TK H t y) (ry : RelV y u) (h : ∀ s', Inv X pins σ H s' → Q (.bool (!(valV kvs t).isSome)) s') :
    wpAny (model X.prog X.w) A (compareOp .NotIn u (.ref a)) Q E s :=
  (show wpAny _ _ (do return .bool (!(← contains (.ref a) u))) Q E s from wpAny_bind (dt_contains hu I g hk ry fun s' I' => wpAny_pure (h s' I')))
theorem dt_setItem {Q : Unit → Shared → Prop} (hu : A.units + 20 < cLine) (I : Inv X pins σ H s) (e2 : DtE X.w.params H a m) (e3 : ∀ x ∈ m, x.1.At H x.2.1 [] ∧ x.1.h ≤ 8) (e4 : (m.map (·.1)).Nodup) (hz : m.length < sizeLine)
    (hk : TK H t y) (ry : RelV y u) (rv : RelV v r) (h : ∀ s', Inv X pins σ (upd H a (DtO X.w.params a (putM m t y v))) s' → Q () s') : wpAny (model X.prog X.w) A (setItem (.ref a) u r) Q E s := by
  obtain ⟨_, _, x, lo, _, _⟩ := dt_raw I ⟨m, rfl, e2, e3, e4⟩
  have T := x.ty
  unfold setItem
  try (with_reducible refine wpAny_holding ?_)
  refine wpAny_bind (wpAny_sequenceKey T (by decide) (wpAny_bind (wpAny_callSpecial?_slot (name := Str.ofString "__setitem__") T slot_dict_setitem (wpAny_call_entry slot_dict_setitem T entry_dict_setitem ?_ (args_dict_setitem _ _ _)))))
  show wpAny _ A.in1 (Builtin.Dict.notOrdered "__setitem__" ⟨[.ref a, u, r], []⟩ >>= _) _ _ s
  refine wpAny_bind (wpAny_notOrdered_dict T ?_)
  show wpAny _ A.in1 (dictSet a u r >>= _) _ _ s
  exact wpAny_bind (dt_set (by rw [in1_units]; omega) I e2 e3 e4 hz hk ry rv fun s' I' => wpAny_pure ⟨.none, rfl, wpAny_pure (h s' I')⟩)
theorem dt_getD {Q : Value → Shared → Prop} (hu : A.units + 20 < cLine) (I : Inv X pins σ H s) (g : DtAt X.w.params H a kvs) (hk : TK H t y) (ry : RelV y u) (rz : RelV z r) (h : ∀ w' s', Inv X pins σ H s' → RelV ((valV kvs t).getD z) w' → Q w' s') :
    wpAny (model X.prog X.w) A (call (.builtin "dict.get") [.ref a, u, r]) Q E s := by
  obtain ⟨_, _, x, lo, _, _⟩ := dt_raw I g
  refine wpAny_call_entry PySem.F.slot_dict_get x.ty PySem.F.entry_dict_get ?_ (PySem.F.args_dict_get_3 _ _ _)
  show wpAny _ A.in1 (dictGet a u >>= _) _ _ s
  refine wpAny_bind (dt_get (by rw [in1_units]; omega) I g hk ry fun o s' I' ro => ?_)
  have h := h (o.getD r) s' I' (ro.getD rz)
  cases o with
  | some w' => exact wpAny_pure ⟨w', rfl, h⟩
  | none => exact (show wpAny _ _ (Builtin.Dict.missed a u >>= _) _ _ _ from wpAny_bind (wpAny_missed_other lo (wpAny_pure ⟨r, rfl, h⟩)))
end
end L2
namespace L2
open PySem PySem.Spec PyProof.Rows
theorem tups_updE {H : Hp} {a : Addr} {φ : Heap → Prop} {o : HO} (h : H a = some (.ext φ)) : Tups H (upd H a o) := fun b ys e => by rw [upd_ne (ne_of e h (fun z => nomatch z))]; exact e
theorem tr_tups {H H' : Hp} {t : Tr} {v : V} (h : t.At H v []) (k : Tups H H') : t.At H' v [] := h.mono ⟨k, fun _ m => absurd m (by simp)⟩
theorem DtAt.ext {P : Params} {H : Hp} {a : Addr} {kvs : List (Tr × V)} (g : DtAt P H a kvs) : ∃ φ, H a = some (.ext φ) := let ⟨_, _, ⟨φ, e, _⟩, _⟩ := g; ⟨φ, e⟩
theorem DtAt.mono {P : Params} {H H' : Hp} {a : Addr} {kvs : List (Tr × V)} (g : DtAt P H a kvs) (k : Tups H H') (e : H' a = H a) : DtAt P H' a kvs := by
  obtain ⟨m, e1, ⟨φ, e2, hφ⟩, e3, e4⟩ := g
  exact ⟨m, e1, ⟨φ, e.trans e2, hφ⟩, fun x hx => ⟨tr_tups (e3 x hx).1 k, (e3 x hx).2⟩, e4⟩
theorem dt_putM {P : Params} {H : Hp} {a : Addr} {m : List (Tr × V × V)} {t : Tr} {y v : V} (e2 : DtE P H a m) (e3 : ∀ x ∈ m, x.1.At H x.2.1 [] ∧ x.1.h ≤ 8) (e4 : (m.map (·.1)).Nodup) (hk : TK H t y) :
    DtAt P (upd H a (DtO P a (putM m t y v))) a (putK (m.map fun x => (x.1, x.2.2)) t v) := by
  obtain ⟨φ, e2, hφ⟩ := e2
  refine ⟨_, putM_kvs m t y v, .of upd_same, ?_, putM_nd t y v e4⟩
  exact putM_all (p := fun t y => t.At (upd H a (DtO P a (putM m _ _ _))) y [] ∧ t.h ≤ 8) (fun x hx => ⟨tr_tups (e3 x hx).1 (tups_updE e2), (e3 x hx).2⟩) ⟨tr_tups hk.1 (tups_updE e2), hk.2⟩
def tTNew (P : Params) : TE := fun _ H Q => ∀ p o, H p = none → DtAt P (upd H p o) p [] → Q (.ref p) (upd H p o)
def tTGet (P : Params) (td ty : TE) : TE := fun σ H Q => td σ H fun x H1 => ty σ H1 fun y H2 => ∃ a kvs t v, x = .ref a ∧ DtAt P H2 a kvs ∧ TK H2 t y ∧ valV kvs t = some v ∧ Q v H2
def tTIn (P : Params) (ty td : TE) : TE := fun σ H Q => ty σ H fun y H1 => td σ H1 fun x H2 => ∃ a kvs t, x = .ref a ∧ DtAt P H2 a kvs ∧ TK H2 t y ∧ Q (.bl (valV kvs t).isSome) H2
def tTNotIn (P : Params) (ty td : TE) : TE := fun σ H Q => ty σ H fun y H1 => td σ H1 fun x H2 => ∃ a kvs t, x = .ref a ∧ DtAt P H2 a kvs ∧ TK H2 t y ∧ Q (.bl (!(valV kvs t).isSome)) H2
def sTPut (P : Params) (td ty tv : TE) : TS := fun D σ H => tv σ H fun v H1 => td σ H1 fun x H2 => ty σ H2 fun y H3 => ∃ a kvs t, x = .ref a ∧ DtAt P H3 a kvs ∧ TK H3 t y ∧ kvs.length < sizeLine ∧ ∀ o, DtAt P (upd H3 a o) a (putK kvs t v) → D.nx σ (upd H3 a o)
def tTGet2 (P : Params) (td ty tx : TE) : TE := fun σ H Q => td σ H fun x H1 => ∃ a kvs, x = .ref a ∧ DtAt P H1 a kvs ∧ ty σ H1 fun y H2 => tx σ H2 fun z H3 => ∃ kvs' t, DtAt P H3 a kvs' ∧ TK H3 t y ∧ Q ((valV kvs' t).getD z) H3
section
variable {X : Cx} {o i e f value : Expr} {pos pos' apos cpos : Pos} {td ty tv tx : TE} {P : Params}
theorem dt_new0 (h : Heap) (P : Params) (hb : sysModules < h.objs.size) : DtP P h.objs.size [] (h.push { cls := .type "dict", data := .dict #[] }) :=
  ⟨Nat.zero_le _, beq_eq_false_iff_ne.mpr (Ne.symm (Nat.ne_of_lt hb)), _, #[], 0, Heap.get?_push_size _ rfl, ⟨rfl, rfl, rfl⟩, rfl, rfl, fun j x hx => by simp at hx⟩
theorem pe_tnew (P : Params) : PE X (.Dict [] [] pos) (tTNew P) := fun pins s σ H Q I h =>
  wpAny_Dict_empty ⟨.ref s.heap.objs.size, _, I.laid (a := s.heap.objs.size) (o := DtO P s.heap.objs.size []) (t' := s.toks) (fun _ _ q => Heap.get?_push_of_some _ q) (Nat.le_refl _) (dto_ok (dt_new0 s.heap P I.big)), rfl,
    h _ _ (I.hok.fresh (Nat.le_refl _)) ⟨[], rfl, .of upd_same, fun x hx => absurd hx (by simp), List.nodup_nil⟩⟩
theorem pe_tget (hP : X.w.params = P) (hu : X.A.units + 64 < cLine) (ho : PE X o td) (hi : PE X i ty) (hs : NoSl i) : PE X (.Subscript o i pos) (tTGet P td ty) := by
  subst hP
  intro pins s σ H Q I h
  refine subD_of PySem.F.slot_dict_getitem.lookup hs (thn (ho pins s σ H _ I h) fun u s1 ⟨x, H1, I1, rx, q1⟩ => thn (hi pins s1 σ H1 _ I1 q1) fun iv s2 ⟨y, H2, I2, ry, a, kvs, t, v, ex, g, hk, hv, q2⟩ => ?_)
  subst ex
  obtain rfl : u = Value.ref a := rx
  obtain ⟨_, _, x, _⟩ := dt_raw I2 g
  exact ⟨x.ty, dt_getItem (by omega) I2 g hk ry hv fun w' s3 I3 rw' => ⟨v, H2, I3, rw', q2⟩⟩
theorem pc_tin (hP : X.w.params = P) (hu : X.A.units + 64 < cLine) (hi : PE X i ty) (ho : PE X o td) : PC X .In i o (tTIn P ty td) := by
  subst hP
  intro pins s σ H Q I h
  refine thn (hi pins s σ H _ I h) fun iv s1 ⟨y, H1, I1, ry, q1⟩ => thn (ho pins s1 σ H1 _ I1 q1) fun u s2 ⟨x, H2, I2, rx, a, kvs, t, ex, g, hk, q2⟩ => ?_
  subst ex
  obtain rfl : u = Value.ref a := rx
  exact dt_in (by omega) I2 g hk ry fun s3 I3 => ⟨.bl _, H2, I3, rfl, q2⟩
theorem pc_tnotin (hP : X.w.params = P) (hu : X.A.units + 64 < cLine) (hi : PE X i ty) (ho : PE X o td) : PC X .NotIn i o (tTNotIn P ty td) := by
  subst hP
  intro pins s σ H Q I h
  refine thn (hi pins s σ H _ I h) fun iv s1 ⟨y, H1, I1, ry, q1⟩ => thn (ho pins s1 σ H1 _ I1 q1) fun u s2 ⟨x, H2, I2, rx, a, kvs, t, ex, g, hk, q2⟩ => ?_
  subst ex
  obtain rfl : u = Value.ref a := rx
  exact dt_notIn (by omega) I2 g hk ry fun s3 I3 => ⟨.bl _, H2, I3, rfl, q2⟩
theorem ps_tput (hP : X.w.params = P) (hu : X.A.units + 64 < cLine) (ho : PE X o td) (hi : PE X i ty) (hv : PE X value tv) (hs : swapsWith value (some (.Subscript o i pos')) pos.line X.env = pure false) :
    PS X (.Assign [.Subscript o i pos'] value pos) (sTPut P td ty tv) := by
  subst hP
  intro pins s σ H D I h
  refine wpAny_Assign_Subscript (thn (hv pins s σ H _ I h) fun r s1 ⟨v, H1, I1, rv, q1⟩ => thn (ho pins s1 σ H1 _ I1 q1) fun u s2 ⟨x, H2, I2, rx, q2⟩ => thn (hi pins s2 σ H2 _ I2 q2) fun iv s3 ⟨y, H3, I3, ry, a, kvs, t, ex, g, hk, hz, q3⟩ => ?_) hs
  subst ex
  obtain rfl : u = Value.ref a := rx
  obtain ⟨m, rfl, e2, e3, e4⟩ := g
  rw [List.length_map] at hz
  exact dt_setItem (by omega) I3 e2 e3 e4 hz hk ry rv fun s4 I4 => ⟨σ, _, I4, q3 _ (dt_putM e2 e3 e4 hk)⟩
theorem pe_tget2 (hP : X.w.params = P) (hu : X.A.units + 64 < cLine) (ho : PE X o td) (he : PE X e ty) (hf : PE X f tx) (m : M2 X o "get" apos e f cpos) : PE X (.Call (.Attribute o "get" apos) [e, f] [] cpos) (tTGet2 P td ty tx) := by
  subst hP
  intro pins s σ H Q I h
  refine wpAny_Call_method m.base m.few m.line PySem.F.plainAttrs_dict PySem.F.slot_dict_get PySem.F.type_dict_get (thn (ho pins s σ H _ I h) fun u s1 ⟨x, H1, I1, rx, a, kvs, ex, g1, q1⟩ => ?_)
  subst ex
  obtain rfl : u = Value.ref a := rx
  obtain ⟨es, ep, x, _⟩ := dt_raw I1 g1
  refine ⟨x.ty, (fun b q => by cases q; obtain ⟨ob, h1, h2, _⟩ := x; exact ⟨ob, h1, h2.2.1⟩), ?_⟩
  rw [m.trees]
  refine Calls.callWith_builtin rfl (Calls.evalArgs_plain (Calls.spliced_cons (thn (he pins s1 σ H1 _ I1 q1) fun iv s2 ⟨y, H2, I2, ry, q2⟩ => Calls.spliced_cons (thn (hf pins s2 σ H2 _ I2 q2) fun fv s3 ⟨z, H3, I3, rz, kvs', t, g, hk, q3⟩ => Calls.spliced_nil ?_))))
  exact dt_getD (by omega) I3 g hk ry rz fun w' s4 I4 rw' => ⟨_, H3, I4, rw', q3⟩
end
def rNotInF (K : PySem.W.Frag) : R2 := fun x y H Q => ∃ (t : Tr) (ts : List Tr) (a : Addr) (vs : List V), t.At H x [] ∧ y = .ref a ∧ SqL K H a vs ∧ Tr.Ats H ts vs [] ∧ t.h ≤ 20 ∧ Tr.hs ts ≤ 20 ∧ Q (.bl (!decide (t ∈ ts))) H
def rSum (K : PySem.W.Frag) : List V → Hp → VK → Prop := fun xs H Q => ∃ (a : Addr) (ns : List Int), xs = [.ref a] ∧ SqL K H a (ns.map V.int) ∧ Q (.int ns.sum) H
section
variable {X : Cx}
theorem hs_mem {ts : List Tr} {t : Tr} (h : t ∈ ts) : t.h ≤ Tr.hs ts := by
  induction ts with
  | nil => cases h
  | cons x xs ih =>
    simp only [Tr.hs]
    rcases List.mem_cons.mp h with rfl | h
    · omega
    · have := ih h; omega
theorem ins_mem {h : Heap} {ts : List Tr} {us : List Value} (x : Tr.Ins h ts us) {z : Value} (hz : z ∈ us) : ∃ t ∈ ts, Tr.In h t z := by
  obtain ⟨j, hj, rfl⟩ := List.mem_iff_getElem.mp hz
  have hj' : j < ts.length := by rw [← x.len]; exact hj
  exact ⟨ts[j], List.getElem_mem hj', x.get j hj hj'⟩
theorem kop_notInF (K : PySem.W.Frag) (hu : X.A.units + 64 < cLine) (hK : X.K = K := by rfl) : OpR X (compareOp .NotIn) (rNotInF K) := by
  classical
  subst hK
  intro pins s σ H x y v u Q I rx ry h
  obtain ⟨t, ts, a, vs, h1, rfl, h2, h3, l1, l2, q⟩ := h
  cases ry
  obtain ⟨its, v1, p1, _⟩ := I.list h2
  have hin := h1.isIn I rx
  have his := h3.isIns I v1
  refine SeqAt.notIn_listAt (fun z => decide (∃ r, Tr.In s.heap r z ∧ r = t)) p1.isList (fun z hz => ?_) ?_
  · obtain ⟨r, hr, hz'⟩ := ins_mem his (by simpa using hz)
    have := hz'.eqAt hin (A := X.A.in1) (by have := hs_mem hr; rw [in1_units]; omega)
    rw [show decide (∃ q, Tr.In s.heap q z ∧ q = t) = decide (r = t) from Bool.eq_iff_iff.mpr (by
      simp only [decide_eq_true_iff]
      exact ⟨fun ⟨q, a, b⟩ => (hz'.inj a).trans b, fun e => ⟨r, hz', e⟩⟩)]
    exact this
  · refine ⟨.bl (!decide (t ∈ ts)), H, I, ?_, q⟩
    rw [show its.toArray.any (fun z => decide (∃ r, Tr.In s.heap r z ∧ r = t)) = decide (t ∈ ts) from ?_]
    · rfl
    rw [← Array.any_toList, Bool.eq_iff_iff, List.any_eq_true, decide_eq_true_iff]
    constructor
    · rintro ⟨z, hz, e⟩
      obtain ⟨r, hr, rfl⟩ := of_decide_eq_true e
      obtain ⟨r', hm, hr'⟩ := ins_mem his (by simpa using hz)
      exact hr'.inj hr ▸ hm
    · intro hm
      obtain ⟨j, hj, rfl⟩ := List.mem_iff_getElem.mp hm
      have hj' : j < its.length := by rw [his.len]; exact hj
      exact ⟨its[j], by simp, decide_eq_true ⟨_, his.get j hj' hj, rfl⟩⟩
theorem cl_sum (hc : X.calm = true) : CallR X (.builtin "sum") (rSum X.K) := by
  intro pins s σ H xs us Q I r h
  obtain ⟨a, ns, rfl, hS, q⟩ := h
  cases r with
  | cons r1 r2 =>
  cases r2
  cases r1
  obtain ⟨its, v1, p1, _⟩ := I.list hS
  have hi := intsAre_of v1
  obtain ⟨ys, e⟩ := hi.allInts.items
  have hn := nums_intItems (xs := ys)
  rw [← e, show its.toArray.toList = its from rfl, hi.numsOf] at hn
  refine sum_intListG (xs := ys) (I.ok.hd hc) (e ▸ p1.isList) fun h' tk t' hk => ⟨.int ns.sum, H, I.kept hk, ⟨t', ?_⟩, q⟩
  rw [preSum_eq, List.take_of_length_le (by simp), hn]
end
end L2
namespace L2
open PySem PySem.Spec PyProof.Rows
section
variable {P : Params} {σ : St} {H : Hp} {Q : VK} {td ty tx tv : TE} {nn bb cc : St → Hp → Prop} {rr : VK}
theorem i_tnew (h : ∀ p o, H p = none → DtAt P (upd H p o) p [] → Q (.ref p) (upd H p o)) : tTNew P σ H Q := h
theorem i_tget (h : td σ H fun x H1 => ty σ H1 fun y H2 => ∃ a kvs t v, x = .ref a ∧ DtAt P H2 a kvs ∧ TK H2 t y ∧ valV kvs t = some v ∧ Q v H2) : tTGet P td ty σ H Q := h
theorem i_tin (h : ty σ H fun y H1 => td σ H1 fun x H2 => ∃ a kvs t, x = .ref a ∧ DtAt P H2 a kvs ∧ TK H2 t y ∧ Q (.bl (valV kvs t).isSome) H2) : tTIn P ty td σ H Q := h
theorem i_tnotin (h : ty σ H fun y H1 => td σ H1 fun x H2 => ∃ a kvs t, x = .ref a ∧ DtAt P H2 a kvs ∧ TK H2 t y ∧ Q (.bl (!(valV kvs t).isSome)) H2) : tTNotIn P ty td σ H Q := h
theorem i_tput (h : tv σ H fun v H1 => td σ H1 fun x H2 => ty σ H2 fun y H3 => ∃ a kvs t, x = .ref a ∧ DtAt P H3 a kvs ∧ TK H3 t y ∧ kvs.length < sizeLine ∧ ∀ o, DtAt P (upd H3 a o) a (putK kvs t v) → nn σ (upd H3 a o)) : sTPut P td ty tv ⟨nn, rr, bb, cc⟩ σ H := h
theorem i_tget2 (h : td σ H fun x H1 => ∃ a kvs, x = .ref a ∧ DtAt P H1 a kvs ∧ ty σ H1 fun y H2 => tx σ H2 fun z H3 => ∃ kvs' t, DtAt P H3 a kvs' ∧ TK H3 t y ∧ Q ((valV kvs' t).getD z) H3) : tTGet2 P td ty tx σ H Q := h
end
def rNeNil (K : PySem.W.Frag) : R2 := fun x y H Q => ∃ a b xs, x = .ref a ∧ y = .ref b ∧ SqL K H a xs ∧ SqL K H b [] ∧ Q (.bl (!xs.isEmpty)) H
section
variable {X : Cx}
theorem kop_neNil (K : PySem.W.Frag) (hu : X.A.units + 64 < cLine) (hK : X.K = K := by rfl) : OpR X (compareOp .NotEq) (rNeNil K) := by
  subst hK
  intro pins s σ H x y v u Q I rx ry h
  obtain ⟨a, b, xs, rfl, rfl, h1, h2, q⟩ := h
  cases rx
  cases ry
  obtain ⟨is1, q1, p1, _⟩ := I.list h1
  obtain ⟨is2, q2, p2, _⟩ := I.list h2
  cases q2
  cases q1 with
  | nil =>
    have := SeqAt.RcNeAt.lists (A := X.A) (s := s) (e := fun _ => true) p1.isList p2.isList rfl (by omega) (fun j h1 _ => absurd h1 (by simp))
    exact this X.prog X.w X.xe (EP X pins σ Q) ⟨.bl false, H, I, rfl, q⟩
  | cons r1 r2 =>
    have := SeqAt.RcNeAt.lists_lengths (A := X.A) (s := s) p1.isList p2.isList (by simp) (by omega)
    exact this X.prog X.w X.xe (EP X pins σ Q) ⟨.bl true, H, I, rfl, q⟩
theorem kcl_sum (K : PySem.W.Frag) (h : X.calm = true := by rfl) (hK : X.K = K := by rfl) : CallR X (.builtin "sum") (rSum K) := hK ▸ cl_sum h
end
section
variable {K : PySem.W.Frag} {H : Hp} {Q : VK}
theorem i_neNil {a b : Addr} {xs : List V} (h1 : SqL K H a xs) (h2 : SqL K H b []) (h : Q (.bl (!xs.isEmpty)) H) : rNeNil K (.ref a) (.ref b) H Q := ⟨a, b, xs, rfl, rfl, h1, h2, h⟩
theorem i_sum {a : Addr} {ns : List Int} (h1 : SqL K H a (ns.map V.int)) (h : Q (.int ns.sum) H) : rSum K [.ref a] H Q := ⟨a, ns, rfl, h1, h⟩
theorem i_notInF {x : V} {a : Addr} {t : Tr} {ts : List Tr} {vs : List V} (h1 : t.At H x []) (h2 : SqL K H a vs) (h3 : Tr.Ats H ts vs []) (l1 : t.h ≤ 20) (l2 : Tr.hs ts ≤ 20) (h : Q (.bl (!decide (t ∈ ts))) H) : rNotInF K x (.ref a) H Q := ⟨t, ts, a, vs, h1, rfl, h2, h3, l1, l2, h⟩
end
end L2
namespace L2
open PySem PySem.Spec PyProof.Rows
def Off (d l : Addr) (H H' : Hp) : Prop := ∀ b o, b ≠ d → b ≠ l → H b = some o → H' b = some o
structure Deck (H : Hp) (d l : Addr) (n : Nat) : Prop where
  ex : ∃ (ms : List Int) (z : Int), H d = some (.lst [.ref l, .int (n : Nat), .int z]) ∧ H l = some (.lst (ms.map V.int)) ∧ ms.length ≤ 100
theorem Deck.ne {H : Hp} {d l : Addr} {n : Nat} (k : Deck H d l n) : d ≠ l := by
  obtain ⟨ms, z, h1, h2, _⟩ := k.ex
  rintro rfl
  rw [h1] at h2
  injection h2 with h2
  injection h2 with h2
  cases ms with
  | nil => simp at h2
  | cons m ms => simp at h2
theorem Off.refl {d l : Addr} {H : Hp} : Off d l H H := fun _ _ _ _ e => e
theorem Off.trans {d l : Addr} {H H1 H2 : Hp} (a : Off d l H H1) (b : Off d l H1 H2) : Off d l H H2 := fun c o h1 h2 e => b c o h1 h2 (a c o h1 h2 e)
theorem Same.off {d l : Addr} {H H' : Hp} (s : Same H H') : Off d l H H' := fun b o _ _ e => s b o e
theorem Off.tups {d l : Addr} {H H' : Hp} {n : Nat} (f : Off d l H H') (k : Deck H d l n) : Tups H H' := fun b ys e => by
  obtain ⟨ms, z, h1, h2, _⟩ := k.ex
  exact f b _ (ne_of e h1 (fun z => nomatch z)) (ne_of e h2 (fun z => nomatch z)) e
theorem Deck.same {H H' : Hp} {d l : Addr} {n : Nat} (k : Deck H d l n) (s : Same H H') : Deck H' d l n := by
  obtain ⟨ms, z, h1, h2, h3⟩ := k.ex
  exact ⟨ms, z, s _ _ h1, s _ _ h2, h3⟩
theorem Deck.new {H : Hp} {d l p : Addr} {n : Nat} (k : Deck H d l n) (h : H p = none) : p ≠ d ∧ p ≠ l := by
  obtain ⟨ms, z, h1, h2, _⟩ := k.ex
  exact ⟨(ne_of_none h1 h).symm, (ne_of_none h2 h).symm⟩
theorem Off.free {d l p : Addr} {H H' : Hp} {n : Nat} (f : Off d l H H') (k : Deck H' d l n) (h : H' p = none) : H p = none := by
  obtain ⟨x1, x2⟩ := k.new h
  cases e : H p with
  | none => rfl
  | some o => rw [f p o x1 x2 e] at h; cases h
end L2
namespace L2
open PySem PySem.Spec PyProof.Rows
section
variable {X : Cx} {o e value : Expr} {f : Str} {pos pos' : Pos} {ta tv : TE}
theorem kpe_fld (K : PySem.W.Frag) (he : PE X e ta) (hb : attributeBase e f X.env (eval e X.env) = eval e X.env) (hK : X.K = K := by rfl) : PE X (.Attribute e f pos) (tFld K ta f) := hK ▸ pe_fld he hb
theorem kps_fld (K : PySem.W.Frag) (ha : PE X o ta) (hv : PE X value tv) (hs : swapsWith value (some (.Attribute o f pos')) pos.line X.env = pure false) (hK : X.K = K := by rfl) : PS X (.Assign [.Attribute o f pos'] value pos) (sFld K ta tv f) := hK ▸ ps_fld ha hv hs
end
section
variable {K : PySem.W.Frag} {σ : St} {H : Hp} {Q : VK} {ta tv : TE} {t : TA} {f m : Str} {C : Addr} {sp : Sp} {dvs : List V} {E : XK} {nn bb cc : St → Hp → Prop} {rr : VK}
theorem i_fld (h : ta σ H fun x H1 => ∃ a C dx fs v, x = .ref a ∧ H1 a = some (.ins C dx fs) ∧ Cls K C ∧ NoAttr K C f ∧ fs.lookup f = some v ∧ Q v H1) : tFld K ta f σ H Q := h
theorem i_sfld (h : tv σ H fun y H1 => ta σ H1 fun x H2 => ∃ a C dx fs, x = .ref a ∧ H2 a = some (.ins C dx fs) ∧ Cls K C ∧ NoAttr K C f ∧ fs.length < 1000 ∧ nn σ (upd H2 a (.ins C dx (putF f y fs)))) : sFld K ta tv f ⟨nn, rr, bb, cc⟩ σ H := h
theorem i_meth (h : ta σ H fun x H1 => ∃ a dx fs, x = .ref a ∧ H1 a = some (.ins C dx fs) ∧ fs.lookup m = none ∧ t σ H1 fun vs H2 => sp (x :: (vs ++ dvs)) H2 Q E) : tMeth C m sp dvs E ta t σ H Q := h
theorem i_make (h : t σ H fun vs H1 => ∀ x dx, H1 x = none → H1 dx = none → dx ≠ x → sp (.ref x :: (vs ++ dvs)) (upd (upd H1 dx (.own x)) x (.ins C dx [])) (fun v H2 => v = .non ∧ Q (.ref x) H2) E) : tMake C sp dvs E t σ H Q := h
end
end L2
namespace L2
open PySem PySem.Spec PyProof.Rows
inductive Tw where
  | sc (v : V)
  | tup (xs : List Tw)
  | lst (xs : List Tw)
def Scal : V → Prop
  | .non | .int _ | .str _ | .bl _ => True
  | _ => False
mutual
def Tw.At (H : Hp) : Tw → V → List Addr → Prop
  | .sc x, v, fs => v = x ∧ Scal x ∧ fs = []
  | .tup xs, v, fs => ∃ a vs, v = .ref a ∧ H a = some (.tup vs) ∧ Tw.Ats H xs vs fs
  | .lst xs, v, fs => ∃ a vs gs, v = .ref a ∧ H a = some (.lst vs) ∧ Tw.Ats H xs vs gs ∧ fs = a :: gs
def Tw.Ats (H : Hp) : List Tw → List V → List Addr → Prop
  | [], vs, fs => vs = [] ∧ fs = []
  | x :: xs, vs, fs => ∃ v ws f g, vs = v :: ws ∧ fs = f ++ g ∧ Tw.At H x v f ∧ Tw.Ats H xs ws g
end
theorem Tw.Ats.len {H : Hp} : ∀ {xs : List Tw} {vs : List V} {fs : List Addr}, Tw.Ats H xs vs fs → vs.length = xs.length
  | [], vs, fs, h => by simp only [Tw.Ats] at h; rw [h.1]; rfl
  | x :: xs, vs, fs, h => by
    simp only [Tw.Ats] at h
    obtain ⟨v, ws, f, g, rfl, rfl, _, b⟩ := h
    simp [b.len]
mutual
def Tw.h : Tw → Nat
  | .sc _ => 0
  | .tup xs => Tw.hs xs + 1
  | .lst xs => Tw.hs xs + 1
def Tw.hs : List Tw → Nat
  | [] => 0
  | x :: xs => max x.h (Tw.hs xs)
end
theorem scal_eq {A : Around} {s : Shared} {x : V} {u z : Value} (h : Scal x) (r1 : RelV x u) (r2 : RelV x z) : SeqAt.EqAt A s u z true := by
  cases x with
  | non => cases r1; cases r2; exact SeqAt.EqAt.same _
  | int i =>
    obtain ⟨t1, rfl⟩ := r1
    obtain ⟨t2, rfl⟩ := r2
    have := SeqAt.EqAt.int_int (A := A) (s := s) i t1 i t2
    simpa using this
  | str i =>
    obtain ⟨t1, rfl⟩ := r1
    obtain ⟨t2, rfl⟩ := r2
    have := SeqAt.EqAt.str_str (A := A) (s := s) i t1 i t2
    simpa using this
  | bl b =>
    cases (show u = Value.bool b from r1)
    cases (show z = Value.bool b from r2)
    exact SeqAt.EqAt.same _
  | _ => exact h.elim
section
variable {X : Cx} {pins : List (Addr × Obj)} {σ : St} {H : Hp} {s : Shared}
mutual
theorem Tw.eqAt (I : Inv X pins σ H s) : ∀ {t : Tw} {A : Around} {v w : V} {fs gs : List Addr} {u z : Value}, t.At H v fs → t.At H w gs → RelV v u → RelV w z → A.units + t.h < cLine → SeqAt.EqAt A s u z true
  | .sc x, A, v, w, fs, gs, u, z, h1, h2, r1, r2, hu => by
    simp only [Tw.At] at h1 h2
    obtain ⟨rfl, sc, -⟩ := h1
    obtain ⟨rfl, -, -⟩ := h2
    exact scal_eq sc r1 r2
  | .tup xs, A, v, w, fs, gs, u, z, h1, h2, r1, r2, hu => by
    simp only [Tw.At] at h1 h2
    obtain ⟨a, vs, rfl, e1, c1⟩ := h1
    obtain ⟨b, ws, rfl, e2, c2⟩ := h2
    cases r1
    cases r2
    by_cases hab : a = b
    · subst hab
      exact SeqAt.EqAt.same _
    refine SeqAt.EqAt.of_refs hab ?_
    obtain ⟨is1, q1, p1, _⟩ := I.tuple (SqT.of e1)
    obtain ⟨is2, q2, p2, _⟩ := I.tuple (SqT.of e2)
    simp only [Tw.h] at hu
    have hl : is1.length = is2.length := by rw [← q1.length, ← q2.length, c1.len, c2.len]
    have := SeqAt.RcAt.tuples (A := A) (s := s) (e := fun _ => true) p1 p2 (by omega) (fun j h1 h2 => by
      have := Tw.eqAts I (A := A.in1) c1 c2 q1 q2 (by rw [in1_units]; omega) j (by simpa using h1) (by simpa using h2)
      simpa using this)
    simpa [hl, all_tt] using this
  | .lst xs, A, v, w, fs, gs, u, z, h1, h2, r1, r2, hu => by
    simp only [Tw.At] at h1 h2
    obtain ⟨a, vs, _, rfl, e1, c1, _⟩ := h1
    obtain ⟨b, ws, _, rfl, e2, c2, _⟩ := h2
    cases r1
    cases r2
    by_cases hab : a = b
    · subst hab
      exact SeqAt.EqAt.same _
    refine SeqAt.EqAt.of_refs hab ?_
    obtain ⟨is1, q1, p1, _⟩ := I.list (SqL.of e1)
    obtain ⟨is2, q2, p2, _⟩ := I.list (SqL.of e2)
    simp only [Tw.h] at hu
    have hl : is1.length = is2.length := by rw [← q1.length, ← q2.length, c1.len, c2.len]
    have := SeqAt.RcAt.lists (A := A) (s := s) (e := fun _ => true) p1.isList p2.isList (by simpa using hl) (by omega) (fun j h1 h2 => by
      have := Tw.eqAts I (A := A.in1) c1 c2 q1 q2 (by rw [in1_units]; omega) j (by simpa using h1) (by simpa using h2)
      simpa using this)
    simpa [all_tt] using this
theorem Tw.eqAts (I : Inv X pins σ H s) : ∀ {ts : List Tw} {A : Around} {vs ws : List V} {fs gs : List Addr} {us zs : List Value}, Tw.Ats H ts vs fs → Tw.Ats H ts ws gs → Vals vs us → Vals ws zs → A.units + Tw.hs ts < cLine →
    ∀ (j : Nat) (h1 : j < us.length) (h2 : j < zs.length), SeqAt.EqAt A s us[j] zs[j] true
  | [], A, vs, ws, fs, gs, us, zs, c1, c2, q1, q2, hu, j, h1, h2 => by
    simp only [Tw.Ats] at c1
    obtain ⟨rfl, -⟩ := c1
    cases q1
    exact absurd h1 (by simp)
  | t :: ts, A, vs, ws, fs, gs, us, zs, c1, c2, q1, q2, hu, j, h1, h2 => by
    simp only [Tw.Ats] at c1 c2
    obtain ⟨v, vs, f, g, rfl, rfl, a1, b1⟩ := c1
    obtain ⟨w, ws, f', g', rfl, rfl, a2, b2⟩ := c2
    cases q1 with
    | cons r1 q1 =>
    cases q2 with
    | cons r2 q2 =>
    simp only [Tw.hs] at hu
    cases j with
    | zero => exact Tw.eqAt I a1 a2 r1 r2 (by omega)
    | succ j => exact Tw.eqAts I b1 b2 q1 q2 (by omega) j (by simpa using h1) (by simpa using h2)
end
def rEqW : R2 := fun x y H Q => ∃ t fs gs, (Tw.tup t).At H x fs ∧ (Tw.tup t).At H y gs ∧ Tw.hs t ≤ 50 ∧ Q (.bl true) H
theorem tw_rc (I : Inv X pins σ H s) {A : Around} {t : List Tw} {x y : V} {v u : Value} {fs gs : List Addr} (rx : RelV x v) (ry : RelV y u) (h1 : (Tw.tup t).At H x fs) (h2 : (Tw.tup t).At H y gs) (hu : A.units + Tw.hs t + 4 < cLine) : SeqAt.RcAt A s v u true ∧ SeqAt.RcNeAt A s v u false := by
  simp only [Tw.At] at h1 h2
  obtain ⟨a, vs, rfl, e1, c1⟩ := h1
  obtain ⟨b, ws, rfl, e2, c2⟩ := h2
  cases rx
  cases ry
  obtain ⟨is1, q1, p1, _⟩ := I.tuple (SqT.of e1)
  obtain ⟨is2, q2, p2, _⟩ := I.tuple (SqT.of e2)
  have hl : is1.length = is2.length := by rw [← q1.length, ← q2.length, c1.len, c2.len]
  have hh : ∀ (j : Nat) (h1 : j < is1.toArray.size) (h2 : j < is2.toArray.size), SeqAt.EqAt A.in1 s is1.toArray[j] is2.toArray[j] ((fun _ => true) j) := fun j h1 h2 => by
    have := Tw.eqAts I (A := A.in1) c1 c2 q1 q2 (by rw [in1_units]; omega) j (by simpa using h1) (by simpa using h2)
    simpa using this
  have k1 := SeqAt.RcAt.tuples (A := A) (s := s) (e := fun _ => true) p1 p2 (by omega) hh
  have k2 := SeqAt.RcNeAt.tuples (A := A) (s := s) (e := fun _ => true) p1 p2 (by omega) hh
  rw [show ((List.range (min is1.toArray.size is2.toArray.size)).all (fun _ => true) && is1.toArray.size == is2.toArray.size) = true by simp [hl]] at k1 k2
  exact ⟨k1, k2⟩
theorem kop_eqW (hu : X.A.units + 64 < cLine) : OpR X (compareOp .Eq) rEqW := by
  intro pins s σ H x y v u Q I rx ry h
  obtain ⟨t, fs, gs, h1, h2, hh, q⟩ := h
  exact (tw_rc I rx ry h1 h2 (A := X.A) (by omega)).1 X.prog X.w X.xe (EP X pins σ Q) ⟨.bl true, H, I, rfl, q⟩
theorem i_eqW {H : Hp} {Q : VK} {x y : V} {t : List Tw} {fs gs : List Addr} (h1 : (Tw.tup t).At H x fs) (h2 : (Tw.tup t).At H y gs) (hh : Tw.hs t ≤ 50) (h : Q (.bl true) H) : rEqW x y H Q := ⟨t, fs, gs, h1, h2, hh, h⟩
end
end L2
namespace L2
open PySem PySem.Spec PyProof.Rows
section
variable {X : Cx}
end
section
variable {K : PySem.W.Frag} {H : Hp} {Q : VK}
end
end L2
namespace L2
open PySem PySem.Spec PyProof.Rows
end L2
namespace L2
open PySem PySem.Spec PyProof.Rows
section
variable {X : Cx} {tg : Expr}
end
section
variable {σ : St} {H : Hp} {R : It → Hp → Prop} {ts : TA}
end
end L2
namespace L2
open PySem PySem.Spec PyProof.Rows
section
variable {X : Cx}
end
section
variable {K : PySem.W.Frag} {H : Hp} {Q : VK}
end
end L2
namespace L2
open PySem PySem.Spec PyProof.Rows
section
variable {X : Cx} {e st : Expr} {te ts : TE} {p2 pos : Pos}
end
end L2
namespace L2
open PySem PySem.Spec PyProof.Rows
@[reducible] def IsTri (h : Heap) (T : Addr) (a b c : Value) : Prop := h.get? T = some { cls := .type "tuple", data := .seq #[a, b, c] }
theorem updateSeq_tri {prog : Program} {w : World} {A : Around} {E : Value → Shared → Prop} {s : Shared} {T : Addr} {a b c x : Value} {k : Nat} {Q : Unit → Shared → Prop} (h : IsTri s.heap T a b c)
    (q : ∀ h' : Heap, h'.get? T = some { cls := .type "tuple", data := .seq (#[a, b, c].setIfInBounds k x) } → Heap.SameBut T s.heap h' → Q () { s with heap := h' }) : wpAny (model prog w) A (updateSeq T fun v => v.setIfInBounds k x) Q E s := by
  refine wpAny_updateSeq h rfl (q _ ?_ (Heap.SameBut.update _ _ _)) (by simp [sizeLine_eq]) (by simp [sizeLine_eq])
  rw [Heap.get?_update_self _ h rfl]
  simp [Obj.mapSeq]
structure ItS (prog : Program) (w : World) (it l : Addr) (xs : Array Value) (st : Nat → Heap → Prop) : Prop where
  keep : ∀ {k : Nat} {h h' : Heap}, st k h → (∀ c o, c = it ∨ c = l → h.get? c = some o → h'.get? c = some o) → st k h'
  item : ∀ {A : Around} {E : Value → Shared → Prop} {s : Shared} {k : Nat} {x : Value} {Q : Value → Shared → Prop}, st k s.heap → xs[k]? = some x → (∀ h' : Heap, st (k + 1) h' → Heap.SameBut it s.heap h' → Q x { s with heap := h' }) → wpAny (model prog w) A (Builtin.SmallTypes.nextOf (.ref it)) Q E s
  done : ∀ {A : Around} {E : Value → Shared → Prop} {s : Shared} {k : Nat} {Q : Value → Shared → Prop}, A.handled = none → st k s.heap → xs[k]? = none → (∀ (h' : Heap) (e : Addr), Heap.ExtBut it s.heap h' → (∃ o, h'.get? e = some o ∧ o.cls = .type "StopIteration") → E (.ref e) { s with heap := h' }) → wpAny (model prog w) A (Builtin.SmallTypes.nextOf (.ref it)) Q E s
theorem its_list {prog : Program} {w : World} {it l : Addr} {xs : Array Value} (hn : l ≠ it) : ItS prog w it l xs (fun k h => h.IsListIter it l k ∧ h.IsList l xs) where
  keep := fun ⟨h1, h2⟩ k => ⟨h1.at fun o e => k it o (.inl rfl) e, by obtain ⟨o, e, r⟩ := h2; exact ⟨o, k l o (.inr rfl) e, r⟩⟩
  item := fun ⟨h1, h2⟩ e q => wpAny_nextOf_list_item h1 h2 e fun h' a b => q h' ⟨a, h2.extBut b.extBut hn⟩ b
  done := fun hA ⟨h1, h2⟩ e q => wpAny_nextOf_list_end hA h1 h2 e q
structure Apt (z TI TO i1 i2 i3 l1 l2 l3 : Addr) : Prop where
  nd : [z, TI, TO, i1, i2, i3].Nodup
  ls : ∀ l ∈ [l1, l2, l3], l ∉ [z, TO, i1, i2, i3]
theorem sameBut_ne {a b : Addr} {h h' : Heap} {o : Obj} (s : Heap.SameBut a h h') (hn : b ≠ a) (e : h.get? b = some o) : h'.get? b = some o := (s.2 b hn).trans e
section
variable {prog : Program} {w : World} {z TI TO i1 i2 i3 l1 l2 l3 : Addr} {xs ys us : Array Value} {st1 st2 st3 : Nat → Heap → Prop}
theorem zip3_item {A : Around} {E : Value → Shared → Prop} {s : Shared} {k : Nat} {x y u a b c : Value} {Q : Value → Shared → Prop}
    (D : Apt z TI TO i1 i2 i3 l1 l2 l3) (J1 : ItS prog w i1 l1 xs st1) (J2 : ItS prog w i2 l2 ys st2) (J3 : ItS prog w i3 l3 us st3) (hz : IsZip s.heap z TI TO .none) (hTI : IsTri s.heap TI (.ref i1) (.ref i2) (.ref i3)) (hTO : IsTri s.heap TO a b c)
    (h1 : st1 k s.heap) (h2 : st2 k s.heap) (h3 : st3 k s.heap) (e1 : xs[k]? = some x) (e2 : ys[k]? = some y) (e3 : us[k]? = some u)
    (q : ∀ h' : Heap, IsZip h' z TI TO (rawInt s.heap.objs.size) → IsTri h' TO x y u → st1 (k + 1) h' → st2 (k + 1) h' → st3 (k + 1) h' → IsTri h' s.heap.objs.size x y u → h'.objs.size = s.heap.objs.size + 1 → (∀ (c : Addr) (o : Obj), c ∉ [z, TO, i1, i2, i3] → s.heap.get? c = some o → h'.get? c = some o) → Q (.ref s.heap.objs.size) { s with heap := h' }) :
    wpAny (model prog w) A (Builtin.«zip.__next__» { pos := [.ref z] }) (fun fin s' => ∃ v, fin = Fin.done (Flow.ret v) ∧ Q v s') E s := by
  obtain ⟨D, D2⟩ := D
  unfold Builtin.«zip.__next__»
  refine wpAny_bind (wpAny_pure ?_)
  refine wpAny_bind (wpAny_field (x := .bool false) hz rfl rfl ?_)
  refine wpAny_bind (wpAny_field (x := .ref TI) hz rfl rfl ?_)
  refine wpAny_bind (wpAny_seqItems hTI rfl ?_)
  dsimp only
  rw [if_neg (show ¬ (#[Value.ref i1, Value.ref i2, Value.ref i3].isEmpty = true) by simp)]
  refine wpAny_bind (wpAny_bind (wpAny_field (x := .none) hz rfl rfl (wpAny_pure ?_)))
  rw [if_pos rfl]
  refine wpAny_bind (wpAny_rule ?_)
  refine wpAny_bind (wpAny_field (x := .ref TO) hz rfl rfl ?_)
  dsimp only
  refine wpAny_bind (wpAny_setField_rec hz (by simp) fun g1 z1 b1 => ?_)
  refine wpAny_bind ?_
  have D' : z ≠ TI ∧ z ≠ TO ∧ z ≠ i1 ∧ z ≠ i2 ∧ z ≠ i3 ∧ TI ≠ TO ∧ TI ≠ i1 ∧ TI ≠ i2 ∧ TI ≠ i3 ∧ TO ≠ i1 ∧ TO ≠ i2 ∧ TO ≠ i3 ∧ i1 ≠ i2 ∧ i1 ≠ i3 ∧ i2 ≠ i3 := by
    simp only [List.nodup_cons, List.mem_cons, List.not_mem_nil, or_false, not_or, List.nodup_nil, and_true] at D
    obtain ⟨⟨a1, a2, a3, a4, a5⟩, ⟨a6, a7, a8, a9⟩, ⟨a10, a11, a12⟩, ⟨a13, a14⟩, a15, _⟩ := D
    exact ⟨a1, a2, a3, a4, a5, a6, a7, a8, a9, a10, a11, a12, a13, a14, a15⟩
  obtain ⟨n1, n2, n3, n4, n5, n6, n7, n8, n9, n10, n11, n12, n13, n14, n15⟩ := D'
  obtain ⟨m1, m2, m3, m4, m5⟩ : l1 ≠ z ∧ l1 ≠ TO ∧ l1 ≠ i1 ∧ l1 ≠ i2 ∧ l1 ≠ i3 := by simpa using D2 l1 (by simp)
  obtain ⟨m6, m7, m8, m9, m10⟩ : l2 ≠ z ∧ l2 ≠ TO ∧ l2 ≠ i1 ∧ l2 ≠ i2 ∧ l2 ≠ i3 := by simpa using D2 l2 (by simp)
  obtain ⟨m11, m12, m13, m14, m15⟩ : l3 ≠ z ∧ l3 ≠ TO ∧ l3 ≠ i1 ∧ l3 ≠ i2 ∧ l3 ≠ i3 := by simpa using D2 l3 (by simp)
  have mv : ∀ {it l p : Addr} {X : Array Value} {st : Nat → Heap → Prop} {j : Nat} {h h' : Heap}, ItS prog w it l X st → st j h → Heap.SameBut p h h' → it ≠ p → l ≠ p → st j h' := fun J hs b x1 x2 => J.keep hs fun c o hc e => by
    rcases hc with rfl | rfl
    · exact sameBut_ne b x1 e
    · exact sameBut_ne b x2 e
  show wpAny (model prog w) A (forIn [(Value.ref i1, 0), (Value.ref i2, 1), (Value.ref i3, 2)] (none, ()) _) _ E _
  rw [List.forIn_cons]
  refine wpAny_bind (wpAny_bind (wpAny_onRaise ?_))
  refine wpAny_bind (m := Builtin.SmallTypes.nextOf (.ref i1)) (f := fun v => pure (some v)) ?_
  refine J1.item (mv J1 h1 b1 n3.symm m1) e1 fun g2 z2 b2 => wpAny_pure ?_
  dsimp only
  refine wpAny_bind (wpAny_seqItems (items := #[a, b, c]) (sameBut_ne b2 n10 (sameBut_ne b1 n2.symm hTO)) rfl ?_)
  dsimp only
  refine wpAny_bind (updateSeq_tri (sameBut_ne b2 n10 (sameBut_ne b1 n2.symm hTO)) fun g3 t3 b3 => ?_)
  refine wpAny_bind (wpAny_letGo (wpAny_pure ?_))
  dsimp only
  rw [List.forIn_cons]
  refine wpAny_bind (wpAny_bind (wpAny_onRaise ?_))
  refine wpAny_bind (m := Builtin.SmallTypes.nextOf (.ref i2)) (f := fun v => pure (some v)) ?_
  refine J2.item (mv J2 (mv J2 (mv J2 h2 b1 n4.symm m6) b2 n13.symm m8) b3 n11.symm m7) e2 fun g4 z4 b4 => wpAny_pure ?_
  dsimp only
  have t4 : IsTri g4 TO x b c := sameBut_ne b4 n11 (by rw [t3]; rfl)
  refine wpAny_bind (wpAny_seqItems (items := #[x, b, c]) t4 rfl ?_)
  dsimp only
  refine wpAny_bind (updateSeq_tri t4 fun g5 t5 b5 => ?_)
  refine wpAny_bind (wpAny_letGo (wpAny_pure ?_))
  dsimp only
  rw [List.forIn_cons]
  refine wpAny_bind (wpAny_bind (wpAny_onRaise ?_))
  refine wpAny_bind (m := Builtin.SmallTypes.nextOf (.ref i3)) (f := fun v => pure (some v)) ?_
  refine J3.item (mv J3 (mv J3 (mv J3 (mv J3 (mv J3 h3 b1 n5.symm m11) b2 n14.symm m13) b3 n12.symm m12) b4 n15.symm m14) b5 n12.symm m12) e3 fun g6 z6 b6 => wpAny_pure ?_
  dsimp only
  have t6 : IsTri g6 TO x y c := sameBut_ne b6 n12 (by rw [t5]; rfl)
  refine wpAny_bind (wpAny_seqItems (items := #[x, y, c]) t6 rfl ?_)
  dsimp only
  refine wpAny_bind (updateSeq_tri t6 fun g7 t7 b7 => ?_)
  refine wpAny_bind (wpAny_letGo (wpAny_pure ?_))
  dsimp only
  rw [List.forIn_nil]
  refine wpAny_pure ?_
  dsimp only
  have t7' : IsTri g7 TO x y u := by rw [IsTri, t7]; rfl
  refine wpAny_bind (wpAny_seqItems (items := #[x, y, u]) t7' rfl ?_)
  dsimp only
  refine wpAny_bind (wpAny_newTuple ?_ (by simp [sizeLine_eq]))
  have sz : g7.objs.size = s.heap.objs.size := by rw [b7.1, b6.1, b5.1, b4.1, b3.1, b2.1, b1.1]
  have zz : g7.get? z = some { cls := .type "zip", data := .fields #[.ellipsis, .bool false, .bool false, .ref TI, .ref TO] } := sameBut_ne b7 n2 (sameBut_ne b6 n5 (sameBut_ne b5 n2 (sameBut_ne b4 n4 (sameBut_ne b3 n2 (sameBut_ne b2 n3 z1)))))
  refine wpAny_bind (wpAny_bind ?_)
  refine wpAny_setField_rec (Heap.get?_push_of_some _ zz) (by simp) fun g8 z8 b8 => ?_
  refine wpAny_setField_rec z8 (by simp) fun g9 z9 b9 => ?_
  refine wpAny_pure ⟨_, rfl, ?_⟩
  have lt : ∀ {c : Addr} {o : Obj}, g7.get? c = some o → c ≠ g7.objs.size := fun e => Nat.ne_of_lt (Heap.lt_size e)
  have mvp : ∀ {it l : Addr} {X : Array Value} {st : Nat → Heap → Prop} {j : Nat}, ItS prog w it l X st → st j g7 → it ≠ z → l ≠ z → st j g9 := fun J hs x1 x2 => J.keep hs fun c o hc e => by
    rcases hc with rfl | rfl
    · exact sameBut_ne b9 x1 (sameBut_ne b8 x1 (Heap.get?_push_of_some _ e))
    · exact sameBut_ne b9 x2 (sameBut_ne b8 x2 (Heap.get?_push_of_some _ e))
  have zne : g7.objs.size ≠ z := (lt zz).symm
  rw [sz]
  refine q g9 ?_ ?_ (mvp J1 ?_ n3.symm m1) (mvp J2 ?_ n4.symm m6) (mvp J3 ?_ n5.symm m11) ?_ ?_ ?_
  · rw [IsZip, z9]
    simp [sz]
  · exact sameBut_ne b9 n2.symm (sameBut_ne b8 n2.symm (Heap.get?_push_of_some _ t7'))
  · exact mv J1 (mv J1 (mv J1 (mv J1 (mv J1 z2 b3 n10.symm m2) b4 n13 m4) b5 n10.symm m2) b6 n14 m5) b7 n10.symm m2
  · exact mv J2 (mv J2 (mv J2 z4 b5 n11.symm m7) b6 n15 m10) b7 n11.symm m7
  · exact mv J3 z6 b7 n12.symm m12
  · have := sameBut_ne b9 zne (sameBut_ne b8 zne (Heap.get?_push_size g7 rfl))
    rw [← sz]
    exact this
  · rw [b9.1, b8.1, Heap.size_push, sz]
  · intro c o hc e
    simp only [List.mem_cons, List.not_mem_nil, or_false, not_or] at hc
    obtain ⟨c1, c2, c3, c4, c5⟩ := hc
    exact sameBut_ne b9 c1 (sameBut_ne b8 c1 (Heap.get?_push_of_some _ (sameBut_ne b7 c2 (sameBut_ne b6 c5 (sameBut_ne b5 c2 (sameBut_ne b4 c4 (sameBut_ne b3 c2 (sameBut_ne b2 c3 (sameBut_ne b1 c1 e)))))))))
theorem zip3_end {A : Around} {E : Value → Shared → Prop} {s : Shared} {k : Nat} {a b c : Value} {Q : PySem.Fin → Shared → Prop} (hA : A.handled = none)
    (D : Apt z TI TO i1 i2 i3 l1 l2 l3) (J1 : ItS prog w i1 l1 xs st1) (J2 : ItS prog w i2 l2 ys st2) (J3 : ItS prog w i3 l3 us st3) (hz : IsZip s.heap z TI TO .none) (hTI : IsTri s.heap TI (.ref i1) (.ref i2) (.ref i3)) (hTO : IsTri s.heap TO a b c)
    (h1 : st1 k s.heap) (h2 : st2 k s.heap) (h3 : st3 k s.heap) (e : xs[k]? = none ∨ ys[k]? = none ∨ us[k]? = none)
    (q : ∀ (h' : Heap) (ex : Addr), (∀ (c : Addr) (o : Obj), c ∉ [z, TO, i1, i2, i3] → s.heap.get? c = some o → h'.get? c = some o) → (∃ o, h'.get? ex = some o ∧ o.cls = .type "StopIteration") → E (.ref ex) { s with heap := h' }) :
    wpAny (model prog w) A (Builtin.«zip.__next__» { pos := [.ref z] }) Q E s := by
  obtain ⟨D, D2⟩ := D
  unfold Builtin.«zip.__next__»
  refine wpAny_bind (wpAny_pure ?_)
  refine wpAny_bind (wpAny_field (x := .bool false) hz rfl rfl ?_)
  refine wpAny_bind (wpAny_field (x := .ref TI) hz rfl rfl ?_)
  refine wpAny_bind (wpAny_seqItems hTI rfl ?_)
  dsimp only
  rw [if_neg (show ¬ (#[Value.ref i1, Value.ref i2, Value.ref i3].isEmpty = true) by simp)]
  refine wpAny_bind (wpAny_bind (wpAny_field (x := .none) hz rfl rfl (wpAny_pure ?_)))
  rw [if_pos rfl]
  refine wpAny_bind (wpAny_rule ?_)
  refine wpAny_bind (wpAny_field (x := .ref TO) hz rfl rfl ?_)
  dsimp only
  refine wpAny_bind (wpAny_setField_rec hz (by simp) fun g1 z1 b1 => ?_)
  refine wpAny_bind ?_
  have D' : z ≠ TI ∧ z ≠ TO ∧ z ≠ i1 ∧ z ≠ i2 ∧ z ≠ i3 ∧ TI ≠ TO ∧ TI ≠ i1 ∧ TI ≠ i2 ∧ TI ≠ i3 ∧ TO ≠ i1 ∧ TO ≠ i2 ∧ TO ≠ i3 ∧ i1 ≠ i2 ∧ i1 ≠ i3 ∧ i2 ≠ i3 := by
    simp only [List.nodup_cons, List.mem_cons, List.not_mem_nil, or_false, not_or, List.nodup_nil, and_true] at D
    obtain ⟨⟨a1, a2, a3, a4, a5⟩, ⟨a6, a7, a8, a9⟩, ⟨a10, a11, a12⟩, ⟨a13, a14⟩, a15, _⟩ := D
    exact ⟨a1, a2, a3, a4, a5, a6, a7, a8, a9, a10, a11, a12, a13, a14, a15⟩
  obtain ⟨n1, n2, n3, n4, n5, n6, n7, n8, n9, n10, n11, n12, n13, n14, n15⟩ := D'
  obtain ⟨m1, m2, m3, m4, m5⟩ : l1 ≠ z ∧ l1 ≠ TO ∧ l1 ≠ i1 ∧ l1 ≠ i2 ∧ l1 ≠ i3 := by simpa using D2 l1 (by simp)
  obtain ⟨m6, m7, m8, m9, m10⟩ : l2 ≠ z ∧ l2 ≠ TO ∧ l2 ≠ i1 ∧ l2 ≠ i2 ∧ l2 ≠ i3 := by simpa using D2 l2 (by simp)
  obtain ⟨m11, m12, m13, m14, m15⟩ : l3 ≠ z ∧ l3 ≠ TO ∧ l3 ≠ i1 ∧ l3 ≠ i2 ∧ l3 ≠ i3 := by simpa using D2 l3 (by simp)
  have mv : ∀ {it l p : Addr} {X : Array Value} {st : Nat → Heap → Prop} {j : Nat} {h h' : Heap}, ItS prog w it l X st → st j h → Heap.SameBut p h h' → it ≠ p → l ≠ p → st j h' := fun J hs b x1 x2 => J.keep hs fun c o hc e => by
    rcases hc with rfl | rfl
    · exact sameBut_ne b x1 e
    · exact sameBut_ne b x2 e
  have fin : ∀ {it l p : Addr} {X : Array Value} {st : Nat → Heap → Prop} {g : Heap} {Q' : Option Value → Shared → Prop}, it ∈ [i1, i2, i3] → ItS prog w it l X st → st k g → X[k]? = none → (∀ (c : Addr) (o : Obj), c ∉ [z, TO, i1, i2, i3] → s.heap.get? c = some o → g.get? c = some o) → g.get? z = some { cls := .type "zip", data := .fields #[.ellipsis, .bool false, .bool false, .ref TI, .ref TO] } → z ≠ it →
      wpAny (model prog w) A (Builtin.SmallTypes.nextOf (.ref it) >>= fun v => pure (some v)) Q' (fun e s' => wpAny (model prog w) A (setField (.ref z) 0 .none) (fun _ s'' => E e s'') E s') { s with heap := g } := fun {it l p X st g Q'} hit J hs hx hk hzz hne => by
    refine wpAny_bind (J.done hA hs hx fun g' ex b' hex => ?_)
    refine wpAny_setField_rec (b' _ _ hne hzz) (by simp) fun g'' z'' b'' => q g'' ex (fun c o hc e => ?_) ?_
    · have hc' := hc
      simp only [List.mem_cons, List.not_mem_nil, or_false, not_or] at hc
      refine sameBut_ne b'' hc.1 (b' c o (fun hq => ?_) (hk c o hc' e))
      subst hq
      simp only [List.mem_cons, List.not_mem_nil, or_false] at hit
      rcases hit with h | h | h
      · exact hc.2.2.1 h
      · exact hc.2.2.2.1 h
      · exact hc.2.2.2.2 h
    · obtain ⟨o, e1, e2⟩ := hex
      by_cases hq : ex = z
      · subst hq
        rw [b' _ _ hne hzz] at e1
        cases e1
        simp at e2
      · exact ⟨o, sameBut_ne b'' hq e1, e2⟩
  show wpAny (model prog w) A (forIn [(Value.ref i1, 0), (Value.ref i2, 1), (Value.ref i3, 2)] (none, ()) _) _ E _
  rw [List.forIn_cons]
  refine wpAny_bind (wpAny_bind (wpAny_onRaise ?_))
  have k1 : ∀ (c : Addr) (o : Obj), c ∉ [z, TO, i1, i2, i3] → s.heap.get? c = some o → g1.get? c = some o := fun c o hc e => by
    simp only [List.mem_cons, List.not_mem_nil, or_false, not_or] at hc
    exact sameBut_ne b1 hc.1 e
  cases hx1 : xs[k]? with
  | none => exact fin (p := z) (by simp) J1 (mv J1 h1 b1 n3.symm m1) hx1 k1 z1 n3
  | some x =>
    refine wpAny_bind (m := Builtin.SmallTypes.nextOf (.ref i1)) (f := fun v => pure (some v)) ?_
    refine J1.item (mv J1 h1 b1 n3.symm m1) hx1 fun g2 z2 b2 => wpAny_pure ?_
    dsimp only
    refine wpAny_bind (wpAny_seqItems (items := #[a, b, c]) (sameBut_ne b2 n10 (sameBut_ne b1 n2.symm hTO)) rfl ?_)
    dsimp only
    refine wpAny_bind (updateSeq_tri (sameBut_ne b2 n10 (sameBut_ne b1 n2.symm hTO)) fun g3 t3 b3 => ?_)
    refine wpAny_bind (wpAny_letGo (wpAny_pure ?_))
    dsimp only
    rw [List.forIn_cons]
    refine wpAny_bind (wpAny_bind (wpAny_onRaise ?_))
    have k3 : ∀ (c : Addr) (o : Obj), c ∉ [z, TO, i1, i2, i3] → s.heap.get? c = some o → g3.get? c = some o := fun c o hc e => by
      have hc' := hc
      simp only [List.mem_cons, List.not_mem_nil, or_false, not_or] at hc
      exact sameBut_ne b3 hc.2.1 (sameBut_ne b2 hc.2.2.1 (k1 c o hc' e))
    have zz3 := sameBut_ne b3 n2 (sameBut_ne b2 n3 z1)
    cases hx2 : ys[k]? with
    | none => exact fin (p := z) (by simp) J2 (mv J2 (mv J2 (mv J2 h2 b1 n4.symm m6) b2 n13.symm m8) b3 n11.symm m7) hx2 k3 zz3 n4
    | some y =>
      refine wpAny_bind (m := Builtin.SmallTypes.nextOf (.ref i2)) (f := fun v => pure (some v)) ?_
      refine J2.item (mv J2 (mv J2 (mv J2 h2 b1 n4.symm m6) b2 n13.symm m8) b3 n11.symm m7) hx2 fun g4 z4 b4 => wpAny_pure ?_
      dsimp only
      have t4 : IsTri g4 TO x b c := sameBut_ne b4 n11 (by rw [t3]; rfl)
      refine wpAny_bind (wpAny_seqItems (items := #[x, b, c]) t4 rfl ?_)
      dsimp only
      refine wpAny_bind (updateSeq_tri t4 fun g5 t5 b5 => ?_)
      refine wpAny_bind (wpAny_letGo (wpAny_pure ?_))
      dsimp only
      rw [List.forIn_cons]
      refine wpAny_bind (wpAny_bind (wpAny_onRaise ?_))
      have k5 : ∀ (c : Addr) (o : Obj), c ∉ [z, TO, i1, i2, i3] → s.heap.get? c = some o → g5.get? c = some o := fun c o hc e => by
        have hc' := hc
        simp only [List.mem_cons, List.not_mem_nil, or_false, not_or] at hc
        exact sameBut_ne b5 hc.2.1 (sameBut_ne b4 hc.2.2.2.1 (k3 c o hc' e))
      have zz5 := sameBut_ne b5 n2 (sameBut_ne b4 n4 zz3)
      have hx3 : us[k]? = none := by
        rcases e with e | e | e
        · rw [hx1] at e; cases e
        · rw [hx2] at e; cases e
        · exact e
      exact fin (p := z) (by simp) J3 (mv J3 (mv J3 (mv J3 (mv J3 (mv J3 h3 b1 n5.symm m11) b2 n14.symm m13) b3 n12.symm m12) b4 n15.symm m14) b5 n12.symm m12) hx3 k5 zz5 n5
theorem pyNext_zip3_item {A : Around} {E : Value → Shared → Prop} {s : Shared} {k : Nat} {x y u a b c : Value} {Q : Option Value → Shared → Prop}
    (D : Apt z TI TO i1 i2 i3 l1 l2 l3) (J1 : ItS prog w i1 l1 xs st1) (J2 : ItS prog w i2 l2 ys st2) (J3 : ItS prog w i3 l3 us st3) (hz : IsZip s.heap z TI TO .none) (hTI : IsTri s.heap TI (.ref i1) (.ref i2) (.ref i3)) (hTO : IsTri s.heap TO a b c)
    (h1 : st1 k s.heap) (h2 : st2 k s.heap) (h3 : st3 k s.heap) (e1 : xs[k]? = some x) (e2 : ys[k]? = some y) (e3 : us[k]? = some u)
    (q : ∀ h' : Heap, IsZip h' z TI TO (rawInt s.heap.objs.size) → IsTri h' TO x y u → st1 (k + 1) h' → st2 (k + 1) h' → st3 (k + 1) h' → IsTri h' s.heap.objs.size x y u → h'.objs.size = s.heap.objs.size + 1 → (∀ (c : Addr) (o : Obj), c ∉ [z, TO, i1, i2, i3] → s.heap.get? c = some o → h'.get? c = some o) → Q (some (.ref s.heap.objs.size)) { s with heap := h' }) :
    wpAny (model prog w) A (pyNext (.ref z)) Q E s := by
  unfold pyNext
  refine wpAny_bind (wpAny_attempt (wpAny_callSpecial?_slot (T := "zip") ⟨_, hz, rfl⟩ F.slot_zip_next (wpAny_call_entry F.slot_zip_next ⟨_, hz, rfl⟩ F.entry_zip_next ?_ (F.args_zip_next_1 _))))
  exact zip3_item D J1 J2 J3 hz hTI hTO h1 h2 h3 e1 e2 e3 fun h' a1 a2 a3 a4 a5 a6 a7 a8 => wpAny_pure (q h' a1 a2 a3 a4 a5 a6 a7 a8)
theorem pyNext_zip3_end {A : Around} {E : Value → Shared → Prop} {s : Shared} {k : Nat} {a b c : Value} {Q : Option Value → Shared → Prop} (hA : A.handled = none)
    (D : Apt z TI TO i1 i2 i3 l1 l2 l3) (J1 : ItS prog w i1 l1 xs st1) (J2 : ItS prog w i2 l2 ys st2) (J3 : ItS prog w i3 l3 us st3) (hz : IsZip s.heap z TI TO .none) (hTI : IsTri s.heap TI (.ref i1) (.ref i2) (.ref i3)) (hTO : IsTri s.heap TO a b c)
    (h1 : st1 k s.heap) (h2 : st2 k s.heap) (h3 : st3 k s.heap) (e : xs[k]? = none ∨ ys[k]? = none ∨ us[k]? = none)
    (q : ∀ h' : Heap, (∀ (c : Addr) (o : Obj), c ∉ [z, TO, i1, i2, i3] → s.heap.get? c = some o → h'.get? c = some o) → Q none { s with heap := h' }) : wpAny (model prog w) A (pyNext (.ref z)) Q E s := by
  unfold pyNext
  refine wpAny_bind (wpAny_attempt (wpAny_callSpecial?_slot (T := "zip") ⟨_, hz, rfl⟩ F.slot_zip_next (wpAny_call_entry F.slot_zip_next ⟨_, hz, rfl⟩ F.entry_zip_next ?_ (F.args_zip_next_1 _))))
  refine zip3_end (by exact hA) D J1 J2 J3 hz hTI hTO h1 h2 h3 e fun h' ex hk ⟨o, x1, x2⟩ => ?_
  refine wpAny_bind (wpAny_isInstance (T := "StopIteration") ⟨o, x1, x2⟩ isSubtype_stop ?_)
  rw [if_pos rfl]
  exact wpAny_pure (q h' hk)
end
end L2
namespace L2
open PySem PySem.Spec PyProof.Rows
structure SrcO (l : Addr) (o : Obj) (P : Heap → Prop) : Prop where
  push : ∀ {h : Heap} {o' : Obj}, P h → P (h.push o')
  iter : ∀ {prog : Program} {w : World} {A : Around} {E : Value → Shared → Prop} {s : Shared} {Q : Value → Shared → Prop}, P s.heap → Q (.ref s.heap.objs.size) { s with heap := s.heap.push o } → wpAny (model prog w) A (pyIter (.ref l)) Q E s
@[reducible] def z3H (h : Heap) (o1 o2 o3 : Obj) : Heap := (((((h.push o1).push o2).push o3).push { cls := .type "tuple", data := .seq #[.ref h.objs.size, .ref (h.objs.size + 1), .ref (h.objs.size + 2)] }).push { cls := .type "tuple", data := .seq #[.none, .none, .none] }).push { cls := .type "zip", data := .fields #[.none, .bool false, .bool false, .ref (h.objs.size + 3), .ref (h.objs.size + 4)] }
theorem meets_zip3 {l1 l2 l3 : Addr} {o1 o2 o3 : Obj} {P1 P2 P3 : Heap → Prop} (S1 : SrcO l1 o1 P1) (S2 : SrcO l2 o2 P2) (S3 : SrcO l3 o3 P3) : Meets (Builtin.«zip.__new__» { pos := [.type "zip", .ref l1, .ref l2, .ref l3] }) fun _ R s => P1 s.heap ∧ P2 s.heap ∧ P3 s.heap ∧ R (.ok (.ret (.ref (s.heap.objs.size + 5)))) { s with heap := z3H s.heap o1 o2 o3 } := by
  refine Meets.of_wp fun prog w A R s ⟨p1, p2, p3, r⟩ => ?_
  unfold Builtin.«zip.__new__»
  refine wpAny_bind ?_
  unfold Builtin.SmallTypes.newClass
  dsimp only
  refine wpAny_bind (wpAny_pure ?_)
  rw [if_neg (by decide)]
  refine wpAny_bind ?_
  rw [sub_zip]
  refine wpAny_pure ?_
  rw [if_neg (by decide)]
  refine wpAny_pure ?_
  dsimp only
  rw [if_neg (by decide)]
  refine wpAny_bind ?_
  unfold Builtin.SmallTypes.iterAll
  refine wpAny_bind ?_
  rw [List.forIn_cons]
  refine wpAny_bind (wpAny_bind (wpAny_holding (S1.iter p1 (wpAny_pure ?_))))
  dsimp only
  rw [List.forIn_cons]
  refine wpAny_bind (wpAny_bind (wpAny_holding (S2.iter (S2.push p2) (wpAny_pure ?_))))
  dsimp only
  rw [List.forIn_cons]
  refine wpAny_bind (wpAny_bind (wpAny_holding (S3.iter (S3.push (S3.push p3)) (wpAny_pure ?_))))
  dsimp only
  rw [List.forIn_nil]
  refine wpAny_pure (wpAny_pure ?_)
  refine wpAny_bind (wpAny_newTuple ?_ (by simp [sizeLine_eq]))
  refine wpAny_bind (wpAny_newTuple ?_ (by simp [sizeLine_eq]))
  refine wpAny_bind ?_
  refine wpAny_bind (wpAny_alloc' ?_)
  refine wpAny_pure ?_
  refine wpAny_pure ⟨_, rfl, ?_⟩
  simp only [Heap.size_push]
  exact r
theorem typeCall_zip_3 (a b c : Value) : checkTypeCall "zip" { pos := [a, b, c] } = pure () := by
  with_unfolding_all rfl
theorem newCall_zip_3 (a b c : Value) : checkBuiltinCall "zip.__new__" { pos := [.type "zip", a, b, c] } = pure () := by
  with_unfolding_all rfl
theorem args_init_4 (a b c d : Value) : argsOk "object.__init__" { pos := [a, b, c, d] } := by
  with_unfolding_all rfl
theorem src_list (l : Addr) (xs : Array Value) : SrcO l { cls := .type "list_iterator", data := .fields #[.ref l, .int 0 0] } (fun h => h.IsList l xs) where
  push := fun h => h.push _
  iter := fun p q => wpAny_pyIter_list p q
theorem call_zip_3 {prog : Program} {w : World} {A : Around} {E : Value → Shared → Prop} {s : Shared} {l1 l2 l3 : Addr} {xs ys us : Array Value} {Q : Value → Shared → Prop} (p1 : s.heap.IsList l1 xs) (p2 : s.heap.IsList l2 ys) (p3 : s.heap.IsList l3 us)
    (q : ∀ h' : Heap, IsZip h' (s.heap.objs.size + 5) (s.heap.objs.size + 3) (s.heap.objs.size + 4) .none → IsTri h' (s.heap.objs.size + 3) (.ref s.heap.objs.size) (.ref (s.heap.objs.size + 1)) (.ref (s.heap.objs.size + 2)) → IsTri h' (s.heap.objs.size + 4) .none .none .none →
      h'.IsListIter s.heap.objs.size l1 0 → h'.IsListIter (s.heap.objs.size + 1) l2 0 → h'.IsListIter (s.heap.objs.size + 2) l3 0 → (∀ (c : Addr) (o : Obj), s.heap.get? c = some o → h'.get? c = some o) → Q (.ref (s.heap.objs.size + 5)) { s with heap := h' }) :
    wpAny (model prog w) A (call (.type "zip") [.ref l1, .ref l2, .ref l3]) Q E s := by
  refine callType_new F.called_zip (by decide) (typeCall_zip_3 _ _ _) (newCall_zip_3 _ _ _) (fun obj => args_init_4 _ _ _ _) F.entry_zip_new (meets_zip3 (src_list l1 xs) (src_list l2 ys) (src_list l3 us)) ⟨p1, p2, p3, ?_⟩
  have e5 : (z3H s.heap { cls := .type "list_iterator", data := .fields #[.ref l1, .int 0 0] } { cls := .type "list_iterator", data := .fields #[.ref l2, .int 0 0] } { cls := .type "list_iterator", data := .fields #[.ref l3, .int 0 0] }).get? (s.heap.objs.size + 5) = some { cls := .type "zip", data := .fields #[.none, .bool false, .bool false, .ref (s.heap.objs.size + 3), .ref (s.heap.objs.size + 4)] } := by
    have := Heap.get?_push_size (((((s.heap.push { cls := .type "list_iterator", data := .fields #[.ref l1, .int 0 0] }).push { cls := .type "list_iterator", data := .fields #[.ref l2, .int 0 0] }).push { cls := .type "list_iterator", data := .fields #[.ref l3, .int 0 0] }).push { cls := .type "tuple", data := .seq #[.ref s.heap.objs.size, .ref (s.heap.objs.size + 1), .ref (s.heap.objs.size + 2)] }).push { cls := .type "tuple", data := .seq #[.none, .none, .none] }) (o := { cls := .type "zip", data := .fields #[.none, .bool false, .bool false, .ref (s.heap.objs.size + 3), .ref (s.heap.objs.size + 4)] }) rfl
    simp only [Heap.size_push] at this
    exact this
  refine ⟨⟨_, e5, rfl⟩, q _ e5 ?_ ?_ ?_ ?_ ?_ ?_⟩
  · have := Heap.get?_push_size ((((s.heap.push { cls := .type "list_iterator", data := .fields #[.ref l1, .int 0 0] }).push { cls := .type "list_iterator", data := .fields #[.ref l2, .int 0 0] }).push { cls := .type "list_iterator", data := .fields #[.ref l3, .int 0 0] })) (o := { cls := .type "tuple", data := .seq #[.ref s.heap.objs.size, .ref (s.heap.objs.size + 1), .ref (s.heap.objs.size + 2)] }) rfl
    simp only [Heap.size_push] at this
    exact Heap.get?_push_of_some _ (Heap.get?_push_of_some _ this)
  · have := Heap.get?_push_size ((((s.heap.push { cls := .type "list_iterator", data := .fields #[.ref l1, .int 0 0] }).push { cls := .type "list_iterator", data := .fields #[.ref l2, .int 0 0] }).push { cls := .type "list_iterator", data := .fields #[.ref l3, .int 0 0] }).push { cls := .type "tuple", data := .seq #[.ref s.heap.objs.size, .ref (s.heap.objs.size + 1), .ref (s.heap.objs.size + 2)] }) (o := { cls := .type "tuple", data := .seq #[.none, .none, .none] }) rfl
    simp only [Heap.size_push] at this
    exact Heap.get?_push_of_some _ this
  · refine ⟨_, Heap.get?_push_of_some _ (Heap.get?_push_of_some _ (Heap.get?_push_of_some _ (Heap.get?_push_of_some _ (Heap.get?_push_of_some _ (Heap.get?_push_size s.heap rfl))))), rfl, rfl⟩
  · have := Heap.get?_push_size (s.heap.push { cls := .type "list_iterator", data := .fields #[.ref l1, .int 0 0] }) (o := { cls := .type "list_iterator", data := .fields #[.ref l2, .int 0 0] }) rfl
    simp only [Heap.size_push] at this
    exact ⟨_, Heap.get?_push_of_some _ (Heap.get?_push_of_some _ (Heap.get?_push_of_some _ (Heap.get?_push_of_some _ this))), rfl, rfl⟩
  · have := Heap.get?_push_size ((s.heap.push { cls := .type "list_iterator", data := .fields #[.ref l1, .int 0 0] }).push { cls := .type "list_iterator", data := .fields #[.ref l2, .int 0 0] }) (o := { cls := .type "list_iterator", data := .fields #[.ref l3, .int 0 0] }) rfl
    simp only [Heap.size_push] at this
    exact ⟨_, Heap.get?_push_of_some _ (Heap.get?_push_of_some _ (Heap.get?_push_of_some _ this)), rfl, rfl⟩
  · intro c o e
    exact Heap.get?_push_of_some _ (Heap.get?_push_of_some _ (Heap.get?_push_of_some _ (Heap.get?_push_of_some _ (Heap.get?_push_of_some _ (Heap.get?_push_of_some _ e)))))
def Itz3 (K : PySem.W.Frag) (a b c : Addr) : It :=
  ⟨fun i H => ∃ xs ys us x y u, SqL K H a xs ∧ SqL K H b ys ∧ SqL K H c us ∧ xs[i]? = some x ∧ ys[i]? = some y ∧ us[i]? = some u,
   fun i H v H' => ∃ p x y u, v = .ref p ∧ H p = none ∧ Same H H' ∧ H' p = some (.tup [x, y, u]) ∧ (∀ xs, SqL K H a xs → xs[i]? = some x) ∧ (∀ ys, SqL K H b ys → ys[i]? = some y) ∧ ∀ us, SqL K H c us → us[i]? = some u,
   fun i H => ∃ xs ys us, SqL K H a xs ∧ SqL K H b ys ∧ SqL K H c us ∧ (xs.length ≤ i ∨ ys.length ≤ i ∨ us.length ≤ i)⟩
theorem turn_zip3 {P : Program} {w : World} {K : PySem.W.Frag} {elts : List Expr} {x1 : Nat} {pos : Pos} (a b c z TI TO i1 i2 i3 : Addr) (D : Apt z TI TO i1 i2 i3 a b c) (E1 : a ≠ i1) (E2 : b ≠ i2) (E3 : c ≠ i3) :
    Turn P w K (.Tuple elts x1 pos) (Itz3 K a b c) [z, TI, TO, i1, i2, i3] z (fun i h => IsZip h z TI TO .none ∧ IsTri h TI (.ref i1) (.ref i2) (.ref i3) ∧ (∃ a b c, IsTri h TO a b c) ∧ h.IsListIter i1 a i ∧ h.IsListIter i2 b i ∧ h.IsListIter i3 c i) where
  mem := by simp
  obj := fun i h st d hd => by
    obtain ⟨hz, hTI, ⟨a, b, c, hTO⟩, ⟨o1, h1, _, d1⟩, ⟨o2, h2, _, d2⟩, o3, h3, _, d3⟩ := st
    rcases (by simpa using hd : d = z ∨ d = TI ∨ d = TO ∨ d = i1 ∨ d = i2 ∨ d = i3) with rfl | rfl | rfl | rfl | rfl | rfl
    · exact ⟨_, hz, fun v q => by cases q⟩
    · exact ⟨_, hTI, fun v q => by cases q⟩
    · exact ⟨_, hTO, fun v q => by cases q⟩
    · exact ⟨_, h1, fun v q => by rw [d1] at q; cases q⟩
    · exact ⟨_, h2, fun v q => by rw [d2] at q; cases q⟩
    · exact ⟨_, h3, fun v q => by rw [d3] at q; cases q⟩
  keep := fun i h h' st k => by
    obtain ⟨hz, hTI, ⟨a, b, c, hTO⟩, h1, h2, h3⟩ := st
    exact ⟨k z (by simp) _ hz, k TI (by simp) _ hTI, ⟨a, b, c, k TO (by simp) _ hTO⟩, h1.at fun o x => k i1 (by simp) o x, h2.at fun o x => k i2 (by simp) o x, h3.at fun o x => k i3 (by simp) o x⟩
  item := by
    intro X hP hw hK hc i pins s σ H E I hf st hg
    subst hP hw hK
    obtain ⟨xs, ys, us, x, y, u, hqa, hqb, hqc, hx, hy, hu⟩ := hg
    obtain ⟨it1, rv1, p1, hz1⟩ := I.list hqa
    obtain ⟨it2, rv2, p2, hz2⟩ := I.list hqb
    obtain ⟨it3, rv3, p3, hz3⟩ := I.list hqc
    obtain ⟨u1, hu1, ru1⟩ := rv1.get hx
    obtain ⟨u2, hu2, ru2⟩ := rv2.get hy
    obtain ⟨u3, hu3, ru3⟩ := rv3.get hu
    obtain ⟨hz, hTI, ⟨a', b', c', hTO⟩, h1, h2, h3⟩ := st
    have fr : H s.heap.objs.size = none := I.hok.fresh (Nat.le_refl _)
    have lt : ∀ d ∈ [z, TI, TO, i1, i2, i3], d < s.heap.objs.size := fun d hd => by
      obtain ⟨o1, e1, _⟩ := h1
      obtain ⟨o2, e2, _⟩ := h2
      obtain ⟨o3, e3, _⟩ := h3
      rcases (by simpa using hd : d = z ∨ d = TI ∨ d = TO ∨ d = i1 ∨ d = i2 ∨ d = i3) with rfl | rfl | rfl | rfl | rfl | rfl
      · exact Heap.lt_size hz
      · exact Heap.lt_size hTI
      · exact Heap.lt_size hTO
      · exact Heap.lt_size e1
      · exact Heap.lt_size e2
      · exact Heap.lt_size e3
    refine pyNext_zip3_item (k := i) D (its_list (xs := it1.toArray) E1) (its_list (xs := it2.toArray) E2) (its_list (xs := it3.toArray) E3) hz hTI hTO ⟨h1, p1.isList⟩ ⟨h2, p2.isList⟩ ⟨h3, p3.isList⟩ (x := u1) (y := u2) (u := u3) (by simpa using hu1) (by simpa using hu2) (by simpa using hu3) fun h' a1 a2 a3 a4 a5 a6 a7 hk => ?_
    have I1 : Inv X pins σ H { s with heap := h' } := I.turnedL (t' := s.toks) (ch := [z, TI, TO, i1, i2, i3]) (fun d o hd q => hk d o (fun e => hd (by simp at e ⊢; rcases e with e | e | e | e | e <;> simp [e])) q) hf
    have I2 : Inv X pins σ (upd H s.heap.objs.size (.tup [x, y, u])) { s with heap := h' } := I1.adopt (o := .tup [x, y, u]) fr I.sz (Nat.ne_of_gt I.lt) (fun n c ec e => by
        obtain ⟨v, q⟩ := I.cell n c ec
        exact absurd q.lt (by rw [e]; exact Nat.lt_irrefl _)) (fun q hq e => absurd (Heap.lt_size (I.pin q hq).1) (by rw [e]; exact Nat.lt_irrefl _))
      ⟨le_line (by simp), [u1, u2, u3], .cons ru1 (.cons ru2 (.cons ru3 .nil)), ⟨_, a6, rfl, _, rfl⟩⟩
    have hf2 : ∀ d ∈ [z, TI, TO, i1, i2, i3], FpOk X pins (upd H s.heap.objs.size (.tup [x, y, u])) d := fun d hd => ⟨by rw [upd_ne (Nat.ne_of_lt (lt d hd))]; exact (hf d hd).1, (hf d hd).2⟩
    obtain ⟨nd, _⟩ := D
    simp only [List.nodup_cons, List.mem_cons, List.not_mem_nil, or_false, not_or, List.nodup_nil, and_true] at nd
    obtain ⟨⟨n1, n2, n3, n4, n5⟩, ⟨n6, n7, n8, n9⟩, ⟨n10, n11, n12⟩, ⟨n13, n14⟩, n15, _⟩ := nd
    refine ⟨_, rfl, wpAny_letOwnedTupleGo_zip a1 fun h2' hz' hs' => ⟨.ref s.heap.objs.size, _, I2.turnedL (t' := s.toks) (ch := [z]) (fun d o hd q => (hs'.2 d (fun e => hd (by simp [e]))).trans q) (fun d hd => hf2 d (by simp at hd; simp [hd])), rfl, ⟨s.heap.objs.size, x, y, u, rfl, fr, Same.new fr, upd_same, fun q hq => by rw [I.list_inj hq hqa]; exact hx, fun q hq => by rw [I.list_inj hq hqb]; exact hy, fun q hq => by rw [I.list_inj hq hqc]; exact hu⟩, ⟨hz', sameBut_ne hs' (Ne.symm n1) (hk _ _ (by simp [Ne.symm n1, n6, n7, n8, n9]) hTI), ⟨_, _, _, sameBut_ne hs' (Ne.symm n2) a2⟩, a3.1.extBut hs'.extBut (Ne.symm n3), a4.1.extBut hs'.extBut (Ne.symm n4), a5.1.extBut hs'.extBut (Ne.symm n5)⟩, fun d hd => (hf2 d hd).1⟩⟩
  done := by
    intro X hP hw hK hc i pins s σ H E I hf st hg
    subst hP hw hK
    obtain ⟨xs, ys, us, hqa, hqb, hqc, hx⟩ := hg
    obtain ⟨it1, rv1, p1, hz1⟩ := I.list hqa
    obtain ⟨it2, rv2, p2, hz2⟩ := I.list hqb
    obtain ⟨it3, rv3, p3, hz3⟩ := I.list hqc
    obtain ⟨hz, hTI, ⟨a', b', c', hTO⟩, h1, h2, h3⟩ := st
    have l1 := rv1.length
    have l2 := rv2.length
    have l3 := rv3.length
    refine pyNext_zip3_end (k := i) (I.ok.hd hc) D (its_list (xs := it1.toArray) E1) (its_list (xs := it2.toArray) E2) (its_list (xs := it3.toArray) E3) hz hTI hTO ⟨h1, p1.isList⟩ ⟨h2, p2.isList⟩ ⟨h3, p3.isList⟩ ?_ fun h' hk => ⟨rfl, I.turnedL (t' := s.toks) (ch := [z, TI, TO, i1, i2, i3]) (fun d o hd q => hk d o (fun e => hd (by simp at e ⊢; rcases e with e | e | e | e | e <;> simp [e])) q) hf⟩
    rcases hx with e | e | e
    · exact .inl (by simp; omega)
    · exact .inr (.inl (by simp; omega))
    · exact .inr (.inr (by simp; omega))
  self := fun A i s Q E st h => wpAny_pyIter_zip st.1 h
section
variable {X : Cx} {elts : List Expr} {x1 : Nat} {tpos : Pos}
def iZip3 (K : PySem.W.Frag) (ta : TA) : TI := fun σ H R => ta σ H fun vs H1 => ∃ a b c, vs = [.ref a, .ref b, .ref c] ∧ (∃ xs, SqL K H1 a xs) ∧ (∃ ys, SqL K H1 b ys) ∧ (∃ us, SqL K H1 c us) ∧ R (Itz3 K a b c) H1
theorem pi_zip3 (K : PySem.W.Frag) {a b c : Expr} {ta : TA} {p pos : Pos} (hg : Gl X "zip") (hm : X.mg "zip" = none) (ha : PA X [a, b, c] ta) (hs : starEach [a, b, c] X.env = [(false, eval a X.env), (false, eval b X.env), (false, eval c X.env)] := by rfl) (hs2 : starEach [b, c] X.env = [(false, eval b X.env), (false, eval c X.env)] := by rfl) (hK : X.K = K := by rfl) :
    PI X (.Tuple elts x1 tpos) (.Call (.Name "zip" p) [a, b, c] [] pos) (iZip3 K ta) := by
  subst hK
  intro pins s σ H R I h
  refine Call_ (ld_blt I hg hm boot_zip0 (PyProof.Rows.callWith_type1 (thn (ha pos pins s σ H _ I h) fun us s1 ⟨vs, H1, I1, r1, q1⟩ => ?_) (by rw [hs, hs2]) (by rw [hs2]; rfl)))
  obtain ⟨l1, l2, l3, e, ⟨xs, hq1⟩, ⟨ys, hq2⟩, ⟨zs, hq3⟩, q⟩ := q1
  subst e
  cases r1 with
  | cons r1 rr =>
  cases rr with
  | cons r2 rr =>
  cases rr with
  | cons r3 rr =>
  cases rr
  cases r1
  cases r2
  cases r3
  obtain ⟨it1, rv1, p1, hz1⟩ := I1.list hq1
  obtain ⟨it2, rv2, p2, hz2⟩ := I1.list hq2
  obtain ⟨it3, rv3, p3, hz3⟩ := I1.list hq3
  have a1 : l1 < s1.heap.objs.size := by obtain ⟨_, e, _⟩ := p1.isList; exact Heap.lt_size e
  have a2 : l2 < s1.heap.objs.size := by obtain ⟨_, e, _⟩ := p2.isList; exact Heap.lt_size e
  have a3 : l3 < s1.heap.objs.size := by obtain ⟨_, e, _⟩ := p3.isList; exact Heap.lt_size e
  refine call_zip_3 p1.isList p2.isList p3.isList fun h' b1 b2 b3 b4 b5 b6 hk => ?_
  refine wpAny_pyIter_zip b1 ?_
  have fp : ∀ d, s1.heap.objs.size ≤ d → FpOk X pins H1 d := fun d hd => I1.fpOk hd (I1.hok.fresh hd)
  generalize s1.heap.objs.size = m at a1 a2 a3 b1 b2 b3 b4 b5 b6 fp ⊢
  have hA1 : l1 < m := a1
  have hA2 : l2 < m := a2
  have hA3 : l3 < m := a3
  have ne : ∀ {l k : Addr}, l < m → l ≠ m + k := fun {l k} h => Nat.ne_of_lt (Nat.lt_of_lt_of_le h (Nat.le_add_right _ _))
  have D : Apt (m + 5) (m + 3) (m + 4) m (m + 1) (m + 2) l1 l2 l3 := by
    constructor
    · simp
    · intro l hl
      have hlm : l < m := by
        simp only [List.mem_cons, List.not_mem_nil, or_false] at hl
        rcases hl with rfl | rfl | rfl
        · exact hA1
        · exact hA2
        · exact hA3
      simp only [List.mem_cons, List.not_mem_nil, or_false, not_or]
      exact ⟨ne hlm, ne hlm, Nat.ne_of_lt hlm, ne hlm, ne hlm⟩
  refine ⟨m + 5, [m + 5, m + 3, m + 4, m, m + 1, m + 2], _, _, H1, rfl, I1.kept (t' := s1.toks) hk, turn_zip3 l1 l2 l3 _ _ _ _ _ _ D (Nat.ne_of_lt hA1) (ne hA2) (ne hA3), ⟨b1, b2, ⟨_, _, _, b3⟩, b4, b5, b6⟩, fun d hd => fp d ?_, q⟩
  simp only [List.mem_cons, List.not_mem_nil, or_false] at hd
  rcases hd with rfl | rfl | rfl | rfl | rfl | rfl
  · exact Nat.le_add_right _ _
  · exact Nat.le_add_right _ _
  · exact Nat.le_add_right _ _
  · exact Nat.le_refl _
  · exact Nat.le_add_right _ _
  · exact Nat.le_add_right _ _
end
theorem i_zip3 {K : PySem.W.Frag} {σ : St} {H : Hp} {R : It → Hp → Prop} {ts : TA} (h : ts σ H fun vs H1 => ∃ a b c, vs = [.ref a, .ref b, .ref c] ∧ (∃ xs, SqL K H1 a xs) ∧ (∃ ys, SqL K H1 b ys) ∧ (∃ us, SqL K H1 c us) ∧ R (Itz3 K a b c) H1) : iZip3 K ts σ H R := h
theorem for_zip3 {K : PySem.W.Frag} {a b c : Addr} {xs ys us : List V} {g : TG} {tb : TS} {D : Ends} {σ : St} {H : Hp} (hz : xs.length = ys.length) (hz2 : xs.length = us.length) (Pv : Nat → St → Hp → Prop) (h0 : Pv 0 σ H) (hl : ∀ i σ H, i ≤ xs.length → Pv i σ H → SqL K H a xs ∧ SqL K H b ys ∧ SqL K H c us)
    (hs : ∀ i x y u σ H q H2, xs[i]? = some x → ys[i]? = some y → us[i]? = some u → Pv i σ H → Same H H2 → H2 q = some (.tup [x, y, u]) → g (.ref q) σ H2 fun σ1 H1 => tb { D with nx := Pv (i + 1), ct := Pv (i + 1), bk := D.nx } σ1 H1)
    (hd : ∀ σ H, Pv xs.length σ H → D.nx σ H) : ForEnd (Itz3 K a b c) g tb D σ H := by
  refine ⟨fun i m σ H => m = xs.length - i ∧ i ≤ xs.length ∧ Pv i σ H, ⟨xs.length, by simp, Nat.zero_le _, h0⟩, ?_⟩
  rintro i m σ' H' ⟨rfl, hi, p⟩
  obtain ⟨q1, q2, q3⟩ := hl i σ' H' hi p
  by_cases hlt : i < xs.length
  · refine .inr ⟨⟨xs, ys, us, xs[i], ys[i]'(by omega), us[i]'(by omega), q1, q2, q3, by simp [hlt], List.getElem?_eq_getElem _, List.getElem?_eq_getElem _⟩, Pv (i + 1), fun σ2 H2 p' => ⟨xs.length - (i + 1), by omega, rfl, hlt, p'⟩, fun v H2 yy => ?_⟩
    obtain ⟨q, x, y, u, rfl, hn, sm, hT, hx, hy, hu⟩ := yy
    exact hs i x y u σ' H' q H2 (hx xs q1) (hy ys q2) (hu us q3) p sm hT
  · have e : i = xs.length := by omega
    subst e
    exact .inl ⟨⟨xs, ys, us, q1, q2, q3, .inl (Nat.le_refl _)⟩, hd σ' H' p⟩
end L2
namespace L2
open PySem PySem.Spec PyProof.Rows
def tTDisp (P : Params) (tk tv : TE) : TE := fun σ H Q => ∀ p o, H p = none → tk σ (upd H p o) fun y H1 => tv σ H1 fun v H2 => H2 p = some o ∧ ∃ t, TK H2 t y ∧ ∀ o2, DtAt P (upd H2 p o2) p [(t, v)] → Q (.ref p) (upd H2 p o2)
section
variable {X : Cx} {k v : Expr} {pos : Pos} {tk tv : TE} {P : Params}
theorem pe_tdisp (hP : X.w.params = P) (hu : X.A.units + 64 < cLine) (hk : PE X k tk) (hv : PE X v tv) : PE X (.Dict [some k] [v] pos) (tTDisp P tk tv) := by
  subst hP
  intro pins s σ H Q I h
  have hn := I.hok.fresh (Nat.le_refl s.heap.objs.size)
  have I1 := I.laid (a := s.heap.objs.size) (o := DtO X.w.params s.heap.objs.size []) (h' := s.heap.push { cls := .type "dict", data := .dict #[] }) (t' := s.toks) (fun _ _ q => Heap.get?_push_of_some _ q) (Nat.le_refl _) (dto_ok (dt_new0 s.heap X.w.params I.big))
  refine wpAny_Dict_any rfl rfl (by simp) (by simp) (pairTrees_cons_walk (thn (hk pins _ σ _ _ I1 (h _ _ hn)) fun u s1 ⟨y, H1, I1', ry, q1⟩ => thn (hv pins s1 σ H1 _ I1' q1) fun w2 s2 ⟨vv, H2, I2, rv, e, t, ht, q2⟩ => pairTrees_nil_walk ?_))
  unfold storeAll
  rw [List.forIn_cons]
  refine wpAny_bind (wpAny_bind (dt_set (m := []) (by omega) I2 (.of e) (fun x hx => absurd hx (by simp)) (by simp) (by simp [sizeLine_eq]) ht ry rv fun s' I' => wpAny_pure ?_))
  dsimp only
  rw [List.forIn_nil]
  refine wpAny_pure ⟨.ref _, _, I', rfl, q2 _ ?_⟩
  exact dt_putM (m := []) (.of e) (fun x hx => absurd hx (by simp)) (by simp) ht
end
theorem i_tdisp {P : Params} {σ : St} {H : Hp} {Q : VK} {tk tv : TE} (h : ∀ p o, H p = none → tk σ (upd H p o) fun y H1 => tv σ H1 fun v H2 => H2 p = some o ∧ ∃ t, TK H2 t y ∧ ∀ o2, DtAt P (upd H2 p o2) p [(t, v)] → Q (.ref p) (upd H2 p o2)) : tTDisp P tk tv σ H Q := h
end L2
namespace L2
open PySem PySem.Spec PyProof.Rows
def Each {α β : Type} (R : α → β → Prop) (vs : List α) (xs : List β) : Prop := vs.length = xs.length ∧ ∀ (j : Nat) (v : α) (x : β), vs[j]? = some v → xs[j]? = some x → R v x
section
variable {α β : Type} {R : α → β → Prop} {vs : List α} {xs : List β}
theorem Each.nil : Each R ([] : List α) ([] : List β) := ⟨rfl, fun j v x h => by simp at h⟩
theorem Each.mono {R' : α → β → Prop} (h : Each R vs xs) (k : ∀ v x, R v x → R' v x) : Each R' vs xs := ⟨h.1, fun j v x h1 h2 => k v x (h.2 j v x h1 h2)⟩
theorem Each.append {ws : List α} {ys : List β} (h : Each R vs xs) (k : Each R ws ys) : Each R (vs ++ ws) (xs ++ ys) := by
  refine ⟨by simp [h.1, k.1], fun j v x h1 h2 => ?_⟩
  by_cases hj : j < vs.length
  · rw [List.getElem?_append_left hj] at h1
    rw [List.getElem?_append_left (by rw [← h.1]; exact hj)] at h2
    exact h.2 j v x h1 h2
  · rw [List.getElem?_append_right (by omega)] at h1
    rw [List.getElem?_append_right (by rw [← h.1]; omega), ← h.1] at h2
    exact k.2 _ v x h1 h2
theorem Each.snoc {v : α} {x : β} (h : Each R vs xs) (k : R v x) : Each R (vs ++ [v]) (xs ++ [x]) := h.append ⟨rfl, fun j w y h1 h2 => by
  cases j with
  | zero => cases h1; cases h2; exact k
  | succ j => simp at h1⟩
theorem Each.get {j : Nat} {x : β} (h : Each R vs xs) (k : xs[j]? = some x) : ∃ v, vs[j]? = some v ∧ R v x := by
  have hj : j < vs.length := by rw [h.1]; exact (List.getElem?_eq_some_iff.mp k).1
  exact ⟨vs[j], List.getElem?_eq_getElem hj, h.2 j _ x (List.getElem?_eq_getElem hj) k⟩
end
abbrev RRow := List Str × Nat
abbrev RRoom := Bool × List RRow
def RowAt (H : Hp) (v : V) (x : RRow) : Prop := ∃ k sl, v = .ref k ∧ H k = some (.tup [.ref sl, .int (x.2 : Nat)]) ∧ H sl = some (.lst (strsV x.1))
def RoomAt (H : Hp) (v : V) (r : RRoom) : Prop := ∃ q g ps, v = .ref q ∧ H q = some (.tup [.bl r.1, .ref g]) ∧ H g = some (.lst ps) ∧ Each (RowAt H) ps r.2
theorem RowAt.same {H H' : Hp} {v : V} {x : RRow} (h : RowAt H v x) (s : Same H H') : RowAt H' v x := by
  obtain ⟨k, sl, e, h1, h2⟩ := h
  exact ⟨k, sl, e, s _ _ h1, s _ _ h2⟩
theorem RoomAt.same {H H' : Hp} {v : V} {r : RRoom} (h : RoomAt H v r) (s : Same H H') : RoomAt H' v r := by
  obtain ⟨q, g, ps, e, h1, h2, h3⟩ := h
  exact ⟨q, g, ps, e, s _ _ h1, s _ _ h2, h3.mono fun v x hx => hx.same s⟩
structure TblAt (H : Hp) (tt : Addr) (us : List V) (rs : List RRoom) : Prop where
  ex : ∃ a b c rvs, H tt = some (.tup [.ref a, .ref b, .ref c]) ∧ H a = some (.lst us) ∧ H c = some (.lst rvs) ∧ Each (RoomAt H) rvs rs
structure TblOk (many : Nat) (rs : List RRoom) : Prop where
  nm : many ≤ 100
  nr : rs.length ≤ 300
  rows : ∀ r ∈ rs, r.2.length = many ∧ ∀ x ∈ r.2, x.2 < rs.length
structure UF (f : Nat → Option Nat) (rep rk : Nat → Nat) : Prop where
  no : ∀ x, f x = none → rep x = x
  so : ∀ x h, f x = some h → rep h = rep x ∧ rk h < rk x
  z0 : ∀ x, f x = none → rk x = 0
section
variable {f : Nat → Option Nat} {rep rk : Nat → Nat}
theorem UF.top (u : UF f rep rk) : ∀ n x, rk x ≤ n → f (rep x) = none ∧ rk (rep x) ≤ rk x
  | n, x, hn => by
    cases e : f x with
    | none => rw [u.no x e]; exact ⟨e, Nat.le_refl _⟩
    | some h =>
      obtain ⟨h1, h2⟩ := u.so x h e
      cases n with
      | zero => omega
      | succ n =>
        have := u.top n h (by omega)
        rw [h1] at this
        exact ⟨this.1, by omega⟩
theorem UF.none (u : UF f rep rk) (x : Nat) : f (rep x) = none := (u.top _ x (Nat.le_refl _)).1
theorem UF.rep2 (u : UF f rep rk) (x : Nat) : rep (rep x) = rep x := u.no _ (u.none x)
theorem UF.le (u : UF f rep rk) (x : Nat) : rk (rep x) ≤ rk x := (u.top _ x (Nat.le_refl _)).2
theorem UF.lt (u : UF f rep rk) {x h : Nat} (e : f x = some h) : rk (rep x) < rk x := by
  obtain ⟨h1, h2⟩ := u.so x h e
  have := u.le h
  rw [h1] at this
  omega
theorem UF.short (u : UF f rep rk) {g x y : Nat} (h1 : rep g = rep x) (h2 : f g = some y) : UF (fun z => if z = g then some (rep x) else f z) rep rk := by
  refine ⟨fun z hz => ?_, fun z h hz => ?_, fun z hz => ?_⟩
  · by_cases e : z = g
    · simp [e] at hz
    · simp only [e, if_false] at hz
      exact u.no z hz
  · by_cases e : z = g
    · subst e
      simp at hz
      subst hz
      exact ⟨by rw [u.rep2, h1], by rw [← h1]; exact u.lt h2⟩
    · simp only [e, if_false] at hz
      exact u.so z h hz
  · by_cases e : z = g
    · simp [e] at hz
    · simp only [e, if_false] at hz
      exact u.z0 z hz
def uni (rep : Nat → Nat) (x y : Nat) : Nat → Nat := fun z => if rep z = rep x then rep y else rep z
theorem UF.uni (u : UF f rep rk) {x y : Nat} (hne : rep x ≠ rep y) : UF (fun z => if z = rep x then some (rep y) else f z) (uni rep x y) (fun z => if rep z = rep x then rk z + 1 else rk z) := by
  refine ⟨fun z hz => ?_, fun z h hz => ?_, fun z hz => ?_⟩
  · by_cases e : z = rep x
    · simp [e] at hz
    · simp only [e, if_false] at hz
      have := u.no z hz
      unfold L2.uni
      rw [this, if_neg e]
  · by_cases e : z = rep x
    · subst e
      simp at hz
      subst hz
      unfold L2.uni
      rw [u.rep2, u.rep2, if_neg (Ne.symm hne), if_pos rfl]
      refine ⟨rfl, ?_⟩
      have := u.z0 _ (u.none y)
      simp only [u.rep2, if_neg (Ne.symm hne), if_true]
      omega
    · simp only [e, if_false] at hz
      obtain ⟨h1, h2⟩ := u.so z h hz
      unfold L2.uni
      rw [h1]
      refine ⟨rfl, ?_⟩
      split <;> omega
  · by_cases e : z = rep x
    · simp [e] at hz
    · simp only [e, if_false] at hz
      have := u.no z hz
      rw [if_neg (by rw [this]; exact e)]
      exact u.z0 z hz
end
def hF (d : Addr) : List (Str × V) := putF "heads" (.ref d) []
theorem hF_heads (d : Addr) : (hF d).lookup ("heads" : Str) = some (.ref d) := by
  unfold hF
  rw [lookup_putF, if_pos rfl]
theorem hF_no (d : Addr) {m : Str} (h : ¬ m = "heads") : (hF d).lookup m = none := by
  unfold hF
  rw [lookup_putF, if_neg h]
  rfl
structure TogAt (C : Addr) (H : Hp) (p d : Addr) (rep : Nat → Nat) (m : Nat) : Prop where
  ex : ∃ dx kvs f rk, H p = some (.ins C dx (hF d)) ∧ H d = some (.dK kvs) ∧ kvs.length ≤ m ∧ (∀ x : Nat, valV kvs (Sum.inl (x : Int)) = (f x).map fun (h : Nat) => V.int (h : Nat)) ∧ UF f rep rk ∧ ∀ x, rk x ≤ m
def But (d : Addr) (H H' : Hp) : Prop := ∀ b o, b ≠ d → H b = some o → H' b = some o
theorem But.trans {d : Addr} {H H1 H2 : Hp} (a : But d H H1) (b : But d H1 H2) : But d H H2 := fun c o h e => b c o h (a c o h e)
theorem Same.but {d : Addr} {H H' : Hp} (s : Same H H') : But d H H' := fun b o _ e => s b o e
theorem But.upd {d : Addr} {H H' : Hp} {o : HO} (b : But d H H') : But d H (upd H' d o) := fun c u h e => by rw [upd_ne h]; exact b c u h e
theorem But.new {d : Addr} {H H1 H2 : Hp} (s : Same H H1) (b : But d H1 H2) (h : H d = none) : Same H H2 := fun c o e => b c o (ne_of_none e h) (s c o e)
theorem But.tups {d : Addr} {H H' : Hp} {kvs : List (Key × V)} (b : But d H H') (h : H d = some (.dK kvs)) : Tups H H' := fun c ys e => b c _ (ne_of e h (fun z => nomatch z)) e
theorem TogAt.same {C p d : Addr} {H H' : Hp} {rep : Nat → Nat} {m : Nat} (h : TogAt C H p d rep m) (s : Same H H') : TogAt C H' p d rep m := by
  obtain ⟨dx, kvs, f, rk, h1, h2, h3⟩ := h.ex
  exact ⟨dx, kvs, f, rk, s _ _ h1, s _ _ h2, h3⟩
theorem TogAt.keep {C p d : Addr} {H H' : Hp} {rep : Nat → Nat} {m : Nat} (h : TogAt C H p d rep m) (s : ∀ b o, b = p ∨ b = d → H b = some o → H' b = some o) : TogAt C H' p d rep m := by
  obtain ⟨dx, kvs, f, rk, h1, h2, h3⟩ := h.ex
  exact ⟨dx, kvs, f, rk, s _ _ (.inl rfl) h1, s _ _ (.inr rfl) h2, h3⟩
theorem length_putK_old {κ : Type} [DecidableEq κ] {kvs : List (κ × V)} {k : κ} {v u : V} (h : valV kvs k = some u) : (putK kvs k v).length = kvs.length := by
  unfold putK
  rw [valV_any, h]
  simp
abbrev Pr := Nat × Nat
def roomA (rs : List RRoom) (x : Nat) : RRoom := rs.getD x (false, [])
def rowA (rs : List RRoom) (x j : Nat) : RRow := (roomA rs x).2.getD j ([], 0)
@[reducible] def Differs (rs : List RRoom) (p : Pr) (j : Nat) : Prop := (rowA rs p.1 j).1 ≠ (rowA rs p.2 j).1 ∨ (roomA rs (rowA rs p.1 j).2).1 ≠ (roomA rs (rowA rs p.2 j).2).1
structure Pst where
  rep : Nat → Nat
  found : List Pr
  ways : Pr → Option (Option (Pr × Nat))
def nextP (rs : List RRoom) (p : Pr) (j : Nat) : Pr := ((rowA rs p.1 j).2, (rowA rs p.2 j).2)
def Pst.go (rs : List RRoom) (p : Pr) (j : Nat) (S : Pst) : Pst := if S.rep (nextP rs p j).1 = S.rep (nextP rs p j).2 then S else ⟨uni S.rep (nextP rs p j).1 (nextP rs p j).2, S.found ++ [nextP rs p j], fun q => if q = nextP rs p j then some (some (p, j)) else S.ways q⟩
def Pst.all (rs : List RRoom) (p : Pr) : Nat → Pst → Pst
  | 0, S => S
  | j + 1, S => (Pst.all rs p j S).go rs p j
def Pst.first (x y : Nat) : Pst := ⟨uni id x y, [(x, y)], fun q => if q = (x, y) then some none else none⟩
def Pst.run (rs : List RRoom) (many x y : Nat) : Nat → Pst
  | 0 => Pst.first x y
  | i + 1 => match (Pst.run rs many x y i).found[i]? with
    | some p => (Pst.run rs many x y i).all rs p many
    | none => Pst.run rs many x y i
inductive ChainP (ways : Pr → Option (Option (Pr × Nat))) : Option (Pr × Nat) → List Nat → Prop
  | nil : ChainP ways none []
  | cons {p : Pr} {j : Nat} {w : Option (Pr × Nat)} {js : List Nat} : ways p = some w → ChainP ways w js → ChainP ways (some (p, j)) (j :: js)
structure PstOk (n : Nat) (S : Pst) : Prop where
  lt : ∀ q ∈ S.found, q.1 < n ∧ q.2 < n
  eq : ∀ q ∈ S.found, S.rep q.1 = S.rep q.2
  nd : S.found.Nodup
theorem uni_eq {rep : Nat → Nat} {x y a b : Nat} (h : rep a = rep b) : uni rep x y a = uni rep x y b := by unfold uni; rw [h]
theorem uni_self {rep : Nat → Nat} {x y : Nat} (hi : ∀ z, rep (rep z) = rep z) : uni rep x y x = uni rep x y y := by
  unfold uni
  rw [if_pos rfl]
  split <;> rfl
theorem PstOk.go {rs : List RRoom} {p : Pr} {j : Nat} {S : Pst} (h : PstOk rs.length S) (hx : (nextP rs p j).1 < rs.length) (hy : (nextP rs p j).2 < rs.length) : PstOk rs.length (S.go rs p j) := by
  unfold Pst.go
  split
  · exact h
  · next hne =>
    refine ⟨fun q hq => ?_, fun q hq => ?_, ?_⟩
    · rcases List.mem_append.mp hq with hq | hq
      · exact h.lt q hq
      · rw [List.mem_singleton.mp hq]; exact ⟨hx, hy⟩
    · rcases List.mem_append.mp hq with hq | hq
      · exact uni_eq (h.eq q hq)
      · rw [List.mem_singleton.mp hq]
        show uni _ _ _ _ = uni _ _ _ _
        unfold uni
        rw [if_pos rfl]
        split <;> rfl
    · refine List.nodup_append.mpr ⟨h.nd, by simp, fun a ha b hb e => hne ?_⟩
      rw [List.mem_singleton.mp hb] at e
      subst e
      exact h.eq _ ha
theorem Pst.go_found (rs : List RRoom) (p : Pr) (j : Nat) (S : Pst) : ∃ t, (S.go rs p j).found = S.found ++ t := by
  unfold Pst.go
  split
  · exact ⟨[], by simp⟩
  · exact ⟨_, rfl⟩
theorem Pst.all_found (rs : List RRoom) (p : Pr) : ∀ (j : Nat) (S : Pst), ∃ t, (S.all rs p j).found = S.found ++ t
  | 0, S => ⟨[], by simp [Pst.all]⟩
  | j + 1, S => by
    obtain ⟨t, e⟩ := Pst.all_found rs p j S
    obtain ⟨u, e2⟩ := Pst.go_found rs p j (S.all rs p j)
    exact ⟨t ++ u, by rw [Pst.all, e2, e, List.append_assoc]⟩
theorem rowA_lt {rs : List RRoom} {many x j : Nat} (ok : TblOk many rs) (hx : x < rs.length) (hj : j < many) : (rowA rs x j).2 < rs.length ∧ rs[x]? = some (roomA rs x) ∧ (roomA rs x).2[j]? = some (rowA rs x j) := by
  have e : rs[x]? = some (roomA rs x) := by unfold roomA; simp [hx]
  obtain ⟨h1, h2⟩ := ok.rows _ (List.mem_of_getElem? e)
  have e2 : (roomA rs x).2[j]? = some (rowA rs x j) := by unfold rowA; simp [h1, hj]
  exact ⟨h2 _ (List.mem_of_getElem? e2), e, e2⟩
theorem PstOk.all {rs : List RRoom} {many : Nat} {p : Pr} {S : Pst} (ok : TblOk many rs) (hp : p.1 < rs.length ∧ p.2 < rs.length) (h : PstOk rs.length S) : ∀ j, j ≤ many → PstOk rs.length (S.all rs p j)
  | 0, _ => h
  | j + 1, hj => (PstOk.all ok hp h j (by omega)).go (rowA_lt ok hp.1 (by omega)).1 (rowA_lt ok hp.2 (by omega)).1
theorem nodup_map {α β : Type} {g : α → β} : ∀ {l : List α}, (∀ a ∈ l, ∀ b ∈ l, g a = g b → a = b) → l.Nodup → (l.map g).Nodup
  | [], _, _ => by simp
  | a :: l, h, hn => by
    rw [List.nodup_cons] at hn
    rw [List.map_cons, List.nodup_cons]
    refine ⟨fun hm => ?_, nodup_map (fun x hx y hy => h x (List.mem_cons_of_mem _ hx) y (List.mem_cons_of_mem _ hy)) hn.2⟩
    obtain ⟨b, hb, e⟩ := List.mem_map.mp hm
    have := h b (List.mem_cons_of_mem _ hb) a List.mem_cons_self e
    subst this
    exact hn.1 hb
theorem PstOk.few {n : Nat} {S : Pst} (h : PstOk n S) : S.found.length ≤ n * n := by
  have : (S.found.map fun q => q.1 * n + q.2).Nodup := nodup_map (fun a ha b hb e => by
    obtain ⟨a1, a2⟩ := h.lt a ha
    obtain ⟨b1, b2⟩ := h.lt b hb
    have e1 : a.1 = b.1 := by
      have h1 : (a.1 * n + a.2) / n = a.1 := by rw [Nat.mul_comm, Nat.mul_add_div (by omega), Nat.div_eq_of_lt a2]; rfl
      have h2 : (b.1 * n + b.2) / n = b.1 := by rw [Nat.mul_comm, Nat.mul_add_div (by omega), Nat.div_eq_of_lt b2]; rfl
      rw [← h1, ← h2, e]
    have e2 : a.2 = b.2 := by rw [e1] at e; omega
    exact Prod.ext e1 e2) h.nd
  have hp := pigeon (n * n) _ this (fun k hk => by
    obtain ⟨q, hq, rfl⟩ := List.mem_map.mp hk
    obtain ⟨a1, a2⟩ := h.lt q hq
    have : q.1 * n + n ≤ n * n := by rw [← Nat.succ_mul]; exact Nat.mul_le_mul_right n a1
    omega)
  simpa using hp
def pairT (p : Pr) : Tr := .tup [.int (p.1 : Nat), .int (p.2 : Nat)]
theorem pairT_inj {p q : Pr} : pairT p = pairT q ↔ p = q := by
  constructor
  · intro h
    unfold pairT at h
    simp only [Tr.tup.injEq, List.cons.injEq, Tr.int.injEq, and_true] at h
    exact Prod.ext (by omega) (by omega)
  · intro h; rw [h]
def PairAt (H : Hp) (v : V) (p : Pr) : Prop := ∃ a, v = .ref a ∧ H a = some (.tup [.int (p.1 : Nat), .int (p.2 : Nat)])
theorem PairAt.key {H : Hp} {v : V} {p : Pr} (h : PairAt H v p) : TK H (pairT p) v := by
  obtain ⟨a, rfl, e⟩ := h
  refine ⟨?_, by simp [pairT, Tr.h, Tr.hs]⟩
  simp only [pairT, Tr.At, Tr.Ats]
  exact ⟨a, _, rfl, e, _, _, [], [], rfl, rfl, ⟨rfl, rfl⟩, _, _, [], [], rfl, rfl, ⟨rfl, rfl⟩, rfl, rfl⟩
theorem PairAt.tups {H H' : Hp} {v : V} {p : Pr} (h : PairAt H v p) (k : Tups H H') : PairAt H' v p := let ⟨a, e, h⟩ := h; ⟨a, e, k _ _ h⟩
def WayAt (H : Hp) (us : List V) (v : V) (w : Option (Pr × Nat)) : Prop := (w = none ∧ v = .non) ∨ ∃ p j q pv u, w = some (p, j) ∧ v = .ref q ∧ H q = some (.tup [pv, u]) ∧ PairAt H pv p ∧ us[j]? = some u
theorem WayAt.tups {H H' : Hp} {us : List V} {v : V} {w : Option (Pr × Nat)} (h : WayAt H us v w) (k : Tups H H') : WayAt H' us v w := by
  rcases h with h | ⟨p, j, q, pv, u, e1, e2, e3, e4, e5⟩
  · exact .inl h
  · exact .inr ⟨p, j, q, pv, u, e1, e2, k _ _ e3, e4.tups k, e5⟩
structure WaysAt (P : Params) (H : Hp) (wd : Addr) (us : List V) (ways : Pr → Option (Option (Pr × Nat))) (m : Nat) : Prop where
  ex : ∃ kvs, DtAt P H wd kvs ∧ kvs.length ≤ m ∧ ∀ p w, ways p = some w → ∃ v, valV kvs (pairT p) = some v ∧ WayAt H us v w
theorem WaysAt.mono {P : Params} {H H' : Hp} {wd : Addr} {us : List V} {ways : Pr → Option (Option (Pr × Nat))} {m : Nat} (h : WaysAt P H wd us ways m) (k : Tups H H') (e : H' wd = H wd) : WaysAt P H' wd us ways m := by
  obtain ⟨kvs, h1, h2, h3⟩ := h.ex
  exact ⟨kvs, h1.mono k e, h2, fun p w hw => let ⟨v, a, b⟩ := h3 p w hw; ⟨v, a, b.tups k⟩⟩
theorem WaysAt.same {P : Params} {H H' : Hp} {wd : Addr} {us : List V} {ways : Pr → Option (Option (Pr × Nat))} {m : Nat} (h : WaysAt P H wd us ways m) (s : Same H H') : WaysAt P H' wd us ways m := by
  obtain ⟨kvs, h1, h2, h3⟩ := h.ex
  exact ⟨kvs, dt_same h1 s, h2, fun p w hw => let ⟨v, a, b⟩ := h3 p w hw; ⟨v, a, b.tups s.tups⟩⟩
theorem WaysAt.ext {P : Params} {H : Hp} {wd : Addr} {us : List V} {ways : Pr → Option (Option (Pr × Nat))} {m : Nat} (h : WaysAt P H wd us ways m) : ∃ φ, H wd = some (.ext φ) := let ⟨_, h1, _⟩ := h.ex; h1.ext
theorem TogAt.le {C p d : Addr} {H : Hp} {rep : Nat → Nat} {m n : Nat} (h : TogAt C H p d rep m) (hm : m ≤ n) : TogAt C H p d rep n := by
  obtain ⟨dx, kvs, f, rk, h1, h2, h3, h4, h5, h6⟩ := h.ex
  exact ⟨dx, kvs, f, rk, h1, h2, by omega, h4, h5, fun x => Nat.le_trans (h6 x) hm⟩
structure StAt (P : Params) (C : Addr) (H : Hp) (tp td pf wd : Addr) (us : List V) (S : Pst) : Prop where
  tog : TogAt C H tp td S.rep S.found.length
  fnd : ∃ fvs, H pf = some (.lst fvs) ∧ Each (PairAt H) fvs S.found
  way : WaysAt P H wd us S.ways S.found.length
theorem StAt.same {P : Params} {C tp td pf wd : Addr} {H H' : Hp} {us : List V} {S : Pst} (h : StAt P C H tp td pf wd us S) (s : Same H H') : StAt P C H' tp td pf wd us S := by
  obtain ⟨h1, ⟨fvs, h2, h3⟩, h4⟩ := h
  exact ⟨h1.same s, ⟨fvs, s _ _ h2, h3.mono fun v p hp => hp.tups s.tups⟩, h4.same s⟩
theorem uni_id (x : Nat) : uni id x x = id := by
  funext z
  unfold uni
  show (if z = x then x else z) = z
  split
  · next e => exact e.symm
  · rfl
theorem PstOk.first {n x y : Nat} (hx : x < n) (hy : y < n) : PstOk n (Pst.first x y) := ⟨fun q hq => by rw [List.mem_singleton.mp hq]; exact ⟨hx, hy⟩, fun q hq => by
  rw [List.mem_singleton.mp hq]
  exact uni_self (fun z => rfl), by simp [Pst.first]⟩
end L2
namespace L2
open PySem PySem.Spec PyProof.Rows
section
variable {X : Cx}
end
section
variable {H : Hp} {Q : VK}
end
section
variable {X : Cx} {pins : List (Addr × Obj)} {σ : St} {H : Hp} {s : Shared}
end
end L2
namespace L2
open PySem PySem.Spec PyProof.Rows
section
variable {X : Cx} {pins : List (Addr × Obj)} {σ : St} {H : Hp} {s : Shared} {a : Addr} {t : Tr} {y v z : V} {u r : Value} {A : Around} {E : Value → Shared → Prop} {kvs : List (Tr × V)} {m : List (Tr × V × V)}
end
section
variable {X : Cx} {o i e f value : Expr} {pos pos' apos cpos : Pos} {td ty tv tx : TE} {P : Params}
end
section
variable {K : PySem.W.Frag} {P : Params} {σ : St} {H : Hp} {Q : VK} {td ty tx tv : TE}
end
end L2
namespace L2
open PySem PySem.Spec PyProof.Rows
section
variable {prog : Program} {w : World} {A : Around} {E : Value → Shared → Prop} {s : Shared}
end
section
variable {X : Cx} {elts : List Expr} {x1 : Nat} {tpos : Pos}
end
end L2
namespace L2
open PySem PySem.Spec PyProof.Rows
end L2
namespace L2
open PySem PySem.Spec PyProof.Rows
end L2
namespace L2
open PySem PySem.Spec PyProof.Rows
end L2
namespace L2
open PySem PySem.Spec PyProof.Rows
section
variable {prog : Program} {w : World} {A : Around} {E : Value → Shared → Prop} {s : Shared} {d : Addr} {es : Array DictEntry} {ep : Nat}
end
end L2
namespace L2
open PySem PySem.Spec PyProof.Rows
end L2
namespace L2
open PySem PySem.Spec PyProof.Rows
section
variable {prog : Program} {w : World} {A : Around} {E : Value → Shared → Prop} {s : Shared} {d it : Addr} {es : Array DictEntry} {ep i : Nat}
end
end L2
namespace L2
open PySem PySem.Spec PyProof.Rows
section
variable {X : Cx} {P : Params} {o : Expr} {td : TE} {apos cpos : Pos}
end
section
variable {prog : Program} {w : World} {A : Around} {E : Value → Shared → Prop} {s : Shared} {d v : Addr} {es : Array DictEntry} {ep : Nat}
end
end L2
namespace L2
open PySem PySem.Spec PyProof.Rows
section
variable {X : Cx} {P : Params}
end
end L2
namespace L2
open PySem PySem.Spec PyProof.Rows
open AutoSeq1 (wpAny_loadPart')
end L2
namespace L2
open PySem PySem.Spec PyProof.Rows
section
variable {X : Cx} {elts : List Expr} {x1 : Nat} {tpos : Pos}
end
end L2
namespace L2
open PySem PySem.Spec PyProof.Rows
section
variable {prog : Program} {w : World}
variable {A : Around} {E : Value → Shared → Prop} {s : Shared}
end
end L2
namespace L2
open PySem PySem.Spec PyProof.Rows
section
variable {prog : Program} {w : World} {A : Around} {R : Result → Shared → Prop} {I : Addr} {fp wr : List Addr} {G : Array GenState → Array GenState → Prop} {n : Nat} {P : Nat → Value → Prop} {St : Nat → Shared → Prop}
end
end L2
namespace L2
open PySem PySem.Spec PyProof.Rows
section
variable {prog : Program} {w : World} {A : Around} {E : Value → Shared → Prop} {s : Shared}
end
end L2
namespace L2
open PySem PySem.Spec PyProof.Rows
section
variable {M : Model} {A : Around} {E : Value → Shared → Prop} {s : Shared}
end
section
variable {prog : Program} {w : World} {A : Around} {E : Value → Shared → Prop} {s : Shared} {S it : Addr} {o : Obj} {es : Array (Int × Value)} {ep : Nat} {t : SetTable}
end
end L2
namespace L2
open PySem PySem.Spec PyProof.Rows
section
variable {prog : Program} {w : World} {A : Around} {E : Value → Shared → Prop} {s : Shared} {S it tp : Addr} {o : Obj} {es : Array (Int × Value)} {ep i : Nat} {t : SetTable} {first : Value}
end
end L2
namespace L2
open PySem PySem.Spec PyProof.Rows
section
variable {prog : Program} {w : World} {A : Around} {E : Value → Shared → Prop} {s : Shared} {S it tp : Addr} {o : Obj} {es : Array (Int × Value)} {ep i : Nat} {t : SetTable} {first : Value}
end
end L2
namespace L2
open PySem PySem.Spec PyProof.Rows
section
variable {prog : Program} {w : World} {A : Around} {E : Value → Shared → Prop} {s : Shared} {S it tp : Addr} {o : Obj} {es : Array (Int × Value)} {ep i : Nat} {t : SetTable} {first : Value}
end
end L2
namespace L2
open PySem PySem.Spec PyProof.Rows
section
variable {prog : Program} {w : World} {A : Around} {E : Value → Shared → Prop} {s : Shared} {S : Addr} {es : Array (Int × Value)}
end
end L2
namespace L2
open PySem PySem.Spec PyProof.Rows
section
variable {prog : Program} {w : World} {A : Around} {E : Value → Shared → Prop} {s : Shared} {S : Addr} {es : Array (Int × Value)}
end
end L2
namespace L2
open PySem PySem.Spec PyProof.Rows
section
variable {X : Cx} {P : Program} {w : World}
end
end L2
namespace L2
open PySem PySem.Spec PyProof.Rows
end L2
namespace L2
open PySem PySem.Spec PyProof.Rows
section
variable {X : Cx}
end
end L2
namespace L2
open PySem PySem.Spec PyProof.Rows
end L2
namespace L2
open PySem PySem.Spec PyProof.Rows
end L2
namespace L2
open PySem PySem.Spec PyProof.Rows
def Parts (rs : List RRoom) : Pr → List Nat → Prop
  | p, [] => (roomA rs p.1).1 ≠ (roomA rs p.2).1
  | p, j :: w => (rowA rs p.1 j).1 ≠ (rowA rs p.2 j).1 ∨ Parts rs (nextP rs p j) w
theorem Parts.irr {rs : List RRoom} : ∀ {a : Nat} {w : List Nat}, ¬ Parts rs (a, a) w
  | a, [], h => h rfl
  | a, j :: w, h => by
    rcases h with h | h
    · exact h rfl
    · exact Parts.irr h
theorem Parts.symm {rs : List RRoom} : ∀ {a b : Nat} {w : List Nat}, Parts rs (a, b) w → Parts rs (b, a) w
  | a, b, [], h => Ne.symm h
  | a, b, j :: w, h => by
    rcases h with h | h
    · exact .inl (Ne.symm h)
    · exact .inr (Parts.symm h)
theorem Parts.mid {rs : List RRoom} : ∀ {a b c : Nat} {w : List Nat}, Parts rs (a, c) w → Parts rs (a, b) w ∨ Parts rs (b, c) w
  | a, b, c, [], h => by
    by_cases e : (roomA rs a).1 = (roomA rs b).1
    · exact .inr fun z => h (e.trans z)
    · exact .inl e
  | a, b, c, j :: w, h => by
    rcases h with h | h
    · by_cases e : (rowA rs a j).1 = (rowA rs b j).1
      · exact .inr (.inl fun z => h (e.trans z))
      · exact .inl (.inl e)
    · rcases Parts.mid (b := (rowA rs b j).2) h with h | h
      · exact .inl (.inr h)
      · exact .inr (.inr h)
inductive Conn (l : List Pr) : Nat → Nat → Prop
  | refl (a : Nat) : Conn l a a
  | pair {a b : Nat} : (a, b) ∈ l → Conn l a b
  | symm {a b : Nat} : Conn l a b → Conn l b a
  | trans {a b c : Nat} : Conn l a b → Conn l b c → Conn l a c
theorem Conn.mono {l m : List Pr} (h : ∀ q ∈ l, q ∈ m) {a b : Nat} (c : Conn l a b) : Conn m a b := by
  induction c with
  | refl a => exact .refl a
  | pair e => exact .pair (h _ e)
  | symm _ ih => exact .symm ih
  | trans _ _ i1 i2 => exact .trans i1 i2
theorem Conn.parts {rs : List RRoom} {l : List Pr} {a b : Nat} (c : Conn l a b) : ∀ {w : List Nat}, Parts rs (a, b) w → ∃ q ∈ l, Parts rs q w := by
  induction c with
  | refl a => intro w h; exact absurd h Parts.irr
  | pair e => intro w h; exact ⟨_, e, h⟩
  | symm _ ih => intro w h; exact ih h.symm
  | trans _ _ i1 i2 =>
    intro w h
    rcases Parts.mid h with h | h
    · exact i1 h
    · exact i2 h
theorem Conn.uni {l : List Pr} {rep : Nat → Nat} (h : ∀ a b, rep a = rep b → Conn l a b) (x y : Nat) : ∀ a b, uni rep x y a = uni rep x y b → Conn (l ++ [(x, y)]) a b := by
  have up : ∀ {a b : Nat}, Conn l a b → Conn (l ++ [(x, y)]) a b := fun c => c.mono fun q hq => List.mem_append_left _ hq
  have xy : Conn (l ++ [(x, y)]) x y := .pair (by simp)
  intro a b e
  unfold L2.uni at e
  by_cases ha : rep a = rep x
  · by_cases hb : rep b = rep x
    · exact up (h a b (ha.trans hb.symm))
    · rw [if_pos ha, if_neg hb] at e
      exact (up (h a x ha)).trans (xy.trans (up (h y b e)))
  · by_cases hb : rep b = rep x
    · rw [if_neg ha, if_pos hb] at e
      exact (up (h a y e)).trans (xy.symm.trans (up (h x b hb.symm)))
    · rw [if_neg ha, if_neg hb] at e
      exact up (h a b e)
def lexL : List Nat → List Nat → Prop
  | [], [] => False
  | [], _ :: _ => False
  | _ :: _, [] => False
  | a :: u, b :: v => a < b ∨ (a = b ∧ lexL u v)
def slt (u v : List Nat) : Prop := u.length < v.length ∨ (u.length = v.length ∧ lexL u v)
theorem lexL.irr : ∀ {u : List Nat}, ¬ lexL u u
  | [], h => h
  | a :: u, h => by
    rcases h with h | h
    · omega
    · exact lexL.irr h.2
theorem lexL.trans : ∀ {u v w : List Nat}, lexL u v → lexL v w → lexL u w
  | [], [], _, h, _ => h.elim
  | [], _ :: _, _, h, _ => h.elim
  | _ :: _, [], _, h, _ => h.elim
  | _ :: _, _ :: _, [], _, h => h.elim
  | a :: u, b :: v, c :: w, h1, h2 => by
    rcases h1 with h1 | ⟨rfl, h1⟩
    · rcases h2 with h2 | ⟨rfl, h2⟩
      · exact .inl (by omega)
      · exact .inl h1
    · rcases h2 with h2 | ⟨rfl, h2⟩
      · exact .inl h2
      · exact .inr ⟨rfl, lexL.trans h1 h2⟩
theorem slt.irr {u : List Nat} : ¬ slt u u := fun h => by
  rcases h with h | h
  · omega
  · exact lexL.irr h.2
theorem slt.trans {u v w : List Nat} (h1 : slt u v) (h2 : slt v w) : slt u w := by
  rcases h1 with h1 | ⟨h1, h1'⟩
  · rcases h2 with h2 | ⟨h2, _⟩
    · exact .inl (by omega)
    · exact .inl (by omega)
  · rcases h2 with h2 | ⟨h2, h2'⟩
    · exact .inl (by omega)
    · exact .inr ⟨by omega, h1'.trans h2'⟩
theorem lexL.app : ∀ {u v w z : List Nat}, u.length = v.length → lexL u v → lexL (u ++ w) (v ++ z)
  | [], [], _, _, _, h => h.elim
  | [], _ :: _, _, _, h, _ => by simp at h
  | _ :: _, [], _, _, h, _ => by simp at h
  | a :: u, b :: v, w, z, hl, h => by
    rcases h with h | ⟨rfl, h⟩
    · exact .inl h
    · exact .inr ⟨rfl, lexL.app (by simpa using hl) h⟩
theorem slt.app {u v : List Nat} (h : slt u v) (w : List Nat) : slt (u ++ w) (v ++ w) := by
  rcases h with h | ⟨h, h'⟩
  · exact .inl (by simp; omega)
  · exact .inr ⟨by simp [h], lexL.app h h'⟩
theorem slt.snoc {u v : List Nat} (h : slt u v) (i j : Nat) : slt (u ++ [i]) (v ++ [j]) := by
  rcases h with h | ⟨h, h'⟩
  · exact .inl (by simp; omega)
  · exact .inr ⟨by simp [h], lexL.app h h'⟩
theorem lexL.last : ∀ {u : List Nat} {i j : Nat}, i < j → lexL (u ++ [i]) (u ++ [j])
  | [], i, j, h => .inl h
  | a :: u, i, j, h => .inr ⟨rfl, lexL.last h⟩
theorem slt.last {u : List Nat} {i j : Nat} (h : i < j) : slt (u ++ [i]) (u ++ [j]) := .inr ⟨by simp, lexL.last h⟩
theorem lexL.tri : ∀ {u v : List Nat}, u.length = v.length → lexL u v ∨ u = v ∨ lexL v u
  | [], [], _ => .inr (.inl rfl)
  | [], _ :: _, h => by simp at h
  | _ :: _, [], h => by simp at h
  | a :: u, b :: v, h => by
    rcases Nat.lt_trichotomy a b with h1 | rfl | h1
    · exact .inl (.inl h1)
    · rcases lexL.tri (u := u) (v := v) (by simpa using h) with h2 | rfl | h2
      · exact .inl (.inr ⟨rfl, h2⟩)
      · exact .inr (.inl rfl)
      · exact .inr (.inr (.inr ⟨rfl, h2⟩))
    · exact .inr (.inr (.inl h1))
theorem slt.tri (u v : List Nat) : slt u v ∨ u = v ∨ slt v u := by
  rcases Nat.lt_trichotomy u.length v.length with h | h | h
  · exact .inl (.inl h)
  · rcases lexL.tri h with h2 | h2 | h2
    · exact .inl (.inr ⟨h, h2⟩)
    · exact .inr (.inl h2)
    · exact .inr (.inr (.inr ⟨h.symm, h2⟩))
  · exact .inr (.inr (.inl h))
def Evs (many : Nat) (w : List Nat) : Prop := ∀ j ∈ w, j < many
def First (rs : List RRoom) (many : Nat) (p : Pr) (w : List Nat) : Prop := Evs many w ∧ Parts rs p w ∧ ∀ v, Evs many v → Parts rs p v → ¬ slt v w
theorem First.one {rs : List RRoom} {many : Nat} {p : Pr} {u v : List Nat} (h1 : First rs many p u) (h2 : First rs many p v) : u = v := by
  rcases slt.tri u v with h | h | h
  · exact absurd h (h2.2.2 u h1.1 h1.2.1)
  · exact h
  · exact absurd h (h1.2.2 v h2.1 h2.2.1)
def goW (rs : List RRoom) : Pr → List Nat → Pr
  | p, [] => p
  | p, j :: w => goW rs (nextP rs p j) w
theorem goW_snoc (rs : List RRoom) : ∀ (p : Pr) (w : List Nat) (j : Nat), goW rs p (w ++ [j]) = nextP rs (goW rs p w) j
  | p, [], j => rfl
  | p, i :: w, j => goW_snoc rs (nextP rs p i) w j
theorem parts_app {rs : List RRoom} : ∀ {p : Pr} {u w : List Nat}, Parts rs (goW rs p u) w → Parts rs p (u ++ w)
  | p, [], w, h => h
  | p, j :: u, w, h => .inr (parts_app (p := nextP rs p j) h)
end L2
namespace L2
open PySem PySem.Spec PyProof.Rows
theorem ChainP.mono {w1 w2 : Pr → Option (Option (Pr × Nat))} (h : ∀ p w, w1 p = some w → w2 p = some w) {w : Option (Pr × Nat)} {js : List Nat} (c : ChainP w1 w js) : ChainP w2 w js := by
  induction c with
  | nil => exact .nil
  | cons e _ ih => exact .cons (h _ _ e) ih
structure Bfs (rs : List RRoom) (many x y n j : Nat) (S : Pst) (ps : List (List Nat)) : Prop where
  len : ps.length = S.found.length
  at_ : ∀ (i : Nat) (q : Pr) (π : List Nat), S.found[i]? = some q → ps[i]? = some π → goW rs (x, y) π = q ∧ Evs many π ∧ ∃ w, S.ways q = some w ∧ ChainP S.ways w π.reverse
  head : ps[0]? = some []
  inc : ∀ (i k : Nat) (π ρ : List Nat), i < k → ps[i]? = some π → ps[k]? = some ρ → slt π ρ
  bnd : ∀ (π ρ : List Nat), ps[n]? = some π → ρ ∈ ps → slt ρ (π ++ [j])
  conn : ∀ a b, S.rep a = S.rep b → Conn S.found a b
  eq : ∀ q ∈ S.found, S.rep q.1 = S.rep q.2
  old : ∀ q, S.ways q ≠ none → q ∈ S.found
  hist : ∀ (m i : Nat) (π : List Nat), ps[m]? = some π → (m < n ∨ (m = n ∧ i < j)) → i < many → (π ++ [i]) ∈ ps ∨ ∃ l : List Pr, (∀ q ∈ l, ∃ ρ, ρ ∈ ps ∧ goW rs (x, y) ρ = q ∧ Evs many ρ ∧ slt ρ (π ++ [i])) ∧ Conn l (nextP rs (goW rs (x, y) π) i).1 (nextP rs (goW rs (x, y) π) i).2
theorem Bfs.first (rs : List RRoom) (many x y : Nat) : Bfs rs many x y 0 0 (Pst.first x y) [[]] := by
  refine ⟨rfl, fun i q π h1 h2 => ?_, rfl, fun i k π ρ h h1 h2 => ?_, fun π ρ h1 h2 => ?_, ?_, fun q hq => ?_, fun q hq => ?_, fun m i π h1 h2 => ?_⟩
  · cases i with
    | zero =>
      obtain rfl : (x, y) = q := by simpa [Pst.first] using h1
      obtain rfl : [] = π := by simpa using h2
      exact ⟨rfl, fun j hj => (by simp at hj), none, by simp [Pst.first], .nil⟩
    | succ i => simp at h2
  · have h3 := (List.getElem?_eq_some_iff.mp h2).1
    simp at h3
    omega
  · obtain rfl : [] = π := by simpa using h1
    obtain rfl : ρ = [] := by simpa using h2
    exact .inl (by simp)
  · have := Conn.uni (l := []) (rep := id) (fun a b e => by cases e; exact .refl _) x y
    simpa [Pst.first] using this
  · obtain rfl : q = (x, y) := by simpa [Pst.first] using hq
    exact uni_self (fun z => rfl)
  · by_cases e : q = (x, y)
    · simp [Pst.first, e]
    · simp [Pst.first, e] at hq
  · have := (List.getElem?_eq_some_iff.mp h1).1
    simp at this
    omega
theorem Bfs.go {rs : List RRoom} {many x y n j : Nat} {S : Pst} {ps : List (List Nat)} (h : Bfs rs many x y n j S ps) {p : Pr} (hp : S.found[n]? = some p) (hj : j < many) : ∃ qs, Bfs rs many x y n (j + 1) (S.go rs p j) (ps ++ qs) := by
  have hn : n < ps.length := by rw [h.len]; exact (List.getElem?_eq_some_iff.mp hp).1
  obtain ⟨π, hπ⟩ : ∃ π, ps[n]? = some π := ⟨_, List.getElem?_eq_getElem hn⟩
  obtain ⟨g1, g2, w0, g3, g4⟩ := h.at_ n p π hp hπ
  unfold Pst.go
  split
  · next he =>
    refine ⟨[], ?_⟩
    rw [List.append_nil]
    refine ⟨h.len, h.at_, h.head, h.inc, fun π' ρ h1 h2 => ?_, h.conn, h.eq, h.old, fun m i ρ h1 h2 h3 => ?_⟩
    · rw [hπ] at h1
      cases h1
      exact (h.bnd π ρ hπ h2).trans (slt.last (by omega))
    · by_cases hc : m < n ∨ (m = n ∧ i < j)
      · exact h.hist m i ρ h1 hc h3
      · have hm : m = n := by omega
        have hi : i = j := by omega
        subst hm hi
        rw [hπ] at h1
        cases h1
        rw [g1]
        refine .inr ⟨S.found, fun q hq => ?_, h.conn _ _ he⟩
        obtain ⟨k, hk, rfl⟩ := List.mem_iff_getElem.mp hq
        have hk' : k < ps.length := by rw [h.len]; exact hk
        obtain ⟨a1, a2, _⟩ := h.at_ k _ _ (List.getElem?_eq_getElem hk) (List.getElem?_eq_getElem hk')
        exact ⟨ps[k], List.getElem_mem _, a1, a2, h.bnd π _ hπ (List.getElem_mem _)⟩
  · next he =>
    have hnew : nextP rs p j ∉ S.found := fun hq => he (h.eq _ hq)
    have hnone : S.ways (nextP rs p j) = none := Classical.byContradiction fun z => hnew (h.old _ z)
    have wm : ∀ q w, S.ways q = some w → (fun q => if q = nextP rs p j then some (some (p, j)) else S.ways q) q = some w := fun q w e => by
      show (if q = nextP rs p j then _ else _) = _
      rw [if_neg (fun z => by rw [z, hnone] at e; cases e)]
      exact e
    refine ⟨[π ++ [j]], by simp [h.len], fun i q ρ h1 h2 => ?_, ?_, fun i k ρ τ hik h1 h2 => ?_, fun π' ρ h1 h2 => ?_, ?_, fun q hq => ?_, fun q hq => ?_, fun m i ρ h1 h2 h3 => ?_⟩
    · by_cases hi : i < ps.length
      · rw [List.getElem?_append_left hi] at h2
        rw [List.getElem?_append_left (by rw [← h.len]; exact hi)] at h1
        obtain ⟨a1, a2, w, a3, a4⟩ := h.at_ i q ρ h1 h2
        exact ⟨a1, a2, w, wm q w a3, a4.mono wm⟩
      · have hi2 := (List.getElem?_eq_some_iff.mp h2).1
        rw [List.length_append, List.length_singleton] at hi2
        rw [List.getElem?_append_right (by omega), show i - ps.length = 0 by omega] at h2
        rw [List.getElem?_append_right (by rw [← h.len]; omega), show i - S.found.length = 0 by rw [← h.len]; omega] at h1
        obtain rfl : π ++ [j] = ρ := by simpa using h2
        obtain rfl : nextP rs p j = q := by simpa using h1
        refine ⟨by rw [goW_snoc, g1], fun k hk => ?_, some (p, j), if_pos rfl, ?_⟩
        · rcases List.mem_append.mp hk with hk | hk
          · exact g2 k hk
          · rw [List.mem_singleton.mp hk]; exact hj
        · rw [List.reverse_append]
          exact .cons (wm p w0 g3) (g4.mono wm)
    · rw [List.getElem?_append_left (by omega)]
      exact h.head
    · by_cases hk : k < ps.length
      · rw [List.getElem?_append_left hk] at h2
        rw [List.getElem?_append_left (by omega)] at h1
        exact h.inc i k ρ τ hik h1 h2
      · have hk2 := (List.getElem?_eq_some_iff.mp h2).1
        rw [List.length_append, List.length_singleton] at hk2
        rw [List.getElem?_append_right (by omega), show k - ps.length = 0 by omega] at h2
        obtain rfl : π ++ [j] = τ := by simpa using h2
        rw [List.getElem?_append_left (by omega)] at h1
        exact h.bnd π ρ hπ (List.mem_of_getElem? h1)
    · rw [List.getElem?_append_left hn, hπ] at h1
      cases h1
      rcases List.mem_append.mp h2 with h2 | h2
      · exact (h.bnd π ρ hπ h2).trans (slt.last (by omega))
      · rw [List.mem_singleton.mp h2]
        exact slt.last (by omega)
    · exact Conn.uni h.conn _ _
    · rcases List.mem_append.mp hq with hq | hq
      · exact uni_eq (h.eq q hq)
      · rw [List.mem_singleton.mp hq]
        show uni _ _ _ _ = uni _ _ _ _
        unfold uni
        rw [if_pos rfl]
        split <;> rfl
    · by_cases e : q = nextP rs p j
      · rw [e]; simp
      · have hq' : S.ways q ≠ none := by
          have hq2 : (if q = nextP rs p j then some (some (p, j)) else S.ways q) ≠ none := hq
          rw [if_neg e] at hq2
          exact hq2
        exact List.mem_append_left _ (h.old q hq')
    · have hm : m ≤ n := by omega
      rw [List.getElem?_append_left (by omega)] at h1
      by_cases hc : m < n ∨ (m = n ∧ i < j)
      · rcases h.hist m i ρ h1 hc h3 with h4 | ⟨l, h4, h5⟩
        · exact .inl (List.mem_append_left _ h4)
        · refine .inr ⟨l, fun q hq => ?_, h5⟩
          obtain ⟨τ, b1, b2⟩ := h4 q hq
          exact ⟨τ, List.mem_append_left _ b1, b2⟩
      · have hm : m = n := by omega
        have hi : i = j := by omega
        subst hm hi
        rw [hπ] at h1
        cases h1
        exact .inl (by simp)
theorem Bfs.all {rs : List RRoom} {many x y n : Nat} {S : Pst} {ps : List (List Nat)} (h : Bfs rs many x y n 0 S ps) {p : Pr} (hp : S.found[n]? = some p) : ∀ j, j ≤ many → ∃ qs, Bfs rs many x y n j (S.all rs p j) (ps ++ qs)
  | 0, _ => ⟨[], by rw [List.append_nil]; exact h⟩
  | j + 1, hj => by
    obtain ⟨qs, ih⟩ := Bfs.all h hp j (by omega)
    obtain ⟨t, e⟩ := Pst.all_found rs p j S
    have hp' : (S.all rs p j).found[n]? = some p := by
      rw [e, List.getElem?_append_left (List.getElem?_eq_some_iff.mp hp).1]
      exact hp
    obtain ⟨ts, h2⟩ := ih.go hp' (by omega)
    exact ⟨qs ++ ts, by rw [← List.append_assoc]; exact h2⟩
theorem Bfs.next {rs : List RRoom} {many x y n : Nat} {S : Pst} {ps : List (List Nat)} (h : Bfs rs many x y n many S ps) (hn : n < ps.length) : Bfs rs many x y (n + 1) 0 S ps := by
  obtain ⟨π, hπ⟩ : ∃ π, ps[n]? = some π := ⟨_, List.getElem?_eq_getElem hn⟩
  refine ⟨h.len, h.at_, h.head, h.inc, fun ρ τ h1 h2 => ?_, h.conn, h.eq, h.old, fun m i ρ h1 h2 h3 => ?_⟩
  · exact (h.bnd π τ hπ h2).trans ((h.inc n (n + 1) π ρ (by omega) hπ h1).snoc _ _)
  · exact h.hist m i ρ h1 (by omega) h3
theorem Bfs.run (rs : List RRoom) (many x y : Nat) : ∀ n, n ≤ (Pst.run rs many x y n).found.length → ∃ ps, Bfs rs many x y n 0 (Pst.run rs many x y n) ps
  | 0, _ => ⟨[[]], Bfs.first rs many x y⟩
  | n + 1, hn => by
    cases e : (Pst.run rs many x y n).found[n]? with
    | none =>
      have e2 : Pst.run rs many x y (n + 1) = Pst.run rs many x y n := by
        show (match (Pst.run rs many x y n).found[n]? with | some p => (Pst.run rs many x y n).all rs p many | none => Pst.run rs many x y n) = _
        rw [e]
      have := List.getElem?_eq_none_iff.mp e
      rw [e2] at hn
      omega
    | some p =>
      have e2 : Pst.run rs many x y (n + 1) = (Pst.run rs many x y n).all rs p many := by
        show (match (Pst.run rs many x y n).found[n]? with | some p => (Pst.run rs many x y n).all rs p many | none => Pst.run rs many x y n) = _
        rw [e]
      have hl := (List.getElem?_eq_some_iff.mp e).1
      obtain ⟨ps, ih⟩ := Bfs.run rs many x y n (by omega)
      obtain ⟨qs, h2⟩ := ih.all e many (Nat.le_refl _)
      rw [e2]
      exact ⟨ps ++ qs, h2.next (by rw [List.length_append, ih.len]; omega)⟩
theorem parts_split {rs : List RRoom} : ∀ {p : Pr} {u w : List Nat}, Parts rs p (u ++ w) → (∃ t, 0 < t ∧ t ≤ u.length ∧ Parts rs p (u.take t)) ∨ Parts rs (goW rs p u) w
  | p, [], w, h => .inr h
  | p, j :: u, w, h => by
    rcases h with h | h
    · exact .inl ⟨1, by omega, by simp, .inl h⟩
    · rcases parts_split (p := nextP rs p j) (u := u) h with ⟨t, h1, h2, h3⟩ | h
      · exact .inl ⟨t + 1, by omega, by simp; omega, .inr h3⟩
      · exact .inr h
theorem Bfs.way {rs : List RRoom} {many x y n j : Nat} {S : Pst} {ps : List (List Nat)} (h : Bfs rs many x y n j S ps) {R : List Nat} (hR : First rs many (x, y) R) (hb : ∀ (m i k : Nat), k + 1 < R.length → ps[m]? = some (R.take k) → R[k]? = some i → (m < n ∨ (m = n ∧ i < j))) : ∀ k, k < R.length → R.take k ∈ ps
  | 0, _ => by rw [List.take_zero]; exact List.mem_of_getElem? h.head
  | k + 1, hk => by
    have ih := Bfs.way h hR hb k (by omega)
    obtain ⟨m, hm, e⟩ := List.mem_iff_getElem.mp ih
    have hm' : ps[m]? = some (R.take k) := by rw [List.getElem?_eq_getElem hm, e]
    have hk' : R[k]? = some R[k] := List.getElem?_eq_getElem (by omega)
    have htk : R.take (k + 1) = R.take k ++ [R[k]] := by rw [List.take_add_one, hk']; rfl
    rcases h.hist m R[k] (R.take k) hm' (hb m R[k] k hk hm' hk') (hR.1 _ (List.getElem_mem _)) with h1 | ⟨l, h1, h2⟩
    · rw [htk]; exact h1
    · exfalso
      have hsp : Parts rs (x, y) (R.take (k + 1) ++ R.drop (k + 1)) := by rw [List.take_append_drop]; exact hR.2.1
      rcases parts_split hsp with ⟨t, t1, t2, t3⟩ | h3
      · rw [List.take_take] at t3
        refine hR.2.2 _ (fun i hi => hR.1 i (List.mem_of_mem_take hi)) t3 (.inl ?_)
        rw [List.length_take] at t2 ⊢
        omega
      · rw [htk, goW_snoc] at h3
        obtain ⟨q, hq, h4⟩ := h2.parts h3
        obtain ⟨ρ, b1, b2, b3, b4⟩ := h1 q hq
        rw [← b2] at h4
        have h5 := parts_app h4
        refine hR.2.2 _ (fun i hi => ?_) h5 ?_
        · rcases List.mem_append.mp hi with hi | hi
          · exact b3 i hi
          · exact hR.1 i (List.mem_of_mem_drop hi)
        · have := b4.app (R.drop (k + 1))
          rw [← htk, List.take_append_drop] at this
          exact this
theorem First.last {rs : List RRoom} {many : Nat} {p : Pr} {R : List Nat} (hR : First rs many p R) (h0 : (roomA rs p.1).1 = (roomA rs p.2).1) : ∃ u i, R = u ++ [i] ∧ Differs rs (goW rs p u) i ∧ i < many := by
  have hne : R ≠ [] := fun e => by
    have := hR.2.1
    rw [e] at this
    exact this h0
  obtain ⟨u, i, e⟩ : ∃ u i, R = u ++ [i] := ⟨R.dropLast, R.getLast hne, (List.dropLast_concat_getLast hne).symm⟩
  refine ⟨u, i, e, ?_, hR.1 i (by rw [e]; simp)⟩
  have h1 := hR.2.1
  rw [e] at h1
  rcases parts_split h1 with ⟨t, t1, t2, t3⟩ | h
  · exfalso
    refine hR.2.2 _ (fun k hk => hR.1 k ?_) t3 (.inl ?_)
    · rw [e]; exact List.mem_append_left _ (List.mem_of_mem_take hk)
    · rw [e, List.length_take]; simp; omega
  · exact h
theorem parting_none {rs : List RRoom} {many x y n : Nat} (h0 : (roomA rs x).1 = (roomA rs y).1) (hn : (Pst.run rs many x y n).found.length = n) (hd : ∀ i p, i < n → (Pst.run rs many x y n).found[i]? = some p → ∀ j, j < many → ¬ Differs rs p j) : ∀ R, ¬ First rs many (x, y) R := by
  intro R hR
  obtain ⟨ps, h⟩ := Bfs.run rs many x y n (by omega)
  obtain ⟨u, i, e, h1, h2⟩ := hR.last h0
  have hw := h.way hR (fun m i k _ hm _ => .inl (by have := (List.getElem?_eq_some_iff.mp hm).1; rw [h.len] at this; omega)) u.length (by rw [e]; simp)
  rw [e, List.take_left'] at hw
  · obtain ⟨m, hm, em⟩ := List.mem_iff_getElem.mp hw
    have hm2 : m < (Pst.run rs many x y n).found.length := by rw [← h.len]; exact hm
    obtain ⟨a1, _⟩ := h.at_ m _ u (List.getElem?_eq_getElem hm2) (by rw [List.getElem?_eq_getElem hm, em])
    rw [a1] at h1
    exact hd m _ (by omega) (List.getElem?_eq_getElem hm2) i h2 h1
  · rfl
theorem parting_some {rs : List RRoom} {many x y n j : Nat} {p : Pr} (h0 : (roomA rs x).1 = (roomA rs y).1) (hp : (Pst.run rs many x y n).found[n]? = some p) (hj : j < many) (hD : Differs rs p j) (hd : ∀ i q, i < n → (Pst.run rs many x y n).found[i]? = some q → ∀ j, j < many → ¬ Differs rs q j) (hd2 : ∀ j', j' < j → ¬ Differs rs p j') {js : List Nat} (hc : ChainP ((Pst.run rs many x y n).all rs p j).ways (some (p, j)) js) : ∀ R, First rs many (x, y) R → R = js.reverse := by
  intro R hR
  have hl := (List.getElem?_eq_some_iff.mp hp).1
  obtain ⟨ps0, hB⟩ := Bfs.run rs many x y n (by omega)
  obtain ⟨qs, h⟩ := hB.all hp j (by omega)
  obtain ⟨t, et⟩ := Pst.all_found rs p j (Pst.run rs many x y n)
  generalize hS : (Pst.run rs many x y n).all rs p j = S at *
  have hp' : S.found[n]? = some p := by rw [et, List.getElem?_append_left hl]; exact hp
  have hn : n < (ps0 ++ qs).length := by rw [h.len]; exact (List.getElem?_eq_some_iff.mp hp').1
  generalize ps0 ++ qs = ps at h hn
  obtain ⟨π, hπ⟩ : ∃ π, ps[n]? = some π := ⟨_, List.getElem?_eq_getElem hn⟩
  obtain ⟨g1, g2, w0, g3, g4⟩ := h.at_ n p π hp' hπ
  have hjs : js.reverse = π ++ [j] := by
    cases hc with
    | @cons _ _ w js' c1 c2 =>
      rw [g3] at c1
      cases c1
      have uq : ∀ {w : Option (Pr × Nat)} {a b : List Nat}, ChainP S.ways w a → ChainP S.ways w b → a = b := by
        intro w a b ha
        induction ha generalizing b with
        | nil => intro hb; cases hb; rfl
        | cons e _ ih =>
          intro hb
          cases hb with
          | cons e' c' =>
            rw [e] at e'
            cases e'
            rw [ih c']
      rw [uq c2 g4]
      simp
  rw [hjs]
  have hpar : Parts rs (x, y) (π ++ [j]) := parts_app (by rw [g1]; exact hD)
  have hev : Evs many (π ++ [j]) := fun k hk => by
    rcases List.mem_append.mp hk with hk | hk
    · exact g2 k hk
    · rw [List.mem_singleton.mp hk]; exact hj
  rcases slt.tri R (π ++ [j]) with hs | hs | hs
  · exfalso
    have bef : ∀ (m i : Nat) (u : List Nat), ps[m]? = some u → slt (u ++ [i]) (π ++ [j]) → m < n ∨ (m = n ∧ i < j) := fun m i u hm hsl => by
      rcases Nat.lt_trichotomy m n with hmn | hmn | hmn
      · exact .inl hmn
      · subst hmn
        rw [hπ] at hm
        cases hm
        refine .inr ⟨rfl, ?_⟩
        rcases Nat.lt_trichotomy i j with hij | hij | hij
        · exact hij
        · subst hij
          exact absurd hsl slt.irr
        · exact absurd (hsl.trans (slt.last hij)) slt.irr
      · exact absurd (hsl.trans ((h.inc n m π u hmn hπ hm).snoc j i)) slt.irr
    obtain ⟨u, i, e, h1, h2⟩ := hR.last h0
    have hw := h.way hR (fun m i' k hk hm hk' => by
      refine bef m i' _ hm (slt.trans (v := R) (.inl ?_) hs)
      rw [List.length_append, List.length_take, List.length_singleton]
      omega) u.length (by rw [e]; simp)
    rw [e, List.take_left' rfl] at hw
    obtain ⟨m, hm, em⟩ := List.mem_iff_getElem.mp hw
    have hm' : ps[m]? = some u := by rw [List.getElem?_eq_getElem hm, em]
    have hm2 : m < S.found.length := by rw [← h.len]; exact hm
    obtain ⟨a1, _⟩ := h.at_ m _ u (List.getElem?_eq_getElem hm2) hm'
    rw [a1] at h1
    rcases bef m i u hm' (e ▸ hs) with hb | ⟨rfl, hb⟩
    · refine hd m _ hb ?_ i h2 h1
      have : S.found[m]? = some S.found[m] := List.getElem?_eq_getElem hm2
      rw [← this, et, List.getElem?_append_left (by omega)]
    · rw [List.getElem?_eq_getElem hm2] at hp'
      cases hp'
      exact hd2 i hb h1
  · exact hs
  · exact absurd hs (hR.2.2 _ hev hpar)
end L2
namespace L2
open PySem PySem.Spec PyProof.Rows
structure MinL (rs : List RRoom) (many : Nat) (p : Pr) (n : Nat) : Prop where
  has : ∃ w, Evs many w ∧ Parts rs p w ∧ w.length = n
  least : ∀ w, Evs many w → Parts rs p w → n ≤ w.length
@[reducible] def SaidUn (rs : List RRoom) (p : Pr) (j : Nat) : Prop := (rowA rs p.1 j).1 ≠ (rowA rs p.2 j).1
section
variable {rs : List RRoom} {many : Nat} {p : Pr}
theorem MinL.one {n m : Nat} (a : MinL rs many p n) (b : MinL rs many p m) : n = m := by
  obtain ⟨w, h1, h2, h3⟩ := a.has
  obtain ⟨v, g1, g2, g3⟩ := b.has
  have := a.least v g1 g2
  have := b.least w h1 h2
  omega
theorem MinL.of {w : List Nat} (h1 : Evs many w) (h2 : Parts rs p w) : ∃ n, n ≤ w.length ∧ MinL rs many p n := by
  suffices ∀ k (w : List Nat), w.length ≤ k → Evs many w → Parts rs p w → ∃ n, n ≤ w.length ∧ MinL rs many p n from this _ w (Nat.le_refl _) h1 h2
  intro k
  induction k with
  | zero => exact fun w hk h1 h2 => ⟨0, Nat.zero_le _, ⟨w, h1, h2, by omega⟩, fun _ _ _ => Nat.zero_le _⟩
  | succ k ih =>
    intro w hk h1 h2
    by_cases hx : ∃ v, Evs many v ∧ Parts rs p v ∧ v.length < w.length
    · obtain ⟨v, g1, g2, g3⟩ := hx
      obtain ⟨n, a, b⟩ := ih v (by omega) g1 g2
      exact ⟨n, by omega, b⟩
    · exact ⟨w.length, Nat.le_refl _, ⟨w, h1, h2, rfl⟩, fun v g1 g2 => Nat.le_of_not_lt fun z => hx ⟨v, g1, g2, z⟩⟩
theorem MinL.zero : MinL rs many p 0 ↔ (roomA rs p.1).1 ≠ (roomA rs p.2).1 := by
  constructor
  · rintro ⟨⟨w, _, h, e⟩, _⟩
    rw [List.length_eq_zero_iff.mp e] at h
    exact h
  · exact fun h => ⟨⟨[], fun _ z => absurd z (by simp), h, rfl⟩, fun _ _ _ => Nat.zero_le _⟩
theorem evs_cons {j : Nat} {w : List Nat} (h : j < many) (h2 : Evs many w) : Evs many (j :: w) := fun i hi => by
  rcases List.mem_cons.mp hi with rfl | hi
  · exact h
  · exact h2 i hi
def Cand (rs : List RRoom) (many : Nat) (dv : Pr → Option Nat) (p : Pr) (j c : Nat) : Prop := j < many ∧ ((SaidUn rs p j ∧ c = 1) ∨ (¬ SaidUn rs p j ∧ ∃ n, dv (nextP rs p j) = some n ∧ c = 1 + n))
def Rnd (rs : List RRoom) (many N k : Nat) (dv : Pr → Option Nat) : Prop := ∀ p : Pr, p.1 < N → p.2 < N → ∀ n, dv p = some n ↔ MinL rs many p n ∧ n ≤ k
variable {N k : Nat} {dv : Pr → Option Nat}
theorem Rnd.cand (R : Rnd rs many N k dv) (hN : ∀ p : Pr, p.1 < N → p.2 < N → ∀ j, j < many → (nextP rs p j).1 < N ∧ (nextP rs p j).2 < N) (h1 : p.1 < N) (h2 : p.2 < N) (hd : dv p = none) {j M : Nat} (hc : Cand rs many dv p j M) (hm : ∀ j c, Cand rs many dv p j c → M ≤ c) : MinL rs many p M ∧ M ≤ k + 1 := by
  have no : ∀ n, n ≤ k → ¬ MinL rs many p n := fun n hn z => by rw [(R p h1 h2 n).mpr ⟨z, hn⟩] at hd; cases hd
  have hM : M ≤ k + 1 ∧ ∃ w, Evs many w ∧ Parts rs p w ∧ w.length = M := by
    obtain ⟨hj, ⟨a, rfl⟩ | ⟨a, n, b, rfl⟩⟩ := hc
    · exact ⟨by omega, [j], evs_cons hj (fun _ z => absurd z (by simp)), .inl a, rfl⟩
    · obtain ⟨c1, c2⟩ := (R _ (hN p h1 h2 j hj).1 (hN p h1 h2 j hj).2 n).mp b
      obtain ⟨w, d1, d2, d3⟩ := c1.has
      exact ⟨by omega, j :: w, evs_cons hj d1, .inr d2, by simp [d3]; omega⟩
  refine ⟨⟨hM.2, fun v g1 g2 => ?_⟩, hM.1⟩
  cases v with
  | nil => exact absurd (MinL.zero.mpr g2) (no 0 (Nat.zero_le _))
  | cons i v =>
    have hi : i < many := g1 i List.mem_cons_self
    by_cases hs : SaidUn rs p i
    · have := hm i 1 ⟨hi, .inl ⟨hs, rfl⟩⟩
      simp only [List.length_cons]
      omega
    · have g3 : Parts rs (nextP rs p i) v := by
        rcases g2 with g2 | g2
        · exact absurd g2 hs
        · exact g2
      obtain ⟨n, e1, e2⟩ := MinL.of (fun x hx => g1 x (List.mem_cons_of_mem _ hx)) g3
      simp only [List.length_cons]
      by_cases hn : n ≤ k
      · have := hm i (1 + n) ⟨hi, .inr ⟨hs, n, (R _ (hN p h1 h2 i hi).1 (hN p h1 h2 i hi).2 n).mpr ⟨e2, hn⟩, rfl⟩⟩
        omega
      · have := hM.1
        omega
theorem Rnd.noCand (R : Rnd rs many N k dv) (hN : ∀ p : Pr, p.1 < N → p.2 < N → ∀ j, j < many → (nextP rs p j).1 < N ∧ (nextP rs p j).2 < N) (h1 : p.1 < N) (h2 : p.2 < N) (hd : dv p = none) (hc : ∀ j c, ¬ Cand rs many dv p j c) : ∀ n, ¬ (MinL rs many p n ∧ n ≤ k + 1) := by
  rintro n ⟨a, hn⟩
  have no : ∀ n, n ≤ k → ¬ MinL rs many p n := fun n hn z => by rw [(R p h1 h2 n).mpr ⟨z, hn⟩] at hd; cases hd
  obtain ⟨w, b1, b2, b3⟩ := a.has
  cases w with
  | nil => exact no 0 (Nat.zero_le _) (MinL.zero.mpr b2)
  | cons i w =>
    have hi : i < many := b1 i List.mem_cons_self
    by_cases hs : SaidUn rs p i
    · exact hc i 1 ⟨hi, .inl ⟨hs, rfl⟩⟩
    · rcases b2 with b2 | b2
      · exact hs b2
      · obtain ⟨m, e1, e2⟩ := MinL.of (fun x hx => b1 x (List.mem_cons_of_mem _ hx)) b2
        simp only [List.length_cons] at b3
        exact hc i (1 + m) ⟨hi, .inr ⟨hs, m, (R _ (hN p h1 h2 i hi).1 (hN p h1 h2 i hi).2 m).mpr ⟨e2, by omega⟩, rfl⟩⟩
theorem MinL.tail {m : Nat} (h : MinL rs many p (m + 1)) (hm : 0 < m) : ∃ j, j < many ∧ ¬ SaidUn rs p j ∧ MinL rs many (nextP rs p j) m := by
  obtain ⟨w, a1, a2, a3⟩ := h.has
  cases w with
  | nil => simp at a3
  | cons i w =>
    have hi : i < many := a1 i List.mem_cons_self
    simp only [List.length_cons] at a3
    have hs : ¬ SaidUn rs p i := fun z => by
      have := h.least [i] (evs_cons hi (fun _ z => absurd z (by simp))) (.inl z)
      simp at this
      omega
    rcases a2 with a2 | a2
    · exact absurd a2 hs
    · refine ⟨i, hi, hs, ⟨w, fun x hx => a1 x (List.mem_cons_of_mem _ hx), a2, by omega⟩, fun v g1 g2 => ?_⟩
      have := h.least (i :: v) (evs_cons hi g1) (.inr g2)
      simp at this
      omega
theorem Rnd.done (R : Rnd rs many N k dv) (hN : ∀ p : Pr, p.1 < N → p.2 < N → ∀ j, j < many → (nextP rs p j).1 < N ∧ (nextP rs p j).2 < N) (hz : ∀ p : Pr, p.1 < N → p.2 < N → ¬ MinL rs many p (k + 1)) (h1 : p.1 < N) (h2 : p.2 < N) (n : Nat) : dv p = some n ↔ MinL rs many p n := by
  refine ⟨fun h => ((R p h1 h2 n).mp h).1, fun h => (R p h1 h2 n).mpr ⟨h, Nat.le_of_not_lt fun hk => ?_⟩⟩
  suffices ∀ t (p : Pr), p.1 < N → p.2 < N → ¬ MinL rs many p (k + 1 + t) from this (n - (k + 1)) p h1 h2 (by rw [show k + 1 + (n - (k + 1)) = n by omega]; exact h)
  intro t
  induction t with
  | zero => exact hz
  | succ t ih =>
    intro p h1 h2 h
    obtain ⟨j, hj, _, h3⟩ := MinL.tail (m := k + 1 + t) h (by omega)
    exact ih _ (hN p h1 h2 j hj).1 (hN p h1 h2 j hj).2 h3
theorem First.len {n : Nat} {w : List Nat} (h : MinL rs many p n) (f : First rs many p w) : w.length = n := by
  obtain ⟨v, a1, a2, a3⟩ := h.has
  have := h.least w f.1 f.2.1
  have := f.2.2 v a1 a2
  unfold slt at this
  omega
theorem First.nil (h : MinL rs many p 0) : First rs many p [] := ⟨fun _ z => absurd z (by simp), MinL.zero.mp h, fun v _ _ z => by
  rcases z with z | ⟨z, z2⟩
  · simp at z
  · rw [List.length_eq_zero_iff.mp z] at z2
    exact z2.elim⟩
def Step (rs : List RRoom) (many : Nat) (p : Pr) (m j : Nat) : Prop := j < many ∧ ((SaidUn rs p j ∧ m = 0) ∨ (¬ SaidUn rs p j ∧ MinL rs many (nextP rs p j) m))
theorem Step.ex {m : Nat} (h : MinL rs many p (m + 1)) : ∃ j, Step rs many p m j := by
  obtain ⟨w, a1, a2, a3⟩ := h.has
  cases w with
  | nil => simp at a3
  | cons i w =>
    have hi : i < many := a1 i List.mem_cons_self
    by_cases hs : SaidUn rs p i
    · have := h.least [i] (evs_cons hi (fun _ z => absurd z (by simp))) (.inl hs)
      simp at this
      exact ⟨i, hi, .inl ⟨hs, by omega⟩⟩
    · simp only [List.length_cons] at a3
      rcases a2 with a2 | a2
      · exact absurd a2 hs
      · refine ⟨i, hi, .inr ⟨hs, ⟨w, fun x hx => a1 x (List.mem_cons_of_mem _ hx), a2, by omega⟩, fun v g1 g2 => ?_⟩⟩
        have := h.least (i :: v) (evs_cons hi g1) (.inr g2)
        simp at this
        omega
theorem Step.first {m j : Nat} {w : List Nat} (h : MinL rs many p (m + 1)) (s : Step rs many p m j) (hj : ∀ i, i < j → ¬ Step rs many p m i) (hw : (m = 0 ∧ w = []) ∨ (¬ SaidUn rs p j ∧ First rs many (nextP rs p j) w)) : First rs many p (j :: w) := by
  have hlen : w.length = m := by
    rcases hw with ⟨rfl, rfl⟩ | ⟨a, b⟩
    · rfl
    · rcases s.2 with ⟨c, _⟩ | ⟨_, c⟩
      · exact absurd c a
      · exact First.len c b
  have hP : Parts rs p (j :: w) := by
    rcases hw with ⟨rfl, rfl⟩ | ⟨a, b⟩
    · rcases s.2 with ⟨c, _⟩ | ⟨_, c⟩
      · exact .inl c
      · exact .inr (MinL.zero.mp c)
    · exact .inr b.2.1
  have hE : Evs many (j :: w) := by
    refine evs_cons s.1 ?_
    rcases hw with ⟨rfl, rfl⟩ | ⟨a, b⟩
    · exact fun _ z => absurd z (by simp)
    · exact b.1
  refine ⟨hE, hP, fun v g1 g2 z => ?_⟩
  have hv := h.least v g1 g2
  rcases z with z | ⟨z, z2⟩
  · simp only [List.length_cons] at z
    omega
  · cases v with
    | nil => simp at hv
    | cons i v =>
      have hi : i < many := g1 i List.mem_cons_self
      simp only [List.length_cons] at z hv
      have hSt : Step rs many p m i := by
        refine ⟨hi, ?_⟩
        by_cases hs : SaidUn rs p i
        · have := h.least [i] (evs_cons hi (fun _ z => absurd z (by simp))) (.inl hs)
          simp at this
          exact .inl ⟨hs, by omega⟩
        · rcases g2 with g2 | g2
          · exact absurd g2 hs
          · refine .inr ⟨hs, ⟨v, fun x hx => g1 x (List.mem_cons_of_mem _ hx), g2, by omega⟩, fun u e1 e2 => ?_⟩
            have := h.least (i :: u) (evs_cons hi e1) (.inr e2)
            simp at this
            omega
      rcases z2 with z2 | ⟨rfl, z2⟩
      · exact hj i z2 hSt
      · rcases hw with ⟨rfl, rfl⟩ | ⟨a, b⟩
        · cases v with
          | nil => exact z2.elim
          | cons _ _ => simp at z
        · rcases g2 with g2 | g2
          · exact a g2
          · exact b.2.2 v (fun x hx => g1 x (List.mem_cons_of_mem _ hx)) g2 (.inr ⟨by omega, z2⟩)
theorem First.ex : ∀ {n : Nat} {p : Pr}, MinL rs many p n → ∃ w, First rs many p w := by
  intro n
  induction n with
  | zero => exact fun h => ⟨[], First.nil h⟩
  | succ m ih =>
    intro p h
    have low : ∀ k j, j ≤ k → Step rs many p m j → ∃ j, Step rs many p m j ∧ ∀ i, i < j → ¬ Step rs many p m i := by
      intro k
      induction k with
      | zero => exact fun j hj hs => ⟨j, hs, fun i hi => absurd hi (by omega)⟩
      | succ k ih2 =>
        intro j hj hs
        by_cases hx : ∃ i, i < j ∧ Step rs many p m i
        · obtain ⟨i, h1, h2⟩ := hx
          exact ih2 i (by omega) h2
        · exact ⟨j, hs, fun i hi z => hx ⟨i, hi, z⟩⟩
    obtain ⟨j0, h0⟩ := Step.ex h
    obtain ⟨j, h1, h2⟩ := low j0 j0 (Nat.le_refl _) h0
    rcases h1.2 with ⟨_, hm⟩ | ⟨g1, g2⟩
    · exact ⟨[j], Step.first h h1 h2 (.inl ⟨hm, rfl⟩)⟩
    · obtain ⟨w, hw⟩ := ih g2
      exact ⟨j :: w, Step.first h h1 h2 (.inr ⟨g1, hw⟩)⟩
theorem parting_has {x y n j : Nat} {p : Pr} (hp : (Pst.run rs many x y n).found[n]? = some p) (hj : j < many) (hD : Differs rs p j) : ∃ π, Evs many (π ++ [j]) ∧ Parts rs (x, y) (π ++ [j]) ∧ ChainP ((Pst.run rs many x y n).all rs p j).ways (some (p, j)) (j :: π.reverse) := by
  have hl := (List.getElem?_eq_some_iff.mp hp).1
  obtain ⟨ps0, hB⟩ := Bfs.run rs many x y n (by omega)
  obtain ⟨qs, h⟩ := hB.all hp j (by omega)
  obtain ⟨t, et⟩ := Pst.all_found rs p j (Pst.run rs many x y n)
  generalize hS : (Pst.run rs many x y n).all rs p j = S at *
  have hp' : S.found[n]? = some p := by rw [et, List.getElem?_append_left hl]; exact hp
  have hn : n < (ps0 ++ qs).length := by rw [h.len]; exact (List.getElem?_eq_some_iff.mp hp').1
  generalize ps0 ++ qs = ps at h hn
  obtain ⟨π, hπ⟩ : ∃ π, ps[n]? = some π := ⟨_, List.getElem?_eq_getElem hn⟩
  obtain ⟨g1, g2, w0, g3, g4⟩ := h.at_ n p π hp' hπ
  refine ⟨π, fun k hk => ?_, parts_app (by rw [g1]; exact hD), .cons g3 g4⟩
  rcases List.mem_append.mp hk with hk | hk
  · exact g2 k hk
  · rw [List.mem_singleton.mp hk]; exact hj
end
end L2
namespace L2
open PySem PySem.Spec PyProof.Rows
section
variable {prog : Program} {w : World} {A : Around} {E : Value → Shared → Prop} {s : Shared}
theorem wp_mergeT {nm : String} {d c : Addr} {od oc : Obj} {es : Array DictEntry} {ep epd : Nat} {Q : Unit → Shared → Prop} (ne : (d == c) = false) (hs : (c == sysModules) = false)
    (hod : s.heap.get? d = some od) (hdd : od.data = .dict #[] epd) (hoc : s.heap.get? c = some oc) (hdc : oc.data = .dict es ep) (hz : es.size ≤ sizeLine)
    (hk : ∀ e ∈ es, ∃ a, e.key = .ref a ∧ s.TypeIs (.ref a) "tuple") (hh : ∀ e ∈ es, (es.filter (·.hash == e.hash)).size ≤ 1)
    (q0 : es = #[] → Q () s) (q : Q () { s with heap := s.heap.update d (Obj.mapDictKeys fun _ => es) }) : wpAny (model prog w) A (Builtin.Dict.mergeDict nm d c) Q E s := by
  unfold Builtin.Dict.mergeDict Builtin.Dict.showsAll
  rw [if_neg (by rw [ne]; simp), if_neg (by rw [hs]; simp)]
  refine wpAny_bind (wpAny_pure (wpAny_bind (wpAny_dictEntries hoc hdc ?_)))
  dsimp only
  by_cases h0 : es = #[]
  · subst h0
    rw [if_neg (by simp)]
    refine wpAny_bind (wpAny_dictEpoch hoc hdc (wpAny_bind (wpAny_dictEntries hoc hdc (wpAny_bind ?_))))
    rw [Std.Legacy.Range.forIn_eq_forIn_range']
    exact wpAny_pure (wpAny_pure (q0 rfl))
  · have hpos : 0 < es.size := Array.size_pos_iff.mpr h0
    have hall : (es.all fun e => (keyPart e.key).isSome) = false := by
      rw [Bool.eq_false_iff]
      intro hx
      obtain ⟨a, ea, _⟩ := hk es[0] (Array.getElem_mem hpos)
      have := Array.all_eq_true.mp hx 0 hpos
      rw [ea] at this
      cases this
    rw [if_pos (by rw [hall]; simp)]
    refine wpAny_bind (wpAny_dictEntries hod hdd ?_)
    rw [if_pos (by rfl)]
    unfold Builtin.Dict.entriesForEmpty
    refine wpAny_bind (wpAny_bind (wpAny_dictEntries hoc hdc (wpAny_bind ?_)))
    rw [← Array.forIn_toList]
    refine wpAny_forIn_list _ (fun rest _ s' => s' = s ∧ ∀ e ∈ rest, e ∈ es) _ ?_ ?_ _ _ ⟨rfl, fun e he => Array.mem_toList_iff.mp he⟩
    · rintro e rest b s' ⟨rfl, hr⟩
      obtain ⟨a, ea, ty⟩ := hk e (hr e List.mem_cons_self)
      have hs1 := hh e (hr e List.mem_cons_self)
      unfold Builtin.Dict.quietEq
      rw [ea]
      refine wpAny_bind (wpAny_bind (wpAny_specialOf ty F.slot_tuple_eq.lookup (wpAny_pure ?_)))
      rw [if_pos (by decide), if_neg (by omega)]
      exact wpAny_pure ⟨rfl, fun e he => hr e (List.mem_cons_of_mem _ he)⟩
    · rintro b s' ⟨rfl, _⟩
      refine wpAny_pure ?_
      rw [if_pos (by simp [h0])]
      exact wpAny_bind (wpAny_updateDictKeysTo hod hdd (wpAny_pure q) (by omega))
end
def rDictT (P : Params) : List V → Hp → VK → Prop := fun xs H Q => ∃ a kvs, xs = [.ref a] ∧ DtAt P H a kvs ∧ (∀ x ∈ kvs, ∃ ts, x.1 = .tup ts) ∧ (kvs.map fun x => x.1.hash P).Nodup ∧
  ∀ p o, H p = none → DtAt P (upd H p o) p kvs → Q (.ref p) (upd H p o)
theorem one_hash {es : Array DictEntry} (h : (es.toList.map (·.hash)).Nodup) {e : DictEntry} (he : e ∈ es) : (es.filter (·.hash == e.hash)).size ≤ 1 := by
  have h2 : ∀ l : List DictEntry, (l.map (·.hash)).Nodup → (l.filter (·.hash == e.hash)).length ≤ 1 := by
    intro l
    induction l with
    | nil => simp
    | cons x l ih =>
      intro hn
      rw [List.map_cons, List.nodup_cons] at hn
      rw [List.filter_cons]
      split
      · rename_i hx
        have hz : l.filter (·.hash == e.hash) = [] := List.filter_eq_nil_iff.mpr fun y hy hc => by
          rw [beq_iff_eq] at hx hc
          exact hn.1 (List.mem_map.mpr ⟨y, hy, by rw [hc, hx]⟩)
        rw [List.length_cons, hz]
        exact Nat.le_refl _
      · exact ih hn.2
  have := h2 es.toList h
  rw [← Array.length_toList, Array.toList_filter]
  exact this
section
variable {X : Cx} {P : Params}
theorem cl_dictT (hP : X.w.params = P) : CallR X (.type "dict") (rDictT P) := by
  subst hP
  intro pins s σ H xs us Q I r h
  obtain ⟨a, kvs, rfl, ⟨m, rfl, e2, e3, e4⟩, ht, hn, q⟩ := h
  obtain ⟨u, rfl, ru⟩ := vals1 r
  cases ru
  obtain ⟨o, es, ep, q1, q2, q3, q4, q5, z1, z2⟩ := dt_ents I e2 e3 e4
  have lt : a < s.heap.objs.size := Heap.lt_size q1
  have up : (s.heap.push { cls := .type "dict", data := .dict #[] }).get? a = some o := Heap.get?_push_of_some _ q1
  have nw : (s.heap.push { cls := .type "dict", data := .dict #[] }).get? s.heap.objs.size = some { cls := .type "dict", data := .dict #[] } := Heap.get?_push_size _ rfl
  have hsz : es.size ≤ sizeLine := by rw [q4.len]; exact z1
  have hkey : ∀ e ∈ es, ∃ b, e.key = .ref b ∧ ({ s with heap := s.heap.push { cls := .type "dict", data := .dict #[] } } : Shared).TypeIs (.ref b) "tuple" := fun e he => by
    obtain ⟨j, hj, rfl⟩ := Array.mem_iff_getElem.mp he
    obtain ⟨t, f1, f2, f3, f4⟩ := q5.at_ j _ (Array.getElem?_eq_getElem hj)
    rw [List.getElem?_map] at f1
    obtain ⟨x, hx, rfl⟩ := Option.map_eq_some_iff.mp f1
    obtain ⟨ts, hts⟩ := ht (x.1, x.2.2) (List.mem_map_of_mem (List.mem_of_getElem? hx))
    rw [show x.1 = .tup ts from hts] at f3
    simp only [Tr.In] at f3
    obtain ⟨b, us, hb, ⟨ob, p1, p2, _⟩, _⟩ := f3
    exact ⟨b, hb, ob, Heap.get?_push_of_some _ p1, p2⟩
  have hhash : (es.toList.map (·.hash)).Nodup := by
    have : es.toList.map (·.hash) = m.map fun x => x.1.hash X.w.params := by
      refine List.ext_getElem? fun j => ?_
      rw [List.getElem?_map, List.getElem?_map, Array.getElem?_toList]
      by_cases hj : j < m.length
      · obtain ⟨e, g1, g2, _⟩ := q4.at_ j m[j] (List.getElem?_eq_getElem hj)
        rw [g1, List.getElem?_eq_getElem hj, Option.map_some, Option.map_some, g2]
      · rw [List.getElem?_eq_none (Nat.le_of_not_lt hj), Array.getElem?_eq_none (by rw [q4.len]; omega)]
        rfl
    rw [this]
    rw [List.map_map] at hn
    exact hn
  refine callType_codes (Q₁ := fun obj s₁ => obj = .ref s.heap.objs.size ∧ s₁ = { s with heap := s.heap.push { cls := .type "dict", data := .dict #[] } }) F.kt_called_dict (F.kt_typeCall_dict_1 _) F.entry_dict_init (kt_code_dict_new _ ⟨rfl, rfl⟩) ?_
  rintro obj s₁ ⟨rfl, rfl⟩
  have tyn : ({ s with heap := s.heap.push { cls := .type "dict", data := .dict #[] } } : Shared).TypeIs (.ref s.heap.objs.size) "dict" := ⟨_, nw, rfl⟩
  have tya : ({ s with heap := s.heap.push { cls := .type "dict", data := .dict #[] } } : Shared).TypeIs (.ref a) "dict" := ⟨_, up, q2.1⟩
  refine ⟨tyn, F.args_dict_init_2 _ _, ?_⟩
  have good : ∀ h', (∀ b u, s.heap.get? b = some u → h'.get? b = some u) → (∃ o' ep', h'.get? s.heap.objs.size = some o' ∧ o'.ExactDict ∧ o'.data = .dict es ep') → ∃ x H', Inv X pins σ H' { s with heap := h' } ∧ RelV x (.ref s.heap.objs.size) ∧ Q x H' := by
    rintro h' kk ⟨o', ep', g1, g2, g3⟩
    have hf := I.hok.fresh (Nat.le_refl s.heap.objs.size)
    have sm : Same H (upd H s.heap.objs.size (DtO X.w.params s.heap.objs.size m)) := Same.new hf
    refine ⟨.ref s.heap.objs.size, upd H s.heap.objs.size (DtO X.w.params s.heap.objs.size m), I.laid (t' := s.toks) kk (Nat.le_refl _) (dto_ok ⟨z1, beq_eq_false_iff_ne.mpr (Ne.symm (Nat.ne_of_lt I.big)), o', es, ep', g1, g2, g3, q4⟩), rfl, ?_⟩
    exact q _ _ hf ⟨m, rfl, .of upd_same, fun x hx => ⟨tr_tups (e3 x hx).1 sm.tups, (e3 x hx).2⟩, e4⟩
  unfold Builtin.«dict.__init__» Builtin.Dict.selfAndRest
  refine wpAny_bind (wpAny_bind (wpAny_notOrdered_dict tyn (wpAny_pure ?_)))
  show wpAny _ _ (Builtin.Dict.updateFrom "dict.__init__" s.heap.objs.size (.ref a) [] .none) _ _ _
  unfold Builtin.Dict.updateFrom Builtin.Dict.merge Builtin.Dict.readDirectly
  refine wpAny_bind (wpAny_typeOf tya ?_)
  rw [if_neg (by decide)]
  refine wpAny_bind (wpAny_bind (wpAny_bind (wpAny_isInstance tya isSubtype_dict_dict ?_)))
  simp only [Bool.false_eq_true, Bool.not_true, if_false]
  refine wpAny_bind (wpAny_specialOf tya F.slot_dict_iter.lookup (wpAny_pure ?_))
  rw [if_pos (by decide)]
  refine wpAny_bind (wpAny_pure (wp_mergeT (beq_eq_false_iff_ne.mpr (Nat.ne_of_gt lt)) z2 nw rfl up q3 hsz hkey (fun e he => one_hash hhash he) (fun h0 => ?_) ?_))
  · show wpAny _ _ (Builtin.Dict.addKeywords s.heap.objs.size [] >>= _) _ _ _
    refine wpAny_bind (wpAny_pure (wpAny_pure ⟨rfl, good _ (fun b u e => Heap.get?_push_of_some _ e) ⟨_, 0, nw, ⟨rfl, rfl, rfl⟩, by rw [h0]⟩⟩))
  · show wpAny _ _ (Builtin.Dict.addKeywords s.heap.objs.size [] >>= _) _ _ _
    refine wpAny_bind (wpAny_pure (wpAny_pure ⟨rfl, good _ (fun b u e => ?_) ⟨_, _, Heap.get?_update_self _ nw rfl, ⟨rfl, rfl, rfl⟩, rfl⟩⟩))
    exact (Heap.get?_update_other _ _ (Nat.ne_of_gt (Heap.lt_size e))).trans (Heap.get?_push_of_some _ e)
theorem i_dictT {H : Hp} {Q : VK} {a : Addr} {kvs : List (Tr × V)} (h1 : DtAt P H a kvs) (h2 : ∀ x ∈ kvs, ∃ ts, x.1 = .tup ts) (h3 : (kvs.map fun x => x.1.hash P).Nodup) (h : ∀ p o, H p = none → DtAt P (upd H p o) p kvs → Q (.ref p) (upd H p o)) :
    rDictT P [.ref a] H Q := ⟨a, kvs, rfl, h1, h2, h3, h⟩
end
def pairN (i j : Nat) : Tr := .tup [.int i, .int j]
def hashP (i j : Nat) : Int := reduceHash (Builtin.Tuple.tupleHashOf [reduceHash (PySem.W.intHash i), reduceHash (PySem.W.intHash j)])
theorem pair_hash (P : Params) (i j : Nat) : (pairN i j).hash P = hashP i j := by
  simp only [pairN, Tr.hash, Tr.hashes, PySem.W.hashW, hashP]
def resP : List Nat := [270, 35, 277, 656, 421, 300, 27, 921, 686, 565, 292, 57, 951, 716, 954, 219, 598, 325, 204, 984, 863, 590, 355, 234, 1014, 855, 620, 499, 896, 623, 502, 267, 146, 525, 252, 532, 911, 176, 517, 797, 161, 941, 8, 788, 667, 394, 273, 38, 417, 659, 23, 303, 682, 924, 288, 53, 564, 329, 170, 950, 715, 594, 321, 200, 980, 859, 586, 351, 230, 1010, 233, 1013, 854, 619, 498, 263, 104, 884, 649, 528, 293, 134, 914, 793, 360, 640, 4, 784, 625, 390, 269, 34, 776, 655, 420, 299, 26, 920, 302, 681, 961, 688, 567, 946, 711, 953, 317, 597, 976, 203, 582, 347, 429, 194, 73, 452, 694, 459, 838, 103, 444, 724, 88, 368, 709, 474, 985, 750, 629, 356, 121, 0, 780, 621, 386, 265, 30, 772, 651, 416, 654, 419, 298, 25, 919, 684, 563, 328, 55, 949, 714, 593, 320, 199, 596, 975, 202, 581, 861, 225, 1005, 232, 611, 490, 255, 997, 876, 641, 723, 87, 367, 746, 988, 352, 117, 1011, 738, 3, 382, 261, 1003, 768, 888, 615, 494, 873, 138, 880, 244, 524, 903, 130, 509, 789, 153, 933]
theorem res_one : ((List.range 196).all fun k => resP.idxOf (resP.getD k 0) == k) = true := by decide +kernel
theorem res_of : ((List.range 14).all fun i => (List.range 14).all fun j => hashP i j % 1015 == (resP.getD (14 * i + j) 0 : Int)) = true := by decide +kernel
theorem hashP_inj {i j i' j' : Nat} (h1 : i < 14) (h2 : j < 14) (h3 : i' < 14) (h4 : j' < 14) (e : hashP i j = hashP i' j') : i = i' ∧ j = j' := by
  have g : ∀ {i j : Nat}, i < 14 → j < 14 → hashP i j % 1015 = (resP.getD (14 * i + j) 0 : Int) := fun {i j} h1 h2 => by
    have := List.all_eq_true.mp (List.all_eq_true.mp res_of i (List.mem_range.mpr h1)) j (List.mem_range.mpr h2)
    exact beq_iff_eq.mp this
  have u : ∀ {k : Nat}, k < 196 → resP.idxOf (resP.getD k 0) = k := fun {k} h => beq_iff_eq.mp (List.all_eq_true.mp res_one k (List.mem_range.mpr h))
  have e2 : resP.getD (14 * i + j) 0 = resP.getD (14 * i' + j') 0 := by
    have := (g h1 h2).symm.trans ((congrArg (· % 1015) e).trans (g h3 h4))
    exact Int.ofNat.inj this
  have e3 : 14 * i + j = 14 * i' + j' := (u (by omega)).symm.trans ((congrArg resP.idxOf e2).trans (u (by omega)))
  omega
theorem pair_nd {P : Params} {n : Nat} {kvs : List (Tr × V)} (hn : n ≤ 14) (hk : ∀ x ∈ kvs, ∃ i j, i < n ∧ j < n ∧ x.1 = pairN i j) (nd : (kvs.map (·.1)).Nodup) : (kvs.map fun x => x.1.hash P).Nodup := by
  rw [List.nodup_iff_pairwise_ne, List.pairwise_map] at nd ⊢
  refine List.Pairwise.imp_of_mem (fun {a b} ha hb h e => h ?_) nd
  obtain ⟨i, j, h1, h2, ea⟩ := hk a ha
  obtain ⟨i', j', h3, h4, eb⟩ := hk b hb
  rw [ea, eb, pair_hash, pair_hash] at e
  obtain ⟨rfl, rfl⟩ := hashP_inj (by omega) (by omega) (by omega) (by omega) e
  rw [ea, eb]
end L2
namespace L2
open PySem PySem.Spec PyProof.Rows
def BestD (P : Nat → Value → Prop) (bt : Nat → Nat → Bool) (j : Nat) (o : Array Value) : Prop := (j = 0 ∧ o = #[]) ∨ ∃ i vb, j = i + 1 ∧ o = #[vb, vb] ∧ P (argBest bt i) vb
section
variable {prog : Program} {w : World} {A : Around} {R : Result → Shared → Prop} {J : Addr} {fp wr : List Addr} {n : Nat} {P : Nat → Value → Prop} {St : Nat → Heap → Prop}
theorem minD_loop (W : Walks prog w A.in1 J fp wr n P St) (bt : Nat → Nat → Bool) (hc : CmpOf prog w A.in1 .Lt P bt) (S : Addr) (hS : S ∉ fp) (d : Value) : ∀ (k j : Nat) (s : Shared) (o : Array Value) (c : Nat), n - j = k → j ≤ n → St j s.heap → BestD P bt j o →
    s.heap.get? S = some { cls := .type "list", dict := none, data := .seq o c, slots := #[] } →
    (∀ v h' tk, ((n = 0 ∧ v = d) ∨ (0 < n ∧ P (argBest bt (n - 1)) v)) → (∀ b o, b ∉ wr → b ≠ S → s.heap.get? b = some o → h'.get? b = some o) → R (.ok (.ret v)) { s with heap := h', toks := tk }) →
    codeAny (model prog w) A (.builtin "min.loop" ⟨[.ref J, .none, .ref S], [("default", d)]⟩) R s := by
  have nw : S ∉ wr := fun h => hS (W.sub _ h)
  have nm : (toString "min" ++ toString ".loop" : String) = "min.loop" := by decide
  intro k
  induction k with
  | zero =>
    intro j s o c e1 e2 st hb g hR
    obtain rfl : j = n := by omega
    refine codeAny_builtin F.entry_min_loop ?_
    rw [Around.under_plainId F.plain_min_loop _]
    show wpAny (model prog w) A.in1 (seqItems? (.ref S) >>= _) _ _ s
    refine wpAny_bind (wpAny_seqItems g rfl ?_)
    show wpAny (model prog w) A.in1 (tryCatch (pyNext (.ref J)) _ >>= _) _ _ s
    refine wpAny_bind (wpAny_tryCatch (W.done s _ _ st fun h' tk kk => ?_))
    have g' := kk S _ nw g
    rcases hb with ⟨rfl, rfl⟩ | ⟨i, vb, rfl, rfl, hP⟩
    · show wpAny (model prog w) A.in1 (rule _ >>= _) _ _ _
      exact wpAny_bind (wpAny_rule (wpAny_pure (hR d _ tk (.inl ⟨rfl, rfl⟩) fun b o hw _ e => kk b o hw e)))
    · show wpAny (model prog w) A.in1 (updateSeq S (fun _ => #[]) >>= _) _ _ _
      refine wpAny_bind (wpAny_updateSeq g' rfl (wpAny_bind (wpAny_letGo (wpAny_pure (hR vb _ tk (.inr ⟨Nat.succ_pos _, hP⟩) fun b o hw hne e => ?_)))))
      exact (Heap.get?_update_other _ _ (Ne.symm hne)).trans (kk b o hw e)
  | succ k ih =>
    intro j s o c e1 e2 st hb g hR
    refine codeAny_builtin F.entry_min_loop ?_
    rw [Around.under_plainId F.plain_min_loop _]
    show wpAny (model prog w) A.in1 (seqItems? (.ref S) >>= _) _ _ s
    refine wpAny_bind (wpAny_seqItems g rfl ?_)
    show wpAny (model prog w) A.in1 (tryCatch (pyNext (.ref J)) _ >>= _) _ _ s
    refine wpAny_bind (wpAny_tryCatch (W.item j s _ _ (by omega) st fun v h' tk hP st' kk => ?_))
    have g' := kk S _ nw g
    rcases hb with ⟨rfl, rfl⟩ | ⟨i, vb, rfl, rfl, hB⟩
    · show wpAny (model prog w) A.in1 (updateSeq S (fun _ => #[v, v]) >>= _) _ _ _
      refine wpAny_bind (wpAny_updateSeq g' rfl ?_)
      rw [nm]
      refine wpAny_pure ⟨plainId_quiet F.plain_min_loop _, ih 1 _ _ _ (by omega) (by omega) (W.frame _ _ _ st' fun b hf o e => ?_) (.inr ⟨0, v, rfl, rfl, hP⟩) (Heap.get?_update_self _ g' rfl) fun v' h2 tk2 hv k2 => hR v' h2 tk2 hv fun b o hw hne e => ?_⟩
      · exact (Heap.get?_update_other _ _ (fun z : S = b => hS (z ▸ hf))).trans e
      · exact k2 b o hw hne ((Heap.get?_update_other _ _ (Ne.symm hne)).trans (kk b o hw e))
    · show wpAny (model prog w) A.in1 (tryCatch (holding [v, v] (richCompare .Lt v vb >>= _)) _ >>= _) _ _ _
      refine wpAny_bind (wpAny_tryCatch (wpAny_holding (wpAny_bind (hc (i + 1) (argBest bt i) v vb _ _ _ hP hB ?_))))
      refine wpAny_bind (wpAny_holding (wpAny_truthy_bool (wpAny_bind (wpAny_letGo (wpAny_pure ?_)))))
      cases hx : bt (i + 1) (argBest bt i) with
      | true =>
        simp only [if_true]
        refine wpAny_bind (wpAny_updateSeq g' rfl (wpAny_bind (wpAny_letGo ?_)))
        rw [nm]
        refine wpAny_pure ⟨plainId_quiet F.plain_min_loop _, ih (i + 2) _ _ _ (by omega) (by omega) (W.frame _ _ _ st' fun b hf o e => ?_) (.inr ⟨i + 1, v, rfl, rfl, by simp only [argBest, hx, if_true]; exact hP⟩) (Heap.get?_update_self _ g' rfl) fun v' h2 tk2 hv k2 => hR v' h2 tk2 hv fun b o hw hne e => ?_⟩
        · exact (Heap.get?_update_other _ _ (fun z : S = b => hS (z ▸ hf))).trans e
        · exact k2 b o hw hne ((Heap.get?_update_other _ _ (Ne.symm hne)).trans (kk b o hw e))
      | false =>
        simp only [Bool.false_eq_true, if_false]
        refine wpAny_bind (wpAny_letGo ?_)
        rw [nm]
        exact wpAny_pure ⟨plainId_quiet F.plain_min_loop _, ih (i + 2) _ _ _ (by omega) (by omega) st' (.inr ⟨i + 1, vb, rfl, rfl, by simp only [argBest, hx, Bool.false_eq_true, if_false]; exact hB⟩) g' fun v' h2 tk2 hv k2 => hR v' h2 tk2 hv fun b o hw hne e => k2 b o hw hne (kk b o hw e)⟩
end
section
variable {prog : Program} {w : World} {A : Around} {E : Value → Shared → Prop} {s : Shared}
theorem args_minD (a d : Value) : argsOk "min" ⟨[a], [("default", d)]⟩ := by unfold argsOk; kernel_rfl
theorem bind_minD (d : Value) : Builtin.Builtins.bindParams "min" ["key", "default"] 0 ⟨[], [("default", d)]⟩ = pure [none, some d] := by
  unfold Builtin.Builtins.bindParams
  simp [List.lookup]
  rfl
theorem minD_call {l : Addr} {xs : Array (Int × Tok)} {d : Value} {Q : Value → Shared → Prop} (hh : A.handled = none) (hl : s.heap.IsList l (intItems xs))
    (h : ∀ v h' tk, ((xs.size = 0 ∧ v = d) ∨ (0 < xs.size ∧ (intItems xs)[argBest (fun i j => decide (numAt xs i < numAt xs j)) (xs.size - 1)]? = some v)) → (∀ b o, s.heap.get? b = some o → h'.get? b = some o) → Q v { s with heap := h', toks := tk }) :
    wpAny (model prog w) A (call (.builtin "min") [.ref l] [("default", d)]) Q E s := by
  have nm : (toString "min" ++ toString ".loop" : String) = "min.loop" := by decide
  refine wpAny_call (codeAny_call_builtin F.plain_min F.entry_min ?_)
  simp only [checkBuiltinCall, F.kind_min]
  have go : wpAny (model prog w) A.in1 (Builtin.«min» ⟨[.ref l], [("default", d)]⟩) (fun fin s' => match fin with
      | .done f => (match (Except.ok f : Result) with | .ok (.ret v) => Q v s' | .ok _ => False | .error e => E e s')
      | .again c' => c'.quiet = true ∧ codeAny (model prog w) A c' (fun r s' => match r with | .ok (.ret v) => Q v s' | .ok _ => False | .error e => E e s') s') E s := by
    show wpAny _ A.in1 (Builtin.Builtins.bindParams "min" ["key", "default"] 0 ⟨[], [("default", d)]⟩ >>= _) _ _ s
    refine wpAny_bind (wpAny_of_eq (show Builtin.Builtins.bindParams "min" ["key", "default"] 0 ⟨[], [("default", d)]⟩ = pure [none, some d] from bind_minD d) (wpAny_bind (wpAny_pure (wpAny_bind (iter_intList hl fun s₂ e st hfp hlI => ?_)))))
    subst e
    refine wpAny_bind (wpAny_newObj_type ?_)
    rw [nm]
    refine wpAny_pure ⟨plainId_quiet F.plain_min_loop _, minD_loop (Walks.list (A := A.in1) hh _ l hlI (intItems xs)) _ (CmpOf.ints_lt (numAt xs) (fun _ _ => intItems_at)) _ (fun hm => Nat.lt_irrefl _ (hfp _ hm)) d _ 0 _ _ _ rfl (Nat.zero_le _) ?_ (.inl ⟨rfl, rfl⟩) (Heap.get?_push_size _ rfl) fun v h' tk hv kk => ?_⟩
    · exact (Walks.list (prog := prog) (w := w) (A := A.in1) hh _ l hlI (intItems xs)).frame _ _ _ st fun b _ o e => Heap.get?_push_of_some _ e
    · refine h v h' tk (by simpa [intItems] using hv) (old_kept fun b o hw e => kk b o hw (Nat.ne_of_lt (Heap.lt_size e)) (Heap.get?_push_of_some _ e))
  cases hsig : Manifest.signature? "min" with
  | none => exact wpAny_pure go
  | some sig =>
    have ha : Bind.checkArgs "min" sig ⟨[.ref l], [("default", d)]⟩ = pure () := by simpa only [argsOk, hsig] using args_minD (.ref l) d
    simp only [ha]
    exact wpAny_pure go
end
def tMinD (K : PySem.W.Frag) (t tk : TA) : TE := fun σ H Q => t σ H fun vs H1 => tk σ H1 fun zs H2 => ∃ (a : Addr) (ns : List Int) (z : V), vs = [.ref a] ∧ zs = [z] ∧ SqL K H2 a (ns.map V.int) ∧ (ns = [] → Q z H2) ∧ ∀ M, M ∈ ns → (∀ a ∈ ns, M ≤ a) → Q (.int M) H2
section
variable {X : Cx} {e d : Expr} {t tk : TA} {p kp pos : Pos}
theorem pe_minD (K : PySem.W.Frag) (hc : X.calm = true) (hK : X.K = K) (hg : Gl X "min") (hm : X.mg "min" = none) (hv : bootBuiltins "min" = some (.builtin "min")) (ha : PA X [e] t) (hk : PK X [⟨some "default", d, kp⟩] tk)
    (he : starEach [e] X.env = (false, eval e X.env) :: starEach [] X.env := by rfl) : PE X (.Call (.Name "min" p) [e] [⟨some "default", d, kp⟩] pos) (tMinD K t tk) := by
  subst hK
  intro pins s σ H Q I h
  refine wpAny_Call_Name_kw (ld_blt I hg hm hv ?_ (by decide) (by decide))
  refine PyProof.Rows.callWith_kw (thn (ha pos pins s σ H _ I h) fun us s1 ⟨vs, H1, I1, r1, q1⟩ => thn (hk pos pins s1 σ H1 _ I1 q1) fun ws s2 ⟨zs, H2, I2, r2, a, ns, z, e1, e2, hS, q0, q2⟩ => ?_) (by rw [he]; rfl) (by rw [he]; rfl)
  subst e1 e2
  obtain ⟨u, rfl, ru⟩ := vals1 r1
  obtain ⟨u', rfl, ru'⟩ := vals1 r2
  cases ru
  obtain ⟨its, v1, p1, _⟩ := I2.list hS
  have hi := intsAre_of v1
  obtain ⟨ys, e⟩ := hi.allInts.items
  have hn := nums_intItems (xs := ys)
  rw [← e, show its.toArray.toList = its from rfl, hi.numsOf] at hn
  have hl : ns.length = ys.size := by rw [hn]; simp
  refine minD_call (xs := ys) (I2.ok.hd hc) (e ▸ p1.isList) fun v h' tk hv hk => ?_
  rcases hv with ⟨h0, rfl⟩ | ⟨hp, hv⟩
  · exact ⟨z, H2, I2.kept hk, ru', q0 (List.length_eq_zero_iff.mp (hl.trans h0))⟩
  · obtain ⟨t, rfl⟩ := intItems_at hv
    obtain ⟨h1, h2⟩ := argBest_lt (numAt ys) (ys.size - 1)
    refine ⟨.int _, H2, I2.kept hk, ⟨t, rfl⟩, q2 _ ?_ fun b hb => ?_⟩
    · rw [hn, numAt_eq]
      exact getD_mem (by rw [List.length_map, Array.length_toList]; omega)
    · rw [hn] at hb
      obtain ⟨j, hj, rfl⟩ := mem_getD hb
      rw [List.length_map, Array.length_toList] at hj
      rw [← numAt_eq]
      exact h2 j (by omega)
theorem i_minD {K : PySem.W.Frag} {H : Hp} {Q : VK} {a : Addr} {ns : List Int} {z : V} (h1 : SqL K H a (ns.map V.int)) (h2 : ns = [] → Q z H) (h3 : ∀ M, M ∈ ns → (∀ a ∈ ns, M ≤ a) → Q (.int M) H) :
    ∃ (a' : Addr) (ns : List Int) (z' : V), [V.ref a] = [.ref a'] ∧ [z] = [z'] ∧ SqL K H a' (ns.map V.int) ∧ (ns = [] → Q z' H) ∧ ∀ M, M ∈ ns → (∀ a ∈ ns, M ≤ a) → Q (.int M) H := ⟨a, ns, z, rfl, rfl, h1, h2, h3⟩
end
end L2
namespace L2
open PySem PySem.Spec PyProof.Rows
def rMax2 : List V → Hp → VK → Prop := fun xs H Q => ∃ a b : Int, xs = [.int a, .int b] ∧ Q (.int (max a b)) H
section
variable {X : Cx}
theorem kcall_max2 (hh : X.calm = true := by rfl) : CallR X (.builtin "max") rMax2 := by
  intro pins s σ H xs us Q I r h
  obtain ⟨a, b, rfl, q⟩ := h
  obtain ⟨u, v, rfl, ⟨t1, rfl⟩, ⟨t2, rfl⟩⟩ := vals2 r
  refine max_two_ints (I.ok.hd hh) fun h' tk hk => ?_
  have I1 : Inv X pins σ H { s with heap := h', toks := tk } := I.kept hk
  by_cases c : b > a
  · rw [if_pos c]
    exact ⟨.int b, H, I1, ⟨_, rfl⟩, by rw [show max a b = b by omega] at q; exact q⟩
  · rw [if_neg c]
    exact ⟨.int a, H, I1, ⟨_, rfl⟩, by rw [show max a b = a by omega] at q; exact q⟩
theorem i_max2 {H : Hp} {Q : VK} {a b : Int} (h : Q (.int (max a b)) H) : rMax2 [.int a, .int b] H Q := ⟨a, b, rfl, h⟩
end
mutual
def toW : Tr → Tw
  | .non => .sc .non
  | .int i => .sc (.int i)
  | .str s => .sc (.str s)
  | .tup ts => .tup (toWs ts)
  | .lst ts => .lst (toWs ts)
def toWs : List Tr → List Tw
  | [] => []
  | t :: ts => toW t :: toWs ts
end
mutual
theorem toW_at {H : Hp} : ∀ {t : Tr} {v : V} {fs : List Addr}, t.At H v fs → (toW t).At H v fs
  | .non, v, fs, h => by
    simp only [Tr.At] at h
    simp only [toW, Tw.At]
    exact ⟨h.1, True.intro, h.2⟩
  | .int i, v, fs, h => by
    simp only [Tr.At] at h
    simp only [toW, Tw.At]
    exact ⟨h.1, True.intro, h.2⟩
  | .str s, v, fs, h => by
    simp only [Tr.At] at h
    simp only [toW, Tw.At]
    exact ⟨h.1, True.intro, h.2⟩
  | .tup ts, v, fs, h => by
    simp only [Tr.At] at h
    simp only [toW, Tw.At]
    obtain ⟨a, vs, e, g, r⟩ := h
    exact ⟨a, vs, e, g, toWs_at r⟩
  | .lst ts, v, fs, h => by
    simp only [Tr.At] at h
    simp only [toW, Tw.At]
    obtain ⟨a, vs, gs, e, g, r, f⟩ := h
    exact ⟨a, vs, gs, e, g, toWs_at r, f⟩
theorem toWs_at {H : Hp} : ∀ {ts : List Tr} {vs : List V} {fs : List Addr}, Tr.Ats H ts vs fs → Tw.Ats H (toWs ts) vs fs
  | [], vs, fs, h => by
    simp only [Tr.Ats] at h
    simp only [toWs, Tw.Ats]
    exact h
  | t :: ts, vs, fs, h => by
    simp only [Tr.Ats] at h
    simp only [toWs, Tw.Ats]
    obtain ⟨v, ws, f, g, e1, e2, a, b⟩ := h
    exact ⟨v, ws, f, g, e1, e2, toW_at a, toWs_at b⟩
end
mutual
theorem toW_h : ∀ t : Tr, (toW t).h = t.h
  | .non => by simp [toW, Tw.h, Tr.h]
  | .int _ => by simp [toW, Tw.h, Tr.h]
  | .str _ => by simp [toW, Tw.h, Tr.h]
  | .tup ts => by simp [toW, Tw.h, Tr.h, toWs_h ts]
  | .lst ts => by simp [toW, Tw.h, Tr.h, toWs_h ts]
theorem toWs_h : ∀ ts : List Tr, Tw.hs (toWs ts) = Tr.hs ts
  | [] => by simp [toWs, Tw.hs, Tr.hs]
  | t :: ts => by simp [toWs, Tw.hs, Tr.hs, toW_h t, toWs_h ts]
end
end L2
local macro_rules | `(tactic| walk_at "side") => `(tactic| first | exact ⟨by decide, by decide, by decide⟩ | exact ⟨by decide, by decide⟩ | exact .inr (.inr ⟨by decide, by decide⟩) | exact .inr (.inl ⟨by decide, by decide⟩) | decide | omega | exact L2.le_line (by simp only [List.length_cons, List.length_nil]; omega))
local macro_rules | `(tactic| walk_at "step") => do
  let mut acc ← `(tactic| ((with_reducible refine L2.i_rgA ?k ?l ?_); (case k => walk_at "side"); (case l => walk_at "side")))
  for s in ("i_rI i_timesI i_seq i_asg i_c i_op i_un i_rU i_rI0 i_plusI i_eqI i_eqS i_neB i_test i_bl i_ifS i_ret i_next i_drop i_break i_cons i_nil i_cb i_call i_lst i_tup i_not i_noIf i_or i_for i_lc i_rng1 i_iList i_rng i_ref i_bm i_bm0 i_sl i_nopart i_part i_ix1 i_itT i_itF i_itnT i_truB i_intB i_gnil i_gcons i_tru i_isN i_notN i_min2 i_dget i_gsub i_tB i_din i_dput i_dnew i_zip i_tnew i_tget i_tin i_tnotin i_tput i_tget2 i_fld i_sfld i_meth i_make i_zip3 i_tdisp i_szA".splitOn " ").reverse do
    let n := Lean.mkIdent (Lean.Name.str `L2 s)
    if s == "i_rI" || s == "i_timesI" || s == "i_szA" then acc ← `(tactic| first | ((with_reducible refine $n ?k ?_); (case k => walk_at "side")) | $acc:tactic)
    else acc ← `(tactic| first | with_reducible refine $n ?_ | $acc:tactic)
  `(tactic| first | ((with_reducible refine L2.i_name ?_); dsimp only [List.set_cons_zero, List.set_cons_succ]) | ((with_reducible refine' L2.i_var ?k ?_); (case k => rfl)) | $acc:tactic)
local macro_rules | `(tactic| walk_at "run") => `(tactic| (repeat walk_at "step"))
local macro_rules | `(tactic| walk_at "go") => do
  let ids := (("L2.start List.map_cons List.map_nil List.length_cons List.length_nil List.replicate List.cons_append List.nil_append Nat.reduceSub Nat.reduceAdd L2.nox_K L2.wish_K L2.cxOf_K L2.cxC_K".splitOn " ").map fun s => Lean.mkIdent s.toName).toArray
  `(tactic| (simp only [$[$ids:term],*]; walk_at "run"))
namespace K57
open PySem L2
def top (i : Nat) : Stmt := PySem.Challenge.pw_callmill_k57_parting_rows.main.body.getD i (.Pass ⟨0, 0, 0, 0⟩)
abbrev s_row_by : Stmt := top 1
abbrev s_parting : Stmt := top 3
abbrev s_Together___init__ : Stmt := inClass (top 4) 0
abbrev s_Together_unite : Stmt := inClass (top 4) 1
abbrev s_Together_head_of : Stmt := inClass (top 4) 2
abbrev s_law_next : Stmt := top 6
abbrev s_law_deck : Stmt := top 7
abbrev s_law_said : Stmt := top 8
abbrev s_law_events : Stmt := top 9
abbrev s_law_table : Stmt := top 10
abbrev s_law_lengths : Stmt := top 11
abbrev s_law_shortest : Stmt := top 12
abbrev s_law_due : Stmt := top 13
abbrev s_law : Stmt := top 14
theorem sc_row_by : FnScope ["ways", "way", "row"] ["ways", "way"] (defScope s_row_by) := ⟨rfl, rfl, rfl, by decide +kernel, rfl, by decide +kernel, by decide +kernel⟩
theorem sc_parting : FnScope ["table", "room", "other", "rooms", "together", "found", "ways", "place", "pair", "event", "row", "beside"] ["table", "room", "other"] (defScope s_parting) := ⟨rfl, rfl, rfl, by decide +kernel, rfl, by decide +kernel, by decide +kernel⟩
theorem sc_Together___init__ : FnScope ["self"] ["self"] (defScope s_Together___init__) := ⟨rfl, rfl, rfl, by decide +kernel, rfl, by decide +kernel, by decide +kernel⟩
theorem sc_Together_unite : FnScope ["self", "room", "other", "head", "head_beside"] ["self", "room", "other"] (defScope s_Together_unite) := ⟨rfl, rfl, rfl, by decide +kernel, rfl, by decide +kernel, by decide +kernel⟩
theorem sc_Together_head_of : FnScope ["self", "room", "gone", "each"] ["self", "room"] (defScope s_Together_head_of) := ⟨rfl, rfl, rfl, by decide +kernel, rfl, by decide +kernel, by decide +kernel⟩
theorem sc_law_next : FnScope ["deck", "at", "many", "cell", "j", "number"] ["deck"] (defScope s_law_next) := ⟨rfl, rfl, rfl, by decide +kernel, rfl, by decide +kernel, by decide +kernel⟩
theorem sc_law_deck : FnScope ["script"] ["script"] (defScope s_law_deck) := ⟨rfl, rfl, rfl, by decide +kernel, rfl, by decide +kernel, by decide +kernel⟩
theorem sc_law_said : FnScope ["deck", "rich", "some"] ["deck", "rich"] (defScope s_law_said) := ⟨rfl, rfl, rfl, by decide +kernel, rfl, by decide +kernel, by decide +kernel⟩
theorem sc_law_events : FnScope ["deck", "events", "kind", "many", "k", "what"] ["deck"] (defScope s_law_events) := ⟨rfl, rfl, rfl, by decide +kernel, rfl, by decide +kernel, by decide +kernel⟩
theorem sc_law_table : FnScope ["deck", "events", "many", "rich", "saying", "rooms", "room", "over", "rows"] ["deck"] (defScope s_law_table) := ⟨rfl, rfl, rfl, by decide +kernel, rfl, by decide +kernel, by decide +kernel⟩
theorem sc_law_lengths : FnScope ["rooms", "many", "lengths", "one", "other", "more", "found", "least"] ["rooms"] (defScope s_law_lengths) := ⟨rfl, rfl, rfl, by decide +kernel, rfl, by decide +kernel, by decide +kernel⟩
theorem sc_law_shortest : FnScope ["rooms", "one", "other", "lengths", "some", "mine", "theirs"] ["rooms", "one", "other", "lengths"] (defScope s_law_shortest) := ⟨rfl, rfl, rfl, by decide +kernel, rfl, by decide +kernel, by decide +kernel⟩
theorem sc_law_due : FnScope ["table", "one", "other", "lengths", "events", "saying", "rooms", "found", "left", "at", "mine", "theirs", "rest"] ["table", "one", "other", "lengths"] (defScope s_law_due) := ⟨rfl, rfl, rfl, by decide +kernel, rfl, by decide +kernel, by decide +kernel⟩
theorem sc_law : FnScope ["script", "deck", "table", "handed", "lengths", "many", "k", "one", "other", "due", "found"] ["script"] (defScope s_law) := ⟨rfl, rfl, rfl, by decide +kernel, rfl, by decide +kernel, by decide +kernel⟩
set_option genInjectivity false in
structure Adr where
  a_row_by : Addr
  fd_row_by : FuncData
  a_parting : Addr
  fd_parting : FuncData
  a_Together___init__ : Addr
  fd_Together___init__ : FuncData
  a_Together_unite : Addr
  fd_Together_unite : FuncData
  a_Together_head_of : Addr
  fd_Together_head_of : FuncData
  a__law_next : Addr
  fd__law_next : FuncData
  a__law_deck : Addr
  fd__law_deck : FuncData
  a__law_said : Addr
  fd__law_said : FuncData
  a__law_events : Addr
  fd__law_events : FuncData
  a__law_table : Addr
  fd__law_table : FuncData
  a__law_lengths : Addr
  fd__law_lengths : FuncData
  a__law_shortest : Addr
  fd__law_shortest : FuncData
  a__law_due : Addr
  fd__law_due : FuncData
  a_law : Addr
  fd_law : FuncData
  c_Together : Addr
structure Txt (K : PySem.W.Frag) (mg : Str → Option Value) (t : Adr) : Prop where
  F_row_by : Fun K "row_by" "row_by" s_row_by t.a_row_by t.fd_row_by
  m_row_by : mg "row_by" = some (.ref t.a_row_by)
  b_row_by : Binds K t.fd_row_by ["ways", "way"] []
  F_parting : Fun K "parting" "parting" s_parting t.a_parting t.fd_parting
  m_parting : mg "parting" = some (.ref t.a_parting)
  b_parting : Binds K t.fd_parting ["table", "room", "other"] []
  F_Together___init__ : Fun K "__init__" "Together.__init__" s_Together___init__ t.a_Together___init__ t.fd_Together___init__
  b_Together___init__ : Binds K t.fd_Together___init__ ["self"] []
  F_Together_unite : Fun K "unite" "Together.unite" s_Together_unite t.a_Together_unite t.fd_Together_unite
  M_Together_unite : Meth K t.c_Together "unite" t.a_Together_unite
  b_Together_unite : Binds K t.fd_Together_unite ["self", "room", "other"] []
  F_Together_head_of : Fun K "head_of" "Together.head_of" s_Together_head_of t.a_Together_head_of t.fd_Together_head_of
  M_Together_head_of : Meth K t.c_Together "head_of" t.a_Together_head_of
  b_Together_head_of : Binds K t.fd_Together_head_of ["self", "room"] []
  F__law_next : Fun K "_law_next" "_law_next" s_law_next t.a__law_next t.fd__law_next
  m__law_next : mg "_law_next" = some (.ref t.a__law_next)
  b__law_next : Binds K t.fd__law_next ["deck"] []
  F__law_deck : Fun K "_law_deck" "_law_deck" s_law_deck t.a__law_deck t.fd__law_deck
  m__law_deck : mg "_law_deck" = some (.ref t.a__law_deck)
  b__law_deck : Binds K t.fd__law_deck ["script"] []
  F__law_said : Fun K "_law_said" "_law_said" s_law_said t.a__law_said t.fd__law_said
  m__law_said : mg "_law_said" = some (.ref t.a__law_said)
  b__law_said : Binds K t.fd__law_said ["deck", "rich"] []
  F__law_events : Fun K "_law_events" "_law_events" s_law_events t.a__law_events t.fd__law_events
  m__law_events : mg "_law_events" = some (.ref t.a__law_events)
  b__law_events : Binds K t.fd__law_events ["deck"] []
  F__law_table : Fun K "_law_table" "_law_table" s_law_table t.a__law_table t.fd__law_table
  m__law_table : mg "_law_table" = some (.ref t.a__law_table)
  b__law_table : Binds K t.fd__law_table ["deck"] []
  F__law_lengths : Fun K "_law_lengths" "_law_lengths" s_law_lengths t.a__law_lengths t.fd__law_lengths
  m__law_lengths : mg "_law_lengths" = some (.ref t.a__law_lengths)
  b__law_lengths : Binds K t.fd__law_lengths ["rooms"] []
  F__law_shortest : Fun K "_law_shortest" "_law_shortest" s_law_shortest t.a__law_shortest t.fd__law_shortest
  m__law_shortest : mg "_law_shortest" = some (.ref t.a__law_shortest)
  b__law_shortest : Binds K t.fd__law_shortest ["rooms", "one", "other", "lengths"] []
  F__law_due : Fun K "_law_due" "_law_due" s_law_due t.a__law_due t.fd__law_due
  m__law_due : mg "_law_due" = some (.ref t.a__law_due)
  b__law_due : Binds K t.fd__law_due ["table", "one", "other", "lengths"] []
  F_law : Fun K "law" "law" s_law t.a_law t.fd_law
  m_law : mg "law" = some (.ref t.a_law)
  b_law : Binds K t.fd_law ["script"] []
  m_Together : mg "Together" = some (.ref t.c_Together)
  cl_Together : Cls K t.c_Together
  mk_Together : Mk K t.c_Together t.a_Together___init__
  n_Together_heads : NoAttr K t.c_Together "heads"
  z_dict : mg "dict" = none
  z_int : mg "int" = none
  z_isinstance : mg "isinstance" = none
  z_len : mg "len" = none
  z_list : mg "list" = none
  z_max : mg "max" = none
  z_min : mg "min" = none
  z_range : mg "range" = none
  z_sum : mg "sum" = none
  z_zip : mg "zip" = none
section
variable {P : Program} {w : World} {K : PySem.W.Frag} {mg : Str → Option Value} {base : Heap} {t : Adr}
theorem natsV_get {ks : List Nat} {i : Nat} {v : V} (h : (natsV ks)[i]? = some v) : ∃ k, ks[i]? = some k ∧ v = .int (k : Nat) := by
  unfold natsV at h
  rw [List.getElem?_map] at h
  obtain ⟨k, hk, rfl⟩ := Option.map_eq_some_iff.mp h
  exact ⟨k, hk, rfl⟩
def sp_init (C : Addr) : Sp := fun vs H Q _ => ∃ (p dx : Addr), vs = [.ref p] ∧ H p = some (.ins C dx []) ∧ ∀ d H', H d = none → (∀ x o, H x = some o → x ≠ p → H' x = some o) → TogAt C H' p d id 0 → Q .non H'
theorem uf_new : UF (fun _ => none) id (fun _ => 0) := ⟨fun _ _ => rfl, (fun _ _ h => nomatch h), fun _ _ => rfl⟩
theorem ok_Together___init__ (T : Txt K mg t) : FnOk P w K mg base CX0 1 t.a_Together___init__ t.fd_Together___init__ ["self"] (sp_init t.c_Together) := by
  refine T.F_Together___init__.ok sc_Together___init__ (fun vs H Q E h => ?_) (fun cdv A outer s H vs Q E hr h => ?_)
  · obtain ⟨p, dx, rfl, _⟩ := h
    rfl
  · obtain ⟨p, dx, rfl, hp, q⟩ := h
    refine ⟨_, (@pss_one _ _ _ (kps_fld K (pv 0) (@pe_dnewN _ _) rfl)), ?_⟩
    walk_at "go"
    intro d H1 f1 s1 e1
    walk_at "run"
    refine ⟨p, _, dx, _, rfl, s1 _ _ hp, T.cl_Together, T.n_Together_heads, by decide, ?_⟩
    walk_at "run"
    have hdp : d ≠ p := (ne_of_none hp f1).symm
    exact q d _ f1 (fun x o e z => by rw [upd_ne z]; exact s1 _ _ e) ⟨dx, [], fun _ => none, fun _ => 0, upd_same, by rw [upd_ne hdp]; exact e1, Nat.le_refl _, fun x => rfl, uf_new, fun _ => Nat.le_refl _⟩
def sp_head (C : Addr) : Sp := fun vs H Q _ => ∃ (p d : Addr) (x : Nat) (rep : Nat → Nat) (m : Nat), vs = [.ref p, .int (x : Nat)] ∧ TogAt C H p d rep m ∧ m ≤ 100000 ∧ ∀ H', But d H H' → TogAt C H' p d rep m → Q (.int (rep x : Nat)) H'
theorem ok_Together_head_of (T : Txt K mg t) : FnOk P w K mg base CX0 1 t.a_Together_head_of t.fd_Together_head_of ["self", "room"] (sp_head t.c_Together) := by
  refine T.F_Together_head_of.ok sc_Together_head_of (fun vs H Q E h => ?_) (fun cdv A outer s H vs Q E hr h => ?_)
  · obtain ⟨p, d, x, rep, m, rfl, _⟩ := h
    rfl
  · obtain ⟨p, d, x, rep, m, rfl, hT, hm, q⟩ := h
    refine ⟨_, (@pss_cons _ _ _ _ _ (@ps_set _ _ 2 _ _ _ _ sc_Together_head_of.nd rfl (by first | exact Or.inl rfl | exact Or.inr rfl) (@pe_lstN _ _ _ _ (@pa_nil _)) (by rfl) (by first | exact Or.inl rfl | exact Or.inr rfl))
      (@pss_cons _ _ _ _ _ (@ps_while _ _ _ _ _ _ PassesOwn.never (pt_cmp (pc_din (by exact hu_of hr) (pv 1) (kpe_fld K (pv 0) rfl))) (@pss_cons _ _ _ _ _ (@ps_expr _ _ _ _ (@kpe_bm _ K _ _ _ _ _ _ _ _ _ _ _ PySem.F.plainAttrs_list PySem.F.slot_list_append PySem.F.type_list_append mt_append (pv 2) (@pa_cons _ _ _ _ _ (pv 1) (@pa_nil _) (by rfl)) (by rfl) (by rfl) (by rfl) (by rfl) (by rfl) (by rfl)) (by rfl))
        (@pss_one _ _ _ (@ps_set _ _ 1 _ _ _ _ sc_Together_head_of.nd rfl (by first | exact Or.inl rfl | exact Or.inr rfl) (@pe_dget _ _ _ _ _ _ (by exact hu_of hr) (kpe_fld K (pv 0) rfl) (pv 1) (fun _ _ => rfl)) (by rfl) (by first | exact Or.inl rfl | exact Or.inr rfl)))))
      (@pss_cons _ _ _ _ _ (@ps_for _ _ _ _ _ _ _ _ PassesOwn.never rfl (kpi_list K (pv 2)) (pg_name (i := 3) sc_Together_head_of.nd rfl (by first | exact Or.inl rfl | exact Or.inr rfl)) (@pss_one _ _ _ (ps_dput (by exact hu_of hr) (kpe_fld K (pv 0) rfl) (pv 3) (pv 1) rfl)) (by intro _; rfl))
      (@pss_one _ _ _ (@ps_ret _ _ _ _ (pv 1)))))), ?_⟩
    have sl : (1000000 : Nat) ≤ sizeLine := le_line (Nat.le_refl _)
    obtain ⟨dx, kvs, f, rk, h1, h2, h3, h4, u, hrk⟩ := hT.ex
    walk_at "go"
    intro pg H1 f1 s1 e1
    walk_at "run"
    have hpd : p ≠ d := ne_of h1 h2 (fun z => nomatch z)
    refine i_while (fun n σ H' => Same H H' ∧ ∃ (r : Nat) (gs : List Nat), n = rk r ∧ σ = [some (.ref p), some (.int (r : Nat)), some (.ref pg), none] ∧ rep r = rep x ∧ H' pg = some (.lst (natsV gs)) ∧ gs.length + rk r ≤ rk x ∧ ∀ g ∈ gs, rep g = rep x ∧ (∃ y, f g = some y)) (rk x) ⟨s1, x, [], rfl, rfl, rfl, e1, by simp, by simp⟩ ?_
    rintro n σ H2 ⟨s2, r, gs, rfl, rfl, hr1, hg, hgl, hgs⟩
    have hrx := hrk x
    have k1 := s2 _ _ h1
    have k2 := s2 _ _ h2
    walk_at "run"
    refine ⟨p, _, dx, _, _, rfl, k1, T.cl_Together, T.n_Together_heads, hF_heads d, ?_⟩
    walk_at "run"
    refine ⟨d, _, rfl, DGet.k (k := Sum.inl ((r : Nat) : Int)) k2, ?_⟩
    rw [h4]
    walk_at "run"
    cases e : f r with
    | some y =>
      obtain ⟨u3, u4⟩ := u.so r y e
      simp only [Option.map_some, Option.isSome_some]
      refine ⟨fun σ' H' => Same H H' ∧ σ' = [some (.ref p), some (.int (y : Nat)), some (.ref pg), none] ∧ H' pg = some (.lst (natsV (gs ++ [r]))), fun σ' H' ⟨s', e', h'⟩ => ⟨rk y, u4, s', y, gs ++ [r], rfl, e', by rw [u3, hr1], h', by simp; omega, fun g hg' => ?_⟩, ?_⟩
      · rcases List.mem_append.mp hg' with hg' | hg'
        · exact hgs g hg'
        · rw [List.mem_singleton.mp hg']
          exact ⟨hr1, y, e⟩
      walk_at "run"
      refine i_tyL (SqL.of hg) ?_
      walk_at "run"
      refine i_append hg (Nat.lt_of_lt_of_le (show (natsV gs).length < 1000000 by rw [natsV_len]; omega) sl) ?_
      have s3 : Same H (upd H2 pg (.lst (natsV gs ++ [.int (r : Nat)]))) := s2.updNew f1
      have e3 : upd H2 pg (.lst (natsV gs ++ [.int (r : Nat)])) pg = some (.lst (natsV (gs ++ [r]))) := by rw [upd_same, natsV_snoc]
      generalize upd H2 pg (.lst (natsV gs ++ [.int (r : Nat)])) = H3 at s3 e3
      walk_at "run"
      refine ⟨p, _, dx, _, _, rfl, s3 _ _ h1, T.cl_Together, T.n_Together_heads, hF_heads d, ?_⟩
      walk_at "run"
      refine ⟨d, .int (y : Nat), rfl, ?_, ?_⟩
      · have := DGet.k (k := Sum.inl ((r : Nat) : Int)) (s3 _ _ h2)
        rw [h4, e] at this
        exact this
      walk_at "run"
      exact ⟨s3, rfl, e3⟩
    | none =>
      simp only [Option.map_none, Option.isSome_none]
      have hrr : r = rep x := by rw [← hr1, u.no r e]
      subst hrr
      walk_at "run"
      refine ⟨⟨_, SqL.of hg⟩, for_list (K := K) (a := pg) (xs := natsV gs) (fun i σ H' => But d H H' ∧ H' pg = some (.lst (natsV gs)) ∧ TogAt t.c_Together H' p d rep m ∧ (∀ g ∈ gs, ∃ y kvs, H' d = some (.dK kvs) ∧ valV kvs (Sum.inl (g : Int)) = some y) ∧ ∃ z, σ = [some (.ref p), some (.int (rep x : Nat)), some (.ref pg), z]) ⟨s2.but, hg, hT.same s2, fun g hg' => ?_, _, rfl⟩ (fun i σ H' _ ⟨_, h', _⟩ => SqL.of h') ?_ ?_⟩
      · obtain ⟨_, y, hy⟩ := hgs g hg'
        exact ⟨_, kvs, k2, by rw [h4, hy]; rfl⟩
      · rintro i v σ H3 hi ⟨b3, hp3, hT3, hk3, z, rfl⟩
        obtain ⟨g, hg3, rfl⟩ := natsV_get hi
        have hgm := List.mem_of_getElem? hg3
        obtain ⟨dx3, kvs3, f3, rk3, j1, j2, j3, j4, u3, hrk3⟩ := hT3.ex
        obtain ⟨y0, kvs0, j5, j6⟩ := hk3 g hgm
        rw [j2] at j5
        cases j5
        obtain ⟨g1, _⟩ := hgs g hgm
        have hpd3 : p ≠ d := ne_of j1 j2 (fun z => nomatch z)
        have hpg : pg ≠ d := ne_of hp3 j2 (fun z => nomatch z)
        obtain ⟨y1, hy1⟩ : ∃ y1, f3 g = some y1 := by
          rw [j4] at j6
          obtain ⟨y1, hy1, _⟩ := Option.map_eq_some_iff.mp j6
          exact ⟨y1, hy1⟩
        walk_at "run"
        refine ⟨p, _, dx3, _, _, rfl, j1, T.cl_Together, T.n_Together_heads, hF_heads d, ?_⟩
        walk_at "run"
        refine ⟨d, _, rfl, DPut.k (k := Sum.inl ((g : Nat) : Int)) j2 (by omega), ?_⟩
        walk_at "run"
        refine ⟨b3.upd, by rw [upd_ne hpg]; exact hp3, ⟨dx3, _, _, rk3, by rw [upd_ne hpd3]; exact j1, upd_same, by rw [length_putK_old j6]; exact j3, fun z => ?_, u3.short g1 hy1, hrk3⟩, fun g' hg' => ?_, _, rfl⟩
        · rw [valV_put, j4]
          by_cases e : z = g
          · rw [if_pos (by rw [e]), if_pos e]; rfl
          · rw [if_neg (fun h => e (by have := Sum.inl.inj h; omega)), if_neg e]
        · obtain ⟨y2, kvs2, l1, l2⟩ := hk3 g' hg'
          rw [j2] at l1
          cases l1
          by_cases e : g' = g
          · exact ⟨_, _, upd_same, by rw [valV_put, if_pos (by rw [e])]⟩
          · exact ⟨_, _, upd_same, by rw [valV_put, if_neg (fun h => e (by have := Sum.inl.inj h; omega))]; exact l2⟩
      · rintro σ H3 ⟨b3, hp3, hT3, hk3, z, rfl⟩
        walk_at "run"
        exact q H3 b3 hT3
def sp_unite (C : Addr) : Sp := fun vs H Q _ => ∃ (p d : Addr) (x y : Nat) (rep : Nat → Nat) (m : Nat), vs = [.ref p, .int (x : Nat), .int (y : Nat)] ∧ TogAt C H p d rep m ∧ m < 100000 ∧ (∀ H', But d H H' → rep x = rep y → TogAt C H' p d rep m → Q (.bl false) H') ∧ ∀ H', But d H H' → rep x ≠ rep y → TogAt C H' p d (uni rep x y) (m + 1) → Q (.bl true) H'
theorem ok_Together_unite (T : Txt K mg t) : FnOk P w K mg base CX0 2 t.a_Together_unite t.fd_Together_unite ["self", "room", "other"] (sp_unite t.c_Together) := by
  have G_Together_head_of := ok_Together_head_of (P := P) (w := w) (base := base) T
  refine T.F_Together_unite.ok sc_Together_unite (fun vs H Q E h => ?_) (fun cdv A outer s H vs Q E hr h => ?_)
  · obtain ⟨p, d, x, y, rep, m, rfl, _⟩ := h
    rfl
  · obtain ⟨p, d, x, y, rep, m, rfl, hT, hm, q1, q2⟩ := h
    refine ⟨_, (@pss_cons _ _ _ _ _ (@ps_set _ _ 3 _ _ _ _ sc_Together_unite.nd rfl (by first | exact Or.inl rfl | exact Or.inr rfl) (pe_meth (pv 0) T.cl_Together T.M_Together_head_of G_Together_head_of (hr.mono (by omega)) T.b_Together_head_of .nil pass0 (@pa_cons _ _ _ _ _ (pv 1) (@pa_nil _) (by rfl))) (by rfl) (by first | exact Or.inl rfl | exact Or.inr rfl))
      (@pss_cons _ _ _ _ _ (@ps_set _ _ 4 _ _ _ _ sc_Together_unite.nd rfl (by first | exact Or.inl rfl | exact Or.inr rfl) (pe_meth (pv 0) T.cl_Together T.M_Together_head_of G_Together_head_of (hr.mono (by omega)) T.b_Together_head_of .nil pass0 (@pa_cons _ _ _ _ _ (pv 2) (@pa_nil _) (by rfl))) (by rfl) (by first | exact Or.inl rfl | exact Or.inr rfl))
      (@pss_cons _ _ _ _ _ (@ps_if _ _ _ _ _ _ _ _ (@pt_cmpR _ _ _ _ _ _ _ _ op_eq (pv 3) (pv 4) (nomark _)) (@pss_one _ _ _ (@ps_ret _ _ _ _ (@pe_bl _ _ _ _))) (@pss_nil _))
      (@pss_cons _ _ _ _ _ (ps_dput (by exact hu_of hr) (kpe_fld K (pv 0) rfl) (pv 3) (pv 4) rfl)
      (@pss_one _ _ _ (@ps_ret _ _ _ _ (@pe_bl _ _ _ _))))))), ?_⟩
    have sl : (1000000 : Nat) ≤ sizeLine := le_line (Nat.le_refl _)
    obtain ⟨dx, kvs, f, rk, h1, h2, h3, h4, u, hrk⟩ := hT.ex
    walk_at "go"
    refine ⟨p, dx, _, rfl, h1, hF_no d (by decide +kernel), ?_⟩
    walk_at "run"
    refine ⟨p, d, x, rep, m, rfl, hT, by omega, fun H1 b1 hT1 => ?_⟩
    walk_at "run"
    obtain ⟨dx1, kvs1, f1, rk1, g1, g2, g3, g4, u1, hrk1⟩ := hT1.ex
    refine ⟨p, dx1, _, rfl, g1, hF_no d (by decide +kernel), ?_⟩
    walk_at "run"
    refine ⟨p, d, y, rep, m, rfl, hT1, by omega, fun H2 b2 hT2 => ?_⟩
    walk_at "run"
    have b12 := b1.trans b2
    by_cases he : rep x = rep y
    · refine i_itDT (by omega) ?_
      walk_at "run"
      exact q1 H2 b12 he hT2
    · refine i_itDF (by omega) ?_
      walk_at "run"
      obtain ⟨dx2, kvs2, f2, rk2, k1, k2, k3, k4, u2, hrk2⟩ := hT2.ex
      refine ⟨p, _, dx2, _, _, rfl, k1, T.cl_Together, T.n_Together_heads, hF_heads d, ?_⟩
      walk_at "run"
      refine ⟨d, _, rfl, DPut.k (k := Sum.inl ((rep x : Nat) : Int)) k2 (by omega), ?_⟩
      walk_at "run"
      have hpd : p ≠ d := ne_of k1 k2 (fun z => nomatch z)
      refine q2 _ b12.upd he ⟨dx2, _, _, _, by rw [upd_ne hpd]; exact k1, upd_same, ?_, fun z => ?_, u2.uni he, fun z => by have := hrk2 z; split <;> omega⟩
      · have := length_putK kvs2 (Sum.inl ((rep x : Nat) : Int)) (V.int (rep y : Nat))
        omega
      · rw [valV_put, k4]
        by_cases e : z = rep x
        · rw [if_pos (by rw [e]), if_pos e]; rfl
        · rw [if_neg (fun h => e (by have := Sum.inl.inj h; omega)), if_neg e]
def sp_rowby (P : Params) : Sp := fun vs H Q _ => ∃ (wd : Addr) (v : V) (us : List V) (ways : Pr → Option (Option (Pr × Nat))) (m : Nat) (w : Option (Pr × Nat)) (js : List Nat), vs = [.ref wd, v] ∧ WaysAt P H wd us ways m ∧ WayAt H us v w ∧ ChainP ways w js ∧ js.length ≤ 10000 ∧
  ∀ l vs H', H l = none → Same H H' → H' l = some (.lst vs) → Each (fun v j => us[j]? = some v) vs js.reverse → Q (.ref l) H'
theorem each_rev {α β : Type} {R : α → β → Prop} : ∀ {vs : List α} {xs : List β}, Each R vs xs → Each R vs.reverse xs.reverse
  | [], [], _ => .nil
  | v :: vs, x :: xs, h => by
    rw [List.reverse_cons, List.reverse_cons]
    exact (each_rev ⟨by simpa using h.1, fun j a b h1 h2 => h.2 (j + 1) a b h1 h2⟩).snoc (h.2 0 v x rfl rfl)
  | [], x :: xs, h => by simp [Each] at h
  | v :: vs, [], h => by simp [Each] at h
theorem ok_row_by (T : Txt K mg t) : FnOk P w K mg base CX0 1 t.a_row_by t.fd_row_by ["ways", "way"] (sp_rowby w.params) := by
  refine T.F_row_by.ok sc_row_by (fun vs H Q E h => ?_) (fun cdv A outer s H vs Q E hr h => ?_)
  · obtain ⟨wd, v, us, ways, m, w0, js, rfl, _⟩ := h
    rfl
  · obtain ⟨wd, v, us, ways, m, w0, js, rfl, hW, hv, hc, hjl, q⟩ := h
    refine ⟨_, (@pss_cons _ _ _ _ _ (@ps_set _ _ 2 _ _ _ _ sc_row_by.nd rfl (by first | exact Or.inl rfl | exact Or.inr rfl) (@pe_lstN _ _ _ _ (@pa_nil _)) (by rfl) (by first | exact Or.inl rfl | exact Or.inr rfl))
      (@pss_cons _ _ _ _ _ (@ps_while _ _ _ _ _ _ PassesOwn.never (@pt_cmpR _ _ _ _ _ _ _ _ kop_notN (pv 1) (@pe_non _ _ _) (nomark _)) (@pss_cons _ _ _ _ _ (@ps_expr _ _ _ _ (@kpe_bm _ K _ _ _ _ _ _ _ _ _ _ _ PySem.F.plainAttrs_list PySem.F.slot_list_append PySem.F.type_list_append mt_append (pv 2) (@pa_cons _ _ _ _ _ (@pe_ix _ _ _ _ _ _ _ (kix_tup K) (pv 1) (@pe_int _ _ _ _) (fun _ _ => rfl)) (@pa_nil _) (by rfl)) (by rfl) (by rfl) (by rfl) (by rfl) (by rfl) (by rfl)) (by rfl))
        (@pss_one _ _ _ (@ps_set _ _ 1 _ _ _ _ sc_row_by.nd rfl (by first | exact Or.inl rfl | exact Or.inr rfl) (pe_tget (P := w.params) rfl (by exact hr.units) (pv 0) (@pe_ix _ _ _ _ _ _ _ (kix_tup K) (pv 1) (@pe_int _ _ _ _) (fun _ _ => rfl)) (fun _ _ => rfl)) (by rfl) (by first | exact Or.inl rfl | exact Or.inr rfl)))))
      (@pss_cons _ _ _ _ _ (@ps_expr _ _ _ _ (kpe_bm0 K PySem.F.plainAttrs_list PySem.F.slot_list_reverse PySem.F.type_list_reverse mt_reverse (pv 2)) (by rfl))
      (@pss_one _ _ _ (@ps_ret _ _ _ _ (pv 2)))))), ?_⟩
    have sl : (1000000 : Nat) ≤ sizeLine := le_line (Nat.le_refl _)
    walk_at "go"
    intro pr H1 f1 s1 e1
    walk_at "run"
    refine i_while (fun n σ H' => Same H H' ∧ ∃ v w js' dn vs, σ = [some (.ref wd), some v, some (.ref pr)] ∧ n = js'.length ∧ WayAt H' us v w ∧ ChainP ways w js' ∧ js = dn ++ js' ∧ H' pr = some (.lst vs) ∧ Each (fun v j => us[j]? = some v) vs dn) js.length ⟨s1, v, w0, js, [], [], rfl, rfl, hv.tups s1.tups, hc, rfl, e1, .nil⟩ ?_
    rintro n σ H2 ⟨s2, v2, w2, js2, dn, vs2, rfl, rfl, hv2, hc2, hjs, hp2, he2⟩
    have hl : vs2.length ≤ 10000 := by
      rw [he2.1]
      rw [hjs, List.length_append] at hjl
      omega
    walk_at "run"
    rcases hv2 with ⟨rfl, rfl⟩ | ⟨p, j, qa, pv, u, rfl, rfl, hq, hpv, hu⟩
    · refine i_itNF rfl ?_
      cases hc2
      rw [List.append_nil] at hjs
      subst hjs
      walk_at "run"
      refine i_tyL (SqL.of hp2) ?_
      refine ⟨pr, vs2, rfl, rfl, hp2, ?_⟩
      walk_at "run"
      exact q pr _ _ f1 (s2.updNew f1) upd_same (each_rev he2)
    · refine i_itNT (by simp) ?_
      cases hc2 with
      | @cons _ _ w3 js3 hw3 hc3 =>
      refine ⟨fun σ' H' => Same H H' ∧ ∃ v3, σ' = [some (.ref wd), some v3, some (.ref pr)] ∧ WayAt H' us v3 w3 ∧ H' pr = some (.lst (vs2 ++ [u])), fun σ' H' ⟨s', v3, e', h1, h2⟩ => ⟨js3.length, by simp, s', v3, w3, js3, dn ++ [j], vs2 ++ [u], e', rfl, h1, hc3, by rw [hjs]; simp, h2, he2.snoc hu⟩, ?_⟩
      walk_at "run"
      refine i_tyL (SqL.of hp2) ?_
      walk_at "run"
      refine i_ixT (SqT.of hq) (atI_nat (j := 1) rfl) ?_
      walk_at "run"
      refine i_append hp2 (by omega) ?_
      have s3 : Same H (upd H2 pr (.lst (vs2 ++ [u]))) := s2.updNew f1
      have t3 : Tups H2 (upd H2 pr (.lst (vs2 ++ [u]))) := Tups.upd hp2
      have e3 : upd H2 pr (.lst (vs2 ++ [u])) pr = some (.lst (vs2 ++ [u])) := upd_same
      generalize upd H2 pr (.lst (vs2 ++ [u])) = H3 at s3 t3 e3
      obtain ⟨kvs, k1, k2, k3⟩ := (hW.same s3).ex
      obtain ⟨v3, k4, k5⟩ := k3 p w3 hw3
      walk_at "run"
      refine i_ixT (SqT.of (t3 _ _ hq)) (atI_nat (j := 0) rfl) ?_
      refine ⟨wd, kvs, pairT p, v3, rfl, k1, (hpv.tups t3).key, k4, ?_⟩
      walk_at "run"
      exact ⟨s3, v3, rfl, k5, e3⟩
def sp_parting (P : Params) : Sp := fun vs H Q _ => ∃ (tt : Addr) (x y : Nat) (us : List V) (rs : List RRoom), vs = [.ref tt, .int (x : Nat), .int (y : Nat)] ∧ TblAt H tt us rs ∧ TblOk us.length rs ∧ x < rs.length ∧ y < rs.length ∧
  ((roomA rs x).1 ≠ (roomA rs y).1 → ∀ l H', H l = none → Same H H' → H' l = some (.lst []) → Q (.ref l) H') ∧
  ((roomA rs x).1 = (roomA rs y).1 →
    (∀ n H', (Pst.run rs us.length x y n).found.length = n → (∀ i p, i < n → (Pst.run rs us.length x y n).found[i]? = some p → ∀ j, j < us.length → ¬ Differs rs p j) → Same H H' → Q .non H') ∧
    (∀ n p j, (Pst.run rs us.length x y n).found[n]? = some p → j < us.length → Differs rs p j → (∀ i q, i < n → (Pst.run rs us.length x y n).found[i]? = some q → ∀ j, j < us.length → ¬ Differs rs q j) → (∀ j', j' < j → ¬ Differs rs p j') →
      ∃ js, ChainP ((Pst.run rs us.length x y n).all rs p j).ways (some (p, j)) js ∧ js.length ≤ 10000 ∧ ∀ l vs H', H l = none → Same H H' → H' l = some (.lst vs) → Each (fun v j => us[j]? = some v) vs js.reverse → Q (.ref l) H'))
theorem TblAt.room {H : Hp} {c : Addr} {rvs : List V} {rs : List RRoom} {x : Nat} (h : Each (RoomAt H) rvs rs) (hx : x < rs.length) : ∃ q g ps, rvs[x]? = some (.ref q) ∧ H q = some (.tup [.bl (roomA rs x).1, .ref g]) ∧ H g = some (.lst ps) ∧ Each (RowAt H) ps (roomA rs x).2 := by
  have e : rs[x]? = some (roomA rs x) := by unfold roomA; simp [hx]
  obtain ⟨v, h1, q, g, ps, rfl, h2, h3, h4⟩ := h.get e
  exact ⟨q, g, ps, h1, h2, h3, h4⟩
theorem stat_but {P : Params} {C tp td pf wd : Addr} {H H' : Hp} {us : List V} {S : Pst} (h : StAt P C H tp td pf wd us S) (b : But td H H') : (∃ fvs, H' pf = some (.lst fvs) ∧ Each (PairAt H') fvs S.found) ∧ WaysAt P H' wd us S.ways S.found.length ∧ Tups H H' := by
  obtain ⟨h1, ⟨fvs, h2, h3⟩, h4⟩ := h
  obtain ⟨dx, kvs, f, rk, g1, g2, _⟩ := h1.ex
  obtain ⟨φ, e⟩ := h4.ext
  have k := b.tups g2
  exact ⟨⟨fvs, b _ _ (ne_of h2 g2 (fun z => nomatch z)) h2, h3.mono fun v p hp => hp.tups k⟩, h4.mono k ((b _ _ (ne_of e g2 (fun z => nomatch z)) e).trans e.symm), k⟩
theorem both_unite {C tp td : Addr} {x y : Nat} {H H1 : Hp} {A : Hp → Prop} (s1 : Same H H1) (f : H td = none) (h : ∀ H', Same H H' → TogAt C H' tp td (uni id x y) 1 → A H') : (∀ H', But td H1 H' → id x = id y → TogAt C H' tp td id 0 → A H') ∧ (∀ H', But td H1 H' → id x ≠ id y → TogAt C H' tp td (uni id x y) (0 + 1) → A H') :=
  ⟨fun H' b e hT => h H' (b.new s1 f) (by
    have e : x = y := e
    subst e
    rw [uni_id]
    exact hT.le (by omega)), fun H' b _ hT => h H' (b.new s1 f) hT⟩
theorem ok_parting (T : Txt K mg t) : FnOk P w K mg base CX0 3 t.a_parting t.fd_parting ["table", "room", "other"] (sp_parting w.params) := by
  have G_Together___init__ := ok_Together___init__ (P := P) (w := w) (base := base) T
  have G_Together_unite := ok_Together_unite (P := P) (w := w) (base := base) T
  have G_row_by := ok_row_by (P := P) (w := w) (base := base) T
  refine T.F_parting.ok sc_parting (fun vs H Q E h => ?_) (fun cdv A outer s H vs Q E hr h => ?_)
  · obtain ⟨tt, x, y, us, rs, rfl, _⟩ := h
    rfl
  · obtain ⟨tt, x, y, us, rs, rfl, hT, ok, hx, hy, qd, qs⟩ := h
    refine ⟨_, (@pss_cons _ _ _ _ _ (@ps_set _ _ 3 _ _ _ _ sc_parting.nd rfl (by first | exact Or.inl rfl | exact Or.inr rfl) (@pe_ix _ _ _ _ _ _ _ (kix_tup K) (pv 0) (@pe_int _ _ _ _) (fun _ _ => rfl)) (by rfl) (by first | exact Or.inl rfl | exact Or.inr rfl))
      (@pss_cons _ _ _ _ _ (@ps_if _ _ _ _ _ _ _ _ (@pt_cmpR _ _ _ _ _ _ _ _ op_ne (@pe_ix _ _ _ _ _ _ _ (kix_tup K) (@pe_ix _ _ _ _ _ _ _ (kix_list K) (pv 3) (pv 1) (fun _ _ => rfl)) (@pe_int _ _ _ _) (fun _ _ => rfl)) (@pe_ix _ _ _ _ _ _ _ (kix_tup K) (@pe_ix _ _ _ _ _ _ _ (kix_list K) (pv 3) (pv 2) (fun _ _ => rfl)) (@pe_int _ _ _ _) (fun _ _ => rfl)) (nomark _)) (@pss_one _ _ _ (@ps_ret _ _ _ _ (@pe_lstN _ _ _ _ (@pa_nil _)))) (@pss_nil _))
      (@pss_cons _ _ _ _ _ (@ps_set _ _ 4 _ _ _ _ sc_parting.nd rfl (by first | exact Or.inl rfl | exact Or.inr rfl) (pe_make0 T.mk_Together G_Together___init__ (hr.mono (by omega)) rfl T.m_Together T.b_Together___init__ .nil pass0) (by rfl) (by first | exact Or.inl rfl | exact Or.inr rfl))
      (@pss_cons _ _ _ _ _ (@ps_expr _ _ _ _ (pe_meth (pv 4) T.cl_Together T.M_Together_unite G_Together_unite (hr.mono (by omega)) T.b_Together_unite .nil pass0 (@pa_cons _ _ _ _ _ (pv 1) (@pa_cons _ _ _ _ _ (pv 2) (@pa_nil _) (by rfl)) (by rfl))) (by rfl))
      (@pss_cons _ _ _ _ _ (@ps_set _ _ 5 _ _ _ _ sc_parting.nd rfl (by first | exact Or.inl rfl | exact Or.inr rfl) (@pe_lstN _ _ _ _ (@pa_cons _ _ _ _ _ (@pe_tupN _ _ _ _ _ (@pa_cons _ _ _ _ _ (pv 1) (@pa_cons _ _ _ _ _ (pv 2) (@pa_nil _) (by rfl)) (by rfl))) (@pa_nil _) (by rfl))) (by rfl) (by first | exact Or.inl rfl | exact Or.inr rfl))
      (@pss_cons _ _ _ _ _ (@ps_set _ _ 6 _ _ _ _ sc_parting.nd rfl (by first | exact Or.inl rfl | exact Or.inr rfl) (pe_tdisp (P := w.params) rfl (by exact hr.units) (@pe_tupN _ _ _ _ _ (@pa_cons _ _ _ _ _ (pv 1) (@pa_cons _ _ _ _ _ (pv 2) (@pa_nil _) (by rfl)) (by rfl))) (@pe_non _ _ _)) (by rfl) (by first | exact Or.inl rfl | exact Or.inr rfl))
      (@pss_cons _ _ _ _ _ (@ps_set _ _ 7 _ _ _ _ sc_parting.nd rfl (by first | exact Or.inl rfl | exact Or.inr rfl) (@pe_int _ _ _ _) (by rfl) (by first | exact Or.inl rfl | exact Or.inr rfl))
      (@pss_cons _ _ _ _ _ (@ps_while _ _ _ _ _ _ PassesOwn.never (@pt_cmpR _ _ _ _ _ _ _ _ op_lt (pv 7) (@pe_callB _ _ _ _ _ _ _ _ _ (kcl_len K) (by rfl) T.z_len bb_len (@pa_cons _ _ _ _ _ (pv 5) (@pa_nil _) (by rfl)) (by decide) (by decide) (by rfl) (by rfl)) (nomark _)) (@pss_cons _ _ _ _ _ (@ps_set _ _ 8 _ _ _ _ sc_parting.nd rfl (by first | exact Or.inl rfl | exact Or.inr rfl) (@pe_ix _ _ _ _ _ _ _ (kix_list K) (pv 5) (pv 7) (fun _ _ => rfl)) (by rfl) (by first | exact Or.inl rfl | exact Or.inr rfl))
        (@pss_cons _ _ _ _ _ (@ps_for _ _ _ _ _ _ _ _ PassesOwn.never rfl (pi_zip3 K rfl T.z_zip (@pa_cons _ _ _ _ _ (@pe_ix _ _ _ _ _ _ _ (kix_tup K) (pv 0) (@pe_int _ _ _ _) (fun _ _ => rfl)) (@pa_cons _ _ _ _ _ (@pe_ix _ _ _ _ _ _ _ (kix_tup K) (@pe_ix _ _ _ _ _ _ _ (kix_list K) (pv 3) (@pe_ix _ _ _ _ _ _ _ (kix_tup K) (pv 8) (@pe_int _ _ _ _) (fun _ _ => rfl)) (fun _ _ => rfl)) (@pe_int _ _ _ _) (fun _ _ => rfl)) (@pa_cons _ _ _ _ _ (@pe_ix _ _ _ _ _ _ _ (kix_tup K) (@pe_ix _ _ _ _ _ _ _ (kix_list K) (pv 3) (@pe_ix _ _ _ _ _ _ _ (kix_tup K) (pv 8) (@pe_int _ _ _ _) (fun _ _ => rfl)) (fun _ _ => rfl)) (@pe_int _ _ _ _) (fun _ _ => rfl)) (@pa_nil _) (by rfl)) (by rfl)) (by rfl))) (kpg_tup K (n := 3) rfl (pgs_cons (pg_name (i := 9) sc_parting.nd rfl (by first | exact Or.inl rfl | exact Or.inr rfl)) (pgs_cons (pg_name (i := 10) sc_parting.nd rfl (by first | exact Or.inl rfl | exact Or.inr rfl)) (pgs_cons (pg_name (i := 11) sc_parting.nd rfl (by first | exact Or.inl rfl | exact Or.inr rfl)) (@pgs_nil _))))) (@pss_cons _ _ _ _ _ (@ps_if _ _ _ _ _ _ _ _ (@pt_pure _ _ _ (@PW.pt _ _ _ (@pw_or _ _ _ _ _ _ _ (@pt_cmpR _ _ _ _ _ _ _ _ (kop_neS K (by exact hr.units0)) (@pe_ix _ _ _ _ _ _ _ (kix_tup K) (pv 10) (@pe_int _ _ _ _) (fun _ _ => rfl)) (@pe_ix _ _ _ _ _ _ _ (kix_tup K) (pv 11) (@pe_int _ _ _ _) (fun _ _ => rfl)) (nomark _)) (@pw_or1 _ _ _ _ (@pt_cmpR _ _ _ _ _ _ _ _ op_ne (@pe_ix _ _ _ _ _ _ _ (kix_tup K) (@pe_ix _ _ _ _ _ _ _ (kix_list K) (pv 3) (@pe_ix _ _ _ _ _ _ _ (kix_tup K) (pv 10) (@pe_int _ _ _ _) (fun _ _ => rfl)) (fun _ _ => rfl)) (@pe_int _ _ _ _) (fun _ _ => rfl)) (@pe_ix _ _ _ _ _ _ _ (kix_tup K) (@pe_ix _ _ _ _ _ _ _ (kix_list K) (pv 3) (@pe_ix _ _ _ _ _ _ _ (kix_tup K) (pv 11) (@pe_int _ _ _ _) (fun _ _ => rfl)) (fun _ _ => rfl)) (@pe_int _ _ _ _) (fun _ _ => rfl)) (nomark _)))))) (@pss_one _ _ _ (@ps_ret _ _ _ _ (@pe_call _ _ _ _ _ _ _ _ _ _ _ _ _ _ _ _ G_row_by (hr.mono (by omega)) rfl T.m_row_by T.F_row_by.kp T.b_row_by .nil pass0 (@pa_cons _ _ _ _ _ (pv 6) (@pa_cons _ _ _ _ _ (@pe_tupN _ _ _ _ _ (@pa_cons _ _ _ _ _ (pv 8) (@pa_cons _ _ _ _ _ (pv 9) (@pa_nil _) (by rfl)) (by rfl))) (@pa_nil _) (by rfl)) (by rfl)) (by decide) (by rfl) (by rfl)))) (@pss_nil _))
          (@pss_one _ _ _ (@ps_if _ _ _ _ _ _ _ _ (kpt_tru K (pe_meth (pv 4) T.cl_Together T.M_Together_unite G_Together_unite (hr.mono (by omega)) T.b_Together_unite .nil pass0 (@pa_cons _ _ _ _ _ (@pe_ix _ _ _ _ _ _ _ (kix_tup K) (pv 10) (@pe_int _ _ _ _) (fun _ _ => rfl)) (@pa_cons _ _ _ _ _ (@pe_ix _ _ _ _ _ _ _ (kix_tup K) (pv 11) (@pe_int _ _ _ _) (fun _ _ => rfl)) (@pa_nil _) (by rfl)) (by rfl))) (fun _ => rfl)) (@pss_cons _ _ _ _ _ (ps_tput (P := w.params) rfl (by exact hr.units) (pv 6) (@pe_tupN _ _ _ _ _ (@pa_cons _ _ _ _ _ (@pe_ix _ _ _ _ _ _ _ (kix_tup K) (pv 10) (@pe_int _ _ _ _) (fun _ _ => rfl)) (@pa_cons _ _ _ _ _ (@pe_ix _ _ _ _ _ _ _ (kix_tup K) (pv 11) (@pe_int _ _ _ _) (fun _ _ => rfl)) (@pa_nil _) (by rfl)) (by rfl))) (@pe_tupN _ _ _ _ _ (@pa_cons _ _ _ _ _ (pv 8) (@pa_cons _ _ _ _ _ (pv 9) (@pa_nil _) (by rfl)) (by rfl))) rfl)
            (@pss_one _ _ _ (@ps_expr _ _ _ _ (@kpe_bm _ K _ _ _ _ _ _ _ _ _ _ _ PySem.F.plainAttrs_list PySem.F.slot_list_append PySem.F.type_list_append mt_append (pv 5) (@pa_cons _ _ _ _ _ (@pe_tupN _ _ _ _ _ (@pa_cons _ _ _ _ _ (@pe_ix _ _ _ _ _ _ _ (kix_tup K) (pv 10) (@pe_int _ _ _ _) (fun _ _ => rfl)) (@pa_cons _ _ _ _ _ (@pe_ix _ _ _ _ _ _ _ (kix_tup K) (pv 11) (@pe_int _ _ _ _) (fun _ _ => rfl)) (@pa_nil _) (by rfl)) (by rfl))) (@pa_nil _) (by rfl)) (by rfl) (by rfl) (by rfl) (by rfl) (by rfl) (by rfl)) (by rfl)))) (@pss_nil _)))) (by intro _; rfl))
        (@pss_one _ _ _ (@ps_aug _ _ 7 _ _ _ _ _ _ sc_parting.nd rfl (by first | exact Or.inl rfl | exact Or.inr rfl) (@pe_int _ _ _ _) ip_add (by first | exact Or.inl rfl | exact Or.inr rfl))))))
      (@pss_one _ _ _ (@ps_ret _ _ _ _ (@pe_non _ _ _))))))))))), ?_⟩
    have sl : (1000000 : Nat) ≤ sizeLine := le_line (Nat.le_refl _)
    have o1 := ok.nm
    have o2 := ok.nr
    obtain ⟨ea, eb, ec, rvs, t1, t2, t3, t4⟩ := hT.ex
    obtain ⟨qx, gx, psx, x1, x2, x3, x4⟩ := TblAt.room (c := ec) t4 hx
    obtain ⟨qy, gy, psy, y1, y2, y3, y4⟩ := TblAt.room (c := ec) t4 hy
    walk_at "go"
    refine i_ixT (SqT.of t1) (atI_nat (j := 2) rfl) ?_
    walk_at "run"
    refine i_ixL (SqL.of t3) (atI_nat (j := x) x1) ?_
    walk_at "run"
    refine i_ixT (SqT.of x2) (atI_nat (j := 0) rfl) ?_
    walk_at "run"
    refine i_ixL (SqL.of t3) (atI_nat (j := y) y1) ?_
    walk_at "run"
    refine i_ixT (SqT.of y2) (atI_nat (j := 0) rfl) ?_
    walk_at "run"
    by_cases hfl : ¬ (roomA rs x).1 = (roomA rs y).1
    · refine i_itNT hfl ?_
      walk_at "run"
      intro l H1 f1 s1 e1
      exact qd hfl l H1 f1 s1 e1
    have hfl : (roomA rs x).1 = (roomA rs y).1 := Decidable.not_not.mp hfl
    obtain ⟨qn, qr⟩ := qs hfl
    clear qs qd
    refine i_itNF hfl ?_
    walk_at "run"
    intro tp dx ftp fdx hne
    have s0 : Same H (upd (upd H dx (.own tp)) tp (.ins t.c_Together dx [])) := (Same.new fdx).updNew ftp
    have e0 : upd (upd H dx (.own tp)) tp (.ins t.c_Together dx []) tp = some (.ins t.c_Together dx []) := upd_same
    generalize upd (upd H dx (.own tp)) tp (.ins t.c_Together dx []) = H0 at s0 e0
    refine ⟨tp, dx, rfl, e0, fun td H1 ftd0 k1 hT1 => ⟨rfl, ?_⟩⟩
    have ftd := s0.free ftd0
    have s1 : Same H H1 := fun b o e => k1 b o (s0 b o e) (ne_of_none e ftp)
    clear k1
    obtain ⟨dx1, kvs1, fu1, rk1, g1, _⟩ := hT1.ex
    walk_at "run"
    refine ⟨tp, dx1, _, rfl, g1, hF_no td (by decide +kernel), ?_⟩
    walk_at "run"
    refine ⟨tp, td, x, y, id, 0, rfl, hT1, by omega, ?_⟩
    refine both_unite s1 ftd (fun H2 s2 hT2 => ?_)
    walk_at "run"
    intro a1 H3 f3 s3 e3
    walk_at "run"
    intro pf H4 f4 s4 e4
    walk_at "run"
    have s24 := s3.trans s4
    have s04 := s2.trans s24
    have fpf : H pf = none := (s2.trans s3).free f4
    intro wd o5 f5
    have fwd : H wd = none := s04.free f5
    have s5 : Same H4 (upd H4 wd o5) := Same.new f5
    have e5 : upd H4 wd o5 wd = some o5 := upd_same
    generalize upd H4 wd o5 = H5 at s5 e5
    walk_at "run"
    intro a2 H6 f6 s6 e6
    walk_at "run"
    refine ⟨s6 _ _ e5, pairT (x, y), PairAt.key ⟨a2, rfl, e6⟩, fun o7 d7 => ?_⟩
    have s47 : Same H4 (upd H6 wd o7) := (s5.trans s6).updNew f5
    generalize upd H6 wd o7 = H7 at s47 d7
    have s7 := s04.trans s47
    have st7 : StAt w.params t.c_Together H7 tp td pf wd us (Pst.first x y) := by
      refine ⟨hT2.same (s24.trans s47), ⟨_, s47 _ _ e4, Each.nil.snoc ⟨a1, rfl, (s4.trans s47) _ _ e3⟩⟩, ⟨_, d7, Nat.le_refl _, fun p w0 hw => ?_⟩⟩
      show ∃ v, valV [(pairT (x, y), V.non)] (pairT p) = some v ∧ WayAt H7 us v w0
      by_cases e : p = (x, y)
      · subst e
        simp [Pst.first] at hw
        subst hw
        exact ⟨.non, valV_pos rfl, .inl ⟨rfl, rfl⟩⟩
      · simp [Pst.first, e] at hw
    clear s47 d7 s6 e6 s5 e5 e4 s4 e3 s3 hT2 s2 hT1 s24 s04
    walk_at "run"
    have run0 : Pst.run rs us.length x y 0 = Pst.first x y := rfl
    refine i_while (fun n σ H' => Same H H' ∧ ∃ (pl : Nat) (y1 y2 y3 y4 : Option V), n = rs.length * rs.length + 1 - pl ∧ σ = [some (.ref tt), some (.int (x : Nat)), some (.int (y : Nat)), some (.ref ec), some (.ref tp), some (.ref pf), some (.ref wd), some (.int (pl : Nat)), y1, y2, y3, y4] ∧ pl ≤ (Pst.run rs us.length x y pl).found.length ∧ PstOk rs.length (Pst.run rs us.length x y pl) ∧ StAt w.params t.c_Together H' tp td pf wd us (Pst.run rs us.length x y pl) ∧ ∀ i q, i < pl → (Pst.run rs us.length x y pl).found[i]? = some q → ∀ j, j < us.length → ¬ Differs rs q j) (rs.length * rs.length + 1) ⟨s7, 0, _, _, _, _, rfl, rfl, Nat.zero_le _, PstOk.first hx hy, st7, fun i q hi => absurd hi (Nat.not_lt_zero _)⟩ ?_
    rintro n σ H8 ⟨s8, pl, z1, z2, z3, z4, rfl, rfl, hpl, hok, st8, hno⟩
    have hfew := hok.few
    have hNN : rs.length * rs.length ≤ 300 * 300 := Nat.mul_le_mul o2 o2
    obtain ⟨fvs, hf8, hf9⟩ := st8.fnd
    walk_at "run"
    refine i_lenL (SqL.of hf8) ?_
    walk_at "run"
    rw [hf9.1]
    refine ite2 (fun hc => ?_) (fun hc => ?_)
    · have hlt : pl < (Pst.run rs us.length x y pl).found.length := by have := of_decide_eq_true hc; omega
      obtain ⟨p, hp⟩ : ∃ p, (Pst.run rs us.length x y pl).found[pl]? = some p := ⟨_, List.getElem?_eq_getElem hlt⟩
      have hrun : Pst.run rs us.length x y (pl + 1) = (Pst.run rs us.length x y pl).all rs p us.length := by
        show (match (Pst.run rs us.length x y pl).found[pl]? with | some p => _ | none => _) = _
        rw [hp]
      have qr1 := qr pl p
      have qr2 := fun j => qr1 j hp
      clear qr qr1 qn
      obtain ⟨pl1, pl2⟩ := hok.lt p (List.mem_of_getElem? hp)
      generalize Pst.run rs us.length x y pl = S at *
      have okj : ∀ j, j ≤ us.length → PstOk rs.length (S.all rs p j) := PstOk.all ok ⟨pl1, pl2⟩ hok
      refine ⟨fun σ' H' => Same H H' ∧ StAt w.params t.c_Together H' tp td pf wd us (S.all rs p us.length) ∧ (∀ j, j < us.length → ¬ Differs rs p j) ∧ ∃ (y1 y2 y3 y4 : Option V), σ' = [some (.ref tt), some (.int (x : Nat)), some (.int (y : Nat)), some (.ref ec), some (.ref tp), some (.ref pf), some (.ref wd), some (.int ((pl : Int) + 1)), y1, y2, y3, y4], fun σ' H' ⟨s', st', nd', y1, y2, y3, y4, e'⟩ => ?_, ?_⟩
      · refine ⟨rs.length * rs.length + 1 - (pl + 1), by omega, s', pl + 1, y1, y2, y3, y4, rfl, by rw [e']; simp, ?_, by rw [hrun]; exact okj _ (Nat.le_refl _), by rw [hrun]; exact st', fun i q hi hq => ?_⟩
        · rw [hrun]
          obtain ⟨tl, e⟩ := Pst.all_found rs p us.length S
          rw [e, List.length_append]
          omega
        · rw [hrun] at hq
          obtain ⟨tl, e⟩ := Pst.all_found rs p us.length S
          rw [e, List.getElem?_append_left (by omega)] at hq
          by_cases hi2 : i < pl
          · exact hno i q hi2 hq
          · have : i = pl := by omega
            subst this
            rw [hp] at hq
            cases hq
            exact nd'
      obtain ⟨pv, hpv, pa, rfl, hpa⟩ := hf9.get hp
      have s8' := s8
      obtain ⟨q1, g1, ps1, r1, r2, r3, r4⟩ := TblAt.room (c := ec) t4 pl1
      obtain ⟨q2, g2, ps2, w1, w2, w3, w4⟩ := TblAt.room (c := ec) t4 pl2
      have pl1' : ps1.length = us.length := by rw [r4.1]; exact (ok.rows _ (List.mem_of_getElem? (show rs[p.1]? = some (roomA rs p.1) by unfold roomA; simp [pl1]))).1
      have pl2' : ps2.length = us.length := by rw [w4.1]; exact (ok.rows _ (List.mem_of_getElem? (show rs[p.2]? = some (roomA rs p.2) by unfold roomA; simp [pl2]))).1
      walk_at "run"
      refine i_ixL (SqL.of hf8) (atI_nat (j := pl) hpv) ?_
      walk_at "run"
      refine i_ixT (SqT.of (s8 _ _ t1)) (atI_nat (j := 0) rfl) ?_
      walk_at "run"
      refine i_ixT (SqT.of hpa) (atI_nat (j := 0) rfl) ?_
      walk_at "run"
      refine i_ixL (SqL.of (s8 _ _ t3)) (atI_nat (j := p.1) r1) ?_
      walk_at "run"
      refine i_ixT (SqT.of (s8 _ _ r2)) (atI_nat (j := 1) rfl) ?_
      walk_at "run"
      refine i_ixT (SqT.of hpa) (atI_nat (j := 1) rfl) ?_
      walk_at "run"
      refine i_ixL (SqL.of (s8 _ _ t3)) (atI_nat (j := p.2) w1) ?_
      walk_at "run"
      refine i_ixT (SqT.of (s8 _ _ w2)) (atI_nat (j := 1) rfl) ?_
      walk_at "run"
      refine ⟨ea, g1, g2, rfl, ⟨_, SqL.of (s8 _ _ t2)⟩, ⟨_, SqL.of (s8 _ _ r3)⟩, ⟨_, SqL.of (s8 _ _ w3)⟩, for_zip3 (K := K) (a := ea) (b := g1) (c := g2) (xs := us) (ys := ps1) (us := ps2) pl1'.symm pl2'.symm (fun j σ H' => Same H H' ∧ StAt w.params t.c_Together H' tp td pf wd us (S.all rs p j) ∧ (∀ j', j' < j → ¬ Differs rs p j') ∧ H' pa = some (.tup [.int (p.1 : Nat), .int (p.2 : Nat)]) ∧ ∃ (y2 y3 y4 : Option V), σ = [some (.ref tt), some (.int (x : Nat)), some (.int (y : Nat)), some (.ref ec), some (.ref tp), some (.ref pf), some (.ref wd), some (.int (pl : Nat)), some (.ref pa), y2, y3, y4]) ⟨s8, st8, fun j' hj => absurd hj (Nat.not_lt_zero _), hpa, _, _, _, rfl⟩ (fun j σ H' _ ⟨s', _⟩ => ⟨SqL.of (s' _ _ t2), SqL.of (s' _ _ r3), SqL.of (s' _ _ w3)⟩) ?_ ?_⟩
      · rintro j ev v1 v2 σ H9 qt H10 hev hv1 hv2 ⟨s9, st9, nd9, hpa9, y2, y3, y4, rfl⟩ s910 hqt
        have hj : j < us.length := (List.getElem?_eq_some_iff.mp hev).1
        obtain ⟨n1, _, n1'⟩ := rowA_lt ok pl1 hj
        obtain ⟨n2, _, n2'⟩ := rowA_lt ok pl2 hj
        obtain ⟨k1, sl1, rfl, hk1, hs1⟩ := r4.2 j v1 _ hv1 n1'
        obtain ⟨k2, sl2, rfl, hk2, hs2⟩ := w4.2 j v2 _ hv2 n2'
        obtain ⟨qa1, ga1, psa1, ra1, rb1, _⟩ := TblAt.room (c := ec) t4 n1
        obtain ⟨qa2, ga2, psa2, ra2, rb2, _⟩ := TblAt.room (c := ec) t4 n2
        have s10 : Same H H10 := s9.trans s910
        have hk1' := s10 _ _ hk1
        have hk2' := s10 _ _ hk2
        refine i_asgT (SqT.of hqt) rfl ?_
        walk_at "run"
        refine i_pure (Differs rs p j) (fun R hR => ?_) ?_
        · walk_at "run"
          refine i_ixT (SqT.of hk1') (atI_nat (j := 0) rfl) ?_
          walk_at "run"
          refine i_ixT (SqT.of hk2') (atI_nat (j := 0) rfl) ?_
          walk_at "run"
          refine i_neL (SqL.of (s10 _ _ hs1)) (SqL.of (s10 _ _ hs2)) ?_
          walk_at "run"
          by_cases hsd : (rowA rs p.1 j).1 = (rowA rs p.2 j).1
          · refine i_itNF hsd ?_
            walk_at "run"
            refine i_ixT (SqT.of hk1') (atI_nat (j := 1) rfl) ?_
            walk_at "run"
            refine i_ixL (SqL.of (s10 _ _ t3)) (atI_nat (j := (rowA rs p.1 j).2) ra1) ?_
            walk_at "run"
            refine i_ixT (SqT.of (s10 _ _ rb1)) (atI_nat (j := 0) rfl) ?_
            walk_at "run"
            refine i_ixT (SqT.of hk2') (atI_nat (j := 1) rfl) ?_
            walk_at "run"
            refine i_ixL (SqL.of (s10 _ _ t3)) (atI_nat (j := (rowA rs p.2 j).2) ra2) ?_
            walk_at "run"
            refine i_ixT (SqT.of (s10 _ _ rb2)) (atI_nat (j := 0) rfl) ?_
            walk_at "run"
            rw [show (!decide ((roomA rs (rowA rs p.1 j).2).1 = (roomA rs (rowA rs p.2 j).2).1)) = decide (Differs rs p j) from by
              rw [Bool.eq_iff_iff]
              simp [Differs, hsd]]
            exact hR
          · refine i_itNT hsd ?_
            exact rT hR (.inl hsd)
        by_cases hd : Differs rs p j
        · refine i_itDT hd ?_
          walk_at "run"
          intro qa H11 f11 s11 e11
          obtain ⟨js, hch, hjl, hq⟩ := qr2 j hj hd hno nd9
          have s1011 := s910.trans s11
          exact ⟨wd, .ref qa, us, _, _, some (p, j), js, rfl, st9.way.same s1011, .inr ⟨p, j, qa, .ref pa, ev, rfl, rfl, e11, ⟨pa, rfl, s1011 _ _ hpa9⟩, hev⟩, hch, hjl, fun l vs H12 f12 s12 e12 he12 => hq l vs H12 ((s10.trans s11).free f12) ((s10.trans s11).trans s12) e12 he12⟩
        · refine i_itDF hd ?_
          have st10 := st9.same s910
          have hpa10 := s910 _ _ hpa9
          have few := (okj j (by omega)).few
          have hall : S.all rs p (j + 1) = (S.all rs p j).go rs p j := rfl
          have nd10 : ∀ j', j' < j + 1 → ¬ Differs rs p j' := fun j' hj' => by
            by_cases e : j' = j
            · rw [e]; exact hd
            · exact nd9 j' (by omega)
          generalize S.all rs p j = S1 at *
          obtain ⟨dx1, kvs1, fu1, rk1, tg1, tg2, _⟩ := st10.tog.ex
          walk_at "run"
          refine ⟨tp, dx1, _, rfl, tg1, hF_no td (by decide +kernel), ?_⟩
          walk_at "run"
          refine i_ixT (SqT.of hk1') (atI_nat (j := 1) rfl) ?_
          walk_at "run"
          refine i_ixT (SqT.of hk2') (atI_nat (j := 1) rfl) ?_
          walk_at "run"
          refine ⟨tp, td, _, _, S1.rep, S1.found.length, rfl, st10.tog, by omega, fun H11 b11 he hT11 => ?_, fun H11 b11 he hT11 => ?_⟩
          · obtain ⟨f11, w11, u11⟩ := stat_but st10 b11
            walk_at "run"
            refine ⟨b11.new s10 ftd, ?_, nd10, u11 _ _ hpa10, _, _, _, rfl⟩
            rw [hall, show S1.go rs p j = S1 by unfold Pst.go; exact if_pos he]
            exact ⟨hT11, f11, w11⟩
          · obtain ⟨⟨fv, f11, fe11⟩, w11, u11⟩ := stat_but st10 b11
            have s11 := b11.new s10 ftd
            have hk1'' := s11 _ _ hk1
            have hk2'' := s11 _ _ hk2
            walk_at "run"
            intro qa H12 f12 s12 e12
            walk_at "run"
            refine i_ixT (SqT.of (s12 _ _ hk1'')) (atI_nat (j := 1) rfl) ?_
            walk_at "run"
            refine i_ixT (SqT.of (s12 _ _ hk2'')) (atI_nat (j := 1) rfl) ?_
            walk_at "run"
            intro a2 H13 f13 s13 e13
            have s1113 := s12.trans s13
            obtain ⟨kvs, d1, d2, d3⟩ := (w11.same s1113).ex
            obtain ⟨φ, dφ⟩ := d1.ext
            refine ⟨wd, kvs, pairT (nextP rs p j), rfl, d1, PairAt.key ⟨a2, rfl, e13⟩, by omega, fun o14 d14 => ?_⟩
            have hT13 := hT11.same s1113
            obtain ⟨dx3, kvs3, fu3, rk3, x1, x2, _⟩ := hT13.ex
            have f13' := s1113 _ _ f11
            have ntp : tp ≠ wd := ne_of x1 dφ (fun z => nomatch z)
            have ntd : td ≠ wd := ne_of x2 dφ (fun z => nomatch z)
            have npf : pf ≠ wd := ne_of f13' dφ (fun z => nomatch z)
            have ntp2 : tp ≠ pf := ne_of x1 f13' (fun z => nomatch z)
            have ntd2 : td ≠ pf := ne_of x2 f13' (fun z => nomatch z)
            have u14 : Tups H13 (upd H13 wd o14) := tups_updE dφ
            have s14 : Same H (upd H13 wd o14) := (s11.trans s1113).updNew fwd
            have hT14 : TogAt t.c_Together (upd H13 wd o14) tp td (uni S1.rep (nextP rs p j).1 (nextP rs p j).2) (S1.found.length + 1) := hT13.keep fun b o hb e => by
              rcases hb with rfl | rfl
              · rw [upd_ne ntp]; exact e
              · rw [upd_ne ntd]; exact e
            have f14 : upd H13 wd o14 pf = some (.lst fv) := by rw [upd_ne npf]; exact f13'
            generalize upd H13 wd o14 = H14 at u14 s14 hT14 f14 d14
            walk_at "run"
            refine i_tyL (SqL.of f14) ?_
            walk_at "run"
            refine i_ixT (SqT.of (s14 _ _ hk1)) (atI_nat (j := 1) rfl) ?_
            walk_at "run"
            refine i_ixT (SqT.of (s14 _ _ hk2)) (atI_nat (j := 1) rfl) ?_
            walk_at "run"
            intro a3 H15 f15 s15 e15
            have f15' := s15 _ _ f14
            walk_at "run"
            refine i_append f15' (by rw [fe11.1]; omega) ?_
            have u15 : Tups H15 (upd H15 pf (.lst (fv ++ [.ref a3]))) := Tups.upd f15'
            have u16 : Tups H11 (upd H15 pf (.lst (fv ++ [.ref a3]))) := s1113.tups.trans (u14.trans (s15.tups.trans u15))
            refine ⟨(s14.trans s15).updNew fpf, ?_, nd10, u16 _ _ (u11 _ _ hpa10), _, _, _, rfl⟩
            rw [hall, show S1.go rs p j = ⟨uni S1.rep (nextP rs p j).1 (nextP rs p j).2, S1.found ++ [nextP rs p j], fun q => if q = nextP rs p j then some (some (p, j)) else S1.ways q⟩ by unfold Pst.go; exact if_neg he]
            refine ⟨?_, ⟨_, upd_same, (fe11.mono fun v q hq => hq.tups u16).snoc ⟨a3, rfl, u15 _ _ e15⟩⟩, ?_⟩
            · have := (hT14.same s15).keep (H' := upd H15 pf (.lst (fv ++ [.ref a3]))) fun b o hb e => by
                rcases hb with rfl | rfl
                · rw [upd_ne ntp2]; exact e
                · rw [upd_ne ntd2]; exact e
              exact this.le (by simp)
            · have wl := length_putK kvs (pairT (nextP rs p j)) (V.ref qa)
              have w14 : WaysAt w.params H14 wd us (fun q => if q = nextP rs p j then some (some (p, j)) else S1.ways q) (S1.found ++ [nextP rs p j]).length := by
                refine ⟨_, d14, by simp; omega, fun q w0 hw => ?_⟩
                by_cases e : q = nextP rs p j
                · rw [if_pos e] at hw
                  cases hw
                  refine ⟨.ref qa, by rw [valV_put, if_pos (by rw [e])], .inr ⟨p, j, qa, .ref pa, ev, rfl, rfl, u14 _ _ (s13 _ _ e12), ⟨pa, rfl, (s1113.tups.trans u14) _ _ (u11 _ _ hpa10)⟩, hev⟩⟩
                · rw [if_neg e] at hw
                  obtain ⟨v, a, b⟩ := d3 q w0 hw
                  exact ⟨v, by rw [valV_put, if_neg (fun z => e (pairT_inj.mp z))]; exact a, b.tups u14⟩
              exact (w14.same s15).mono u15 (upd_ne (Ne.symm npf))
      · rintro σ H9 ⟨s9, st9, nd9, hpa9, y2, y3, y4, rfl⟩
        refine i_aug1 rfl ?_
        exact ⟨s9, st9, nd9, _, _, _, _, rfl⟩
    · have hge : (Pst.run rs us.length x y pl).found.length = pl := by
        have : ¬ pl < (Pst.run rs us.length x y pl).found.length := fun z => hc (decide_eq_true (by omega))
        omega
      walk_at "run"
      exact qn pl H8 hge hno s8
def sp_deck (K : PySem.W.Frag) : Sp := fun vs H Q _ => ∃ (a : Addr) (ns : List Int), vs = [.ref a] ∧ SqL K H a (ns.map V.int) ∧ ns.length ≤ 63 ∧ ∀ d l H', H d = none → H l = none → Same H H' → Deck H' d l 0 → Q (.ref d) H'
theorem ok_law_deck (T : Txt K mg t) : FnOk P w K mg base CX0 1 t.a__law_deck t.fd__law_deck ["script"] (sp_deck K) := by
  refine T.F__law_deck.ok sc_law_deck (fun vs H Q E h => ?_) (fun cdv A outer s H vs Q E hr h => ?_)
  · obtain ⟨a, ns, rfl, _⟩ := h
    rfl
  · obtain ⟨a, ns, rfl, hS, hl, q⟩ := h
    refine ⟨_, (@pss_one _ _ _ (@ps_ret _ _ _ _ (@pe_lstN _ _ _ _ (@pa_cons _ _ _ _ _ (pe_lc (Nt := ["cell"]) (Nf := []) (caps := []) rfl (comp_ok (sc := defScope s_law_deck) rfl rfl (by decide +kernel) (by decide +kernel) (by decide +kernel) rfl (by decide +kernel)) (kpi_list K (@pe_slice _ _ _ _ _ _ _ _ _ _ (ksl_list K) (pv 0) (@po_none _) (@po_some _ _ _ (@pe_int _ _ _ _)))) (fun _ _ _ _ _ => (pg_name (i := 0) (show (["cell"] : List Str).Nodup by decide +kernel) rfl (by first | exact Or.inl rfl | exact Or.inr rfl))) (fun _ _ _ _ _ => (@pts_nil _)) (fun _ _ _ _ _ => (@pe_op _ _ _ _ _ _ _ _ op_fdiv (pv 0) (@pe_int _ _ _ _)))) (@pa_cons _ _ _ _ _ (@pe_int _ _ _ _) (@pa_cons _ _ _ _ _ (@pe_op _ _ _ _ _ _ _ _ op_mod (@pe_callB _ _ _ _ _ _ _ _ _ (kcl_sum K) (by rfl) T.z_sum bb_sum (@pa_cons _ _ _ _ _ (@pe_slice _ _ _ _ _ _ _ _ _ _ (ksl_list K) (pv 0) (@po_none _) (@po_some _ _ _ (@pe_int _ _ _ _))) (@pa_nil _) (by rfl)) (by decide) (by decide) (by rfl) (by rfl)) (@pe_int _ _ _ _)) (@pa_nil _) (by rfl)) (by rfl)) (by rfl))))), ?_⟩
    walk_at "go"
    refine i_slL hS ?_
    intro p1 H1 f1 s1 e1
    rw [show cutV (ns.map V.int) none (some 63) = (ns.take 63).map V.int from cut_to (k := 63)] at e1
    have hls : (ns.take 63).length ≤ 63 := by simp; omega
    generalize ns.take 63 = ls at e1 hls
    refine ⟨p1, rfl, ⟨_, SqL.of e1⟩, cc_list (xs := ls.map V.int) (le_line (by simp; omega)) (fun i acc H' => H' = H1 ∧ i ≤ ls.length ∧ acc = (ls.take i).map (fun z => V.int (z / 2))) ⟨rfl, Nat.zero_le _, rfl⟩ (fun i acc H' ⟨e0, hi, e⟩ => ⟨by rw [e]; simp only [List.length_map, List.length_take]; omega, e0 ▸ SqL.of e1⟩) ?_ ?_⟩
    · rintro i x acc H' hx ⟨rfl, hi, rfl⟩
      obtain ⟨z, hz, rfl⟩ : ∃ z, ls[i]? = some z ∧ x = V.int z := by
        rw [List.getElem?_map] at hx
        obtain ⟨z, hz, rfl⟩ := Option.map_eq_some_iff.mp hx
        exact ⟨z, hz, rfl⟩
      walk_at "run"
      refine ⟨rfl, (List.getElem?_eq_some_iff.mp hz).1, ?_⟩
      rw [List.take_add_one, hz]
      simp
    · rintro acc H' ⟨rfl, _, rfl⟩
      intro p2 H2 f2 s2 e2
      walk_at "run"
      refine i_slL ((s1.trans s2).seq hS) ?_
      intro p3 H3 f3 s3 e3
      rw [show cutV (ns.map V.int) none (some 1) = (ns.take 1).map V.int from cut_to (k := 1)] at e3
      walk_at "run"
      refine i_sum (SqL.of e3) ?_
      walk_at "run"
      intro p4 H4 f4 s4 e4
      have s14 := s1.trans (s2.trans (s3.trans s4))
      refine q p4 p2 H4 ((s1.trans (s2.trans s3)).free f4) (s1.free f2) s14 ⟨ls.map (· / 2), _, e4, ?_, by simp; omega⟩
      have := (s3.trans s4) _ _ e2
      rw [this, List.length_map, List.take_length, List.map_map]
      rfl
theorem mod_nat (x : Int) {m : Nat} (h : 0 < m) : ∃ r : Nat, r < m ∧ x % (m : Int) = (r : Nat) := ⟨(x % (m : Int)).toNat, by
  have h1 := Int.emod_nonneg x (show (m : Int) ≠ 0 by omega)
  have h2 := Int.emod_lt_of_pos x (show (0 : Int) < (m : Int) by omega)
  omega, by
  have h1 := Int.emod_nonneg x (show (m : Int) ≠ 0 by omega)
  omega⟩
theorem cb {i j : Int} (h1 : -1000000000000000000 < i) (h2 : i < 1000000000000000000) : CBig i j := .inr (.inl ⟨by omega, by omega⟩)
theorem off_upd {H : Hp} {d l : Addr} {o : HO} : Off d l H (upd H d o) := fun b u h1 _ e => by rw [upd_ne h1]; exact e
def sp_next (K : PySem.W.Frag) : Sp := fun vs H Q _ => ∃ (d l : Addr) (n : Nat), vs = [.ref d] ∧ Deck H d l n ∧ n ≤ 100000 ∧ ∀ (r : Nat) H', r < 1000000000 → Off d l H H' → Deck H' d l (n + 1) → Q (.int (r : Nat)) H'
theorem ok_law_next (T : Txt K mg t) : FnOk P w K mg base CX0 1 t.a__law_next t.fd__law_next ["deck"] (sp_next K) := by
  refine T.F__law_next.ok sc_law_next (fun vs H Q E h => ?_) (fun cdv A outer s H vs Q E hr h => ?_)
  · obtain ⟨d, l, n, rfl, _⟩ := h
    rfl
  · obtain ⟨d, l, n, rfl, k, hn, q⟩ := h
    refine ⟨_, (@pss_cons _ _ _ _ _ (@ps_set _ _ 1 _ _ _ _ sc_law_next.nd rfl (by first | exact Or.inl rfl | exact Or.inr rfl) (@pe_ix _ _ _ _ _ _ _ (kix_list K) (pv 0) (@pe_int _ _ _ _) (fun _ _ => rfl)) (by rfl) (by first | exact Or.inl rfl | exact Or.inr rfl))
      (@pss_cons _ _ _ _ _ (@ps_asg _ _ _ _ _ _ (@pe_op _ _ _ _ _ _ _ _ op_plus (pv 1) (@pe_int _ _ _ _)) (pg_sub (pv 0) (@pe_int _ _ _ _) set_list) (by rfl) (by rfl) (by rfl))
      (@pss_cons _ _ _ _ _ (@ps_set _ _ 2 _ _ _ _ sc_law_next.nd rfl (by first | exact Or.inl rfl | exact Or.inr rfl) (@pe_callB _ _ _ _ _ _ _ _ _ kcall_max2 (by rfl) T.z_max bb_max (@pa_cons _ _ _ _ _ (@pe_int _ _ _ _) (@pa_cons _ _ _ _ _ (@pe_callB _ _ _ _ _ _ _ _ _ (kcl_len K) (by rfl) T.z_len bb_len (@pa_cons _ _ _ _ _ (@pe_ix _ _ _ _ _ _ _ (kix_list K) (pv 0) (@pe_int _ _ _ _) (fun _ _ => rfl)) (@pa_nil _) (by rfl)) (by decide) (by decide) (by rfl) (by rfl)) (@pa_nil _) (by rfl)) (by rfl)) (by decide) (by decide) (by rfl) (by rfl)) (by rfl) (by first | exact Or.inl rfl | exact Or.inr rfl))
      (@pss_cons _ _ _ _ _ (@ps_set _ _ 3 _ _ _ _ sc_law_next.nd rfl (by first | exact Or.inl rfl | exact Or.inr rfl) (@pe_int _ _ _ _) (by rfl) (by first | exact Or.inl rfl | exact Or.inr rfl))
      (@pss_consC _ _ _ _ _ (@ps_if _ _ _ _ _ _ _ _ (@pt_cmpR _ _ _ _ _ _ _ _ (kop_neNil K (by exact hr.units)) (@pe_ix _ _ _ _ _ _ _ (kix_list K) (pv 0) (@pe_int _ _ _ _) (fun _ _ => rfl)) (@pe_lstN _ _ _ _ (@pa_nil _)) (nomark _)) (@pss_one _ _ _ (@ps_set _ _ 3 _ _ _ _ sc_law_next.nd rfl (by first | exact Or.inl rfl | exact Or.inr rfl) (@pe_ix _ _ _ _ _ _ _ (kix_list K) (@pe_ix _ _ _ _ _ _ _ (kix_list K) (pv 0) (@pe_int _ _ _ _) (fun _ _ => rfl)) (@pe_op _ _ _ _ _ _ _ _ op_mod (pv 1) (pv 2)) (fun _ _ => rfl)) (by rfl) (by first | exact Or.inl rfl | exact Or.inr rfl))) (@pss_nil _))
      (@pss_cons _ _ _ _ _ (@ps_if _ _ _ _ _ _ _ _ (@pt_cmpR _ _ _ _ _ _ _ _ op_eq (@pe_ix _ _ _ _ _ _ _ (kix_list K) (pv 0) (@pe_int _ _ _ _) (fun _ _ => rfl)) (@pe_int _ _ _ _) (nomark _)) (@pss_cons _ _ _ _ _ (@ps_for _ _ _ _ _ _ _ _ PassesOwn.never rfl (pi_range1 rfl T.z_range (@pa_cons _ _ _ _ _ (@pe_callB _ _ _ _ _ _ _ _ _ kcall_min2 (by rfl) T.z_min bb_min (@pa_cons _ _ _ _ _ (@pe_int _ _ _ _) (@pa_cons _ _ _ _ _ (@pe_op _ _ _ _ _ _ _ _ op_fdiv (pv 1) (pv 2)) (@pa_nil _) (by rfl)) (by rfl)) (by decide) (by decide) (by rfl) (by rfl)) (@pa_nil _) (by rfl))) (pg_name (i := 4) sc_law_next.nd rfl (by first | exact Or.inl rfl | exact Or.inr rfl)) (@pss_one _ _ _ (@ps_set _ _ 3 _ _ _ _ sc_law_next.nd rfl (by first | exact Or.inl rfl | exact Or.inr rfl) (@pe_op _ _ _ _ _ _ _ _ op_fdiv (pv 3) (@pe_int _ _ _ _)) (by rfl) (by first | exact Or.inl rfl | exact Or.inr rfl))) (by intro _; rfl))
        (@pss_one _ _ _ (@ps_ret _ _ _ _ (@pe_op _ _ _ _ _ _ _ _ op_mod (pv 3) (@pe_int _ _ _ _))))) (@pss_nil _))
      (@pss_cons _ _ _ _ _ (@ps_set _ _ 5 _ _ _ _ sc_law_next.nd rfl (by first | exact Or.inl rfl | exact Or.inr rfl) (@pe_op _ _ _ _ _ _ _ _ op_mod (@pe_op _ _ _ _ _ _ _ _ op_plus (@pe_op _ _ _ _ _ _ _ _ op_plus (@pe_op _ _ _ _ _ _ _ _ op_mod (pv 3) (@pe_int _ _ _ _)) (@pe_op _ _ _ _ _ _ _ _ op_times (@pe_op _ _ _ _ _ _ _ _ op_times (@pe_int _ _ _ _) (@pe_op _ _ _ _ _ _ _ _ op_plus (pv 1) (@pe_int _ _ _ _))) (@pe_op _ _ _ _ _ _ _ _ op_plus (pv 1) (@pe_int _ _ _ _)))) (@pe_int _ _ _ _)) (@pe_int _ _ _ _)) (by rfl) (by first | exact Or.inl rfl | exact Or.inr rfl))
      (@pss_cons _ _ _ _ _ (@ps_set _ _ 5 _ _ _ _ sc_law_next.nd rfl (by first | exact Or.inl rfl | exact Or.inr rfl) (@pe_op _ _ _ _ _ _ _ _ op_mod (@pe_op _ _ _ _ _ _ _ _ op_times (pv 5) (pv 5)) (@pe_int _ _ _ _)) (by rfl) (by first | exact Or.inl rfl | exact Or.inr rfl))
      (@pss_one _ _ _ (@ps_ret _ _ _ _ (@pe_op _ _ _ _ _ _ _ _ op_fdiv (@pe_op _ _ _ _ _ _ _ _ op_mod (@pe_op _ _ _ _ _ _ _ _ op_times (pv 5) (@pe_int _ _ _ _)) (@pe_int _ _ _ _)) (@pe_int _ _ _ _)))))))))))), ?_⟩
    have hne := k.ne
    obtain ⟨ms, z, h1, h2, h3⟩ := k.ex
    walk_at "go"
    refine i_ixL (SqL.of h1) (atI_nat (j := 1) rfl) ?_
    walk_at "run"
    refine i_setL h1 (j := 1) rfl ?_
    have h2' : upd H d (.lst ([V.ref l, V.int (n : Nat), V.int z].set 1 (V.int ((n : Int) + 1)))) l = some (.lst (ms.map V.int)) := by rw [upd_ne (Ne.symm hne)]; exact h2
    have hD : Deck (upd H d (.lst ([V.ref l, V.int (n : Nat), V.int z].set 1 (V.int ((n : Int) + 1))))) d l (n + 1) := ⟨ms, z, upd_same, h2', h3⟩
    have oD : Off d l H (upd H d (.lst ([V.ref l, V.int (n : Nat), V.int z].set 1 (V.int ((n : Int) + 1))))) := off_upd
    have h1' : upd H d (.lst ([V.ref l, V.int (n : Nat), V.int z].set 1 (V.int ((n : Int) + 1)))) d = some (.lst [V.ref l, V.int ((n : Int) + 1), V.int z]) := upd_same
    generalize upd H d (.lst ([V.ref l, V.int (n : Nat), V.int z].set 1 (V.int ((n : Int) + 1)))) = H1 at h2' hD oD h1'
    walk_at "run"
    refine i_ixL (SqL.of h1') (atI_nat (j := 0) rfl) ?_
    walk_at "run"
    refine i_lenL (SqL.of h2') ?_
    rw [List.length_map]
    walk_at "run"
    refine i_max2 ?_
    walk_at "run"
    obtain ⟨m, hm, em⟩ : ∃ m : Nat, 0 < m ∧ max 1 (ms.length : Int) = (m : Nat) := ⟨max 1 ms.length, by omega, by omega⟩
    have hml : 0 < ms.length → m = ms.length := fun h => by omega
    rw [em]
    refine i_seqC (fun σ' H' => ∃ c : Int, Same H1 H' ∧ σ' = [some (.ref d), some (.int (n : Nat)), some (.int (m : Nat)), some (.int c), none, none]) ?_ ?_
    · walk_at "run"
      refine i_ixL (SqL.of h1') (atI_nat (j := 0) rfl) ?_
      walk_at "run"
      intro p2 H2 f2 s2 e2
      refine i_neNil (SqL.of (s2 _ _ h2')) (SqL.of e2) ?_
      walk_at "run"
      cases hms : ms with
      | nil =>
        refine i_itF ?_
        exact ⟨0, s2, rfl⟩
      | cons m0 mr =>
        refine i_itT ?_
        have hlen : 0 < ms.length := by rw [hms]; simp
        walk_at "run"
        refine i_ixL (SqL.of (s2 _ _ h1')) (atI_nat (j := 0) rfl) ?_
        walk_at "run"
        obtain ⟨p, hp, ep⟩ := mod_nat (n : Int) hm
        rw [ep]
        have hat : atI (ms.map V.int) (p : Nat) = some (.int (ms[p]'(by have := hml hlen; omega))) := atI_nat (by simp [show p < ms.length by have := hml hlen; omega])
        refine i_ixL (SqL.of (s2 _ _ h2')) hat ?_
        exact ⟨_, s2, rfl⟩
    · rintro σ' H2 ⟨c, s2, rfl⟩
      walk_at "run"
      refine i_ixL (SqL.of (s2 _ _ h1')) (atI_nat (j := 2) rfl) ?_
      walk_at "run"
      refine ite2 (fun hc => ?_) (fun hc => ?_)
      · walk_at "run"
        refine i_rI (show CDiv _ _ from ⟨by omega, by omega⟩) ?_
        walk_at "run"
        have hq0 : 0 ≤ (n : Int) / (m : Nat) := Int.ediv_nonneg (by omega) (by omega)
        refine ⟨by omega, by omega, ?_⟩
        generalize (min 60 ((n : Int) / (m : Nat))).toNat = b
        refine for_range (lo := 0) (n := b) (fun i σ H' => H' = H2 ∧ ∃ (c : Int) (y : Option V), σ = [some (.ref d), some (.int (n : Nat)), some (.int (m : Nat)), some (.int c), y, none]) ⟨rfl, c, _, rfl⟩ ?_ ?_
        · rintro i σ H3 hi ⟨rfl, c, y, rfl⟩
          walk_at "run"
          exact ⟨rfl, _, _, rfl⟩
        · rintro σ H3 ⟨rfl, c, y, rfl⟩
          walk_at "run"
          obtain ⟨r, hr, e⟩ := mod_nat c (m := 1000003) (by decide)
          rw [show c % 1000003 = ((r : Nat) : Int) from e]
          exact q r _ (by omega) (oD.trans s2.off) (hD.same s2)
      · walk_at "run"
        refine i_timesI (cb (by omega) (by omega)) ?_
        walk_at "run"
        generalize c % 2147483629 + 51437 * ((n : Int) + 1) * ((n : Int) + 3) + 1409 = x
        have b1 := Int.emod_nonneg x (show (2147483629 : Int) ≠ 0 by decide)
        have b2 := Int.emod_lt_of_pos x (show (0 : Int) < 2147483629 by decide)
        refine i_timesI (cb (by omega) (by omega)) ?_
        walk_at "run"
        generalize x % 2147483629 * (x % 2147483629) % 2147483587 = y
        have c1 := Int.emod_nonneg (y * 69621) (show (2147483647 : Int) ≠ 0 by decide)
        have c2 := Int.emod_lt_of_pos (y * 69621) (show (0 : Int) < 2147483647 by decide)
        try refine i_rI (show CDiv _ _ from ⟨by omega, by omega⟩) ?_
        obtain ⟨r, hr⟩ : ∃ r : Nat, y * 69621 % 2147483647 / 4 = (r : Nat) := ⟨(y * 69621 % 2147483647 / 4).toNat, by omega⟩
        rw [hr]
        exact q r _ (by omega) (oD.trans s2.off) (hD.same s2)
theorem at2 {b : Bool} : atI [V.int 2, .int 7] (if b then 1 else 0) = some (.int (if b then 7 else 2 : Nat)) := by
  cases b
  · exact atI_nat (j := 0) rfl
  · exact atI_nat (j := 1) rfl
def sp_said (K : PySem.W.Frag) : Sp := fun vs H Q _ => ∃ (d l : Addr) (n : Nat) (b : Bool), vs = [.ref d, .int (if b then 1 else 0)] ∧ Deck H d l n ∧ n ≤ 90000 ∧ ∀ p ss H', H p = none → H' p = some (.lst (strsV ss)) → ss.length ≤ 2 → Off d l H H' → Deck H' d l (n + 1) → Q (.ref p) H'
theorem at7 {a b c d e f g : Addr} {r : Nat} (h : r < 7) : ∃ x, atI [V.ref a, .ref b, .ref c, .ref d, .ref e, .ref f, .ref g] (r : Nat) = some (.ref x) ∧ (x = a ∨ x = b ∨ x = c ∨ x = d ∨ x = e ∨ x = f ∨ x = g) := by
  have : r = 0 ∨ r = 1 ∨ r = 2 ∨ r = 3 ∨ r = 4 ∨ r = 5 ∨ r = 6 := by omega
  rcases this with rfl | rfl | rfl | rfl | rfl | rfl | rfl
  · exact ⟨_, atI_nat (j := 0) rfl, by simp⟩
  · exact ⟨_, atI_nat (j := 1) rfl, by simp⟩
  · exact ⟨_, atI_nat (j := 2) rfl, by simp⟩
  · exact ⟨_, atI_nat (j := 3) rfl, by simp⟩
  · exact ⟨_, atI_nat (j := 4) rfl, by simp⟩
  · exact ⟨_, atI_nat (j := 5) rfl, by simp⟩
  · exact ⟨_, atI_nat (j := 6) rfl, by simp⟩
theorem ok_law_said (T : Txt K mg t) : FnOk P w K mg base CX0 2 t.a__law_said t.fd__law_said ["deck", "rich"] (sp_said K) := by
  have G__law_next := ok_law_next (P := P) (w := w) (base := base) T
  refine T.F__law_said.ok sc_law_said (fun vs H Q E h => ?_) (fun cdv A outer s H vs Q E hr h => ?_)
  · obtain ⟨d, l, n, b, rfl, _⟩ := h
    rfl
  · obtain ⟨d, l, n, b, rfl, k, hn, q⟩ := h
    refine ⟨_, (@pss_cons _ _ _ _ _ (@ps_set _ _ 2 _ _ _ _ sc_law_said.nd rfl (by first | exact Or.inl rfl | exact Or.inr rfl) (@pe_lstN _ _ _ _ (@pa_cons _ _ _ _ _ (@pe_lstN _ _ _ _ (@pa_nil _)) (@pa_cons _ _ _ _ _ (@pe_lstN _ _ _ _ (@pa_cons _ _ _ _ _ (@pe_str _ _ _ _) (@pa_nil _) (by rfl))) (@pa_cons _ _ _ _ _ (@pe_lstN _ _ _ _ (@pa_cons _ _ _ _ _ (@pe_str _ _ _ _) (@pa_nil _) (by rfl))) (@pa_cons _ _ _ _ _ (@pe_lstN _ _ _ _ (@pa_cons _ _ _ _ _ (@pe_str _ _ _ _) (@pa_cons _ _ _ _ _ (@pe_str _ _ _ _) (@pa_nil _) (by rfl)) (by rfl))) (@pa_cons _ _ _ _ _ (@pe_lstN _ _ _ _ (@pa_cons _ _ _ _ _ (@pe_str _ _ _ _) (@pa_nil _) (by rfl))) (@pa_cons _ _ _ _ _ (@pe_lstN _ _ _ _ (@pa_nil _)) (@pa_cons _ _ _ _ _ (@pe_lstN _ _ _ _ (@pa_cons _ _ _ _ _ (@pe_str _ _ _ _) (@pa_cons _ _ _ _ _ (@pe_str _ _ _ _) (@pa_nil _) (by rfl)) (by rfl))) (@pa_nil _) (by rfl)) (by rfl)) (by rfl)) (by rfl)) (by rfl)) (by rfl)) (by rfl))) (by rfl) (by first | exact Or.inl rfl | exact Or.inr rfl))
      (@pss_one _ _ _ (@ps_ret _ _ _ _ (@pe_callTy _ _ _ _ _ _ _ _ _ (kcl_list K) (by rfl) T.z_list bb_list (@pa_cons _ _ _ _ _ (@pe_ix _ _ _ _ _ _ _ (kix_list K) (pv 2) (@pe_op _ _ _ _ _ _ _ _ op_mod (@pe_call _ _ _ _ _ _ _ _ _ _ _ _ _ _ _ _ G__law_next (hr.mono (by omega)) rfl T.m__law_next T.F__law_next.kp T.b__law_next .nil pass0 (@pa_cons _ _ _ _ _ (pv 0) (@pa_nil _) (by rfl)) (by decide) (by rfl) (by rfl)) (@pe_ix _ _ _ _ _ _ _ (kix_list K) (@pe_lstN _ _ _ _ (@pa_cons _ _ _ _ _ (@pe_int _ _ _ _) (@pa_cons _ _ _ _ _ (@pe_int _ _ _ _) (@pa_nil _) (by rfl)) (by rfl))) (pv 1) (fun _ _ => rfl))) (fun _ _ => rfl)) (@pa_nil _) (by rfl)) (by decide) (by decide) (by rfl) (by rfl))))), ?_⟩
    walk_at "go"
    intro p1 H1 f1 s1 e1
    walk_at "run"
    intro p2 H2 f2 s2 e2
    walk_at "run"
    intro p3 H3 f3 s3 e3
    walk_at "run"
    intro p4 H4 f4 s4 e4
    walk_at "run"
    intro p5 H5 f5 s5 e5
    walk_at "run"
    intro p6 H6 f6 s6 e6
    walk_at "run"
    intro p7 H7 f7 s7 e7
    walk_at "run"
    intro p8 H8 f8 s8 e8
    walk_at "run"
    have t7 := s8
    have t6 := s7.trans t7
    have t5 := s6.trans t6
    have t4 := s5.trans t5
    have t3 := s4.trans t4
    have t2 := s3.trans t3
    have t1 := s2.trans t2
    have t0 := s1.trans t1
    have k1 := k.same s1
    have k2 := k1.same s2
    have k3 := k2.same s3
    have k4 := k3.same s4
    have k5 := k4.same s5
    have k6 := k5.same s6
    have k7 := k6.same s7
    have k8 := k7.same s8
    refine ⟨d, l, n, rfl, k8, by omega, fun r H9 hr9 o9 k9 => ?_⟩
    walk_at "run"
    intro p10 H10 f10 s10 e10
    walk_at "run"
    refine i_ixL (SqL.of e10) at2 ?_
    walk_at "run"
    have hb7 : 0 < (if b then 7 else 2 : Nat) ∧ (if b then 7 else 2 : Nat) ≤ 7 := by cases b <;> simp
    refine i_rI (by omega) ?_
    obtain ⟨r2, hr2, er2⟩ := mod_nat (r : Int) hb7.1
    rw [er2]
    obtain ⟨x, hx, ho⟩ := at7 (a := p1) (b := p2) (c := p3) (d := p4) (e := p5) (f := p6) (g := p7) (r := r2) (by omega)
    have g8 := s10 _ _ (o9 _ _ (k7.new f8).1 (k7.new f8).2 e8)
    refine i_ixL (SqL.of g8) hx ?_
    walk_at "run"
    obtain ⟨ss, hs, hl⟩ : ∃ ss : List Str, H10 x = some (.lst (strsV ss)) ∧ ss.length ≤ 2 := by
      rcases ho with rfl | rfl | rfl | rfl | rfl | rfl | rfl
      · exact ⟨[], s10 _ _ (o9 _ _ (k.new f1).1 (k.new f1).2 (t1 _ _ e1)), by simp⟩
      · exact ⟨["a"], s10 _ _ (o9 _ _ (k1.new f2).1 (k1.new f2).2 (t2 _ _ e2)), by simp⟩
      · exact ⟨["b"], s10 _ _ (o9 _ _ (k2.new f3).1 (k2.new f3).2 (t3 _ _ e3)), by simp⟩
      · exact ⟨["a", "b"], s10 _ _ (o9 _ _ (k3.new f4).1 (k3.new f4).2 (t4 _ _ e4)), by simp⟩
      · exact ⟨["3:a"], s10 _ _ (o9 _ _ (k4.new f5).1 (k4.new f5).2 (t5 _ _ e5)), by simp⟩
      · exact ⟨[], s10 _ _ (o9 _ _ (k5.new f6).1 (k5.new f6).2 (t6 _ _ e6)), by simp⟩
      · exact ⟨["b", "a"], s10 _ _ (o9 _ _ (k6.new f7).1 (k6.new f7).2 (t7 _ _ e7)), by simp⟩
    refine i_listL (SqL.of hs) ?_
    intro p11 H11 f11 s11 e11
    have oA : Off d l H H10 := (t0.off.trans o9).trans s10.off
    exact q p11 ss H11 (oA.free (k9.same s10) f11) e11 hl (oA.trans s11.off) ((k9.same s10).same s11)
abbrev EvAt (H : Hp) : V → Tr → Prop := fun v e => e.At H v [] ∧ e.h ≤ 4
theorem EvAt.same {H H' : Hp} {v : V} {e : Tr} (h : EvAt H v e) (s : Same H H') : EvAt H' v e := ⟨tr_tups h.1 s.tups, h.2⟩
theorem ev2 {H : Hp} {a : Addr} {k : Str} {i : Int} (h : H a = some (.tup [.str k, .int i])) : EvAt H (.ref a) (.tup [.str k, .int i]) := by
  refine ⟨?_, by simp [Tr.h, Tr.hs]⟩
  simp only [Tr.At, Tr.Ats]
  exact ⟨a, _, rfl, h, _, _, [], [], rfl, rfl, ⟨rfl, rfl⟩, _, _, [], [], rfl, rfl, ⟨rfl, rfl⟩, rfl, rfl⟩
theorem ev2s {H : Hp} {a : Addr} {k i : Str} (h : H a = some (.tup [.str k, .str i])) : EvAt H (.ref a) (.tup [.str k, .str i]) := by
  refine ⟨?_, by simp [Tr.h, Tr.hs]⟩
  simp only [Tr.At, Tr.Ats]
  exact ⟨a, _, rfl, h, _, _, [], [], rfl, rfl, ⟨rfl, rfl⟩, _, _, [], [], rfl, rfl, ⟨rfl, rfl⟩, rfl, rfl⟩
theorem ev1 {H : Hp} {a : Addr} {k : Str} (h : H a = some (.tup [.str k])) : EvAt H (.ref a) (.tup [.str k]) := by
  refine ⟨?_, by simp [Tr.h, Tr.hs]⟩
  simp only [Tr.At, Tr.Ats]
  exact ⟨a, _, rfl, h, _, _, [], [], rfl, rfl, ⟨rfl, rfl⟩, rfl, rfl⟩
theorem EvAt.tups {H H' : Hp} {v : V} {e : Tr} (h : EvAt H v e) (s : Tups H H') : EvAt H' v e := ⟨tr_tups h.1 s, h.2⟩
theorem ev_ats {H : Hp} {us : List V} {ets : List Tr} (h : Each (EvAt H) us ets) : Tr.Ats H ets us [] ∧ Tr.hs ets ≤ 4 := by
  induction ets generalizing us with
  | nil =>
    obtain rfl := List.length_eq_zero_iff.mp h.1
    simp [Tr.Ats, Tr.hs]
  | cons e ets ih =>
    cases us with
    | nil => have := h.1; simp at this
    | cons v us =>
      obtain ⟨h2, h3⟩ := ih (us := us) ⟨by have := h.1; simpa using this, fun i a b x y => h.2 (i + 1) a b x y⟩
      have h4 := h.2 0 v e rfl rfl
      simp only [Tr.Ats, Tr.hs]
      exact ⟨⟨v, us, [], [], rfl, rfl, h4.1, h2⟩, by have := h4.2; omega⟩
structure EvS (H H' : Hp) (d l pe pl ta tb : Addr) (n m : Nat) : Prop where
  off : Off d l H H'
  src : H' pl = some (.lst [.ref ta, .ref tb]) ∧ H' ta = some (.tup [.str "key", .int 4]) ∧ H' tb = some (.tup [.str "word", .int 3])
  ev : ∃ us ets, H' pe = some (.lst us) ∧ 0 < us.length ∧ us.length ≤ m ∧ Each (EvAt H') us ets
  deck : ∃ n', n' ≤ n ∧ Deck H' d l n'
theorem EvS.next {H H' H2 : Hp} {d l pe pl ta tb : Addr} {n n' m : Nat} (h : EvS H H' d l pe pl ta tb n m) (k : Deck H' d l n') (hp : pe ≠ d ∧ pe ≠ l) (hl : pl ≠ d ∧ pl ≠ l) (o : Off d l H' H2) (k2 : Deck H2 d l (n' + 1)) (hn : n' ≤ n) : EvS H H2 d l pe pl ta tb (n + 1) m := by
  have tu := o.tups k
  obtain ⟨a1, a2, a3⟩ := h.src
  obtain ⟨us, ets, b1, b2, b3, b4⟩ := h.ev
  exact ⟨h.off.trans o, ⟨o _ _ hl.1 hl.2 a1, tu _ _ a2, tu _ _ a3⟩, ⟨us, ets, o _ _ hp.1 hp.2 b1, b2, b3, b4.mono fun v x hx => hx.tups tu⟩, n' + 1, by omega, k2⟩
theorem EvS.same {H H' H2 : Hp} {d l pe pl ta tb : Addr} {n m : Nat} (h : EvS H H' d l pe pl ta tb n m) (s : Same H' H2) : EvS H H2 d l pe pl ta tb n m := by
  obtain ⟨a1, a2, a3⟩ := h.src
  obtain ⟨us, ets, b1, b2, b3, b4⟩ := h.ev
  obtain ⟨n', hn, k⟩ := h.deck
  exact ⟨h.off.trans s.off, ⟨s _ _ a1, s _ _ a2, s _ _ a3⟩, ⟨us, ets, s _ _ b1, b2, b3, b4.mono fun v x hx => hx.same s⟩, n', hn, k.same s⟩
theorem EvS.app {H H' : Hp} {d l pe pl ta tb : Addr} {n m : Nat} {us : List V} {ets : List Tr} {v : V} {e : Tr} (h : EvS H H' d l pe pl ta tb n m) (hf : H pe = none) (hp : pe ≠ d ∧ pe ≠ l) (hl : pl ≠ pe) (b1 : H' pe = some (.lst us)) (b3 : us.length ≤ m) (b4 : Each (EvAt H') us ets) (hv : EvAt H' v e) :
    EvS H (upd H' pe (.lst (us ++ [v]))) d l pe pl ta tb n (m + 1) := by
  have tu : Tups H' (upd H' pe (.lst (us ++ [v]))) := Tups.upd b1
  obtain ⟨a1, a2, a3⟩ := h.src
  obtain ⟨n', hn, k⟩ := h.deck
  obtain ⟨ms, z, k1, k2, k3⟩ := k.ex
  refine ⟨fun b o h1 h2 e => ?_, ⟨by rw [upd_ne hl]; exact a1, tu _ _ a2, tu _ _ a3⟩, ⟨us ++ [v], ets ++ [e], upd_same, by simp, by simp; omega, (b4.mono fun v x hx => hx.tups tu).snoc (hv.tups tu)⟩, n', hn, ms, z, by rw [upd_ne (Ne.symm hp.1)]; exact k1, by rw [upd_ne (Ne.symm hp.2)]; exact k2, k3⟩
  rw [upd_ne (fun z => by rw [z, hf] at e; cases e)]
  exact h.off b o h1 h2 e
theorem EvS.more {H H' : Hp} {d l pe pl ta tb : Addr} {n m n2 m2 : Nat} (h : EvS H H' d l pe pl ta tb n m) (h1 : n ≤ n2) (h2 : m ≤ m2) : EvS H H' d l pe pl ta tb n2 m2 := by
  obtain ⟨us, ets, b1, b2, b3, b4⟩ := h.ev
  obtain ⟨n', hn, k⟩ := h.deck
  exact ⟨h.off, h.src, ⟨us, ets, b1, b2, by omega, b4⟩, n', by omega, k⟩
theorem at5s {r : Nat} {a b c d e : Str} (h : r < 5) : ∃ s : Str, atI [V.str a, .str b, .str c, .str d, .str e] (r : Nat) = some (.str s) := by
  have : r = 0 ∨ r = 1 ∨ r = 2 ∨ r = 3 ∨ r = 4 := by omega
  rcases this with rfl | rfl | rfl | rfl | rfl
  · exact ⟨_, atI_nat rfl⟩
  · exact ⟨_, atI_nat rfl⟩
  · exact ⟨_, atI_nat rfl⟩
  · exact ⟨_, atI_nat rfl⟩
  · exact ⟨_, atI_nat rfl⟩
def sp_events (K : PySem.W.Frag) : Sp := fun vs H Q _ => ∃ (d l : Addr) (n : Nat), vs = [.ref d] ∧ Deck H d l n ∧ n ≤ 90000 ∧
  ∀ p us ets H' n', H p = none → H' p = some (.lst us) → 0 < us.length → us.length ≤ 7 → Each (EvAt H') us ets → Off d l H H' → n' ≤ n + 10 → Deck H' d l n' → Q (.ref p) H'
theorem ok_law_events (T : Txt K mg t) : FnOk P w K mg base CX0 2 t.a__law_events t.fd__law_events ["deck"] (sp_events K) := by
  have G__law_next := ok_law_next (P := P) (w := w) (base := base) T
  refine T.F__law_events.ok sc_law_events (fun vs H Q E h => ?_) (fun cdv A outer s H vs Q E hr h => ?_)
  · obtain ⟨d, l, n, rfl, _⟩ := h
    rfl
  · obtain ⟨d, l, n, rfl, k, hn, q⟩ := h
    refine ⟨_, (@pss_cons _ _ _ _ _ (@ps_set _ _ 1 _ _ _ _ sc_law_events.nd rfl (by first | exact Or.inl rfl | exact Or.inr rfl) (@pe_lstN _ _ _ _ (@pa_cons _ _ _ _ _ (@pe_tupN _ _ _ _ _ (@pa_cons _ _ _ _ _ (@pe_str _ _ _ _) (@pa_nil _) (by rfl))) (@pa_nil _) (by rfl))) (by rfl) (by first | exact Or.inl rfl | exact Or.inr rfl))
      (@pss_cons _ _ _ _ _ (@ps_for _ _ _ _ _ _ _ _ PassesOwn.never rfl (kpi_list K (@pe_lstN _ _ _ _ (@pa_cons _ _ _ _ _ (@pe_tupN _ _ _ _ _ (@pa_cons _ _ _ _ _ (@pe_str _ _ _ _) (@pa_cons _ _ _ _ _ (@pe_int _ _ _ _) (@pa_nil _) (by rfl)) (by rfl))) (@pa_cons _ _ _ _ _ (@pe_tupN _ _ _ _ _ (@pa_cons _ _ _ _ _ (@pe_str _ _ _ _) (@pa_cons _ _ _ _ _ (@pe_int _ _ _ _) (@pa_nil _) (by rfl)) (by rfl))) (@pa_nil _) (by rfl)) (by rfl)))) (kpg_tup K (n := 2) rfl (pgs_cons (pg_name (i := 2) sc_law_events.nd rfl (by first | exact Or.inl rfl | exact Or.inr rfl)) (pgs_cons (pg_name (i := 3) sc_law_events.nd rfl (by first | exact Or.inl rfl | exact Or.inr rfl)) (@pgs_nil _)))) (@pss_one _ _ _ (@ps_for _ _ _ _ _ _ _ _ PassesOwn.never rfl (pi_range1 rfl T.z_range (@pa_cons _ _ _ _ _ (@pe_op _ _ _ _ _ _ _ _ op_mod (@pe_call _ _ _ _ _ _ _ _ _ _ _ _ _ _ _ _ G__law_next (hr.mono (by omega)) rfl T.m__law_next T.F__law_next.kp T.b__law_next .nil pass0 (@pa_cons _ _ _ _ _ (pv 0) (@pa_nil _) (by rfl)) (by decide) (by rfl) (by rfl)) (pv 3)) (@pa_nil _) (by rfl))) (pg_name (i := 4) sc_law_events.nd rfl (by first | exact Or.inl rfl | exact Or.inr rfl)) (@pss_cons _ _ _ _ _ (@ps_set _ _ 5 _ _ _ _ sc_law_events.nd rfl (by first | exact Or.inl rfl | exact Or.inr rfl) (@pe_op _ _ _ _ _ _ _ _ op_mod (@pe_call _ _ _ _ _ _ _ _ _ _ _ _ _ _ _ _ G__law_next (hr.mono (by omega)) rfl T.m__law_next T.F__law_next.kp T.b__law_next .nil pass0 (@pa_cons _ _ _ _ _ (pv 0) (@pa_nil _) (by rfl)) (by decide) (by rfl) (by rfl)) (@pe_int _ _ _ _)) (by rfl) (by first | exact Or.inl rfl | exact Or.inr rfl))
          (@pss_consC _ _ _ _ _ (@ps_if _ _ _ _ _ _ _ _ (@pt_cmpR _ _ _ _ _ _ _ _ op_eq (pv 2) (@pe_str _ _ _ _) (nomark _)) (@pss_one _ _ _ (@ps_set _ _ 5 _ _ _ _ sc_law_events.nd rfl (by first | exact Or.inl rfl | exact Or.inr rfl) (@pe_ix _ _ _ _ _ _ _ (kix_list K) (@pe_lstN _ _ _ _ (@pa_cons _ _ _ _ _ (@pe_str _ _ _ _) (@pa_cons _ _ _ _ _ (@pe_str _ _ _ _) (@pa_cons _ _ _ _ _ (@pe_str _ _ _ _) (@pa_cons _ _ _ _ _ (@pe_str _ _ _ _) (@pa_cons _ _ _ _ _ (@pe_str _ _ _ _) (@pa_nil _) (by rfl)) (by rfl)) (by rfl)) (by rfl)) (by rfl))) (@pe_op _ _ _ _ _ _ _ _ op_mod (pv 5) (@pe_int _ _ _ _)) (fun _ _ => rfl)) (by rfl) (by first | exact Or.inl rfl | exact Or.inr rfl))) (@pss_nil _))
          (@pss_one _ _ _ (@ps_if _ _ _ _ _ _ _ _ (@pt_cmpR _ _ _ _ _ _ _ _ (kop_notInF K (by exact hr.units)) (@pe_tupN _ _ _ _ _ (@pa_cons _ _ _ _ _ (pv 2) (@pa_cons _ _ _ _ _ (pv 5) (@pa_nil _) (by rfl)) (by rfl))) (pv 1) (by with_unfolding_all rfl)) (@pss_one _ _ _ (@ps_expr _ _ _ _ (@kpe_bm _ K _ _ _ _ _ _ _ _ _ _ _ PySem.F.plainAttrs_list PySem.F.slot_list_append PySem.F.type_list_append mt_append (pv 1) (@pa_cons _ _ _ _ _ (@pe_tupN _ _ _ _ _ (@pa_cons _ _ _ _ _ (pv 2) (@pa_cons _ _ _ _ _ (pv 5) (@pa_nil _) (by rfl)) (by rfl))) (@pa_nil _) (by rfl)) (by rfl) (by rfl) (by rfl) (by rfl) (by rfl) (by rfl)) (by rfl))) (@pss_nil _))))) (by intro _; rfl))) (by intro _; rfl))
      (@pss_one _ _ _ (@ps_ret _ _ _ _ (pv 1))))), ?_⟩
    have sl : (1000000 : Nat) ≤ sizeLine := le_line (Nat.le_refl _)
    walk_at "go"
    intro p1 H1 f1 s1 e1
    walk_at "run"
    intro pe H2 f2 s2 e2
    walk_at "run"
    intro ta H3 f3 s3 e3
    walk_at "run"
    intro tb H4 f4 s4 e4
    walk_at "run"
    intro pl H5 f5 s5 e5
    have s25 := s3.trans (s4.trans s5)
    have fe : H pe = none := s1.free f2
    have fl : H pl = none := (s1.trans (s2.trans (s3.trans s4))).free f5
    have ne : pl ≠ pe := fun z => by rw [z, (s3.trans s4) _ _ e2] at f5; cases f5
    have E5 : EvS H H5 d l pe pl ta tb n 1 := ⟨(s1.trans (s2.trans s25)).off, ⟨e5, (s4.trans s5) _ _ e3, s5 _ _ e4⟩, ⟨_, [_], s25 _ _ e2, by simp, by simp, Each.nil.snoc ((ev1 e1).same (s2.trans s25))⟩, n, Nat.le_refl _, k.same (s1.trans (s2.trans s25))⟩
    walk_at "run"
    have hpe := k.new fe
    have hpl := k.new fl
    refine ⟨⟨_, SqL.of e5⟩, for_list (xs := [V.ref ta, V.ref tb]) (fun i σ H' => EvS H H' d l pe pl ta tb (n + 4 * i) (1 + 3 * i) ∧ i ≤ 2 ∧ ∃ y2 y3 y4 y5, σ = [some (.ref d), some (.ref pe), y2, y3, y4, y5]) ⟨E5, by omega, _, _, _, _, rfl⟩ (fun i σ H' _ ⟨h, _⟩ => SqL.of h.src.1) ?_ ?_⟩
    · rintro i x σ H6 hx ⟨E6, hi, y2, y3, y4, y5, rfl⟩
      obtain ⟨c, kd, mm, rfl, hc, hm, hm4, hi2⟩ : ∃ (c : Addr) (kd : Str) (mm : Nat), x = .ref c ∧ H6 c = some (.tup [.str kd, .int (mm : Nat)]) ∧ 3 ≤ mm ∧ mm ≤ 4 ∧ i < 2 := by
        obtain ⟨a1, a2, a3⟩ := E6.src
        have hi2 := (List.getElem?_eq_some_iff.mp hx).1
        obtain rfl | rfl : i = 0 ∨ i = 1 := by simp at hi2; omega
        · cases hx
          exact ⟨ta, _, 4, rfl, a2, by decide, by decide, by decide⟩
        · cases hx
          exact ⟨tb, _, 3, rfl, a3, by decide, by decide, by decide⟩
      refine i_asgT (SqT.of hc) rfl ?_
      walk_at "run"
      obtain ⟨n1, hn1, k6⟩ := E6.deck
      refine ⟨d, l, n1, rfl, k6, by omega, fun r H7 hr7 o7 k7 => ?_⟩
      have E7 := E6.next k6 hpe hpl o7 k7 hn1
      walk_at "run"
      obtain ⟨b, hb, eb⟩ := mod_nat (r : Int) (m := mm) (by omega)
      rw [eb]
      refine ⟨by omega, by omega, ?_⟩
      rw [Int.toNat_natCast]
      refine for_range (lo := 0) (n := b) (fun j σ H' => EvS H H' d l pe pl ta tb (n + 4 * i + 1 + j) (1 + 3 * i + j) ∧ ∃ y4 y5, σ = [some (.ref d), some (.ref pe), some (.str kd), some (.int (mm : Nat)), y4, y5]) ⟨E7, _, _, rfl⟩ ?_ ?_
      · rintro j σ H8 hj ⟨E8, y4, y5, rfl⟩
        walk_at "run"
        obtain ⟨n2, hn2, k8⟩ := E8.deck
        refine ⟨d, l, n2, rfl, k8, by omega, fun r2 H9 hr9 o9 k9 => ?_⟩
        have E9 := E8.next k8 hpe hpl o9 k9 hn2
        walk_at "run"
        obtain ⟨wh, hwh, ewh⟩ := mod_nat (r2 : Int) (m := 10) (by decide)
        rw [show (r2 : Int) % 10 = ((wh : Nat) : Int) from ewh]
        refine i_seqC (fun σ' H' => EvS H H' d l pe pl ta tb (n + 4 * i + 1 + j + 1) (1 + 3 * i + j) ∧ ∃ (v : V) (e : Tr) (y4 : Option V), (∀ (H'' : Hp) (a : Addr), H'' a = some (.tup [.str kd, v]) → EvAt H'' (.ref a) e) ∧ σ' = [some (.ref d), some (.ref pe), some (.str kd), some (.int (mm : Nat)), y4, some v]) ?_ ?_
        · walk_at "run"
          refine ite2 (fun hc => ?_) (fun hc => ?_)
          · walk_at "run"
            intro p10 H10 f10 s10 e10
            walk_at "run"
            obtain ⟨r5, h5, e5'⟩ := mod_nat (wh : Int) (m := 5) (by decide)
            rw [show (wh : Int) % 5 = ((r5 : Nat) : Int) from e5']
            obtain ⟨sx, hsx⟩ := at5s (a := "no") (b := "yes") (c := "x") (d := "a") (e := "zz") h5
            refine i_ixL (SqL.of e10) hsx ?_
            exact ⟨E9.same s10, .str sx, _, _, fun H'' a h => ev2s h, rfl⟩
          · exact ⟨E9, .int (wh : Nat), _, _, fun H'' a h => ev2 h, rfl⟩
        · rintro σ' H10 ⟨E10, v, e, y4, hv, rfl⟩
          walk_at "run"
          intro p11 H11 f11 s11 e11
          walk_at "run"
          have E11 := E10.same s11
          obtain ⟨us, ets, b1, b2, b3, b4⟩ := E11.ev
          obtain ⟨c1, c2⟩ := ev_ats b4
          refine i_notInF (hv _ _ e11).1 (SqL.of b1) c1 (by have := (hv _ _ e11).2; omega) (by omega) ?_
          walk_at "run"
          refine ite2 (fun hc => ?_) (fun hc => ?_)
          · walk_at "run"
            refine i_tyL (SqL.of b1) ?_
            walk_at "run"
            intro p12 H12 f12 s12 e12
            walk_at "run"
            refine i_append (s12 _ _ b1) (by omega) ?_
            exact ⟨(EvS.app (E11.same s12) fe hpe ne (s12 _ _ b1) b3 (b4.mono fun v x h => h.same s12) (hv _ _ e12)).more (by omega) (by omega), _, _, rfl⟩
          · exact ⟨E11.more (by omega) (by omega), _, _, rfl⟩
      · rintro σ H8 ⟨E8, y4, y5, rfl⟩
        exact ⟨E8.more (by omega) (by omega), by omega, _, _, _, _, rfl⟩
    · rintro σ H6 ⟨E6, _, y2, y3, y4, y5, rfl⟩
      walk_at "run"
      obtain ⟨us, ets, b1, b2, b3, b4⟩ := E6.ev
      obtain ⟨n', hn', k'⟩ := E6.deck
      simp only [List.length_cons, List.length_nil] at b3 hn'
      exact q pe us ets H6 n' fe b1 b2 (by omega) b4 E6.off (by omega) k'
def hds (xs : List Addr) (H : Hp) : Hp := fun a => if a ∈ xs then none else H a
theorem hds_same {xs : List Addr} {H : Hp} : Same (hds xs H) H := fun b o e => by
  unfold hds at e
  split at e
  · cases e
  · exact e
theorem hds_at {xs : List Addr} {H : Hp} {a : Addr} {o : HO} (e : H a = some o) (h : a ∉ xs) : hds xs H a = some o := by
  unfold hds
  rw [if_neg h]
  exact e
theorem hds_of {xs : List Addr} {H : Hp} {a : Addr} {o : HO} (e : hds xs H a = some o) : H a = some o ∧ a ∉ xs := by
  unfold hds at e
  split at e
  · cases e
  · exact ⟨e, by assumption⟩
theorem hds_mono {xs ys : List Addr} {H H' : Hp} (hs : ∀ a ∈ ys, a ∈ xs) (h : ∀ b o, b ∉ xs → H b = some o → H' b = some o) : Same (hds xs H) (hds ys H') := fun b o e => by
  obtain ⟨e1, e2⟩ := hds_of e
  exact hds_at (h b o e2 e1) fun z => e2 (hs b z)
theorem hds_off {d l : Addr} {xs : List Addr} {H H' : Hp} (hd : d ∈ xs) (hl : l ∈ xs) (o : Off d l H H') : Same (hds xs H) (hds xs H') := hds_mono (fun _ z => z) fun b u hb e => o b u (fun z => hb (z ▸ hd)) (fun z => hb (z ▸ hl)) e
structure Tab (G : Hp) (tt : Addr) (us : List V) (ets : List Tr) (rs : List RRoom) (sy : List Str) : Prop where
  ex : ∃ a b c rvs, G tt = some (.tup [.ref a, .ref b, .ref c]) ∧ G a = some (.lst us) ∧ G b = some (.lst (strsV sy)) ∧ G c = some (.lst rvs) ∧ Each (RoomAt G) rvs rs
  ev : Each (EvAt G) us ets
theorem Tab.same {G G' : Hp} {tt : Addr} {us : List V} {ets : List Tr} {rs : List RRoom} {sy : List Str} (h : Tab G tt us ets rs sy) (s : Same G G') : Tab G' tt us ets rs sy := by
  obtain ⟨a, b, c, rvs, h1, h2, h3, h4, h5⟩ := h.ex
  exact ⟨⟨a, b, c, rvs, s _ _ h1, s _ _ h2, s _ _ h3, s _ _ h4, h5.mono fun v x hx => hx.same s⟩, h.ev.mono fun v x hx => hx.same s⟩
theorem Tab.tbl {G : Hp} {tt : Addr} {us : List V} {ets : List Tr} {rs : List RRoom} {sy : List Str} (h : Tab G tt us ets rs sy) : TblAt G tt us rs := by
  obtain ⟨a, b, c, rvs, h1, h2, h3, h4, h5⟩ := h.ex
  exact ⟨a, b, c, rvs, h1, h2, h4, h5⟩
structure TabOk (us : List V) (rs : List RRoom) : Prop where
  ok : TblOk us.length rs
  u0 : 0 < us.length
  u7 : us.length ≤ 7
  r0 : 0 < rs.length
  r14 : rs.length ≤ 14
theorem at4 {r : Nat} (h : r < 4) : ∃ m : Nat, 0 < m ∧ m ≤ 14 ∧ atI [V.int 5, .int 9, .int 9, .int 14] (r : Nat) = some (.int (m : Nat)) := by
  have : r = 0 ∨ r = 1 ∨ r = 2 ∨ r = 3 := by omega
  rcases this with rfl | rfl | rfl | rfl
  · exact ⟨5, by decide, by decide, atI_nat rfl⟩
  · exact ⟨9, by decide, by decide, atI_nat rfl⟩
  · exact ⟨9, by decide, by decide, atI_nat rfl⟩
  · exact ⟨14, by decide, by decide, atI_nat rfl⟩
def sp_table (K : PySem.W.Frag) : Sp := fun vs H Q _ => ∃ (d l : Addr) (n : Nat), vs = [.ref d] ∧ Deck H d l n ∧ n ≤ 80000 ∧
  ∀ tt us ets rs sy H' n', Tab (hds [d, l] H') tt us ets rs sy → TabOk us rs → Off d l H H' → n' ≤ n + 1000 → Deck H' d l n' → Q (.ref tt) H'
theorem ok_law_table (T : Txt K mg t) : FnOk P w K mg base CX0 3 t.a__law_table t.fd__law_table ["deck"] (sp_table K) := by
  have G__law_events := ok_law_events (P := P) (w := w) (base := base) T
  have G__law_next := ok_law_next (P := P) (w := w) (base := base) T
  have G__law_said := ok_law_said (P := P) (w := w) (base := base) T
  refine T.F__law_table.ok sc_law_table (fun vs H Q E h => ?_) (fun cdv A outer s H vs Q E hr h => ?_)
  · obtain ⟨d, l, n, rfl, _⟩ := h
    rfl
  · obtain ⟨d, l, n, rfl, k, hn, q⟩ := h
    refine ⟨_, (@pss_cons _ _ _ _ _ (@ps_set _ _ 1 _ _ _ _ sc_law_table.nd rfl (by first | exact Or.inl rfl | exact Or.inr rfl) (@pe_call _ _ _ _ _ _ _ _ _ _ _ _ _ _ _ _ G__law_events (hr.mono (by omega)) rfl T.m__law_events T.F__law_events.kp T.b__law_events .nil pass0 (@pa_cons _ _ _ _ _ (pv 0) (@pa_nil _) (by rfl)) (by decide) (by rfl) (by rfl)) (by rfl) (by first | exact Or.inl rfl | exact Or.inr rfl))
      (@pss_cons _ _ _ _ _ (@ps_set _ _ 2 _ _ _ _ sc_law_table.nd rfl (by first | exact Or.inl rfl | exact Or.inr rfl) (@pe_op _ _ _ _ _ _ _ _ op_plus (@pe_int _ _ _ _) (@pe_op _ _ _ _ _ _ _ _ op_mod (@pe_call _ _ _ _ _ _ _ _ _ _ _ _ _ _ _ _ G__law_next (hr.mono (by omega)) rfl T.m__law_next T.F__law_next.kp T.b__law_next .nil pass0 (@pa_cons _ _ _ _ _ (pv 0) (@pa_nil _) (by rfl)) (by decide) (by rfl) (by rfl)) (@pe_ix _ _ _ _ _ _ _ (kix_list K) (@pe_lstN _ _ _ _ (@pa_cons _ _ _ _ _ (@pe_int _ _ _ _) (@pa_cons _ _ _ _ _ (@pe_int _ _ _ _) (@pa_cons _ _ _ _ _ (@pe_int _ _ _ _) (@pa_cons _ _ _ _ _ (@pe_int _ _ _ _) (@pa_nil _) (by rfl)) (by rfl)) (by rfl)) (by rfl))) (@pe_op _ _ _ _ _ _ _ _ op_mod (@pe_call _ _ _ _ _ _ _ _ _ _ _ _ _ _ _ _ G__law_next (hr.mono (by omega)) rfl T.m__law_next T.F__law_next.kp T.b__law_next .nil pass0 (@pa_cons _ _ _ _ _ (pv 0) (@pa_nil _) (by rfl)) (by decide) (by rfl) (by rfl)) (@pe_int _ _ _ _)) (fun _ _ => rfl)))) (by rfl) (by first | exact Or.inl rfl | exact Or.inr rfl))
      (@pss_cons _ _ _ _ _ (@ps_set _ _ 3 _ _ _ _ sc_law_table.nd rfl (by first | exact Or.inl rfl | exact Or.inr rfl) (@pe_callTy _ _ _ _ _ _ _ _ _ cl_int (by rfl) T.z_int bb_int (@pa_cons _ _ _ _ _ (@pe_cmpR _ _ _ _ _ _ _ _ op_eq (@pe_op _ _ _ _ _ _ _ _ op_mod (@pe_call _ _ _ _ _ _ _ _ _ _ _ _ _ _ _ _ G__law_next (hr.mono (by omega)) rfl T.m__law_next T.F__law_next.kp T.b__law_next .nil pass0 (@pa_cons _ _ _ _ _ (pv 0) (@pa_nil _) (by rfl)) (by decide) (by rfl) (by rfl)) (@pe_int _ _ _ _)) (@pe_int _ _ _ _) (nomark _)) (@pa_nil _) (by rfl)) (by decide) (by decide) (by rfl) (by rfl)) (by rfl) (by first | exact Or.inl rfl | exact Or.inr rfl))
      (@pss_cons _ _ _ _ _ (@ps_set _ _ 4 _ _ _ _ sc_law_table.nd rfl (by first | exact Or.inl rfl | exact Or.inr rfl) (@pe_call _ _ _ _ _ _ _ _ _ _ _ _ _ _ _ _ G__law_said (hr.mono (by omega)) rfl T.m__law_said T.F__law_said.kp T.b__law_said .nil pass0 (@pa_cons _ _ _ _ _ (pv 0) (@pa_cons _ _ _ _ _ (@pe_int _ _ _ _) (@pa_nil _) (by rfl)) (by rfl)) (by decide) (by rfl) (by rfl)) (by rfl) (by first | exact Or.inl rfl | exact Or.inr rfl))
      (@pss_cons _ _ _ _ _ (@ps_set _ _ 5 _ _ _ _ sc_law_table.nd rfl (by first | exact Or.inl rfl | exact Or.inr rfl) (@pe_lstN _ _ _ _ (@pa_nil _)) (by rfl) (by first | exact Or.inl rfl | exact Or.inr rfl))
      (@pss_cons _ _ _ _ _ (@ps_for _ _ _ _ _ _ _ _ PassesOwn.never rfl (pi_range1 rfl T.z_range (@pa_cons _ _ _ _ _ (pv 2) (@pa_nil _) (by rfl))) (pg_name (i := 6) sc_law_table.nd rfl (by first | exact Or.inl rfl | exact Or.inr rfl)) (@pss_cons _ _ _ _ _ (@ps_set _ _ 7 _ _ _ _ sc_law_table.nd rfl (by first | exact Or.inl rfl | exact Or.inr rfl) (@pe_cmpR _ _ _ _ _ _ _ _ op_eq (@pe_op _ _ _ _ _ _ _ _ op_mod (@pe_call _ _ _ _ _ _ _ _ _ _ _ _ _ _ _ _ G__law_next (hr.mono (by omega)) rfl T.m__law_next T.F__law_next.kp T.b__law_next .nil pass0 (@pa_cons _ _ _ _ _ (pv 0) (@pa_nil _) (by rfl)) (by decide) (by rfl) (by rfl)) (@pe_int _ _ _ _)) (@pe_int _ _ _ _) (nomark _)) (by rfl) (by first | exact Or.inl rfl | exact Or.inr rfl))
        (@pss_cons _ _ _ _ _ (ps_lc (i := 8) (Nt := ["event"]) (Nf := ["room"]) (caps := [6]) rfl (comp_ok (sc := defScope s_law_table) rfl rfl (by decide +kernel) (by decide +kernel) (by decide +kernel) rfl (by decide +kernel)) (kpi_list K (pv 1)) (fun _ _ _ _ _ => (pg_name (i := 0) (show (["event", "room"] : List Str).Nodup by decide +kernel) rfl (by first | exact Or.inl rfl | exact Or.inr rfl))) (fun _ _ _ _ _ => (@pts_nil _)) (fun _ _ _ _ _ => (@pe_tupN _ _ _ _ _ (@pa_cons _ _ _ _ _ (@pe_lstN _ _ _ _ (@pa_nil _)) (@pa_cons _ _ _ _ _ (pv 1) (@pa_nil _) (by rfl)) (by rfl)))) sc_law_table.nd rfl (by first | exact Or.inl rfl | exact Or.inr rfl) rfl)
        (@pss_consC _ _ _ _ _ (@ps_if _ _ _ _ _ _ _ _ (@pt_not _ _ _ _ (kpt_tru K (pv 7) (fun _ => rfl))) (@pss_one _ _ _ (ps_lc (i := 8) (Nt := ["event"]) (Nf := ["deck", "rich", "many"]) (caps := [0, 3, 2]) rfl (comp_ok (sc := defScope s_law_table) rfl rfl (by decide +kernel) (by decide +kernel) (by decide +kernel) rfl (by decide +kernel)) (kpi_list K (pv 1)) (fun _ _ _ _ _ => (pg_name (i := 0) (show (["event", "deck", "rich", "many"] : List Str).Nodup by decide +kernel) rfl (by first | exact Or.inl rfl | exact Or.inr rfl))) (fun _ _ _ _ _ => (@pts_nil _)) (fun _ _ _ _ _ => (@pe_tupN _ _ _ _ _ (@pa_cons _ _ _ _ _ (@pe_call _ _ _ _ _ _ _ _ _ _ _ _ _ _ _ _ G__law_said (hr.mono (by omega)) rfl T.m__law_said T.F__law_said.kp T.b__law_said .nil pass0 (@pa_cons _ _ _ _ _ (pv 1) (@pa_cons _ _ _ _ _ (pv 2) (@pa_nil _) (by rfl)) (by rfl)) (by decide) (by rfl) (by rfl)) (@pa_cons _ _ _ _ _ (@pe_op _ _ _ _ _ _ _ _ op_mod (@pe_call _ _ _ _ _ _ _ _ _ _ _ _ _ _ _ _ G__law_next (hr.mono (by omega)) rfl T.m__law_next T.F__law_next.kp T.b__law_next .nil pass0 (@pa_cons _ _ _ _ _ (pv 1) (@pa_nil _) (by rfl)) (by decide) (by rfl) (by rfl)) (pv 3)) (@pa_nil _) (by rfl)) (by rfl)))) sc_law_table.nd rfl (by first | exact Or.inl rfl | exact Or.inr rfl) rfl)) (@pss_nil _))
        (@pss_one _ _ _ (@ps_expr _ _ _ _ (@kpe_bm _ K _ _ _ _ _ _ _ _ _ _ _ PySem.F.plainAttrs_list PySem.F.slot_list_append PySem.F.type_list_append mt_append (pv 5) (@pa_cons _ _ _ _ _ (@pe_tupN _ _ _ _ _ (@pa_cons _ _ _ _ _ (pv 7) (@pa_cons _ _ _ _ _ (pv 8) (@pa_nil _) (by rfl)) (by rfl))) (@pa_nil _) (by rfl)) (by rfl) (by rfl) (by rfl) (by rfl) (by rfl) (by rfl)) (by rfl)))))) (by intro _; rfl))
      (@pss_one _ _ _ (@ps_ret _ _ _ _ (@pe_tupN _ _ _ _ _ (@pa_cons _ _ _ _ _ (pv 1) (@pa_cons _ _ _ _ _ (pv 4) (@pa_cons _ _ _ _ _ (pv 5) (@pa_nil _) (by rfl)) (by rfl)) (by rfl))))))))))), ?_⟩
    have sl : (1000000 : Nat) ≤ sizeLine := le_line (Nat.le_refl _)
    walk_at "go"
    refine ⟨d, l, n, rfl, k, by omega, fun pe us ets H1 n1 f1 e1 u0 u7 hev o1 hn1 k1 => ?_⟩
    walk_at "run"
    refine ⟨d, l, n1, rfl, k1, by omega, fun r2 H2 hr2 o2 k2 => ?_⟩
    walk_at "run"
    intro p3 H3 f3 s3 e3
    walk_at "run"
    refine ⟨d, l, _, rfl, k2.same s3, by omega, fun r4 H4 hr4 o4 k4 => ?_⟩
    walk_at "run"
    obtain ⟨x4, hx4, ex4⟩ := mod_nat (r4 : Int) (m := 4) (by decide)
    rw [show (r4 : Int) % 4 = ((x4 : Nat) : Int) from ex4]
    obtain ⟨mm, hm0, hm14, hat⟩ := at4 hx4
    obtain ⟨z1, z2⟩ := k2.new f3
    refine i_ixL (SqL.of (o4 _ _ z1 z2 e3)) hat ?_
    walk_at "run"
    obtain ⟨mb, hmb, emb⟩ := mod_nat (r2 : Int) (m := mm) hm0
    rw [emb]
    walk_at "run"
    refine ⟨d, l, _, rfl, k4, by omega, fun r5 H5 hr5 o5 k5 => ?_⟩
    walk_at "run"
    generalize hrich : decide ((r5 : Int) % 3 = 0) = rb
    refine ⟨d, l, _, true, rfl, k5, by omega, fun pb sy H6 f6 e6 hsy o6 k6 => ?_⟩
    walk_at "run"
    intro pc H7 f7 s7 e7
    walk_at "run"
    have o17 : Off d l H1 H7 := o2.trans (s3.off.trans (o4.trans (o5.trans (o6.trans s7.off))))
    have hpe := k.new f1
    have hpb := k5.new f6
    have hpc := k6.new f7
    have k7 := k6.same s7
    have e17 := o17 _ _ hpe.1 hpe.2 e1
    have hev7 : Each (EvAt H7) us ets := hev.mono fun v x h => h.tups (o17.tups k1)
    have e67 := s7 _ _ e6
    have npe : pe ≠ pc := fun z => by rw [z] at e17; rw [e7] at e17; cases e17; exact absurd u0 (by simp)
    have npb : pb ≠ pc := fun z => by rw [z, f7] at e6; cases e6
    have kp7 : Off d l H H7 := o1.trans o17
    have hk7 := kp7.free k7 (p := pc)
    have fc : H pc = none := by
      cases e : H pc with
      | none => rfl
      | some o => have := (o1.trans (o2.trans (s3.off.trans (o4.trans (o5.trans o6))))) _ _ hpc.1 hpc.2 e; rw [f7] at this; cases this
    generalize hN : n1 + 1 + 1 + 1 + 1 = N at k7
    rw [show (1 + (mb : Int)).toNat = mb + 1 by omega]
    obtain ⟨Pv, hPv⟩ : ∃ Pv : Nat → St → Hp → Prop, Pv = (fun i σ H' => (∀ b o, b ∉ [d, l, pc] → H7 b = some o → H' b = some o) ∧ (∃ m, m ≤ N + i * 20 ∧ Deck H' d l m) ∧ (∃ rvs rs, H' pc = some (.lst rvs) ∧ rs.length = i ∧ Each (RoomAt (hds [d, l, pc] H')) rvs rs ∧ ∀ r ∈ rs, r.2.length = us.length ∧ ∀ x ∈ r.2, x.2 < mb + 1) ∧
      ∃ y6 y7 y8, σ = [some (.ref d), some (.ref pe), some (.int (1 + (mb : Int))), some (.int (if rb then 1 else 0)), some (.ref pb), some (.ref pc), y6, y7, y8]) := ⟨_, rfl⟩
    refine for_range (lo := 0) (n := mb + 1) Pv (by rw [hPv]; exact ⟨fun _ _ _ e => e, ⟨N, by omega, k7⟩, ⟨[], [], e7, rfl, Each.nil, by simp⟩, _, _, _, rfl⟩) ?_ ?_
    · intro i σ H8 hi hI
      rw [hPv] at hI
      obtain ⟨kp8, ⟨m, hm, k8⟩, ⟨rvs, rs, ec8, hrl, hrs, hro⟩, y6, y7, y8, rfl⟩ := hI
      rw [Int.zero_add]
      walk_at "run"
      refine ⟨d, l, m, rfl, k8, by omega, fun r9 H9 hr9 o9 k9 => ?_⟩
      walk_at "run"
      have npe3 : pe ∉ [d, l, pc] := by simp [hpe.1, hpe.2, npe]
      have e9 := o9 _ _ hpe.1 hpe.2 (kp8 _ _ npe3 e17)
      have ec9 := o9 _ _ hpc.1 hpc.2 ec8
      generalize decide ((r9 : Int) % 7 = 0) = ov
      have hin : d ∈ [d, l, pc] ∧ l ∈ [d, l, pc] := by simp
      have new3 : ∀ {Hx : Hp} {p : Addr} {m : Nat}, Deck Hx d l m → Hx pc = some (.lst rvs) → Hx p = none → p ∉ [d, l, pc] := fun kx ex fx => by
        have := kx.new fx
        simp only [List.mem_cons, List.not_mem_nil, or_false, not_or]
        exact ⟨this.1, this.2, fun z => by rw [z, ex] at fx; cases fx⟩
      refine ⟨⟨_, SqL.of e9⟩, cc_list (xs := us) (le_line (by omega)) (fun j acc H' => j ≤ us.length ∧ acc.length = j ∧ Same H9 H' ∧ ∃ rws : List RRow, Each (RowAt (hds [d, l, pc] H')) acc rws ∧ ∀ x ∈ rws, x.2 < mb + 1) ⟨Nat.zero_le _, rfl, Same.refl _, [], Each.nil, by simp⟩ (fun j acc H' ⟨_, e, s', _⟩ => ⟨by omega, SqL.of (s' _ _ e9)⟩) ?_ ?_⟩
      · rintro j x acc H10 hx ⟨hj, ea, s10, rws, h1, h2⟩
        walk_at "run"
        intro p11 H11 f11 s11 e11
        walk_at "run"
        intro p12 H12 f12 s12 e12
        have k10 := k9.same s10
        have n11 := new3 k10 (s10 _ _ ec9) f11
        have n12 := new3 (k10.same s11) (s11 _ _ (s10 _ _ ec9)) f12
        have sm := hds_off hin.1 hin.2 (s11.trans s12).off (H := H10) (H' := H12)
        refine ⟨(List.getElem?_eq_some_iff.mp hx).1, by simp [ea], s10.trans (s11.trans s12), rws ++ [([], i)], (h1.mono fun v x h => h.same sm).snoc ⟨p12, p11, rfl, hds_at e12 n12, hds_at (s12 _ _ e11) n11⟩, fun x hx => ?_⟩
        rcases List.mem_append.mp hx with hx | hx
        · exact h2 x hx
        · rw [List.mem_singleton.mp hx]
          exact hi
      · rintro acc H10 ⟨_, ea, s10, rws, h1, h2⟩ p11 H11 f11 s11 e11
        have s911 := s10.trans s11
        have k11 := k9.same s911
        have n11 := new3 (k9.same s10) (s10 _ _ ec9) f11
        walk_at "run"
        refine i_seqC (fun σ' H' => Off d l H9 H' ∧ (∃ m', m' ≤ m + 20 ∧ Deck H' d l m') ∧ ∃ g ps rws, H' g = some (.lst ps) ∧ g ∉ [d, l, pc] ∧ Each (RowAt (hds [d, l, pc] H')) ps rws ∧ rws.length = us.length ∧ (∀ x ∈ rws, x.2 < mb + 1) ∧
          σ' = [some (.ref d), some (.ref pe), some (.int (1 + (mb : Int))), some (.int (if rb then 1 else 0)), some (.ref pb), some (.ref pc), some (.int (i : Nat)), some (.bl ov), some (.ref g)]) ?_ ?_
        · walk_at "run"
          cases ov with
          | true =>
            refine i_itF ?_
            exact ⟨s911.off, ⟨m + 1, by omega, k11⟩, p11, acc, rws, e11, n11, h1.mono fun v x h => h.same (hds_off hin.1 hin.2 s11.off), by rw [← h1.1, ea], h2, rfl⟩
          | false =>
            refine i_itT ?_
            walk_at "run"
            refine ⟨⟨_, SqL.of (s911 _ _ e9)⟩, cc_list (xs := us) (le_line (by omega)) (fun j acc H' => j ≤ us.length ∧ acc.length = j ∧ Off d l H9 H' ∧ Deck H' d l (m + 1 + 2 * j) ∧ ∃ rws : List RRow, Each (RowAt (hds [d, l, pc] H')) acc rws ∧ ∀ x ∈ rws, x.2 < mb + 1) ⟨Nat.zero_le _, rfl, s911.off, k11, [], Each.nil, by simp⟩ (fun j acc H' ⟨_, e, o', _⟩ => ⟨by omega, SqL.of (o' _ _ hpe.1 hpe.2 e9)⟩) ?_ ?_⟩
            · rintro j x acc H12 hx ⟨hj, ea, o12, k12, rws, h1, h2⟩
              have hj' := (List.getElem?_eq_some_iff.mp hx).1
              walk_at "run"
              refine ⟨d, l, _, rb, rfl, k12, by omega, fun p13 ss H13 f13 e13 _ o13 k13 => ?_⟩
              walk_at "run"
              refine ⟨d, l, _, rfl, k13, by omega, fun r14 H14 hr14 o14 k14 => ?_⟩
              walk_at "run"
              obtain ⟨to, hto, eto⟩ := mod_nat (r14 : Int) (m := mb + 1) (by omega)
              rw [show (r14 : Int) % (1 + (mb : Int)) = ((to : Nat) : Int) by rw [← eto]; congr 1; omega]
              walk_at "run"
              intro p15 H15 f15 s15 e15
              have ec12 := o12 _ _ hpc.1 hpc.2 ec9
              have ec14 := o14 _ _ hpc.1 hpc.2 (o13 _ _ hpc.1 hpc.2 ec12)
              have n13 := new3 k12 ec12 f13
              have n15 := new3 k14 ec14 f15
              have e13' := s15 _ _ (o14 _ _ (fun z => n13 (by simp [z])) (fun z => n13 (by simp [z])) e13)
              have sm := hds_off hin.1 hin.2 (o13.trans (o14.trans s15.off)) (H := H12) (H' := H15)
              refine ⟨hj', by simp [ea], o12.trans (o13.trans (o14.trans s15.off)), (k14.same s15), rws ++ [(ss, to)], (h1.mono fun v x h => h.same sm).snoc ⟨p15, p13, rfl, hds_at e15 n15, hds_at e13' n13⟩, fun x hx => ?_⟩
              rcases List.mem_append.mp hx with hx | hx
              · exact h2 x hx
              · rw [List.mem_singleton.mp hx]
                exact hto
            · rintro acc H12 ⟨_, ea, o12, k12, rws, h1, h2⟩ p13 H13 f13 s13 e13
              have n13 := new3 k12 (o12 _ _ hpc.1 hpc.2 ec9) f13
              exact ⟨o12.trans s13.off, ⟨_, by omega, k12.same s13⟩, p13, acc, rws, e13, n13, h1.mono fun v x h => h.same (hds_off hin.1 hin.2 s13.off), by rw [← h1.1, ea], h2, rfl⟩
        · rintro σ' H12 ⟨o12, ⟨m', hm', k12⟩, g, ps, rws, eg, ng, h1, hrw, h2, rfl⟩
          have ec12 := o12 _ _ hpc.1 hpc.2 ec9
          walk_at "run"
          refine i_tyL (SqL.of ec12) ?_
          walk_at "run"
          intro p13 H13 f13 s13 e13
          walk_at "run"
          have n13 := new3 k12 ec12 f13
          have ec13 := s13 _ _ ec12
          have hl : rvs.length = i := by rw [hrs.1, hrl]
          refine i_append ec13 (by omega) ?_
          rw [hPv]
          have sm : ∀ {Hx : Hp}, (∀ b o, b ∉ [d, l, pc] → Hx b = some o → H13 b = some o) → Same (hds [d, l, pc] Hx) (hds [d, l, pc] (upd H13 pc (.lst (rvs ++ [.ref p13])))) := fun hh => hds_mono (fun _ z => z) fun b o hb e => by
            rw [upd_ne (fun z => hb (by simp [z]))]
            exact hh b o hb e
          have o813 : ∀ b o, b ∉ [d, l, pc] → H8 b = some o → H13 b = some o := fun b o hb e => s13 _ _ (o12 _ _ (fun z => hb (by simp [z])) (fun z => hb (by simp [z])) (o9 _ _ (fun z => hb (by simp [z])) (fun z => hb (by simp [z])) e))
          refine ⟨fun b o hb e => ?_, ⟨m', by omega, ?_⟩, ⟨_, rs ++ [(ov, rws)], upd_same, by simp [hrl], (hrs.mono fun v x h => h.same (sm o813)).snoc ⟨p13, g, ps, rfl, ?_, ?_, h1.mono fun v x h => h.same (sm fun b o _ e => s13 _ _ e)⟩, fun r hr => ?_⟩, _, _, _, rfl⟩
          · rw [upd_ne (fun z => hb (by simp [z]))]
            exact o813 b o hb (kp8 b o hb e)
          · obtain ⟨ms, z, g1, g2, g3⟩ := (k12.same s13).ex
            exact ⟨ms, z, by rw [upd_ne hpc.1.symm]; exact g1, by rw [upd_ne hpc.2.symm]; exact g2, g3⟩
          · exact hds_at (by rw [upd_ne (fun z => n13 (by simp [z]))]; exact e13) n13
          · exact hds_at (by rw [upd_ne (fun z => ng (by simp [z]))]; exact s13 _ _ eg) ng
          · rcases List.mem_append.mp hr with hr | hr
            · exact hro r hr
            · rw [List.mem_singleton.mp hr]
              exact ⟨hrw, h2⟩
    · intro σ H8 hI
      rw [hPv] at hI
      obtain ⟨kp8, ⟨m, hm, k8⟩, ⟨rvs, rs, ec8, hrl, hrs, hro⟩, y6, y7, y8, rfl⟩ := hI
      walk_at "run"
      intro pt H9 f9 s9 e9
      have k9 := k8.same s9
      have hpt := k8.new f9
      have o79 : ∀ b o, b ∉ [d, l, pc] → H7 b = some o → H9 b = some o := fun b o hb e => s9 _ _ (kp8 b o hb e)
      have t79 : Tups H7 H9 := fun b ys e => by
        obtain ⟨ms, z, g1, g2, _⟩ := k7.ex
        refine o79 b _ ?_ e
        simp only [List.mem_cons, List.not_mem_nil, or_false, not_or]
        exact ⟨ne_of e g1 (fun z => nomatch z), ne_of e g2 (fun z => nomatch z), ne_of e e7 (fun z => nomatch z)⟩
      have two : ∀ {x : Addr}, x ≠ d ∧ x ≠ l → x ∉ [d, l] := fun h => by simp [h.1, h.2]
      have ev9 : Each (EvAt (hds [d, l] H9)) us ets := by
        refine hev7.mono fun v x h => h.tups fun b ys e => hds_at (t79 _ _ e) ?_
        obtain ⟨ms, z, g1, g2, _⟩ := k7.ex
        exact two ⟨ne_of e g1 (fun z => nomatch z), ne_of e g2 (fun z => nomatch z)⟩
      refine q pt us ets rs sy H9 m ⟨⟨pe, pb, pc, rvs, hds_at e9 (two hpt), hds_at (o79 _ _ (by simp [hpe.1, hpe.2, npe]) e17) (two hpe), hds_at (o79 _ _ (by simp [hpb.1, hpb.2, npb]) e67) (two hpb), hds_at (s9 _ _ ec8) (two hpc), hrs.mono fun v x h => h.same (hds_mono (by simp) fun b o _ e => s9 _ _ e)⟩, ev9⟩ ⟨⟨by omega, by omega, fun r hr => ⟨(hro r hr).1, fun x hx => by have := (hro r hr).2 x hx; omega⟩⟩, u0, u7, by omega, by omega⟩ (fun b o h1 h2 e => ?_) (by omega) k9
      refine s9 _ _ (kp8 b o ?_ (kp7 b o h1 h2 e))
      simp only [List.mem_cons, List.not_mem_nil, or_false, not_or]
      exact ⟨h1, h2, fun z => by rw [z, fc] at e; cases e⟩
def LenAt (P : Params) (H : Hp) (a : Addr) (N : Nat) (dv : Pr → Option Nat) (sz : Nat) : Prop := ∃ kvs, DtAt P H a kvs ∧ (∀ x ∈ kvs, ∃ p : Pr, p.1 < N ∧ p.2 < N ∧ x.1 = pairT p) ∧ (∀ p : Pr, valV kvs (pairT p) = (dv p).map fun n => V.int (n : Nat)) ∧ kvs.length = sz
theorem LenAt.same {P : Params} {H H' : Hp} {a : Addr} {N : Nat} {dv : Pr → Option Nat} {sz : Nat} (h : LenAt P H a N dv sz) (s : Same H H') : LenAt P H' a N dv sz := by
  obtain ⟨kvs, h1, h2⟩ := h
  exact ⟨kvs, dt_same h1 s, h2⟩
theorem row_of {H : Hp} {rvs : List V} {rs : List RRoom} {many x j : Nat} (h : Each (RoomAt H) rvs rs) (ok : TblOk many rs) (hx : x < rs.length) : ∃ q g ps, rvs[x]? = some (.ref q) ∧ H q = some (.tup [.bl (roomA rs x).1, .ref g]) ∧ H g = some (.lst ps) ∧ ps.length = many ∧
    ∀ j, j < many → ∃ k sl, ps[j]? = some (.ref k) ∧ H k = some (.tup [.ref sl, .int ((rowA rs x j).2 : Nat)]) ∧ H sl = some (.lst (strsV (rowA rs x j).1)) ∧ (rowA rs x j).2 < rs.length := by
  obtain ⟨q, g, ps, h1, h2, h3, h4⟩ := TblAt.room (c := 0) h hx
  have hm : roomA rs x ∈ rs := by unfold roomA; simp [hx]
  obtain ⟨o1, o2⟩ := ok.rows _ hm
  refine ⟨q, g, ps, h1, h2, h3, by rw [h4.1, o1], fun j hj => ?_⟩
  have e : (roomA rs x).2[j]? = some (rowA rs x j) := by unfold rowA; simp [o1, hj]
  obtain ⟨v, g1, k, sl, rfl, g2, g3⟩ := h4.get e
  exact ⟨k, sl, g1, g2, g3, o2 _ (List.mem_of_getElem? e)⟩
def sp_short (P : Params) : Sp := fun vs H Q _ => ∃ (c a : Addr) (x y many sz : Nat) (rvs : List V) (rs : List RRoom) (dv : Pr → Option Nat), vs = [.ref c, .int (x : Nat), .int (y : Nat), .ref a] ∧ H c = some (.lst rvs) ∧ Each (RoomAt H) rvs rs ∧ TblOk many rs ∧ x < rs.length ∧ y < rs.length ∧ LenAt P H a rs.length dv sz ∧
  (∀ H', Same H H' → (∀ j m, ¬ Cand rs many dv (x, y) j m) → Q .non H') ∧ (∀ H' j M, Same H H' → Cand rs many dv (x, y) j M → (∀ j m, Cand rs many dv (x, y) j m → M ≤ m) → Q (.int (M : Nat)) H')
theorem ok_law_shortest (T : Txt K mg t) : FnOk P w K mg base CX0 1 t.a__law_shortest t.fd__law_shortest ["rooms", "one", "other", "lengths"] (sp_short w.params) := by
  refine T.F__law_shortest.ok sc_law_shortest (fun vs H Q E h => ?_) (fun cdv A outer s H vs Q E hr h => ?_)
  · obtain ⟨c, a, x, y, many, sz, rvs, rs, dv, rfl, _⟩ := h
    rfl
  · obtain ⟨c, a, x, y, many, sz, rvs, rs, dv, rfl, hc, hrs, ok, hx, hy, hD, q0, q1⟩ := h
    refine ⟨_, (@pss_cons _ _ _ _ _ (@ps_set _ _ 4 _ _ _ _ sc_law_shortest.nd rfl (by first | exact Or.inl rfl | exact Or.inr rfl) (@pe_lstN _ _ _ _ (@pa_nil _)) (by rfl) (by first | exact Or.inl rfl | exact Or.inr rfl))
      (@pss_cons _ _ _ _ _ (@ps_for _ _ _ _ _ _ _ _ PassesOwn.never rfl (pi_zip K rfl T.z_zip (@pa_cons _ _ _ _ _ (@pe_ix _ _ _ _ _ _ _ (kix_tup K) (@pe_ix _ _ _ _ _ _ _ (kix_list K) (pv 0) (pv 1) (fun _ _ => rfl)) (@pe_int _ _ _ _) (fun _ _ => rfl)) (@pa_cons _ _ _ _ _ (@pe_ix _ _ _ _ _ _ _ (kix_tup K) (@pe_ix _ _ _ _ _ _ _ (kix_list K) (pv 0) (pv 2) (fun _ _ => rfl)) (@pe_int _ _ _ _) (fun _ _ => rfl)) (@pa_nil _) (by rfl)) (by rfl))) (kpg_tup K (n := 2) rfl (pgs_cons (pg_name (i := 5) sc_law_shortest.nd rfl (by first | exact Or.inl rfl | exact Or.inr rfl)) (pgs_cons (pg_name (i := 6) sc_law_shortest.nd rfl (by first | exact Or.inl rfl | exact Or.inr rfl)) (@pgs_nil _)))) (@pss_one _ _ _ (@ps_if _ _ _ _ _ _ _ _ (@pt_cmpR _ _ _ _ _ _ _ _ (kop_neS K (by exact hr.units0)) (@pe_ix _ _ _ _ _ _ _ (kix_tup K) (pv 5) (@pe_int _ _ _ _) (fun _ _ => rfl)) (@pe_ix _ _ _ _ _ _ _ (kix_tup K) (pv 6) (@pe_int _ _ _ _) (fun _ _ => rfl)) (nomark _)) (@pss_one _ _ _ (@ps_expr _ _ _ _ (@kpe_bm _ K _ _ _ _ _ _ _ _ _ _ _ PySem.F.plainAttrs_list PySem.F.slot_list_append PySem.F.type_list_append mt_append (pv 4) (@pa_cons _ _ _ _ _ (@pe_int _ _ _ _) (@pa_nil _) (by rfl)) (by rfl) (by rfl) (by rfl) (by rfl) (by rfl) (by rfl)) (by rfl))) (@pss_one _ _ _ (@ps_if _ _ _ _ _ _ _ _ (pt_cmp (pc_tin (P := w.params) rfl (by exact hr.units) (@pe_tupN _ _ _ _ _ (@pa_cons _ _ _ _ _ (@pe_ix _ _ _ _ _ _ _ (kix_tup K) (pv 5) (@pe_int _ _ _ _) (fun _ _ => rfl)) (@pa_cons _ _ _ _ _ (@pe_ix _ _ _ _ _ _ _ (kix_tup K) (pv 6) (@pe_int _ _ _ _) (fun _ _ => rfl)) (@pa_nil _) (by rfl)) (by rfl))) (pv 3))) (@pss_one _ _ _ (@ps_expr _ _ _ _ (@kpe_bm _ K _ _ _ _ _ _ _ _ _ _ _ PySem.F.plainAttrs_list PySem.F.slot_list_append PySem.F.type_list_append mt_append (pv 4) (@pa_cons _ _ _ _ _ (@pe_op _ _ _ _ _ _ _ _ op_plus (@pe_int _ _ _ _) (pe_tget (P := w.params) rfl (by exact hr.units) (pv 3) (@pe_tupN _ _ _ _ _ (@pa_cons _ _ _ _ _ (@pe_ix _ _ _ _ _ _ _ (kix_tup K) (pv 5) (@pe_int _ _ _ _) (fun _ _ => rfl)) (@pa_cons _ _ _ _ _ (@pe_ix _ _ _ _ _ _ _ (kix_tup K) (pv 6) (@pe_int _ _ _ _) (fun _ _ => rfl)) (@pa_nil _) (by rfl)) (by rfl))) (fun _ _ => rfl))) (@pa_nil _) (by rfl)) (by rfl) (by rfl) (by rfl) (by rfl) (by rfl) (by rfl)) (by rfl))) (@pss_nil _))))) (by intro _; rfl))
      (@pss_one _ _ _ (@ps_ret _ _ _ _ (pe_minD K (by rfl) (by rfl) (by rfl) T.z_min bb_min (@pa_cons _ _ _ _ _ (pv 4) (@pa_nil _) (by rfl)) (pk_cons (@pe_non _ _ _) pk_nil) (by rfl)))))), ?_⟩
    have sl : (1000000 : Nat) ≤ sizeLine := le_line (Nat.le_refl _)
    have hm100 := ok.nm
    obtain ⟨qx, gx, psx, x1, x2, x3, x4, x5⟩ := row_of (j := 0) hrs ok hx
    obtain ⟨qy, gy, psy, y1, y2, y3, y4, y5⟩ := row_of (j := 0) hrs ok hy
    walk_at "go"
    intro ps H1 f1 s1 e1
    walk_at "run"
    refine i_ixL (SqL.of (s1 _ _ hc)) (atI_nat (j := x) x1) ?_
    walk_at "run"
    refine i_ixT (SqT.of (s1 _ _ x2)) (atI_nat (j := 1) rfl) ?_
    walk_at "run"
    refine i_ixL (SqL.of (s1 _ _ hc)) (atI_nat (j := y) y1) ?_
    walk_at "run"
    refine i_ixT (SqT.of (s1 _ _ y2)) (atI_nat (j := 1) rfl) ?_
    walk_at "run"
    refine ⟨gx, gy, rfl, ⟨_, SqL.of (s1 _ _ x3)⟩, ⟨_, SqL.of (s1 _ _ y3)⟩, for_zip (K := K) (xs := psx) (ys := psy) (by rw [x4, y4]) (fun i σ H' => Same H H' ∧ (∃ ns : List Int, H' ps = some (.lst (ns.map V.int)) ∧ ns.length ≤ i ∧ ∀ z : Int, z ∈ ns ↔ ∃ j, j < i ∧ ∃ m : Nat, z = (m : Nat) ∧ Cand rs many dv (x, y) j m) ∧ ∃ z5 z6, σ = [some (.ref c), some (.int (x : Nat)), some (.int (y : Nat)), some (.ref a), some (.ref ps), z5, z6])
      ⟨s1, ⟨[], e1, by simp, by simp⟩, _, _, rfl⟩ (fun i σ H' _ ⟨s', _⟩ => ⟨SqL.of (s' _ _ x3), SqL.of (s' _ _ y3)⟩) ?_ ?_⟩
    · rintro i vx vy σ H2 qp H3 hvx hvy ⟨s2, ⟨ns, e2, hnl, hns⟩, z5, z6, rfl⟩ s3 e3
      have hi : i < many := by rw [← x4]; exact (List.getElem?_eq_some_iff.mp hvx).1
      obtain ⟨kx, sx, c1, c2, c3, c4⟩ := x5 i hi
      obtain ⟨ky, sy, d1, d2, d3, d4⟩ := y5 i hi
      rw [hvx] at c1
      rw [hvy] at d1
      cases c1
      cases d1
      have s03 := s2.trans s3
      have e23 := s3 _ _ e2
      refine i_asgT (SqT.of e3) rfl ?_
      walk_at "run"
      refine i_ixT (SqT.of (s03 _ _ c2)) (atI_nat (j := 0) rfl) ?_
      walk_at "run"
      refine i_ixT (SqT.of (s03 _ _ d2)) (atI_nat (j := 0) rfl) ?_
      walk_at "run"
      refine i_neL (SqL.of (s03 _ _ c3)) (SqL.of (s03 _ _ d3)) ?_
      walk_at "run"
      have app : ∀ {H4 : Hp} (m : Nat), Same H H4 → H4 ps = some (.lst (ns.map V.int)) → Cand rs many dv (x, y) i m → (∀ m', Cand rs many dv (x, y) i m' → m' = m) → Same H (upd H4 ps (.lst (ns.map V.int ++ [.int (m : Nat)]))) ∧
          ∃ ns' : List Int, upd H4 ps (.lst (ns.map V.int ++ [.int (m : Nat)])) ps = some (.lst (ns'.map V.int)) ∧ ns'.length ≤ i + 1 ∧ ∀ z : Int, z ∈ ns' ↔ ∃ j, j < i + 1 ∧ ∃ m : Nat, z = (m : Nat) ∧ Cand rs many dv (x, y) j m := by
        intro H4 m s4 e4 hcd hun
        refine ⟨fun b o e => ?_, ns ++ [(m : Int)], by rw [upd_same]; simp, by simp; omega, fun z => ?_⟩
        · rw [upd_ne (fun z => by rw [z, f1] at e; cases e)]
          exact s4 _ _ e
        · rw [List.mem_append, hns, List.mem_singleton]
          constructor
          · rintro (⟨j, hj, m', h1, h2⟩ | rfl)
            · exact ⟨j, by omega, m', h1, h2⟩
            · exact ⟨i, by omega, m, rfl, hcd⟩
          · rintro ⟨j, hj, m', h1, h2⟩
            by_cases hji : j = i
            · subst hji
              exact .inr (by rw [h1, hun m' h2])
            · exact .inl ⟨j, by omega, m', h1, h2⟩
      by_cases hsd : SaidUn rs (x, y) i
      · refine i_itNT hsd ?_
        walk_at "run"
        refine i_tyL (SqL.of e23) ?_
        walk_at "run"
        refine i_append e23 (by simp; omega) ?_
        obtain ⟨a1, a2⟩ := app (H4 := H3) 1 s03 e23 ⟨hi, .inl ⟨hsd, rfl⟩⟩ fun m' h => by
          rcases h.2 with ⟨_, h⟩ | ⟨h, _⟩
          · exact h
          · exact absurd hsd h
        exact ⟨a1, a2, _, _, rfl⟩
      · have hse : (rowA rs x i).1 = (rowA rs y i).1 := Classical.not_not.mp hsd
        refine i_itNF hse ?_
        walk_at "run"
        refine i_ixT (SqT.of (s03 _ _ c2)) (atI_nat (j := 1) rfl) ?_
        walk_at "run"
        refine i_ixT (SqT.of (s03 _ _ d2)) (atI_nat (j := 1) rfl) ?_
        walk_at "run"
        intro p4 H4 f4 s4 e4
        walk_at "run"
        have s04 := s03.trans s4
        obtain ⟨kvs, g1, g2, g3, g4⟩ := hD.same s04
        refine ⟨a, kvs, pairT (nextP rs (x, y) i), rfl, g1, PairAt.key ⟨p4, rfl, e4⟩, ?_⟩
        rw [g3]
        cases hdv : dv (nextP rs (x, y) i) with
        | none =>
          refine ⟨false, rfl, i_itF ?_⟩
          refine ⟨s04, ⟨ns, s4 _ _ e23, by omega, fun z => (hns z).trans ⟨fun ⟨j, hj, h⟩ => ⟨j, by omega, h⟩, fun ⟨j, hj, m, h1, h2⟩ => ⟨j, ?_, m, h1, h2⟩⟩⟩, _, _, rfl⟩
          have : j ≠ i := fun z => by
            subst z
            rcases h2.2 with ⟨h3, _⟩ | ⟨_, n, h3, _⟩
            · exact hsd h3
            · rw [hdv] at h3; cases h3
          omega
        | some n =>
          refine ⟨true, rfl, i_itT ?_⟩
          walk_at "run"
          refine i_tyL (SqL.of (s4 _ _ e23)) ?_
          walk_at "run"
          refine i_ixT (SqT.of (s04 _ _ c2)) (atI_nat (j := 1) rfl) ?_
          walk_at "run"
          refine i_ixT (SqT.of (s04 _ _ d2)) (atI_nat (j := 1) rfl) ?_
          walk_at "run"
          intro p5 H5 f5 s5 e5
          walk_at "run"
          refine ⟨a, kvs, pairT (nextP rs (x, y) i), .int (n : Nat), rfl, dt_same g1 s5, PairAt.key ⟨p5, rfl, e5⟩, by rw [g3, hdv]; rfl, ?_⟩
          walk_at "run"
          refine i_append (s5 _ _ (s4 _ _ e23)) (by simp; omega) ?_
          obtain ⟨a1, a2⟩ := app (H4 := H5) (1 + n) (s04.trans s5) (s5 _ _ (s4 _ _ e23)) ⟨hi, .inr ⟨hsd, n, hdv, rfl⟩⟩ fun m' h => by
            rcases h.2 with ⟨h, _⟩ | ⟨_, n', h1, h2⟩
            · exact absurd h hsd
            · rw [hdv] at h1; cases h1; exact h2
          rw [show ((1 + n : Nat) : Int) = 1 + (n : Int) by omega] at a1 a2
          exact ⟨a1, a2, _, _, rfl⟩
    · rintro σ H2 ⟨s2, ⟨ns, e2, hnl, hns⟩, z5, z6, rfl⟩
      walk_at "run"
      unfold tMinD
      walk_at "run"
      rw [x4] at hns
      refine i_minD (SqL.of e2) (fun h0 => ?_) fun M hM hle => ?_
      · refine q0 H2 s2 fun j m hcd => ?_
        have := (hns (m : Nat)).mpr ⟨j, hcd.1, m, rfl, hcd⟩
        rw [h0] at this
        simp at this
      · obtain ⟨j, hj, m, rfl, hcd⟩ := (hns M).mp hM
        refine q1 H2 j m s2 hcd fun j' m' hc' => ?_
        have := hle _ ((hns (m' : Nat)).mpr ⟨j', hc'.1, m', rfl, hc'⟩)
        omega
def pr (N i j : Nat) (p : Pr) : Prop := p.2 < N ∧ (p.1 < i ∨ (p.1 = i ∧ p.2 < j))
theorem pr_succ {N i j : Nat} {p : Pr} (hj : j < N) : pr N i (j + 1) p ↔ pr N i j p ∨ p = (i, j) := by
  obtain ⟨a, b⟩ := p
  simp only [pr, Prod.mk.injEq]
  omega
theorem pr_row {N i : Nat} {p : Pr} : pr N i N p ↔ pr N (i + 1) 0 p := by
  obtain ⟨a, b⟩ := p
  simp only [pr]
  omega
theorem pr_end {N : Nat} {p : Pr} : pr N N 0 p ↔ p.1 < N ∧ p.2 < N := by
  obtain ⟨a, b⟩ := p
  simp only [pr]
  omega
theorem pr_no {N i j : Nat} : ¬ pr N i j (i, j) := by
  simp only [pr]
  omega
section
variable {P : Params} {H : Hp} {a : Addr} {N sz : Nat} {dv : Pr → Option Nat}
theorem val_mem {kvs : List (Tr × V)} {t : Tr} (h : valV kvs t = none) : ∀ x ∈ kvs, x.1 ≠ t := by
  intro x hx e
  unfold valV at h
  rw [Option.map_eq_none_iff, List.find?_eq_none] at h
  have := h x hx
  simp [e] at this
theorem putK_len {kvs : List (Tr × V)} {t : Tr} {v : V} (h : valV kvs t = none) : putK kvs t v = kvs ++ [(t, v)] := by
  unfold putK
  rw [if_neg]
  intro z
  obtain ⟨x, hx, e⟩ := List.any_eq_true.mp z
  exact val_mem h x hx (of_decide_eq_true e)
theorem LenAt.put {H' : Hp} {p : Pr} {n : Nat} {kvs : List (Tr × V)} (h2 : ∀ x ∈ kvs, ∃ p : Pr, p.1 < N ∧ p.2 < N ∧ x.1 = pairT p) (h3 : ∀ p : Pr, valV kvs (pairT p) = (dv p).map fun n => V.int (n : Nat)) (h4 : kvs.length = sz) (hp : p.1 < N ∧ p.2 < N) (hn : dv p = none)
    (g : DtAt P H' a (putK kvs (pairT p) (.int (n : Nat)))) : LenAt P H' a N (fun q => if q = p then some n else dv q) (sz + 1) := by
  have hv : valV kvs (pairT p) = none := by rw [h3, hn]; rfl
  refine ⟨_, g, ?_, fun q => ?_, ?_⟩
  · rw [putK_len hv]
    intro x hx
    rcases List.mem_append.mp hx with hx | hx
    · exact h2 x hx
    · rw [List.mem_singleton.mp hx]
      exact ⟨p, hp.1, hp.2, rfl⟩
  · rw [valV_put]
    dsimp only
    by_cases e : q = p
    · rw [if_pos (by rw [e]), if_pos e]
      rfl
    · rw [if_neg (fun z => e (pairT_inj.mp z)), if_neg e]
      exact h3 q
  · rw [putK_len hv]
    simp [h4]
def code (N : Nat) : Tr → Nat
  | .tup [.int i, .int j] => i.toNat * N + j.toNat
  | _ => 0
theorem dt_nd {kvs : List (Tr × V)} (g : DtAt P H a kvs) : (kvs.map (·.1)).Nodup := by
  obtain ⟨m, rfl, _, _, e⟩ := g
  rw [List.map_map]
  exact e
theorem LenAt.le (h : LenAt P H a N dv sz) : sz ≤ N * N := by
  obtain ⟨kvs, g, h2, _, rfl⟩ := h
  have nd := dt_nd g
  have : (kvs.map fun x => code N x.1).Nodup := by
    rw [List.nodup_iff_pairwise_ne, List.pairwise_map] at nd ⊢
    refine List.Pairwise.imp_of_mem (fun {x y} hx hy h e => h ?_) nd
    obtain ⟨p, p1, p2, ep⟩ := h2 x hx
    obtain ⟨q, q1, q2, eq⟩ := h2 y hy
    rw [ep, eq] at e ⊢
    simp only [pairT, code, Int.toNat_natCast] at e
    have e1 : p.1 = q.1 := by
      have a1 : (p.1 * N + p.2) / N = p.1 := by rw [Nat.mul_comm, Nat.mul_add_div (by omega), Nat.div_eq_of_lt p2, Nat.add_zero]
      have a2 : (q.1 * N + q.2) / N = q.1 := by rw [Nat.mul_comm, Nat.mul_add_div (by omega), Nat.div_eq_of_lt q2, Nat.add_zero]
      rw [← a1, ← a2, e]
    rw [pairT_inj]
    rw [e1] at e
    exact Prod.ext e1 (by omega)
  have := pigeon (N * N) _ this fun k hk => by
    obtain ⟨x, hx, rfl⟩ := List.mem_map.mp hk
    obtain ⟨p, p1, p2, ep⟩ := h2 x hx
    rw [ep]
    simp only [pairT, code, Int.toNat_natCast]
    have : (p.1 + 1) * N ≤ N * N := Nat.mul_le_mul_right N p1
    rw [Nat.add_mul] at this
    omega
  simpa using this
theorem LenAt.nds (hN : N ≤ 14) {kvs : List (Tr × V)} (g : DtAt P H a kvs) (h2 : ∀ x ∈ kvs, ∃ p : Pr, p.1 < N ∧ p.2 < N ∧ x.1 = pairT p) : (kvs.map fun x => x.1.hash P).Nodup := pair_nd hN (fun x hx => by
  obtain ⟨p, p1, p2, e⟩ := h2 x hx
  exact ⟨p.1, p.2, p1, p2, e⟩) (dt_nd g)
theorem LenAt.keep {H' : Hp} {f : Addr} {o : HO} (h : LenAt P H a N dv sz) (ne : a ≠ f) (tu : Tups H (upd H f o)) : LenAt P (upd H f o) a N dv sz := by
  obtain ⟨kvs, g, h2⟩ := h
  exact ⟨kvs, g.mono tu (upd_ne ne), h2⟩
end
def sp_lens (P : Params) : Sp := fun vs H Q _ => ∃ (c : Addr) (many : Nat) (rvs : List V) (rs : List RRoom), vs = [.ref c] ∧ H c = some (.lst rvs) ∧ Each (RoomAt H) rvs rs ∧ TblOk many rs ∧ rs.length ≤ 14 ∧
  ∀ a dv sz H', H a = none → Same H H' → LenAt P H' a rs.length dv sz → (∀ p : Pr, p.1 < rs.length → p.2 < rs.length → ∀ n, dv p = some n ↔ MinL rs many p n) → (∀ p : Pr, p.1 < rs.length → p.2 < rs.length → ∀ n, dv p = some n → n ≤ 196) → Q (.ref a) H'
theorem ok_law_lengths (T : Txt K mg t) : FnOk P w K mg base CX0 2 t.a__law_lengths t.fd__law_lengths ["rooms"] (sp_lens w.params) := by
  have G__law_shortest := ok_law_shortest (P := P) (w := w) (base := base) T
  refine T.F__law_lengths.ok sc_law_lengths (fun vs H Q E h => ?_) (fun cdv A outer s H vs Q E hr h => ?_)
  · obtain ⟨c, many, rvs, rs, rfl, _⟩ := h
    rfl
  · obtain ⟨c, many, rvs, rs, rfl, hc, hrs, ok, h14, q⟩ := h
    refine ⟨_, (@pss_cons _ _ _ _ _ (@ps_set _ _ 1 _ _ _ _ sc_law_lengths.nd rfl (by first | exact Or.inl rfl | exact Or.inr rfl) (@pe_callB _ _ _ _ _ _ _ _ _ (kcl_len K) (by rfl) T.z_len bb_len (@pa_cons _ _ _ _ _ (pv 0) (@pa_nil _) (by rfl)) (by decide) (by decide) (by rfl) (by rfl)) (by rfl) (by first | exact Or.inl rfl | exact Or.inr rfl))
      (@pss_cons _ _ _ _ _ (@ps_set _ _ 2 _ _ _ _ sc_law_lengths.nd rfl (by first | exact Or.inl rfl | exact Or.inr rfl) (pe_tnew w.params) (by rfl) (by first | exact Or.inl rfl | exact Or.inr rfl))
      (@pss_cons _ _ _ _ _ (@ps_for _ _ _ _ _ _ _ _ PassesOwn.never rfl (pi_range1 rfl T.z_range (@pa_cons _ _ _ _ _ (pv 1) (@pa_nil _) (by rfl))) (pg_name (i := 3) sc_law_lengths.nd rfl (by first | exact Or.inl rfl | exact Or.inr rfl)) (@pss_one _ _ _ (@ps_for _ _ _ _ _ _ _ _ PassesOwn.never rfl (pi_range1 rfl T.z_range (@pa_cons _ _ _ _ _ (pv 1) (@pa_nil _) (by rfl))) (pg_name (i := 4) sc_law_lengths.nd rfl (by first | exact Or.inl rfl | exact Or.inr rfl)) (@pss_one _ _ _ (@ps_if _ _ _ _ _ _ _ _ (@pt_cmpR _ _ _ _ _ _ _ _ op_ne (@pe_ix _ _ _ _ _ _ _ (kix_tup K) (@pe_ix _ _ _ _ _ _ _ (kix_list K) (pv 0) (pv 3) (fun _ _ => rfl)) (@pe_int _ _ _ _) (fun _ _ => rfl)) (@pe_ix _ _ _ _ _ _ _ (kix_tup K) (@pe_ix _ _ _ _ _ _ _ (kix_list K) (pv 0) (pv 4) (fun _ _ => rfl)) (@pe_int _ _ _ _) (fun _ _ => rfl)) (nomark _)) (@pss_one _ _ _ (ps_tput (P := w.params) rfl (by exact hr.units) (pv 2) (@pe_tupN _ _ _ _ _ (@pa_cons _ _ _ _ _ (pv 3) (@pa_cons _ _ _ _ _ (pv 4) (@pa_nil _) (by rfl)) (by rfl))) (@pe_int _ _ _ _) rfl)) (@pss_nil _))) (by intro _; rfl))) (by intro _; rfl))
      (@pss_cons _ _ _ _ _ (@ps_set _ _ 5 _ _ _ _ sc_law_lengths.nd rfl (by first | exact Or.inl rfl | exact Or.inr rfl) (@pe_int _ _ _ _) (by rfl) (by first | exact Or.inl rfl | exact Or.inr rfl))
      (@pss_cons _ _ _ _ _ (@ps_while _ _ _ _ _ _ PassesOwn.never (@pt_cmpR _ _ _ _ _ _ _ _ op_gt (pv 5) (@pe_int _ _ _ _) (nomark _)) (@pss_cons _ _ _ _ _ (@ps_set _ _ 5 _ _ _ _ sc_law_lengths.nd rfl (by first | exact Or.inl rfl | exact Or.inr rfl) (@pe_int _ _ _ _) (by rfl) (by first | exact Or.inl rfl | exact Or.inr rfl))
        (@pss_cons _ _ _ _ _ (@ps_set _ _ 6 _ _ _ _ sc_law_lengths.nd rfl (by first | exact Or.inl rfl | exact Or.inr rfl) (@pe_callTy _ _ _ _ _ _ _ _ _ (cl_dictT (P := w.params) rfl) (by rfl) T.z_dict bb_dict (@pa_cons _ _ _ _ _ (pv 2) (@pa_nil _) (by rfl)) (by decide) (by decide) (by rfl) (by rfl)) (by rfl) (by first | exact Or.inl rfl | exact Or.inr rfl))
        (@pss_cons _ _ _ _ _ (@ps_for _ _ _ _ _ _ _ _ PassesOwn.never rfl (pi_range1 rfl T.z_range (@pa_cons _ _ _ _ _ (pv 1) (@pa_nil _) (by rfl))) (pg_name (i := 3) sc_law_lengths.nd rfl (by first | exact Or.inl rfl | exact Or.inr rfl)) (@pss_one _ _ _ (@ps_for _ _ _ _ _ _ _ _ PassesOwn.never rfl (pi_range1 rfl T.z_range (@pa_cons _ _ _ _ _ (pv 1) (@pa_nil _) (by rfl))) (pg_name (i := 4) sc_law_lengths.nd rfl (by first | exact Or.inl rfl | exact Or.inr rfl)) (@pss_one _ _ _ (@ps_if _ _ _ _ _ _ _ _ (pt_cmp (pc_tnotin (P := w.params) rfl (by exact hr.units) (@pe_tupN _ _ _ _ _ (@pa_cons _ _ _ _ _ (pv 3) (@pa_cons _ _ _ _ _ (pv 4) (@pa_nil _) (by rfl)) (by rfl))) (pv 2))) (@pss_cons _ _ _ _ _ (@ps_set _ _ 7 _ _ _ _ sc_law_lengths.nd rfl (by first | exact Or.inl rfl | exact Or.inr rfl) (@pe_call _ _ _ _ _ _ _ _ _ _ _ _ _ _ _ _ G__law_shortest (hr.mono (by omega)) rfl T.m__law_shortest T.F__law_shortest.kp T.b__law_shortest .nil pass0 (@pa_cons _ _ _ _ _ (pv 0) (@pa_cons _ _ _ _ _ (pv 3) (@pa_cons _ _ _ _ _ (pv 4) (@pa_cons _ _ _ _ _ (pv 2) (@pa_nil _) (by rfl)) (by rfl)) (by rfl)) (by rfl)) (by decide) (by rfl) (by rfl)) (by rfl) (by first | exact Or.inl rfl | exact Or.inr rfl))
              (@pss_one _ _ _ (@ps_if _ _ _ _ _ _ _ _ (@pt_cmpR _ _ _ _ _ _ _ _ kop_notN (pv 7) (@pe_non _ _ _) (nomark _)) (@pss_cons _ _ _ _ _ (ps_tput (P := w.params) rfl (by exact hr.units) (pv 6) (@pe_tupN _ _ _ _ _ (@pa_cons _ _ _ _ _ (pv 3) (@pa_cons _ _ _ _ _ (pv 4) (@pa_nil _) (by rfl)) (by rfl))) (pv 7) rfl)
                (@pss_one _ _ _ (@ps_set _ _ 5 _ _ _ _ sc_law_lengths.nd rfl (by first | exact Or.inl rfl | exact Or.inr rfl) (@pe_op _ _ _ _ _ _ _ _ op_plus (pv 5) (@pe_int _ _ _ _)) (by rfl) (by first | exact Or.inl rfl | exact Or.inr rfl)))) (@pss_nil _)))) (@pss_nil _))) (by intro _; rfl))) (by intro _; rfl))
        (@pss_one _ _ _ (@ps_set _ _ 2 _ _ _ _ sc_law_lengths.nd rfl (by first | exact Or.inl rfl | exact Or.inr rfl) (pv 6) (by rfl) (by first | exact Or.inl rfl | exact Or.inr rfl)))))))
      (@pss_one _ _ _ (@ps_ret _ _ _ _ (pv 2)))))))), ?_⟩
    have sl : (1000000 : Nat) ≤ sizeLine := le_line (Nat.le_refl _)
    have hl : rvs.length = rs.length := hrs.1
    walk_at "go"
    refine i_lenL (SqL.of hc) ?_
    rw [hl]
    walk_at "run"
    intro pa o1 f1 d1
    have s1 : Same H (upd H pa o1) := Same.new f1
    have L1 : LenAt w.params (upd H pa o1) pa rs.length (fun _ => none) 0 := ⟨[], d1, by simp, fun p => rfl, rfl⟩
    generalize upd H pa o1 = H1 at s1 L1 d1
    clear d1
    have hN2 : rs.length * rs.length ≤ 196 := Nat.mul_le_mul h14 h14
    generalize hNN : rs.length = N at *
    walk_at "run"
    rw [Int.toNat_natCast]
    have room : ∀ {H' : Hp} {x : Nat}, Same H H' → x < N → ∃ q g, rvs[x]? = some (.ref q) ∧ H' q = some (.tup [.bl (roomA rs x).1, .ref g]) := fun s' hx => by
      obtain ⟨q, g, ps, h1, h2, _⟩ := row_of (j := 0) hrs ok (by rw [hNN]; exact hx)
      exact ⟨q, g, h1, s' _ _ h2⟩
    obtain ⟨Pv, hPv⟩ : ∃ Pv : Nat → Nat → St → Hp → Prop, Pv = (fun i j σ H' => Same H H' ∧ (∃ dv sz, LenAt w.params H' pa N dv sz ∧ ∀ p n, dv p = some n ↔ n = 0 ∧ pr N i j p ∧ (roomA rs p.1).1 ≠ (roomA rs p.2).1) ∧ ∃ y3 y4, σ = [some (.ref c), some (.int (N : Nat)), some (.ref pa), y3, y4, none, none, none]) := ⟨_, rfl⟩
    refine for_range (lo := 0) (n := N) (fun i => Pv i 0) (by rw [hPv]; exact ⟨s1, ⟨_, _, L1, fun p n => ⟨(fun z => nomatch z), fun ⟨_, z, _⟩ => by simp only [pr] at z; omega⟩⟩, _, _, rfl⟩) ?_ ?_
    · intro i σ H2 hi hI
      rw [hPv] at hI
      obtain ⟨s2, ⟨dv, sz, La2, hdv⟩, y3, y4, rfl⟩ := hI
      rw [Int.zero_add]
      walk_at "run"
      rw [Int.toNat_natCast]
      obtain ⟨Pw, hPw⟩ : ∃ Pw : Nat → St → Hp → Prop, Pw = (fun j σ H' => Same H H' ∧ (∃ dv sz, LenAt w.params H' pa N dv sz ∧ ∀ p n, dv p = some n ↔ n = 0 ∧ pr N i j p ∧ (roomA rs p.1).1 ≠ (roomA rs p.2).1) ∧ ∃ y4, σ = [some (.ref c), some (.int (N : Nat)), some (.ref pa), some (.int (i : Nat)), y4, none, none, none]) := ⟨_, rfl⟩
      refine for_range (lo := 0) (n := N) Pw (by rw [hPw]; exact ⟨s2, ⟨dv, sz, La2, hdv⟩, _, rfl⟩) ?_ ?_
      · intro j σ H3 hj hI
        rw [hPw] at hI
        obtain ⟨s3, ⟨dv, sz, L3, hdv⟩, y4, rfl⟩ := hI
        rw [Int.zero_add]
        obtain ⟨q1, g1, a1, a2⟩ := room s3 hi
        obtain ⟨q2, g2, b1, b2⟩ := room s3 hj
        walk_at "run"
        refine i_ixL (SqL.of (s3 _ _ hc)) (atI_nat (j := i) a1) ?_
        walk_at "run"
        refine i_ixT (SqT.of a2) (atI_nat (j := 0) rfl) ?_
        walk_at "run"
        refine i_ixL (SqL.of (s3 _ _ hc)) (atI_nat (j := j) b1) ?_
        walk_at "run"
        refine i_ixT (SqT.of b2) (atI_nat (j := 0) rfl) ?_
        walk_at "run"
        by_cases hf : (roomA rs i).1 = (roomA rs j).1
        · refine i_itNF hf ?_
          rw [hPw]
          refine ⟨s3, ⟨dv, sz, L3, fun p n => (hdv p n).trans ?_⟩, _, rfl⟩
          constructor
          · rintro ⟨h1, h2, h3⟩
            exact ⟨h1, (pr_succ hj).mpr (.inl h2), h3⟩
          · rintro ⟨h1, h2, h3⟩
            rcases (pr_succ hj).mp h2 with h2 | rfl
            · exact ⟨h1, h2, h3⟩
            · exact absurd hf h3
        · refine i_itNT hf ?_
          walk_at "run"
          intro p4 H4 f4 s4 e4
          obtain ⟨kvs, k1, k2, k3, k4⟩ := L3.same s4
          have hsz := (L3.same s4).le
          have hno : dv (i, j) = none := by
            cases e : dv (i, j) with
            | none => rfl
            | some n => exact absurd ((hdv _ _).mp e).2.1 pr_no
          refine ⟨pa, kvs, pairT (i, j), rfl, k1, PairAt.key ⟨p4, rfl, e4⟩, by omega, fun o5 d5 => ?_⟩
          obtain ⟨φ, ex⟩ := k1.ext
          rw [hPw]
          refine ⟨fun b o e => ?_, ⟨_, _, LenAt.put k2 k3 k4 ⟨hi, hj⟩ hno (n := 0) d5, fun p n => ?_⟩, _, rfl⟩
          · rw [upd_ne (fun z => by rw [z, f1] at e; cases e)]
            exact s4 _ _ (s3 _ _ e)
          · rw [pr_succ hj]
            by_cases e : p = (i, j)
            · subst e
              rw [if_pos rfl]
              constructor
              · intro z
                cases z
                exact ⟨rfl, .inr rfl, hf⟩
              · rintro ⟨rfl, _⟩
                rfl
            · rw [if_neg e, hdv]
              simp only [e, or_false]
      · intro σ H3 hI
        rw [hPw] at hI
        obtain ⟨s3, ⟨dv, sz, L3, hdv⟩, y4, rfl⟩ := hI
        rw [hPv]
        exact ⟨s3, ⟨dv, sz, L3, fun p n => by rw [hdv, pr_row]⟩, _, _, rfl⟩
    · intro σ H2 hI
      rw [hPv] at hI
      obtain ⟨s2, ⟨dv0, sz0, La2, hdv0⟩, y3, y4, rfl⟩ := hI
      have R0 : Rnd rs many N 0 dv0 := fun p h1 h2 n => by
        rw [hdv0, pr_end]
        constructor
        · rintro ⟨rfl, _, h⟩
          exact ⟨MinL.zero.mpr h, Nat.le_refl _⟩
        · rintro ⟨h, hn⟩
          obtain rfl : n = 0 := by omega
          exact ⟨rfl, ⟨h1, h2⟩, MinL.zero.mp h⟩
      clear hPv hdv0
      walk_at "run"
      have hnx : ∀ p : Pr, p.1 < N → p.2 < N → ∀ j, j < many → (nextP rs p j).1 < N ∧ (nextP rs p j).2 < N := fun p h1 h2 j hj => by
        obtain ⟨_, _, _, _, _, _, _, g1⟩ := row_of (j := 0) hrs ok (x := p.1) (by rw [hNN]; exact h1)
        obtain ⟨_, _, _, _, _, _, _, g2⟩ := row_of (j := 0) hrs ok (x := p.2) (by rw [hNN]; exact h2)
        obtain ⟨_, _, _, _, _, e1⟩ := g1 j hj
        obtain ⟨_, _, _, _, _, e2⟩ := g2 j hj
        rw [hNN] at e1 e2
        exact ⟨e1, e2⟩
      obtain ⟨W, hW⟩ : ∃ W : Nat → St → Hp → Prop, W = (fun m σ H' => Same H H' ∧ ∃ (a : Addr) (dv : Pr → Option Nat) (sz k mo : Nat) (y3 y4 y6 y7 : Option V), H a = none ∧ LenAt w.params H' a N dv sz ∧ Rnd rs many N k dv ∧ (mo = 0 → ∀ p : Pr, p.1 < N → p.2 < N → ∀ n, dv p = some n ↔ MinL rs many p n) ∧ m = 2 * (N * N - sz) + (if 0 < mo then 1 else 0) ∧ mo ≤ 196 ∧ (0 < mo → k ≤ sz) ∧ (∀ p : Pr, p.1 < N → p.2 < N → ∀ n, dv p = some n → n ≤ sz) ∧
        σ = [some (.ref c), some (.int (N : Nat)), some (.ref a), y3, y4, some (.int (mo : Nat)), y6, y7]) := ⟨_, rfl⟩
      refine i_while W (2 * (N * N - sz0) + 1) (by rw [hW]; exact ⟨s2, pa, dv0, sz0, 0, 1, _, _, _, _, f1, La2, R0, (fun z => absurd z (by decide)), rfl, by decide, (fun _ => Nat.zero_le _), (fun p h1 h2 n h => by have := ((R0 p h1 h2 n).mp h).2; omega), rfl⟩) ?_
      intro m σ H3 hI
      rw [hW] at hI
      obtain ⟨s3, a, dv, sz, k, mo, y3, y4, y6, y7, fa, La3, R, hcl, hm, hmo, hk, hval, rfl⟩ := hI
      walk_at "run"
      refine ite2 (fun hw => ?_) (fun hw => ?_)
      · have hmo0 : 0 < mo := by have := of_decide_eq_true hw; omega
        refine ⟨fun σ' H' => ∃ m', m' < m ∧ W m' σ' H', fun σ' H' z => z, ?_⟩
        walk_at "run"
        obtain ⟨kvs, k1, k2, k3, k4⟩ := La3
        refine i_dictT k1 (fun x hx => by
          obtain ⟨p, _, _, e⟩ := k2 x hx
          exact ⟨_, e⟩) (LenAt.nds h14 k1 k2) fun pf of ff df => ?_
        have s34 : Same H3 (upd H3 pf of) := Same.new ff
        have La4 : LenAt w.params (upd H3 pf of) a N dv sz := LenAt.same ⟨kvs, k1, k2, k3, k4⟩ s34
        have Lf4 : LenAt w.params (upd H3 pf of) pf N dv sz := ⟨kvs, df, k2, k3, k4⟩
        have nea : a ≠ pf := by
          obtain ⟨φ, ex⟩ := k1.ext
          intro z
          rw [z, ff] at ex
          cases ex
        have fH : H pf = none := s3.free ff
        have s04 := s3.trans s34
        generalize upd H3 pf of = H4 at s34 La4 Lf4 df s04
        clear df k1 k2 k3 k4 kvs
        walk_at "run"
        rw [Int.toNat_natCast]
        obtain ⟨Pv, hPv⟩ : ∃ Pv : Nat → Nat → St → Hp → Prop, Pv = (fun i j σ H' => Same H H' ∧ LenAt w.params H' a N dv sz ∧ (∃ dw mo, LenAt w.params H' pf N dw (sz + mo) ∧ (∀ p n, dw p = some n ↔ dv p = some n ∨ (pr N i j p ∧ dv p = none ∧ MinL rs many p n ∧ n ≤ k + 1)) ∧ (mo = 0 → ∀ p, pr N i j p → p.1 < N → ¬ MinL rs many p (k + 1)) ∧
          ∃ y3 y4 y7, σ = [some (.ref c), some (.int (N : Nat)), some (.ref a), y3, y4, some (.int (mo : Nat)), some (.ref pf), y7])) := ⟨_, rfl⟩
        refine for_range (lo := 0) (n := N) (fun i => Pv i 0) (by rw [hPv]; exact ⟨s04, La4, dv, 0, Lf4, fun p n => ⟨.inl, fun z => z.elim (fun z => z) fun ⟨z, _⟩ => by simp only [pr] at z; omega⟩, (fun _ p z => by simp only [pr] at z; omega), _, _, _, rfl⟩) ?_ ?_
        · intro i σ H5 hi hI
          rw [hPv] at hI
          obtain ⟨s5, La5, dw, mo', Lf5, hdw, hmz, y3, y4, y7, rfl⟩ := hI
          rw [Int.zero_add]
          walk_at "run"
          rw [Int.toNat_natCast]
          obtain ⟨Pw, hPw⟩ : ∃ Pw : Nat → St → Hp → Prop, Pw = (fun j σ H' => Same H H' ∧ LenAt w.params H' a N dv sz ∧ (∃ dw mo, LenAt w.params H' pf N dw (sz + mo) ∧ (∀ p n, dw p = some n ↔ dv p = some n ∨ (pr N i j p ∧ dv p = none ∧ MinL rs many p n ∧ n ≤ k + 1)) ∧ (mo = 0 → ∀ p, pr N i j p → p.1 < N → ¬ MinL rs many p (k + 1)) ∧
            ∃ y4 y7, σ = [some (.ref c), some (.int (N : Nat)), some (.ref a), some (.int (i : Nat)), y4, some (.int (mo : Nat)), some (.ref pf), y7])) := ⟨_, rfl⟩
          refine for_range (lo := 0) (n := N) Pw (by rw [hPw]; exact ⟨s5, La5, dw, mo', Lf5, hdw, hmz, _, _, rfl⟩) ?_ ?_
          · intro j σ H6 hj hI
            rw [hPw] at hI
            obtain ⟨s6, La6, dw, mo', Lf6, hdw, hmz, y4, y7, rfl⟩ := hI
            rw [Int.zero_add]
            walk_at "run"
            intro p7 H7 f7 s7 e7
            walk_at "run"
            obtain ⟨kvs, k1, k2, k3, k4⟩ := La6.same s7
            refine ⟨a, kvs, pairT (i, j), rfl, k1, PairAt.key ⟨p7, rfl, e7⟩, ?_⟩
            rw [k3]
            have La7 := La6.same s7
            have Lf7 := Lf6.same s7
            have s07 := s6.trans s7
            cases hdv : dv (i, j) with
            | some n =>
              refine ⟨false, rfl, i_itF ?_⟩
              rw [hPw]
              refine ⟨s07, La7, dw, mo', Lf7, fun p n' => (hdw p n').trans ?_, fun z p hp hp1 => ?_, _, _, rfl⟩
              · rw [pr_succ hj]
                constructor
                · rintro (h | ⟨h1, h2⟩)
                  · exact .inl h
                  · exact .inr ⟨.inl h1, h2⟩
                · rintro (h | ⟨h1 | rfl, h2⟩)
                  · exact .inl h
                  · exact .inr ⟨h1, h2⟩
                  · rw [hdv] at h2; exact absurd h2.1 (by simp)
              · rcases (pr_succ hj).mp hp with h | rfl
                · exact hmz z p h hp1
                · intro hM
                  obtain ⟨g1, g2⟩ := (R (i, j) hi hj n).mp hdv
                  have := g1.one hM
                  omega
            | none =>
              refine ⟨true, rfl, i_itT ?_⟩
              walk_at "run"
              refine ⟨c, a, i, j, many, sz, rvs, rs, dv, rfl, s07 _ _ hc, hrs.mono (fun v x h => h.same s07), ok, by rw [hNN]; exact hi, by rw [hNN]; exact hj, by rw [hNN]; exact La7, fun H8 s8 hno => ?_, fun H8 jj M s8 hcd hmin => ?_⟩
              · walk_at "run"
                refine i_itNF rfl ?_
                rw [hPw]
                have hz := R.noCand hnx (p := (i, j)) hi hj hdv hno
                refine ⟨s07.trans s8, La7.same s8, dw, mo', Lf7.same s8, fun p n' => (hdw p n').trans ?_, fun z p hp hp1 => ?_, _, _, rfl⟩
                · rw [pr_succ hj]
                  constructor
                  · rintro (h | ⟨h1, h2⟩)
                    · exact .inl h
                    · exact .inr ⟨.inl h1, h2⟩
                  · rintro (h | ⟨h1 | rfl, h2⟩)
                    · exact .inl h
                    · exact .inr ⟨h1, h2⟩
                    · exact absurd ⟨h2.2.1, h2.2.2⟩ (hz n')
                · rcases (pr_succ hj).mp hp with h | rfl
                  · exact hmz z p h hp1
                  · exact fun hM => hz (k + 1) ⟨hM, Nat.le_refl _⟩
              · walk_at "run"
                refine i_itNT (fun z => nomatch z) ?_
                walk_at "run"
                intro p9 H9 f9 s9 e9
                obtain ⟨hM1, hM2⟩ := R.cand hnx hi hj hdv hcd hmin
                obtain ⟨kvf, l1, l2, l3, l4⟩ := (Lf7.same s8).same s9
                have hno : dw (i, j) = none := by
                  cases e : dw (i, j) with
                  | none => rfl
                  | some n =>
                    rcases (hdw _ _).mp e with h | ⟨h, _⟩
                    · rw [hdv] at h; cases h
                    · exact absurd h pr_no
                have hsz := ((Lf7.same s8).same s9).le
                refine ⟨pf, kvf, pairT (i, j), rfl, l1, PairAt.key ⟨p9, rfl, e9⟩, by omega, fun o10 d10 => ?_⟩
                obtain ⟨φ, ex⟩ := l1.ext
                have s09 := s07.trans (s8.trans s9)
                walk_at "run"
                rw [hPw]
                refine ⟨fun b o e => ?_, LenAt.keep (H' := H9) ((La7.same s8).same s9) nea (tups_updE ex), _, mo' + 1, LenAt.put l2 l3 l4 ⟨hi, hj⟩ hno (n := M) d10, fun p n' => ?_, (fun z => absurd z (by omega)), _, _, rfl⟩
                · rw [upd_ne (fun z => by rw [z, fH] at e; cases e)]
                  exact s09 _ _ e
                · rw [pr_succ hj]
                  by_cases e : p = (i, j)
                  · subst e
                    rw [if_pos rfl]
                    constructor
                    · intro z
                      cases z
                      exact .inr ⟨.inr rfl, hdv, hM1, hM2⟩
                    · rintro (h | ⟨_, _, h3, _⟩)
                      · rw [hdv] at h; cases h
                      · rw [hM1.one h3]
                  · rw [if_neg e, hdw]
                    simp only [e, or_false]
          · intro σ H6 hI
            rw [hPw] at hI
            obtain ⟨s6, La6, dw, mo', Lf6, hdw, hmz, y4, y7, rfl⟩ := hI
            rw [hPv]
            exact ⟨s6, La6, dw, mo', Lf6, fun p n => by rw [hdw, pr_row], fun z p hp => hmz z p (pr_row.mpr hp), _, _, _, rfl⟩
        · intro σ H5 hI
          rw [hPv] at hI
          obtain ⟨s5, La5, dw, mo', Lf5, hdw, hmz, y3, y4, y7, rfl⟩ := hI
          have hle := Lf5.le
          walk_at "run"
          refine ⟨2 * (N * N - (sz + mo')) + (if 0 < mo' then 1 else 0), ?_, ?_⟩
          · rw [hm, if_pos hmo0]
            by_cases z : mo' = 0
            · subst z
              simp
            · rw [if_pos (by omega)]
              omega
          · rw [hW]
            refine ⟨s5, pf, dw, sz + mo', k + 1, mo', _, _, _, _, fH, Lf5, fun p h1 h2 n => ?_, fun z p h1 h2 n => ?_, rfl, by omega, fun z => by have := hk hmo0; omega, fun p h1 h2 n h => ?_, rfl⟩
            · rw [hdw, pr_end]
              constructor
              · rintro (h | ⟨_, _, h3, h4⟩)
                · obtain ⟨g1, g2⟩ := (R p h1 h2 n).mp h
                  exact ⟨g1, by omega⟩
                · exact ⟨h3, h4⟩
              · rintro ⟨g1, g2⟩
                cases e : dv p with
                | some n' =>
                  obtain ⟨g3, g4⟩ := (R p h1 h2 n').mp e
                  exact .inl (by rw [g1.one g3])
                | none => exact .inr ⟨⟨h1, h2⟩, rfl, g1, g2⟩
            · have hd := R.done hnx (fun p h1 h2 => hmz z p (pr_end.mpr ⟨h1, h2⟩) h1) h1 h2 n
              rw [hdw, ← hd]
              constructor
              · rintro (h | ⟨_, h2', h3, h4⟩)
                · exact h
                · exact h3
              · exact .inl
            · have hk0 := hk hmo0
              rcases (hdw p n).mp h with h | ⟨g1, g2, g3, g4⟩
              · have := hval p h1 h2 n h
                omega
              · by_cases z : mo' = 0
                · have hn : n = k + 1 := by
                    by_cases hnk : n ≤ k
                    · rw [(R p h1 h2 n).mpr ⟨g3, hnk⟩] at g2
                      cases g2
                    · omega
                  exact absurd (hn ▸ g3) (hmz z p g1 h1)
                · omega
      · have hmo0 : mo = 0 := by
          have : ¬ (0 < (mo : Int)) := fun z => hw (decide_eq_true z)
          omega
        walk_at "run"
        exact q a dv sz H3 fa s3 La3 (hcl hmo0) fun p h1 h2 n h => Nat.le_trans (hval p h1 h2 n h) (Nat.le_trans La3.le hN2)
def sp_due (P : Params) : Sp := fun vs H Q _ => ∃ (tt e b c a : Addr) (x y sz : Nat) (us rvs : List V) (rs : List RRoom) (dv : Pr → Option Nat), vs = [.ref tt, .int (x : Nat), .int (y : Nat), .ref a] ∧ H tt = some (.tup [.ref e, .ref b, .ref c]) ∧ H e = some (.lst us) ∧ H c = some (.lst rvs) ∧ Each (RoomAt H) rvs rs ∧ TblOk us.length rs ∧ x < rs.length ∧ y < rs.length ∧
  LenAt P H a rs.length dv sz ∧ (∀ p : Pr, p.1 < rs.length → p.2 < rs.length → ∀ n, dv p = some n ↔ MinL rs us.length p n) ∧ (∀ p : Pr, p.1 < rs.length → p.2 < rs.length → ∀ n, dv p = some n → n ≤ 196) ∧
  (∀ H', Same H H' → (∀ w, ¬ First rs us.length (x, y) w) → Q .non H') ∧ (∀ l vs js H', H l = none → Same H H' → First rs us.length (x, y) js → js.length ≤ 196 → H' l = some (.lst vs) → Each (fun v j => us[j]? = some v) vs js → Q (.ref l) H')
theorem ok_law_due (T : Txt K mg t) : FnOk P w K mg base CX0 1 t.a__law_due t.fd__law_due ["table", "one", "other", "lengths"] (sp_due w.params) := by
  refine T.F__law_due.ok sc_law_due (fun vs H Q E h => ?_) (fun cdv A outer s H vs Q E hr h => ?_)
  · obtain ⟨tt, e, b, c, a, x, y, sz, us, rvs, rs, dv, rfl, _⟩ := h
    rfl
  · obtain ⟨tt, e, b, c, a, x, y, sz, us, rvs, rs, dv, rfl, ht, he, hc, hrs, ok, hx, hy, hL, hM, h196, q0, q1⟩ := h
    refine ⟨_, (@pss_cons _ _ _ _ _ (@ps_asg _ _ _ _ _ _ (pv 0) (kpg_tup K (n := 3) rfl (pgs_cons (pg_name (i := 4) sc_law_due.nd rfl (by first | exact Or.inl rfl | exact Or.inr rfl)) (pgs_cons (pg_name (i := 5) sc_law_due.nd rfl (by first | exact Or.inl rfl | exact Or.inr rfl)) (pgs_cons (pg_name (i := 6) sc_law_due.nd rfl (by first | exact Or.inl rfl | exact Or.inr rfl)) (@pgs_nil _))))) (by rfl) (by rfl) (by rfl))
      (@pss_cons _ _ _ _ _ (@ps_if _ _ _ _ _ _ _ _ (pt_cmp (pc_tnotin (P := w.params) rfl (by exact hr.units) (@pe_tupN _ _ _ _ _ (@pa_cons _ _ _ _ _ (pv 1) (@pa_cons _ _ _ _ _ (pv 2) (@pa_nil _) (by rfl)) (by rfl))) (pv 3))) (@pss_one _ _ _ (@ps_ret _ _ _ _ (@pe_non _ _ _))) (@pss_nil _))
      (@pss_cons _ _ _ _ _ (@ps_set _ _ 7 _ _ _ _ sc_law_due.nd rfl (by first | exact Or.inl rfl | exact Or.inr rfl) (@pe_lstN _ _ _ _ (@pa_nil _)) (by rfl) (by first | exact Or.inl rfl | exact Or.inr rfl))
      (@pss_cons _ _ _ _ _ (@ps_set _ _ 8 _ _ _ _ sc_law_due.nd rfl (by first | exact Or.inl rfl | exact Or.inr rfl) (pe_tget (P := w.params) rfl (by exact hr.units) (pv 3) (@pe_tupN _ _ _ _ _ (@pa_cons _ _ _ _ _ (pv 1) (@pa_cons _ _ _ _ _ (pv 2) (@pa_nil _) (by rfl)) (by rfl))) (fun _ _ => rfl)) (by rfl) (by first | exact Or.inl rfl | exact Or.inr rfl))
      (@pss_cons _ _ _ _ _ (@ps_while _ _ _ _ _ _ PassesOwn.never (@pt_cmpR _ _ _ _ _ _ _ _ op_gt (pv 8) (@pe_int _ _ _ _) (nomark _)) (@pss_cons _ _ _ _ _ (@ps_for _ _ _ _ _ _ _ _ PassesOwn.never rfl (pi_range1 rfl T.z_range (@pa_cons _ _ _ _ _ (@pe_callB _ _ _ _ _ _ _ _ _ (kcl_len K) (by rfl) T.z_len bb_len (@pa_cons _ _ _ _ _ (pv 4) (@pa_nil _) (by rfl)) (by decide) (by decide) (by rfl) (by rfl)) (@pa_nil _) (by rfl))) (pg_name (i := 9) sc_law_due.nd rfl (by first | exact Or.inl rfl | exact Or.inr rfl)) (@pss_cons _ _ _ _ _ (@ps_set _ _ 10 _ _ _ _ sc_law_due.nd rfl (by first | exact Or.inl rfl | exact Or.inr rfl) (@pe_ix _ _ _ _ _ _ _ (kix_list K) (@pe_ix _ _ _ _ _ _ _ (kix_tup K) (@pe_ix _ _ _ _ _ _ _ (kix_list K) (pv 6) (pv 1) (fun _ _ => rfl)) (@pe_int _ _ _ _) (fun _ _ => rfl)) (pv 9) (fun _ _ => rfl)) (by rfl) (by first | exact Or.inl rfl | exact Or.inr rfl))
          (@pss_cons _ _ _ _ _ (@ps_set _ _ 11 _ _ _ _ sc_law_due.nd rfl (by first | exact Or.inl rfl | exact Or.inr rfl) (@pe_ix _ _ _ _ _ _ _ (kix_list K) (@pe_ix _ _ _ _ _ _ _ (kix_tup K) (@pe_ix _ _ _ _ _ _ _ (kix_list K) (pv 6) (pv 2) (fun _ _ => rfl)) (@pe_int _ _ _ _) (fun _ _ => rfl)) (pv 9) (fun _ _ => rfl)) (by rfl) (by first | exact Or.inl rfl | exact Or.inr rfl))
          (@pss_cons _ _ _ _ _ (@ps_set _ _ 12 _ _ _ _ sc_law_due.nd rfl (by first | exact Or.inl rfl | exact Or.inr rfl) (@pe_int _ _ _ _) (by rfl) (by first | exact Or.inl rfl | exact Or.inr rfl))
          (@pss_consC _ _ _ _ _ (@ps_if _ _ _ _ _ _ _ _ (@pt_cmpR _ _ _ _ _ _ _ _ (kop_eqS K (by exact hr.units0)) (@pe_ix _ _ _ _ _ _ _ (kix_tup K) (pv 10) (@pe_int _ _ _ _) (fun _ _ => rfl)) (@pe_ix _ _ _ _ _ _ _ (kix_tup K) (pv 11) (@pe_int _ _ _ _) (fun _ _ => rfl)) (nomark _)) (@pss_one _ _ _ (@ps_set _ _ 12 _ _ _ _ sc_law_due.nd rfl (by first | exact Or.inl rfl | exact Or.inr rfl) (pe_tget2 (P := w.params) rfl (by exact hr.units) (pv 3) (@pe_tupN _ _ _ _ _ (@pa_cons _ _ _ _ _ (@pe_ix _ _ _ _ _ _ _ (kix_tup K) (pv 10) (@pe_int _ _ _ _) (fun _ _ => rfl)) (@pa_cons _ _ _ _ _ (@pe_ix _ _ _ _ _ _ _ (kix_tup K) (pv 11) (@pe_int _ _ _ _) (fun _ _ => rfl)) (@pa_nil _) (by rfl)) (by rfl))) (@pe_un _ _ _ _ _ _ un_neg (@pe_int _ _ _ _)) ⟨by rfl, by rfl, by rfl, by rfl⟩) (by rfl) (by first | exact Or.inl rfl | exact Or.inr rfl))) (@pss_nil _))
          (@pss_one _ _ _ (@ps_if _ _ _ _ _ _ _ _ (@pt_cmpR _ _ _ _ _ _ _ _ op_eq (pv 12) (@pe_op _ _ _ _ _ _ _ _ op_sub (pv 8) (@pe_int _ _ _ _)) (nomark _)) (@pss_one _ _ _ (@ps_break _ _)) (@pss_nil _))))))) (by intro _; rfl))
        (@pss_cons _ _ _ _ _ (@ps_expr _ _ _ _ (@kpe_bm _ K _ _ _ _ _ _ _ _ _ _ _ PySem.F.plainAttrs_list PySem.F.slot_list_append PySem.F.type_list_append mt_append (pv 7) (@pa_cons _ _ _ _ _ (@pe_ix _ _ _ _ _ _ _ (kix_list K) (pv 4) (pv 9) (fun _ _ => rfl)) (@pa_nil _) (by rfl)) (by rfl) (by rfl) (by rfl) (by rfl) (by rfl) (by rfl)) (by rfl))
        (@pss_cons _ _ _ _ _ (@ps_set _ _ 1 _ _ _ _ sc_law_due.nd rfl (by first | exact Or.inl rfl | exact Or.inr rfl) (@pe_ix _ _ _ _ _ _ _ (kix_tup K) (pv 10) (@pe_int _ _ _ _) (fun _ _ => rfl)) (by rfl) (by first | exact Or.inl rfl | exact Or.inr rfl))
        (@pss_cons _ _ _ _ _ (@ps_set _ _ 2 _ _ _ _ sc_law_due.nd rfl (by first | exact Or.inl rfl | exact Or.inr rfl) (@pe_ix _ _ _ _ _ _ _ (kix_tup K) (pv 11) (@pe_int _ _ _ _) (fun _ _ => rfl)) (by rfl) (by first | exact Or.inl rfl | exact Or.inr rfl))
        (@pss_one _ _ _ (@ps_set _ _ 8 _ _ _ _ sc_law_due.nd rfl (by first | exact Or.inl rfl | exact Or.inr rfl) (@pe_op _ _ _ _ _ _ _ _ op_sub (pv 8) (@pe_int _ _ _ _)) (by rfl) (by first | exact Or.inl rfl | exact Or.inr rfl))))))))
      (@pss_one _ _ _ (@ps_ret _ _ _ _ (pv 7)))))))), ?_⟩
    have sl : (1000000 : Nat) ≤ sizeLine := le_line (Nat.le_refl _)
    have hm100 := ok.nm
    have hnx : ∀ p : Pr, p.1 < rs.length → p.2 < rs.length → ∀ j, j < us.length → (nextP rs p j).1 < rs.length ∧ (nextP rs p j).2 < rs.length := fun p h1 h2 j hj => by
      obtain ⟨_, _, _, _, _, _, _, g1⟩ := row_of (j := 0) hrs ok h1
      obtain ⟨_, _, _, _, _, _, _, g2⟩ := row_of (j := 0) hrs ok h2
      obtain ⟨_, _, _, _, _, e1⟩ := g1 j hj
      obtain ⟨_, _, _, _, _, e2⟩ := g2 j hj
      exact ⟨e1, e2⟩
    walk_at "go"
    refine i_asgT (SqT.of ht) rfl ?_
    walk_at "run"
    intro p1 H1 f1 s1 e1
    walk_at "run"
    obtain ⟨kvs, k1, k2, k3, k4⟩ := hL.same s1
    refine ⟨a, kvs, pairT (x, y), rfl, k1, PairAt.key ⟨p1, rfl, e1⟩, ?_⟩
    rw [k3]
    cases hdv : dv (x, y) with
    | none =>
      refine ⟨true, rfl, i_itT ?_⟩
      walk_at "run"
      refine q0 H1 s1 fun w hw => ?_
      obtain ⟨n, _, hn⟩ := MinL.of hw.1 hw.2.1
      rw [(hM (x, y) hx hy n).mpr hn] at hdv
      cases hdv
    | some n0 =>
      refine ⟨false, rfl, i_itF ?_⟩
      have hn0 := (hM (x, y) hx hy n0).mp hdv
      have hb0 := h196 (x, y) hx hy n0 hdv
      walk_at "run"
      intro pl H2 f2 s2 e2
      walk_at "run"
      intro p3 H3 f3 s3 e3
      walk_at "run"
      refine ⟨a, kvs, pairT (x, y), .int (n0 : Nat), rfl, dt_same k1 (s2.trans s3), PairAt.key ⟨p3, rfl, e3⟩, by rw [k3, hdv]; rfl, ?_⟩
      walk_at "run"
      have s03 := s1.trans (s2.trans s3)
      have fl : H pl = none := s1.free f2
      have L3 := hL.same s03
      obtain ⟨W, hW⟩ : ∃ W : Nat → St → Hp → Prop, W = (fun m σ H' => Same H H' ∧ ∃ (p q left : Nat) (js : List Nat) (vs : List V) (y9 y10 y11 y12 : Option V), m = left ∧ p < rs.length ∧ q < rs.length ∧ js.length + left = n0 ∧ (0 < left → MinL rs us.length (p, q) left) ∧ (∀ w', ((left = 0 ∧ w' = []) ∨ (0 < left ∧ First rs us.length (p, q) w')) → First rs us.length (x, y) (js ++ w')) ∧ H' pl = some (.lst vs) ∧ Each (fun v j => us[j]? = some v) vs js ∧
        σ = [some (.ref tt), some (.int (p : Nat)), some (.int (q : Nat)), some (.ref a), some (.ref e), some (.ref b), some (.ref c), some (.ref pl), some (.int (left : Nat)), y9, y10, y11, y12]) := ⟨_, rfl⟩
      refine i_while W n0 (by rw [hW]; exact ⟨s03, x, y, n0, [], [], _, _, _, _, rfl, hx, hy, by simp, fun _ => hn0, fun w' h => by
        rcases h with ⟨rfl, rfl⟩ | ⟨_, h⟩
        · exact First.nil hn0
        · exact h, s3 _ _ e2, .nil, rfl⟩) ?_
      intro m σ H4 hI
      rw [hW] at hI
      obtain ⟨s4, p, q, left, js, vs, y9, y10, y11, y12, rfl, hp, hq, hjs, hml, hfi, e4, hev, rfl⟩ := hI
      walk_at "run"
      refine ite2 (fun hw => ?_) (fun hw => ?_)
      · obtain ⟨m1, rfl⟩ : ∃ m1, m = m1 + 1 := ⟨m - 1, by have := of_decide_eq_true hw; omega⟩
        have hMin := hml (by omega)
        refine ⟨fun σ' H' => ∃ m', m' < m1 + 1 ∧ W m' σ' H', fun σ' H' z => z, ?_⟩
        obtain ⟨qx, gx, psx, x1, x2, x3, x4, x5⟩ := row_of (j := 0) hrs ok hp
        obtain ⟨qy, gy, psy, y1, y2, y3, y4, y5⟩ := row_of (j := 0) hrs ok hq
        walk_at "run"
        refine i_lenL (SqL.of (s4 _ _ he)) ?_
        walk_at "run"
        rw [Int.toNat_natCast]
        refine for_range (lo := 0) (n := us.length) (fun i σ H' => Same H H' ∧ H' pl = some (.lst vs) ∧ (∀ i', i' < i → ¬ Step rs us.length (p, q) m1 i') ∧ ∃ y9 y10 y11 y12, σ = [some (.ref tt), some (.int (p : Nat)), some (.int (q : Nat)), some (.ref a), some (.ref e), some (.ref b), some (.ref c), some (.ref pl), some (.int ((m1 + 1 : Nat) : Int)), y9, y10, y11, y12]) ⟨s4, e4, (fun i' z => absurd z (by omega)), _, _, _, _, rfl⟩ ?_ ?_
        · rintro i σ H5 hi ⟨s5, e5, hns, y9, y10, y11, y12, rfl⟩
          rw [Int.zero_add]
          obtain ⟨kx, sx, c1, c2, c3, c4⟩ := x5 i hi
          obtain ⟨ky, sy, d1, d2, d3, d4⟩ := y5 i hi
          walk_at "run"
          refine i_ixL (SqL.of (s5 _ _ hc)) (atI_nat (j := p) x1) ?_
          walk_at "run"
          refine i_ixT (SqT.of (s5 _ _ x2)) (atI_nat (j := 1) rfl) ?_
          walk_at "run"
          refine i_ixL (SqL.of (s5 _ _ x3)) (atI_nat (j := i) c1) ?_
          walk_at "run"
          refine i_ixL (SqL.of (s5 _ _ hc)) (atI_nat (j := q) y1) ?_
          walk_at "run"
          refine i_ixT (SqT.of (s5 _ _ y2)) (atI_nat (j := 1) rfl) ?_
          walk_at "run"
          refine i_ixL (SqL.of (s5 _ _ y3)) (atI_nat (j := i) d1) ?_
          walk_at "run"
          refine i_seqC (fun σ' H' => Same H5 H' ∧ ∃ rest : Int, (rest = (m1 : Nat) ↔ Step rs us.length (p, q) m1 i) ∧ σ' = [some (.ref tt), some (.int (p : Nat)), some (.int (q : Nat)), some (.ref a), some (.ref e), some (.ref b), some (.ref c), some (.ref pl), some (.int ((m1 + 1 : Nat) : Int)), some (.int (i : Nat)), some (.ref kx), some (.ref ky), some (.int rest)]) ?_ ?_
          · walk_at "run"
            refine i_ixT (SqT.of (s5 _ _ c2)) (atI_nat (j := 0) rfl) ?_
            walk_at "run"
            refine i_ixT (SqT.of (s5 _ _ d2)) (atI_nat (j := 0) rfl) ?_
            walk_at "run"
            refine i_eqL (SqL.of (s5 _ _ c3)) (SqL.of (s5 _ _ d3)) ?_
            walk_at "run"
            by_cases hsd : (rowA rs p i).1 = (rowA rs q i).1
            · have hsn : ¬ SaidUn rs (p, q) i := fun z => z hsd
              refine i_itDT hsd ?_
              walk_at "run"
              obtain ⟨kv5, l1, l2, l3, l4⟩ := hL.same s5
              refine ⟨a, kv5, rfl, l1, ?_⟩
              walk_at "run"
              refine i_ixT (SqT.of (s5 _ _ c2)) (atI_nat (j := 1) rfl) ?_
              walk_at "run"
              refine i_ixT (SqT.of (s5 _ _ d2)) (atI_nat (j := 1) rfl) ?_
              walk_at "run"
              intro p6 H6 f6 s6 e6
              walk_at "run"
              refine ⟨kv5, pairT (nextP rs (p, q) i), dt_same l1 s6, PairAt.key ⟨p6, rfl, e6⟩, ?_⟩
              rw [l3]
              obtain ⟨n1, n2⟩ := hnx (p, q) hp hq i hi
              cases hdn : dv (nextP rs (p, q) i) with
              | none =>
                refine ⟨s6, -1, ⟨fun z => by omega, fun z => ?_⟩, rfl⟩
                rcases z.2 with ⟨z, _⟩ | ⟨_, z⟩
                · exact absurd z hsn
                · rw [(hM _ n1 n2 m1).mpr z] at hdn
                  cases hdn
              | some n =>
                refine ⟨s6, (n : Nat), ⟨fun z => ?_, fun z => ?_⟩, rfl⟩
                · obtain rfl : n = m1 := by omega
                  exact ⟨hi, .inr ⟨hsn, (hM _ n1 n2 n).mp hdn⟩⟩
                · rcases z.2 with ⟨z, _⟩ | ⟨_, z⟩
                  · exact absurd z hsn
                  · rw [(hM _ n1 n2 m1).mpr z] at hdn
                    cases hdn
                    rfl
            · refine i_itDF hsd ?_
              refine ⟨Same.refl _, 0, ⟨fun z => ⟨hi, .inl ⟨hsd, by omega⟩⟩, fun z => ?_⟩, rfl⟩
              rcases z.2 with ⟨_, z⟩ | ⟨z, _⟩
              · omega
              · exact absurd hsd z
          · rintro σ' H6 ⟨s6, rest, hrest, rfl⟩
            walk_at "run"
            have s06 := s5.trans s6
            refine ite2 (fun hb => ?_) (fun hb => ?_)
            · have hst : Step rs us.length (p, q) m1 i := hrest.mp (by have := of_decide_eq_true hb; omega)
              obtain ⟨n1, n2⟩ := hnx (p, q) hp hq i hi
              walk_at "run"
              refine i_tyL (SqL.of (s6 _ _ e5)) ?_
              walk_at "run"
              refine i_ixL (SqL.of (s06 _ _ he)) (atI_nat (j := i) (List.getElem?_eq_getElem hi)) ?_
              walk_at "run"
              have hvl : vs.length = js.length := hev.1
              refine i_append (s6 _ _ e5) (by omega) ?_
              have s7 : Same H (upd H6 pl (.lst (vs ++ [us[i]]))) := fun b o e => by
                rw [upd_ne (fun z => by rw [z, fl] at e; cases e)]
                exact s06 _ _ e
              have e7 : upd H6 pl (.lst (vs ++ [us[i]])) pl = some (.lst (vs ++ [us[i]])) := upd_same
              generalize upd H6 pl (.lst (vs ++ [us[i]])) = H7 at s7 e7
              walk_at "run"
              refine i_ixT (SqT.of (s7 _ _ c2)) (atI_nat (j := 1) rfl) ?_
              walk_at "run"
              refine i_ixT (SqT.of (s7 _ _ d2)) (atI_nat (j := 1) rfl) ?_
              walk_at "run"
              rw [show ((m1 + 1 : Nat) : Int) - 1 = ((m1 : Nat) : Int) by omega]
              refine ⟨m1, by omega, ?_⟩
              rw [hW]
              refine ⟨s7, (nextP rs (p, q) i).1, (nextP rs (p, q) i).2, m1, js ++ [i], vs ++ [us[i]], _, _, _, _, rfl, n1, n2, by simp; omega, fun h0 => ?_, fun w' h => ?_, e7, hev.snoc (List.getElem?_eq_getElem hi), rfl⟩
              · rcases hst.2 with ⟨_, z⟩ | ⟨_, z⟩
                · omega
                · exact z
              · rw [List.append_assoc]
                refine hfi _ (.inr ⟨by omega, Step.first hMin hst hns ?_⟩)
                rcases h with ⟨h1, h2⟩ | ⟨h1, h2⟩
                · exact .inl ⟨h1, h2⟩
                · rcases hst.2 with ⟨_, z⟩ | ⟨z, _⟩
                  · omega
                  · exact .inr ⟨z, h2⟩
            · refine ⟨s06, s6 _ _ e5, fun i' hi' => ?_, _, _, _, _, rfl⟩
              by_cases z : i' = i
              · subst z
                exact fun hst => hb (decide_eq_true (by have := hrest.mpr hst; omega))
              · exact hns i' (by omega)
        · rintro σ H5 ⟨s5, e5, hns, y9, y10, y11, y12, rfl⟩
          obtain ⟨j, hj⟩ := Step.ex hMin
          exact absurd hj (hns j hj.1)
      · have h0 : m = 0 := by
          have : ¬ (0 < (m : Int)) := fun z => hw (decide_eq_true z)
          omega
        walk_at "run"
        have hF := hfi [] (.inl ⟨h0, rfl⟩)
        rw [List.append_nil] at hF
        exact q1 pl vs js H4 fl s4 hF (by rw [First.len hn0 hF]; exact hb0) e4 hev
def strW (s : Str) : Tw := .sc (.str s)
def rowW (r : RRow) : Tw := .tup [.lst (r.1.map strW), .sc (.int (r.2 : Nat))]
def roomW (r : RRoom) : Tw := .tup [.sc (.bl r.1), .lst (r.2.map rowW)]
theorem strs_w {H : Hp} : ∀ {ss : List Str} {vs : List V} {fs : List Addr}, Tw.Ats H (ss.map strW) vs fs ↔ vs = strsV ss ∧ fs = []
  | [], vs, fs => by simp [Tw.Ats, strsV]
  | s :: ss, vs, fs => by
    simp only [List.map_cons, Tw.Ats, strW, Tw.At]
    constructor
    · rintro ⟨v, ws, f, g, rfl, rfl, ⟨rfl, _, rfl⟩, h⟩
      obtain ⟨rfl, rfl⟩ := strs_w.mp h
      exact ⟨rfl, rfl⟩
    · rintro ⟨rfl, rfl⟩
      exact ⟨_, _, [], [], rfl, rfl, ⟨rfl, True.intro, rfl⟩, strs_w.mpr ⟨rfl, rfl⟩⟩
theorem row_w {H : Hp} {r : RRow} {v : V} {fs : List Addr} : (rowW r).At H v fs ↔ ∃ k sl, v = .ref k ∧ H k = some (.tup [.ref sl, .int (r.2 : Nat)]) ∧ H sl = some (.lst (strsV r.1)) ∧ fs = [sl] := by
  simp only [rowW, Tw.At, Tw.Ats]
  constructor
  · rintro ⟨a, vs, rfl, e, v, ws, f, g, rfl, rfl, ⟨sl, us, gs, rfl, e2, h, rfl⟩, v', ws', f', g', rfl, rfl, ⟨rfl, _, rfl⟩, rfl, rfl⟩
    obtain ⟨rfl, rfl⟩ := strs_w.mp h
    exact ⟨a, sl, rfl, e, e2, rfl⟩
  · rintro ⟨k, sl, rfl, e, e2, rfl⟩
    exact ⟨k, _, rfl, e, _, _, [sl], [], rfl, rfl, ⟨sl, _, [], rfl, e2, strs_w.mpr ⟨rfl, rfl⟩, rfl⟩, _, _, [], [], rfl, rfl, ⟨rfl, True.intro, rfl⟩, rfl, rfl⟩
theorem room_w {H : Hp} {r : RRoom} {v : V} {fs : List Addr} : (roomW r).At H v fs ↔ ∃ q g ps gs, v = .ref q ∧ H q = some (.tup [.bl r.1, .ref g]) ∧ H g = some (.lst ps) ∧ Tw.Ats H (r.2.map rowW) ps gs ∧ fs = g :: gs := by
  simp only [roomW, Tw.At, Tw.Ats]
  constructor
  · rintro ⟨a, vs, rfl, e, v, ws, f, g, rfl, rfl, ⟨rfl, _, rfl⟩, v', ws', f', g', rfl, rfl, ⟨sl, us, gs, rfl, e2, h, rfl⟩, rfl, rfl⟩
    exact ⟨a, sl, us, gs, rfl, e, e2, h, by simp⟩
  · rintro ⟨q, g, ps, gs, rfl, e, e2, h, rfl⟩
    exact ⟨q, _, rfl, e, _, _, [], g :: gs, rfl, rfl, ⟨rfl, True.intro, rfl⟩, _, _, g :: gs, [], rfl, by simp, ⟨g, ps, gs, rfl, e2, h, rfl⟩, rfl, rfl⟩
theorem each_ev {H : Hp} {us vs : List V} {ets : List Tr} {js : List Nat} (hj : Each (fun v j => us[j]? = some v) vs js) (he : Each (EvAt H) us ets) : Tr.Ats H (js.map fun j => ets.getD j .non) vs [] ∧ Tr.hs (js.map fun j => ets.getD j .non) ≤ 60 := by
  induction js generalizing vs with
  | nil =>
    have := hj.1
    rw [List.length_nil, List.length_eq_zero_iff] at this
    subst this
    simp [Tr.Ats, Tr.hs]
  | cons j js ih =>
    cases vs with
    | nil => have := hj.1; simp at this
    | cons v vs =>
      have h1 := hj.2 0 v j rfl rfl
      obtain ⟨h2, h3⟩ := ih (vs := vs) ⟨by have := hj.1; simpa using this, fun i a b x y => hj.2 (i + 1) a b x y⟩
      have hl : j < ets.length := by rw [← he.1]; exact (List.getElem?_eq_some_iff.mp h1).1
      have h4 := he.2 j v ets[j] h1 (List.getElem?_eq_getElem hl)
      have h5 : ets.getD j .non = ets[j] := by simp [hl]
      rw [List.map_cons, h5]
      simp only [Tr.Ats, Tr.hs]
      refine ⟨⟨v, vs, [], [], rfl, rfl, h4.1, h2⟩, ?_⟩
      have := h4.2
      omega
theorem lst_ev {H : Hp} {l : Addr} {us vs : List V} {ets : List Tr} {js : List Nat} (e : H l = some (.lst vs)) (hj : Each (fun v j => us[j]? = some v) vs js) (he : Each (EvAt H) us ets) : (Tr.lst (js.map fun j => ets.getD j .non)).At H (.ref l) [l] := by
  simp only [Tr.At]
  exact ⟨l, vs, [], rfl, e, (each_ev hj he).1, rfl⟩
theorem hs_map {α : Type} {f : α → Tw} {k : Nat} : ∀ {l : List α}, (∀ x ∈ l, (f x).h ≤ k) → Tw.hs (l.map f) ≤ k
  | [], _ => by simp [Tw.hs]
  | x :: l, h => by
    have h1 := h x List.mem_cons_self
    have h2 := hs_map (l := l) fun y hy => h y (List.mem_cons_of_mem _ hy)
    simp only [List.map_cons, Tw.hs]
    omega
theorem rowW_h (r : RRow) : (rowW r).h ≤ 3 := by
  have := hs_map (f := strW) (k := 0) (l := r.1) fun x _ => by simp [strW, Tw.h]
  simp only [rowW, Tw.h, Tw.hs]
  omega
theorem roomW_h (r : RRoom) : (roomW r).h ≤ 6 := by
  have := hs_map (f := rowW) (k := 3) (l := r.2) fun x _ => rowW_h x
  simp only [roomW, Tw.h, Tw.hs]
  omega
theorem each_tw {α : Type} {R : V → α → Prop} {G : Hp} {f : α → Tw} (h : ∀ v x, R v x → ∃ fs, (f x).At G v fs) : ∀ {xs : List α} {vs : List V}, Each R vs xs → ∃ fs, Tw.Ats G (xs.map f) vs fs
  | [], vs, e => by
    obtain rfl := List.length_eq_zero_iff.mp e.1
    exact ⟨[], by simp [Tw.Ats]⟩
  | x :: xs, [], e => by have := e.1; simp at this
  | x :: xs, v :: vs, e => by
    obtain ⟨f1, h1⟩ := h v x (e.2 0 v x rfl rfl)
    obtain ⟨f2, h2⟩ := each_tw h (xs := xs) (vs := vs) ⟨by have := e.1; simpa using this, fun i a b c d => e.2 (i + 1) a b c d⟩
    exact ⟨f1 ++ f2, by
      simp only [List.map_cons, Tw.Ats]
      exact ⟨v, vs, f1, f2, rfl, rfl, h1, h2⟩⟩
theorem room_tw {G : Hp} {v : V} {r : RRoom} (h : RoomAt G v r) : ∃ fs, (roomW r).At G v fs := by
  obtain ⟨q, g, ps, rfl, h1, h2, h3⟩ := h
  obtain ⟨fs, h4⟩ := each_tw (f := rowW) (fun v x hx => by
    obtain ⟨k, sl, rfl, g1, g2⟩ := hx
    exact ⟨[sl], row_w.mpr ⟨k, sl, rfl, g1, g2, rfl⟩⟩) h3
  exact ⟨g :: fs, room_w.mpr ⟨q, g, ps, fs, rfl, h1, h2, h4, rfl⟩⟩
theorem Tab.tw {G : Hp} {tt : Addr} {us : List V} {ets : List Tr} {rs : List RRoom} {sy : List Str} (h : Tab G tt us ets rs sy) : ∃ fs, (Tw.tup [.lst (toWs ets), .lst (sy.map strW), .lst (rs.map roomW)]).At G (.ref tt) fs := by
  obtain ⟨a, b, c, rvs, h1, h2, h3, h4, h5⟩ := h.ex
  obtain ⟨fs, h6⟩ := each_tw (f := roomW) (fun v x hx => room_tw hx) h5
  refine ⟨([a] ++ ([b] ++ ((c :: fs) ++ []))), ?_⟩
  simp only [Tw.At, Tw.Ats]
  exact ⟨tt, _, rfl, h1, _, _, [a], _, rfl, rfl, ⟨a, us, [], rfl, h2, toWs_at (ev_ats h.ev).1, rfl⟩, _, _, [b], _, rfl, rfl, ⟨b, _, [], rfl, h3, strs_w.mpr ⟨rfl, rfl⟩, rfl⟩, _, _, c :: fs, [], rfl, rfl, ⟨c, rvs, fs, rfl, h4, h6, rfl⟩, rfl, rfl⟩
theorem tab_hs {G : Hp} {us : List V} {ets : List Tr} {rs : List RRoom} {sy : List Str} (h : Each (EvAt G) us ets) : Tw.hs [.lst (toWs ets), .lst (sy.map strW), .lst (rs.map roomW)] ≤ 50 := by
  have h1 := (ev_ats h).2
  have h2 := hs_map (f := strW) (k := 0) (l := sy) fun x _ => by simp [strW, Tw.h]
  have h3 := hs_map (f := roomW) (k := 6) (l := rs) fun x _ => roomW_h x
  simp only [Tw.hs, Tw.h, toWs_h]
  omega
section
variable {P : Params} {H : Hp} {tt : Addr} {us : List V} {rs : List RRoom} {x y : Nat} {Q : VK} {E : XK}
theorem use_first {js : List Nat} (hT : TblAt H tt us rs) (ok : TblOk us.length rs) (hx : x < rs.length) (hy : y < rs.length) (hF : First rs us.length (x, y) js) (hl : js.length ≤ 196)
    (h : ∀ l vs H', H l = none → Same H H' → H' l = some (.lst vs) → Each (fun v j => us[j]? = some v) vs js → Q (.ref l) H') : sp_parting P [.ref tt, .int (x : Nat), .int (y : Nat)] H Q E := by
  refine ⟨tt, x, y, us, rs, rfl, hT, ok, hx, hy, fun hne l H' f s e => ?_, fun heq => ⟨fun n H' hn hd s => ?_, fun n p j hp hj hD hd hd2 => ?_⟩⟩
  · have := hF.one (First.nil (MinL.zero.mpr hne))
    subst this
    exact h l [] H' f s e .nil
  · exact absurd hF (parting_none heq hn hd js)
  · obtain ⟨π, a1, a2, a3⟩ := parting_has hp hj hD
    have e := parting_some heq hp hj hD hd hd2 a3 js hF
    refine ⟨_, a3, ?_, fun l vs H' f s e' hv => ?_⟩
    · have := congrArg List.length e
      rw [List.length_reverse] at this
      omega
    · rw [← e] at hv
      exact h l vs H' f s e' hv
theorem use_none (hT : TblAt H tt us rs) (ok : TblOk us.length rs) (hx : x < rs.length) (hy : y < rs.length) (hN : ∀ w, ¬ First rs us.length (x, y) w) (h : ∀ H', Same H H' → Q .non H') : sp_parting P [.ref tt, .int (x : Nat), .int (y : Nat)] H Q E := by
  refine ⟨tt, x, y, us, rs, rfl, hT, ok, hx, hy, fun hne => absurd (First.nil (MinL.zero.mpr hne)) (hN []), fun heq => ⟨fun n H' hn hd s => h H' s, fun n p j hp hj hD hd hd2 => ?_⟩⟩
  obtain ⟨π, a1, a2, a3⟩ := parting_has hp hj hD
  obtain ⟨n, _, hm⟩ := MinL.of a1 a2
  obtain ⟨w, hw⟩ := First.ex hm
  exact absurd hw (hN w)
end
theorem each_one {us vs ws : List V} {js : List Nat} (h1 : Each (fun v j => us[j]? = some v) vs js) (h2 : Each (fun v j => us[j]? = some v) ws js) : vs = ws := by
  refine List.ext_getElem? fun i => ?_
  by_cases hi : i < js.length
  · have a1 : i < vs.length := by rw [h1.1]; exact hi
    have a2 : i < ws.length := by rw [h2.1]; exact hi
    have b1 := h1.2 i _ _ (List.getElem?_eq_getElem a1) (List.getElem?_eq_getElem hi)
    have b2 := h2.2 i _ _ (List.getElem?_eq_getElem a2) (List.getElem?_eq_getElem hi)
    rw [List.getElem?_eq_getElem a1, List.getElem?_eq_getElem a2, ← b1, ← b2]
  · rw [List.getElem?_eq_none (by rw [h1.1]; omega), List.getElem?_eq_none (by rw [h2.1]; omega)]
def sp_law (K : PySem.W.Frag) : Sp := fun vs H Q _ => ∃ (a : Addr) (ns : List Int), vs = [.ref a] ∧ SqL K H a (ns.map V.int) ∧ ns.length ≤ 63 ∧ ∀ H', Q (.bl true) H'
theorem ok_law (T : Txt K mg t) : FnOk P w K mg base CX0 4 t.a_law t.fd_law ["script"] (sp_law K) := by
  have G__law_deck := ok_law_deck (P := P) (w := w) (base := base) T
  have G__law_due := ok_law_due (P := P) (w := w) (base := base) T
  have G__law_lengths := ok_law_lengths (P := P) (w := w) (base := base) T
  have G__law_next := ok_law_next (P := P) (w := w) (base := base) T
  have G__law_table := ok_law_table (P := P) (w := w) (base := base) T
  have G_parting := ok_parting (P := P) (w := w) (base := base) T
  refine T.F_law.ok sc_law (fun vs H Q E h => ?_) (fun cdv A outer s H vs Q E hr h => ?_)
  · obtain ⟨a, ns, rfl, _⟩ := h
    rfl
  · obtain ⟨a, ns, rfl, hS, hl, q⟩ := h
    refine ⟨_, (@pss_cons _ _ _ _ _ (@ps_set _ _ 1 _ _ _ _ sc_law.nd rfl (by first | exact Or.inl rfl | exact Or.inr rfl) (@pe_call _ _ _ _ _ _ _ _ _ _ _ _ _ _ _ _ G__law_deck (hr.mono (by omega)) rfl T.m__law_deck T.F__law_deck.kp T.b__law_deck .nil pass0 (@pa_cons _ _ _ _ _ (pv 0) (@pa_nil _) (by rfl)) (by decide) (by rfl) (by rfl)) (by rfl) (by first | exact Or.inl rfl | exact Or.inr rfl))
      (@pss_cons _ _ _ _ _ (@ps_set _ _ 2 _ _ _ _ sc_law.nd rfl (by first | exact Or.inl rfl | exact Or.inr rfl) (@pe_call _ _ _ _ _ _ _ _ _ _ _ _ _ _ _ _ G__law_table (hr.mono (by omega)) rfl T.m__law_table T.F__law_table.kp T.b__law_table .nil pass0 (@pa_cons _ _ _ _ _ (pv 1) (@pa_nil _) (by rfl)) (by decide) (by rfl) (by rfl)) (by rfl) (by first | exact Or.inl rfl | exact Or.inr rfl))
      (@pss_cons _ _ _ _ _ (@ps_set _ _ 3 _ _ _ _ sc_law.nd rfl (by first | exact Or.inl rfl | exact Or.inr rfl) (@pe_tupN _ _ _ _ _ (@pa_cons _ _ _ _ _ (@pe_callTy _ _ _ _ _ _ _ _ _ (kcl_list K) (by rfl) T.z_list bb_list (@pa_cons _ _ _ _ _ (@pe_ix _ _ _ _ _ _ _ (kix_tup K) (pv 2) (@pe_int _ _ _ _) (fun _ _ => rfl)) (@pa_nil _) (by rfl)) (by decide) (by decide) (by rfl) (by rfl)) (@pa_cons _ _ _ _ _ (@pe_callTy _ _ _ _ _ _ _ _ _ (kcl_list K) (by rfl) T.z_list bb_list (@pa_cons _ _ _ _ _ (@pe_ix _ _ _ _ _ _ _ (kix_tup K) (pv 2) (@pe_int _ _ _ _) (fun _ _ => rfl)) (@pa_nil _) (by rfl)) (by decide) (by decide) (by rfl) (by rfl)) (@pa_cons _ _ _ _ _ (pe_lc (Nt := ["over", "rows"]) (Nf := []) (caps := []) rfl (comp_ok (sc := defScope s_law) rfl rfl (by decide +kernel) (by decide +kernel) (by decide +kernel) rfl (by decide +kernel)) (kpi_list K (@pe_ix _ _ _ _ _ _ _ (kix_tup K) (pv 2) (@pe_int _ _ _ _) (fun _ _ => rfl))) (fun _ _ _ _ _ => (kpg_tup K (n := 2) rfl (pgs_cons (pg_name (i := 0) (show (["over", "rows"] : List Str).Nodup by decide +kernel) rfl (by first | exact Or.inl rfl | exact Or.inr rfl)) (pgs_cons (pg_name (i := 1) (show (["over", "rows"] : List Str).Nodup by decide +kernel) rfl (by first | exact Or.inl rfl | exact Or.inr rfl)) (@pgs_nil _))))) (fun _ _ _ _ _ => (@pts_nil _)) (fun _ _ _ _ _ => (@pe_tupN _ _ _ _ _ (@pa_cons _ _ _ _ _ (pv 0) (@pa_cons _ _ _ _ _ (@pe_callTy _ _ _ _ _ _ _ _ _ (kcl_list K) (by rfl) T.z_list bb_list (@pa_cons _ _ _ _ _ (pv 1) (@pa_nil _) (by rfl)) (by decide) (by decide) (by rfl) (by rfl)) (@pa_nil _) (by rfl)) (by rfl))))) (@pa_nil _) (by rfl)) (by rfl)) (by rfl))) (by rfl) (by first | exact Or.inl rfl | exact Or.inr rfl))
      (@pss_cons _ _ _ _ _ (@ps_set _ _ 4 _ _ _ _ sc_law.nd rfl (by first | exact Or.inl rfl | exact Or.inr rfl) (@pe_call _ _ _ _ _ _ _ _ _ _ _ _ _ _ _ _ G__law_lengths (hr.mono (by omega)) rfl T.m__law_lengths T.F__law_lengths.kp T.b__law_lengths .nil pass0 (@pa_cons _ _ _ _ _ (@pe_ix _ _ _ _ _ _ _ (kix_tup K) (pv 2) (@pe_int _ _ _ _) (fun _ _ => rfl)) (@pa_nil _) (by rfl)) (by decide) (by rfl) (by rfl)) (by rfl) (by first | exact Or.inl rfl | exact Or.inr rfl))
      (@pss_cons _ _ _ _ _ (@ps_set _ _ 5 _ _ _ _ sc_law.nd rfl (by first | exact Or.inl rfl | exact Or.inr rfl) (@pe_callB _ _ _ _ _ _ _ _ _ (kcl_len K) (by rfl) T.z_len bb_len (@pa_cons _ _ _ _ _ (@pe_ix _ _ _ _ _ _ _ (kix_tup K) (pv 2) (@pe_int _ _ _ _) (fun _ _ => rfl)) (@pa_nil _) (by rfl)) (by decide) (by decide) (by rfl) (by rfl)) (by rfl) (by first | exact Or.inl rfl | exact Or.inr rfl))
      (@pss_cons _ _ _ _ _ (@ps_for _ _ _ _ _ _ _ _ PassesOwn.never rfl (pi_range1 rfl T.z_range (@pa_cons _ _ _ _ _ (@pe_int _ _ _ _) (@pa_nil _) (by rfl))) (pg_name (i := 6) sc_law.nd rfl (by first | exact Or.inl rfl | exact Or.inr rfl)) (@pss_cons _ _ _ _ _ (@ps_set _ _ 7 _ _ _ _ sc_law.nd rfl (by first | exact Or.inl rfl | exact Or.inr rfl) (@pe_op _ _ _ _ _ _ _ _ op_mod (@pe_call _ _ _ _ _ _ _ _ _ _ _ _ _ _ _ _ G__law_next (hr.mono (by omega)) rfl T.m__law_next T.F__law_next.kp T.b__law_next .nil pass0 (@pa_cons _ _ _ _ _ (pv 1) (@pa_nil _) (by rfl)) (by decide) (by rfl) (by rfl)) (pv 5)) (by rfl) (by first | exact Or.inl rfl | exact Or.inr rfl))
        (@pss_cons _ _ _ _ _ (@ps_set _ _ 8 _ _ _ _ sc_law.nd rfl (by first | exact Or.inl rfl | exact Or.inr rfl) (@pe_op _ _ _ _ _ _ _ _ op_mod (@pe_call _ _ _ _ _ _ _ _ _ _ _ _ _ _ _ _ G__law_next (hr.mono (by omega)) rfl T.m__law_next T.F__law_next.kp T.b__law_next .nil pass0 (@pa_cons _ _ _ _ _ (pv 1) (@pa_nil _) (by rfl)) (by decide) (by rfl) (by rfl)) (pv 5)) (by rfl) (by first | exact Or.inl rfl | exact Or.inr rfl))
        (@pss_cons _ _ _ _ _ (@ps_set _ _ 9 _ _ _ _ sc_law.nd rfl (by first | exact Or.inl rfl | exact Or.inr rfl) (@pe_call _ _ _ _ _ _ _ _ _ _ _ _ _ _ _ _ G__law_due (hr.mono (by omega)) rfl T.m__law_due T.F__law_due.kp T.b__law_due .nil pass0 (@pa_cons _ _ _ _ _ (pv 2) (@pa_cons _ _ _ _ _ (pv 7) (@pa_cons _ _ _ _ _ (pv 8) (@pa_cons _ _ _ _ _ (pv 4) (@pa_nil _) (by rfl)) (by rfl)) (by rfl)) (by rfl)) (by decide) (by rfl) (by rfl)) (by rfl) (by first | exact Or.inl rfl | exact Or.inr rfl))
        (@pss_cons _ _ _ _ _ (@ps_set _ _ 10 _ _ _ _ sc_law.nd rfl (by first | exact Or.inl rfl | exact Or.inr rfl) (@pe_call _ _ _ _ _ _ _ _ _ _ _ _ _ _ _ _ G_parting (hr.mono (by omega)) rfl T.m_parting T.F_parting.kp T.b_parting .nil pass0 (@pa_cons _ _ _ _ _ (pv 3) (@pa_cons _ _ _ _ _ (pv 7) (@pa_cons _ _ _ _ _ (pv 8) (@pa_nil _) (by rfl)) (by rfl)) (by rfl)) (by decide) (by rfl) (by rfl)) (by rfl) (by first | exact Or.inl rfl | exact Or.inr rfl))
        (@pss_one _ _ _ (@ps_if _ _ _ _ _ _ _ _ (@pt_cmpR _ _ _ _ _ _ _ _ kop_isN (pv 9) (@pe_non _ _ _) (nomark _)) (@pss_one _ _ _ (@ps_if _ _ _ _ _ _ _ _ (@pt_cmpR _ _ _ _ _ _ _ _ kop_notN (pv 10) (@pe_non _ _ _) (nomark _)) (@pss_one _ _ _ (@ps_ret _ _ _ _ (@pe_bl _ _ _ _))) (@pss_nil _))) (@pss_cons _ _ _ _ _ (@ps_if _ _ _ _ _ _ _ _ (@PW.pt _ _ _ (@pw_or _ _ _ _ _ _ _ (@pt_not _ _ _ _ (kpt_tru K (@pe_callB _ _ _ _ _ _ _ _ _ (kcl_isi K) (by rfl) T.z_isinstance bb_isinstance (@pa_cons _ _ _ _ _ (pv 10) (@pa_cons _ _ _ _ _ (pe_bltn (v := .ty "list") (by rfl) T.z_list bb_list rfl) (@pa_nil _) (by rfl)) (by rfl)) (by decide) (by decide) (by rfl) (by rfl)) (fun _ => rfl))) (@pw_or1 _ _ _ _ (@pt_cmpR _ _ _ _ _ _ _ _ (kop_neLs (by exact hr.units)) (pv 10) (pv 9) (nomark _))))) (@pss_one _ _ _ (@ps_ret _ _ _ _ (@pe_bl _ _ _ _))) (@pss_nil _))
          (@pss_cons _ _ _ _ _ (@ps_expr _ _ _ _ (@kpe_bm _ K _ _ _ _ _ _ _ _ _ _ _ PySem.F.plainAttrs_list PySem.F.slot_list_append PySem.F.type_list_append mt_append (pv 10) (@pa_cons _ _ _ _ _ (@pe_tupN _ _ _ _ _ (@pa_cons _ _ _ _ _ (@pe_str _ _ _ _) (@pa_nil _) (by rfl))) (@pa_nil _) (by rfl)) (by rfl) (by rfl) (by rfl) (by rfl) (by rfl) (by rfl)) (by rfl))
          (@pss_one _ _ _ (@ps_if _ _ _ _ _ _ _ _ (@pt_cmpR _ _ _ _ _ _ _ _ (kop_neLs (by exact hr.units)) (@pe_call _ _ _ _ _ _ _ _ _ _ _ _ _ _ _ _ G_parting (hr.mono (by omega)) rfl T.m_parting T.F_parting.kp T.b_parting .nil pass0 (@pa_cons _ _ _ _ _ (pv 3) (@pa_cons _ _ _ _ _ (pv 7) (@pa_cons _ _ _ _ _ (pv 8) (@pa_nil _) (by rfl)) (by rfl)) (by rfl)) (by decide) (by rfl) (by rfl)) (pv 9) (nomark _)) (@pss_one _ _ _ (@ps_ret _ _ _ _ (@pe_bl _ _ _ _))) (@pss_nil _))))))))))) (by intro _; rfl))
      (@pss_one _ _ _ (@ps_ret _ _ _ _ (@pe_cmpR _ _ _ _ _ _ _ _ (kop_eqW (by exact hr.units)) (pv 3) (pv 2) (nomark _)))))))))), ?_⟩
    have sl : (1000000 : Nat) ≤ sizeLine := le_line (Nat.le_refl _)
    walk_at "go"
    refine ⟨a, ns, rfl, hS, hl, fun d l H1 f1 g1 s1 k1 => ?_⟩
    walk_at "run"
    refine ⟨d, l, 0, rfl, k1, by omega, fun tt us ets rs sy H2 n2 T2 ok o2 hn2 k2 => ?_⟩
    walk_at "run"
    obtain ⟨e, b, c, rvs, t1, t2, t3, t4, t5⟩ := T2.ex
    have G := hds_same (xs := [d, l]) (H := H2)
    have hrl : rvs.length = rs.length := t5.1
    have r14 := ok.r14
    have u7 := ok.u7
    have r0 := ok.r0
    refine i_ixT (SqT.of (G _ _ t1)) (atI_nat (j := 0) rfl) ?_
    walk_at "run"
    refine i_listL (SqL.of (G _ _ t2)) ?_
    intro p3 H3 f3 s3 e3
    walk_at "run"
    refine i_ixT (SqT.of (s3 _ _ (G _ _ t1))) (atI_nat (j := 1) rfl) ?_
    walk_at "run"
    refine i_listL (SqL.of (s3 _ _ (G _ _ t3))) ?_
    intro p4 H4 f4 s4 e4
    walk_at "run"
    have s24 := s3.trans s4
    refine i_ixT (SqT.of (s24 _ _ (G _ _ t1))) (atI_nat (j := 2) rfl) ?_
    walk_at "run"
    have k4 := k2.same s24
    have two : ∀ {Hx : Hp} {p : Addr} {n : Nat}, Deck Hx d l n → Hx p = none → p ∉ [d, l] := fun kx fx => by
      have := kx.new fx
      simp [this.1, this.2]
    have hin : d ∈ [d, l] ∧ l ∈ [d, l] := by simp
    refine ⟨⟨_, SqL.of (s24 _ _ (G _ _ t4))⟩, cc_pairs (xs := rvs) (le_line (by omega)) (fun j acc H' => j ≤ rvs.length ∧ acc.length = j ∧ Same H4 H' ∧ Each (RoomAt (hds [d, l] H')) acc (rs.take j)) ⟨Nat.zero_le _, rfl, Same.refl _, by simpa using Each.nil⟩ (fun j acc H' ⟨_, ea, s', _⟩ => ⟨by omega, SqL.of (s' _ _ (s24 _ _ (G _ _ t4)))⟩) ?_ ?_⟩
    · rintro j v acc H5 hv ⟨hj, ea, s5, h5⟩
      have hj' : j < rs.length := by rw [← hrl]; exact (List.getElem?_eq_some_iff.mp hv).1
      obtain ⟨qx, gx, ps, rfl, g1, g2, g3⟩ := t5.2 j v rs[j] hv (List.getElem?_eq_getElem hj')
      have s25 := s24.trans s5
      refine ⟨qx, _, _, rfl, SqT.of (s25 _ _ (G _ _ g1)), ?_⟩
      walk_at "run"
      refine i_listL (SqL.of (s25 _ _ (G _ _ g2))) ?_
      intro p6 H6 f6 s6 e6
      walk_at "run"
      intro p7 H7 f7 s7 e7
      have k5 := k4.same s5
      have n6 := two k5 f6
      have n7 := two (k5.same s6) f7
      have sm := hds_off hin.1 hin.2 (s6.trans s7).off (H := H5) (H' := H7)
      have sm2 := hds_off hin.1 hin.2 (s25.trans (s6.trans s7)).off (H := H2) (H' := H7)
      refine ⟨by omega, by simp [ea], s5.trans (s6.trans s7), ?_⟩
      rw [List.take_add_one, List.getElem?_eq_getElem hj']
      exact (h5.mono fun v x h => h.same sm).snoc ⟨p7, p6, ps, rfl, hds_at e7 n7, hds_at (s7 _ _ e6) n6, g3.mono fun v x h => h.same sm2⟩
    · rintro acc H5 ⟨_, ea, s5, h5⟩ p6 H6 f6 s6 e6
      rw [hrl, List.take_length] at h5
      walk_at "run"
      intro ph H7 f7 s7 e7
      walk_at "run"
      have k5 := k4.same s5
      have k7 := k5.same (s6.trans s7)
      have s27 := s24.trans (s5.trans (s6.trans s7))
      have s37 := s4.trans (s5.trans (s6.trans s7))
      have Tt : Tab (hds [d, l] H7) tt us ets rs sy := T2.same (hds_off hin.1 hin.2 s27.off)
      have Th : Tab (hds [d, l] H7) ph us ets rs sy := ⟨⟨p3, p4, p6, acc, hds_at e7 (two (k5.same s6) f7), hds_at (s37 _ _ e3) (two k2 f3), hds_at ((s5.trans (s6.trans s7)) _ _ e4) (two (k2.same s3) f4), hds_at (s7 _ _ e6) (two k5 f6), h5.mono fun v x h => h.same (hds_off hin.1 hin.2 (s6.trans s7).off)⟩, Tt.ev⟩
      refine i_ixT (SqT.of (s27 _ _ (G _ _ t1))) (atI_nat (j := 2) rfl) ?_
      walk_at "run"
      refine ⟨c, us.length, rvs, rs, rfl, s27 _ _ (G _ _ t4), t5.mono (fun v x h => h.same (G.trans s27)), ok.ok, r14, fun la dv sz H8 fa s8 hL hM h196 => ?_⟩
      walk_at "run"
      refine i_ixT (SqT.of ((s27.trans s8) _ _ (G _ _ t1))) (atI_nat (j := 2) rfl) ?_
      walk_at "run"
      refine i_lenL (SqL.of ((s27.trans s8) _ _ (G _ _ t4))) ?_
      rw [hrl]
      walk_at "run"
      have hna := two k7 fa
      have k8 := k7.same s8
      have hL8 : LenAt w.params (hds [d, l] H8) la rs.length dv sz := by
        obtain ⟨kvs, g1, g2⟩ := hL
        refine ⟨kvs, g1.mono (fun b ys e => hds_at e ?_) (by unfold hds; rw [if_neg hna]), g2⟩
        obtain ⟨ms, z, z1, z2, _⟩ := k8.ex
        simp [ne_of e z1 (fun z => nomatch z), ne_of e z2 (fun z => nomatch z)]
      have Tt8 := Tt.same (hds_off hin.1 hin.2 s8.off)
      have Th8 := Th.same (hds_off hin.1 hin.2 s8.off)
      generalize hN8 : n2 = N8 at k8 hn2
      clear Tt Th t1 t2 t3 t4 t5 T2 G hL h5
      rw [show (8 : Int).toNat = 8 from rfl]
      obtain ⟨Pv, hPv⟩ : ∃ Pv : Nat → St → Hp → Prop, Pv = (fun i σ H' => Off d l H8 H' ∧ Deck H' d l (N8 + 2 * i) ∧ ∃ y6 y7 y8 y9 y10, σ = [some (.ref a), some (.ref d), some (.ref tt), some (.ref ph), some (.ref la), some (.int (rs.length : Nat)), y6, y7, y8, y9, y10]) := ⟨_, rfl⟩
      refine for_range (lo := 0) (n := 8) Pv (by rw [hPv]; exact ⟨Off.refl, k8, _, _, _, _, _, rfl⟩) ?_ ?_
      · intro i σ H9 hi hI
        rw [hPv] at hI
        obtain ⟨o9, k9, y6, y7, y8, y9, y10, rfl⟩ := hI
        walk_at "run"
        refine ⟨d, l, _, rfl, k9, by omega, fun r10 H10 hr10 o10 k10 => ?_⟩
        walk_at "run"
        obtain ⟨x, hx, ex⟩ := mod_nat (r10 : Int) r0
        rw [ex]
        walk_at "run"
        refine ⟨d, l, _, rfl, k10, by omega, fun r11 H11 hr11 o11 k11 => ?_⟩
        walk_at "run"
        obtain ⟨y, hy, ey⟩ := mod_nat (r11 : Int) r0
        rw [ey]
        walk_at "run"
        have o8b := o9.trans (o10.trans o11)
        have sG := hds_off hin.1 hin.2 o8b
        have Gs := hds_same (xs := [d, l]) (H := H11)
        have Tt11 := (Tt8.same sG).same Gs
        have Th11 := (Th8.same sG).same Gs
        have hL11 := (hL8.same sG).same Gs
        have hev11 := Tt11.ev
        obtain ⟨e, b, c, rvs, t1, t2, t3, t4, t5⟩ := Tt11.ex
        refine ⟨tt, e, b, c, la, x, y, sz, us, rvs, rs, dv, rfl, t1, t2, t4, t5, ok.ok, hx, hy, hL11, hM, h196, fun H12 s12 hno => ?_, fun l1 vs1 js H12 f12 s12 hF hjl e12 hv12 => ?_⟩
        · walk_at "run"
          refine use_none (Th11.same s12).tbl ok.ok hx hy hno fun H13 s13 => ?_
          walk_at "run"
          refine i_itDT rfl ?_
          walk_at "run"
          refine i_itNF rfl ?_
          rw [hPv]
          exact ⟨o8b.trans (s12.trans s13).off, (k11.same s12).same s13, _, _, _, _, _, rfl⟩
        · walk_at "run"
          refine use_first (Th11.same s12).tbl ok.ok hx hy hF hjl fun l2 vs2 H13 f13 s13 e13 hv13 => ?_
          obtain rfl := each_one hv12 hv13
          walk_at "run"
          refine i_itDF (fun z => nomatch z) ?_
          have hE13 := hev11.mono fun v x h => h.same (s12.trans s13)
          have hvl : js.length ≤ 196 := hjl
          have hvl2 := hv13.1
          walk_at "run"
          refine i_isiL e13 ?_
          walk_at "run"
          refine i_neLs (lst_ev e13 hv13 hE13) (lst_ev (s13 _ _ e12) hv12 hE13) (each_ev hv13 hE13).2 ?_
          walk_at "run"
          refine i_tyL (SqL.of e13) ?_
          walk_at "run"
          intro p14 H14 f14 s14 e14
          walk_at "run"
          refine i_append (s14 _ _ e13) (by omega) ?_
          have s15 : ∀ {o : HO}, Same H12 (upd H14 l2 o) := fun {o} b u e => by
            rw [upd_ne (fun z => by rw [z, f13] at e; cases e)]
            exact (s13.trans s14) _ _ e
          generalize hH15 : upd H14 l2 _ = H15
          have s15' : Same H12 H15 := hH15 ▸ s15
          clear hH15 s15
          walk_at "run"
          refine use_first (Th11.same (s12.trans s15')).tbl ok.ok hx hy hF hjl fun l3 vs3 H16 f16 s16 e16 hv16 => ?_
          have hE16 := hev11.mono fun v x h => h.same (s12.trans (s15'.trans s16))
          walk_at "run"
          refine i_neLs (lst_ev e16 hv16 hE16) (lst_ev ((s15'.trans s16) _ _ e12) hv12 hE16) (each_ev hv16 hE16).2 ?_
          walk_at "run"
          rw [hPv]
          have s1216 := s12.trans (s15'.trans s16)
          exact ⟨o8b.trans s1216.off, k11.same s1216, _, _, _, _, _, rfl⟩
      · intro σ H9 hI
        rw [hPv] at hI
        obtain ⟨o9, k9, y6, y7, y8, y9, y10, rfl⟩ := hI
        have sG := hds_off hin.1 hin.2 o9
        have Gs := hds_same (xs := [d, l]) (H := H9)
        have Tt9 := (Tt8.same sG).same Gs
        have Th9 := (Th8.same sG).same Gs
        obtain ⟨fs1, w1⟩ := Th9.tw
        obtain ⟨fs2, w2⟩ := Tt9.tw
        walk_at "run"
        exact i_eqW w1 w2 (tab_hs Tt9.ev) (q _)
end
theorem all_mk {l : PySem.W.OpenLaw} {w : World} {K : PySem.W.Frag} {h : Heap} {mg : Str → Option Value} {fa : Addr} (X : K.In h) (G : h.Ns mainGlobals mg) (hfa : mg "law" = some (.ref fa))
    {C_Together : Addr} (aC_Together : PySem.W.nsIn K mainGlobals "Together" = some (some (.ref C_Together)))
    (pg_Together : PySem.W.plainGet K C_Together Str.empty = true) (hd_Together : PySem.W.hasDictIn K C_Together = true) (po_Together : PySem.W.plainOver K C_Together = true) (sa_Together : PySem.W.findIn K (.ref C_Together) "__setattr__" = some (some (.builtin "object.__setattr__"))) (mk_Together : PySem.W.makesIn K C_Together = true) (kc_Together : PySem.W.keepIn K (.ref C_Together) = true)
    (nF_Together_heads : PySem.W.findIn K (.ref C_Together) "heads" = some none)
    {f0 : Addr} {od0 an0 : Option Addr} {sl0 : Array (Option Value)} {oc0 kV0 dc0 pm0 cd0 ct0 : Value}
    {f1 : Addr} {od1 an1 : Option Addr} {sl1 : Array (Option Value)} {oc1 kV1 dc1 pm1 cd1 ct1 : Value}
    {f2 : Addr} {od2 an2 : Option Addr} {sl2 : Array (Option Value)} {oc2 kV2 dc2 pm2 cd2 ct2 : Value}
    {f3 : Addr} {od3 an3 : Option Addr} {sl3 : Array (Option Value)} {oc3 kV3 dc3 pm3 cd3 ct3 : Value}
    {f4 : Addr} {od4 an4 : Option Addr} {sl4 : Array (Option Value)} {oc4 kV4 dc4 pm4 cd4 ct4 : Value}
    {f5 : Addr} {od5 an5 : Option Addr} {sl5 : Array (Option Value)} {oc5 kV5 dc5 pm5 cd5 ct5 : Value}
    {f6 : Addr} {od6 an6 : Option Addr} {sl6 : Array (Option Value)} {oc6 kV6 dc6 pm6 cd6 ct6 : Value}
    {f7 : Addr} {od7 an7 : Option Addr} {sl7 : Array (Option Value)} {oc7 kV7 dc7 pm7 cd7 ct7 : Value}
    {f8 : Addr} {od8 an8 : Option Addr} {sl8 : Array (Option Value)} {oc8 kV8 dc8 pm8 cd8 ct8 : Value}
    {f9 : Addr} {od9 an9 : Option Addr} {sl9 : Array (Option Value)} {oc9 kV9 dc9 pm9 cd9 ct9 : Value}
    {f10 : Addr} {od10 an10 : Option Addr} {sl10 : Array (Option Value)} {oc10 kV10 dc10 pm10 cd10 ct10 : Value}
    {f11 : Addr} {od11 an11 : Option Addr} {sl11 : Array (Option Value)} {oc11 kV11 dc11 pm11 cd11 ct11 : Value}
    {f12 : Addr} {od12 an12 : Option Addr} {sl12 : Array (Option Value)} {oc12 kV12 dc12 pm12 cd12 ct12 : Value}
    {f13 : Addr} {od13 an13 : Option Addr} {sl13 : Array (Option Value)} {oc13 kV13 dc13 pm13 cd13 ct13 : Value}
    (a0 : PySem.W.nsIn K mainGlobals "row_by" = some (some (.ref f0))) (l0 : K.lookup f0 = some ⟨oc0, od0, .func (PySem.W.fnOf "row_by" "row_by" (defArgs s_row_by) (defBody s_row_by) (defScope s_row_by) .none kV0 dc0 pm0 an0 cd0 ct0), sl0⟩) (c0 : PySem.W.codeIn K cd0 "row_by" = true) (k0 : PySem.W.keepIn K (.ref f0) = true)
    (a1 : PySem.W.nsIn K mainGlobals "parting" = some (some (.ref f1))) (l1 : K.lookup f1 = some ⟨oc1, od1, .func (PySem.W.fnOf "parting" "parting" (defArgs s_parting) (defBody s_parting) (defScope s_parting) .none kV1 dc1 pm1 an1 cd1 ct1), sl1⟩) (c1 : PySem.W.codeIn K cd1 "parting" = true) (k1 : PySem.W.keepIn K (.ref f1) = true)
    (a2 : PySem.W.findIn K (.ref C_Together) "__init__" = some (some (.ref f2))) (i2 : PySem.W.isFn K (.ref f2) = true) (l2 : K.lookup f2 = some ⟨oc2, od2, .func (PySem.W.fnOf "__init__" "Together.__init__" (defArgs s_Together___init__) (defBody s_Together___init__) (defScope s_Together___init__) .none kV2 dc2 pm2 an2 cd2 ct2), sl2⟩) (c2 : PySem.W.codeIn K cd2 "Together.__init__" = true) (k2 : PySem.W.keepIn K (.ref f2) = true)
    (a3 : PySem.W.findIn K (.ref C_Together) "unite" = some (some (.ref f3))) (i3 : PySem.W.isFn K (.ref f3) = true) (l3 : K.lookup f3 = some ⟨oc3, od3, .func (PySem.W.fnOf "unite" "Together.unite" (defArgs s_Together_unite) (defBody s_Together_unite) (defScope s_Together_unite) .none kV3 dc3 pm3 an3 cd3 ct3), sl3⟩) (c3 : PySem.W.codeIn K cd3 "Together.unite" = true) (k3 : PySem.W.keepIn K (.ref f3) = true)
    (a4 : PySem.W.findIn K (.ref C_Together) "head_of" = some (some (.ref f4))) (i4 : PySem.W.isFn K (.ref f4) = true) (l4 : K.lookup f4 = some ⟨oc4, od4, .func (PySem.W.fnOf "head_of" "Together.head_of" (defArgs s_Together_head_of) (defBody s_Together_head_of) (defScope s_Together_head_of) .none kV4 dc4 pm4 an4 cd4 ct4), sl4⟩) (c4 : PySem.W.codeIn K cd4 "Together.head_of" = true) (k4 : PySem.W.keepIn K (.ref f4) = true)
    (a5 : PySem.W.nsIn K mainGlobals "_law_next" = some (some (.ref f5))) (l5 : K.lookup f5 = some ⟨oc5, od5, .func (PySem.W.fnOf "_law_next" "_law_next" (defArgs s_law_next) (defBody s_law_next) (defScope s_law_next) .none kV5 dc5 pm5 an5 cd5 ct5), sl5⟩) (c5 : PySem.W.codeIn K cd5 "_law_next" = true) (k5 : PySem.W.keepIn K (.ref f5) = true)
    (a6 : PySem.W.nsIn K mainGlobals "_law_deck" = some (some (.ref f6))) (l6 : K.lookup f6 = some ⟨oc6, od6, .func (PySem.W.fnOf "_law_deck" "_law_deck" (defArgs s_law_deck) (defBody s_law_deck) (defScope s_law_deck) .none kV6 dc6 pm6 an6 cd6 ct6), sl6⟩) (c6 : PySem.W.codeIn K cd6 "_law_deck" = true) (k6 : PySem.W.keepIn K (.ref f6) = true)
    (a7 : PySem.W.nsIn K mainGlobals "_law_said" = some (some (.ref f7))) (l7 : K.lookup f7 = some ⟨oc7, od7, .func (PySem.W.fnOf "_law_said" "_law_said" (defArgs s_law_said) (defBody s_law_said) (defScope s_law_said) .none kV7 dc7 pm7 an7 cd7 ct7), sl7⟩) (c7 : PySem.W.codeIn K cd7 "_law_said" = true) (k7 : PySem.W.keepIn K (.ref f7) = true)
    (a8 : PySem.W.nsIn K mainGlobals "_law_events" = some (some (.ref f8))) (l8 : K.lookup f8 = some ⟨oc8, od8, .func (PySem.W.fnOf "_law_events" "_law_events" (defArgs s_law_events) (defBody s_law_events) (defScope s_law_events) .none kV8 dc8 pm8 an8 cd8 ct8), sl8⟩) (c8 : PySem.W.codeIn K cd8 "_law_events" = true) (k8 : PySem.W.keepIn K (.ref f8) = true)
    (a9 : PySem.W.nsIn K mainGlobals "_law_table" = some (some (.ref f9))) (l9 : K.lookup f9 = some ⟨oc9, od9, .func (PySem.W.fnOf "_law_table" "_law_table" (defArgs s_law_table) (defBody s_law_table) (defScope s_law_table) .none kV9 dc9 pm9 an9 cd9 ct9), sl9⟩) (c9 : PySem.W.codeIn K cd9 "_law_table" = true) (k9 : PySem.W.keepIn K (.ref f9) = true)
    (a10 : PySem.W.nsIn K mainGlobals "_law_lengths" = some (some (.ref f10))) (l10 : K.lookup f10 = some ⟨oc10, od10, .func (PySem.W.fnOf "_law_lengths" "_law_lengths" (defArgs s_law_lengths) (defBody s_law_lengths) (defScope s_law_lengths) .none kV10 dc10 pm10 an10 cd10 ct10), sl10⟩) (c10 : PySem.W.codeIn K cd10 "_law_lengths" = true) (k10 : PySem.W.keepIn K (.ref f10) = true)
    (a11 : PySem.W.nsIn K mainGlobals "_law_shortest" = some (some (.ref f11))) (l11 : K.lookup f11 = some ⟨oc11, od11, .func (PySem.W.fnOf "_law_shortest" "_law_shortest" (defArgs s_law_shortest) (defBody s_law_shortest) (defScope s_law_shortest) .none kV11 dc11 pm11 an11 cd11 ct11), sl11⟩) (c11 : PySem.W.codeIn K cd11 "_law_shortest" = true) (k11 : PySem.W.keepIn K (.ref f11) = true)
    (a12 : PySem.W.nsIn K mainGlobals "_law_due" = some (some (.ref f12))) (l12 : K.lookup f12 = some ⟨oc12, od12, .func (PySem.W.fnOf "_law_due" "_law_due" (defArgs s_law_due) (defBody s_law_due) (defScope s_law_due) .none kV12 dc12 pm12 an12 cd12 ct12), sl12⟩) (c12 : PySem.W.codeIn K cd12 "_law_due" = true) (k12 : PySem.W.keepIn K (.ref f12) = true)
    (a13 : PySem.W.nsIn K mainGlobals "law" = some (some (.ref f13))) (l13 : K.lookup f13 = some ⟨oc13, od13, .func (PySem.W.fnOf "law" "law" (defArgs s_law) (defBody s_law) (defScope s_law) .none kV13 dc13 pm13 an13 cd13 ct13), sl13⟩) (c13 : PySem.W.codeIn K cd13 "law" = true) (k13 : PySem.W.keepIn K (.ref f13) = true)
    (z_dict : PySem.W.nsIn K mainGlobals "dict" = some none)
    (z_int : PySem.W.nsIn K mainGlobals "int" = some none)
    (z_isinstance : PySem.W.nsIn K mainGlobals "isinstance" = some none)
    (z_len : PySem.W.nsIn K mainGlobals "len" = some none)
    (z_list : PySem.W.nsIn K mainGlobals "list" = some none)
    (z_max : PySem.W.nsIn K mainGlobals "max" = some none)
    (z_min : PySem.W.nsIn K mainGlobals "min" = some none)
    (z_range : PySem.W.nsIn K mainGlobals "range" = some none)
    (z_sum : PySem.W.nsIn K mainGlobals "sum" = some none)
    (z_zip : PySem.W.nsIn K mainGlobals "zip" = some none)
    : ∃ fd : FuncData, (∀ (s : Shared) (v : Value), BindsTo s fd ⟨[v], []⟩ [("script", v)]) ∧ ∀ base : Heap, K.In base → base.Ns mainGlobals mg → FnOk l.prog w K mg base CX0 4 fa fd ["script"] (sp_law K) := by
  have e := hfa.symm.trans (PySem.W.mg_of X G a13)
  cases e
  have F0 := fun_mk (st := s_row_by) l0 c0 k0
  have b0 := F0.binds (ps := ["ways", "way"]) fun _ _ _ _ _ _ us hl => match us, hl with | [_, _], _ => rfl
  have F1 := fun_mk (st := s_parting) l1 c1 k1
  have b1 := F1.binds (ps := ["table", "room", "other"]) fun _ _ _ _ _ _ us hl => match us, hl with | [_, _, _], _ => rfl
  have F2 := fun_mk (st := s_Together___init__) l2 c2 k2
  have b2 := F2.binds (ps := ["self"]) fun _ _ _ _ _ _ us hl => match us, hl with | [_], _ => rfl
  have F3 := fun_mk (st := s_Together_unite) l3 c3 k3
  have b3 := F3.binds (ps := ["self", "room", "other"]) fun _ _ _ _ _ _ us hl => match us, hl with | [_, _, _], _ => rfl
  have F4 := fun_mk (st := s_Together_head_of) l4 c4 k4
  have b4 := F4.binds (ps := ["self", "room"]) fun _ _ _ _ _ _ us hl => match us, hl with | [_, _], _ => rfl
  have F5 := fun_mk (st := s_law_next) l5 c5 k5
  have b5 := F5.binds (ps := ["deck"]) fun _ _ _ _ _ _ us hl => match us, hl with | [_], _ => rfl
  have F6 := fun_mk (st := s_law_deck) l6 c6 k6
  have b6 := F6.binds (ps := ["script"]) fun _ _ _ _ _ _ us hl => match us, hl with | [_], _ => rfl
  have F7 := fun_mk (st := s_law_said) l7 c7 k7
  have b7 := F7.binds (ps := ["deck", "rich"]) fun _ _ _ _ _ _ us hl => match us, hl with | [_, _], _ => rfl
  have F8 := fun_mk (st := s_law_events) l8 c8 k8
  have b8 := F8.binds (ps := ["deck"]) fun _ _ _ _ _ _ us hl => match us, hl with | [_], _ => rfl
  have F9 := fun_mk (st := s_law_table) l9 c9 k9
  have b9 := F9.binds (ps := ["deck"]) fun _ _ _ _ _ _ us hl => match us, hl with | [_], _ => rfl
  have F10 := fun_mk (st := s_law_lengths) l10 c10 k10
  have b10 := F10.binds (ps := ["rooms"]) fun _ _ _ _ _ _ us hl => match us, hl with | [_], _ => rfl
  have F11 := fun_mk (st := s_law_shortest) l11 c11 k11
  have b11 := F11.binds (ps := ["rooms", "one", "other", "lengths"]) fun _ _ _ _ _ _ us hl => match us, hl with | [_, _, _, _], _ => rfl
  have F12 := fun_mk (st := s_law_due) l12 c12 k12
  have b12 := F12.binds (ps := ["table", "one", "other", "lengths"]) fun _ _ _ _ _ _ us hl => match us, hl with | [_, _, _, _], _ => rfl
  have F13 := fun_mk (st := s_law) l13 c13 k13
  have b13 := F13.binds (ps := ["script"]) fun _ _ _ _ _ _ us hl => match us, hl with | [_], _ => rfl
  have TT : Txt K mg ⟨_, _, _, _, _, _, _, _, _, _, _, _, _, _, _, _, _, _, _, _, _, _, _, _, _, _, _, _, C_Together⟩ := ⟨F0, PySem.W.mg_of X G a0, b0, F1, PySem.W.mg_of X G a1, b1, F2, b2, F3, ⟨a3, i3, k3⟩, b3, F4, ⟨a4, i4, k4⟩, b4, F5, PySem.W.mg_of X G a5, b5, F6, PySem.W.mg_of X G a6, b6, F7, PySem.W.mg_of X G a7, b7, F8, PySem.W.mg_of X G a8, b8, F9, PySem.W.mg_of X G a9, b9, F10, PySem.W.mg_of X G a10, b10, F11, PySem.W.mg_of X G a11, b11, F12, PySem.W.mg_of X G a12, b12, F13, PySem.W.mg_of X G a13, b13, PySem.W.mg_of X G aC_Together, ⟨pg_Together, hd_Together, po_Together, sa_Together⟩, ⟨mk_Together, a2, i2, kc_Together⟩, nF_Together_heads, PySem.W.mg_none_of X G z_dict, PySem.W.mg_none_of X G z_int, PySem.W.mg_none_of X G z_isinstance, PySem.W.mg_none_of X G z_len, PySem.W.mg_none_of X G z_list, PySem.W.mg_none_of X G z_max, PySem.W.mg_none_of X G z_min, PySem.W.mg_none_of X G z_range, PySem.W.mg_none_of X G z_sum, PySem.W.mg_none_of X G z_zip⟩
  exact ⟨_, fun s v => .of_eq rfl, fun base _ _ => ok_law TT⟩
theorem walk {l : PySem.W.OpenLaw} {q : Program} {loose : List Str} {XP : (Str → Option Value) → Heap → Prop} {YP : World → Heap → Prop} {d : DefRec} {K : Params → PySem.W.Frag} (hn : l.most = some 63) (hdf : d.params.defaults = [])
    (hY : ∀ (w : World) (h : Heap), YP w h → (K w.params).In h)
    (F : ∀ (w : World) (mg : Str → Option Value) (fa : Addr) (h : Heap), (K w.params).In h → h.Ns mainGlobals mg → mg d.name = some (.ref fa) →
      ∃ fd : FuncData, (∀ (s : Shared) (u : Value), BindsTo s fd ⟨[u], []⟩ [("script", u)]) ∧ ∀ base : Heap, (K w.params).In base → base.Ns mainGlobals mg → FnOk l.prog w (K w.params) mg base CX0 4 fa fd ["script"] (sp_law (K w.params))) :
    PySem.W.WalkO q loose XP YP l.row.toRowW d [] (fun f vs => PySem.call f vs) :=
  L2.walk_of (n := 63) (k := 4) (x := "script") (CX := fun _ => CX0) (sp := fun w => sp_law (K w.params)) hn (by decide) hdf ⟨rfl, by decide, by decide⟩ hY F (fun _ _ a ns hl _ hS => ⟨a, ns, rfl, hS, hl, fun _ => rfl⟩) fun _ _ _ _ _ z => z
end K57
open PySem PySem.W PyProof.Rows
set_option maxRecDepth 100000 in
set_option maxHeartbeats 0 in
theorem PySem.Challenge.cw_callmill_k57_parting_rows_holds : PySem.Challenge.rw_callmill_k57_parting_rows.Holds := by
  w_on; o_law; k_head; (case hw => w_witness2)
  k_fill
  refine K57.walk (l := PySem.Challenge.rw_callmill_k57_parting_rows) rfl rfl (fun w h Y => PySem.W.kIn_of Y) ?F
  case F =>
    intro w mg fa h KX G hmg
    refine' K57.all_mk KX G hmg ?aC_Together ?pg_Together ?hd_Together ?po_Together ?sa_Together ?mk_Together ?kc_Together ?nF_Together_heads ?a0 ?l0 ?c0 ?k0 ?a1 ?l1 ?c1 ?k1 ?a2 ?i2 ?l2 ?c2 ?k2 ?a3 ?i3 ?l3 ?c3 ?k3 ?a4 ?i4 ?l4 ?c4 ?k4 ?a5 ?l5 ?c5 ?k5 ?a6 ?l6 ?c6 ?k6 ?a7 ?l7 ?c7 ?k7 ?a8 ?l8 ?c8 ?k8 ?a9 ?l9 ?c9 ?k9 ?a10 ?l10 ?c10 ?k10 ?a11 ?l11 ?c11 ?k11 ?a12 ?l12 ?c12 ?k12 ?a13 ?l13 ?c13 ?k13 ?z_dict ?z_int ?z_isinstance ?z_len ?z_list ?z_max ?z_min ?z_range ?z_sum ?z_zip
    (case aC_Together => k_is)
    (case pg_Together => k_is)
    (case hd_Together => k_is)
    (case po_Together => k_is)
    (case sa_Together => k_is)
    (case mk_Together => k_is)
    (case kc_Together => k_is)
    (case nF_Together_heads => k_is)
    (case a0 => k_is)
    (case l0 => k_is)
    (case c0 => k_is)
    (case k0 => k_is)
    (case a1 => k_is)
    (case l1 => k_is)
    (case c1 => k_is)
    (case k1 => k_is)
    (case a2 => k_is)
    (case i2 => k_is)
    (case l2 => k_is)
    (case c2 => k_is)
    (case k2 => k_is)
    (case a3 => k_is)
    (case i3 => k_is)
    (case l3 => k_is)
    (case c3 => k_is)
    (case k3 => k_is)
    (case a4 => k_is)
    (case i4 => k_is)
    (case l4 => k_is)
    (case c4 => k_is)
    (case k4 => k_is)
    (case a5 => k_is)
    (case l5 => k_is)
    (case c5 => k_is)
    (case k5 => k_is)
    (case a6 => k_is)
    (case l6 => k_is)
    (case c6 => k_is)
    (case k6 => k_is)
    (case a7 => k_is)
    (case l7 => k_is)
    (case c7 => k_is)
    (case k7 => k_is)
    (case a8 => k_is)
    (case l8 => k_is)
    (case c8 => k_is)
    (case k8 => k_is)
    (case a9 => k_is)
    (case l9 => k_is)
    (case c9 => k_is)
    (case k9 => k_is)
    (case a10 => k_is)
    (case l10 => k_is)
    (case c10 => k_is)
    (case k10 => k_is)
    (case a11 => k_is)
    (case l11 => k_is)
    (case c11 => k_is)
    (case k11 => k_is)
    (case a12 => k_is)
    (case l12 => k_is)
    (case c12 => k_is)
    (case k12 => k_is)
    (case a13 => k_is)
    (case l13 => k_is)
    (case c13 => k_is)
    (case k13 => k_is)
    (case z_dict => k_is)
    (case z_int => k_is)
    (case z_isinstance => k_is)
    (case z_len => k_is)
    (case z_list => k_is)
    (case z_max => k_is)
    (case z_min => k_is)
    (case z_range => k_is)
    (case z_sum => k_is)
    (case z_zip => k_is)
