import PyProof.Rows.All
import Wide.All
import OpenK.AllK
import Wide.FinOn
import Lean
import PyProof.EqAt
import PyProof.EqKinds
import PyProof.TupleCall
import PyProof.NeKinds
import PyProof.DictUpdate
import PyProof.AttrMissHeap
import KE.KDictOf
import PyProof.TupleIter
import PyProof.WalksEnum
import PyProof.EnumMake
import PyProof.Rows.EnumRows
import PyProof.Rows.MaxTwoN
import PyProof.ZipIter
import PyProof.IsRules
import PyProof.DictRoadsH
import Wide.Seal
import PyProof.MeetsDict
import PyProof.DictIter
import PyProof.DictWalks
import KE.KDictList
import PyProof.Rows.SumAny
import PyProof.ListRange
import PyProof.AutoSeq1
import PyProof.WalkInts
import PyProof.SeqI3
import KE.KTextTable
import PyProof.MeetsStr
import PyProof.StrCalls5
import PyProof.Rows.TupDisplay
import PyProof.Rows.TupAdd
import PyProof.Rows.StrNews2
import PyProof.StrBlockI
import PyProof.DictTruth
import PyProof.Rows.SortShell
import PyProof.DictValues
import PyProof.ConsumeS
import PyProof.Draws
import PyProof.Rows.SetFrom
import PyProof.FactsAll.set_1
import KE.KDictSum
import PyProof.Rows.SortStr
import PyProof.Rows.SortWalk
import PyProof.Rows.TmSorted
import PySem.Challenge.RW_callmill_k70_whole_packs_of_other_cells
set_option Elab.async false
set_option linter.all false
set_option maxRecDepth 100000
set_option maxHeartbeats 4000000
namespace L2
open PySem PySem.Spec PyProof.Rows
abbrev Key := Sum Int Str
def keyIs : Key → Value → Bool
  | .inl k, v => Value.isInt k v
  | .inr x, v => Value.isStrOf x v
def keyH (w : World) : Key → Int
  | .inl k => hashInt k
  | .inr x => hashStr w x
theorem keyIs_shape : ∀ {k : Key} {v : Value}, keyIs k v = true → (∃ i t, k = Sum.inl i ∧ v = Value.int i t) ∨ (∃ x t, k = Sum.inr x ∧ v = Value.str x t)
  | .inl i, v, h => by
    obtain ⟨t, e⟩ := Value.isInt_shape (k := i) (v := v) h
    exact .inl ⟨i, t, rfl, e⟩
  | .inr x, v, h => by
    obtain ⟨t, e⟩ := Value.isStrOf_shape (x := x) (v := v) h
    exact .inr ⟨x, t, rfl, e⟩
theorem key_ll (a b : Int) : decide ((Sum.inl a : Key) = Sum.inl b) = (a == b) := by
  by_cases e : a = b
  · subst e; simp
  · have h : ¬ (Sum.inl a : Key) = Sum.inl b := fun q => e (Sum.inl.inj q)
    rw [decide_eq_false h]
    exact (beq_eq_false_iff_ne.mpr e).symm
theorem key_rr (a b : Str) : decide ((Sum.inr a : Key) = Sum.inr b) = decide (a = b) := by
  by_cases e : a = b
  · subst e; simp
  · have h : ¬ (Sum.inr a : Key) = Sum.inr b := fun q => e (Sum.inr.inj q)
    rw [decide_eq_false h, decide_eq_false e]
theorem key_lr (a : Int) (b : Str) : decide ((Sum.inl a : Key) = Sum.inr b) = false := decide_eq_false (fun q => nomatch q)
theorem key_rl (a : Str) (b : Int) : decide ((Sum.inr a : Key) = Sum.inl b) = false := decide_eq_false (fun q => nomatch q)
def mixKind (prog : Program) (w : World) : PySem.KeyKind prog w Key where
  is := keyIs
  hash := keyH w
  inj := fun v a b ha hb => by
    rcases keyIs_shape ha with ⟨i, t, rfl, rfl⟩ | ⟨x, t, rfl, rfl⟩
    · rcases keyIs_shape hb with ⟨j, u, rfl, e⟩ | ⟨y, u, rfl, e⟩
      · injection e with e1 _; rw [e1]
      · exact nomatch e
    · rcases keyIs_shape hb with ⟨j, u, rfl, e⟩ | ⟨y, u, rfl, e⟩
      · exact nomatch e
      · injection e with e1 _; rw [e1]
  byValue := fun k v h => by
    rcases keyIs_shape h with ⟨i, t, rfl, rfl⟩ | ⟨x, t, rfl, rfl⟩ <;> rfl
  pyHash := fun hv h => by
    rcases keyIs_shape hv with ⟨i, t, rfl, rfl⟩ | ⟨x, t, rfl, rfl⟩
    · exact wpAny_pyHash_int h
    · exact wpAny_pyHash_str h
  eqBool := fun hu hv h => by
    rcases keyIs_shape hu with ⟨i, t, rfl, rfl⟩ | ⟨x, t, rfl, rfl⟩
    · rcases keyIs_shape hv with ⟨j, u, rfl, rfl⟩ | ⟨y, u, rfl, rfl⟩
      · rw [key_ll] at h; exact wpAny_eqBool_int h
      · rw [key_lr] at h; exact SeqAt.EqAt.int_str i t y u _ _ _ _ h
    · rcases keyIs_shape hv with ⟨j, u, rfl, rfl⟩ | ⟨y, u, rfl, rfl⟩
      · rw [key_rl] at h; exact SeqAt.EqAt.str_int x t j u _ _ _ _ h
      · rw [key_rr] at h; exact wpAny_eqBool_str h
  «strs» := fun k x t v h => by
    rcases keyIs_shape h with ⟨i, u, rfl, e⟩ | ⟨y, u, rfl, e⟩
    · exact nomatch e
    · injection e with e1 _
      subst e1
      cases v <;> rfl
end L2
namespace L2
open PySem PySem.Spec PyProof.Rows
inductive V where
  | non | bl (b : Bool) | int (i : Int) | str (x : Str) | byt (b : Array UInt8) | flt (b : UInt64) | ref (a : Addr) | ty (n : String)
  deriving DecidableEq
def RelV : V → Value → Prop
  | .non, u => u = Value.none
  | .bl b, u => u = Value.bool b
  | .int i, u => ∃ t, u = Value.int i t
  | .str x, u => ∃ t, u = Value.str x t
  | .byt b, u => ∃ t, u = Value.bytes b t
  | .flt b, u => ∃ t, u = Value.float b t
  | .ref a, u => u = Value.ref a
  | .ty n, u => u = Value.type n
abbrev Vals : List V → List Value → Prop := Paired RelV
theorem Vals.length {xs : List V} {us : List Value} (r : Vals xs us) : xs.length = us.length := Paired.length r
theorem Vals.get : ∀ {xs : List V} {us : List Value} {i : Nat} {x : V}, Vals xs us → xs[i]? = some x → ∃ u, us[i]? = some u ∧ RelV x u
  | _, _, _, _, .nil, e => by simp at e
  | _, _, 0, _, .cons r _, e => by simp at e; subst e; exact ⟨_, rfl, r⟩
  | _, _, i + 1, x, .cons _ t, e => by
    obtain ⟨u, h1, h2⟩ := Vals.get (i := i) (x := x) t (by simpa using e)
    exact ⟨u, by simpa using h1, h2⟩
theorem Vals.set {x : V} {u : Value} (r : RelV x u) : ∀ {xs : List V} {us : List Value} (i : Nat), Vals xs us → Vals (xs.set i x) (us.set i u)
  | _, _, _, .nil => .nil
  | _, _, 0, .cons _ t => .cons r t
  | _, _, i + 1, .cons q t => .cons q (Vals.set r i t)
theorem Vals.append : ∀ {xs ys : List V} {us ws : List Value}, Vals xs us → Vals ys ws → Vals (xs ++ ys) (us ++ ws)
  | _, _, _, _, .nil, s => s
  | _, _, _, _, .cons r t, s => .cons r (Vals.append t s)
theorem Vals.take : ∀ {xs : List V} {us : List Value} (n : Nat), Vals xs us → Vals (xs.take n) (us.take n)
  | _, _, 0, _ => .nil
  | _, _, _ + 1, .nil => .nil
  | _, _, n + 1, .cons r t => .cons r (Vals.take n t)
theorem Vals.drop : ∀ {xs : List V} {us : List Value} (n : Nat), Vals xs us → Vals (xs.drop n) (us.drop n)
  | _, _, 0, r => r
  | _, _, _ + 1, .nil => .nil
  | _, _, n + 1, .cons _ t => Vals.drop n t
def RelO : Option V → Option Value → Prop
  | some v, some u => RelV v u
  | none, none => True
  | _, _ => False
def KV {κ : Type} : List (κ × V) → List (κ × Value) → Prop := Paired fun (p : κ × V) (q : κ × Value) => p.1 = q.1 ∧ RelV p.2 q.2
def kV : Key → V
  | .inl i => .int i
  | .inr x => .str x
inductive HO where
  | lst (xs : List V)
  | tup (xs : List V)
  | dK (kvs : List (Key × V)) | dT (kvs : List (List Key × V))
  | set (S : Int → Bool) (n : Nat)
  | ins (C dx : Addr) (fs : List (Str × V))
  | own (x : Addr)
  | xd (fs : List (Str × V))
  | met (f x : Addr)
  | rng (lo hi : Int)
  | frz (o : Obj) (u : HO)
  | tbl (ps : Array Value)
  | ext (φ : Heap → Prop)
abbrev Hp := Addr → Option HO
def upd (H : Hp) (a : Addr) (o : HO) : Hp := fun b => if b = a then some o else H b
theorem upd_same {H : Hp} {a : Addr} {o : HO} : upd H a o a = some o := by unfold upd; rw [if_pos rfl]
theorem upd_ne {H : Hp} {a b : Addr} {o : HO} (h : b ≠ a) : upd H a o b = H b := by unfold upd; rw [if_neg h]
theorem upd_upd {H : Hp} {a : Addr} {o u : HO} : upd (upd H a o) a u = upd H a u := by
  funext b; unfold upd; split <;> rfl
theorem ne_of {H : Hp} {a b : Addr} {o u : HO} (h : H a = some o) (h' : H b = some u) (d : o ≠ u) : a ≠ b := by
  intro e; subst e; rw [h] at h'; exact d (Option.some.inj h')
theorem ne_of_none {H : Hp} {a b : Addr} {o : HO} (h : H a = some o) (h' : H b = none) : a ≠ b := by
  intro e; subst e; rw [h] at h'; cases h'
section
variable (P : Program) (w : World)
def ObjOk (H : Hp) (h : Heap) (a : Addr) : HO → Prop
  | .lst xs => xs.length ≤ sizeLine ∧ ∃ (its : List Value) (n : Nat), Vals xs its ∧ h.get? a = some { cls := .type "list", data := .seq its.toArray n }
  | .tup xs => xs.length ≤ sizeLine ∧ ∃ its : List Value, Vals xs its ∧ IsTup h a its.toArray
  | .dK kvs => kvs.length ≤ sizeLine ∧ (a == sysModules) = false ∧ ∃ vs, KV kvs vs ∧ h.DictOf (mixKind P w) a vs
  | .dT kvs => kvs.length ≤ sizeLine ∧ (a == sysModules) = false ∧ ∃ xs : List (List Key × Addr × Value),
      Paired (fun (p : List Key × V) (q : List Key × Addr × Value) => p.1 = q.1 ∧ H q.2.1 = some (.tup (p.1.map kV)) ∧ RelV p.2 q.2.2) kvs xs ∧
      ∃ o es ep, h.get? a = some o ∧ o.ExactDict ∧ o.data = .dict es ep ∧ es.toList = xs.map (entryOfKey (tupleKind (mixKind P w))) ∧ (xs.map (·.1)).Nodup
  | .set S n => h.SetOf (intKind P w) a S n
  | .ins C dx fs => H dx = some (.own a) ∧ fs.length ≤ 1000 ∧ dx ≠ a ∧ h.get? a = some (PySem.W.instObj C dx) ∧
      ∃ mA, h.Ns1 dx mA ∧ (∀ f, RelO (fs.lookup f) (mA f)) ∧ PySem.Within mA (fs.map (·.1))
  | .own _ => ∃ o, h.get? a = some o
  | .xd fs => ∃ mA, h.Ns1 a mA ∧ ∀ f, RelO (fs.lookup f) (mA f)
  | .rng lo hi => ∃ t u v, h.get? a = some { cls := .type "range", data := .fields #[.int lo t, .int hi u, .int 1 v] }
  | .frz o u => h.get? a = some o ∧ ObjOk H h a u
  | .tbl ps => h.get? a = some { cls := .none, data := .fields ps }
  | .met f x => h.get? a = some (PySem.W.methodObj (.ref f) (.ref x))
  | .ext φ => φ h ∧ (∃ o, h.get? a = some o) ∧ ∀ h1 h2 : Heap, φ h1 → (∀ o, h1.get? a = some o → h2.get? a = some o) → φ h2
def HOk (H : Hp) (h : Heap) : Prop := ∀ a o, H a = some o → ObjOk P w H h a o
end
section
variable {P : Program} {w : World} {H H' : Hp} {h h' : Heap} {a : Addr} {o : HO}
theorem ObjOk.lt (x : ObjOk P w H h a o) : a < h.objs.size := by
  cases o with
  | lst xs => obtain ⟨_, _, _, _, e⟩ := x; exact Heap.lt_size e
  | tup xs => obtain ⟨_, _, _, p⟩ := x; exact p.lt
  | dK kvs => obtain ⟨_, _, _, _, o, _, _, e, _⟩ := x; exact Heap.lt_size e
  | dT kvs => obtain ⟨_, _, _, _, o, _, _, e, _⟩ := x; exact Heap.lt_size e
  | set S n => obtain ⟨o, _, _, _, e, _⟩ := x; exact Heap.lt_size e
  | ins C dx fs => obtain ⟨_, _, _, e, _⟩ := x; exact Heap.lt_size e
  | own y => obtain ⟨_, e⟩ := x; exact Heap.lt_size e
  | xd fs => obtain ⟨_, ⟨_, _, _, e, _⟩, _⟩ := x; exact Heap.lt_size e
  | rng lo hi => obtain ⟨_, _, _, e⟩ := x; exact Heap.lt_size e
  | frz ob u => obtain ⟨e, _⟩ := x; exact Heap.lt_size e
  | tbl ps => exact Heap.lt_size (show h.get? a = some _ from x)
  | met f y => exact Heap.lt_size (show h.get? a = some _ from x)
  | ext φ => obtain ⟨_, ⟨_, e⟩, _⟩ := x; exact Heap.lt_size e
theorem Paired.mapP {α β : Type} {F G : α → β → Prop} : ∀ {l₁ : List α} {l₂ : List β}, Paired F l₁ l₂ → (∀ a b, F a b → G a b) → Paired G l₁ l₂
  | _, _, .nil, _ => .nil
  | _, _, .cons r t, f => .cons (f _ _ r) (Paired.mapP t f)
theorem ObjOk.stay (x : ObjOk P w H h a o) (k : ∀ b u, (b = a ∨ H b = some (.own a)) → h.get? b = some u → h'.get? b = some u)
    (ho : ∀ b, H b = some (.own a) → H' b = some (.own a)) (ht : ∀ b xs, H b = some (.tup xs) → H' b = some (.tup xs)) : ObjOk P w H' h' a o := by
  induction o with
  | lst xs => obtain ⟨z, its, n, r, e⟩ := x; exact ⟨z, its, n, r, k _ _ (.inl rfl) e⟩
  | tup xs => obtain ⟨z, its, r, ob, e, c⟩ := x; exact ⟨z, its, r, ob, k _ _ (.inl rfl) e, c⟩
  | dK kvs => obtain ⟨z, y, vs, r, ob, es, ep, e, c⟩ := x; exact ⟨z, y, vs, r, ob, es, ep, k _ _ (.inl rfl) e, c⟩
  | dT kvs =>
    obtain ⟨z, y, xs, r, ob, es, ep, e, c⟩ := x
    exact ⟨z, y, xs, Paired.mapP r fun p q z => ⟨z.1, ht _ _ z.2.1, z.2.2⟩, ob, es, ep, k _ _ (.inl rfl) e, c⟩
  | set S n => obtain ⟨ob, es, ep, t, e, c⟩ := x; exact ⟨ob, es, ep, t, k _ _ (.inl rfl) e, c⟩
  | ins C dx fs =>
    obtain ⟨d, z, ne, e, mA, ⟨od, es, ep, e2, c⟩, r⟩ := x
    exact ⟨ho _ d, z, ne, k _ _ (.inl rfl) e, mA, ⟨od, es, ep, k _ _ (.inr d) e2, c⟩, r⟩
  | own y => obtain ⟨ob, e⟩ := x; exact ⟨ob, k _ _ (.inl rfl) e⟩
  | xd fs => obtain ⟨mA, ⟨od, es, ep, e, c⟩, r⟩ := x; exact ⟨mA, ⟨od, es, ep, k _ _ (.inl rfl) e, c⟩, r⟩
  | rng lo hi => obtain ⟨t, u, v, e⟩ := x; exact ⟨t, u, v, k _ _ (.inl rfl) e⟩
  | frz ob u ih => obtain ⟨e, q⟩ := x; exact ⟨k _ _ (.inl rfl) e, ih q⟩
  | tbl ps =>
    have e : h.get? a = some { cls := .none, data := .fields ps } := x
    show h'.get? a = some { cls := .none, data := .fields ps }
    exact k a _ (.inl rfl) e
  | met f y =>
    have e : h.get? a = some (PySem.W.methodObj (.ref f) (.ref y)) := x
    show h'.get? a = some (PySem.W.methodObj (.ref f) (.ref y))
    exact k a _ (.inl rfl) e
  | ext φ => obtain ⟨p, ⟨o, e⟩, st⟩ := x; exact ⟨st _ _ p fun o q => k _ _ (.inl rfl) q, ⟨o, k _ _ (.inl rfl) e⟩, st⟩
theorem HOk.lt (x : HOk P w H h) (e : H a = some o) : a < h.objs.size := (x a o e).lt
theorem HOk.fresh (x : HOk P w H h) (e : h.objs.size ≤ a) : H a = none := by
  cases q : H a with
  | none => rfl
  | some u => exact absurd (Nat.lt_of_lt_of_le (x.lt q) e) (Nat.lt_irrefl _)
theorem HOk.kept (x : HOk P w H h) (k : ∀ b u, h.get? b = some u → h'.get? b = some u) : HOk P w H h' := fun a o e =>
  (x a o e).stay (fun b u _ q => k b u q) (fun _ q => q) fun _ _ q => q
theorem HOk.laid (x : HOk P w H h) (k : ∀ b u, h.get? b = some u → h'.get? b = some u) (hp : h.objs.size ≤ a) (new : ObjOk P w (upd H a o) h' a o) : HOk P w (upd H a o) h' := fun b u e => by
  have hn := x.fresh hp
  by_cases hb : b = a
  · subst hb; rw [upd_same] at e; cases e; exact new
  · rw [upd_ne hb] at e
    exact (x b u e).stay (fun c v _ q => k c v q) (fun c q => by rw [upd_ne (ne_of_none q hn)]; exact q) fun c xs q => by rw [upd_ne (ne_of_none q hn)]; exact q
end
def Rd (H : Hp) (a : Addr) (u : HO) : Prop := H a = some u ∨ ∃ o, H a = some (.frz o u)
theorem Rd.ok {P : Program} {w : World} {H : Hp} {h : Heap} {a : Addr} {u : HO} (r : Rd H a u) (x : HOk P w H h) : ObjOk P w H h a u := by
  rcases r with r | ⟨o, r⟩
  · exact x a u r
  · obtain ⟨_, q⟩ := x a _ r
    exact q
def Mut : Option HO → Prop
  | some (.lst _) => True
  | some (.dK _) => True
  | some (.dT _) => True
  | some (.set _ _) => True
  | some (.ins _ _ _) => True
  | some (.ext _) => True
  | _ => False
section
variable {P : Program} {w : World} {H : Hp} {h h' : Heap} {x e : Addr} {o' : HO}
theorem HOk.write (ok : HOk P w H h) (mu : Mut (H x)) (he : e = x ∨ H e = some (.own x)) (k : ∀ b u, b ≠ e → h.get? b = some u → h'.get? b = some u) (heo : ∃ u, h'.get? e = some u)
    (new : ObjOk P w (upd H x o') h' x o') : HOk P w (upd H x o') h' := fun b u q => by
  have nown : ∀ c y, H c = some (.own y) → c ≠ x := fun c y r z => by subst z; rw [r] at mu; exact mu
  have ntup : ∀ c xs, H c = some (.tup xs) → c ≠ x := fun c xs r z => by subst z; rw [r] at mu; exact mu
  by_cases hb : b = x
  · subst hb; rw [upd_same] at q; cases q; exact new
  · rw [upd_ne hb] at q
    by_cases hbe : b = e
    · have q' : H b = some (.own x) := by
        rcases he with z | z
        · exact absurd (hbe.trans z) hb
        · rw [hbe]; exact z
      rw [q] at q'; cases q'
      obtain ⟨v, hv⟩ := heo
      exact ⟨v, by rw [hbe]; exact hv⟩
    · refine (ok b u q).stay (fun c v hc r => k c v ?_ r) (fun c r => by rw [upd_ne (nown c b r)]; exact r) fun c xs r => by rw [upd_ne (ntup c xs r)]; exact r
      rcases hc with rfl | hc
      · exact hbe
      · rintro rfl
        rcases he with z | z
        · exact nown c b hc z
        · rw [hc] at z; cases z; exact hb rfl
end
structure Un (fs ex : List Addr) (H H' : Hp) (h h' : Heap) : Prop where
  keep : ∀ b o, h.get? b = some o → H b = none → b ∉ fs → b ∉ ex → h'.get? b = some o
  slot : ∀ b o, h.get? b = some o → H b = none → b ∈ fs → b ∉ ex → ∃ sl, h'.get? b = some { o with slots := sl }
  free : ∀ b o, h.get? b = some o → H b = none → b ∉ ex → H' b = none
  there : ∀ b o, h.get? b = some o → b ∉ ex → ∃ o', h'.get? b = some o'
  tups : ∀ b xs, H b = some (.tup xs) → H' b = some (.tup xs)
  frzs : ∀ b o u, H b = some (.frz o u) → H' b = some (.frz o u)
  tbls : ∀ b ps, H b = some (.tbl ps) → ∃ more, H' b = some (.tbl (ps ++ more))
section
variable {fs fs' ex ex' : List Addr} {H H1 H2 : Hp} {h h1 h2 h' : Heap} {a x e : Addr} {o : HO}
theorem Un.any (u : Un fs ex H H1 h h1) {b : Addr} {ob : Obj} (q : h.get? b = some ob) (n : H b = none) (hx : b ∉ ex) : ∃ sl, h1.get? b = some { ob with slots := sl } := by
  by_cases hb : b ∈ fs
  · exact u.slot b ob q n hb hx
  · exact ⟨ob.slots, u.keep b ob q n hb hx⟩
theorem Un.kept (k : ∀ b u, h.get? b = some u → h'.get? b = some u) : Un fs ex H H h h' :=
  ⟨fun b ob q _ _ _ => k b ob q, fun b ob q _ _ _ => ⟨ob.slots, k b ob q⟩, fun _ _ _ n _ => n, fun b ob q _ => ⟨ob, k b ob q⟩, fun _ _ q => q, fun _ _ _ q => q, fun _ ps q => ⟨#[], by rw [q]; simp⟩⟩
theorem Un.refl : Un fs ex H H h h := Un.kept fun _ _ q => q
theorem Un.laid (k : ∀ b u, h.get? b = some u → h'.get? b = some u) (hp : h.objs.size ≤ a) (hn : H a = none) : Un fs ex H (upd H a o) h h' where
  keep := fun b u q _ _ _ => k b u q
  slot := fun b u q _ _ _ => ⟨u.slots, k b u q⟩
  free := fun b u q n _ => by rw [upd_ne (Nat.ne_of_lt (Nat.lt_of_lt_of_le (Heap.lt_size q) hp))]; exact n
  there := fun b u q _ => ⟨u, k b u q⟩
  tups := fun b xs q => by rw [upd_ne (ne_of_none q hn)]; exact q
  frzs := fun b u xs q => by rw [upd_ne (ne_of_none q hn)]; exact q
  tbls := fun b ps q => ⟨#[], by rw [upd_ne (ne_of_none q hn), q]; simp⟩
theorem Un.write (mu : Mut (H x)) (he : e = x ∨ H e = some (.own x)) (k : ∀ b u, b ≠ e → h.get? b = some u → h'.get? b = some u) (heo : ∃ u, h'.get? e = some u) : Un fs ex H (upd H x o) h h' := by
  have hx : ∀ b, H b = none → b ≠ x := fun b n z => by subst z; rw [n] at mu; exact mu
  have hb : ∀ b, H b = none → b ≠ e := fun b n z => by
    subst z
    rcases he with r | r
    · exact hx b n r
    · rw [n] at r; cases r
  have hm : ∀ b u, H b = some u → ¬ Mut (some u) → b ≠ x := fun b u q nm z => by subst z; rw [q] at mu; exact nm mu
  refine ⟨fun b u q n _ _ => k b u (hb b n) q, fun b u q n _ _ => ⟨u.slots, k b u (hb b n) q⟩, fun b u q n _ => by rw [upd_ne (hx b n)]; exact n, fun b u q _ => ?_,
    fun b xs q => by rw [upd_ne (hm b _ q fun z => z)]; exact q, fun b u xs q => by rw [upd_ne (hm b _ q fun z => z)]; exact q, fun b ps q => ⟨#[], by rw [upd_ne (hm b _ q fun z => z), q]; simp⟩⟩
  by_cases hbe : b = e
  · subst hbe; exact heo
  · exact ⟨u, k b u hbe q⟩
end
def trk (h : Heap) (H : Hp) : List Addr := (List.range h.objs.size).filter fun a => (H a).isSome
def hidT (h : Heap) (H : Hp) : Heap := PySem.W.hideAll h (trk h H)
theorem hidT_size (h : Heap) (H : Hp) : (hidT h H).objs.size = h.objs.size := PySem.W.hideAll_size _ _
theorem hidT_get {h : Heap} {H : Hp} {b : Addr} {o : Obj} (e : h.get? b = some o) (n : H b = none) : (hidT h H).get? b = some o :=
  PySem.W.hideAll_get _ e fun hm => by
    have q : (H b).isSome = true := (List.mem_filter.mp hm).2
    rw [n] at q; simp at q
theorem of_hidT {h : Heap} {H : Hp} {b : Addr} {o : Obj} (e : (hidT h H).get? b = some o) : h.get? b = some o ∧ H b = none := by
  have e' : h.get? b = some o := PySem.W.of_hideAll (trk h H) e
  refine ⟨e', ?_⟩
  cases q : H b with
  | none => rfl
  | some x =>
    have hm : b ∈ trk h H := List.mem_filter.mpr ⟨List.mem_range.mpr (Heap.lt_size e'), by simp [q]⟩
    have z : (hidT h H).get? b = none := PySem.W.hideAll_none (trk h H) hm
    rw [z] at e; cases e
def allNews (g h : Heap) (L : Addr) : List (Addr × Obj) := (List.range h.objs.size).filterMap fun a => if a = L ∨ (g.get? a).isSome = true then none else (h.get? a).map fun o => (a, o)
def rest (g h : Heap) (L d : Addr) : List (Addr × Obj) := (allNews g h L).filter fun p => decide (p.1 ≠ d)
end L2
namespace L2
open PySem PySem.Spec PyProof.Rows
structure Mod (K : PySem.W.Frag) (mg : Str → Option Value) (base : Heap) : Prop where
  kin : K.In base
  glob : base.Ns mainGlobals mg
  blt : ∃ mb, base.Ns builtinsNs mb ∧ ∀ x : Str, x ≠ "__name__" → mb x = bootBuiltins x
  nolimit : base.NoLimit
structure Cx where
  prog : Program
  w : World
  K : PySem.W.Frag
  mg : Str → Option Value
  base : Heap
  A : Around
  N : List Str
  s₀ : Shared
  H₀ : Hp
  env : Env
  outer : List Env
  stack : List Env
  ex : List Addr
  fn : Str → Bool
  calm : Bool
  pn : List (Addr × Obj)
  xe : Value → Shared → Prop
def frs (l : List Env) : List Addr := l.filterMap (·.frame)
abbrev Cx.fs (X : Cx) : List Addr := frs X.outer
def Vis (sc : Scope) (x : Str) : Prop := sc.names.lookup x = some .local ∨ sc.names.lookup x = some .cell ∨ sc.names.lookup x = some .free
def Loc (sc : Scope) (x : Str) : Prop := sc.names.lookup x = some .local ∨ sc.names.lookup x = some .cell
def Look (env : Env) (h : Heap) (m : Str → Option Value) (x : Str) (u : Value) : Prop :=
  (env.kindOf x = some .local ∧ m x = some u) ∨ ((env.kindOf x = some .cell ∨ env.kindOf x = some .free) ∧ ∃ c, env.cells.lookup x = some c ∧ h.IsCell c (some u))
structure Cx.Ok (X : Cx) : Prop where
  mod : Mod X.K X.mg X.base
  kind : X.env.scope.kind = .function
  glob : X.env.globals = mainGlobals
  blt : X.env.builtins = builtinsNs
  above : X.s₀.heap.objs.size ≤ X.env.locals
  inj : ∀ x y c, X.env.cells.lookup x = some c → X.env.cells.lookup y = some c → x = y
  has : ∀ x, (X.env.kindOf x = some .cell ∨ X.env.kindOf x = some .free) → ∃ c, X.env.cells.lookup x = some c
  cab : ∀ x c, X.fn x = true → X.env.cells.lookup x = some c → X.s₀.heap.objs.size ≤ c
  hd : X.calm = true → X.A.handled = none
  frames : X.A.frames = some X.stack
  stk : X.stack = X.outer ∨ (X.stack = X.env :: X.outer ∧ X.env.frame = some X.env.locals)
  exf : ∀ b ∈ X.ex, b ≠ X.env.locals ∧ ∀ x c, X.env.cells.lookup x = some c → c ≠ b
  bs : ∀ b o, X.base.get? b = some o → X.s₀.heap.get? b = some o ∧ X.H₀ b = none
  bsz : X.base.objs.size ≤ X.s₀.heap.objs.size
  noex : ∀ b o, X.base.get? b = some o → b ∉ X.ex
  exfs : ∀ b ∈ X.ex, b ∉ X.fs
  funs : X.s₀.heap.FunFrames X.base X.outer
  frf : ∀ b ∈ X.fs, X.H₀ b = none
structure Inv (X : Cx) (pins : List (Addr × Obj)) (σ : List (Option V)) (H : Hp) (s : Shared) : Prop where
  ok : X.Ok
  os : s.os = X.s₀.os
  bare : AllBare s.gens
  base : Un X.fs X.ex X.H₀ H X.s₀.heap s.heap
  loc : ∃ m, s.heap.Ns X.env.locals m ∧ ∀ (i : Nat) (x : Str) (v : V), X.N[i]? = some x → σ[i]? = some (some v) → Vis X.env.scope x → ∃ u, RelV v u ∧ Look X.env s.heap m x u
  cell : ∀ x c, X.env.cells.lookup x = some c → ∃ v, s.heap.IsCell c v
  free : H X.env.locals = none
  freeC : ∀ x c, X.env.cells.lookup x = some c → H c = none
  pin : ∀ p ∈ X.pn ++ pins, s.heap.get? p.1 = some p.2 ∧ H p.1 = none ∧ p.1 ≠ X.env.locals ∧ p.1 ∉ X.fs ∧ ∀ v, p.2.data ≠ .cell v
  hok : HOk X.prog X.w H s.heap
  len : σ.length = X.N.length
section
variable {X : Cx} {pins : List (Addr × Obj)} {σ : List (Option V)} {H H' : Hp} {s : Shared} {h' : Heap}
theorem Cx.Ok.nofr (ok : X.Ok) {b : Addr} {o : Obj} (e : X.base.get? b = some o) : b ∉ X.fs := fun hb => by
  have := (ok.funs.mem hb).1
  rw [e] at this; cases this
theorem Inv.bs (I : Inv X pins σ H s) : ∀ b o, X.base.get? b = some o → s.heap.get? b = some o ∧ H b = none := fun b o e =>
  ⟨I.base.keep b o (I.ok.bs b o e).1 (I.ok.bs b o e).2 (I.ok.nofr e) (I.ok.noex b o e), I.base.free b o (I.ok.bs b o e).1 (I.ok.bs b o e).2 (I.ok.noex b o e)⟩
theorem Inv.bk (I : Inv X pins σ H s) : ∀ b o, X.base.get? b = some o → s.heap.get? b = some o := fun b o e => (I.bs b o e).1
theorem Inv.mod (I : Inv X pins σ H s) : Mod X.K X.mg X.base := I.ok.mod
theorem Inv.kIn (I : Inv X pins σ H s) : X.K.In s.heap := I.ok.mod.kin.keeps I.bk
theorem Inv.lt (I : Inv X pins σ H s) : X.env.locals < s.heap.objs.size := let ⟨_, hn, _⟩ := I.loc; hn.lt
theorem Inv.sz (I : Inv X pins σ H s) : X.s₀.heap.objs.size ≤ s.heap.objs.size := Nat.le_trans I.ok.above (Nat.le_of_lt I.lt)
theorem Inv.nofs (I : Inv X pins σ H s) {a : Addr} (h : s.heap.objs.size ≤ a) : a ∉ X.fs := fun hb => by
  obtain ⟨_, o, ho, _⟩ := I.ok.funs.mem hb
  exact absurd (Nat.lt_of_lt_of_le (Heap.lt_size ho) (Nat.le_trans I.sz h)) (Nat.lt_irrefl _)
theorem Inv.cne (I : Inv X pins σ H s) : ∀ x c, X.env.cells.lookup x = some c → c ≠ X.env.locals := fun x c e z => by
  obtain ⟨v, o, ho, hd⟩ := I.cell x c e
  obtain ⟨m, ⟨o', es, ep, ho', hd', _⟩, _⟩ := I.loc
  rw [z, ho'] at ho; cases ho; rw [hd'] at hd; cases hd
theorem Inv.funs (I : Inv X pins σ H s) : s.heap.FunFrames X.base X.outer := by
  have all : ∀ (l : List Env), (∀ b ∈ frs l, b ∈ X.fs) → X.s₀.heap.FunFrames X.base l → s.heap.FunFrames X.base l := by
    intro l
    induction l with
    | nil => intro _ _; trivial
    | cons env r ih =>
      intro hs hl
      obtain ⟨hk, ⟨L, o, hf, hn, ho, hd⟩, hr⟩ := hl
      have hL : L ∈ X.fs := hs L (by unfold frs; rw [List.filterMap_cons, hf]; exact List.mem_cons_self)
      obtain ⟨sl, e⟩ := I.base.slot L o ho (I.ok.frf L hL) hL fun z => I.ok.exfs L z hL
      exact ⟨hk, ⟨L, _, hf, hn, e, hd⟩, ih (fun b hb => hs b (by unfold frs; rw [List.filterMap_cons, hf]; exact List.mem_cons_of_mem _ hb)) hr⟩
  exact all X.outer (fun _ hb => hb) I.ok.funs
theorem Inv.stack (I : Inv X pins σ H s) : s.heap.FunFrames X.base X.stack := by
  rcases I.ok.stk with e | ⟨e, hf⟩
  · rw [e]; exact I.funs
  · rw [e]
    obtain ⟨m, hn, _⟩ := I.loc
    refine .cons (by rw [I.ok.kind]; decide) hf hn ?_ I.funs
    exact Heap.get?_none_of_le (Nat.le_trans I.ok.bsz I.ok.above)
theorem Inv.stkSub (I : Inv X pins σ H s) : ∀ b ∈ frs X.stack, b ∈ X.env.locals :: X.fs := fun b hb => by
  rcases I.ok.stk with e | ⟨e, hf⟩
  · rw [e] at hb; exact List.mem_cons_of_mem _ hb
  · rw [e] at hb
    unfold frs at hb
    rw [List.filterMap_cons, hf] at hb
    exact hb
theorem Inv.stkFree (I : Inv X pins σ H s) : ∀ b ∈ frs X.stack, H b = none := fun b hb => by
  rcases List.mem_cons.mp (I.stkSub b hb) with e | hb
  · rw [e]; exact I.free
  · obtain ⟨_, o, ho, _⟩ := I.ok.funs.mem hb
    exact I.base.free b o ho (I.ok.frf b hb) fun z => I.ok.exfs b z hb
theorem Inv.step {g' : Array GenState} {t' : Nat} {d' : Drawn} {ch : List Addr} (I : Inv X pins σ H s)
    (hch : ∀ b ∈ ch, (b ∈ X.ex ∨ X.s₀.heap.objs.size ≤ b) ∧ b ≠ X.env.locals ∧ (∀ x c, X.env.cells.lookup x = some c → c ≠ b) ∧ ∀ p ∈ X.pn ++ pins, p.1 ≠ b)
    (keep : ∀ b o, b ≠ X.env.locals → b ∉ X.fs → b ∉ ch → s.heap.get? b = some o → H b = none → h'.get? b = some o)
    (slot : ∀ b o, b ≠ X.env.locals → b ∈ X.fs → b ∉ ch → s.heap.get? b = some o → H b = none → ∃ sl, h'.get? b = some { o with slots := sl }) (free : ∀ b o, b ∉ ch → s.heap.get? b = some o → H b = none → H' b = none)
    (there : ∀ b o, b ∉ ch → s.heap.get? b = some o → ∃ o', h'.get? b = some o')
    (tups : ∀ b xs, H b = some (.tup xs) → H' b = some (.tup xs)) (frzs : ∀ b o u, H b = some (.frz o u) → H' b = some (.frz o u)) (tbls : ∀ b ps, H b = some (.tbl ps) → ∃ more, H' b = some (.tbl (ps ++ more)))
    (ns : ∀ m, s.heap.Ns X.env.locals m → h'.Ns X.env.locals m) (hok : HOk X.prog X.w H' h') (hg : AllBare g') :
    Inv X pins σ H' { s with heap := h', gens := g', drawn := d', toks := t' } := by
  have neL : ∀ b o, X.s₀.heap.get? b = some o → b ≠ X.env.locals := fun b o e => Nat.ne_of_lt (Nat.lt_of_lt_of_le (Heap.lt_size e) I.ok.above)
  have neC : ∀ b o, X.s₀.heap.get? b = some o → b ∉ X.ex → b ∉ ch := fun b o e hx hb => by
    rcases (hch b hb).1 with z | z
    · exact hx z
    · exact absurd (Nat.lt_of_lt_of_le (Heap.lt_size e) z) (Nat.lt_irrefl _)
  have cellK : ∀ x c, X.env.cells.lookup x = some c → ∀ v, s.heap.IsCell c v → h'.IsCell c v := fun x c e v ⟨o, ho, hd⟩ => by
    have nch : c ∉ ch := fun z => (hch c z).2.2.1 x c e rfl
    by_cases hc : c ∈ X.fs
    · obtain ⟨sl, q⟩ := slot c o (I.cne x c e) hc nch ho (I.freeC x c e)
      exact ⟨_, q, hd⟩
    · exact ⟨o, keep c o (I.cne x c e) hc nch ho (I.freeC x c e), hd⟩
  refine ⟨I.ok, I.os, hg, ⟨fun b o e n hb hx => ?_, fun b o e n hb hx => ?_, fun b o e n hx => ?_, fun b o e hx => ?_, fun b xs e => tups b xs (I.base.tups b xs e), fun b o xs e => frzs b o xs (I.base.frzs b o xs e), fun b ps e => ?_⟩, ?_, fun x c e => ?_, ?_, fun x c e => ?_, fun p hp => ?_, hok, I.len⟩
  · exact keep b o (neL b o e) hb (neC b o e hx) (I.base.keep b o e n hb hx) (I.base.free b o e n hx)
  · obtain ⟨sl, e1⟩ := I.base.slot b o e n hb hx
    obtain ⟨sl', e2⟩ := slot b _ (neL b o e) hb (neC b o e hx) e1 (I.base.free b o e n hx)
    exact ⟨sl', e2⟩
  · obtain ⟨o', e1⟩ := I.base.there b o e hx
    exact free b o' (neC b o e hx) e1 (I.base.free b o e n hx)
  · obtain ⟨o', e1⟩ := I.base.there b o e hx
    exact there b o' (neC b o e hx) e1
  · obtain ⟨m1, e1⟩ := I.base.tbls b ps e
    obtain ⟨m2, e2⟩ := tbls b _ e1
    exact ⟨m1 ++ m2, by rw [e2, Array.append_assoc]⟩
  · obtain ⟨m, hn, hl⟩ := I.loc
    refine ⟨m, ns m hn, fun i x v e1 e2 e3 => ?_⟩
    obtain ⟨u, r, l⟩ := hl i x v e1 e2 e3
    refine ⟨u, r, ?_⟩
    rcases l with l | ⟨k, c, e, z⟩
    · exact .inl l
    · exact .inr ⟨k, c, e, cellK x c e _ z⟩
  · obtain ⟨v, z⟩ := I.cell x c e
    exact ⟨v, cellK x c e v z⟩
  · obtain ⟨m, ⟨o, _, _, ho, _⟩, _⟩ := I.loc
    exact free _ o (fun z => (hch _ z).2.1 rfl) ho I.free
  · obtain ⟨v, o, ho, hd⟩ := I.cell x c e
    exact free c o (fun z => (hch c z).2.2.1 x c e rfl) ho (I.freeC x c e)
  · obtain ⟨e, n, ne, nf, d⟩ := I.pin p hp
    have nch : p.1 ∉ ch := fun z => (hch p.1 z).2.2.2 p hp rfl
    exact ⟨keep p.1 p.2 ne nf nch e n, free p.1 p.2 nch e n, ne, nf, d⟩
theorem Inv.un {t' : Nat} (I : Inv X pins σ H s) (u : Un X.fs [] H H' s.heap h') (hok : HOk X.prog X.w H' h') : Inv X pins σ H' { s with heap := h', toks := t' } := by
  obtain ⟨m, ⟨o, es, ep, ho, r⟩, _⟩ := id I.loc
  obtain ⟨sl, hL⟩ := u.any ho I.free (by simp)
  exact I.step (g' := s.gens) (d' := s.drawn) (ch := []) (fun _ z => nomatch z) (fun b o _ hb _ e n => u.keep b o e n hb (by simp)) (fun b o _ hb _ e n => u.slot b o e n hb (by simp)) (fun b o _ e n => u.free b o e n (by simp)) (fun b o _ e => u.there b o e (by simp)) u.tups u.frzs u.tbls (fun m' hm => by
    obtain ⟨o', es', ep', ho', r'⟩ := hm
    rw [ho] at ho'; cases ho'
    exact ⟨_, es', ep', hL, r'⟩) hok I.bare
theorem Inv.call {g' : Array GenState} {t' : Nat} {d' : Drawn} {ch : List Addr} (I : Inv X pins σ H s) (u : Un (frs X.stack) ch H H' s.heap h') (hok : HOk X.prog X.w H' h') (hg : AllBare g')
    (hch : ∀ b ∈ ch, (b ∈ X.ex ∨ X.s₀.heap.objs.size ≤ b) ∧ b ≠ X.env.locals ∧ (∀ x c, X.env.cells.lookup x = some c → c ≠ b) ∧ ∀ p ∈ X.pn ++ pins, p.1 ≠ b) :
    Inv X pins σ H' { s with heap := h', gens := g', drawn := d', toks := t' } := by
  obtain ⟨m, ⟨o, es, ep, ho, r⟩, _⟩ := id I.loc
  obtain ⟨sl, hL⟩ := u.any ho I.free fun z => (hch _ z).2.1 rfl
  exact I.step (ch := ch) hch (fun b o hL hb hc e n => u.keep b o e n (fun z => (List.mem_cons.mp (I.stkSub b z)).elim hL hb) hc) (fun b o _ _ hc e n => u.any e n hc) (fun b o hc e n => u.free b o e n hc) (fun b o hc e => u.there b o e hc) u.tups u.frzs u.tbls (fun m' hm => by
    obtain ⟨o', es', ep', ho', r'⟩ := hm
    rw [ho] at ho'; cases ho'
    exact ⟨_, es', ep', hL, r'⟩) hok hg
theorem Inv.turned {t' : Nat} {it : Addr} (I : Inv X pins σ H s) (k : ∀ b o, b ≠ it → s.heap.get? b = some o → h'.get? b = some o) (hn : H it = none) (hL : it ≠ X.env.locals)
    (h1 : it ∈ X.ex ∨ X.s₀.heap.objs.size ≤ it) (h2 : ∀ x c, X.env.cells.lookup x = some c → c ≠ it) (h3 : ∀ p ∈ X.pn ++ pins, p.1 ≠ it) : Inv X pins σ H { s with heap := h', toks := t' } := by
  have nit : ∀ b u, H b = some u → b ≠ it := fun b u e z => by rw [z, hn] at e; cases e
  refine I.step (g' := s.gens) (d' := s.drawn) (ch := [it]) (fun b hb => ?_) (fun b o _ _ hc e _ => k b o (fun z => hc (by simp [z])) e) (fun b o _ _ hc e _ => ⟨o.slots, k b o (fun z => hc (by simp [z])) e⟩) (fun _ _ _ _ n => n)
    (fun b o hc e => ⟨o, k b o (fun z => hc (by simp [z])) e⟩) (fun _ _ e => e) (fun _ _ _ e => e) (fun b ps e => ⟨#[], by rw [e]; simp⟩) (fun m hm => ?_) (fun b u e => ?_) I.bare
  · have e : b = it := by simpa using hb
    subst e
    exact ⟨h1, hL, h2, h3⟩
  · obtain ⟨o, es, ep, ho, r⟩ := hm
    exact ⟨o, es, ep, k _ o (Ne.symm hL) ho, r⟩
  · refine (I.hok b u e).stay (fun c v hc q => k c v ?_ q) (fun _ q => q) fun _ _ q => q
    rcases hc with z | z
    · rw [z]; exact nit b u e
    · exact nit c _ z
theorem Inv.tok (I : Inv X pins σ H s) (t : Nat) : Inv X pins σ H { s with toks := t } := I.un (h' := s.heap) (t' := t) Un.refl I.hok
theorem Inv.kept {t' : Nat} (I : Inv X pins σ H s) (k : ∀ b u, s.heap.get? b = some u → h'.get? b = some u) : Inv X pins σ H { s with heap := h', toks := t' } := I.un (Un.kept k) (I.hok.kept k)
theorem Inv.laid {a : Addr} {o : HO} {t' : Nat} (I : Inv X pins σ H s) (k : ∀ b u, s.heap.get? b = some u → h'.get? b = some u) (hp : s.heap.objs.size ≤ a) (new : ObjOk X.prog X.w (upd H a o) h' a o) :
    Inv X pins σ (upd H a o) { s with heap := h', toks := t' } := I.un (Un.laid k hp (I.hok.fresh hp)) (I.hok.laid k hp new)
theorem Inv.write {x e : Addr} {o : HO} {t' : Nat} (I : Inv X pins σ H s) (mu : Mut (H x)) (he : e = x ∨ H e = some (.own x)) (k : ∀ b u, b ≠ e → s.heap.get? b = some u → h'.get? b = some u) (heo : ∃ u, h'.get? e = some u)
    (new : ObjOk X.prog X.w (upd H x o) h' x o) : Inv X pins σ (upd H x o) { s with heap := h', toks := t' } := I.un (Un.write mu he k heo) (I.hok.write mu he k heo new)
theorem Inv.pins_of {pins' : List (Addr × Obj)} (I : Inv X pins σ H s) (h : ∀ p ∈ pins', s.heap.get? p.1 = some p.2 ∧ H p.1 = none ∧ p.1 ≠ X.env.locals ∧ p.1 ∉ X.fs ∧ ∀ v, p.2.data ≠ .cell v) : Inv X pins' σ H s :=
  ⟨I.ok, I.os, I.bare, I.base, I.loc, I.cell, I.free, I.freeC, fun p hp => (List.mem_append.mp hp).elim (fun z => I.pin p (List.mem_append_left _ z)) (h p), I.hok, I.len⟩
theorem nodup_ix {N : List Str} (hN : N.Nodup) {i j : Nat} {x : Str} (a : N[i]? = some x) (b : N[j]? = some x) : i = j := by
  obtain ⟨h1, e1⟩ := List.getElem?_eq_some_iff.mp a
  obtain ⟨h2, e2⟩ := List.getElem?_eq_some_iff.mp b
  exact (List.getElem_inj hN).mp (e1.trans e2.symm)
theorem store_ok2 {M : Model} {A : Around} {E : Value → Shared → Prop} {i : Nat} {x : Str} {v : V} {u : Value} {Q : Unit → Shared → Prop} (I : Inv X pins σ H s) (hN : X.N.Nodup) (hi : X.N[i]? = some x) (hx : Loc X.env.scope x) (r : RelV v u)
    (h : ∀ s', Inv X pins (σ.set i (some v)) H s' → (∃ a, Heap.SameBut a s.heap s'.heap ∧ (a = X.env.locals ∨ X.env.cells.lookup x = some a)) → Q () s') (hf : X.fn x = true ∨ X.env.scope.names.lookup x = some .local := by first | exact .inl rfl | exact .inr rfl | assumption) : wpAny M A (storeName X.env x u) Q E s := by
  obtain ⟨m, hn, hl⟩ := id I.loc
  have hcls : (X.env.scope.kind == .class || (X.env.scope.kind == .module && X.env.locals != X.env.globals)) = false := by rw [I.ok.kind]; rfl
  have hiσ : i < σ.length := by rw [I.len]; exact (List.getElem?_eq_some_iff.mp hi).1
  have cne := I.cne
  have tracked : ∀ {a : Addr} {h' : Heap}, (∃ o, s.heap.get? a = some o ∧ H a = none) → Heap.SameBut a s.heap h' → HOk X.prog X.w H h' := fun {a h'} ha hs b ob e => by
    obtain ⟨_, _, hfree⟩ := ha
    refine (I.hok b ob e).stay (fun c w' hc q => (hs.2 c ?_).trans q) (fun _ q => q) fun _ _ q => q
    rintro rfl
    rcases hc with rfl | hc
    · rw [hfree] at e; cases e
    · rw [hfree] at hc; cases hc
  rcases hx with hk | hk
  · refine wpAny_storeName_local hk hn (fun h' hn' hs => ?_) hcls
    obtain ⟨oL, _, _, hoL, _⟩ := id hn
    refine h _ ⟨I.ok, I.os, I.bare, ⟨fun b o e n hb hx => ?_, fun b o e n hb hx => ?_, I.base.free, fun b o e hx => ?_, I.base.tups, I.base.frzs, I.base.tbls⟩, ⟨_, hn', fun j y v' e1 e2 e3 => ?_⟩, fun y c e => ?_, I.free, I.freeC, fun p hp => ?_, tracked ⟨oL, hoL, I.free⟩ hs, by simpa using I.len⟩ ⟨_, hs, .inl rfl⟩
    · exact (hs.2 b (Nat.ne_of_lt (Nat.lt_of_lt_of_le (Heap.lt_size e) I.ok.above))).trans (I.base.keep b o e n hb hx)
    · obtain ⟨sl, e1⟩ := I.base.slot b o e n hb hx
      exact ⟨sl, (hs.2 b (Nat.ne_of_lt (Nat.lt_of_lt_of_le (Heap.lt_size e) I.ok.above))).trans e1⟩
    · obtain ⟨o', e1⟩ := I.base.there b o e hx
      exact ⟨o', (hs.2 b (Nat.ne_of_lt (Nat.lt_of_lt_of_le (Heap.lt_size e) I.ok.above))).trans e1⟩
    · by_cases hj : j = i
      · subst hj
        rw [hi] at e1; cases e1
        rw [List.getElem?_set_self hiσ] at e2
        cases e2
        exact ⟨u, r, .inl ⟨hk, by simp⟩⟩
      · rw [List.getElem?_set_ne (Ne.symm hj)] at e2
        obtain ⟨u', r', q⟩ := hl j y v' e1 e2 e3
        refine ⟨u', r', ?_⟩
        rcases q with ⟨k, e⟩ | ⟨k, c, e, z⟩
        · refine .inl ⟨k, ?_⟩
          have : y ≠ x := fun e => hj (nodup_ix hN e1 (e ▸ hi))
          simp [this, e]
        · exact .inr ⟨k, c, e, z.sameBut hs (cne y c e)⟩
    · obtain ⟨w', z⟩ := I.cell y c e
      exact ⟨w', z.sameBut hs (cne y c e)⟩
    · obtain ⟨e, n, ne, nf, d⟩ := I.pin p hp
      exact ⟨(hs.2 p.1 ne).trans e, n, ne, nf, d⟩
  · have hfn : X.fn x = true := by
      rcases hf with z | z
      · exact z
      · rw [z] at hk; cases hk
    obtain ⟨c, hc⟩ := I.ok.has x (.inl hk)
    obtain ⟨w', z⟩ := I.cell x c hc
    refine wpAny_storeName_cell I.ok.kind hk hc z (fun h' hc' hs => ?_)
    obtain ⟨oc, hoc, hocd⟩ := id z
    refine h { s with heap := h' } ⟨I.ok, I.os, I.bare, ⟨fun b o e n hb hx => ?_, fun b o e n hb hx => ?_, I.base.free, fun b o e hx => ?_, I.base.tups, I.base.frzs, I.base.tbls⟩, ⟨m, hn.sameBut hs (Ne.symm (cne x c hc)), fun j y v' e1 e2 e3 => ?_⟩, fun y c' e => ?_, I.free, I.freeC, fun p hp => ?_, tracked ⟨oc, hoc, I.freeC x c hc⟩ hs, by simpa using I.len⟩ ⟨c, hs, .inr hc⟩
    · exact (hs.2 b (Nat.ne_of_lt (Nat.lt_of_lt_of_le (Heap.lt_size e) (I.ok.cab x c hfn hc)))).trans (I.base.keep b o e n hb hx)
    · obtain ⟨sl, e1⟩ := I.base.slot b o e n hb hx
      exact ⟨sl, (hs.2 b (Nat.ne_of_lt (Nat.lt_of_lt_of_le (Heap.lt_size e) (I.ok.cab x c hfn hc)))).trans e1⟩
    · obtain ⟨o', e1⟩ := I.base.there b o e hx
      exact ⟨o', (hs.2 b (Nat.ne_of_lt (Nat.lt_of_lt_of_le (Heap.lt_size e) (I.ok.cab x c hfn hc)))).trans e1⟩
    · by_cases hj : j = i
      · subst hj
        rw [hi] at e1; cases e1
        rw [List.getElem?_set_self hiσ] at e2
        cases e2
        exact ⟨u, r, .inr ⟨.inl hk, c, hc, hc'⟩⟩
      · rw [List.getElem?_set_ne (Ne.symm hj)] at e2
        obtain ⟨u', r', q⟩ := hl j y v' e1 e2 e3
        refine ⟨u', r', ?_⟩
        rcases q with q | ⟨k, c', e, z'⟩
        · exact .inl q
        · refine .inr ⟨k, c', e, z'.sameBut hs ?_⟩
          rintro rfl
          exact hj (nodup_ix hN e1 (I.ok.inj _ _ _ e hc ▸ hi))
    · by_cases hcc : c' = c
      · subst hcc; exact ⟨_, hc'⟩
      · obtain ⟨w2, z2⟩ := I.cell y c' e
        exact ⟨w2, z2.sameBut hs hcc⟩
    · obtain ⟨e, n, ne, nf, d⟩ := I.pin p hp
      refine ⟨(hs.2 p.1 ?_).trans e, n, ne, nf, d⟩
      intro q
      rw [q, hoc] at e
      have q' : oc = p.2 := Option.some.inj e
      exact d w' (by rw [← q']; exact hocd)
theorem store_ok {M : Model} {A : Around} {E : Value → Shared → Prop} {i : Nat} {x : Str} {v : V} {u : Value} {Q : Unit → Shared → Prop} (I : Inv X pins σ H s) (hN : X.N.Nodup) (hi : X.N[i]? = some x) (hx : Loc X.env.scope x) (r : RelV v u)
    (h : ∀ s', Inv X pins (σ.set i (some v)) H s' → Q () s') (hf : X.fn x = true ∨ X.env.scope.names.lookup x = some .local := by first | exact .inl rfl | exact .inr rfl | assumption) : wpAny M A (storeName X.env x u) Q E s :=
  store_ok2 I hN hi hx r (fun s' I' _ => h s' I') hf
theorem Inv.call' {s' : Shared} {ch : List Addr} (I : Inv X pins σ H s) (ho : s'.os = s.os) (u : Un (frs X.stack) ch H H' s.heap s'.heap) (hok : HOk X.prog X.w H' s'.heap) (hg : AllBare s'.gens)
    (hch : ∀ b ∈ ch, (b ∈ X.ex ∨ X.s₀.heap.objs.size ≤ b) ∧ b ≠ X.env.locals ∧ (∀ x c, X.env.cells.lookup x = some c → c ≠ b) ∧ ∀ p ∈ X.pn ++ pins, p.1 ≠ b) : Inv X pins σ H' s' := by
  obtain ⟨h', g', d', t', o'⟩ := s'
  have e : o' = s.os := ho
  subst e
  exact I.call (g' := g') (t' := t') (d' := d') u hok hg hch
end
abbrev XK := Value → Option Addr → Hp → Prop
abbrev St := List (Option V)
abbrev VK := V → Hp → Prop
abbrev TE := St → Hp → VK → Prop
abbrev TT := St → Hp → (Bool → Hp → Prop) → Prop
abbrev TA := St → Hp → (List V → Hp → Prop) → Prop
structure Ends where
  nx : St → Hp → Prop
  rt : VK
  bk : St → Hp → Prop := fun _ _ => False
  ct : St → Hp → Prop := fun _ _ => False
abbrev TS := Ends → St → Hp → Prop
def EP (X : Cx) (pins : List (Addr × Obj)) (σ : St) (Q : VK) (u : Value) (s' : Shared) : Prop := ∃ v H', Inv X pins σ H' s' ∧ RelV v u ∧ Q v H'
def TP (X : Cx) (pins : List (Addr × Obj)) (σ : St) (Q : Bool → Hp → Prop) (b : Bool) (s' : Shared) : Prop := ∃ H', Inv X pins σ H' s' ∧ Q b H'
def AP (X : Cx) (pins : List (Addr × Obj)) (σ : St) (Q : List V → Hp → Prop) (us : List Value) (s' : Shared) : Prop := ∃ vs H', Inv X pins σ H' s' ∧ Vals vs us ∧ Q vs H'
def SP (X : Cx) (pins : List (Addr × Obj)) (D : Ends) (f : Flow) (s' : Shared) : Prop :=
  match f with
  | .next => ∃ σ' H', Inv X pins σ' H' s' ∧ D.nx σ' H'
  | .brk => ∃ σ' H', Inv X pins σ' H' s' ∧ D.bk σ' H'
  | .cont => ∃ σ' H', Inv X pins σ' H' s' ∧ D.ct σ' H'
  | .ret u => ∃ v σ' H', Inv X pins σ' H' s' ∧ RelV v u ∧ D.rt v H'
def PE (X : Cx) (e : Expr) (t : TE) : Prop :=
  ∀ (pins : List (Addr × Obj)) (s : Shared) (σ : St) (H : Hp) (Q : VK), Inv X pins σ H s → t σ H Q → wpAny (model X.prog X.w) X.A (eval e X.env) (EP X pins σ Q) X.xe s
def PT (X : Cx) (e : Expr) (t : TT) : Prop :=
  ∀ (pins : List (Addr × Obj)) (s : Shared) (σ : St) (H : Hp) (Q : Bool → Hp → Prop), Inv X pins σ H s → t σ H Q → wpAny (model X.prog X.w) X.A (isTrue e X.env (eval e X.env)) (TP X pins σ Q) X.xe s
def PW (X : Cx) (e : Expr) (t : TT) : Prop :=
  ∀ (whole : Sem Value) (pins : List (Addr × Obj)) (s : Shared) (σ : St) (H : Hp) (Q : Bool → Hp → Prop), Inv X pins σ H s → t σ H Q → wpAny (model X.prog X.w) X.A (isTrue e X.env whole) (TP X pins σ Q) X.xe s
theorem PW.pt {X : Cx} {e : Expr} {t : TT} (h : PW X e t) : PT X e t := h _
def PA (X : Cx) (es : List Expr) (t : TA) : Prop :=
  ∀ (pos : Pos) (pins : List (Addr × Obj)) (s : Shared) (σ : St) (H : Hp) (Q : List V → Hp → Prop), Inv X pins σ H s → t σ H Q → wpAny (model X.prog X.w) X.A (spliced (backTo pos (starEach es X.env))) (AP X pins σ Q) X.xe s
def PS (X : Cx) (st : Stmt) (t : TS) : Prop :=
  ∀ (pins : List (Addr × Obj)) (s : Shared) (σ : St) (H : Hp) (D : Ends), Inv X pins σ H s → t D σ H → wpAny (model X.prog X.w) X.A (exec st X.env) (SP X pins D) X.xe s
def PSs (X : Cx) (st : List Stmt) (t : TS) : Prop :=
  ∀ (pins : List (Addr × Obj)) (s : Shared) (σ : St) (H : Hp) (D : Ends), Inv X pins σ H s → t D σ H → wpAny (model X.prog X.w) X.A (execs st X.env) (SP X pins D) X.xe s
theorem thn {α : Type} {t : Sem α} {Q Q' : α → Shared → Prop} {M : Model} {A : Around} {E : Value → Shared → Prop} {s : Shared} (h : wpAny M A t Q E s) (hQ : ∀ a s, Q a s → Q' a s) : wpAny M A t Q' E s := wpAny_mono h hQ fun _ _ x => x
end L2
namespace L2
open PySem PySem.Spec PyProof.Rows
section
variable {X : Cx}
def tVar (i : Nat) : TE := fun σ H Q => ∃ v, σ[i]? = some (some v) ∧ Q v H
def tC (v : V) : TE := fun _ H Q => Q v H
theorem pe_var {i : Nat} {x : Str} {pos : Pos} (hN : X.N[i]? = some x) (hv : Vis X.env.scope x) (hd : (x == ("__debug__" : Str)) = false := by decide) (hcd : (x == ("__classdict__" : Str)) = false := by decide) : PE X (.Name x pos) (tVar i) := by
  intro pins s σ H Q I h
  obtain ⟨v, e, h⟩ := h
  obtain ⟨m, hn, hl⟩ := I.loc
  obtain ⟨u, r, l⟩ := hl i x v hN e hv
  have fin : EP X pins σ Q u s := ⟨v, H, I, r, h⟩
  rcases l with ⟨hk, hm⟩ | ⟨hk, c, hc, hcell⟩
  · exact wpAny_Name (wpAny_loadName_local I.ok.kind hk hn hm fin) hd
  · rcases hk with hk | hk
    · exact wpAny_Name (wpAny_loadName_cell I.ok.kind hk hc hcell fin) hd
    · exact wpAny_Name (wpAny_loadName_free I.ok.kind hk hc hcell fin hcd) hd
theorem pe_int {i j pos} : PE X (.Constant (.int i) j pos) (tC (.int i)) := fun _ _ _ H _ I h => wpAny_Constant_int ⟨.int i, H, I.tok _, ⟨_, rfl⟩, h⟩
theorem pe_bl {b j pos} : PE X (.Constant (.bool b) j pos) (tC (.bl b)) := fun _ _ _ H _ I h => Constant_bool ⟨.bl b, H, I, rfl, h⟩
theorem pe_non {j pos} : PE X (.Constant .none j pos) (tC .non) := fun _ _ _ H _ I h => Constant_none ⟨.non, H, I, rfl, h⟩
theorem pe_str {x j pos} : PE X (.Constant (.str x) j pos) (tC (.str x)) := fun _ _ _ H _ I h => Calls.Constant_str ⟨.str x, H, I.tok _, ⟨_, rfl⟩, h⟩
def Gl (X : Cx) (x : Str) : Prop := X.env.kindOf x = some .globalImplicit
theorem ld_glob {E : Value → Shared → Prop} {pins : List (Addr × Obj)} {s : Shared} {σ : St} {H : Hp} {x : Str} {u : Value} {pos : Pos} {Q : Value → Shared → Prop} (I : Inv X pins σ H s) (hg : Gl X x) (hm : X.mg x = some u) (h : Q u s)
    (hd : (x == ("__debug__" : Str)) = false := by decide) : wpAny (model X.prog X.w) X.A (eval (.Name x pos) X.env) Q E s :=
  Calls.Name_function_global I.ok.kind hg (Calls.loadGlobal_global (by rw [I.ok.glob]; exact I.mod.glob.keeps I.bk) hm h) hd
theorem ld_blt {E : Value → Shared → Prop} {pins : List (Addr × Obj)} {s : Shared} {σ : St} {H : Hp} {x : Str} {u : Value} {pos : Pos} {Q : Value → Shared → Prop} (I : Inv X pins σ H s) (hg : Gl X x) (hm : X.mg x = none) (hv : bootBuiltins x = some u) (h : Q u s)
    (hn : x ≠ "__name__" := by decide) (hd : (x == ("__debug__" : Str)) = false := by decide) : wpAny (model X.prog X.w) X.A (eval (.Name x pos) X.env) Q E s := by
  obtain ⟨mb, h1, h2⟩ := I.mod.blt
  exact Calls.Name_function_global I.ok.kind hg (Calls.loadGlobal_builtin (by rw [I.ok.glob]; exact I.mod.glob.keeps I.bk) hm (by rw [I.ok.blt]; exact h1.keeps I.bk) ((h2 x hn).trans hv) h) hd
theorem pe_glob {x : Str} {v : V} {u : Value} {pos : Pos} (hg : Gl X x) (hm : X.mg x = some u) (r : RelV v u) (hd : (x == ("__debug__" : Str)) = false := by decide) : PE X (.Name x pos) (tC v) :=
  fun _ _ _ H _ I h => ld_glob I hg hm ⟨v, H, I, r, h⟩ hd
variable {a b : Expr} {ta tb : TE} {pos : Pos}
def tB (t : TE) : TT := fun σ H Q => t σ H fun x H1 => ∃ c, x = .bl c ∧ Q c H1
variable {tA tB' : TT} {rest : List Expr}
def tAnd (t u : TT) : TT := fun σ H Q => t σ H fun c H1 => if c = true then u σ H1 Q else Q false H1
def tOr (t u : TT) : TT := fun σ H Q => t σ H fun c H1 => if c = true then Q true H1 else u σ H1 Q
def tNot (t : TT) : TT := fun σ H Q => t σ H fun c H1 => Q (!c) H1
theorem pw_and1 (ha : PT X a tA) : PW X (.BoolOp .And [a] pos) tA := by
  intro wh pins s σ H Q I h
  refine isTrue_and (thn (ha pins s σ H Q I h) fun c s1 e => ?_)
  cases c with
  | true => exact isTrue_and_nil e
  | false => exact e
theorem pw_or1 (ha : PT X a tA) : PW X (.BoolOp .Or [a] pos) tA := by
  intro wh pins s σ H Q I h
  refine isTrue_or (thn (ha pins s σ H Q I h) fun c s1 e => ?_)
  cases c with
  | false => exact isTrue_or_nil e
  | true => exact e
theorem pw_and (ha : PT X a tA) (hb : PW X (.BoolOp .And (b :: rest) pos) tB') : PW X (.BoolOp .And (a :: b :: rest) pos) (tAnd tA tB') := by
  intro wh pins s σ H Q I h
  refine isTrue_and (thn (ha pins s σ H _ I h) fun c s1 ⟨H1, I1, q1⟩ => ?_)
  cases c with
  | true => exact hb wh pins s1 σ H1 Q I1 q1
  | false => exact ⟨H1, I1, q1⟩
theorem pw_or (ha : PT X a tA) (hb : PW X (.BoolOp .Or (b :: rest) pos) tB') : PW X (.BoolOp .Or (a :: b :: rest) pos) (tOr tA tB') := by
  intro wh pins s σ H Q I h
  refine isTrue_or (thn (ha pins s σ H _ I h) fun c s1 ⟨H1, I1, q1⟩ => ?_)
  cases c with
  | true => exact ⟨H1, I1, q1⟩
  | false => exact hb wh pins s1 σ H1 Q I1 q1
theorem pt_not (ha : PT X a tA) : PT X (.UnaryOp .Not a pos) (tNot tA) := by
  intro pins s σ H Q I h
  exact isTrue_not (ha pins s σ H (fun c H1 => Q (!c) H1) I h)
def tAndV (ta tb : TE) : TE := fun σ H Q => ta σ H fun x H1 => ∃ c, x = .bl c ∧ if c = true then tb σ H1 Q else Q (.bl false) H1
theorem pe_one {op} {t : TE} (h : PE X a t) : PE X (.BoolOp op [a] pos) t := fun pins s σ H Q I hw => BoolOp_one (h pins s σ H Q I hw)
theorem pe_and (ha : PE X a ta) (hb : PE X (.BoolOp .And (b :: rest) pos) tb) : PE X (.BoolOp .And (a :: b :: rest) pos) (tAndV ta tb) := by
  intro pins s σ H Q I h
  refine BoolOp_and (thn (ha pins s σ H _ I h) fun v s1 ⟨x, H1, I1, r1, q1⟩ => ?_)
  obtain ⟨c, rfl, q1⟩ := q1
  cases r1
  refine wpAny_truthy_bool ?_
  cases c with
  | true => exact hb pins s1 σ H1 Q I1 q1
  | false => exact ⟨.bl false, H1, I1, rfl, q1⟩
def tIf (t : TT) (ta tb : TE) : TE := fun σ H Q => t σ H fun c H1 => if c = true then ta σ H1 Q else tb σ H1 Q
theorem pe_ifExp {c : Expr} (hc : PT X c tA) (ha : PE X a ta) (hb : PE X b tb) : PE X (.IfExp c a b pos) (tIf tA ta tb) := by
  intro pins s σ H Q I h
  refine wpAny_IfExp (thn (hc pins s σ H _ I h) fun d s1 ⟨H1, I1, q1⟩ => ?_)
  cases d with
  | true => exact ha pins s1 σ H1 Q I1 q1
  | false => exact hb pins s1 σ H1 Q I1 q1
end
end L2
namespace L2
open PySem PySem.Spec PyProof.Rows
def SqL (K : PySem.W.Frag) (H : Hp) (a : Addr) (xs : List V) : Prop :=
  Rd H a (.lst xs) ∨
    ∃ (o : Obj) (its : Array Value) (n : Nat), K.lookup a = some o ∧ o.cls = .type "list" ∧ o.dict = none ∧ o.data = .seq its n ∧ its.size ≤ sizeLine ∧ Vals xs its.toList
def SqT (K : PySem.W.Frag) (H : Hp) (a : Addr) (xs : List V) : Prop :=
  Rd H a (.tup xs) ∨
    ∃ (o : Obj) (its : Array Value) (n : Nat), K.lookup a = some o ∧ o.cls = .type "tuple" ∧ o.data = .seq its n ∧ its.size ≤ sizeLine ∧ Vals xs its.toList
def absV : Value → Option V
  | .none => some .non
  | .bool b => some (.bl b)
  | .int i _ => some (.int i)
  | .str x _ => some (.str x)
  | .bytes b _ => some (.byt b)
  | .float b _ => some (.flt b)
  | .ref a => some (.ref a)
  | .type n => some (.ty n)
  | _ => none
theorem RelV.abs {x : V} {u : Value} (r : RelV x u) : absV u = some x := by
  cases x with
  | non => cases r; rfl
  | bl _ => cases r; rfl
  | int _ => obtain ⟨t, rfl⟩ := r; rfl
  | str _ => obtain ⟨t, rfl⟩ := r; rfl
  | byt _ => obtain ⟨t, rfl⟩ := r; rfl
  | flt _ => obtain ⟨t, rfl⟩ := r; rfl
  | ref _ => cases r; rfl
  | ty _ => cases r; rfl
theorem RelV.inj {x y : V} {u : Value} (r : RelV x u) (q : RelV y u) : x = y := Option.some.inj (r.abs.symm.trans q.abs)
theorem Vals.inj : ∀ {xs ys : List V} {us : List Value}, Vals xs us → Vals ys us → xs = ys
  | _, _, _, .nil, .nil => rfl
  | _, _, _, .cons r t, .cons r' t' => by rw [r.inj r', Vals.inj t t']
section
variable {X : Cx} {pins : List (Addr × Obj)} {σ : St} {H : Hp} {s : Shared} {a : Addr} {xs ys : List V}
theorem SqL.of {K : PySem.W.Frag} (h : H a = some (.lst xs)) : SqL K H a xs := .inl (.inl h)
theorem SqT.of {K : PySem.W.Frag} (h : H a = some (.tup xs)) : SqT K H a xs := .inl (.inl h)
theorem Inv.list (I : Inv X pins σ H s) (h : SqL X.K H a xs) : ∃ its : List Value, Vals xs its ∧ PlainL s.heap a its.toArray ∧ xs.length ≤ sizeLine := by
  rcases h with h | ⟨o, its, n, hk, hc, hd, hs, hz, r⟩
  · obtain ⟨z, its, n, r, e⟩ := h.ok I.hok
    exact ⟨its, r, ⟨_, n, e, rfl, rfl, rfl⟩, z⟩
  · refine ⟨its.toList, r, ⟨o, n, I.kIn a o hk, hc, hd, by simpa using hs⟩, ?_⟩
    have e := r.length
    simp only [Array.length_toList] at e
    omega
theorem Inv.tuple (I : Inv X pins σ H s) (h : SqT X.K H a xs) : ∃ its : List Value, Vals xs its ∧ IsTup s.heap a its.toArray ∧ xs.length ≤ sizeLine := by
  rcases h with h | ⟨o, its, n, hk, hc, hs, hz, r⟩
  · obtain ⟨z, its, r, p⟩ := h.ok I.hok
    exact ⟨its, r, p, z⟩
  · refine ⟨its.toList, r, ⟨o, I.kIn a o hk, hc, n, by simpa using hs⟩, ?_⟩
    have e := r.length
    simp only [Array.length_toList] at e
    omega
theorem Inv.list_inj (I : Inv X pins σ H s) (h : SqL X.K H a xs) (h' : SqL X.K H a ys) : xs = ys := by
  obtain ⟨its, r, ⟨o, n, e, _, _, d⟩, _⟩ := I.list h
  obtain ⟨its', r', ⟨o', n', e', _, _, d'⟩, _⟩ := I.list h'
  rw [e] at e'; cases e'
  rw [d] at d'
  injection d' with d1 _
  have : its = its' := by simpa using congrArg Array.toList d1
  subst this
  exact r.inj r'
theorem Inv.tuple_inj (I : Inv X pins σ H s) (h : SqT X.K H a xs) (h' : SqT X.K H a ys) : xs = ys := by
  obtain ⟨its, r, ⟨o, e, _, n, d⟩, _⟩ := I.tuple h
  obtain ⟨its', r', ⟨o', e', _, n', d'⟩, _⟩ := I.tuple h'
  rw [e] at e'; cases e'
  rw [d] at d'
  injection d' with d1 _
  have : its = its' := by simpa using congrArg Array.toList d1
  subst this
  exact r.inj r'
end
abbrev Cx.wish (X : Cx) (E : Value → Shared → Prop) : Cx := { X with xe := E }
abbrev Cx.nox (X : Cx) : Cx := X.wish fun _ _ => False
theorem Cx.Ok.wish {X : Cx} (ok : X.Ok) (E : Value → Shared → Prop) : (X.wish E).Ok :=
  ⟨ok.mod, ok.kind, ok.glob, ok.blt, ok.above, ok.inj, ok.has, ok.cab, ok.hd, ok.frames, ok.stk, ok.exf, ok.bs, ok.bsz, ok.noex, ok.exfs, ok.funs, ok.frf⟩
theorem Cx.Ok.unwish {X : Cx} {E : Value → Shared → Prop} (ok : (X.wish E).Ok) : X.Ok :=
  ⟨ok.mod, ok.kind, ok.glob, ok.blt, ok.above, ok.inj, ok.has, ok.cab, ok.hd, ok.frames, ok.stk, ok.exf, ok.bs, ok.bsz, ok.noex, ok.exfs, ok.funs, ok.frf⟩
section
variable {X : Cx} {pins : List (Addr × Obj)} {σ : St} {H : Hp} {s : Shared} {E : Value → Shared → Prop}
theorem Inv.wish (I : Inv X pins σ H s) (E : Value → Shared → Prop) : Inv (X.wish E) pins σ H s := ⟨I.ok.wish E, I.os, I.bare, I.base, I.loc, I.cell, I.free, I.freeC, I.pin, I.hok, I.len⟩
theorem Inv.unwish (I : Inv (X.wish E) pins σ H s) : Inv X pins σ H s := ⟨I.ok.unwish, I.os, I.bare, I.base, I.loc, I.cell, I.free, I.freeC, I.pin, I.hok, I.len⟩
theorem SP.unwish {D : Ends} {f : Flow} {s' : Shared} (h : SP (X.wish E) pins D f s') : SP X pins D f s' := by
  cases f with
  | next => obtain ⟨σ', H', I, q⟩ := h; exact ⟨σ', H', I.unwish, q⟩
  | brk => obtain ⟨σ', H', I, q⟩ := h; exact ⟨σ', H', I.unwish, q⟩
  | cont => obtain ⟨σ', H', I, q⟩ := h; exact ⟨σ', H', I.unwish, q⟩
  | ret u => obtain ⟨v, σ', H', I, r, q⟩ := h; exact ⟨v, σ', H', I.unwish, r, q⟩
theorem PSs.nox {st : List Stmt} {t : TS} (h : PSs X.nox st t) : PSs X st t := fun pins s σ H D I hw =>
  wpAny_mono (h pins s σ H D (I.wish _) hw) (fun _ _ q => q.unwish) fun _ _ z => False.elim z
end
section
variable {X : Cx} {st : Stmt} {rest : List Stmt} {t u : TS} {e : Expr} {te : TE} {pos : Pos}
def tNext : TS := fun D σ H => D.nx σ H
def tSeq (t u : TS) : TS := fun D σ H => t { D with nx := u D } σ H
theorem pss_nil : PSs X [] tNext := fun _ _ σ H _ I h => wpAny_execs_nil ⟨σ, H, I, h⟩
theorem pss_cons (h1 : PS X st t) (h2 : PSs X rest u) : PSs X (st :: rest) (tSeq t u) := by
  intro pins s σ H D I h
  refine wpAny_execs_cons (thn (h1 pins s σ H { D with nx := u D } I h) fun f s1 q => ?_)
  cases f with
  | next =>
    obtain ⟨σ', H', I', q⟩ := q
    exact h2 pins s1 σ' H' D I' q
  | ret v => exact q
  | brk => exact q
  | cont => exact q
theorem pss_one (h1 : PS X st t) : PSs X [st] t := by
  intro pins s σ H D I h
  refine wpAny_execs_cons (thn (h1 pins s σ H D I h) fun f s1 q => ?_)
  cases f with
  | next => exact wpAny_execs_nil q
  | ret v => exact q
  | brk => exact q
  | cont => exact q
theorem Inv.quiet {pins : List (Addr × Obj)} {σ : St} {H : Hp} {s : Shared} (I : Inv X pins σ H s) : interactive X.env = false := by simp [interactive, I.ok.kind]
def tDrop (te : TE) : TS := fun D σ H => te σ H fun _ H1 => D.nx σ H1
theorem ps_expr (he : PE X e te) (hs : swapsWith e none pos.line X.env = pure false := by rfl) : PS X (.Expr e pos) (tDrop te) := by
  intro pins s σ H D I h
  exact wpAny_Expr_any (thn (he pins s σ H _ I h) fun v s1 ⟨x, H1, I1, r1, q1⟩ => ⟨σ, H1, I1, q1⟩) I.quiet hs
def tRet (te : TE) : TS := fun D σ H => te σ H D.rt
theorem ps_ret (he : PE X e te) : PS X (.Return (some e) pos) (tRet te) := by
  intro pins s σ H D I h
  exact wpAny_Return_some (thn (he pins s σ H _ I h) fun v s1 ⟨x, H1, I1, r1, q1⟩ => ⟨x, σ, H1, I1, r1, q1⟩)
def tIfS (c : TT) (t u : TS) : TS := fun D σ H => c σ H fun b H1 => if b = true then t D σ H1 else u D σ H1
theorem ps_if {c : Expr} {a b : List Stmt} {tc : TT} (hc : PT X c tc) (ha : PSs X a t) (hb : PSs X b u) : PS X (.If c a b pos) (tIfS tc t u) := by
  intro pins s σ H D I h
  refine wpAny_If (thn (hc pins s σ H _ I h) fun d s1 ⟨H1, I1, q1⟩ => ?_)
  cases d with
  | true => exact ha pins s1 σ H1 D I1 q1
  | false => exact hb pins s1 σ H1 D I1 q1
end
abbrev TG := V → St → Hp → (St → Hp → Prop) → Prop
abbrev TGs := List V → St → Hp → (St → Hp → Prop) → Prop
def PG (X : Cx) (target : Expr) (t : TG) : Prop :=
  ∀ (pins : List (Addr × Obj)) (s : Shared) (σ : St) (H : Hp) (v : V) (u : Value) (Q : St → Hp → Prop), Inv X pins σ H s → RelV v u → t v σ H Q →
    wpAny (model X.prog X.w) X.A (assign target X.env u) (fun _ s' => ∃ σ' H', Inv X pins σ' H' s' ∧ Q σ' H') X.xe s
def PGs (X : Cx) (ts : List Expr) (t : TGs) : Prop :=
  ∀ (pins : List (Addr × Obj)) (s : Shared) (σ : St) (H : Hp) (vs : List V) (us : List Value) (Q : St → Hp → Prop), Inv X pins σ H s → Vals vs us → t vs σ H Q →
    wpAny (model X.prog X.w) X.A (assignInOrder ((assignEach ts X.env).map (·.2)) us) (fun _ s' => ∃ σ' H', Inv X pins σ' H' s' ∧ Q σ' H') X.xe s
abbrev TSet := V → V → V → Hp → (Hp → Prop) → Prop
def PSet (X : Cx) (t : TSet) : Prop :=
  ∀ (pins : List (Addr × Obj)) (s : Shared) (σ : St) (H : Hp) (o i v : V) (ov iv u : Value) (Q : Hp → Prop), Inv X pins σ H s → RelV o ov → RelV i iv → RelV v u → t o i v H Q →
    wpAny (model X.prog X.w) X.A (setItem ov iv u) (fun _ s' => ∃ H', Inv X pins σ H' s' ∧ Q H') X.xe s
abbrev TIp := V → V → Hp → VK → Prop
def PIp (X : Cx) (op : Operator) (t : TIp) : Prop :=
  ∀ (pins : List (Addr × Obj)) (s : Shared) (σ : St) (H : Hp) (x y : V) (v u : Value) (Q : VK), Inv X pins σ H s → RelV x v → RelV y u → t x y H Q →
    wpAny (model X.prog X.w) X.A (inplaceOp op v u) (EP X pins σ Q) X.xe s
section
variable {X : Cx} {pos : Pos}
def gName (i : Nat) : TG := fun v σ H Q => Q (σ.set i (some v)) H
theorem pg_name {i : Nat} {x : Str} (hN : X.N.Nodup) (hi : X.N[i]? = some x) (hx : Loc X.env.scope x) (hf : X.fn x = true ∨ X.env.scope.names.lookup x = some .local := by first | exact .inl rfl | exact .inr rfl | assumption) : PG X (.Name x pos) (gName i) := by
  intro pins s σ H v u Q I r h
  exact wpAny_assign_Name (store_ok I hN hi hx r (fun s' I' => ⟨_, H, I', h⟩) hf)
def gNil : TGs := fun vs σ H Q => vs = [] ∧ Q σ H
def gCons (t : TG) (u : TGs) : TGs := fun vs σ H Q => ∃ v r, vs = v :: r ∧ t v σ H fun σ' H' => u r σ' H' Q
theorem pgs_nil : PGs X [] gNil := by
  intro pins s σ H vs us Q I r h
  obtain ⟨e, h⟩ := h
  subst e
  cases r
  exact assignInOrder_nil ⟨σ, H, I, h⟩
theorem pgs_cons {e : Expr} {es : List Expr} {t : TG} {u : TGs} (h1 : PG X e t) (h2 : PGs X es u)
    (hs : (assignEach (e :: es) X.env).map (·.2) = assign e X.env :: (assignEach es X.env).map (·.2) := by rfl) : PGs X (e :: es) (gCons t u) := by
  intro pins s σ H vs us Q I r h
  obtain ⟨v, vr, e1, h⟩ := h
  subst e1
  cases r with
  | cons r rr =>
    rw [hs]
    refine assignInOrder_cons (thn (h1 pins s σ H _ _ _ I r h) fun _ s1 ⟨σ1, H1, I1, q1⟩ => ?_)
    exact h2 pins s1 σ1 H1 _ _ Q I1 rr q1
def gTup (K : PySem.W.Frag) (n : Nat) (t : TGs) : TG := fun v σ H Q => ∃ a xs, v = .ref a ∧ SqT K H a xs ∧ xs.length = n ∧ t xs σ H Q
theorem pg_tup {es : List Expr} {k : Nat} {t : TGs} {n : Nat} (hc : X.calm = true) (h : PGs X es t)
    (hn : (assignEach es X.env).length = n := by rfl) (hst : (assignEach es X.env).findIdx? (·.1) = none := by rfl) : PG X (.Tuple es k pos) (gTup X.K n t) := by
  intro pins s σ H v u Q I r hw
  obtain ⟨a, xs, e1, hq, hl, hw⟩ := hw
  subst e1
  cases r
  obtain ⟨its, rv, ht, hz⟩ := I.tuple hq
  refine assign_Tuple_tuple (I.ok.hd hc) ht (by simp [hn, ← hl, rv.length]) hst fun h' hx => ?_
  have I1 : Inv X pins σ H { s with heap := h' } := I.kept (t' := s.toks) fun b o e => hx b o (Nat.ne_of_lt (Heap.lt_size e)) e
  exact h pins _ σ H xs _ Q I1 (by simpa using rv) hw
def gSub (to ti : TE) (t : TSet) : TG := fun v σ H Q => to σ H fun o H1 => ti σ H1 fun i H2 => t o i v H2 fun H3 => Q σ H3
theorem pg_sub {o i : Expr} {to ti : TE} {t : TSet} (ho : PE X o to) (hi : PE X i ti) (hs : PSet X t)
    (ha : ∀ v, assign (.Subscript o i pos) X.env v = (do
      let ov ← holding [v] (eval o X.env)
      let iv ← holding [v, ov] (eval i X.env)
      standAt pos
      holding [v, ov, iv] (setItem ov iv v)
      release [v, ov, iv] []) := by intro _; rfl) : PG X (.Subscript o i pos) (gSub to ti t) := by
  intro pins s σ H v u Q I r h
  rw [ha]
  refine wpAny_bind (wpAny_holding (thn (ho pins s σ H _ I h) fun ov s1 ⟨x, H1, I1, r1, q1⟩ => ?_))
  refine wpAny_bind (wpAny_holding (thn (hi pins s1 σ H1 _ I1 q1) fun iv s2 ⟨y, H2, I2, r2, q2⟩ => ?_))
  refine wpAny_bind (wpAny_standAt (wpAny_bind (wpAny_holding (thn (hs pins s2 σ H2 x y v ov iv u _ I2 r1 r2 r q2) fun _ s3 ⟨H3, I3, q3⟩ => ?_))))
  exact wpAny_release ⟨σ, H3, I3, q3⟩
def tAsg (te : TE) (g : TG) : TS := fun D σ H => te σ H fun x H1 => g x σ H1 D.nx
theorem ps_asg {tg e : Expr} {te : TE} {g : TG} (he : PE X e te) (hg : PG X tg g) (hs : swapsWithSole [tg] e pos.line X.env = pure false := by rfl) (hw : swappedStores [tg] e X.env = pure none := by rfl)
    (h1 : (assignEach [tg] X.env).map (·.2) = [assign tg X.env] := by rfl) : PS X (.Assign [tg] e pos) (tAsg te g) := by
  intro pins s σ H D I h
  refine wpAny_Assign_stores (thn (he pins s σ H _ I h) fun v s1 ⟨x, H1, I1, r1, q1⟩ => ?_) hs hw
  rw [h1]
  exact thn (hg pins s1 σ H1 x v _ I1 r1 q1) fun _ s2 q => q
theorem ps_set {i : Nat} {x : Str} {e : Expr} {te : TE} {pos' : Pos} (hN : X.N.Nodup) (hi : X.N[i]? = some x) (hx : Loc X.env.scope x) (he : PE X e te) (hs : swapsWith e (some (.Name x pos')) pos.line X.env = pure false := by rfl) (hf : X.fn x = true ∨ X.env.scope.names.lookup x = some .local := by first | exact .inl rfl | exact .inr rfl | assumption) :
    PS X (.Assign [.Name x pos'] e pos) (tAsg te (gName i)) := by
  intro pins s σ H D I h
  refine wpAny_Assign_Name (thn (he pins s σ H _ I h) fun v s1 ⟨y, H1, I1, r1, q1⟩ => ?_) hs
  exact store_ok I1 hN hi hx r1 (fun s2 I2 => ⟨_, H1, I2, q1⟩) hf
def tAug (i : Nat) (te : TE) (ti : TIp) : TS := fun D σ H => ∃ x, σ[i]? = some (some x) ∧ te σ H fun y H1 => ti x y H1 fun z H2 => D.nx (σ.set i (some z)) H2
theorem ps_aug {i : Nat} {x : Str} {e : Expr} {te : TE} {op : Operator} {ti : TIp} {pos' : Pos} (hN : X.N.Nodup) (hi : X.N[i]? = some x) (hx : Loc X.env.scope x) (he : PE X e te) (ho : PIp X op ti) (hf : X.fn x = true ∨ X.env.scope.names.lookup x = some .local := by first | exact .inl rfl | exact .inr rfl | assumption) :
    PS X (.AugAssign (.Name x pos') op e pos) (tAug i te ti) := by
  intro pins s σ H D I h
  obtain ⟨v, e1, h⟩ := h
  obtain ⟨m, hn, hl⟩ := I.loc
  have vis : Vis X.env.scope x := by rcases hx with k | k; exact .inl k; exact .inr (.inl k)
  obtain ⟨u, r, l⟩ := hl i x v hi e1 vis
  refine wpAny_AugAssign_Name ?_
  have go : wpAny (model X.prog X.w) X.A (eval e X.env) (fun w s₂ => wpAny (model X.prog X.w) X.A (inplaceOp op u w) (fun r s₃ => wpAny (model X.prog X.w) X.A (storeName X.env x r) (fun _ => SP X pins D .next) X.xe s₃) X.xe s₂) X.xe s := by
    refine thn (he pins s σ H _ I h) fun w s1 ⟨y, H1, I1, r1, q1⟩ => ?_
    refine thn (ho pins s1 σ H1 v y u w _ I1 r r1 q1) fun z s2 ⟨zv, H2, I2, r2, q2⟩ => ?_
    exact store_ok I2 hN hi hx r2 (fun s3 I3 => ⟨_, H2, I3, q2⟩) hf
  rcases l with ⟨hk, hm⟩ | ⟨hk, c, hc, hcell⟩
  · exact wpAny_loadName_local I.ok.kind hk hn hm go
  · rcases hk with hk | hk
    · exact wpAny_loadName_cell I.ok.kind hk hc hcell go
    · rcases hx with k | k
      · have : X.env.scope.names.lookup x = some .free := hk
        rw [k] at this; cases this
      · have : X.env.scope.names.lookup x = some .free := hk
        rw [k] at this; cases this
def ipI (f : Int → Int → Int) : TIp := fun x y H Q => ∃ i j, x = .int i ∧ y = .int j ∧ Q (.int (f i j)) H
theorem ip_add : PIp X .Add (ipI fun i j => i + j) := by
  intro pins s σ H x y v u Q I r1 r2 h
  obtain ⟨i, j, e1, e2, q⟩ := h
  subst e1; subst e2
  obtain ⟨t, rfl⟩ := r1
  obtain ⟨t', rfl⟩ := r2
  exact iadd_int ⟨.int _, H, I.tok _, ⟨_, rfl⟩, q⟩
end
section
variable {X : Cx} {pos : Pos}
def tWhile (c : TT) (tb : TS) : TS := fun D σ H => ∃ W : Nat → St → Hp → Prop, (∃ m, W m σ H) ∧ ∀ m σ H, W m σ H →
  c σ H fun b H1 => if b = true then ∃ N : St → Hp → Prop, (∀ σ' H', N σ' H' → ∃ m', m' < m ∧ W m' σ' H') ∧ tb { D with nx := N, ct := N, bk := D.nx } σ H1 else D.nx σ H1
theorem ps_while {c : Expr} {body : List Stmt} {tc : TT} {tb : TS} (hp : PassesOwn (model X.prog X.w) X.A X.env X.xe) (hc : PT X c tc) (hb : PSs X body tb) : PS X (.While c body [] pos) (tWhile tc tb) := by
  intro pins s σ H D I h
  obtain ⟨W, ⟨m0, w0⟩, turn⟩ := h
  refine wpAny_While (codeAny_whileLoop (fun n s' => ∃ σ' H', Inv X pins σ' H' s' ∧ W n σ' H') ?_ m0 ⟨σ, H, I, w0⟩)
  rintro n s1 ⟨σ1, H1, I1, w1⟩
  refine wpAny_passesOwn hp (thn (hc pins s1 σ1 H1 _ I1 (turn n σ1 H1 w1)) fun b s2 ⟨H2, I2, q2⟩ => ?_)
  cases b with
  | true =>
    obtain ⟨N, hN, q2⟩ := q2
    rw [if_pos rfl]
    refine wpAny_passesOwn hp (thn (hb pins s2 σ1 H2 _ I2 q2) fun f s3 q3 => ?_)
    cases f with
    | next =>
      obtain ⟨σ3, H3, I3, n3⟩ := q3
      obtain ⟨m', hm, w3⟩ := hN σ3 H3 n3
      exact ⟨m', hm, σ3, H3, I3, w3⟩
    | cont =>
      obtain ⟨σ3, H3, I3, n3⟩ := q3
      obtain ⟨m', hm, w3⟩ := hN σ3 H3 n3
      exact ⟨m', hm, σ3, H3, I3, w3⟩
    | brk => exact q3
    | ret v => exact q3
  | false =>
    rw [if_neg Bool.false_ne_true]
    exact wpAny_execs_nil ⟨σ1, H2, I2, q2⟩
end
structure It where
  go : Nat → Hp → Prop
  yld : Nat → Hp → V → Hp → Prop
  stop : Nat → Hp → Prop
def FpOk (X : Cx) (pins : List (Addr × Obj)) (H : Hp) (b : Addr) : Prop :=
  H b = none ∧ b ≠ X.env.locals ∧ b ∉ X.fs ∧ (b ∈ X.ex ∨ X.s₀.heap.objs.size ≤ b) ∧ (∀ x c, X.env.cells.lookup x = some c → c ≠ b) ∧ ∀ p ∈ X.pn ++ pins, p.1 ≠ b
theorem Inv.fpOk {X : Cx} {pins : List (Addr × Obj)} {σ : St} {H H' : Hp} {s : Shared} {b : Addr} (I : Inv X pins σ H s) (hb : s.heap.objs.size ≤ b) (hn : H' b = none) : FpOk X pins H' b := by
  refine ⟨hn, Nat.ne_of_gt (Nat.lt_of_lt_of_le I.lt hb), I.nofs hb, .inr (Nat.le_trans I.sz hb), fun x c e z => ?_, fun p hp z => ?_⟩
  · obtain ⟨v, q⟩ := I.cell x c e
    exact absurd (Nat.lt_of_lt_of_le q.lt (by rw [z]; exact hb)) (Nat.lt_irrefl _)
  · exact absurd (Nat.lt_of_lt_of_le (Heap.lt_size (I.pin p hp).1) (by rw [z]; exact hb)) (Nat.lt_irrefl _)
structure Turn (P : Program) (w : World) (K : PySem.W.Frag) (tg : Expr) (J : It) (fp : List Addr) (it : Addr) (tn : Nat → Heap → Prop) : Prop where
  mem : it ∈ fp
  obj : ∀ i h, tn i h → ∀ b ∈ fp, ∃ o, h.get? b = some o ∧ ∀ v, o.data ≠ .cell v
  keep : ∀ i h h', tn i h → (∀ b ∈ fp, ∀ o, h.get? b = some o → h'.get? b = some o) → tn i h'
  item : ∀ (X : Cx), X.prog = P → X.w = w → X.K = K → X.calm = true → ∀ (i : Nat) (pins : List (Addr × Obj)) (s : Shared) (σ : St) (H : Hp) (E : Value → Shared → Prop), Inv X pins σ H s → (∀ b ∈ fp, FpOk X pins H b) → tn i s.heap → J.go i H →
    wpAny (model P w) X.A (pyNext (.ref it)) (fun r s1 => ∃ u, r = some u ∧
      wpAny (model P w) X.A (letOwnedTupleGo tg (.ref it) u) (fun _ s2 => ∃ x H', Inv X pins σ H' s2 ∧ RelV x u ∧ J.yld i H x H' ∧ tn (i + 1) s2.heap ∧ ∀ b ∈ fp, H' b = none) E s1) E s
  done : ∀ (X : Cx), X.prog = P → X.w = w → X.K = K → X.calm = true → ∀ (i : Nat) (pins : List (Addr × Obj)) (s : Shared) (σ : St) (H : Hp) (E : Value → Shared → Prop), Inv X pins σ H s → (∀ b ∈ fp, FpOk X pins H b) → tn i s.heap → J.stop i H →
    wpAny (model P w) X.A (pyNext (.ref it)) (fun r s1 => r = none ∧ Inv X pins σ H s1) E s
  self : ∀ (A : Around) (i : Nat) (s : Shared) (Q : Value → Shared → Prop) (E : Value → Shared → Prop), tn i s.heap → Q (.ref it) s → wpAny (model P w) A (pyIter (.ref it)) Q E s
abbrev TI := St → Hp → (It → Hp → Prop) → Prop
def PIE (X : Cx) (pins : List (Addr × Obj)) (σ : St) (tg : Expr) (R : It → Hp → Prop) (itv : Value) (s2 : Shared) : Prop :=
  ∃ (it : Addr) (fp : List Addr) (tn : Nat → Heap → Prop) (J : It) (H' : Hp), itv = .ref it ∧ Inv X pins σ H' s2 ∧ Turn X.prog X.w X.K tg J fp it tn ∧ tn 0 s2.heap ∧ (∀ b ∈ fp, FpOk X pins H' b) ∧ R J H'
def PI (X : Cx) (tg iter : Expr) (wi : TI) : Prop :=
  ∀ (pins : List (Addr × Obj)) (s : Shared) (σ : St) (H : Hp) (R : It → Hp → Prop), Inv X pins σ H s → wi σ H R →
    wpAny (model X.prog X.w) X.A (eval iter X.env) (fun v s1 => wpAny (model X.prog X.w) X.A (pyIter v) (PIE X pins σ tg R) X.xe s1) X.xe s
theorem go_of {M : Model} {A : Around} {E : Value → Shared → Prop} {s : Shared} {tg : Expr} {it : Addr} {u : Value} {o : Obj} {n : String} {vs : Array Value} {Q : Unit → Shared → Prop} (ho : s.heap.get? it = some o) (hc : o.cls = .type n) (hd : o.data = .fields vs)
    (hn : ["enumerate", "zip", "dict_itemiterator", "dict_reverseitemiterator", "odict_iterator", "itertools.zip_longest", "itertools.pairwise"].contains n = false) (hQ : Q () s) : wpAny M A (letOwnedTupleGo tg (.ref it) u) Q E s := by
  unfold letOwnedTupleGo
  cases tg <;> first
    | exact wpAny_pure hQ
    | (cases u <;> first
        | exact wpAny_pure hQ
        | (refine wpAny_bind (wpAny_load ho ?_)
           rw [hc, hd]
           show wpAny M A (if (["enumerate", "zip", "dict_itemiterator", "dict_reverseitemiterator", "odict_iterator", "itertools.zip_longest", "itertools.pairwise"].contains n && vs[0]? == some (rawInt _)) = true then _ else _) Q E s
           rw [if_neg (by intro h; rw [hn, Bool.false_and] at h; cases h)]
           exact wpAny_pure hQ))
def Itl (K : PySem.W.Frag) (a : Addr) : It :=
  ⟨fun i H => ∃ xs x, SqL K H a xs ∧ xs[i]? = some x, fun i H x H' => H' = H ∧ ∀ xs, SqL K H a xs → xs[i]? = some x, fun i H => ∃ xs, SqL K H a xs ∧ xs.length ≤ i⟩
def Itt (K : PySem.W.Frag) (a : Addr) : It :=
  ⟨fun i H => ∃ xs x, SqT K H a xs ∧ xs[i]? = some x, fun i H x H' => H' = H ∧ ∀ xs, SqT K H a xs → xs[i]? = some x, fun i H => ∃ xs, SqT K H a xs ∧ xs.length ≤ i⟩
def Itr (lo : Int) (n : Nat) : It := ⟨fun i _ => i < n, fun i H x H' => H' = H ∧ x = .int (lo + i), fun i _ => n ≤ i⟩
theorem turn_list {P : Program} {w : World} {K : PySem.W.Frag} {tg : Expr} (a it : Addr) : Turn P w K tg (Itl K a) [it] it (fun i h => h.IsListIter it a i) where
  mem := by simp
  obj := fun i h st b hb => by
    have e : b = it := by simpa using hb
    subst e
    obtain ⟨o, e, c, d⟩ := st
    exact ⟨o, e, fun v z => by rw [d] at z; cases z⟩
  keep := fun i h h' st k => st.at fun o e => k it (by simp) o e
  item := by
    intro X hP hw hK hc i pins s σ H E I hf st hg
    subst hP hw hK
    obtain ⟨xs, x, hq, hx⟩ := hg
    obtain ⟨its, rv, p, hz⟩ := I.list hq
    obtain ⟨u, hu, ru⟩ := rv.get hx
    obtain ⟨f0, f1, f2, f3, f4, f5⟩ := hf it (by simp)
    refine wpAny_pyNext_list_item st p.isList (x := u) (by simpa using hu) fun h' st' sb => ?_
    have I1 : Inv X pins σ H { s with heap := h' } := I.turned (t' := s.toks) (fun b o hb e => (sb.2 b hb).trans e) f0 f1 f3 f4 f5
    obtain ⟨o, e, c, d⟩ := id st'
    exact ⟨u, rfl, go_of (s := { s with heap := h' }) e c d (by decide) ⟨x, H, I1, ru, ⟨rfl, fun ys hy => by rw [I.list_inj hy hq]; exact hx⟩, st', fun b hb => (hf b hb).1⟩⟩
  done := by
    intro X hP hw hK hc i pins s σ H E I hf st hg
    subst hP hw hK
    obtain ⟨xs, hq, hx⟩ := hg
    obtain ⟨its, rv, p, hz⟩ := I.list hq
    obtain ⟨f0, f1, f2, f3, f4, f5⟩ := hf it (by simp)
    have hl := rv.length
    exact wpAny_pyNext_list_end (I.ok.hd hc) st p.isList (by simp; omega) fun h' eb => ⟨rfl, I.turned (t' := s.toks) (fun b o hb e => eb b o hb e) f0 f1 f3 f4 f5⟩
  self := fun _ _ _ _ _ st h => wpAny_pyIter_listiter st h
theorem turn_tuple {P : Program} {w : World} {K : PySem.W.Frag} {tg : Expr} (a it : Addr) : Turn P w K tg (Itt K a) [it] it (fun i h => h.IsTupleIter it a i) where
  mem := by simp
  obj := fun i h st b hb => by
    have e : b = it := by simpa using hb
    subst e
    obtain ⟨o, e, c, d⟩ := st
    exact ⟨o, e, fun v z => by rw [d] at z; cases z⟩
  keep := fun i h h' st k => st.at fun o e => k it (by simp) o e
  item := by
    intro X hP hw hK hc i pins s σ H E I hf st hg
    subst hP hw hK
    obtain ⟨xs, x, hq, hx⟩ := hg
    obtain ⟨its, rv, p, hz⟩ := I.tuple hq
    obtain ⟨u, hu, ru⟩ := rv.get hx
    obtain ⟨f0, f1, f2, f3, f4, f5⟩ := hf it (by simp)
    refine wpAny_pyNext_tuple_item st (show s.heap.IsTuple a its.toArray from p) (x := u) (by simpa using hu) fun h' st' sb => ?_
    have I1 : Inv X pins σ H { s with heap := h' } := I.turned (t' := s.toks) (fun b o hb e => (sb.2 b hb).trans e) f0 f1 f3 f4 f5
    obtain ⟨o, e, c, d⟩ := id st'
    exact ⟨u, rfl, go_of (s := { s with heap := h' }) e c d (by decide) ⟨x, H, I1, ru, ⟨rfl, fun ys hy => by rw [I.tuple_inj hy hq]; exact hx⟩, st', fun b hb => (hf b hb).1⟩⟩
  done := by
    intro X hP hw hK hc i pins s σ H E I hf st hg
    subst hP hw hK
    obtain ⟨xs, hq, hx⟩ := hg
    obtain ⟨its, rv, p, hz⟩ := I.tuple hq
    obtain ⟨f0, f1, f2, f3, f4, f5⟩ := hf it (by simp)
    have hl := rv.length
    exact wpAny_pyNext_tuple_end (I.ok.hd hc) st (show s.heap.IsTuple a its.toArray from p) (by simp; omega) fun h' eb => ⟨rfl, I.turned (t' := s.toks) (fun b o hb e => eb b o hb e) f0 f1 f3 f4 f5⟩
  self := fun _ _ _ _ _ st h => wpAny_pyIter_tupleiter st h
theorem turn_range {P : Program} {w : World} {K : PySem.W.Frag} {tg : Expr} (it : Addr) (lo : Int) (n : Nat) : Turn P w K tg (Itr lo n) [it] it (fun i h => IsRangeIter h it (lo + (i : Nat) * 1) ((n : Int) - (i : Nat)) 1) where
  mem := by simp
  obj := fun i h st b hb => by
    have e : b = it := by simpa using hb
    subst e
    exact ⟨_, st, fun v z => by
      have z' : Data.fields _ = Data.cell v := z
      cases z'⟩
  keep := fun i h h' st k => k it (by simp) _ st
  item := by
    intro X hP hw hK hc i pins s σ H E I hf st hg
    subst hP hw hK
    obtain ⟨f0, f1, f2, f3, f4, f5⟩ := hf it (by simp)
    have W := Walks.range (prog := X.prog) (w := X.w) (I.ok.hd hc) it lo 1 n
    refine W.item i s _ _ hg st fun v h' tk hv st' kk => ?_
    obtain ⟨t, rfl⟩ := hv
    have I1 : Inv X pins σ H { s with heap := h', toks := tk } := I.turned (fun b o hb e => kk b o (by simpa using hb) e) f0 f1 f3 f4 f5
    refine ⟨_, rfl, go_of (s := { s with heap := h', toks := tk }) (n := "range_iterator") st' rfl rfl (by decide) ⟨.int (lo + i), H, I1, ⟨t, ?_⟩, ⟨rfl, rfl⟩, st', fun b hb => (hf b hb).1⟩⟩
    rw [Int.mul_one]
  done := by
    intro X hP hw hK hc i pins s σ H E I hf st hg
    subst hP hw hK
    obtain ⟨f0, f1, f2, f3, f4, f5⟩ := hf it (by simp)
    exact wpAny_pyNext_range_end (I.ok.hd hc) st (by have : n ≤ i := hg; omega) fun h' eb => ⟨rfl, I.turned (t' := s.toks) (fun b o hb e => eb b o hb e) f0 f1 f3 f4 f5⟩
  self := fun _ _ _ _ _ st h => wpAny_pyIter_rangeiter st h
end L2
namespace L2
open PySem PySem.Spec PyProof.Rows
section
variable {X : Cx} {tg : Expr}
def iList (K : PySem.W.Frag) (tl : TE) : TI := fun σ H R => tl σ H fun x H1 => ∃ a, x = .ref a ∧ (∃ xs, SqL K H1 a xs) ∧ R (Itl K a) H1
def iTup (K : PySem.W.Frag) (tl : TE) : TI := fun σ H R => tl σ H fun x H1 => ∃ a, x = .ref a ∧ (∃ xs, SqT K H1 a xs) ∧ R (Itt K a) H1
theorem pi_list {l : Expr} {tl : TE} (hl : PE X l tl) : PI X tg l (iList X.K tl) := by
  intro pins s σ H R I h
  refine thn (hl pins s σ H _ I h) fun v s1 ⟨x, H1, I1, r1, q1⟩ => ?_
  obtain ⟨a, e, ⟨xs, hq⟩, q⟩ := q1
  subst e
  cases r1
  obtain ⟨its, rv, p, hz⟩ := I1.list hq
  refine wpAny_pyIter_list p.isList ?_
  refine ⟨s1.heap.objs.size, [s1.heap.objs.size], _, _, H1, rfl, I1.kept (t' := s1.toks) fun b o e => Heap.get?_push_of_some _ e, turn_list a _, ⟨_, Heap.get?_push_size _ rfl, rfl, rfl⟩, fun b hb => ?_, q⟩
  have e : b = s1.heap.objs.size := by simpa using hb
  subst e
  exact I1.fpOk (Nat.le_refl _) (I1.hok.fresh (Nat.le_refl _))
theorem pi_tup {l : Expr} {tl : TE} (hl : PE X l tl) : PI X tg l (iTup X.K tl) := by
  intro pins s σ H R I h
  refine thn (hl pins s σ H _ I h) fun v s1 ⟨x, H1, I1, r1, q1⟩ => ?_
  obtain ⟨a, e, ⟨xs, hq⟩, q⟩ := q1
  subst e
  cases r1
  obtain ⟨its, rv, p, hz⟩ := I1.tuple hq
  refine wpAny_pyIter_tuple (show s1.heap.IsTuple a its.toArray from p) ?_
  refine ⟨s1.heap.objs.size, [s1.heap.objs.size], _, _, H1, rfl, I1.kept (t' := s1.toks) fun b o e => Heap.get?_push_of_some _ e, turn_tuple a _, ⟨_, Heap.get?_push_size _ rfl, rfl, rfl⟩, fun b hb => ?_, q⟩
  have e : b = s1.heap.objs.size := by simpa using hb
  subst e
  exact I1.fpOk (Nat.le_refl _) (I1.hok.fresh (Nat.le_refl _))
theorem range_it {pins : List (Addr × Obj)} {σ : St} {H : Hp} {s : Shared} {R : It → Hp → Prop} {E : Value → Shared → Prop} {lo hi : Int} {t u v : Tok} {tk : Nat} (I : Inv X pins σ H s) (h1 : -(2 ^ 62) ≤ lo) (h2 : lo < 2 ^ 62) (h3 : -(2 ^ 62) ≤ hi) (h4 : hi < 2 ^ 62)
    (q : R (Itr lo (hi - lo).toNat) H) : wpAny (model X.prog X.w) X.A (pyIter (.ref s.heap.objs.size)) (PIE X pins σ tg R) E { s with heap := s.heap.push { cls := .type "range", data := .fields #[.int lo t, .int hi u, .int 1 v] }, toks := tk } := by
  refine wpAny_pyIter_range (IsRange.new ..) (small_one h1 h2 h3 h4) ?_
  have I1 : Inv X pins σ H { s with heap := s.heap.push { cls := .type "range", data := .fields #[.int lo t, .int hi u, .int 1 v] }, toks := tk } := I.kept fun b o e => Heap.get?_push_of_some _ e
  refine ⟨(s.heap.push { cls := .type "range", data := .fields #[.int lo t, .int hi u, .int 1 v] }).objs.size, [(s.heap.push { cls := .type "range", data := .fields #[.int lo t, .int hi u, .int 1 v] }).objs.size], _, _, H, rfl,
    I1.kept (t' := tk) fun b o e => Heap.get?_push_of_some _ e, turn_range _ lo (hi - lo).toNat, ?_, fun b hb => ?_, q⟩
  · have e1 : lo + ((0 : Nat) : Int) * 1 = lo := by simp
    have e2 : (((hi - lo).toNat : Nat) : Int) - ((0 : Nat) : Int) = Builtin.Range.rangeSize lo hi 1 := by rw [rangeSize_one]; split <;> omega
    show IsRangeIter _ _ (lo + ((0 : Nat) : Int) * 1) ((((hi - lo).toNat : Nat) : Int) - ((0 : Nat) : Int)) 1
    rw [e1, e2]
    exact Heap.get?_push_size _ rfl
  · have e : b = (s.heap.push { cls := .type "range", data := .fields #[.int lo t, .int hi u, .int 1 v] }).objs.size := by simpa using hb
    subst e
    exact I1.fpOk (Nat.le_refl _) (I1.hok.fresh (Nat.le_refl _))
def iRng1 (ta : TA) : TI := fun σ H R => ta σ H fun vs H1 => ∃ j : Int, vs = [.int j] ∧ -(2 ^ 62) ≤ j ∧ j < 2 ^ 62 ∧ R (Itr 0 j.toNat) H1
theorem pi_range1 {a : Expr} {ta : TA} {p pos : Pos} (hg : Gl X "range") (hm : X.mg "range" = none) (ha : PA X [a] ta) (hs : starEach [a] X.env = [(false, eval a X.env)] := by rfl) : PI X tg (.Call (.Name "range" p) [a] [] pos) (iRng1 ta) := by
  intro pins s σ H R I h
  refine Call_ (ld_blt I hg hm boot_range (PyProof.Rows.callWith_type1 (thn (ha pos pins s σ H _ I h) fun us s1 ⟨vs, H1, I1, r1, q1⟩ => ?_) hs rfl))
  obtain ⟨j, e, q1, q2, q⟩ := q1
  subst e
  cases r1 with
  | cons r rr =>
    cases rr
    obtain ⟨t, rfl⟩ := r
    exact call_range_1 (range_it I1 (by omega) (by omega) q1 q2 (by simpa using q))
def tFor (wi : TI) (g : TG) (tb : TS) : TS := fun D σ H => wi σ H fun J H1 => ∃ W : Nat → Nat → St → Hp → Prop, (∃ m, W 0 m σ H1) ∧ ∀ i m σ H, W i m σ H →
  (J.stop i H ∧ D.nx σ H) ∨ (J.go i H ∧ ∃ N : St → Hp → Prop, (∀ σ' H', N σ' H' → ∃ m', m' < m ∧ W (i + 1) m' σ' H') ∧ ∀ x H', J.yld i H x H' → g x σ H' fun σ2 H2 => tb { D with nx := N, ct := N, bk := D.nx } σ2 H2)
def pinsAt (fp : List Addr) (h : Heap) : List (Addr × Obj) := fp.filterMap fun b => (h.get? b).map fun o => (b, o)
theorem mem_pinsAt {fp : List Addr} {h : Heap} {b : Addr} {o : Obj} (hb : b ∈ fp) (e : h.get? b = some o) : (b, o) ∈ pinsAt fp h := List.mem_filterMap.mpr ⟨b, hb, by rw [e]; rfl⟩
theorem of_pinsAt {fp : List Addr} {h : Heap} {p : Addr × Obj} (hp : p ∈ pinsAt fp h) : p.1 ∈ fp ∧ h.get? p.1 = some p.2 := by
  obtain ⟨b, hb, e⟩ := List.mem_filterMap.mp hp
  cases q : h.get? b with
  | none => rw [q] at e; cases e
  | some o =>
    rw [q] at e
    have e' : (b, o) = p := Option.some.inj e
    subst e'
    exact ⟨hb, q⟩
theorem Inv.pinned {pins : List (Addr × Obj)} {σ : St} {H : Hp} {s : Shared} {fp : List Addr} (I : Inv X pins σ H s) (hf : ∀ b ∈ fp, FpOk X pins H b) (ho : ∀ b ∈ fp, ∃ o, s.heap.get? b = some o ∧ ∀ v, o.data ≠ .cell v) : Inv X (pins ++ pinsAt fp s.heap) σ H s :=
  I.pins_of fun p hp => (List.mem_append.mp hp).elim (fun z => I.pin p (List.mem_append_right _ z)) fun z => by
    obtain ⟨hb, e⟩ := of_pinsAt z
    obtain ⟨f0, f1, f2, _⟩ := hf p.1 hb
    obtain ⟨o, e', d⟩ := ho p.1 hb
    rw [e] at e'; cases e'
    exact ⟨e, f0, f1, f2, d⟩
theorem Inv.unpinned {pins pl : List (Addr × Obj)} {σ : St} {H : Hp} {s : Shared} (I : Inv X (pins ++ pl) σ H s) : Inv X pins σ H s := I.pins_of fun p hp => I.pin p (List.mem_append_right _ (List.mem_append_left _ hp))
theorem ps_for {iter : Expr} {body : List Stmt} {wi : TI} {g : TG} {tb : TS} {pos : Pos} (hp : PassesOwn (model X.prog X.w) X.A X.env X.xe) (hc : X.calm = true) (hi : PI X tg iter wi) (hg : PG X tg g) (hb : PSs X body tb)
    (hs : ∀ x, foldedSetIterable iter X.env x = pure x := by intro _; rfl) : PS X (.For tg iter body [] pos) (tFor wi g tb) := by
  intro pins s σ H D I h
  refine wpAny_For (thn (hi pins s σ H _ I h) fun v s1 h1 => thn h1 fun itv s2 h2 => ?_) hs
  obtain ⟨it, fp, tn, J, H2, e, I2, T, st2, f2, W, ⟨m0, w0⟩, turn⟩ := h2
  subst e
  have stat : ∀ {H' : Hp}, (∀ b ∈ fp, H' b = none) → ∀ b ∈ fp, FpOk X pins H' b := fun hn b hb => ⟨hn b hb, (f2 b hb).2⟩
  refine codeAny_forLoop_any (fun n s' => ∃ i σ' H', Inv X pins σ' H' s' ∧ tn i s'.heap ∧ (∀ b ∈ fp, H' b = none) ∧ W i n σ' H') ?_ m0 ⟨0, σ, H2, I2, st2, fun b hb => (f2 b hb).1, w0⟩
  rintro n s3 ⟨i, σ3, H3, I3, st3, fr3, w3⟩
  rcases turn i n σ3 H3 w3 with ⟨stop, qn⟩ | ⟨go, N, hN, step⟩
  · refine wpAny_passesOwn hp (thn (T.done X rfl rfl rfl hc i pins s3 σ3 H3 X.xe I3 (stat fr3) st3 stop) fun r s4 ⟨hr, I4⟩ => ?_)
    subst hr
    exact wpAny_execs_nil ⟨σ3, H3, I4, qn⟩
  · refine wpAny_passesOwn hp (thn (T.item X rfl rfl rfl hc i pins s3 σ3 H3 X.xe I3 (stat fr3) st3 go) fun r s4 ⟨u, hr, h4⟩ => ?_)
    subst hr
    refine wpAny_passesOwn hp (thn h4 fun _ s5 ⟨x, H5, I5, r5, y5, st5, fr5⟩ => ?_)
    have I5' := I5.pinned (stat fr5) (T.obj _ _ st5)
    refine wpAny_passesOwn hp (thn (hg _ s5 σ3 H5 x u _ I5' r5 (step x H5 y5)) fun _ s6 ⟨σ6, H6, I6, q6⟩ => ?_)
    refine wpAny_passesOwn hp (thn (hb _ s6 σ6 H6 _ I6 q6) fun f s7 q7 => ?_)
    have again : ∀ {σ7 : St} {H7 : Hp}, Inv X (pins ++ pinsAt fp s5.heap) σ7 H7 s7 → N σ7 H7 → ∃ m, m < n ∧ ∃ i σ' H', Inv X pins σ' H' s7 ∧ tn i s7.heap ∧ (∀ b ∈ fp, H' b = none) ∧ W i m σ' H' := fun {σ7 H7} I7 n7 => by
      obtain ⟨m', hm, w7⟩ := hN σ7 H7 n7
      refine ⟨m', hm, i + 1, σ7, H7, I7.unpinned, T.keep _ _ _ st5 fun b hb o e => (I7.pin (b, o) (List.mem_append_right _ (List.mem_append_right _ (mem_pinsAt hb e)))).1, fun b hb => ?_, w7⟩
      obtain ⟨o, e, d⟩ := T.obj _ _ st5 b hb
      exact (I7.pin (b, o) (List.mem_append_right _ (List.mem_append_right _ (mem_pinsAt hb e)))).2.1
    cases f with
    | next => obtain ⟨σ7, H7, I7, n7⟩ := q7; exact again I7 n7
    | cont => obtain ⟨σ7, H7, I7, n7⟩ := q7; exact again I7 n7
    | brk => obtain ⟨σ7, H7, I7, q7⟩ := q7; exact ⟨σ7, H7, I7.unpinned, q7⟩
    | ret v => obtain ⟨x7, σ7, H7, I7, r7, q7⟩ := q7; exact ⟨x7, σ7, H7, I7.unpinned, r7, q7⟩
end
theorem for_list {K : PySem.W.Frag} {a : Addr} {xs : List V} {g : TG} {tb : TS} {D : Ends} {σ : St} {H : Hp} (Pv : Nat → St → Hp → Prop) (h0 : Pv 0 σ H) (hl : ∀ i σ H, i ≤ xs.length → Pv i σ H → SqL K H a xs)
    (hs : ∀ i x σ H, xs[i]? = some x → Pv i σ H → g x σ H fun σ2 H2 => tb { D with nx := Pv (i + 1), ct := Pv (i + 1), bk := D.nx } σ2 H2) (hd : ∀ σ H, Pv xs.length σ H → D.nx σ H) :
    ∃ W : Nat → Nat → St → Hp → Prop, (∃ m, W 0 m σ H) ∧ ∀ i m σ H, W i m σ H →
      ((Itl K a).stop i H ∧ D.nx σ H) ∨ ((Itl K a).go i H ∧ ∃ N : St → Hp → Prop, (∀ σ' H', N σ' H' → ∃ m', m' < m ∧ W (i + 1) m' σ' H') ∧ ∀ x H', (Itl K a).yld i H x H' → g x σ H' fun σ2 H2 => tb { D with nx := N, ct := N, bk := D.nx } σ2 H2) := by
  refine ⟨fun i m σ H => m = xs.length - i ∧ i ≤ xs.length ∧ Pv i σ H, ⟨xs.length, by simp, Nat.zero_le _, h0⟩, ?_⟩
  rintro i m σ H ⟨rfl, hi, p⟩
  have q := hl i σ H hi p
  by_cases hlt : i < xs.length
  · refine .inr ⟨⟨xs, xs[i], q, by simp [hlt]⟩, Pv (i + 1), fun σ' H' p' => ⟨xs.length - (i + 1), by omega, rfl, hlt, p'⟩, fun x H' y => ?_⟩
    obtain ⟨e, y⟩ := y
    subst e
    exact hs i x σ _ (y xs q) p
  · have e : i = xs.length := by omega
    subst e
    exact .inl ⟨⟨xs, q, Nat.le_refl _⟩, hd σ H p⟩
theorem for_tup {K : PySem.W.Frag} {a : Addr} {xs : List V} {g : TG} {tb : TS} {D : Ends} {σ : St} {H : Hp} (Pv : Nat → St → Hp → Prop) (h0 : Pv 0 σ H) (hl : ∀ i σ H, i ≤ xs.length → Pv i σ H → SqT K H a xs)
    (hs : ∀ i x σ H, xs[i]? = some x → Pv i σ H → g x σ H fun σ2 H2 => tb { D with nx := Pv (i + 1), ct := Pv (i + 1), bk := D.nx } σ2 H2) (hd : ∀ σ H, Pv xs.length σ H → D.nx σ H) :
    ∃ W : Nat → Nat → St → Hp → Prop, (∃ m, W 0 m σ H) ∧ ∀ i m σ H, W i m σ H →
      ((Itt K a).stop i H ∧ D.nx σ H) ∨ ((Itt K a).go i H ∧ ∃ N : St → Hp → Prop, (∀ σ' H', N σ' H' → ∃ m', m' < m ∧ W (i + 1) m' σ' H') ∧ ∀ x H', (Itt K a).yld i H x H' → g x σ H' fun σ2 H2 => tb { D with nx := N, ct := N, bk := D.nx } σ2 H2) := by
  refine ⟨fun i m σ H => m = xs.length - i ∧ i ≤ xs.length ∧ Pv i σ H, ⟨xs.length, by simp, Nat.zero_le _, h0⟩, ?_⟩
  rintro i m σ H ⟨rfl, hi, p⟩
  have q := hl i σ H hi p
  by_cases hlt : i < xs.length
  · refine .inr ⟨⟨xs, xs[i], q, by simp [hlt]⟩, Pv (i + 1), fun σ' H' p' => ⟨xs.length - (i + 1), by omega, rfl, hlt, p'⟩, fun x H' y => ?_⟩
    obtain ⟨e, y⟩ := y
    subst e
    exact hs i x σ _ (y xs q) p
  · have e : i = xs.length := by omega
    subst e
    exact .inl ⟨⟨xs, q, Nat.le_refl _⟩, hd σ H p⟩
theorem for_range {lo : Int} {n : Nat} {g : TG} {tb : TS} {D : Ends} {σ : St} {H : Hp} (Pv : Nat → St → Hp → Prop) (h0 : Pv 0 σ H)
    (hs : ∀ i σ H, i < n → Pv i σ H → g (.int (lo + i)) σ H fun σ2 H2 => tb { D with nx := Pv (i + 1), ct := Pv (i + 1), bk := D.nx } σ2 H2) (hd : ∀ σ H, Pv n σ H → D.nx σ H) :
    ∃ W : Nat → Nat → St → Hp → Prop, (∃ m, W 0 m σ H) ∧ ∀ i m σ H, W i m σ H →
      ((Itr lo n).stop i H ∧ D.nx σ H) ∨ ((Itr lo n).go i H ∧ ∃ N : St → Hp → Prop, (∀ σ' H', N σ' H' → ∃ m', m' < m ∧ W (i + 1) m' σ' H') ∧ ∀ x H', (Itr lo n).yld i H x H' → g x σ H' fun σ2 H2 => tb { D with nx := N, ct := N, bk := D.nx } σ2 H2) := by
  refine ⟨fun i m σ H => m = n - i ∧ i ≤ n ∧ Pv i σ H, ⟨n, by simp, Nat.zero_le _, h0⟩, ?_⟩
  rintro i m σ H ⟨rfl, hi, p⟩
  by_cases hlt : i < n
  · refine .inr ⟨hlt, Pv (i + 1), fun σ' H' p' => ⟨n - (i + 1), by omega, rfl, hlt, p'⟩, fun x H' y => ?_⟩
    obtain ⟨e, y⟩ := y
    subst e y
    exact hs i σ _ hlt p
  · have e : i = n := by omega
    subst e
    exact .inl ⟨Nat.le_refl _, hd σ H p⟩
end L2
namespace L2
open PySem PySem.Spec PyProof.Rows
abbrev R2 := V → V → Hp → VK → Prop
def OpR (X : Cx) (f : Value → Value → Sem Value) (r : R2) : Prop :=
  ∀ (pins : List (Addr × Obj)) (s : Shared) (σ : St) (H : Hp) (x y : V) (v u : Value) (Q : VK), Inv X pins σ H s → RelV x v → RelV y u → r x y H Q →
    wpAny (model X.prog X.w) X.A (f v u) (EP X pins σ Q) X.xe s
def UnR (X : Cx) (f : Value → Sem Value) (r : V → Hp → VK → Prop) : Prop :=
  ∀ (pins : List (Addr × Obj)) (s : Shared) (σ : St) (H : Hp) (x : V) (v : Value) (Q : VK), Inv X pins σ H s → RelV x v → r x H Q →
    wpAny (model X.prog X.w) X.A (f v) (EP X pins σ Q) X.xe s
def CallR (X : Cx) (f : Value) (r : List V → Hp → VK → Prop) : Prop :=
  ∀ (pins : List (Addr × Obj)) (s : Shared) (σ : St) (H : Hp) (xs : List V) (us : List Value) (Q : VK), Inv X pins σ H s → Vals xs us → r xs H Q →
    wpAny (model X.prog X.w) X.A (call f us) (EP X pins σ Q) X.xe s
def TruR (X : Cx) (r : V → Hp → (Bool → Hp → Prop) → Prop) : Prop :=
  ∀ (pins : List (Addr × Obj)) (s : Shared) (σ : St) (H : Hp) (x : V) (v : Value) (Q : Bool → Hp → Prop), Inv X pins σ H s → RelV x v → r x H Q →
    wpAny (model X.prog X.w) X.A (truthy v) (TP X pins σ Q) X.xe s
def tOp (r : R2) (ta tb : TE) : TE := fun σ H Q => ta σ H fun x H1 => tb σ H1 fun y H2 => r x y H2 Q
def tUn (r : V → Hp → VK → Prop) (ta : TE) : TE := fun σ H Q => ta σ H fun x H1 => r x H1 Q
def rI (C : Int → Int → Prop) (g : Int → Int → V) : R2 := fun x y H Q => ∃ i j, x = .int i ∧ y = .int j ∧ C i j ∧ Q (g i j) H
def rI0 (g : Int → Int → V) : R2 := fun x y H Q => ∃ i j, x = .int i ∧ y = .int j ∧ Q (g i j) H
def rU (g : Int → V) : V → Hp → VK → Prop := fun x H Q => ∃ i, x = .int i ∧ Q (g i) H
section
variable {X : Cx} {a b c : Expr} {ta tb tc : TE} {pos : Pos}
theorem binT (ha : PE X a ta) (hb : PE X b tb) {pins : List (Addr × Obj)} {s : Shared} {σ : St} {H : Hp} {R : V → V → Hp → Prop} (I : Inv X pins σ H s)
    (h : ta σ H fun x H1 => tb σ H1 fun y H2 => R x y H2) {Q : Value → Shared → Prop} {f : Value → Value → Sem Value}
    (hf : ∀ v u s2 x y H2, Inv X pins σ H2 s2 → RelV x v → RelV y u → R x y H2 → wpAny (model X.prog X.w) X.A (f v u) Q X.xe s2) :
    wpAny (model X.prog X.w) X.A (eval a X.env) (fun v s₁ => wpAny (model X.prog X.w) X.A (eval b X.env) (fun u s₂ => wpAny (model X.prog X.w) X.A (f v u) Q X.xe s₂) X.xe s₁) X.xe s := by
  refine thn (ha pins s σ H _ I h) fun v s1 ⟨x, H1, I1, r1, q1⟩ => ?_
  refine thn (hb pins s1 σ H1 _ I1 q1) fun u s2 ⟨y, H2, I2, r2, q2⟩ => ?_
  exact hf v u s2 x y H2 I2 r1 r2 q2
theorem pe_op {op : Operator} {r : R2} (ho : OpR X (binaryOp op) r) (ha : PE X a ta) (hb : PE X b tb) : PE X (.BinOp a op b pos) (tOp r ta tb) := by
  intro pins s σ H Q I h
  exact wpAny_BinOp (binT ha hb I h fun v u s2 x y H2 I2 rx ry q => ho pins s2 σ H2 x y v u Q I2 rx ry q)
theorem pe_un {op : UnaryOp} {r : V → Hp → VK → Prop} (ho : UnR X (unaryOp op) r) (ha : PE X a ta) : PE X (.UnaryOp op a pos) (tUn r ta) := by
  intro pins s σ H Q I h
  exact UnaryOp_ (thn (ha pins s σ H _ I h) fun v s1 ⟨x, H1, I1, r1, q1⟩ => ho pins s1 σ H1 x v Q I1 r1 q1)
theorem opI {f : Value → Value → Sem Value} {C : Int → Int → Prop} {g : Int → Int → Int}
    (rule : ∀ (i j : Int) (t u : Tok) (s : Shared) (Q : Value → Shared → Prop) (E : Value → Shared → Prop), C i j → Q (.int (g i j) s.toks) { s with toks := s.toks + 1 } → wpAny (model X.prog X.w) X.A (f (.int i t) (.int j u)) Q E s) :
    OpR X f (rI C fun i j => .int (g i j)) := by
  intro pins s σ H x y v u Q I rx ry h
  obtain ⟨i, j, rfl, rfl, hc, q⟩ := h
  obtain ⟨t, rfl⟩ := rx
  obtain ⟨t', rfl⟩ := ry
  exact rule i j t t' s _ _ hc ⟨.int (g i j), H, I.tok _, ⟨_, rfl⟩, q⟩
theorem opI0 {f : Value → Value → Sem Value} {g : Int → Int → Int}
    (rule : ∀ (i j : Int) (t u : Tok) (s : Shared) (Q : Value → Shared → Prop) (E : Value → Shared → Prop), Q (.int (g i j) s.toks) { s with toks := s.toks + 1 } → wpAny (model X.prog X.w) X.A (f (.int i t) (.int j u)) Q E s) :
    OpR X f (rI0 fun i j => .int (g i j)) := by
  intro pins s σ H x y v u Q I rx ry h
  obtain ⟨i, j, rfl, rfl, q⟩ := h
  obtain ⟨t, rfl⟩ := rx
  obtain ⟨t', rfl⟩ := ry
  exact rule i j t t' s _ _ ⟨.int (g i j), H, I.tok _, ⟨_, rfl⟩, q⟩
theorem opB0 {f : Value → Value → Sem Value} {g : Int → Int → Bool}
    (rule : ∀ (i j : Int) (t u : Tok) (s : Shared) (Q : Value → Shared → Prop) (E : Value → Shared → Prop), Q (.bool (g i j)) s → wpAny (model X.prog X.w) X.A (f (.int i t) (.int j u)) Q E s) :
    OpR X f (rI0 fun i j => .bl (g i j)) := by
  intro pins s σ H x y v u Q I rx ry h
  obtain ⟨i, j, rfl, rfl, q⟩ := h
  obtain ⟨t, rfl⟩ := rx
  obtain ⟨t', rfl⟩ := ry
  exact rule i j t t' s _ _ ⟨.bl (g i j), H, I, rfl, q⟩
def CDiv (i j : Int) : Prop := 0 < j ∧ j < 1073741824
def CMul (i j : Int) : Prop := (-(2 ^ 64) < i ∧ i < 2 ^ 64) ∨ (-(2 ^ 64) < j ∧ j < 2 ^ 64)
theorem CMul.ok {i j : Int} (h : CMul i j) : IntMulOk i j := by
  rcases h with ⟨h1, h2⟩ | ⟨h1, h2⟩
  · exact .of_left (intBits_le_64 h1 h2)
  · exact .of_right (intBits_le_64 h1 h2)
theorem op_add : OpR X (binaryOp .Add) (rI0 fun i j => .int (i + j)) := opI0 fun _ _ _ _ _ _ _ q => add_int q
theorem op_fdiv : OpR X (binaryOp .FloorDiv) (rI CDiv fun i j => .int (i / j)) := opI fun i j _ _ _ _ _ hc q => by
  have h1 : (0 : Int) < j := hc.1
  have h2 : j < 1073741824 := hc.2
  exact floordiv_int (by omega) (by rw [Int.fdiv_eq_ediv_of_nonneg i (by omega)]; exact q) (.inl (PyProof.noPylong_small (by omega)))
theorem op_mod : OpR X (binaryOp .Mod) (rI (fun _ j => 0 < j) fun i j => .int (i % j)) := opI fun i j _ _ _ _ _ hc q => by
  have h1 : (0 : Int) < j := hc
  exact mod_int' (by omega) (by rw [Int.fmod_eq_emod_of_nonneg i (by omega)]; exact q)
theorem unI {f : Value → Sem Value} {g : Int → Int}
    (rule : ∀ (i : Int) (t : Tok) (s : Shared) (Q : Value → Shared → Prop) (E : Value → Shared → Prop), Q (.int (g i) s.toks) { s with toks := s.toks + 1 } → wpAny (model X.prog X.w) X.A (f (.int i t)) Q E s) :
    UnR X f (rU fun i => .int (g i)) := by
  intro pins s σ H x v Q I rx h
  obtain ⟨i, rfl, q⟩ := h
  obtain ⟨t, rfl⟩ := rx
  exact rule i t s _ _ ⟨.int (g i), H, I.tok _, ⟨_, rfl⟩, q⟩
theorem un_neg : UnR X (unaryOp .USub) (rU fun i => .int (-i)) := unI fun _ _ _ _ _ q => neg_int q
end
def scal : V → V → Bool
  | .non, .non => true | .non, .int _ => true | .int _, .non => true | .non, .bl _ => true | .bl _, .non => true | .non, .str _ => true | .str _, .non => true
  | .int _, .int _ => true | .bl _, .bl _ => true | .str _, .str _ => true | .byt _, .byt _ => true
  | .int _, .str _ => true | .str _, .int _ => true | .bl _, .str _ => true | .str _, .bl _ => true
  | _, _ => false
def rEq : R2 := fun x y H Q => scal x y = true ∧ Q (.bl (decide (x = y))) H
def rNe : R2 := fun x y H Q => scal x y = true ∧ Q (.bl (!decide (x = y))) H
theorem dec_int {i j : Int} : decide (V.int i = V.int j) = (i == j) := by
  rw [Bool.eq_iff_iff]
  simp
theorem dec_bl {i j : Bool} : decide (V.bl i = V.bl j) = (i == j) := by
  rw [Bool.eq_iff_iff]
  simp
theorem dec_str {i j : Str} : decide (V.str i = V.str j) = (i == j) := by
  rw [Bool.eq_iff_iff]
  simp
theorem dec_byt {i j : Array UInt8} : decide (V.byt i = V.byt j) = (i.toList == j.toList) := by
  rw [Bool.eq_iff_iff]
  cases i
  cases j
  simp
section
variable {X : Cx} {a b c : Expr} {ta tb tc : TE} {pos : Pos}
theorem fin_bl {pins : List (Addr × Obj)} {σ : St} {H : Hp} {s : Shared} {Q : VK} {k k' : Bool} (I : Inv X pins σ H s) (q : Q (.bl k) H) (e : k = k') : EP X pins σ Q (.bool k') s := by
  subst e
  exact ⟨.bl k, H, I, rfl, q⟩
theorem op_eq : OpR X (compareOp .Eq) rEq := by
  intro pins s σ H x y v u Q I rx ry h
  obtain ⟨hs, q⟩ := h
  cases x with
  | non =>
    cases rx
    cases y with
    | non => cases ry; exact PySem.EqNone.eq_none_none (fin_bl I q (by simp))
    | bl j => cases ry; exact PySem.EqNone.eq_none_bool (fin_bl I q (by simp))
    | int j => obtain ⟨t', rfl⟩ := ry; exact PySem.EqNone.eq_none_int (fin_bl I q (by simp))
    | str j => obtain ⟨t', rfl⟩ := ry; exact PySem.EqNone.eq_none_str (fin_bl I q (by simp))
    | _ => exact absurd (show false = true from hs) Bool.false_ne_true
  | bl i =>
    cases rx
    cases y with
    | non => cases ry; exact PySem.EqNone.eq_bool_none (fin_bl I q (by simp))
    | bl j => cases ry; exact eq_bool (fin_bl I q dec_bl)
    | str j => obtain ⟨t', rfl⟩ := ry; exact PySem.EqMixed.eq_bool_str (fin_bl I q (by simp))
    | _ => exact absurd (show false = true from hs) Bool.false_ne_true
  | int i =>
    obtain ⟨t, rfl⟩ := rx
    cases y with
    | non => cases ry; exact PySem.EqNone.eq_int_none (fin_bl I q (by simp))
    | int j => obtain ⟨t', rfl⟩ := ry; exact eq_int (fin_bl I q dec_int)
    | str j => obtain ⟨t', rfl⟩ := ry; exact PySem.EqMixed.eq_int_str (fin_bl I q (by simp))
    | _ => exact absurd (show false = true from hs) Bool.false_ne_true
  | str i =>
    obtain ⟨t, rfl⟩ := rx
    cases y with
    | non => cases ry; exact PySem.EqNone.eq_str_none (fin_bl I q (by simp))
    | bl j => cases ry; exact PySem.EqMixed.eq_str_bool (fin_bl I q (by simp))
    | int j => obtain ⟨t', rfl⟩ := ry; exact PySem.EqMixed.eq_str_int (fin_bl I q (by simp))
    | str j => obtain ⟨t', rfl⟩ := ry; exact eq_str (fin_bl I q dec_str)
    | _ => exact absurd (show false = true from hs) Bool.false_ne_true
  | byt i =>
    obtain ⟨t, rfl⟩ := rx
    cases y with
    | byt j => obtain ⟨t', rfl⟩ := ry; exact PySem.W.eq_bytes (fin_bl I q dec_byt)
    | _ => exact absurd (show false = true from hs) Bool.false_ne_true
  | _ => cases y <;> exact absurd (show false = true from hs) Bool.false_ne_true
theorem op_ne : OpR X (compareOp .NotEq) rNe := by
  intro pins s σ H x y v u Q I rx ry h
  obtain ⟨hs, q⟩ := h
  cases x with
  | non =>
    cases rx
    cases y with
    | non => cases ry; exact PySem.EqNone.ne_none_none (fin_bl I q (by simp))
    | bl j => cases ry; exact PySem.EqNone.ne_none_bool (fin_bl I q (by simp))
    | int j => obtain ⟨t', rfl⟩ := ry; exact PySem.EqNone.ne_none_int (fin_bl I q (by simp))
    | str j => obtain ⟨t', rfl⟩ := ry; exact PySem.EqNone.ne_none_str (fin_bl I q (by simp))
    | _ => exact absurd (show false = true from hs) Bool.false_ne_true
  | bl i =>
    cases rx
    cases y with
    | non => cases ry; exact PySem.EqNone.ne_bool_none (fin_bl I q (by simp))
    | bl j => cases ry; exact ne_bool (fin_bl I q (congrArg not dec_bl))
    | str j => obtain ⟨t', rfl⟩ := ry; exact PySem.EqMixed.ne_bool_str (fin_bl I q (by simp))
    | _ => exact absurd (show false = true from hs) Bool.false_ne_true
  | int i =>
    obtain ⟨t, rfl⟩ := rx
    cases y with
    | non => cases ry; exact PySem.EqNone.ne_int_none (fin_bl I q (by simp))
    | int j => obtain ⟨t', rfl⟩ := ry; exact ne_int (fin_bl I q (congrArg not dec_int))
    | str j => obtain ⟨t', rfl⟩ := ry; exact PySem.EqMixed.ne_int_str (fin_bl I q (by simp))
    | _ => exact absurd (show false = true from hs) Bool.false_ne_true
  | str i =>
    obtain ⟨t, rfl⟩ := rx
    cases y with
    | non => cases ry; exact PySem.EqNone.ne_str_none (fin_bl I q (by simp))
    | bl j => cases ry; exact PySem.EqMixed.ne_str_bool (fin_bl I q (by simp))
    | int j => obtain ⟨t', rfl⟩ := ry; exact PySem.EqMixed.ne_str_int (fin_bl I q (by simp))
    | str j => obtain ⟨t', rfl⟩ := ry; exact ne_str (fin_bl I q (congrArg not dec_str))
    | _ => exact absurd (show false = true from hs) Bool.false_ne_true
  | byt i =>
    obtain ⟨t, rfl⟩ := rx
    cases y with
    | byt j => obtain ⟨t', rfl⟩ := ry; exact PySem.W.ne_bytes (fin_bl I q (congrArg not dec_byt))
    | _ => exact absurd (show false = true from hs) Bool.false_ne_true
  | _ => cases y <;> exact absurd (show false = true from hs) Bool.false_ne_true
theorem op_lt : OpR X (compareOp .Lt) (rI0 fun i j => .bl (decide (i < j))) := opB0 fun _ _ _ _ _ _ _ q => lt_int q
theorem op_le : OpR X (compareOp .LtE) (rI0 fun i j => .bl (decide (i ≤ j))) := opB0 fun _ _ _ _ _ _ _ q => le_int q
theorem op_gt : OpR X (compareOp .Gt) (rI0 fun i j => .bl (decide (j < i))) := opB0 fun _ _ _ _ _ _ _ q => gt_int q
theorem op_ge : OpR X (compareOp .GtE) (rI0 fun i j => .bl (decide (j ≤ i))) := opB0 fun _ _ _ _ _ _ _ q => ge_int q
theorem op_isN : OpR X (compareOp .Is) (fun x y H Q => y = .non ∧ Q (.bl (decide (x = .non))) H) := by
  intro pins s σ H x y v u Q I rx ry h
  obtain ⟨rfl, q⟩ := h
  cases ry
  refine is_none_gen (fin_bl I q ?_)
  cases x <;> first
    | (cases rx; rfl)
    | (obtain ⟨t, rfl⟩ := rx; rfl)
theorem nomark (b : Expr) {op : CmpOp} (h : op ≠ .In := by decide) (h2 : op ≠ .NotIn := by decide) : behindInMarks op b = false := by
  have e1 : (op == CmpOp.In) = false := by cases op <;> first | rfl | exact absurd rfl h
  have e2 : (op == CmpOp.NotIn) = false := by cases op <;> first | rfl | exact absurd rfl h2
  cases b <;> simp [behindInMarks, e1, e2]
theorem pe_cmpR {op : CmpOp} {r : R2} (ho : OpR X (compareOp op) r) (ha : PE X a ta) (hb : PE X b tb) (hm : behindInMarks op b = false) : PE X (.Compare a [op] [b] pos) (tOp r ta tb) := by
  intro pins s σ H Q I h
  exact wpAny_Compare1 (binT ha hb I h fun v u s2 x y H2 I2 rx ry q => ho pins s2 σ H2 x y v u Q I2 rx ry q) hm
def tTest (t : TE) : TT := fun σ H Q => t σ H fun x H' => ∃ k, x = .bl k ∧ Q k H'
theorem pt_cmpR {op : CmpOp} {r : R2} (ho : OpR X (compareOp op) r) (ha : PE X a ta) (hb : PE X b tb) (hm : behindInMarks op b = false) : PT X (.Compare a [op] [b] pos) (tTest (tOp r ta tb)) := by
  intro pins s σ H Q I h
  refine wpAny_isTrue_Compare1 (thn (ha pins s σ H _ I h) fun v s1 ⟨x, H1, I1, r1, q1⟩ => thn (hb pins s1 σ H1 _ I1 q1) fun u s2 ⟨y, H2, I2, r2, q2⟩ =>
    thn (ho pins s2 σ H2 x y v u _ I2 r1 r2 q2) fun c s3 ⟨z, H3, I3, r3, k, e, q3⟩ => ?_) hm
  subst e
  cases r3
  exact wpAny_truthy_bool ⟨H3, I3, q3⟩
def tChain (r r' : R2) (ta tb tc : TE) : TE := fun σ H Q => ta σ H fun x H1 => tb σ H1 fun y H2 => r x y H2 fun z H3 => ∃ k, z = .bl k ∧
  (if k = true then tc σ H3 fun w' H4 => r' y w' H4 Q else Q (.bl false) H3)
theorem pe_chain {op op' : CmpOp} {r r' : R2} (ho : OpR X (compareOp op) r) (ho' : OpR X (compareOp op') r') (ha : PE X a ta) (hb : PE X b tb) (hc : PE X c tc)
    (hm : lastMarks [op, op'] [b, c] = false := by with_unfolding_all rfl) : PE X (.Compare a [op, op'] [b, c] pos) (tChain r r' ta tb tc) := by
  intro pins s σ H Q I h
  refine Compare_chain (thn (ha pins s σ H _ I h) fun v s1 ⟨x, H1, I1, r1, q1⟩ => chain_link (thn (hb pins s1 σ H1 _ I1 q1) fun u s2 ⟨y, H2, I2, r2, q2⟩ =>
    thn (ho pins s2 σ H2 x y v u _ I2 r1 r2 q2) fun d s3 ⟨z, H3, I3, r3, k, e, q3⟩ => ?_)) hm
  subst e
  cases r3
  refine wpAny_truthy_bool ?_
  cases k with
  | false => exact ite_ff ⟨.bl false, H3, I3, rfl, q3⟩
  | true => exact ite_tt (chain_last (thn (hc pins s3 σ H3 _ I3 q3) fun w' s4 ⟨z', H4, I4, r4, q4⟩ => ho' pins s4 σ H4 y z' u w' Q I4 r2 r4 q4))
theorem pt_chain {op op' : CmpOp} {r r' : R2} (ho : OpR X (compareOp op) r) (ho' : OpR X (compareOp op') r') (ha : PE X a ta) (hb : PE X b tb) (hc : PE X c tc)
    (hm : lastMarks [op, op'] [b, c] = false := by with_unfolding_all rfl) : PT X (.Compare a [op, op'] [b, c] pos) (tTest (tChain r r' ta tb tc)) := by
  intro pins s σ H Q I h
  refine isTrue_chain (thn (ha pins s σ H _ I h) fun v s1 ⟨x, H1, I1, r1, q1⟩ => test_link (thn (hb pins s1 σ H1 _ I1 q1) fun u s2 ⟨y, H2, I2, r2, q2⟩ =>
    thn (ho pins s2 σ H2 x y v u _ I2 r1 r2 q2) fun d s3 ⟨z, H3, I3, r3, k, e, q3⟩ => ?_)) hm
  subst e
  cases r3
  refine wpAny_truthy_bool ?_
  cases k with
  | false =>
    obtain ⟨k', e', q'⟩ := q3
    cases e'
    exact ite_ff ⟨H3, I3, q'⟩
  | true =>
    refine ite_tt (test_last (thn (hc pins s3 σ H3 _ I3 q3) fun w' s4 ⟨z', H4, I4, r4, q4⟩ => thn (ho' pins s4 σ H4 y z' u w' _ I4 r2 r4 q4) fun d' s5 ⟨z2, H5, I5, r5, k2, e2, q5⟩ => ?_))
    subst e2
    cases r5
    exact wpAny_truthy_bool ⟨H5, I5, q5⟩
def TruV (K : PySem.W.Frag) (x : V) (H : Hp) (k : Bool) : Prop :=
  match x with
  | .non => k = false
  | .bl b => k = b
  | .int i => k = (i != 0)
  | .str y => y.length ≤ sizeLine ∧ k = ((y.length : Int) != 0)
  | .byt y => y.size ≤ sizeLine ∧ k = ((y.size : Int) != 0)
  | .ref p => (∃ xs, SqL K H p xs ∧ k = !xs.isEmpty) ∨ (∃ xs, SqT K H p xs ∧ k = !xs.isEmpty) ∨ ∃ kvs, H p = some (.dK kvs) ∧ k = !kvs.isEmpty
  | _ => False
theorem isEmpty_kv {κ : Type} {kvs : List (κ × V)} {vs : List (κ × Value)} (r : KV kvs vs) : (!vs.isEmpty) = !kvs.isEmpty := by
  cases r <;> rfl
theorem isEmpty_of {xs : List V} {its : List Value} (r : Vals xs its) : (!its.toArray.isEmpty) = !xs.isEmpty := by
  cases r <;> simp
theorem line63 : (sizeLine : Nat) < 2 ^ 63 := by rw [sizeLine_eq]; decide
theorem tru_ok : TruR X (fun x H Q => ∃ k, TruV X.K x H k ∧ Q k H) := by
  intro pins s σ H x v Q I rx h
  obtain ⟨k, e, q⟩ := h
  have hl := line63
  have hs : sizeLine = 16777216 := sizeLine_eq
  cases x with
  | non =>
    cases rx
    have e' : k = false := e
    subst e'
    exact truthy_none ⟨H, I, q⟩
  | bl b =>
    cases rx
    have e' : k = b := e
    subst e'
    exact wpAny_truthy_bool ⟨H, I, q⟩
  | int i =>
    obtain ⟨t, rfl⟩ := rx
    have e' : k = (i != 0) := e
    subst e'
    exact PySem.P.truthy_int ⟨H, I, q⟩
  | str y =>
    obtain ⟨t, rfl⟩ := rx
    obtain ⟨hy, e'⟩ : y.length ≤ sizeLine ∧ k = ((y.length : Int) != 0) := e
    subst e'
    exact PySem.P.truthy_str (by omega) ⟨H, I.tok _, q⟩
  | byt y =>
    obtain ⟨t, rfl⟩ := rx
    obtain ⟨hy, e'⟩ : y.size ≤ sizeLine ∧ k = ((y.size : Int) != 0) := e
    subst e'
    exact PySem.W.truthy_bytes (by omega) ⟨H, I.tok _, q⟩
  | ref p =>
    cases rx
    have e' : (∃ xs, SqL X.K H p xs ∧ k = !xs.isEmpty) ∨ (∃ xs, SqT X.K H p xs ∧ k = !xs.isEmpty) ∨ ∃ kvs, H p = some (.dK kvs) ∧ k = !kvs.isEmpty := e
    rcases e' with ⟨xs, hx, e'⟩ | ⟨xs, hx, e'⟩ | ⟨kvs, hx, e'⟩
    · subst e'
      obtain ⟨its, r, pl, hz⟩ := I.list hx
      have hlen := r.length
      exact wpAny_truthy_list pl.isList (by simp only [List.size_toArray]; omega) ⟨H, I.tok _, by rw [isEmpty_of r]; exact q⟩
    · subst e'
      obtain ⟨its, r, pl, hz⟩ := I.tuple hx
      have hlen := r.length
      exact truthy_tuple pl (by simp only [List.size_toArray]; omega) ⟨H, I.tok _, by rw [isEmpty_of r]; exact q⟩
    · subst e'
      obtain ⟨hz, hS, vs, r, m⟩ : kvs.length ≤ sizeLine ∧ (p == sysModules) = false ∧ ∃ vs, KV kvs vs ∧ s.heap.DictOf (mixKind X.prog X.w) p vs := I.hok p _ hx
      have hlen : kvs.length = vs.length := Paired.length r
      exact wpAny_truthy_dict hS m (by omega) ⟨H, I.tok _, by rw [isEmpty_kv r]; exact q⟩
  | _ => exact (show False from e).elim
theorem pt_truth (ha : PE X a ta) (he : ∀ whole, isTrue a X.env whole = (do let v ← whole; standAt a.pos; holding [v] (truthy v))) :
    PT X a (fun σ H Q => ta σ H fun x H' => ∃ k, TruV X.K x H' k ∧ Q k H') := by
  intro pins s σ H Q I h
  exact isTrue_plain (thn (ha pins s σ H _ I h) fun v s1 ⟨x, H1, I1, r1, q1⟩ => tru_ok pins s1 σ H1 x v Q I1 r1 q1) (he _)
theorem op_add_str : OpR X (binaryOp .Add) (fun x y H Q => ∃ i j, x = .str i ∧ y = .str j ∧ i.length + j.length ≤ sizeLine ∧ Q (.str (i ++ j)) H) := by
  intro pins s σ H x y v u Q I rx ry h
  obtain ⟨i, j, rfl, rfl, hz, q⟩ := h
  obtain ⟨t, rfl⟩ := rx
  obtain ⟨t', rfl⟩ := ry
  exact add_str (fun t' tk => ⟨.str (i ++ j), H, I.tok _, ⟨_, rfl⟩, q⟩) hz
theorem vals1 {x : V} {us : List Value} (r : Vals [x] us) : ∃ u, us = [u] ∧ RelV x u := by
  cases r with
  | cons r1 r2 => cases r2; exact ⟨_, rfl, r1⟩
theorem vals2 {x y : V} {us : List Value} (r : Vals [x, y] us) : ∃ u w', us = [u, w'] ∧ RelV x u ∧ RelV y w' := by
  cases r with
  | cons r1 r2 =>
    cases r2 with
    | cons r3 r4 => cases r4; exact ⟨_, _, rfl, r1, r3⟩
def LenV (K : PySem.W.Frag) (x : V) (H : Hp) (n : Nat) : Prop :=
  match x with
  | .str y => y.length ≤ sizeLine ∧ n = y.length
  | .byt y => y.size ≤ sizeLine ∧ n = y.size
  | .ref p => (∃ xs, SqL K H p xs ∧ n = xs.length) ∨ ∃ xs, SqT K H p xs ∧ n = xs.length
  | _ => False
theorem call_len : CallR X (.builtin "len") (fun xs H Q => ∃ x n, xs = [x] ∧ LenV X.K x H n ∧ Q (.int n) H) := by
  intro pins s σ H xs us Q I r h
  obtain ⟨x, n, rfl, e, q⟩ := h
  obtain ⟨u, rfl, rx⟩ := vals1 r
  have hl := line63
  have hs : sizeLine = 16777216 := sizeLine_eq
  cases x with
  | str y =>
    obtain ⟨t, rfl⟩ := rx
    obtain ⟨hy, e'⟩ : y.length ≤ sizeLine ∧ n = y.length := e
    subst e'
    exact len_str (by omega) ⟨.int _, H, I.tok _, ⟨_, rfl⟩, q⟩
  | byt y =>
    obtain ⟨t, rfl⟩ := rx
    obtain ⟨hy, e'⟩ : y.size ≤ sizeLine ∧ n = y.size := e
    subst e'
    exact PySem.W.len_bytes (by omega) ⟨.int _, H, I.tok _, ⟨_, rfl⟩, q⟩
  | ref p =>
    cases rx
    have e' : (∃ xs, SqL X.K H p xs ∧ n = xs.length) ∨ ∃ xs, SqT X.K H p xs ∧ n = xs.length := e
    rcases e' with ⟨xs, hx, e'⟩ | ⟨xs, hx, e'⟩
    · subst e'
      obtain ⟨its, r', pl, hz⟩ := I.list hx
      have hlen := r'.length
      exact Calls.call_len_list pl.isList (by simp only [List.size_toArray]; omega) ⟨.int xs.length, H, I.tok _, ⟨_, by simp only [List.size_toArray]; rw [hlen]⟩, q⟩
    · subst e'
      obtain ⟨its, r', pl, hz⟩ := I.tuple hx
      have hlen := r'.length
      exact len_tuple pl (by simp only [List.size_toArray]; omega) ⟨.int xs.length, H, I.tok _, ⟨_, by simp only [List.size_toArray]; rw [hlen]⟩, q⟩
  | _ => exact (show False from e).elim
end
end L2
namespace L2
open PySem PySem.Spec PyProof.Rows
section
variable {prog : Program} {w : World} {A : Around} {E : Value → Shared → Prop} {s : Shared} {K : PySem.W.Frag} {x dx C f : Addr} {mA : Str → Option Value} {name : Str} {v : Value}
end
def putF (f : Str) (v : V) : List (Str × V) → List (Str × V)
  | [] => [(f, v)]
  | (g, x) :: r => if g = f then (g, v) :: r else (g, x) :: putF f v r
theorem RelO.some_of {v : V} {o : Option Value} (r : RelO (some v) o) : ∃ u, o = some u ∧ RelV v u := by
  cases o with
  | none => exact (show False from r).elim
  | some u => exact ⟨u, rfl, r⟩
section
variable {P : Program} {w : World} {H H' : Hp} {h h' : Heap} {a C dx : Addr} {fs fs' : List (Str × V)}
end
section
variable {X : Cx} {pins : List (Addr × Obj)} {σ : St} {H : Hp} {s : Shared} {a C dx : Addr} {fs : List (Str × V)} {f : Str} {v : V} {A : Around} {E : Value → Shared → Prop}
end
section
variable {X : Cx} {o e value : Expr} {f : Str} {pos pos' tpos : Pos} {ta tv : TE}
end
section
variable {X : Cx} {pins : List (Addr × Obj)} {σ : St} {H : Hp} {s : Shared} {A : Around} {E : Value → Shared → Prop} {Q : Value → Shared → Prop} {c : Value} {b : Bool}
end
end L2
namespace L2
open PySem PySem.Spec PyProof.Rows
structure Room (k : Nat) (A : Around) : Prop where
  hd : A.handled = none
  dp : A.depth + 3 * k + 5 < recursionLimit
  un : A.units + 16 * k + 200 < cLine
theorem Room.mono {j k : Nat} {A : Around} (r : Room k A) (h : j ≤ k) : Room j A := ⟨r.hd, by have := r.dp; omega, by have := r.un; omega⟩
theorem Room.deeper {k : Nat} {A : Around} (r : Room (k + 1) A) (env : Env) : Room k (A.deeper env) :=
  ⟨r.hd, by have := r.dp; show A.depth + 1 + 3 * k + 5 < _; omega, by have := r.un; show A.units + 3 + 16 * k + 200 < _; omega⟩
theorem Room.depth {k : Nat} {A : Around} (r : Room k A) : A.depth < recursionLimit := by have := r.dp; omega
theorem Room.units {k : Nat} {A : Around} (r : Room k A) : A.units + 64 < cLine := by have := r.un; omega
def tNil : TA := fun _ H Q => Q [] H
def tCons (ta : TE) (tr : TA) : TA := fun σ H Q => ta σ H fun x H1 => tr σ H1 fun xs H2 => Q (x :: xs) H2
section
variable {X : Cx} {e : Expr} {es : List Expr} {te : TE} {t : TA} {pos : Pos}
theorem pa_nil : PA X [] tNil := fun _ _ _ _ H Q I h => Calls.spliced_nil ⟨[], H, I, .nil, h⟩
theorem pa_cons (ha : PE X e te) (hr : PA X es t) (hs : starEach (e :: es) X.env = (false, eval e X.env) :: starEach es X.env := by rfl) : PA X (e :: es) (tCons te t) := by
  intro pos pins s σ H Q I h
  rw [hs]
  show wpAny _ _ (spliced ((false, eval e X.env) :: backTo pos (starEach es X.env))) _ _ s
  refine Calls.spliced_cons (thn (ha pins s σ H _ I h) fun u s1 ⟨x, H1, I1, r1, q1⟩ => ?_)
  exact thn (hr pos pins s1 σ H1 _ I1 q1) fun us s2 ⟨xs, H2, I2, r2, q2⟩ => ⟨x :: xs, H2, I2, .cons r1 r2, q2⟩
end
abbrev Sp := List V → Hp → VK → XK → Prop
abbrev CXT := List Env → Hp → Shared → XK → Value → Shared → Prop
structure Env0 (P : Program) (w : World) (K : PySem.W.Frag) (mg : Str → Option Value) (base : Heap) (A : Around) (outer : List Env) (s : Shared) (H : Hp) : Prop where
  frames : A.frames = some outer
  mod : Mod K mg base
  bs : ∀ b o, base.get? b = some o → s.heap.get? b = some o ∧ H b = none
  bsz : base.objs.size ≤ s.heap.objs.size
  funs : s.heap.FunFrames base outer
  frf : ∀ b ∈ frs outer, H b = none
  hok : HOk P w H s.heap
  bare : AllBare s.gens
def CE (outer : List Env) (P : Program) (w : World) (H : Hp) (s : Shared) (Q : VK) (u : Value) (s' : Shared) : Prop :=
  ∃ v H', s'.os = s.os ∧ AllBare s'.gens ∧ Un (frs outer) [] H H' s.heap s'.heap ∧ HOk P w H' s'.heap ∧ RelV v u ∧ Q v H'
def CR (CX : CXT) (outer : List Env) (P : Program) (w : World) (H : Hp) (s : Shared) (Q : VK) (E : XK) (r : Result) (s' : Shared) : Prop :=
  match r with
  | .ok (.ret u) => CE outer P w H s Q u s'
  | .ok _ => False
  | .error e => CX outer H s E e s'
structure FnOk (P : Program) (w : World) (K : PySem.W.Frag) (mg : Str → Option Value) (base : Heap) (CX : CXT) (k : Nat) (f : Addr) (fd : FuncData) (ps : List Str) (sp : Sp) : Prop where
  len : ∀ vs H Q E, sp vs H Q E → vs.length = ps.length
  run : ∀ (A : Around) (outer : List Env) (s : Shared) (H : Hp) (args : Args) (us : List Value) (vs : List V) (Q : VK) (E : XK), Room k A → Env0 P w K mg base A outer s H → BindsTo s fd args (ps.zip us) → Vals vs us → sp vs H Q E →
    codeAny (model P w) A (.call (.ref f) args) (CR CX outer P w H s Q E) s
section
variable {X : Cx} {pins : List (Addr × Obj)} {σ : St} {H : Hp} {s s' : Shared}
theorem Inv.env0 (I : Inv X pins σ H s) : Env0 X.prog X.w X.K X.mg X.base X.A X.stack s H :=
  ⟨I.ok.frames, I.ok.mod, I.bs, Nat.le_trans I.ok.bsz I.sz, I.stack, I.stkFree, I.hok, I.bare⟩
theorem Inv.after {Q : VK} {u : Value} (I : Inv X pins σ H s) (h : CE X.stack X.prog X.w H s Q u s') : EP X pins σ Q u s' := by
  obtain ⟨v, H', os, bare, un, hok, r, q⟩ := h
  obtain ⟨hh, g, d, t, os'⟩ := s'
  obtain rfl : os' = s.os := os
  exact ⟨v, H', I.call (h' := hh) (g' := g) (d' := d) (t' := t) (ch := []) un hok bare (fun b z => absurd z (by simp)), r, q⟩
end
def tCall (sp : Sp) (dvs : List V) (E : XK) (t : TA) : TE := fun σ H Q => t σ H fun vs H1 => sp (vs ++ dvs) H1 Q E
def Binds (K : PySem.W.Frag) (fd : FuncData) (ps : List Str) (ds : List Value) : Prop :=
  ∀ (s : Shared) (us : List Value), K.In s.heap → (us ++ ds).length = ps.length → BindsTo s fd ⟨us, []⟩ (ps.zip (us ++ ds))
theorem Binds.all {K : PySem.W.Frag} {fd : FuncData} {ps : List Str} (h : ∀ us : List Value, us.length = ps.length → bindArgs fd ⟨us, []⟩ = pure (ps.zip us)) : Binds K fd ps [] := fun s us _ hl => by
  rw [List.append_nil] at hl ⊢
  exact .of_eq (h us hl)
def Passes (CX : CXT) (X : Cx) (E : XK) : Prop := ∀ (pins : List (Addr × Obj)) (σ : St) (H : Hp) (s : Shared) (e : Value) (s' : Shared), Inv X pins σ H s → CX X.stack H s E e s' → X.xe e s'
section
variable {X : Cx} {CX : CXT} {k : Nat} {f C : Addr} {fd : FuncData} {ps : List Str} {sp : Sp} {dvs : List V} {ds : List Value} {E : XK} {x m : Str} {p pos apos : Pos} {e o : Expr} {es : List Expr} {ta : TE} {t : TA}
theorem run_fn {pins : List (Addr × Obj)} {σ : St} {H : Hp} {s : Shared} {Q : VK} {us : List Value} {vs : List V} (F : FnOk X.prog X.w X.K X.mg X.base CX k f fd ps sp) (hr : Room k X.A) (hb : Binds X.K fd ps ds) (hd : Vals dvs ds) (hx : Passes CX X E)
    (I : Inv X pins σ H s) (r : Vals vs us) (h : sp (vs ++ dvs) H Q E) : wpAny (model X.prog X.w) X.A (call (.ref f) us) (EP X pins σ Q) X.xe s := by
  have r2 : Vals (vs ++ dvs) (us ++ ds) := r.append hd
  have hl : (us ++ ds).length = ps.length := by rw [← r2.length]; exact F.len _ _ _ _ h
  refine wpAny_call (codeAny_mono (F.run X.A X.stack s H ⟨us, []⟩ (us ++ ds) (vs ++ dvs) Q E hr I.env0 (hb s us I.kIn hl) r2 h) fun r s' hq => ?_)
  cases r with
  | error e => exact hx pins σ H s e s' I hq
  | ok fl =>
    cases fl with
    | ret u => exact I.after hq
    | next => exact False.elim hq
    | brk => exact False.elim hq
    | cont => exact False.elim hq
theorem pe_call (F : FnOk X.prog X.w X.K X.mg X.base CX k f fd ps sp) (hr : Room k X.A) (hg : Gl X x) (hm : X.mg x = some (.ref f)) (hk : PySem.W.keepIn X.K (.ref f) = true) (hb : Binds X.K fd ps ds) (hd : Vals dvs ds) (hx : Passes CX X E)
    (ha : PA X (e :: es) t) (hdb : (x == ("__debug__" : Str)) = false := by decide) (he : starEach (e :: es) X.env = (false, eval e X.env) :: starEach es X.env := by rfl) (hpl : (backTo pos (starEach es X.env)).any (·.1) = false := by rfl) :
    PE X (.Call (.Name x p) (e :: es) [] pos) (tCall sp dvs E t) := by
  intro pins s σ H Q I h
  refine wpAny_Call_Name_kw (ld_glob I hg hm ?_ hdb)
  refine PySem.W.callWith_K (h₀ := X.base) I.ok.mod.kin hk (thn (ha pos pins s σ H _ I h) fun us s1 ⟨vs, H1, I1, r, q⟩ => ⟨I1.kIn, ?_⟩) he hpl
  exact run_fn F hr hb hd hx I1 r q
end
section
variable {X : Cx} {CX : CXT} {k : Nat} {f C : Addr} {fd : FuncData} {ps ks : List Str} {sp : Sp} {E : XK} {x m : Str} {p pos apos kpos : Pos} {e o : Expr} {es : List Expr} {kws : List Keyword} {te ta : TE} {t tk : TA} {nm : Option Str}
variable {g : List Value → List Value → List Value} {gV : List V → List V → List V}
end
structure FnScope (N P : List Str) (sc : Scope) : Prop where
  kind : sc.kind = .function
  co : sc.isCoroutine = false
  gen : sc.isGenerator = false
  nd : N.Nodup
  pre : N.take P.length = P
  par : ∀ x ∈ P, sc.names.lookup x = some .local ∨ sc.names.lookup x = some .cell
  nofree : ∀ y ∈ sc.names, y.2 ≠ .free
theorem bindL_out {kindOf : Str → Option NameKind} {x : Str} : ∀ {binds : List (Str × Value)} {m : Str → Option Value}, (∀ v, (x, v) ∉ binds) → bindL kindOf binds m x = m x
  | [], _, _ => rfl
  | (n, v) :: r, m, h => by
    unfold bindL
    rw [bindL_out fun w hw => h w (List.mem_cons_of_mem _ hw)]
    split
    · have : x ≠ n := by rintro rfl; exact h v List.mem_cons_self
      simp [this]
    · rfl
theorem bindC_out {kindOf : Str → Option NameKind} {x : Str} : ∀ {binds : List (Str × Value)} {m : Str → Option Value}, (∀ v, (x, v) ∉ binds) → bindC kindOf binds m x = m x
  | [], _, _ => rfl
  | (n, v) :: r, m, h => by
    unfold bindC
    rw [bindC_out fun w hw => h w (List.mem_cons_of_mem _ hw)]
    split
    · rfl
    · have : x ≠ n := by rintro rfl; exact h v List.mem_cons_self
      simp [this]
theorem bindL_get {kindOf : Str → Option NameKind} {x : Str} {v : Value} : ∀ {P : List Str} {vs : List Value} {i : Nat} {m : Str → Option Value}, P.Nodup → P[i]? = some x → vs[i]? = some v → kindOf x = some .local →
    bindL kindOf (P.zip vs) m x = some v
  | [], _, _, _, _, h, _, _ => by simp at h
  | _ :: _, [], _, _, _, _, h, _ => by simp at h
  | p :: P, w :: vs, 0, m, nd, h1, h2, hk => by
    simp at h1 h2; subst h1; subst h2
    show bindL kindOf ((p, w) :: P.zip vs) m p = _
    unfold bindL
    rw [bindL_out fun v hv => (List.nodup_cons.mp nd).1 (List.of_mem_zip hv).1, if_pos hk]
    simp
  | p :: P, w :: vs, i + 1, m, nd, h1, h2, hk => by
    show bindL kindOf ((p, w) :: P.zip vs) m x = _
    unfold bindL
    exact bindL_get (i := i) (List.nodup_cons.mp nd).2 (by simpa using h1) (by simpa using h2) hk
theorem bindC_get {kindOf : Str → Option NameKind} {x : Str} {v : Value} : ∀ {P : List Str} {vs : List Value} {i : Nat} {m : Str → Option Value}, P.Nodup → P[i]? = some x → vs[i]? = some v → kindOf x ≠ some .local →
    bindC kindOf (P.zip vs) m x = some v
  | [], _, _, _, _, h, _, _ => by simp at h
  | _ :: _, [], _, _, _, _, h, _ => by simp at h
  | p :: P, w :: vs, 0, m, nd, h1, h2, hk => by
    simp at h1 h2; subst h1; subst h2
    show bindC kindOf ((p, w) :: P.zip vs) m p = _
    unfold bindC
    rw [bindC_out fun v hv => (List.nodup_cons.mp nd).1 (List.of_mem_zip hv).1, if_neg hk]
    simp
  | p :: P, w :: vs, i + 1, m, nd, h1, h2, hk => by
    show bindC kindOf ((p, w) :: P.zip vs) m x = _
    unfold bindC
    exact bindC_get (i := i) (List.nodup_cons.mp nd).2 (by simpa using h1) (by simpa using h2) hk
def start (N : List Str) (vs : List V) : St := vs.map some ++ List.replicate (N.length - vs.length) none
def cxOf (CX : CXT) (P : Program) (w : World) (K : PySem.W.Frag) (mg : Str → Option Value) (base : Heap) (N : List Str) (qual : Str) (scope : Scope) (f : Addr) (cd : Value) (A : Around) (outer : List Env) (s : Shared) (H : Hp) (E : XK) : Cx where
  prog := P
  w := w
  K := K
  mg := mg
  base := base
  A := A.deeper (envOfC qual scope s.heap.objs.size f cd)
  N := N
  s₀ := s
  H₀ := H
  env := envOfC qual scope s.heap.objs.size f cd
  outer := outer
  stack := envOfC qual scope s.heap.objs.size f cd :: outer
  ex := []
  calm := true
  fn := fun _ => true
  pn := []
  xe := fun e s' => wpAny (model P w) (A.deeper (envOfC qual scope s.heap.objs.size f cd)) (leaving (envOfC qual scope s.heap.objs.size f cd) e) (fun _ s'' => CX outer H s E e s'') (fun e' s'' => CX outer H s E e' s'') s'
theorem cell_has {sc : Scope} {n : Nat} {x : Str} (h : sc.names.lookup x = some .cell) : ∃ c, (cellsFrom n sc.names []).lookup x = some c := by
  have q := PySem.W.cellsFrom_some sc.names n [] (.inl h)
  exact Option.isSome_iff_exists.mp q
theorem inv_start {CX : CXT} {P : Program} {w : World} {K : PySem.W.Frag} {mg : Str → Option Value} {base : Heap} {N ps : List Str} {qual : Str} {scope : Scope} {f : Addr} {cd : Value} {A : Around} {outer : List Env} {s s1 : Shared} {H : Hp} {E : XK} {us : List Value} {vs : List V}
    (S : FnScope N ps scope) (hd : A.handled = none) (e0 : Env0 P w K mg base A outer s H) (hl : vs.length = ps.length) (r : Vals vs us)
    (x : InCallC s s.heap.objs.size (bindL (envOfC qual scope s.heap.objs.size f cd).kindOf (ps.zip us) fun _ => none) (cellsFrom (s.heap.objs.size + 1) scope.names []) (bindC (envOfC qual scope s.heap.objs.size f cd).kindOf (ps.zip us) fun _ => none) s1) :
    Inv (cxOf CX P w K mg base N qual scope f cd A outer s H E) [] (start N vs) H s1 := by
  have hpl : ps.length ≤ N.length := by have := congrArg List.length S.pre; rw [List.length_take] at this; omega
  obtain ⟨h1, tk, rfl, hk⟩ := x.done
  have noA : ∀ b : Addr, b ∉ (cxOf CX P w K mg base N qual scope f cd A outer s H E).ex := fun b z => absurd (show b ∈ ([] : List Addr) from z) (by simp)
  refine ⟨⟨e0.mod, S.kind, rfl, rfl, Nat.le_refl _, fun y z c h1 h2 => ?_, fun y hy => ?_, fun y c _ h => ?_, fun _ => hd, Around.frames_deeper e0.frames, .inr ⟨rfl, rfl⟩, fun b z => absurd z (noA b), e0.bs, e0.bsz, fun b _ _ => noA b, fun b z => absurd z (noA b), e0.funs, e0.frf⟩,
    rfl, e0.bare, Un.kept hk, ⟨_, x.toInCall.ns, fun i y v h1 h2 h3 => ?_⟩, fun y c h => ⟨_, x.cell y c h⟩, e0.hok.fresh (Nat.le_refl _), fun y c h => ?_, fun p hp => absurd (show p ∈ ([] : List (Addr × Obj)) from hp) (by simp), e0.hok.kept hk, ?_⟩
  · exact name_of_addr x.apart (PySem.mem_of_lookup h1) (PySem.mem_of_lookup h2)
  · have hy : scope.names.lookup y = some .cell ∨ scope.names.lookup y = some .free := hy
    rcases hy with hy | hy
    · exact cell_has hy
    · exact absurd rfl (S.nofree _ (PySem.mem_of_lookup hy))
  · exact Nat.le_of_lt (x.above y c (PySem.mem_of_lookup h))
  · have hi : i < vs.length := by
      unfold start at h2
      by_cases hi : i < vs.length
      · exact hi
      · rw [List.getElem?_append_right (by simpa using hi)] at h2
        rw [List.getElem?_replicate] at h2
        split at h2 <;> cases h2
    have ha : vs[i]? = some v := by
      unfold start at h2
      rw [List.getElem?_append_left (by simpa using hi), List.getElem?_map] at h2
      cases e : vs[i]? with
      | none => rw [e] at h2; cases h2
      | some a => rw [e] at h2; cases h2; rfl
    obtain ⟨u, hu, rv⟩ := r.get ha
    have hp : ps[i]? = some y := by
      rw [← S.pre, List.getElem?_take_of_lt (by omega)]; exact h1
    have ndP : ps.Nodup := by rw [← S.pre]; exact S.nd.sublist (List.take_sublist _ _)
    refine ⟨u, rv, ?_⟩
    rcases S.par y (List.mem_of_getElem? hp) with k | k
    · exact .inl ⟨k, bindL_get ndP hp hu k⟩
    · obtain ⟨c, e⟩ := cell_has (n := s.heap.objs.size + 1) k
      refine .inr ⟨.inl k, c, e, ?_⟩
      have q := x.cell y c e
      rw [bindC_get ndP hp hu (by show scope.names.lookup y ≠ _; rw [k]; decide)] at q
      exact q
  · exact e0.hok.fresh (Nat.le_of_lt (x.above y c (PySem.mem_of_lookup h)))
  · unfold start
    show _ = N.length
    rw [List.length_append, List.length_map, List.length_replicate]
    omega
theorem fn_of {CX : CXT} {P : Program} {w : World} {K : PySem.W.Frag} {mg : Str → Option Value} {base : Heap} {k : Nat} {f : Addr} {name qual : Str} {params : Arguments} {body : List Stmt} {scope : Scope} {dV kV doc pm cdv ct oc : Value} {an od : Option Addr}
    {osl : Array (Option Value)} {N ps : List Str} {sp : Sp} (lk : K.lookup f = some ⟨oc, od, .func (PySem.W.fnOf name qual params body scope dV kV doc pm an cdv ct), osl⟩) (hcd : PySem.W.codeIn K cdv qual = true) (S : FnScope N ps scope)
    (len : ∀ vs H Q E, sp vs H Q E → vs.length = ps.length)
    (hbody : ∀ (A : Around) (outer : List Env) (s : Shared) (H : Hp) (vs : List V) (Q : VK) (E : XK), Room k (A.deeper (envOfC qual scope s.heap.objs.size f cdv)) → sp vs H Q E →
      ∃ t, PSs (cxOf CX P w K mg base N qual scope f cdv A outer s H E) body t ∧ t { nx := fun _ H' => Q .non H', rt := Q } (start N vs) H) :
    FnOk P w K mg base CX (k + 1) f (PySem.W.fnOf name qual params body scope dV kV doc pm an cdv ct) ps sp := by
  refine ⟨len, fun A outer s H args us vs Q E hr e0 hb r hsp => ?_⟩
  have hl := len _ _ _ _ hsp
  have KX : K.In s.heap := e0.mod.kin.keeps fun b o e => (e0.bs b o e).1
  have lim : s.heap.NoLimit := e0.mod.nolimit.keeps fun b o e => (e0.bs b o e).1
  have hkind : ∀ y ∈ ps.zip us, scope.names.lookup y.1 = some .local ∨ (scope.names.lookup y.1 = some .cell ∧ ((cellsFrom (s.heap.objs.size + 1) scope.names []).lookup y.1).isSome = true) := fun ⟨n, v⟩ hy => by
    rcases S.par n (List.of_mem_zip hy).1 with q | q
    · exact .inl q
    · exact .inr ⟨q, PySem.W.cellsFrom_some _ _ _ (.inl q)⟩
  refine codeAny_call_function hr.depth (KX _ _ lk) rfl S.co S.gen rfl (PySem.W.codeRec_of KX hcd) (hb _ _ _ _ ?_)
  refine wpAny_newFunctionEnv_cells S.kind hkind fun env he s1 x => ?_
  subst he
  refine ⟨lim.keeps x.toInCall.keep, codeAny_func ?_⟩
  obtain ⟨t, ht, hq⟩ := hbody A outer s H vs Q E (hr.deeper _) hsp
  have I : Inv (cxOf CX P w K mg base N qual scope f cdv A outer s H E) [] (start N vs) H s1 := inv_start S hr.hd e0 hl r x
  refine wpAny_mono (ht [] s1 (start N vs) H _ I hq) (fun fl s' hs => ?_) fun e s' hs => hs
  have fin : ∀ {σ' : St} {H' : Hp} {v : V} {u : Value}, Inv (cxOf CX P w K mg base N qual scope f cdv A outer s H E) [] σ' H' s' → RelV v u → Q v H' → CE outer P w H s Q u s' :=
    fun {σ' H' v u} J rv q => ⟨v, H', J.os, J.bare, J.base, J.hok, rv, q⟩
  cases fl with
  | ret u =>
    obtain ⟨v, σ', H', J, rv, q⟩ := hs
    exact fin J rv q
  | next =>
    obtain ⟨σ', H', J, q⟩ := hs
    exact fin (v := V.non) (u := Value.none) J rfl q
  | brk =>
    obtain ⟨_, _, _, q⟩ := hs
    exact False.elim q
  | cont =>
    obtain ⟨_, _, _, q⟩ := hs
    exact False.elim q
end L2
namespace L2
open PySem PySem.Spec PyProof.Rows
section
variable {X : Cx} {x : Str} {p pos : Pos} {e : Expr} {es : List Expr} {t : TA} {id T : String} {r : List V → Hp → VK → Prop}
def tCB (r : List V → Hp → VK → Prop) (t : TA) : TE := fun σ H Q => t σ H fun vs H1 => r vs H1 Q
theorem pe_callB (hc : CallR X (.builtin id) r) (hg : Gl X x) (hm : X.mg x = none) (hv : bootBuiltins x = some (.builtin id)) (ha : PA X (e :: es) t) (hn : x ≠ "__name__" := by decide) (hdb : (x == ("__debug__" : Str)) = false := by decide)
    (he : starEach (e :: es) X.env = (false, eval e X.env) :: starEach es X.env := by rfl) (hpl : (backTo pos (starEach es X.env)).any (·.1) = false := by rfl) : PE X (.Call (.Name x p) (e :: es) [] pos) (tCB r t) := by
  intro pins s σ H Q I h
  refine wpAny_Call_Name_kw (ld_blt I hg hm hv ?_ hn hdb)
  exact PyProof.Rows.callWith_builtin1 (thn (ha pos pins s σ H _ I h) fun us s1 ⟨vs, H1, I1, r1, q1⟩ => hc pins s1 σ H1 vs us Q I1 r1 q1) he hpl
theorem pe_callTy (hc : CallR X (.type T) r) (hg : Gl X x) (hm : X.mg x = none) (hv : bootBuiltins x = some (.type T)) (ha : PA X (e :: es) t) (hn : x ≠ "__name__" := by decide) (hdb : (x == ("__debug__" : Str)) = false := by decide)
    (he : starEach (e :: es) X.env = (false, eval e X.env) :: starEach es X.env := by rfl) (hpl : (backTo pos (starEach es X.env)).any (·.1) = false := by rfl) : PE X (.Call (.Name x p) (e :: es) [] pos) (tCB r t) := by
  intro pins s σ H Q I h
  refine wpAny_Call_Name_kw (ld_blt I hg hm hv ?_ hn hdb)
  exact PyProof.Rows.callWith_type1 (thn (ha pos pins s σ H _ I h) fun us s1 ⟨vs, H1, I1, r1, q1⟩ => hc pins s1 σ H1 vs us Q I1 r1 q1) he hpl
end
end L2
namespace HT
open PySem PyProof.Rows
section
open PySem.SeqAt
open PySem.AutoSeq1 (wpAny_loadPart')
open PySem.MeetsSeq PySem.MeetsSeq2 PySem.MeetsSeq3
end
section
variable {prog : Program} {w : World} {A : Around} {E : Value → Shared → Prop} {s : Shared}
def sIx (n d : Nat) : Option Int → Nat
  | none => d
  | some v => if v < 0 then (v + (n : Int)).toNat else min v.toNat n
theorem sIx_none (n d : Nat) : sIx n d none = d := rfl
theorem sIx_nat (n d k : Nat) : sIx n d (some (k : Int)) = min k n := by
  show (if (k : Int) < 0 then ((k : Int) + (n : Int)).toNat else min (k : Int).toNat n) = min k n
  rw [if_neg (by omega), Int.toNat_natCast]
end
end HT
namespace L2
open PySem PySem.Spec PyProof.Rows
abbrev TO := St → Hp → (Option Int → Hp → Prop) → Prop
def PO (X : Cx) (e : Option Expr) (t : TO) : Prop :=
  ∀ (pins : List (Addr × Obj)) (s : Shared) (σ : St) (H : Hp) (Q : Option Int → Hp → Prop), Inv X pins σ H s → t σ H Q →
    wpAny (model X.prog X.w) X.A (evalPart e X.env) (fun u s' => ∃ o H', Inv X pins σ H' s' ∧ IsPart u o ∧ Q o H') X.xe s
def tNoPart : TO := fun _ H Q => Q none H
def tPart (t : TE) : TO := fun σ H Q => t σ H fun x H1 => ∃ i, x = .int i ∧ Q (some i) H1
theorem intsAre_of {ns : List Int} : ∀ {us : List Value}, Vals (ns.map V.int) us → IntsAre us ns := by
  induction ns with
  | nil => intro us r; rw [List.map_nil] at r; cases r; exact .nil
  | cons n ns ih =>
    intro us r
    rw [List.map_cons] at r
    cases r with
    | cons r1 r2 =>
      obtain ⟨t, e⟩ := r1
      subst e
      exact .cons n t (ih r2)
section
variable {X : Cx} {e : Expr} {te : TE} {lo hi : Option Expr} {tl th : TO} {pos p2 : Pos}
theorem po_none : PO X none tNoPart := by
  intro pins s σ H Q I h
  rw [evalPart_none]
  exact wpAny_pure ⟨none, H, I, .none, h⟩
theorem po_some (h : PE X e te) : PO X (some e) (tPart te) := by
  intro pins s σ H Q I hw
  rw [evalPart_some]
  refine thn (h pins s σ H _ I hw) fun u s1 ⟨x, H1, I1, r1, q1⟩ => ?_
  obtain ⟨i, rfl, q⟩ := q1
  obtain ⟨t, rfl⟩ := r1
  exact ⟨some i, H1, I1, .int i t, q⟩
def SlR (X : Cx) (r : V → Option Int → Option Int → Hp → VK → Prop) : Prop :=
  ∀ (pins : List (Addr × Obj)) (s : Shared) (σ : St) (H : Hp) (x : V) (v vl vu : Value) (lo hi : Option Int) (sl : Addr) (Q : VK), Inv X pins σ H s → RelV x v → s.heap.IsSliceOf sl vl vu .none → IsPart vl lo → IsPart vu hi → r x lo hi H Q →
    ∃ T id, typeLookup (.type T) "__getitem__" = pure (some (.builtin id)) ∧ s.TypeIs v T ∧ wpAny (model X.prog X.w) X.A (getItem v (.ref sl)) (EP X pins σ Q) X.xe s
def tSl (r : V → Option Int → Option Int → Hp → VK → Prop) (te : TE) (tl th : TO) : TE := fun σ H Q => te σ H fun x H1 => tl σ H1 fun l H2 => th σ H2 fun u H3 => r x l u H3 Q
theorem pe_slice {r : V → Option Int → Option Int → Hp → VK → Prop} (hr : SlR X r) (he : PE X e te) (hl : PO X lo tl) (hu : PO X hi th) : PE X (.Subscript e (.Slice lo hi none p2) pos) (tSl r te tl th) := by
  intro pins s σ H Q I h
  refine Subscript_ (thn (he pins s σ H _ I h) fun v s1 ⟨x, H1, I1, r1, q1⟩ => ?_)
  refine wpAny_Slice (thn (hl pins s1 σ H1 _ I1 q1) fun vl s2 ⟨l, H2, I2, pl, q2⟩ => thn (hu pins s2 σ H2 _ I2 q2) fun vu s3 ⟨u, H3, I3, pu, q3⟩ => ?_)
  rw [evalPart_none]
  refine wpAny_pure ?_
  have I4 : Inv X pins σ H3 { s3 with heap := s3.heap.push { cls := .type "slice", data := .fields #[vl, vu, .none] } } := I3.kept (t' := s3.toks) fun b ob q => Heap.get?_push_of_some _ q
  obtain ⟨T, id, hT, ht, hg⟩ := hr pins { s3 with heap := s3.heap.push { cls := .type "slice", data := .fields #[vl, vu, .none] } } σ H3 x v vl vu l u s3.heap.objs.size Q I4 r1 (Heap.IsSliceOf.new ..) pl pu q3
  show wpAny (model X.prog X.w) X.A (subscriptTail e (.Slice lo hi none p2) v (.ref s3.heap.objs.size)) (EP X pins σ Q) X.xe { s3 with heap := s3.heap.push { cls := .type "slice", data := .fields #[vl, vu, .none] } }
  exact tail_any (ops := [.ref s3.heap.objs.size, v]) ht hT hg (by with_unfolding_all rfl)
def cutV (xs : List V) (lo hi : Option Int) : List V := (xs.drop (HT.sIx xs.length 0 lo)).take (HT.sIx xs.length xs.length hi - HT.sIx xs.length 0 lo)
theorem cutV_length (xs : List V) (lo hi : Option Int) : (cutV xs lo hi).length ≤ xs.length := by
  unfold cutV
  rw [List.length_take, List.length_drop]
  omega
end
end L2
namespace L2
open PySem PySem.Spec PyProof.Rows
def ixN (n : Nat) (i : Int) : Option Nat := if 0 ≤ i then (if i < n then some i.toNat else none) else if -(n : Int) ≤ i then some (i + n).toNat else none
def atI {α : Type} (xs : List α) (i : Int) : Option α := (ixN xs.length i).bind fun j => xs[j]?
theorem ixN_seq {n : Nat} {i : Int} {j : Nat} (h : ixN n i = some j) : seqIndex? i n = some j ∧ j < n ∧ -(n : Int) ≤ i ∧ i < n := by
  unfold ixN at h
  by_cases h0 : 0 ≤ i
  · rw [if_pos h0] at h
    by_cases h1 : i < n
    · rw [if_pos h1] at h
      have e : i.toNat = j := Option.some.inj h
      exact ⟨by rw [seqIndex_of h0 h1, e], by omega, by omega, h1⟩
    · rw [if_neg h1] at h; cases h
  · rw [if_neg h0] at h
    by_cases h1 : -(n : Int) ≤ i
    · rw [if_pos h1] at h
      have e : (i + n).toNat = j := Option.some.inj h
      exact ⟨by rw [seqIndex_neg (by omega) h1, e], by omega, h1, by omega⟩
    · rw [if_neg h1] at h; cases h
theorem atI_get {α : Type} {xs : List α} {i : Int} {v : α} (h : atI xs i = some v) : ∃ j, seqIndex? i xs.length = some j ∧ xs[j]? = some v ∧ j < xs.length ∧ -(xs.length : Int) ≤ i ∧ i < xs.length := by
  unfold atI at h
  cases e : ixN xs.length i with
  | none => rw [e] at h; cases h
  | some j =>
    rw [e] at h
    obtain ⟨h1, h2, h3, h4⟩ := ixN_seq e
    exact ⟨j, h1, h, h2, h3, h4⟩
theorem atI_nat {α : Type} {xs : List α} {j : Nat} {v : α} (h : xs[j]? = some v) : atI xs (j : Int) = some v := by
  have hj : j < xs.length := (List.getElem?_eq_some_iff.mp h).1
  have e : ixN xs.length (j : Int) = some j := by
    unfold ixN
    rw [if_pos (by omega), if_pos (by omega)]; simp
  unfold atI; rw [e]; exact h
theorem atI_last {α : Type} (xs : List α) (v : α) : atI (xs ++ [v]) (-1) = some v := by
  have hl : (xs ++ [v]).length = xs.length + 1 := by simp
  have e : ixN (xs ++ [v]).length (-1) = some xs.length := by
    unfold ixN
    rw [hl, if_neg (by decide), if_pos (by omega)]
    congr 1
    omega
  unfold atI
  rw [e]
  show (xs ++ [v])[xs.length]? = some v
  simp
def PlainIx (b : Expr) : Prop := ∀ o i, subscripted b false o i = operate [o, i] (getItem o i)
def IxR (X : Cx) (r : R2) : Prop :=
  ∀ (value slice : Expr) (pins : List (Addr × Obj)) (s : Shared) (σ : St) (H : Hp) (x y : V) (v u : Value) (Q : VK), Inv X pins σ H s → RelV x v → RelV y u → r x y H Q →
    subscripted slice false v u = operate [v, u] (getItem v u) → wpAny (model X.prog X.w) X.A (subscriptTail value slice v u) (EP X pins σ Q) X.xe s
def MtR (X : Cx) (id : String) (r : V → List V → Hp → VK → Prop) : Prop :=
  ∀ (pins : List (Addr × Obj)) (s : Shared) (σ : St) (H : Hp) (x : V) (xs : List V) (v : Value) (us : List Value) (Q : VK), Inv X pins σ H s → RelV x v → Vals xs us → r x xs H Q →
    wpAny (model X.prog X.w) X.A (call (.builtin id) (v :: us)) (EP X pins σ Q) X.xe s
section
variable {X : Cx} {a b : Expr} {ta tb : TE} {pos : Pos}
theorem pe_ix {r : R2} (hr : IxR X r) (ha : PE X a ta) (hb : PE X b tb) (hs : PlainIx b) : PE X (.Subscript a b pos) (tOp r ta tb) := by
  intro pins s σ H Q I h
  exact Subscript_ (binT ha hb I h fun v u s2 x y H2 I2 rx ry q => hr a b pins s2 σ H2 x y v u Q I2 rx ry q (hs _ _))
def rIxL (K : PySem.W.Frag) : R2 := fun x y H Q => ∃ p xs i v, x = .ref p ∧ y = .int i ∧ SqL K H p xs ∧ atI xs i = some v ∧ Q v H
def rIxT (K : PySem.W.Frag) : R2 := fun x y H Q => ∃ p xs i v, x = .ref p ∧ y = .int i ∧ SqT K H p xs ∧ atI xs i = some v ∧ Q v H
theorem ix_list : IxR X (rIxL X.K) := by
  intro value slice pins s σ H x y v u Q I rx ry h hs
  obtain ⟨p, xs, i, z, rfl, rfl, hq, he, q⟩ := h
  cases rx
  obtain ⟨t, rfl⟩ := ry
  obtain ⟨its, r, pl, hz⟩ := I.list hq
  obtain ⟨j, h1, h2, h3, h4, h5⟩ := atI_get he
  obtain ⟨w, ew, rw'⟩ := r.get h2
  have hl := r.length
  have hn := line63
  have fin : EP X pins σ Q w s := ⟨z, H, I, rw', q⟩
  by_cases h0 : 0 ≤ i
  · have hj : i.toNat = j := by
      rw [seqIndex_of h0 h5] at h1
      exact Option.some.inj h1
    exact item_listR pl.isList h0 (by omega) (by rw [hj]; simpa using ew) fin hs
  · have hj : (i + (its.toArray.size : Int)).toNat = j := by
      rw [seqIndex_neg (by omega) h4] at h1
      rw [List.size_toArray, ← hl]
      exact Option.some.inj h1
    exact subscriptTail_builtinR (x := w) pl.isList.typeIs slot_list_getitem.lookup
      (wpAny_getItem_list_neg (Q := fun r s' => r = w ∧ EP X pins σ Q r s') pl.isList (by omega) (by rw [List.size_toArray] <;> omega) (by omega) (by rw [hj]; simpa using ew) ⟨rfl, fin⟩) hs
theorem ix_tup : IxR X (rIxT X.K) := by
  intro value slice pins s σ H x y v u Q I rx ry h hs
  obtain ⟨p, xs, i, z, rfl, rfl, hq, he, q⟩ := h
  cases rx
  obtain ⟨t, rfl⟩ := ry
  obtain ⟨its, r, pl, hz⟩ := I.tuple hq
  obtain ⟨j, h1, h2, h3, h4, h5⟩ := atI_get he
  obtain ⟨w, ew, rw'⟩ := r.get h2
  have hl := r.length
  have hn := line63
  have fin : EP X pins σ Q w s := ⟨z, H, I, rw', q⟩
  exact subscriptTail_builtinR (x := w) pl.typeIs slot_tuple_getitem.lookup
    (getItem_tuple (j := j) (Q := fun r s' => r = w ∧ EP X pins σ Q r s') pl (by omega) (by omega) (by rw [List.size_toArray, ← hl]; exact h1) (by simpa using ew) ⟨rfl, fin⟩) hs
theorem mapSeq_set (its : List Value) (n j : Nat) (u : Value) : Obj.mapSeq (·.setIfInBounds j u) { cls := .type "list", data := .seq its.toArray n } = { cls := .type "list", data := .seq (its.set j u).toArray n } := by
  simp [Obj.mapSeq]
theorem Inv.lst {pins : List (Addr × Obj)} {σ : St} {H : Hp} {s : Shared} {p : Addr} {xs : List V} (I : Inv X pins σ H s) (h : H p = some (.lst xs)) :
    ∃ (its : List Value) (n : Nat), Vals xs its ∧ s.heap.get? p = some { cls := .type "list", data := .seq its.toArray n } ∧ xs.length ≤ sizeLine := by
  obtain ⟨z, its, n, r, e⟩ := I.hok p _ h
  exact ⟨its, n, r, e, z⟩
theorem Inv.lstUpd {pins : List (Addr × Obj)} {σ : St} {H : Hp} {s : Shared} {p : Addr} {xs ys : List V} {its its' : List Value} {n n' : Nat} {f : Obj → Obj} (I : Inv X pins σ H s) (h : H p = some (.lst xs))
    (ho : s.heap.get? p = some { cls := .type "list", data := .seq its.toArray n }) (hf : f { cls := .type "list", data := .seq its.toArray n } = { cls := .type "list", data := .seq its'.toArray n' }) (r : Vals ys its') (hz : ys.length ≤ sizeLine) (t : Nat) :
    Inv X pins σ (upd H p (.lst ys)) { s with heap := s.heap.update p f, toks := t } := by
  have e : (s.heap.update p f).get? p = some { cls := .type "list", data := .seq its'.toArray n' } := by
    rw [Heap.get?_update_self f ho (by rw [hf] <;> rfl), hf]
  refine I.write (x := p) (e := p) (by rw [h]; trivial) (.inl rfl) (fun b u hb q => (Heap.get?_update_other _ _ (Ne.symm hb)).trans q) ⟨_, e⟩ ?_
  exact ⟨hz, its', n', r, e⟩
def rSetL : V → V → V → Hp → (Hp → Prop) → Prop := fun o i v H Q => ∃ p xs k j, o = .ref p ∧ i = .int k ∧ H p = some (.lst xs) ∧ ixN xs.length k = some j ∧ Q (upd H p (.lst (xs.set j v)))
theorem set_list : PSet X rSetL := by
  intro pins s σ H o i v ov iv u Q I ro ri rv h
  obtain ⟨p, xs, k, j, rfl, rfl, hp, hj, q⟩ := h
  cases ro
  obtain ⟨t, rfl⟩ := ri
  obtain ⟨its, n, r, ho, hz⟩ := I.lst hp
  obtain ⟨h1, h2, h3, h4⟩ := ixN_seq hj
  have hl := r.length
  have hn := line63
  have I' : Inv X pins σ (upd H p (.lst (xs.set j v))) { s with heap := s.heap.update p (Obj.mapSeq (·.setIfInBounds j u)) } :=
    I.lstUpd hp ho (mapSeq_set its n j u) (r.set rv j) (by rw [List.length_set]; exact hz) s.toks
  by_cases h0 : 0 ≤ k
  · have hk : k.toNat = j := by
      rw [seqIndex_of h0 h4] at h1
      exact Option.some.inj h1
    exact PySem.W.ki_setAt ho h0 (by omega) (by rw [List.size_toArray, ← hl]; exact h4) (by rw [hk]; exact ⟨_, I', q⟩)
  · have hk : (k + (its.toArray.size : Int)).toNat = j := by
      rw [seqIndex_neg (by omega) h3] at h1
      rw [List.size_toArray, ← hl]
      exact Option.some.inj h1
    exact PySem.W.ki_setBack ho (by omega) (by rw [List.size_toArray, ← hl]; exact h3) (by omega) (by rw [hk]; exact ⟨_, I', q⟩)
theorem slice_bounds (lo hi : Option Int) (n : Nat) : (sliceBounds lo hi none n).1 = ((HT.sIx n 0 lo : Nat) : Int) ∧ (sliceBounds lo hi none n).2.1 = ((HT.sIx n n hi : Nat) : Int) ∧ (sliceBounds lo hi none n).2.2 = 1 := by
  refine ⟨?_, ?_, rfl⟩
  · cases lo with
    | none => simp [sliceBounds, HT.sIx]
    | some i =>
      simp only [sliceBounds, HT.sIx, Option.getD_none, show (1 : Int) > 0 by decide, if_true]
      by_cases h : i < 0
      · simp only [h, if_true] <;> omega
      · simp only [h, if_false] <;> omega
  · cases hi with
    | none => simp [sliceBounds, HT.sIx]
    | some i =>
      simp only [sliceBounds, HT.sIx, Option.getD_none, show (1 : Int) > 0 by decide, if_true]
      by_cases h : i < 0
      · simp only [h, if_true] <;> omega
      · simp only [h, if_false] <;> omega
theorem slicePick_cut (its : List Value) (lo hi : Option Int) : slicePick its.toArray lo hi none = ((its.drop (HT.sIx its.length 0 lo)).take (HT.sIx its.length its.length hi - HT.sIx its.length 0 lo)).toArray := by
  obtain ⟨h1, h2, h3⟩ := slice_bounds lo hi its.toArray.size
  unfold slicePick
  rw [h1, h2, h3]
  simp only [sliceRange_one, pick_run, List.size_toArray] <;> rfl
def rSlL (K : PySem.W.Frag) : V → Option Int → Option Int → Hp → VK → Prop := fun x lo hi H Q => ∃ a xs, x = .ref a ∧ SqL K H a xs ∧ ∀ p, H p = none → Q (.ref p) (upd H p (.lst (cutV xs lo hi)))
theorem sl_list : SlR X (rSlL X.K) := by
  intro pins s σ H x v vl vu lo hi sl Q I rx hs pl pu h
  obtain ⟨a, xs, rfl, hx, q⟩ := h
  cases rx
  obtain ⟨its, r, ht, hz⟩ := I.list hx
  have hlen := r.length
  refine ⟨"list", _, slot_list_getitem.lookup, ht.isList.typeIs, ?_⟩
  refine wpAny_getItem_list_slice ht.isList hs pl pu .none (by simp) ?_ (by rw [List.size_toArray] <;> omega)
  rw [slicePick_cut, ← hlen]
  refine ⟨.ref s.heap.objs.size, _, I.laid (t' := s.toks) (o := .lst (cutV xs lo hi)) (fun b ob q => Heap.get?_push_of_some _ q) (Nat.le_refl _) ?_, rfl, q _ (I.hok.fresh (Nat.le_refl _))⟩
  exact ⟨Nat.le_trans (cutV_length xs lo hi) hz, _, 0, (r.drop (HT.sIx xs.length 0 lo)).take (HT.sIx xs.length xs.length hi - HT.sIx xs.length 0 lo), Heap.get?_push_size _ rfl⟩
theorem call_list_of : CallR X (.type "list") (fun xs H Q => ∃ p ys, xs = [.ref p] ∧ (SqL X.K H p ys ∨ SqT X.K H p ys) ∧ ∀ l, H l = none → Q (.ref l) (upd H l (.lst ys))) := by
  intro pins s σ H xs us Q I r h
  obtain ⟨p, ys, rfl, hq, q⟩ := h
  obtain ⟨u, rfl, rx⟩ := vals1 r
  cases rx
  have fin : ∀ (its : List Value), Vals ys its → ys.length ≤ sizeLine → ∀ (h' : Heap) (c' : Nat), (∀ b o', s.heap.get? b = some o' → h'.get? b = some o') →
      h'.get? s.heap.objs.size = some { cls := .type "list", dict := none, data := .seq its.toArray c', slots := #[] } → EP X pins σ Q (.ref s.heap.objs.size) { s with heap := h' } := fun its r' hz h' c' kp e =>
    ⟨.ref s.heap.objs.size, _, I.laid (t' := s.toks) kp (Nat.le_refl _) (show ObjOk X.prog X.w _ h' _ (.lst ys) from ⟨hz, its, c', r', e⟩), rfl, q _ (I.hok.fresh (Nat.le_refl _))⟩
  rcases hq with hq | hq
  · obtain ⟨its, r', pl, hz⟩ := I.list hq
    have hlen := r'.length
    obtain ⟨o, ho, hc, n, hd⟩ := pl.isList
    exact call_list_seq p (.inl rfl) ho hc hd (fun h' c' kp e => fin its r' hz h' c' kp e) (by simp only [List.size_toArray] <;> omega)
  · obtain ⟨its, r', pl, hz⟩ := I.tuple hq
    have hlen := r'.length
    obtain ⟨o, ho, hc, n, hd⟩ := pl
    exact call_list_seq p (.inr rfl) ho hc hd (fun h' c' kp e => fin its r' hz h' c' kp e) (by simp only [List.size_toArray] <;> omega)
theorem call_tuple_of : CallR X (.type "tuple") (fun xs H Q => ∃ p ys, xs = [.ref p] ∧ ((SqL X.K H p ys ∧ ∀ l, H l = none → Q (.ref l) (upd H l (.tup ys))) ∨ (SqT X.K H p ys ∧ Q (.ref p) H))) := by
  intro pins s σ H xs us Q I r h
  obtain ⟨p, ys, rfl, h⟩ := h
  obtain ⟨u, rfl, rx⟩ := vals1 r
  cases rx
  rcases h with ⟨hq, q⟩ | ⟨hq, q⟩
  · obtain ⟨its, r', pl, hz⟩ := I.list hq
    have hlen := r'.length
    refine call_tuple_list pl.isList (fun h' kp => ?_) (by simp only [List.size_toArray] <;> omega)
    have I1 : Inv X pins σ H { s with heap := h' } := I.kept (t' := s.toks) kp
    have I2 : Inv X pins σ (upd H h'.objs.size (.tup ys)) { s with heap := h'.push { cls := .type "tuple", data := .seq its.toArray } } :=
      I1.laid (t' := s.toks) (fun b o e => Heap.get?_push_of_some _ e) (Nat.le_refl _) (show ObjOk X.prog X.w _ _ _ (.tup ys) from ⟨hz, its, r', IsTup.new _ _⟩)
    exact ⟨.ref h'.objs.size, _, I2, rfl, q _ (I1.hok.fresh (Nat.le_refl _))⟩
  · obtain ⟨its, r', pl, hz⟩ := I.tuple hq
    exact call_tuple_same pl ⟨.ref p, H, I, rfl, q⟩
def tyV (K : PySem.W.Frag) (T : String) (x : V) (H : Hp) : Prop := match x with
  | .str _ => T = "str"
  | .int _ => T = "int"
  | .ref p => (T = "list" ∧ ∃ xs, SqL K H p xs) ∨ (T = "tuple" ∧ ∃ o, K.lookup p = some o ∧ o.cls = .type "tuple" ∧ o.dict = none) ∨
      (T = "dict" ∧ ((∃ kvs, H p = some (.dK kvs)) ∨ ∃ kvs, H p = some (.dT kvs))) ∨ (T = "set" ∧ ∃ S n, H p = some (.set S n))
  | _ => False
theorem tyV_is {pins : List (Addr × Obj)} {σ : St} {H : Hp} {s : Shared} {T : String} {x : V} {v : Value} (I : Inv X pins σ H s) (r : RelV x v) (ty : tyV X.K T x H) :
    s.TypeIs v T ∧ ∀ a, v = .ref a → ∃ ob, s.heap.get? a = some ob ∧ ob.dict = none := by
  cases x with
  | str z =>
    obtain ⟨t, rfl⟩ := r
    cases (show T = "str" from ty)
    exact ⟨typeIs_str s z t, fun _ e => nomatch e⟩
  | int i =>
    obtain ⟨t, rfl⟩ := r
    cases (show T = "int" from ty)
    exact ⟨typeIs_int s i t, fun _ e => nomatch e⟩
  | ref p =>
    cases r
    rcases ty with ⟨rfl, xs, hq⟩ | ⟨rfl, o, hk, hc, hd⟩ | ⟨rfl, hk⟩ | ⟨rfl, S, n, hk⟩
    · obtain ⟨its, _, pl, _⟩ := I.list hq
      refine ⟨pl.isList.typeIs, fun a e => ?_⟩
      cases e
      obtain ⟨o, n, e, c, hd, _⟩ := pl
      exact ⟨o, e, hd⟩
    · refine ⟨⟨o, I.kIn p o hk, hc⟩, fun a e => ?_⟩
      cases e
      exact ⟨o, I.kIn _ o hk, hd⟩
    · have z : ∃ o, s.heap.get? p = some o ∧ o.ExactDict := by
        rcases hk with ⟨kvs, hk⟩ | ⟨kvs, hk⟩
        · obtain ⟨_, _, _, _, o, _, _, e, ex, _⟩ := I.hok p _ hk
          exact ⟨o, e, ex⟩
        · obtain ⟨_, _, _, _, o, _, _, e, ex, _⟩ := I.hok p _ hk
          exact ⟨o, e, ex⟩
      obtain ⟨o, e, ex⟩ := z
      refine ⟨⟨o, e, ex.1⟩, fun a e2 => ?_⟩
      cases e2
      exact ⟨o, e, ex.2.1⟩
    · obtain ⟨o, _, _, _, e, ex, _⟩ := I.hok p _ hk
      refine ⟨⟨o, e, ex.1⟩, fun a e2 => ?_⟩
      cases e2
      exact ⟨o, e, ex.2.1⟩
  | _ => exact False.elim ty
def tBM (K : PySem.W.Frag) (T : String) (r : V → List V → Hp → VK → Prop) (to : TE) (t : TA) : TE := fun σ H Q => to σ H fun x H1 => tyV K T x H1 ∧ t σ H1 fun xs H2 => r x xs H2 Q
variable {o e : Expr} {es : List Expr} {to : TE} {t : TA} {name : Str} {apos cpos : Pos} {T id : String} {r : V → List V → Hp → VK → Prop}
theorem pe_bm (pa : PlainAttrs T) (slot : Slot T name id) (hty : typeOf (.builtin id) = pure (.type "method_descriptor")) (hm : MtR X id r) (ho : PE X o to) (ha : PA X (e :: es) t)
    (hbase : attributeBase o name X.env (eval o X.env) = eval o X.env := by rfl)
    (hfew : ((backTo cpos (starEach (e :: es) X.env)).all (fun x => !x.1) && (backToKw cpos (keywordEach [] X.env)).all (fun x => x.1.isSome)
      && decide ((e :: es).length + ([] : List Keyword).length + (if ([] : List Keyword).isEmpty then 0 else 1) < 30)) = true := by rfl)
    (hline : (apos.endLine == cpos.line) = true := by rfl) (hs : starEach (e :: es) X.env = (false, eval e X.env) :: starEach es X.env := by rfl) (hplain : (backTo cpos (starEach es X.env)).any (·.1) = false := by rfl) :
    PE X (.Call (.Attribute o name apos) (e :: es) [] cpos) (tBM X.K T r to t) := by
  intro pins s σ H Q I h
  refine wpAny_Call_method_late hbase hfew hline rfl (thn (ho pins s σ H _ I h) fun v s1 ⟨x, H1, I1, r1, ty, q1⟩ => ?_)
  obtain ⟨h1, h2⟩ := tyV_is I1 r1 ty
  refine ⟨T, id, pa, slot, hty, h1, h2, ?_⟩
  have hA := ha cpos pins s1 σ H1 _ I1 q1
  rw [hs] at hA ⊢
  refine Calls.callWith_builtin (by show (false || (backTo cpos (starEach es X.env)).any (·.1)) = false; rw [hplain] <;> rfl) (Calls.evalArgs_plain ?_)
  exact thn hA fun us s2 ⟨vs, H2, I2, r2, q2⟩ => hm pins s2 σ H2 x vs v us Q I2 r1 r2 q2
/- xs.append(e), list.index on a module's tuple .. are MtR facts of 06m -/
end
end L2
namespace L2
open PySem PySem.Spec PyProof.Rows
def MtM (X : Cx) (id : String) (r : V → List V → Hp → VK → Prop) : Prop :=
  ∀ (pins : List (Addr × Obj)) (s : Shared) (σ : St) (H : Hp) (x : V) (xs : List V) (v : Value) (us : List Value) (Q : VK), Inv X pins σ H s → RelV x v → Vals xs us → r x xs H Q →
    wpAny (model X.prog X.w) X.A (call (.builtin id) (v :: us)) (EP X pins σ Q) X.xe s
theorem Vals.one : ∀ {x : V} {us : List Value}, Vals [x] us → ∃ u, us = [u] ∧ RelV x u
  | _, _, .cons r .nil => ⟨_, rfl, r⟩
theorem Vals.rep {xs : List V} {us : List Value} (h : Vals xs us) : ∀ k : Nat, Vals (List.replicate k xs).flatten (List.replicate k us).flatten
  | 0 => .nil
  | k + 1 => by
    rw [List.replicate_succ, List.replicate_succ, List.flatten_cons, List.flatten_cons]
    exact Vals.append h (Vals.rep h k)
theorem foldl_rep (its : List Value) : ∀ (k : Nat) (acc : List Value),
    List.foldl (fun x1 x2 => x1 ++ x2) acc.toArray (List.replicate k its.toArray) = (acc ++ (List.replicate k its).flatten).toArray
  | 0, acc => by simp
  | k + 1, acc => by
    have e : acc.toArray ++ its.toArray = (acc ++ its).toArray := by simp
    have e2 : (acc ++ its) ++ (List.replicate k its).flatten = acc ++ (List.replicate (k + 1) its).flatten := by
      rw [List.replicate_succ, List.flatten_cons, List.append_assoc]
    rw [← e2, ← foldl_rep its k (acc ++ its), ← e, List.replicate_succ, List.foldl_cons]
section
variable {X : Cx} {pins : List (Addr × Obj)} {σ : St} {H : Hp} {s : Shared} {l b : Addr} {xs ys zs : List V}
theorem Inv.lset {its its' : List Value} {n : Nat} {f : Array Value → Array Value} {t' : Nat} (I : Inv X pins σ H s) (hH : H l = some (.lst xs))
    (e : s.heap.get? l = some { cls := .type "list", data := .seq its.toArray n }) (hf : f its.toArray = its'.toArray) (hv : Vals ys its') (hz : ys.length ≤ sizeLine) :
    Inv X pins σ (upd H l (.lst ys)) { s with heap := s.heap.update l (Obj.mapSeq f), toks := t' } := by
  have q := PySem.IsL.update e f
  rw [hf] at q
  refine I.write (x := l) (e := l) (by rw [hH]; exact trivial) (.inl rfl) (fun b' u hb hu => (Heap.get?_update_other s.heap (Obj.mapSeq f) (Ne.symm hb)).trans hu) ⟨_, q⟩ ?_
  exact ⟨hz, its', _, hv, q⟩
theorem Inv.lnew {its : List Value} {t' : Nat} (I : Inv X pins σ H s) (hv : Vals ys its) (hz : ys.length ≤ sizeLine) :
    Inv X pins σ (upd H s.heap.objs.size (.lst ys)) { s with heap := s.heap.push { cls := .type "list", data := .seq its.toArray }, toks := t' } :=
  I.laid (fun _ _ q => Heap.get?_push_of_some _ q) (Nat.le_refl _) ⟨hz, its, 0, hv, Heap.get?_push_size _ rfl⟩
theorem Inv.fresh (I : Inv X pins σ H s) : H s.heap.objs.size = none := I.hok.fresh (Nat.le_refl _)
theorem Inv.lstM (I : Inv X pins σ H s) (hH : H l = some (.lst xs)) : xs.length ≤ sizeLine ∧ ∃ (its : List Value) (n : Nat), Vals xs its ∧ xs.length = its.length ∧ s.heap.get? l = some { cls := .type "list", data := .seq its.toArray n } := by
  obtain ⟨z, its, n, r, e⟩ := I.hok l _ hH
  exact ⟨z, its, n, r, r.length, e⟩
theorem notLongL {n : Nat} (h : n ≤ sizeLine) : Builtin.List.listTooLong n = false := by
  unfold Builtin.List.listTooLong
  exact decide_eq_false (by omega)
end
section
variable {X : Cx}
def rAppend : V → List V → Hp → VK → Prop := fun x vs H Q => ∃ l xs y, x = .ref l ∧ vs = [y] ∧ H l = some (.lst xs) ∧ xs.length < sizeLine ∧ Q .non (upd H l (.lst (xs ++ [y])))
theorem mt_append : MtM X "list.append" rAppend := by
  intro pins s σ H x vs v us Q I rx rv h
  obtain ⟨l, xs, y, rfl, rfl, hH, hz, q⟩ := h
  cases rx
  obtain ⟨u, rfl, ru⟩ := rv.one
  obtain ⟨z, its, n, r, hl, e⟩ := I.lstM hH
  refine call_meets F.slot_list_append ⟨_, e, rfl⟩ F.entry_list_append (F.args_list_append_2 _ _) (PySem.list_append l its.toArray n u (by rw [List.size_toArray]; omega)) ⟨e, ?_⟩
  refine ⟨.non, _, I.lset (its' := its ++ [u]) hH e (by simp) (r.append (.cons ru .nil)) ?_, rfl, q⟩
  rw [List.length_append, List.length_singleton]
  omega
def rExtend : V → List V → Hp → VK → Prop := fun x vs H Q => ∃ l b xs zs, x = .ref l ∧ vs = [.ref b] ∧ H l = some (.lst xs) ∧ H b = some (.lst zs) ∧ xs.length + zs.length ≤ sizeLine ∧ Q .non (upd H l (.lst (xs ++ zs)))
theorem mt_extend : MtM X "list.extend" rExtend := by
  intro pins s σ H x vs v us Q I rx rv h
  obtain ⟨l, b, xs, zs, rfl, rfl, hH, hB, hz, q⟩ := h
  cases rx
  obtain ⟨u, rfl, ru⟩ := rv.one
  cases ru
  obtain ⟨z, its, n, r, hl, e⟩ := I.lstM hH
  obtain ⟨z2, its2, n2, r2, hl2, e2⟩ := I.lstM hB
  have hsz : its.toArray.size + its2.toArray.size ≤ sizeLine := by rw [List.size_toArray, List.size_toArray]; omega
  have hlong : ¬ (!its.toArray.isEmpty && Builtin.List.listTooLong (its.toArray.size + its2.toArray.size)) = true := by
    rw [notLongL hsz, Bool.and_false]
    exact Bool.false_ne_true
  refine call_meets F.slot_list_extend ⟨_, e, rfl⟩ F.entry_list_extend (F.args_list_extend_2 _ _)
    (AutoSeq1.list_extend_list_list_0 l its.toArray n b its2.toArray n2 hlong (by rw [List.size_toArray]; omega) (by omega)) ⟨e, e2, ?_⟩
  refine ⟨.non, _, I.lset (its' := its ++ its2) hH e (by simp) (r.append r2) ?_, rfl, q⟩
  rw [List.length_append]
  omega
def rCat : R2 := fun x y H Q => ∃ l b xs zs, x = .ref l ∧ y = .ref b ∧ H l = some (.lst xs) ∧ H b = some (.lst zs) ∧ xs.length + zs.length ≤ sizeLine ∧ ∀ p, H p = none → Q (.ref p) (upd H p (.lst (xs ++ zs)))
theorem op_cat : OpR X (binaryOp .Add) rCat := by
  intro pins s σ H x y v u Q I rx ry h
  obtain ⟨l, b, xs, zs, rfl, rfl, hH, hB, hz, q⟩ := h
  cases rx
  cases ry
  obtain ⟨z, its, n, r, hl, e⟩ := I.lstM hH
  obtain ⟨z2, its2, n2, r2, hl2, e2⟩ := I.lstM hB
  refine PySem.P.add_list e e2 ?_ (by rw [List.size_toArray, List.size_toArray]; omega)
  have ea : its.toArray ++ its2.toArray = (its ++ its2).toArray := by simp
  rw [ea]
  exact ⟨.ref _, _, I.lnew (t' := s.toks) (r.append r2) (by rw [List.length_append]; omega), rfl, q _ I.fresh⟩
def rRep : R2 := fun x y H Q => ∃ l k xs, x = .ref l ∧ y = .int k ∧ H l = some (.lst xs) ∧ -(2 ^ 63) ≤ k ∧ k < 2 ^ 63 ∧ xs.length * k.toNat ≤ sizeLine ∧
  ∀ p, H p = none → Q (.ref p) (upd H p (.lst (List.replicate k.toNat xs).flatten))
theorem len_rep {α : Type} (xs : List α) (k : Nat) : (List.replicate k xs).flatten.length = k * xs.length := by
  induction k with
  | zero => simp
  | succ k ih => rw [List.replicate_succ, List.flatten_cons, List.length_append, ih, Nat.succ_mul, Nat.add_comm]
theorem op_rep : OpR X (binaryOp .Mult) rRep := by
  intro pins s σ H x y v u Q I rx ry h
  obtain ⟨l, k, xs, rfl, rfl, hH, h1, h2, hz, q⟩ := h
  cases rx
  obtain ⟨t, rfl⟩ := ry
  obtain ⟨z, its, n, r, hl, e⟩ := I.lstM hH
  have hlen : its.toArray.size * k.toNat ≤ sizeLine := by rw [List.size_toArray, ← hl]; exact hz
  have hcap : ¬ its.toArray.size * k.toNat > (2 ^ 63 - 1) / 8 := by
    have : (sizeLine : Nat) ≤ (2 ^ 63 - 1) / 8 := by decide
    omega
  have hfit : ¬ (!Builtin.List.listFitsIndex k) = true := by
    rw [fitsIndex_both h1 h2]
    exact Bool.false_ne_true
  have hlong : ¬ Builtin.List.listTooLong (its.toArray.size * k.toNat) = true := by
    rw [notLongL hlen]
    exact Bool.false_ne_true
  have hnew : List.foldl (fun x1 x2 => x1 ++ x2) #[] (List.replicate (if its.toArray.isEmpty = true then 0 else k.toNat) its.toArray) = (List.replicate k.toNat its).flatten.toArray := by
    have f0 : ∀ m : Nat, List.foldl (fun x1 x2 => x1 ++ x2) #[] (List.replicate m its.toArray) = (List.replicate m its).flatten.toArray := fun m => by
      have := foldl_rep its m []
      rw [List.nil_append] at this
      exact this
    rw [f0]
    cases its with
    | nil => simp
    | cons a r' => rw [if_neg (by simp)]
  refine wpAny_binaryOp_repeat_ref (T := "list") (U := "int") (by decide) ⟨_, e, rfl⟩ (fun s' => typeIs_int s' k t) noFill_list_mul F.fills_int_mul F.slot_int_rmul repeat_list F.slot_int_index.lookup
    (call_meets F.slot_int_rmul (typeIs_int s k t) F.entry_int_rmul (F.args_int_rmul_2 _ _) (int___rmul___int_list k t l its.toArray n)
      ⟨e, rfl, ⟨_, e, rfl⟩, call_meets F.slot_list_mul ⟨_, e, rfl⟩ F.entry_list_mul (F.args_list_mul_2 _ _) (AutoListH.list___mul___list_int_3 l its.toArray n k t hfit hcap hlong) ⟨e, ?_⟩⟩)
  rw [hnew]
  exact ⟨.ref _, _, I.lnew (t' := s.toks) (r.rep k.toNat) (by rw [len_rep, Nat.mul_comm]; exact hz), rfl, q _ I.fresh⟩
end
section
variable {prog : Program} {w : World} {A : Around} {E : Value → Shared → Prop} {s : Shared}
set_option maxRecDepth 100000 in
end
section
variable {X : Cx}
end
end L2
namespace Att
open PySem PySem.W PySem.Calls PyProof.Rows
theorem ints_of_wellAll {P : Params} {h : Heap} : ∀ (ns : List Int) (vs : List Value), WellAll P h vs (ns.map WData.int) → IntsAre vs ns := by
  intro ns
  induction ns with
  | nil =>
    intro vs w
    rw [List.map_nil] at w
    cases w
    exact .nil
  | cons n ns ih =>
    intro vs w
    rw [List.map_cons] at w
    cases w with
    | cons a b =>
      cases a
      exact .cons _ _ (ih _ b)
theorem script_of {l : OpenLaw} {n : Nat} (hn : l.most = some n) {P : Params} {h : Heap} {args : List WData} {vals : List Value}
    (hpre : l.row.toRowW.claim.pre args = true) (hwl : WellAll P h vals args) :
    ∃ a vs ns, vals = [Value.ref a] ∧ args = [WData.list (ns.map WData.int)] ∧ h.get? a = some { cls := .type "list", data := .seq vs.toArray } ∧ IntsAre vs ns ∧ ns.length ≤ n := by
  have hsh : WShape.hasAll [] args [.list .int] = true := (pre_splitW hpre).1
  have hc : l.pre.holds [] { args := args } = true := (pre_splitW hpre).2
  obtain ⟨d, r, rfl, h1, h2⟩ := hasAllW_cons hsh
  obtain rfl := hasAllW_nil h2
  obtain ⟨xs, rfl, h3⟩ := hasW_list h1
  obtain ⟨ns, rfl⟩ := items_int h3
  have hlen : ns.length ≤ n := by
    unfold OpenLaw.pre at hc
    have h4 : (WTm.not (.lt (.lit (.int (n : Int))) (.len (.arg 0)))).holds [] { args := [.list (ns.map .int)] } = true := by
      have h4 := (holds_andW hc).1
      rw [hn] at h4
      exact h4
    have h5 := condW_of h4 (w_not (w_lt w_lit (w_len_list (w_arg rfl))))
    rw [List.length_map] at h5
    refine Nat.le_of_not_lt fun q => ?_
    have q' : (n : Int) < ((ns.length : Nat) : Int) := by omega
    first
      | (rw [decide_eq_true q'] at h5; exact absurd h5 (by decide))
      | (simp at h5; omega)
  cases hwl with
  | cons w1 w2 =>
    cases w2
    cases w1 with
    | list ho hall => exact ⟨_, _, ns, rfl, rfl, ho, ints_of_wellAll ns _ hall, hlen⟩
theorem post_true (l : OpenLaw) (args : List WData) : l.row.toRowW.claim.post args (.bool true) args = true :=
  postW_of (r := l.row.toRowW) (X := (true == true))
    (show WShape.has [] (.bool true) .bool = true by first | rfl | decide | simp [WShape.has, WShape.arms, WShape.armsAll])
    (show (WTm.eq .res (.lit (.bool true))).value [] { args := args, res := some (.bool true), after := args } = some (.bool (true == true)) from w_eq_bool (w_res rfl) w_lit) rfl
theorem attach_call {l : OpenLaw} {n : Nat} {q : Program} {loose : List Str} {XP : (Str → Option Value) → Heap → Prop} {YP : World → Heap → Prop} {d : DefRec}
    (hn : l.most = some n) (hdf : d.params.defaults = [])
    (call : ∀ (w : World) (s₀ s₁ : Shared) (mg mb : Str → Option Value) (fa : Addr) (o : Obj) (pm cd doc : Value) (a : Addr) (vs : List Value) (ns : List Int),
      Ground q loose [] XP w s₀ mg mb s₁.heap → YP w s₁.heap →
      s₁.heap.get? fa = some o → o.data = .func (docDef d.name d.params d.body d.scope pm cd doc) → s₁.heap.CodeRec cd d.name → mg d.name = some (.ref fa) →
      s₁.heap.get? a = some { cls := .type "list", data := .seq vs.toArray } → IntsAre vs ns → ns.length ≤ n → s₁.gens = #[] →
      codeAny (model l.prog w) callerA (.call (.ref fa) ⟨[.ref a], []⟩) (fun r s' => r = .ok (.ret (.bool true)) ∧ OldK s₁.heap s'.heap ∧ s'.os = s₁.os ∧ AllBare s'.gens) s₁) :
    WalkO q loose XP YP l.row.toRowW d [] (fun f vs => PySem.call f vs) := by
  intro w s₀ s₁ mg mb G Y fa o pm cd doc dV kV ho hd hcd hD hmg hg args vals as hpre hlay hrd hwl hlo
  obtain rfl : dV = .none := Dflts.none hD hdf
  obtain rfl : kV = .none := Dflts.noKw hD
  obtain ⟨a, vs, ns, rfl, rfl, hobj, hints, hlen⟩ := script_of hn hpre hwl
  refine enter_call (codeAny_mono (call w s₀ s₁ mg mb fa o pm cd doc a vs ns G Y ho (fd_plain hd) hcd hmg hobj hints hlen hg) fun r s' hq => ?_)
  obtain ⟨rfl, h2, h3, h4⟩ := hq
  exact ⟨.inl ⟨.bool true, .bool true, [], rfl, fun _ => rfl, .bool true, post_true l _, fun _ => ⟨List.Pairwise.nil, fun _ hm => (nomatch hm)⟩⟩, h2, h3, h4⟩
section
variable {prog : Program} {w : World} {A : Around} {E : Value → Shared → Prop} {s : Shared} {K : Frag}
end
end Att
namespace L2
open PySem PySem.Spec PyProof.Rows
theorem vals_ints : ∀ {vs : List Value} {ns : List Int}, IntsAre vs ns → Vals (ns.map V.int) vs
  | _, _, .nil => .nil
  | _, _, .cons n t h => .cons ⟨t, rfl⟩ (vals_ints h)
def Only (H : Hp) : Prop := ∀ b, H b = none ∨ ∃ o xs, H b = some (.frz o (.lst xs))
theorem law_call {P : Program} {w : World} {K : PySem.W.Frag} {mg mb : Str → Option Value} {CX : CXT} {k : Nat} {fa a : Addr} {fd : FuncData} {x : Str} {sp : Sp} {s₁ : Shared} {vs : List Value} {ns : List Int}
    (KX : K.In s₁.heap) (hns : s₁.heap.Ns mainGlobals mg) (hb : s₁.heap.Ns builtinsNs mb) (hbb : ∀ x : Str, x ≠ "__name__" → mb x = bootBuiltins x) (hlim : s₁.heap.NoLimit) (hg : s₁.gens = #[])
    (ha : s₁.heap.get? a = some { cls := .type "list", data := .seq vs.toArray }) (hi : IntsAre vs ns) (hl : ns.length ≤ sizeLine) (hr : Room k callerA)
    (F : ∀ base : Heap, K.In base → base.Ns mainGlobals mg → FnOk P w K mg base CX k fa fd [x] sp) (hbind : ∀ (s : Shared) (u : Value), BindsTo s fd ⟨[u], []⟩ [(x, u)])
    (hsp : ∀ H : Hp, Only H → SqL K H a (ns.map V.int) → sp [.ref a] H (fun v _ => v = .bl true) fun _ _ _ => False)
    (hCX : ∀ H e s', CX [] H s₁ (fun _ _ _ => False) e s' → False) :
    codeAny (model P w) callerA (.call (.ref fa) ⟨[.ref a], []⟩) (fun r s' => r = .ok (.ret (.bool true)) ∧ OldK s₁.heap s'.heap ∧ s'.os = s₁.os ∧ AllBare s'.gens) s₁ := by
  have rv := vals_ints hi
  have lenV := hi.length
  have core : ∀ H : Hp, Only H → SqL K H a (ns.map V.int) → HOk P w H s₁.heap → (∀ b, H b ≠ none → b = a) → (H a ≠ none → K.lookup a = none) →
      codeAny (model P w) callerA (.call (.ref fa) ⟨[.ref a], []⟩) (fun r s' => r = .ok (.ret (.bool true)) ∧ OldK s₁.heap s'.heap ∧ s'.os = s₁.os ∧ AllBare s'.gens) s₁ := by
    intro H hO hS hok hA hK
    have base_of : ∀ {b : Addr} {o : Obj}, s₁.heap.get? b = some o → H b = none → (hidT s₁.heap H).get? b = some o := fun e n => hidT_get e n
    have noA : ∀ {b : Addr} {o : Obj} {es : Array DictEntry} {ep : Nat}, s₁.heap.get? b = some o → o.data = .dict es ep → H b = none := fun {b o es ep} e d => by
      cases q : H b with
      | none => rfl
      | some u =>
        have e' : b = a := hA b (by rw [q]; simp)
        subst e'
        rw [ha] at e; cases e
        have d' : Data.seq vs.toArray _ = Data.dict es ep := d
        cases d'
    have nsK : ∀ {b : Addr} {m : Str → Option Value}, s₁.heap.Ns b m → (hidT s₁.heap H).Ns b m := fun {b m} ⟨o, es, ep, e, d, r⟩ => ⟨o, es, ep, base_of e (noA e d), d, r⟩
    have hKb : K.In (hidT s₁.heap H) := fun b o e => base_of (KX b o e) (by
      cases q : H b with
      | none => rfl
      | some u =>
        have e' : b = a := hA b (by rw [q]; simp)
        subst e'
        rw [hK (by rw [q]; simp)] at e; cases e)
    have hM : Mod K mg (hidT s₁.heap H) := ⟨hKb, nsK hns, ⟨mb, nsK hb, hbb⟩, let ⟨mc, h1, h2⟩ := hlim; ⟨mc, nsK h1, h2⟩⟩
    have e0 : Env0 P w K mg (hidT s₁.heap H) callerA [] s₁ H := ⟨rfl, hM, fun b o e => of_hidT e, Nat.le_of_eq (hidT_size _ _), trivial, fun b hb => absurd (show b ∈ ([] : List Addr) from hb) (by simp), hok, .of_eq hg⟩
    refine codeAny_mono ((F _ hKb (nsK hns)).run callerA [] s₁ H ⟨[.ref a], []⟩ [.ref a] [.ref a] _ _ hr e0 (hbind s₁ (.ref a)) (.cons rfl .nil) (hsp H hO hS)) fun r s' h => ?_
    cases r with
    | error e => exact (hCX H e s' h).elim
    | ok fl =>
      cases fl with
      | next => exact False.elim h
      | brk => exact False.elim h
      | cont => exact False.elim h
      | ret u =>
        obtain ⟨v, H', os, bare, un, hok', r', q⟩ := h
        have q' : v = .bl true := q
        subst q'
        obtain rfl : u = Value.bool true := r'
        refine ⟨rfl, OldK.of_keep fun b o e => ?_, os, bare⟩
        cases q : H b with
        | none => exact un.keep b o e q (by intro z; exact absurd (show b ∈ ([] : List Addr) from z) (by simp)) (by simp)
        | some u =>
          rcases hO b with z | ⟨ob, xs, z⟩
          · rw [q] at z; cases z
          · have z2 := un.frzs b ob _ z
            obtain ⟨e1, _⟩ := hok b _ z
            obtain ⟨e2, _⟩ := hok' b _ z2
            rw [e] at e1; cases e1
            exact e2
  cases hk : K.lookup a with
  | some o =>
    have e := KX a o hk
    rw [ha] at e
    cases e
    refine core (fun _ => none) (fun _ => .inl rfl) (.inr ⟨_, vs.toArray, _, hk, rfl, rfl, rfl, by rw [List.size_toArray, lenV]; exact hl, by simpa using rv⟩) (fun b u z => by have z' : (none : Option HO) = some u := z; cases z') (fun b z => absurd rfl z) fun z => absurd rfl z
  | none =>
    refine core (fun b => if b = a then some (.frz { cls := .type "list", data := .seq vs.toArray } (.lst (ns.map V.int))) else none) (fun b => ?_) (.inl (.inr ⟨{ cls := .type "list", data := .seq vs.toArray }, if_pos rfl⟩)) (fun b u z => ?_) (fun b z => ?_) fun _ => hk
    · by_cases hb : b = a
      · exact .inr ⟨_, _, if_pos hb⟩
      · exact .inl (if_neg hb)
    · by_cases hb : b = a
      · have z' := (if_pos hb).symm.trans z
        cases z'
        subst hb
        exact ⟨ha, by rw [List.length_map]; exact hl, vs, _, rv, ha⟩
      · have z' := (if_neg hb).symm.trans z
        cases z'
    · by_cases hb : b = a
      · exact hb
      · exact absurd (if_neg hb) z
end L2
namespace L2
open PySem PySem.Spec PyProof.Rows
theorem walk_of {l : PySem.W.OpenLaw} {n k : Nat} {q : Program} {loose : List Str} {XP : (Str → Option Value) → Heap → Prop} {YP : World → Heap → Prop} {d : DefRec} {K : Params → PySem.W.Frag} {CX : World → CXT} {sp : World → Sp} {x : Str}
    (hn : l.most = some n) (hn2 : n ≤ sizeLine) (hdf : d.params.defaults = []) (hr : Room k callerA)
    (hY : ∀ (w : World) (h : Heap), YP w h → (K w.params).In h)
    (F : ∀ (w : World) (mg : Str → Option Value) (fa : Addr) (h : Heap), (K w.params).In h → h.Ns mainGlobals mg → mg d.name = some (.ref fa) →
      ∃ fd : FuncData, (∀ (s : Shared) (u : Value), BindsTo s fd ⟨[u], []⟩ [(x, u)]) ∧
        ∀ base : Heap, (K w.params).In base → base.Ns mainGlobals mg → FnOk l.prog w (K w.params) mg base (CX w) k fa fd [x] (sp w))
    (hsp : ∀ (w : World) (H : Hp) (a : Addr) (ns : List Int), ns.length ≤ n → Only H → SqL (K w.params) H a (ns.map V.int) → sp w [.ref a] H (fun v _ => v = .bl true) fun _ _ _ => False)
    (hCX : ∀ (w : World) (H : Hp) (s : Shared) (e : Value) (s' : Shared), CX w [] H s (fun _ _ _ => False) e s' → False) :
    PySem.W.WalkO q loose XP YP l.row.toRowW d [] (fun f vs => PySem.call f vs) := by
  refine Att.attach_call hn hdf fun w s₀ s₁ mg mb fa o pm cd doc a vs ns G Y ho hd hcd hmg hobj hints hlen hg => ?_
  have KX := hY w _ Y
  obtain ⟨fd, hb, hF⟩ := F w mg fa _ KX G.T.g hmg
  exact law_call KX G.T.g G.T.b G.T.builtins G.T.nolimit hg hobj hints (Nat.le_trans hlen hn2) hr hF hb (fun H hO hS => hsp w H a ns hlen hO hS) fun H e s' => hCX w H s₁ e s'
end L2
namespace L2
open PySem PySem.Spec PyProof.Rows
def defArgs (s : Stmt) : Arguments := match s with
  | .FunctionDef _ a _ _ _ _ _ _ _ _ => a
  | _ => { posonlyargs := [], args := [], vararg := none, kwonlyargs := [], kw_defaults := [], kwarg := none, defaults := [] }
def defBody (s : Stmt) : List Stmt := match s with
  | .FunctionDef _ _ b _ _ _ _ _ _ _ => b
  | _ => []
def defScope (s : Stmt) : Scope := match s with
  | .FunctionDef _ _ _ _ _ _ sc _ _ _ => sc
  | _ => { kind := .function, names := [], isGenerator := false, isCoroutine := false }
abbrev CX0 : CXT := fun _ _ _ _ _ _ => False
abbrev E0 : XK := fun _ _ _ => False
theorem pass0 {X : Cx} : Passes CX0 X E0 := fun _ _ _ _ _ _ _ h => h.elim
structure Fun (K : PySem.W.Frag) (x qual : Str) (st : Stmt) (f : Addr) (fd : FuncData) : Prop where
  ex : ∃ (oc : Value) (od : Option Addr) (kV doc pm : Value) (an : Option Addr) (cdv ct : Value) (osl : Array (Option Value)),
    fd = PySem.W.fnOf x qual (defArgs st) (defBody st) (defScope st) .none kV doc pm an cdv ct ∧ K.lookup f = some ⟨oc, od, .func fd, osl⟩ ∧ PySem.W.codeIn K cdv qual = true
  kp : PySem.W.keepIn K (.ref f) = true
section
variable {P : Program} {w : World} {K : PySem.W.Frag} {mg : Str → Option Value} {base : Heap}
theorem Fun.ok {x qual : Str} {st : Stmt} {f : Addr} {fd : FuncData} {N ps : List Str} {k : Nat} {sp : Sp} (F : Fun K x qual st f fd) (S : FnScope N ps (defScope st)) (len : ∀ vs H Q E, sp vs H Q E → vs.length = ps.length)
    (hbody : ∀ (cdv : Value) (A : Around) (outer : List Env) (s : Shared) (H : Hp) (vs : List V) (Q : VK) (E : XK), Room k (A.deeper (envOfC qual (defScope st) s.heap.objs.size f cdv)) → sp vs H Q E →
      ∃ t, PSs (cxOf CX0 P w K mg base N qual (defScope st) f cdv A outer s H E).nox (defBody st) t ∧ t { nx := fun _ H' => Q .non H', rt := Q } (start N vs) H) : FnOk P w K mg base CX0 (k + 1) f fd ps sp := by
  obtain ⟨oc, od, kV, doc, pm, an, cdv, ct, osl, rfl, lk, hcd⟩ := F.ex
  refine fn_of lk hcd S len fun A outer s H vs Q E hr hsp => ?_
  obtain ⟨t, h, q⟩ := hbody cdv A outer s H vs Q E hr hsp
  exact ⟨t, h.nox, q⟩
theorem Fun.binds {x qual : Str} {st : Stmt} {f : Addr} {fd : FuncData} {ps : List Str} (F : Fun K x qual st f fd)
    (h : ∀ (kV doc pm : Value) (an : Option Addr) (cdv ct : Value) (us : List Value), us.length = ps.length → bindArgs (PySem.W.fnOf x qual (defArgs st) (defBody st) (defScope st) .none kV doc pm an cdv ct) ⟨us, []⟩ = pure (ps.zip us)) : Binds K fd ps [] := by
  obtain ⟨oc, od, kV, doc, pm, an, cdv, ct, osl, rfl, lk, hcd⟩ := F.ex
  exact .all (h kV doc pm an cdv ct)
theorem fun_mk {x qual : Str} {st : Stmt} {f : Addr} {oc : Value} {od an : Option Addr} {osl : Array (Option Value)} {kV doc pm cdv ct : Value} (l : K.lookup f = some ⟨oc, od, .func (PySem.W.fnOf x qual (defArgs st) (defBody st) (defScope st) .none kV doc pm an cdv ct), osl⟩)
    (c : PySem.W.codeIn K cdv qual = true) (k : PySem.W.keepIn K (.ref f) = true) : Fun K x qual st f (PySem.W.fnOf x qual (defArgs st) (defBody st) (defScope st) .none kV doc pm an cdv ct) := ⟨⟨oc, od, kV, doc, pm, an, cdv, ct, osl, rfl, l, c⟩, k⟩
end
section
variable {X : Cx}
theorem pv (i : Nat) {x : Str} {pos : Pos} (hN : X.N[i]? = some x := by rfl) (hv : Vis X.env.scope x := by first | exact Or.inl rfl | exact Or.inr (Or.inl rfl) | exact Or.inr (Or.inr rfl)) (hd : (x == ("__debug__" : Str)) = false := by decide)
    (hcd : (x == ("__classdict__" : Str)) = false := by decide) : PE X (.Name x pos) (tVar i) := pe_var hN hv hd hcd
end
theorem iteF {A B : Prop} (h : B) : if false = true then A else B := by
  rw [if_neg Bool.false_ne_true]
  exact h
theorem iteT {A B : Prop} (h : A) : if true = true then A else B := by
  rw [if_pos rfl]
  exact h
theorem ite2 {c A B : Prop} [Decidable c] (h1 : c → A) (h2 : ¬ c → B) : if c then A else B := by
  by_cases h : c
  · rw [if_pos h]
    exact h1 h
  · rw [if_neg h]
    exact h2 h
def Same (H H' : Hp) : Prop := ∀ b o, H b = some o → H' b = some o
theorem Same.refl (H : Hp) : Same H H := fun _ _ h => h
theorem Same.trans {H H1 H2 : Hp} (a : Same H H1) (b : Same H1 H2) : Same H H2 := fun c o h => b c o (a c o h)
theorem Same.free {H H' : Hp} (e : Same H H') {l : Addr} (h : H' l = Option.none) : H l = Option.none := by
  cases q : H l with
  | none => rfl
  | some o =>
    rw [e l o q] at h
    cases h
theorem Same.seq {K : PySem.W.Frag} {H H' : Hp} {a : Addr} {xs : List V} (e : Same H H') (h : SqL K H a xs) : SqL K H' a xs := by
  rcases h with (h | ⟨o, h⟩) | h
  · exact .inl (.inl (e _ _ h))
  · exact .inl (.inr ⟨o, e _ _ h⟩)
  · exact .inr h
end L2
namespace L2
open PySem PySem.Spec PyProof.Rows
section
variable {κ : Type} [DecidableEq κ]
def valV (kvs : List (κ × V)) (k : κ) : Option V := (kvs.find? fun kv => decide (kv.1 = k)).map (·.2)
def putK (kvs : List (κ × V)) (k : κ) (v : V) : List (κ × V) :=
  if (kvs.any fun kv => decide (kv.1 = k)) = true then kvs.map (fun kv => if kv.1 = k then (kv.1, v) else kv) else kvs ++ [(k, v)]
theorem valV_pos {p : κ × V} {r : List (κ × V)} {k : κ} (e : p.1 = k) : valV (p :: r) k = some p.2 := by simp [valV, List.find?_cons, e]
theorem valV_neg {p : κ × V} {r : List (κ × V)} {k : κ} (e : ¬ p.1 = k) : valV (p :: r) k = valV r k := by simp [valV, List.find?_cons, e]
theorem valV_any (k : κ) : ∀ kvs : List (κ × V), (kvs.any fun kv => decide (kv.1 = k)) = (valV kvs k).isSome
  | [] => rfl
  | p :: r => by
    rw [List.any_cons]
    by_cases e : p.1 = k
    · simp only [valV_pos e, decide_eq_true e, Bool.true_or, Option.isSome_some]
    · rw [valV_neg e, decide_eq_false e, Bool.false_or]; exact valV_any k r
theorem putK_new {kvs : List (κ × V)} {k : κ} (v : V) (h : valV kvs k = none) : putK kvs k v = kvs ++ [(k, v)] := by
  unfold putK
  rw [valV_any, h]
  exact if_neg (by decide)
theorem RelO.getD {o : Option V} {u : Option Value} {d : V} {d' : Value} (r : RelO o u) (rd : RelV d d') : RelV (o.getD d) (u.getD d') := by
  cases o with
  | none => cases u with
    | none => exact rd
    | some _ => exact (show False from r).elim
  | some _ => cases u with
    | none => exact (show False from r).elim
    | some _ => exact r
end
section
variable {P : Program} {w : World} {H : Hp} {h : Heap} {a : Addr}
end
section
variable {X : Cx} {pins : List (Addr × Obj)} {σ : St} {H : Hp} {s : Shared} {a : Addr} {y v : V} {u r : Value} {o : Option V} {A : Around} {E : Value → Shared → Prop}
theorem Inv.big (I : Inv X pins σ H s) : sysModules < s.heap.objs.size := by
  have h : mainGlobals < s.heap.objs.size := (I.mod.glob.keeps I.bk).lt
  exact Nat.lt_trans (by decide) h
theorem d_write {h' : Heap} {t' : Nat} {ob : HO} (I : Inv X pins σ H s) (mu : Mut (H a)) (hs : Heap.SameBut a s.heap h') (he : ∃ q, h'.get? a = some q) (new : ObjOk X.prog X.w (upd H a ob) h' a ob) :
    Inv X pins σ (upd H a ob) { s with heap := h', toks := t' } :=
  I.write (x := a) (e := a) mu (.inl rfl) (fun b q hb z => (hs.2 b hb).trans z) he new
end
section
variable {X : Cx} {pins : List (Addr × Obj)} {σ : St} {H : Hp} {s : Shared} {a : Addr} {kvs : List (Key × V)} {k : Key} {u : Value} {A : Around} {E : Value → Shared → Prop}
end
def NoSl (i : Expr) : Prop := ∀ ov iv, subscripted i false ov iv = operate [ov, iv] (getItem ov iv)
theorem subD_of {prog : Program} {w : World} {A : Around} {E : Value → Shared → Prop} {s : Shared} {env : Env} {value slice : Expr} {pos : Pos} {T id : String} {Q : Value → Shared → Prop}
    (hl : typeLookup (.type T) "__getitem__" = pure (some (.builtin id))) (hs : NoSl slice)
    (h : wpAny (model prog w) A (eval value env) (fun o s₁ => wpAny (model prog w) A (eval slice env) (fun i s₂ => s₂.TypeIs o T ∧ wpAny (model prog w) A (getItem o i) Q E s₂) E s₁) E s) :
    wpAny (model prog w) A (eval (.Subscript value slice pos) env) Q E s := by
  refine Subscript_ (wpAny_mono h (fun o s₁ h₁ => wpAny_mono h₁ (fun i s₂ h₂ => ?_) fun _ _ x => x) fun _ _ x => x)
  obtain ⟨hT, h₂⟩ := h₂
  unfold subscriptTail
  refine wpAny_bind ?_
  rw [getitemInPython_of_ne hT.not_modules]
  refine wpAny_bind (wpAny_specialOf hT hl ?_)
  have fin : wpAny (model prog w) A (subscripted slice false o i) (fun r s₃ => wpAny (model prog w) A (letTemporaryGo value o r >>= fun _ => pure r) Q E s₃) E s₂ := by
    rw [hs o i]
    exact wpAny_operating (wpAny_mono h₂ (fun r s₃ h₃ => wpAny_bind (wpAny_letTemporaryGo (wpAny_pure h₃))) fun _ _ x => x)
  first
    | exact wpAny_pure (wpAny_bind fin)
    | exact wpAny_bind (wpAny_pure (wpAny_bind fin))
    | exact wpAny_bind fin
section
variable {X : Cx} {o i e value : Expr} {pos pos' tpos : Pos} {td ty tv : TE}
end
section
variable {X : Cx} {pos : Pos}
end
abbrev VV : List (V × V) → List (Value × Value) → Prop := Paired fun p q => RelV p.1 q.1 ∧ RelV p.2 q.2
structure M2 (X : Cx) (o : Expr) (m : Str) (apos : Pos) (e f : Expr) (cpos : Pos) : Prop where
  base : attributeBase o m X.env (eval o X.env) = eval o X.env
  few : ((backTo cpos (starEach [e, f] X.env)).all (fun x => !x.1) && (backToKw cpos (keywordEach [] X.env)).all (fun x => x.1.isSome)
    && decide (([e, f] : List Expr).length + ([] : List Keyword).length + (if ([] : List Keyword).isEmpty then 0 else 1) < 30)) = true
  line : (apos.endLine == cpos.line) = true
  trees : backTo cpos (starEach [e, f] X.env) = [(false, eval e X.env), (false, eval f X.env)]
section
variable {X : Cx} {pins : List (Addr × Obj)} {σ : St} {H : Hp} {s : Shared} {a : Addr} {y d : V} {u r : Value} {o : Option V} {A : Around} {E : Value → Shared → Prop}
end
section
variable {X : Cx} {o e f : Expr} {apos cpos : Pos} {td ty tx : TE}
end
section
variable {X : Cx} {pins : List (Addr × Obj)} {σ : St} {H : Hp} {s : Shared} {a : Addr} {kvs : List (Key × V)} {A : Around} {E : Value → Shared → Prop}
end
section
variable {X : Cx} {pins : List (Addr × Obj)} {σ : St} {H : Hp} {s : Shared} {a : Addr} {y : V} {u : Value} {A : Around} {E : Value → Shared → Prop}
end
end L2
namespace L2
open PySem PySem.Spec PyProof.Rows
section
variable {κ : Type} [DecidableEq κ]
theorem valV_not {kvs : List (κ × V)} {k : κ} (h : valV kvs k = none) : ¬ k ∈ kvs.map (·.1) := by
  intro m
  obtain ⟨p, hp, e⟩ := List.mem_map.mp m
  have q : (kvs.any fun kv => decide (kv.1 = k)) = true := List.any_eq_true.mpr ⟨p, hp, decide_eq_true e⟩
  rw [valV_any, h] at q
  exact absurd q (by simp)
theorem nd_snoc : ∀ {l : List κ} {k : κ}, l.Nodup → ¬ k ∈ l → (l ++ [k]).Nodup
  | [], k, _, _ => by simp
  | a :: r, k, h, hk => by
    obtain ⟨h1, h2⟩ := List.nodup_cons.mp h
    show (a :: (r ++ [k])).Nodup
    refine List.nodup_cons.mpr ⟨fun m => ?_, nd_snoc h2 fun m => hk (List.mem_cons.mpr (Or.inr m))⟩
    rcases List.mem_append.mp m with q | q
    · exact h1 q
    · exact hk (List.mem_cons.mpr (Or.inl (List.mem_singleton.mp q).symm))
end
end L2
namespace L2
open PySem PySem.Spec PyProof.Rows
def cxC (X : Cx) (N : List Str) (scope : Scope) (cl : List (Str × Addr)) (C : Addr) (s0 : Shared) (H0 : Hp) (ex : List Addr) : Cx :=
  { X with N := N, s₀ := s0, H₀ := H0, env := compEnvC scope cl C X.env, outer := X.stack, stack := X.stack, ex := ex, fn := fun _ => false, pn := [], xe := fun _ _ => False }
theorem closure_ok {env : Env} (has : ∀ x, (env.kindOf x = some .cell ∨ env.kindOf x = some .free) → ∃ c, env.cells.lookup x = some c) {scope : Scope}
    (hf : ∀ y ∈ scope.names, y.2 = .free → env.kindOf y.1 = some .cell ∨ env.kindOf y.1 = some .free) :
    ∃ cl, closureFor scope env = pure cl ∧ (∀ x c, cl.lookup x = some c → env.cells.lookup x = some c) ∧ (∀ y ∈ scope.names, y.2 = .free → ∃ c, cl.lookup y.1 = some c) := by
  have gen : ∀ (names : List (Str × NameKind)) (cs : List (Str × Addr)), (∀ y ∈ names, y.2 = .free → env.kindOf y.1 = some .cell ∨ env.kindOf y.1 = some .free) →
      (∀ x c, cs.lookup x = some c → env.cells.lookup x = some c) →
      ∃ cl, (forIn (m := Sem) names cs fun p r => do
          match p with
          | (name, kind) => if kind == .free then do let c ← cellOf env name; pure (ForInStep.yield ((name, c) :: r)) else pure (ForInStep.yield r)) = pure cl ∧
        (∀ x c, cl.lookup x = some c → env.cells.lookup x = some c) ∧ (∀ x c, cs.lookup x = some c → ∃ c, cl.lookup x = some c) ∧ (∀ y ∈ names, y.2 = .free → ∃ c, cl.lookup y.1 = some c) := by
    intro names
    induction names with
    | nil => intro cs _ h; exact ⟨cs, rfl, h, fun x c e => ⟨c, e⟩, fun y hy => nomatch hy⟩
    | cons p r ih =>
      intro cs hp h
      obtain ⟨n, k⟩ := p
      by_cases hk : k = .free
      · subst hk
        obtain ⟨c, hc⟩ := has n (hp (n, .free) List.mem_cons_self rfl)
        have h' : ∀ x d, ((n, c) :: cs).lookup x = some d → env.cells.lookup x = some d := by
          intro x d e
          rw [List.lookup_cons] at e
          cases hx : x == n with
          | true =>
            rw [hx] at e
            have : x = n := by simpa using hx
            cases e; rw [this]; exact hc
          | false => rw [hx] at e; exact h x d e
        obtain ⟨cl, e1, e2, e3, e4⟩ := ih ((n, c) :: cs) (fun y hy => hp y (List.mem_cons_of_mem _ hy)) h'
        have hn : ∃ d, cl.lookup n = some d := e3 n c (by simp [List.lookup_cons])
        refine ⟨cl, ?_, e2, fun x d e => ?_, fun y hy hyk => ?_⟩
        · rw [List.forIn_cons]
          have : cellOf env n = pure c := by unfold cellOf; rw [hc]
          simp only [beq_self_eq_true, if_true, this]
          exact e1
        · by_cases hx : x = n
          · subst hx; exact hn
          · exact e3 x d (by rw [List.lookup_cons]; have : (x == n) = false := by simpa using hx
                             rw [this]; exact e)
        · rcases List.mem_cons.mp hy with rfl | hy
          · exact hn
          · exact e4 y hy hyk
      · obtain ⟨cl, e1, e2, e3, e4⟩ := ih cs (fun y hy => hp y (List.mem_cons_of_mem _ hy)) h
        refine ⟨cl, ?_, e2, e3, fun y hy hyk => ?_⟩
        · rw [List.forIn_cons]
          have : (k == NameKind.free) = false := by simpa using hk
          simp only [this]
          exact e1
        · rcases List.mem_cons.mp hy with rfl | hy
          · exact absurd hyk hk
          · exact e4 y hy hyk
  obtain ⟨cl, e1, e2, _, e4⟩ := gen scope.names [] hf (fun x c e => nomatch e)
  refine ⟨cl, ?_, e2, e4⟩
  unfold closureFor
  simp only []
  exact congrArg (· >>= fun cs => pure cs) e1 |>.trans rfl
end L2
namespace L2
open PySem PySem.Spec PyProof.Rows
theorem relabel_kind {scope : Scope} {env : Env} {x : Str} {k : NameKind} (h : (relabel scope env).names.lookup x = some k) (hk : k = .cell ∨ k = .free) (nc : ∀ y ∈ scope.names, y.2 ≠ .cell) : ∃ y ∈ scope.names, y.1 = x ∧ y.2 = .free := by
  have gen : ∀ names : List (Str × NameKind), (names.map fun (n, k) => if (k == NameKind.free && env.scope.kind == .function && env.kindOf n == some .cell) then (n, NameKind.cell) else (n, k)).lookup x = some k → (∀ y ∈ names, y.2 ≠ .cell) →
      ∃ y ∈ names, y.1 = x ∧ y.2 = .free := by
    intro names
    induction names with
    | nil => intro h _; cases h
    | cons p r ih =>
      obtain ⟨n, j⟩ := p
      intro h nc
      rw [List.map_cons, List.lookup_cons] at h
      have e1 : (if (j == NameKind.free && env.scope.kind == .function && env.kindOf n == some .cell) = true then (n, NameKind.cell) else (n, j)).1 = n := by split <;> rfl
      dsimp only at h
      rw [e1] at h
      cases hx : x == n with
      | false =>
        rw [hx] at h
        obtain ⟨y, hy, q⟩ := ih h fun y hy => nc y (List.mem_cons_of_mem _ hy)
        exact ⟨y, List.mem_cons_of_mem _ hy, q⟩
      | true =>
        rw [hx] at h
        have ex : x = n := by simpa using hx
        have hj : j = .free := by
          by_cases hc : (j == NameKind.free && env.scope.kind == .function && env.kindOf n == some .cell) = true
          · have := (Bool.and_eq_true _ _).mp ((Bool.and_eq_true _ _).mp hc).1
            simpa using this.1
          · rw [if_neg hc] at h
            cases h
            rcases hk with z | z
            · exact absurd z (nc (n, j) List.mem_cons_self)
            · exact z
        exact ⟨(n, j), List.mem_cons_self, ex.symm, hj⟩
  exact gen scope.names h nc
section
variable {X : Cx} {pins : List (Addr × Obj)} {σ : St} {H : Hp} {s : Shared} {N : List Str} {scope : Scope} {cl : List (Str × Addr)} {C : Addr} {ex : List Addr}
theorem cxC_ok (I : Inv X pins σ H s) (hC : s.heap.objs.size ≤ C) (hkind : scope.kind = .function) (nc : ∀ y ∈ scope.names, y.2 ≠ .cell)
    (hcl : ∀ x c, cl.lookup x = some c → X.env.cells.lookup x = some c) (hcf : ∀ y ∈ scope.names, y.2 = .free → ∃ c, cl.lookup y.1 = some c)
    (hex : ∀ b ∈ ex, FpOk X pins H b) (hexl : ∀ b ∈ ex, b < s.heap.objs.size) : (cxC X N scope cl C s H ex).Ok where
  mod := I.ok.mod
  kind := hkind
  glob := I.ok.glob
  blt := I.ok.blt
  above := hC
  inj := fun x y c h1 h2 => I.ok.inj x y c (hcl x c h1) (hcl y c h2)
  has := fun x hx => by
    have hx' : ∃ k, (relabel scope X.env).names.lookup x = some k ∧ (k = .cell ∨ k = .free) := by
      rcases hx with h | h
      · exact ⟨_, h, .inl rfl⟩
      · exact ⟨_, h, .inr rfl⟩
    obtain ⟨k, h, hk⟩ := hx'
    obtain ⟨y, hy, e1, e2⟩ := relabel_kind h hk nc
    rw [← e1]
    exact hcf y hy e2
  cab := fun x c h => by cases h
  hd := I.ok.hd
  frames := I.ok.frames
  stk := .inl rfl
  exf := fun b hb => ⟨Nat.ne_of_lt (Nat.lt_of_lt_of_le (hexl b hb) hC), fun x c e => (hex b hb).2.2.2.2.1 x c (hcl x c e)⟩
  bs := I.bs
  bsz := Nat.le_trans I.ok.bsz I.sz
  noex := fun b o e hb => by
    rcases (hex b hb).2.2.2.1 with z | z
    · exact I.ok.noex b o e z
    · have h1 := Heap.lt_size e
      have h2 := I.ok.bsz
      exact absurd (Nat.lt_of_lt_of_le h1 (Nat.le_trans h2 z)) (Nat.lt_irrefl _)
  exfs := fun b hb z => by
    have h1 := I.stkSub b z
    rcases List.mem_cons.mp h1 with z | z
    · exact (hex b hb).2.1 z
    · exact (hex b hb).2.2.1 z
  funs := I.stack
  frf := I.stkFree
def capV (caps : List Nat) (σ : St) : St := caps.map fun j => (σ[j]?).join
def cSt (n : Nat) (caps : List Nat) (σ : St) : St := List.replicate n none ++ capV caps σ
theorem cxC_inv {caps : List Nat} {Nt Nf : List Str} {s1 : Shared} {m : Str → Option Value} (I : Inv X pins σ H s) (ok : (cxC X (Nt ++ Nf) scope cl C s H ex).Ok)
    (hcl : ∀ x c, cl.lookup x = some c → X.env.cells.lookup x = some c)
    (hcap : caps.map (fun j => X.N[j]?) = Nf.map some)
    (hvis : ∀ x ∈ Nf, scope.names.lookup x = some .free) (hXv : ∀ x ∈ Nf, X.env.kindOf x = some .cell ∨ X.env.kindOf x = some .free) (hcf : ∀ x ∈ Nf, ∃ c, cl.lookup x = some c)
    (hos : s1.os = s.os) (hgens : s1.gens = s.gens) (hk : ∀ b o, s.heap.get? b = some o → s1.heap.get? b = some o) (hns : s1.heap.Ns C m) (hC : s.heap.objs.size ≤ C) :
    Inv (cxC X (Nt ++ Nf) scope cl C s H ex) [] (cSt Nt.length caps σ) H s1 := by
  have hlen : caps.length = Nf.length := by
    have := congrArg List.length hcap
    simpa using this
  refine ⟨ok, hos, by rw [hgens]; exact I.bare, Un.kept hk, ⟨m, hns, fun i x v h1 h2 h3 => ?_⟩, fun x c e => ?_, I.hok.fresh hC, fun x c e => I.freeC x c (hcl x c e), fun p hp => absurd (show p ∈ ([] : List (Addr × Obj)) from hp) (by simp), I.hok.kept hk, ?_⟩
  · -- a captured name
    have hi : Nt.length ≤ i := by
      refine Nat.le_of_not_lt fun q => ?_
      unfold cSt at h2
      rw [List.getElem?_append_left (by simpa using q), List.getElem?_replicate] at h2
      split at h2 <;> cases h2
    have h1' : Nf[i - Nt.length]? = some x := by
      have : (Nt ++ Nf)[i]? = some x := h1
      rwa [List.getElem?_append_right hi] at this
    unfold cSt at h2
    rw [List.getElem?_append_right (by simpa using hi)] at h2
    have e0 : i - (List.replicate Nt.length (none : Option V)).length = i - Nt.length := by simp
    rw [e0] at h2
    generalize hj : i - Nt.length = j at h1' h2
    unfold capV at h2
    rw [List.getElem?_map] at h2
    cases hc : caps[j]? with
    | none => rw [hc] at h2; cases h2
    | some jj =>
      rw [hc] at h2
      have h2' : (σ[jj]?).join = some v := Option.some.inj h2
      have h2'' : σ[jj]? = some (some v) := by
        cases q : σ[jj]? with
        | none => rw [q] at h2'; cases h2'
        | some z => rw [q] at h2'; cases z with
          | none => cases h2'
          | some z' => cases h2'; rfl
      have hN : X.N[jj]? = some x := by
        have q := congrArg (fun l => l[j]?) hcap
        simp only [List.getElem?_map, hc, h1', Option.map_some] at q
        exact Option.some.inj q
      have hx : x ∈ Nf := List.mem_of_getElem? h1'
      have hXk := hXv x hx
      obtain ⟨mX, _, hl⟩ := I.loc
      obtain ⟨u, ru, lk⟩ := hl jj x v hN h2'' (by
        rcases hXk with z | z
        · exact .inr (.inl z)
        · exact .inr (.inr z))
      refine ⟨u, ru, .inr ?_⟩
      rcases lk with ⟨z, _⟩ | ⟨_, c, hc1, hcell⟩
      · rcases hXk with y | y <;> (rw [z] at y; cases y)
      · obtain ⟨c', hc'⟩ := hcf x hx
        have e := hcl x c' hc'
        rw [hc1] at e; cases e
        refine ⟨?_, c, hc', ?_⟩
        · rcases h3 with z | z | z
          · -- not a local of the block
            exfalso
            have hfree := hvis x hx
            have z' : (relabel scope X.env).names.lookup x = some .local := z
            have gen : ∀ names : List (Str × NameKind), names.lookup x = some .free → (names.map fun (n, k) => if (k == NameKind.free && X.env.scope.kind == .function && X.env.kindOf n == some .cell) then (n, NameKind.cell) else (n, k)).lookup x ≠ some .local := by
              intro names
              induction names with
              | nil => intro h; cases h
              | cons p r ih =>
                obtain ⟨n, k⟩ := p
                intro h
                rw [List.map_cons, List.lookup_cons]
                rw [List.lookup_cons] at h
                have e1 : (if (k == NameKind.free && X.env.scope.kind == .function && X.env.kindOf n == some .cell) = true then (n, NameKind.cell) else (n, k)).1 = n := by split <;> rfl
                dsimp only
                rw [e1]
                cases hx : x == n with
                | false => rw [hx] at h; exact ih h
                | true =>
                  rw [hx] at h
                  cases h
                  show some (if _ then (n, NameKind.cell) else (n, NameKind.free)).2 ≠ some .local
                  split <;> (intro q; cases q)
            exact gen scope.names hfree z'
          · exact .inl z
          · exact .inr z
        · obtain ⟨o, eo, d⟩ := hcell
          exact ⟨o, hk _ _ eo, d⟩
  · obtain ⟨v, q⟩ := I.cell x c (hcl x c e)
    obtain ⟨o, eo, d⟩ := q
    exact ⟨v, o, hk _ _ eo, d⟩
  · show (cSt Nt.length caps σ).length = (Nt ++ Nf).length
    unfold cSt capV
    simp [hlen]
end
end L2
namespace L2
open PySem PySem.Spec PyProof.Rows
abbrev askIfs (ifs : List Expr) (env : Env) : Sem Bool := forIn ifs true fun c r => if r = true then do let ok ← isTrue c env (eval c env); pure (ForInStep.yield ok) else pure (ForInStep.yield r)
abbrev NoX : Value → Shared → Prop := fun _ _ => False
theorem compLoop_any {P : Program} {w : World} {B : Around} {R : Result → Shared → Prop} {s : Shared} {y tg l : Expr} {cs : List Expr} {sc : Scope} {ps : Pos} {iv av : Value} {en : Env} (G : Nat → Shared → Prop)
    (one : ∀ n s, G n s → wpAny (model P w) B (pyNext iv) (fun r s1 => match r with
      | none => R (.ok .next) s1
      | some v => wpAny (model P w) B (letOwnedTupleGo tg iv v) (fun _ s1 => wpAny (model P w) B (assign tg en v) (fun _ s2 => wpAny (model P w) B (askIfs cs en) (fun k s3 =>
            if k = true then wpAny (model P w) B (eval y en) (fun x s4 => wpAny (model P w) B (call (.builtin "list.append") [av, x]) (fun _ s5 => ∃ m, m < n ∧ G m s5) NoX s4) NoX s3
            else ∃ m, m < n ∧ G m s3) NoX s2) NoX s1) NoX s1) NoX s) (n : Nat) (h : G n s) :
    codeAny (model P w) B (.compLoop (.ListComp y [⟨tg, l, cs, 0⟩] sc ps) 0 iv av en) R s := by
  refine codeAny_loop rfl G (fun n s hG => ?_) n h
  show wpAny _ B ((compTurn (.ListComp y [⟨tg, l, cs, 0⟩] sc ps) 0 iv av en).onRaise (fun x => do noteFrame x en; theTreesLotGoes x)) _ _ s
  refine wpAny_noted ?_
  rw [compTurn_list]
  refine wpAny_bind (wpAny_standAt (wpAny_bind (wpAny_mono (one n s hG) (fun r s1 h1 => ?_) fun _ _ z => z.elim)))
  cases r with
  | none => exact wpAny_pure h1
  | some v =>
    refine wpAny_bind (wpAny_mono h1 (fun _ s1' h1' => ?_) fun _ _ z => z.elim)
    refine wpAny_bind (wpAny_mono h1' (fun _ s2 h2 => wpAny_bind (wpAny_mono h2 (fun k s3 h3 => ?_) fun _ _ z => z.elim)) fun _ _ z => z.elim)
    cases k with
    | false => exact wpAny_pure ⟨rfl, h3⟩
    | true => exact wpAny_bind (wpAny_bind (wpAny_mono h3 (fun x s4 h4 => wpAny_bind (wpAny_mono h4 (fun _ s5 h5 => wpAny_pure (wpAny_pure ⟨rfl, h5⟩)) fun _ _ z => z.elim)) fun _ _ z => z.elim))
def PTs (X : Cx) (ifs : List Expr) (t : TT) : Prop :=
  ∀ (pins : List (Addr × Obj)) (s : Shared) (σ : St) (H : Hp) (Q : Bool → Hp → Prop), Inv X pins σ H s → t σ H Q →
    wpAny (model X.prog X.w) X.A (askIfs ifs X.env) (TP X pins σ Q) X.xe s
def tNoIf : TT := fun _ H Q => Q true H
theorem pts_nil {X : Cx} : PTs X [] tNoIf := fun pins s σ H Q I h => wpAny_tests_nil ⟨H, I, h⟩
theorem pts_one {X : Cx} {c : Expr} {t : TT} (h : PT X c t) : PTs X [c] t := fun pins s σ H Q I q => wpAny_tests_one (h pins s σ H Q I q)
section
variable {X : Cx} {pins : List (Addr × Obj)} {σ : St} {H : Hp} {s : Shared}
theorem Inv.adopt {D : Addr} {o : HO} (I : Inv X pins σ H s) (hD : H D = none) (h1 : X.s₀.heap.objs.size ≤ D) (h2 : D ≠ X.env.locals) (h3 : ∀ x c, X.env.cells.lookup x = some c → c ≠ D) (h4 : ∀ p ∈ X.pn ++ pins, p.1 ≠ D)
    (new : ObjOk X.prog X.w (upd H D o) s.heap D o) : Inv X pins σ (upd H D o) s := by
  have old : ∀ {b : Addr} {q : Obj}, X.s₀.heap.get? b = some q → b ≠ D := fun e => Nat.ne_of_lt (Nat.lt_of_lt_of_le (Heap.lt_size e) h1)
  refine ⟨I.ok, I.os, I.bare, ⟨I.base.keep, I.base.slot, fun b q e n hx => by rw [upd_ne (old e)]; exact I.base.free b q e n hx, I.base.there, fun b xs e => ?_, fun b q u e => ?_, fun b ps e => ?_⟩, I.loc, I.cell, by rw [upd_ne (Ne.symm h2)]; exact I.free, fun x c e => by rw [upd_ne (h3 x c e)]; exact I.freeC x c e, fun p hp => ?_, fun b u e => ?_, I.len⟩
  · have e' := I.base.tups b xs e
    rw [upd_ne (ne_of_none e' hD)]; exact e'
  · have e' := I.base.frzs b q u e
    rw [upd_ne (ne_of_none e' hD)]; exact e'
  · obtain ⟨more, e'⟩ := I.base.tbls b ps e
    exact ⟨more, by rw [upd_ne (ne_of_none e' hD)]; exact e'⟩
  · obtain ⟨a1, a2, a3, a4, a5⟩ := I.pin p hp
    exact ⟨a1, by rw [upd_ne (h4 p hp)]; exact a2, a3, a4, a5⟩
  · by_cases hb : b = D
    · subst hb; rw [upd_same] at e; cases e; exact new
    · rw [upd_ne hb] at e
      exact (I.hok b u e).stay (fun c v _ q => q) (fun c q => by rw [upd_ne (ne_of_none q hD)]; exact q) fun c xs q => by rw [upd_ne (ne_of_none q hD)]; exact q
def tLC (wi : TI) (g : TG) (tt : TT) (te : TE) (n : Nat) (caps : List Nat) : TE := fun σ H Q => wi σ H fun J H1 => ∃ W : Nat → Nat → List V → St → Hp → Prop, (∃ m, W 0 m [] (cSt n caps σ) H1) ∧ ∀ i m acc σ' H', W i m acc σ' H' →
  (J.stop i H' ∧ ∀ l, H' l = none → Q (.ref l) (upd H' l (.lst acc))) ∨
  (J.go i H' ∧ acc.length < sizeLine ∧ ∃ N : List V → St → Hp → Prop, (∀ ac σ2 H2, N ac σ2 H2 → ∃ m', m' < m ∧ W (i + 1) m' ac σ2 H2) ∧ ∀ x H2, J.yld i H' x H2 → g x σ' H2 fun σ3 H3 => tt σ3 H3 fun b H4 => if b = true then te σ3 H4 fun y H5 => N (acc ++ [y]) σ3 H5 else N acc σ3 H4)
structure CompOk (X : Cx) (scope : Scope) (Nt Nf : List Str) (caps : List Nat) : Prop where
  kind : scope.kind = .function
  nc : ∀ y ∈ scope.names, y.2 ≠ .cell
  nm : ∀ y ∈ scope.names, y.2 = .local → scope.names.lookup y.1 = some .local
  fr : ∀ y ∈ scope.names, y.2 = .free → X.env.kindOf y.1 = some .cell ∨ X.env.kindOf y.1 = some .free
  cap : caps.map (fun j => X.N[j]?) = Nf.map some
  vis : ∀ x ∈ Nf, scope.names.lookup x = some .free
theorem comp_block {tg iter elt : Expr} {ifs : List Expr} {scope : Scope} {pos : Pos} {g : TG} {tt : TT} {te : TE} {Nt Nf : List Str} {caps : List Nat} {cl : List (Str × Addr)} {it : Addr} {fp : List Addr} {tn : Nat → Heap → Prop} {J : It} {Q : VK} {E : Value → Shared → Prop}
    {RR : Value → Addr → Result → Shared → Prop}
    (hc : X.calm = true) (S : CompOk X scope Nt Nf caps)
    (hg : ∀ cl C s0 H0 ex, PG (cxC X (Nt ++ Nf) scope cl C s0 H0 ex) tg g)
    (ht : ∀ cl C s0 H0 ex, PTs (cxC X (Nt ++ Nf) scope cl C s0 H0 ex) ifs tt)
    (he : ∀ cl C s0 H0 ex, PE (cxC X (Nt ++ Nf) scope cl C s0 H0 ex) elt te)
    (hcl : ∀ x c, cl.lookup x = some c → X.env.cells.lookup x = some c) (hcf : ∀ y ∈ scope.names, y.2 = .free → ∃ c, cl.lookup y.1 = some c)
    (I : Inv X pins σ H s) (T : Turn X.prog X.w X.K tg J fp it tn) (st : tn 0 s.heap) (hfp : ∀ b ∈ fp, FpOk X pins H b)
    (hW : ∃ W : Nat → Nat → List V → St → Hp → Prop, (∃ m, W 0 m [] (cSt Nt.length caps σ) H) ∧ ∀ i m acc σ' H', W i m acc σ' H' →
      (J.stop i H' ∧ ∀ l, H' l = none → Q (.ref l) (upd H' l (.lst acc))) ∨
      (J.go i H' ∧ acc.length < sizeLine ∧ ∃ N : List V → St → Hp → Prop, (∀ ac σ2 H2, N ac σ2 H2 → ∃ m', m' < m ∧ W (i + 1) m' ac σ2 H2) ∧ ∀ x H2, J.yld i H' x H2 → g x σ' H2 fun σ3 H3 => tt σ3 H3 fun b H4 => if b = true then te σ3 H4 fun y H5 => N (acc ++ [y]) σ3 H5 else N acc σ3 H4))
    (fin : ∀ D C m s' H', Inv X pins σ H' s' → Q (.ref D) H' → s'.heap.Ns C m → H' C = none → C ≠ X.env.locals → X.s₀.heap.objs.size ≤ C → (∀ x c, X.env.cells.lookup x = some c → c ≠ C) → (∀ p ∈ X.pn ++ pins, p.1 ≠ C) → RR (.ref D) C (.ok .next) s') :
    wpAny (model X.prog X.w) X.A (newList []) (fun acc s₃ => wpAny (model X.prog X.w) X.A (newFunctionEnv scope X.env.globals cl [] X.env.qual none .none (some X.env)) (fun cenv s₄ =>
      codeAny (model X.prog X.w) X.A (.compStart (.ListComp elt [⟨tg, iter, ifs, 0⟩] scope pos) 0 (.ref it) acc { cenv with scope := relabel scope X.env }) (RR acc cenv.locals) s₄) E s₃) E s := by
  obtain ⟨W, ⟨m0, w0⟩, turn⟩ := hW
  refine wpAny_newObj_type (wpAny_newFunctionEnv S.nc (by intro y hy; simp at hy) (fun h₁ hns₁ hsb₁ => ?_) S.kind)
  dsimp only at hns₁ hsb₁ ⊢
  generalize hH2 : s.heap.push { cls := .type "list", dict := none, data := .seq ([] : List Value).toArray } = P2 at hns₁ hsb₁ ⊢
  have hCs : P2.objs.size = s.heap.objs.size + 1 := by rw [← hH2, Heap.size_push]
  have hDC : s.heap.objs.size ≠ P2.objs.size := by rw [hCs]; exact Nat.ne_of_lt (Nat.lt_succ_self _)
  have hCle : s.heap.objs.size ≤ P2.objs.size := by rw [hCs]; exact Nat.le_succ _
  have below : ∀ b, b < s.heap.objs.size → b ≠ P2.objs.size := fun b hb => by rw [hCs]; exact Nat.ne_of_lt (Nat.lt_succ_of_lt hb)
  have old : ∀ b o, s.heap.get? b = some o → h₁.get? b = some o := fun b o e => hsb₁.extBut b o (below b (Heap.lt_size e)) (Heap.get?_push_of_some _ (hH2 ▸ Heap.get?_push_of_some _ e))
  have hacc : h₁.PlainList s.heap.objs.size #[] := ⟨_, hsb₁.extBut _ _ hDC (Heap.get?_push_of_some _ (hH2 ▸ Heap.get?_push_size _ rfl))⟩
  have fpl : ∀ b ∈ fp, b < s.heap.objs.size := fun b hb => by
    obtain ⟨o, e, _⟩ := T.obj _ _ st b hb
    exact Heap.lt_size e
  have st₁ : tn 0 h₁ := T.keep _ _ _ st fun b _ o e => old b o e
  generalize hCe : P2.objs.size = C at hns₁ hsb₁ hDC hCle below ⊢
  generalize hDe : s.heap.objs.size = D at hacc hDC hCle ⊢
  have hDl : X.env.locals < D := by rw [← hDe]; exact I.lt
  have hDs : X.s₀.heap.objs.size ≤ D := by rw [← hDe]; exact I.sz
  have hcD : ∀ x c, X.env.cells.lookup x = some c → c < D := fun x c e => by
    obtain ⟨v, q⟩ := I.cell x c e
    rw [← hDe]; exact q.lt
  have hpD : ∀ p ∈ X.pn ++ pins, p.1 < D := fun p hp => by rw [← hDe]; exact Heap.lt_size (I.pin p hp).1
  let Y : Cx := cxC X (Nt ++ Nf) scope cl C s H fp
  have okY : Y.Ok := cxC_ok I (by rw [hDe]; exact hCle) S.kind S.nc hcl hcf hfp fpl
  have hfsY : ∀ b, b ∈ Y.fs → b < D := fun b hb => by
    rcases List.mem_cons.mp (I.stkSub b hb) with z | z
    · rw [z]; exact hDl
    · refine Nat.lt_of_lt_of_le ?_ hDs
      have := (I.ok.funs.mem z)
      refine Nat.lt_of_not_le fun q => ?_
      exact absurd z (fun z => by
        have := I.nofs (a := b)
        by_cases hb2 : s.heap.objs.size ≤ b
        · exact this hb2 z
        · obtain ⟨_, o, e, _⟩ := I.ok.funs.mem z
          exact absurd (Heap.lt_size e) (Nat.not_lt.mpr q))
  have loop : ∀ s₃ : Shared, s₃ = { s with heap := h₁, toks := s.toks + ([] : List (Str × Value)).length } →
      codeAny (model X.prog X.w) X.A (.compLoop (.ListComp elt [⟨tg, iter, ifs, 0⟩] scope pos) 0 (.ref it) (.ref D) Y.env) (RR (.ref D) C) s₃ := by
    rintro s₃ rfl
    have I0 : Inv Y [] (cSt Nt.length caps σ) H { s with heap := h₁, toks := s.toks + ([] : List (Str × Value)).length } :=
      cxC_inv I okY hcl S.cap S.vis (fun x hx => S.fr (x, .free) (PySem.mem_of_lookup (S.vis x hx)) rfl) (fun x hx => hcf (x, .free) (PySem.mem_of_lookup (S.vis x hx)) rfl) rfl rfl old hns₁ (by rw [hDe]; exact hCle)
    have fpY : ∀ {H' : Hp}, (∀ b ∈ fp, H' b = none) → ∀ b ∈ fp, FpOk Y [] H' b := fun hn b hb =>
      ⟨hn b hb, Nat.ne_of_lt (Nat.lt_of_lt_of_le (fpl b hb) (by rw [hDe]; exact hCle)), okY.exfs b hb, .inl hb, fun x c e => (hfp b hb).2.2.2.2.1 x c (hcl x c e), fun p hp => absurd (show p ∈ ([] : List (Addr × Obj)) from hp) (by simp)⟩
    have fpD : ∀ b ∈ fp, b ≠ D := fun b hb => Nat.ne_of_lt (by rw [← hDe]; exact fpl b hb)
    refine compLoop_any (fun n s' => ∃ i acc its σ' H', Inv Y [] σ' H' s' ∧ tn i s'.heap ∧ (∀ b ∈ fp, H' b = none) ∧ s'.heap.PlainList D its ∧ H' D = none ∧ Vals acc its.toList ∧ acc.length ≤ sizeLine ∧ W i n acc σ' H') ?_ m0
      ⟨0, [], #[], cSt Nt.length caps σ, H, I0, st₁, fun b hb => (hfp b hb).1, hacc, by rw [← hDe]; exact I.hok.fresh (Nat.le_refl _), .nil, Nat.zero_le _, w0⟩
    rintro n s3 ⟨i, acc, its, σ3, H3, I3, st3, fr3, ⟨nd, e3⟩, hD3, rv3, hl3, w3⟩
    have cD : C ≠ D := Ne.symm hDC
    have pinOk : ∀ {H' : Hp} {s' : Shared} {o : Obj}, s'.heap.get? D = some o → H' D = none → (∀ v, o.data ≠ .cell v) → s'.heap.get? D = some o ∧ H' D = none ∧ D ≠ Y.env.locals ∧ D ∉ Y.fs ∧ ∀ v, o.data ≠ .cell v := fun e n d =>
      ⟨e, n, hDC, fun z => absurd (hfsY D z) (Nat.lt_irrefl _), d⟩
    have I3' : Inv Y [(D, { cls := .type "list", data := .seq its nd })] σ3 H3 s3 := I3.pins_of fun p hp => by
      obtain rfl : p = (D, ({ cls := .type "list", data := .seq its nd } : Obj)) := List.mem_singleton.mp hp
      exact pinOk e3 hD3 (fun v z => by cases z)
    have fpY' : ∀ {H' : Hp}, (∀ b ∈ fp, H' b = none) → ∀ b ∈ fp, FpOk Y [(D, { cls := .type "list", data := .seq its nd })] H' b := fun hn b hb => by
      obtain ⟨a1, a2, a3, a4, a5, _⟩ := fpY hn b hb
      refine ⟨a1, a2, a3, a4, a5, fun p hp => ?_⟩
      obtain rfl : p = (D, ({ cls := .type "list", data := .seq its nd } : Obj)) := List.mem_singleton.mp hp
      exact Ne.symm (fpD b hb)
    rcases turn i n acc σ3 H3 w3 with ⟨stop, qn⟩ | ⟨go, hlt, N, hN, step⟩
    · refine thn (T.done Y rfl rfl rfl hc i _ s3 σ3 H3 _ I3' (fpY' fr3) st3 stop) fun r s4 ⟨hr, I4⟩ => ?_
      subst hr
      have e4 := (I4.pin (D, { cls := .type "list", data := .seq its nd }) (List.mem_append_right _ List.mem_cons_self)).1
      have IX : Inv X pins σ H3 s4 := I.call' (ch := fp) I4.os I4.base I4.hok I4.bare fun b hb => by
        obtain ⟨_, a2, _, a4, a5, a6⟩ := hfp b hb
        exact ⟨a4, a2, a5, a6⟩
      have IA := IX.adopt (o := .lst acc) hD3 hDs (Nat.ne_of_gt hDl) (fun x c e => Nat.ne_of_lt (hcD x c e)) (fun p hp => Nat.ne_of_lt (hpD p hp)) ⟨hl3, its.toList, nd, rv3, e4⟩
      obtain ⟨m, nsC, _⟩ := I4.loc
      refine fin D C m s4 _ IA (qn D hD3) nsC (by rw [upd_ne cD]; exact I4.free) ?_ ?_ ?_ ?_
      · exact Nat.ne_of_gt (Nat.lt_of_lt_of_le hDl hCle)
      · exact Nat.le_trans hDs hCle
      · exact fun x c e => Nat.ne_of_lt (Nat.lt_of_lt_of_le (hcD x c e) hCle)
      · exact fun p hp => Nat.ne_of_lt (Nat.lt_of_lt_of_le (hpD p hp) hCle)
    · refine thn (T.item Y rfl rfl rfl hc i _ s3 σ3 H3 _ I3' (fpY' fr3) st3 go) fun r s4 ⟨u, hr, h4⟩ => ?_
      subst hr
      refine thn h4 fun _ s5 ⟨x, H5, I5, r5, y5, st5, fr5⟩ => ?_
      have I5' := I5.pinned (fpY' fr5) (T.obj _ _ st5)
      refine thn (hg cl C s H fp _ s5 σ3 H5 x u _ I5' r5 (step x H5 y5)) fun _ s6 ⟨σ6, H6, I6, q6⟩ => ?_
      refine thn (ht cl C s H fp _ s6 σ6 H6 _ I6 q6) fun b s7 ⟨H7, I7, q7⟩ => ?_
      have back : ∀ {σ' : St} {H' : Hp} {s' : Shared}, Inv Y ([(D, { cls := .type "list", data := .seq its nd })] ++ pinsAt fp s5.heap) σ' H' s' →
          s'.heap.get? D = some { cls := .type "list", data := .seq its nd } ∧ H' D = none ∧ tn (i + 1) s'.heap ∧ ∀ b ∈ fp, H' b = none := fun {σ' H' s'} J7 => by
        have hd := J7.pin (D, { cls := .type "list", data := .seq its nd }) (List.mem_append_right _ (List.mem_append_left _ List.mem_cons_self))
        refine ⟨hd.1, hd.2.1, T.keep _ _ _ st5 fun b hb o e => (J7.pin (b, o) (List.mem_append_right _ (List.mem_append_right _ (mem_pinsAt hb e)))).1, fun b hb => ?_⟩
        obtain ⟨o, e, d⟩ := T.obj _ _ st5 b hb
        exact (J7.pin (b, o) (List.mem_append_right _ (List.mem_append_right _ (mem_pinsAt hb e)))).2.1
      cases b with
      | false =>
        rw [if_neg Bool.false_ne_true]
        rw [if_neg Bool.false_ne_true] at q7
        obtain ⟨m', hm, w7⟩ := hN _ _ _ q7
        obtain ⟨b1, b2, b3, b4⟩ := back I7
        exact ⟨m', hm, i + 1, acc, its, σ6, H7, I7.pins_of (fun p hp => nomatch hp), b3, b4, ⟨nd, b1⟩, b2, rv3, hl3, w7⟩
      | true =>
        rw [if_pos rfl]
        rw [if_pos rfl] at q7
        refine thn (he cl C s H fp _ s7 σ6 H7 _ I7 q7) fun u8 s8 ⟨y, H8, I8, r8, n8⟩ => ?_
        obtain ⟨m', hm, w8⟩ := hN _ _ _ n8
        obtain ⟨b1, b2, b3, b4⟩ := back I8
        have hsz : its.size ≤ sizeLine := by
          have h1 := rv3.length
          have h2 : its.toList.length = its.size := by simp
          omega
        refine wpAny_list_append_plain (hsz := hsz) ⟨nd, b1⟩ fun h' pl' sb' => ?_
        have I8' : Inv Y [] σ6 H8 s8 := I8.pins_of (fun p hp => nomatch hp)
        refine ⟨m', hm, i + 1, acc ++ [y], its.push u8, σ6, H8, I8'.turned (t' := s8.toks) (fun b o hb e => (sb'.2 b hb).trans e) b2 hDC (.inr (by show s.heap.objs.size ≤ D; rw [hDe]; exact Nat.le_refl _)) (fun x c e => Nat.ne_of_lt (hcD x c (hcl x c e))) (fun p hp => absurd (show p ∈ ([] : List (Addr × Obj)) from hp) (by simp)), ?_, b4, pl', b2, ?_, ?_, w8⟩
        · exact T.keep _ _ _ b3 fun b hb o e => (sb'.2 b (fpD b hb)).trans e
        · rw [Array.toList_push]
          exact rv3.append (.cons r8 .nil)
        · rw [List.length_append, List.length_singleton]
          omega
  exact codeAny_compStart_list (loop _ rfl) (T.self _ _ _ _ _ st₁ (loop _ rfl))
theorem pe_lc {tg iter elt : Expr} {ifs : List Expr} {scope : Scope} {pos : Pos} {wi : TI} {g : TG} {tt : TT} {te : TE} {Nt Nf : List Str} {caps : List Nat} (hc : X.calm = true) (S : CompOk X scope Nt Nf caps) (hi : PI X tg iter wi)
    (hg : ∀ cl C s0 H0 ex, PG (cxC X (Nt ++ Nf) scope cl C s0 H0 ex) tg g)
    (ht : ∀ cl C s0 H0 ex, PTs (cxC X (Nt ++ Nf) scope cl C s0 H0 ex) ifs tt)
    (he : ∀ cl C s0 H0 ex, PE (cxC X (Nt ++ Nf) scope cl C s0 H0 ex) elt te)
    (hs : ∀ x, foldedSetIterable iter X.env x = pure x := by intro _; rfl) : PE X (.ListComp elt [⟨tg, iter, ifs, 0⟩] scope pos) (tLC wi g tt te Nt.length caps) := by
  intro pins s σ H Q I h
  obtain ⟨cl, hclos, hcl, hcf⟩ := closure_ok I.ok.has S.fr
  rw [eval_ListComp]
  refine wpAny_comprehension_free (use := none) rfl hs hclos S.kind S.nm (thn (hi pins s σ H _ I h) fun v s1 h1 => thn h1 fun itv s2 h2 => ?_)
  obtain ⟨it, fp, tn, J, H2, e, I2, T, st2, f2, hW⟩ := h2
  subst e
  refine comp_block (RR := fun acc C => compPost (model X.prog X.w) X.A X.xe none (EP X pins σ Q) acc C) (Q := Q) hc S hg ht he hcl hcf I2 T st2 f2 hW ?_
  intro D C m s' H' I' q nsC hCn hCl hCs hCc hCp
  exact ⟨m, nsC, fun h' sb => ⟨.ref D, H', I'.turned (t' := s'.toks) (fun b o hb e => (sb.2 b hb).trans e) hCn hCl (.inr hCs) hCc hCp, rfl, q⟩⟩
theorem ps_lc {tg iter elt : Expr} {ifs : List Expr} {scope : Scope} {pos spos py : Pos} {y : Str} {i : Nat} {wi : TI} {g : TG} {tt : TT} {te : TE} {Nt Nf : List Str} {caps : List Nat} (hc : X.calm = true) (S : CompOk X scope Nt Nf caps) (hi : PI X tg iter wi)
    (hg : ∀ cl C s0 H0 ex, PG (cxC X (Nt ++ Nf) scope cl C s0 H0 ex) tg g)
    (ht : ∀ cl C s0 H0 ex, PTs (cxC X (Nt ++ Nf) scope cl C s0 H0 ex) ifs tt)
    (he : ∀ cl C s0 H0 ex, PE (cxC X (Nt ++ Nf) scope cl C s0 H0 ex) elt te)
    (hN : X.N.Nodup) (hy : X.N[i]? = some y) (hx : Loc X.env.scope y)
    (hsw : swapsWith (.ListComp elt [⟨tg, iter, ifs, 0⟩] scope pos) (some (.Name y py)) spos.line X.env = pure true)
    (hf : X.fn y = true ∨ X.env.scope.names.lookup y = some .local := by first | exact .inl rfl | exact .inr rfl | assumption)
    (hs : ∀ x, foldedSetIterable iter X.env x = pure x := by intro _; rfl) : PS X (.Assign [.Name y py] (.ListComp elt [⟨tg, iter, ifs, 0⟩] scope pos) spos) (tAsg (tLC wi g tt te Nt.length caps) (gName i)) := by
  intro pins s σ H D I h
  obtain ⟨cl, hclos, hcl, hcf⟩ := closure_ok I.ok.has S.fr
  rw [exec_Assign_Name_used _ _ _ _ hsw]
  refine wpAny_bind (wpAny_standAt (wpAny_bind ?_))
  show wpAny _ X.A (do let _ ← comprehension (.ListComp elt [⟨tg, iter, ifs, 0⟩] scope pos) scope X.env _ (newList []) false (eval iter X.env) (some (assign (.Name y py) X.env))) _ _ s
  refine wpAny_bind (wpAny_mono (wpAny_comprehension_free (use := some (assign (.Name y py) X.env)) (Q := fun _ s' => SP X pins D .next s') rfl hs hclos S.kind S.nm
    (thn (hi pins s σ H _ I h) fun v s1 h1 => thn h1 fun itv s2 h2 => ?_)) (fun _ s' hq => wpAny_pure (wpAny_pure hq)) fun _ _ e => e)
  obtain ⟨it, fp, tn, J, H2, e, I2, T, st2, f2, hW⟩ := h2
  subst e
  refine comp_block (RR := fun acc C => compPost (model X.prog X.w) X.A X.xe (some (assign (.Name y py) X.env)) (fun _ s' => SP X pins D .next s') acc C) (Q := fun x H1 => gName i x σ H1 D.nx) hc S hg ht he hcl hcf I2 T st2 f2 hW ?_
  intro l C m s' H' I' q nsC hCn hCl hCs hCc hCp
  show wpAny _ X.A (assign (.Name y py) X.env (.ref l)) _ _ _
  refine wpAny_assign_Name (store_ok2 (v := .ref l) I' hN hy hx rfl (fun s'' I'' ⟨a, sb, ha⟩ => ?_) hf)
  have haC : C ≠ a := by
    rcases ha with z | z
    · rw [z]; exact hCl
    · exact fun e => hCc y a z e.symm
  refine ⟨m, nsC.sameBut sb haC, fun h' sb' => ⟨_, H', I''.turned (t' := s''.toks) (fun b o hb e => (sb'.2 b hb).trans e) hCn hCl (.inr hCs) hCc hCp, q⟩⟩
end
end L2
namespace L2
open PySem PySem.Spec PyProof.Rows
section
variable {X : Cx} {tg : Expr}
end
section
variable {X : Cx}
def strsV (ys : List Str) : List V := ys.map V.str
def CBig (i j : Int) : Prop := (i.natAbs < 2 ^ 4096 ∧ j.natAbs < 2 ^ 4096) ∨ CMul i j
theorem bits_le {i : Int} {n : Nat} (h : i.natAbs < 2 ^ n) : Builtin.Int.intBits i ≤ n := by
  unfold Builtin.Int.intBits
  split
  · exact Nat.zero_le _
  · rename_i h0
    have h1 : i.natAbs ≠ 0 := by simpa using h0
    have := (Nat.log2_lt h1).mpr h
    omega
theorem CBig.ok {i j : Int} (h : CBig i j) : IntMulOk i j := by
  rcases h with ⟨h1, h2⟩ | h
  · exact IntMulOk.of_bits (Nat.le_trans (bits_le h1) (by decide)) (Nat.le_trans (bits_le h2) (by decide))
  · exact h.ok
theorem op_big : OpR X (binaryOp .Mult) (rI CBig fun i j => .int (i * j)) := opI fun _ _ _ _ _ _ _ hc q => mul_int q hc.ok
def blsV (bs : List Bool) : List V := bs.map V.bl
theorem bls_get : ∀ {bs : List Bool} {us : List Value}, Vals (blsV bs) us → ∀ (i : Nat) (v : Value), us[i]? = some v → ∃ b, bs[i]? = some b ∧ v = .bool b
  | [], _, r, i, v, e => by cases r; simp at e
  | b :: bs, _, r, i, v, e => by
    cases r with
    | cons r1 r2 =>
      cases i with
      | zero =>
        simp at e; subst e
        exact ⟨b, rfl, r1⟩
      | succ i => exact bls_get (bs := bs) r2 i v (by simpa using e)
theorem range_allB : ∀ bs : List Bool, ((List.range bs.length).all fun i => (bs[i]?).getD true) = bs.all id := by
  intro bs
  rw [Bool.eq_iff_iff, List.all_eq_true, List.all_eq_true]
  constructor
  · intro h x hx
    obtain ⟨i, hi, e⟩ := List.getElem_of_mem hx
    have := h i (List.mem_range.mpr hi)
    rw [List.getElem?_eq_getElem hi, e] at this
    exact this
  · intro h i hi
    have hi' : i < bs.length := List.mem_range.mp hi
    rw [List.getElem?_eq_getElem hi']
    exact h _ (List.getElem_mem hi')
theorem call_all : X.calm = true → CallR X (.builtin "all") (fun xs H Q => ∃ l bs, xs = [.ref l] ∧ SqL X.K H l (blsV bs) ∧ Q (.bl (bs.all id)) H) := by
  intro hc pins s σ H xs us Q I r h
  obtain ⟨l, bs, rfl, hq, q⟩ := h
  obtain ⟨u, rfl, ru⟩ := vals1 r
  cases ru
  obtain ⟨its, rv, pl, hz⟩ := I.list hq
  have hl := pl.isList
  have hlt : l < s.heap.objs.size := by obtain ⟨_, e, _⟩ := hl; exact Heap.lt_size e
  have hlen : bs.length = its.length := by have := rv.length; simpa [blsV] using this
  refine call_all_walk (wpAny_pyIter_list hl ?_)
  refine ⟨s.heap.objs.size, [s.heap.objs.size, l], [s.heap.objs.size], its.toArray.size, _, _, fun i => (bs[i]?).getD true, rfl, Walks.list (A := X.A.in1) (I.ok.hd hc) _ l (Nat.ne_of_lt hlt) its.toArray,
    ⟨⟨_, Heap.get?_push_size _ rfl, rfl, rfl⟩, hl.push _⟩, fun i v s' Q' E' hP hQ => ?_, fun h' tk hk => ?_⟩
  · obtain ⟨b, e, rfl⟩ := bls_get rv i v (by simpa using hP)
    simp only [e, Option.getD_some] at hQ
    exact wpAny_truthy_bool hQ
  · have e : ((List.range its.toArray.size).all fun i => (bs[i]?).getD true) = bs.all id := by
      rw [List.size_toArray, ← hlen]; exact range_allB bs
    rw [e]
    refine ⟨.bl _, H, I.kept (h' := h') (t' := tk) fun b o e => ?_, rfl, q⟩
    exact hk b o (by simp; exact Nat.ne_of_lt (Heap.lt_size e)) (Heap.get?_push_of_some _ e)
end
section
variable {X : Cx} {e : Expr} {te : TE} {pos : Pos}
end
end L2
namespace L2
open PySem PySem.Spec PyProof.Rows
abbrev New (H : Hp) (o : HO) (Q : VK) : Prop := ∀ p H', H p = none → Same H H' → H' p = some o → Q (.ref p) H'
theorem Same.new {H : Hp} {p : Addr} {o : HO} (h : H p = none) : Same H (upd H p o) := fun b u e => by rw [upd_ne (ne_of_none e h)]; exact e
theorem New.to {H : Hp} {Q : VK} {o : HO} (h : New H o Q) : ∀ p, H p = none → Q (.ref p) (upd H p o) := fun p hp => h p _ hp (Same.new hp) upd_same
section
variable {X : Cx} {es : List Expr} {t : TA} {pos : Pos}
def tLstN (t : TA) : TE := fun σ H Q => t σ H fun xs H1 => xs.length ≤ sizeLine ∧ New H1 (.lst xs) Q
def tTupN (t : TA) : TE := fun σ H Q => t σ H fun xs H1 => xs.length ≤ sizeLine ∧ New H1 (.tup xs) Q
theorem pe_tupN {x1} (h : PA X es t) : PE X (.Tuple es x1 pos) (tTupN t) := by
  intro pins s σ H Q I hq
  refine wpAny_Tuple_spliced (thn (h pos pins s σ H _ I hq) fun us s1 ⟨xs, H1, I1, r, z, q⟩ => ⟨by rw [← r.length]; exact z, ?_⟩)
  refine ⟨.ref s1.heap.objs.size, upd H1 s1.heap.objs.size (.tup xs), I1.laid (t' := s1.toks) (fun b u e => Heap.get?_push_of_some _ e) (Nat.le_refl _) ?_, rfl, New.to q _ (I1.hok.fresh (Nat.le_refl _))⟩
  exact ⟨z, us, r, ⟨_, Heap.get?_push_size _ rfl, rfl, _, rfl⟩⟩
theorem pe_lstN (h : PA X es t) : PE X (.List es pos) (tLstN t) := by
  intro pins s σ H Q I hq
  refine wpAny_List_spliced (thn (h pos pins s σ H _ I hq) fun us s1 ⟨xs, H1, I1, r, z, q⟩ => ⟨by rw [← r.length]; exact z, ?_⟩)
  refine ⟨.ref s1.heap.objs.size, upd H1 s1.heap.objs.size (.lst xs), I1.laid (t' := s1.toks) (fun b u e => Heap.get?_push_of_some _ e) (Nat.le_refl _) ?_, rfl, New.to q _ (I1.hok.fresh (Nat.le_refl _))⟩
  exact ⟨z, us, 0, r, Heap.get?_push_size _ rfl⟩
def rSlN (K : PySem.W.Frag) : V → Option Int → Option Int → Hp → VK → Prop := fun x lo hi H Q => ∃ a xs, x = .ref a ∧ SqL K H a xs ∧ New H (.lst (cutV xs lo hi)) Q
theorem sl_listN : SlR X (rSlN X.K) := by
  intro pins s σ H x v vl vu lo hi sl Q I rx hs pl pu h
  obtain ⟨a, xs, e, h1, h2⟩ := h
  exact sl_list pins s σ H x v vl vu lo hi sl Q I rx hs pl pu ⟨a, xs, e, h1, New.to h2⟩
theorem call_listN : CallR X (.type "list") (fun xs H Q => ∃ p ys, xs = [.ref p] ∧ (SqL X.K H p ys ∨ SqT X.K H p ys) ∧ New H (.lst ys) Q) := by
  intro pins s σ H xs us Q I r h
  obtain ⟨p, ys, e, h1, h2⟩ := h
  exact call_list_of pins s σ H xs us Q I r ⟨p, ys, e, h1, New.to h2⟩
theorem call_tupleN : CallR X (.type "tuple") (fun xs H Q => ∃ p ys, xs = [.ref p] ∧ SqL X.K H p ys ∧ New H (.tup ys) Q) := by
  intro pins s σ H xs us Q I r h
  obtain ⟨p, ys, e, h1, h2⟩ := h
  exact call_tuple_of pins s σ H xs us Q I r ⟨p, ys, e, .inl ⟨h1, New.to h2⟩⟩
end
def tTru (K : PySem.W.Frag) (ta : TE) : TT := fun σ H Q => ta σ H fun x H' => ∃ k, TruV K x H' k ∧ Q k H'
def rLen (K : PySem.W.Frag) : List V → Hp → VK → Prop := fun xs H Q => ∃ x n, xs = [x] ∧ LenV K x H n ∧ Q (.int n) H
def rAll (K : PySem.W.Frag) : List V → Hp → VK → Prop := fun xs H Q => ∃ l bs, xs = [.ref l] ∧ SqL K H l (blsV bs) ∧ Q (.bl (bs.all id)) H
def rListN (K : PySem.W.Frag) : List V → Hp → VK → Prop := fun xs H Q => ∃ p ys, xs = [.ref p] ∧ (SqL K H p ys ∨ SqT K H p ys) ∧ New H (.lst ys) Q
def rTupleN (K : PySem.W.Frag) : List V → Hp → VK → Prop := fun xs H Q => ∃ p ys, xs = [.ref p] ∧ SqL K H p ys ∧ New H (.tup ys) Q
section
variable {X : Cx} {a : Expr} {ta : TE}
theorem pt_tru (ha : PE X a ta) (he : ∀ whole, isTrue a X.env whole = (do let v ← whole; standAt a.pos; holding [v] (truthy v))) : PT X a (tTru X.K ta) := pt_truth ha he
theorem cl_len : CallR X (.builtin "len") (rLen X.K) := call_len
theorem cl_all (h : X.calm = true) : CallR X (.builtin "all") (rAll X.K) := call_all h
theorem cl_list : CallR X (.type "list") (rListN X.K) := call_listN
theorem cl_tuple : CallR X (.type "tuple") (rTupleN X.K) := call_tupleN
end
def rPlus : R2 := fun x y H Q => match x, y with
  | .int i, .int j => Q (.int (i + j)) H
  | .str i, .str j => i.length + j.length ≤ sizeLine ∧ Q (.str (i ++ j)) H
  | .ref l, .ref b => ∃ xs zs, H l = some (.lst xs) ∧ H b = some (.lst zs) ∧ xs.length + zs.length ≤ sizeLine ∧ New H (.lst (xs ++ zs)) Q
  | _, _ => False
def rTimes : R2 := fun x y H Q => match x, y with
  | .int i, .int j => CBig i j ∧ Q (.int (i * j)) H
  | .str z, .int n => MulOk z n ∧ Q (.str (Txt.mul z n)) H
  | _, _ => False
def rStr : List V → Hp → VK → Prop := fun xs H Q => match xs with
  | [.int i] => i.natAbs.log2 < 1920 ∧ Q (.str (toString i)) H
  | [.str z] => Q (.str z) H
  | _ => False
section
variable {X : Cx}
theorem op_plus : OpR X (binaryOp .Add) rPlus := by
  intro pins s σ H x y v u Q I rx ry h
  cases x with
  | int i => cases y with
    | int j => exact op_add pins s σ H _ _ v u Q I rx ry ⟨i, j, rfl, rfl, h⟩
    | _ => exact (show False from h).elim
  | str i => cases y with
    | str j => exact op_add_str pins s σ H _ _ v u Q I rx ry ⟨i, j, rfl, rfl, h⟩
    | _ => exact (show False from h).elim
  | ref l => cases y with
    | ref b =>
      obtain ⟨xs, zs, h1, h2, h3, h4⟩ := h
      exact op_cat pins s σ H _ _ v u Q I rx ry ⟨l, b, xs, zs, rfl, rfl, h1, h2, h3, New.to h4⟩
    | _ => exact (show False from h).elim
  | _ => exact (show False from h).elim
theorem op_times : OpR X (binaryOp .Mult) rTimes := by
  intro pins s σ H x y v u Q I rx ry h
  cases x with
  | int i => cases y with
    | int j => exact op_big pins s σ H _ _ v u Q I rx ry ⟨i, j, rfl, rfl, h⟩
    | _ => exact (show False from h).elim
  | str z => cases y with
    | int n =>
      obtain ⟨t, rfl⟩ := rx
      obtain ⟨t', rfl⟩ := ry
      exact SB.mul h.1 fun t2 k => ⟨.str _, H, I.tok _, ⟨_, rfl⟩, h.2⟩
    | _ => exact (show False from h).elim
  | _ => exact (show False from h).elim
theorem comp_ok {scope sc : Scope} {Nt Nf : List Str} {caps : List Nat} (hsc : X.env.scope = sc) (kind : scope.kind = .function) (nc : ∀ y ∈ scope.names, y.2 ≠ .cell) (nm : ∀ y ∈ scope.names, y.2 = .local → scope.names.lookup y.1 = some .local)
    (fr : ∀ y ∈ scope.names, y.2 = .free → sc.names.lookup y.1 = some .cell ∨ sc.names.lookup y.1 = some .free) (cap : caps.map (fun j => X.N[j]?) = Nf.map some) (vis : ∀ x ∈ Nf, scope.names.lookup x = some .free) : CompOk X scope Nt Nf caps :=
  ⟨kind, nc, nm, fun y hy h => by show X.env.scope.names.lookup y.1 = _ ∨ X.env.scope.names.lookup y.1 = _; rw [hsc]; exact fr y hy h, cap, vis⟩
abbrev LcEnd (J : It) (te : TE) (tt : TT) (caps : List Nat) (σ : St) (H : Hp) (Q : VK) : Prop := ∃ W : Nat → Nat → List V → St → Hp → Prop, (∃ m, W 0 m [] (cSt 1 caps σ) H) ∧ ∀ i m acc σ' H', W i m acc σ' H' →
  (J.stop i H' ∧ ∀ l, H' l = none → Q (.ref l) (upd H' l (.lst acc))) ∨
  (J.go i H' ∧ acc.length < sizeLine ∧ ∃ N : List V → St → Hp → Prop, (∀ ac σ2 H2, N ac σ2 H2 → ∃ m', m' < m ∧ W (i + 1) m' ac σ2 H2) ∧ ∀ x H2, J.yld i H' x H2 → gName 0 x σ' H2 fun σ3 H3 => tt σ3 H3 fun b H4 => if b = true then te σ3 H4 fun y H5 => N (acc ++ [y]) σ3 H5 else N acc σ3 H4)
theorem lc_any {J : It} {te : TE} {tt : TT} {caps : List Nat} {σ : St} {H : Hp} {Q : VK} (n : Nat) (hz : n ≤ sizeLine) (Pv : Nat → List V → Hp → Prop) (h0 : Pv 0 [] H) (hl : ∀ i acc H, Pv i acc H → acc.length ≤ i)
    (hgo : ∀ i acc H, i < n → Pv i acc H → J.go i H) (hst : ∀ acc H, Pv n acc H → J.stop n H)
    (hs : ∀ i x acc H H2, i < n → Pv i acc H → J.yld i H x H2 → tt (some x :: capV caps σ) H2 fun b H4 => if b = true then te (some x :: capV caps σ) H4 fun y H5 => Pv (i + 1) (acc ++ [y]) H5 else Pv (i + 1) acc H4)
    (hd : ∀ acc H, Pv n acc H → New H (.lst acc) Q) : LcEnd J te tt caps σ H Q := by
  refine ⟨fun i m acc σ' H => m = n - i ∧ i ≤ n ∧ (∃ v, σ' = v :: capV caps σ) ∧ Pv i acc H, ⟨n, by simp, Nat.zero_le _, ⟨none, rfl⟩, h0⟩, ?_⟩
  rintro i m acc σ' H' ⟨rfl, hi, ⟨v, rfl⟩, p⟩
  by_cases hlt : i < n
  · refine .inr ⟨hgo i acc H' hlt p, ?_, fun ac σ2 H2 => (∃ v, σ2 = v :: capV caps σ) ∧ Pv (i + 1) ac H2, fun ac σ2 H2 ⟨e, p'⟩ => ⟨n - (i + 1), by omega, rfl, hlt, e, p'⟩, fun x H2 y => ?_⟩
    · have := hl i acc H' p
      omega
    · have eN : ∀ ac H5, ((∃ u, some x :: capV caps σ = u :: capV caps σ) ∧ Pv (i + 1) ac H5) = Pv (i + 1) ac H5 := fun ac H5 => propext ⟨And.right, fun p => ⟨⟨_, rfl⟩, p⟩⟩
      show tt (some x :: capV caps σ) H2 fun b H4 => if b = true then te (some x :: capV caps σ) H4 fun y H5 => ((∃ u, some x :: capV caps σ = u :: capV caps σ) ∧ Pv (i + 1) (acc ++ [y]) H5) else ((∃ u, some x :: capV caps σ = u :: capV caps σ) ∧ Pv (i + 1) acc H4)
      simp only [eN]
      exact hs i x acc H' H2 hlt p y
  · have e : i = n := by omega
    subst e
    exact .inl ⟨hst acc H' p, New.to (hd acc H' p)⟩
theorem lc_list {K : PySem.W.Frag} {a : Addr} {xs : List V} {te : TE} {tt : TT} {caps : List Nat} {σ : St} {H : Hp} {Q : VK} (hz : xs.length ≤ sizeLine) (Pv : Nat → List V → Hp → Prop) (h0 : Pv 0 [] H) (hl : ∀ i acc H, Pv i acc H → acc.length ≤ i ∧ SqL K H a xs)
    (hs : ∀ i x acc H, xs[i]? = some x → Pv i acc H → tt (some x :: capV caps σ) H fun b H4 => if b = true then te (some x :: capV caps σ) H4 fun y H5 => Pv (i + 1) (acc ++ [y]) H5 else Pv (i + 1) acc H4)
    (hd : ∀ acc H, Pv xs.length acc H → New H (.lst acc) Q) : LcEnd (Itl K a) te tt caps σ H Q := by
  refine lc_any xs.length hz Pv h0 (fun i acc H p => (hl i acc H p).1) (fun i acc H hi p => ⟨xs, xs[i], (hl i acc H p).2, by simp [hi]⟩) (fun acc H p => ⟨xs, (hl _ acc H p).2, Nat.le_refl _⟩) ?_ hd
  rintro i x acc H1 H2 hi p ⟨rfl, y⟩
  exact hs i x acc _ (y xs (hl i acc _ p).2) p
theorem lc_tup {K : PySem.W.Frag} {a : Addr} {xs : List V} {te : TE} {tt : TT} {caps : List Nat} {σ : St} {H : Hp} {Q : VK} (hz : xs.length ≤ sizeLine) (Pv : Nat → List V → Hp → Prop) (h0 : Pv 0 [] H) (hl : ∀ i acc H, Pv i acc H → acc.length ≤ i ∧ SqT K H a xs)
    (hs : ∀ i x acc H, xs[i]? = some x → Pv i acc H → tt (some x :: capV caps σ) H fun b H4 => if b = true then te (some x :: capV caps σ) H4 fun y H5 => Pv (i + 1) (acc ++ [y]) H5 else Pv (i + 1) acc H4)
    (hd : ∀ acc H, Pv xs.length acc H → New H (.lst acc) Q) : LcEnd (Itt K a) te tt caps σ H Q := by
  refine lc_any xs.length hz Pv h0 (fun i acc H p => (hl i acc H p).1) (fun i acc H hi p => ⟨xs, xs[i], (hl i acc H p).2, by simp [hi]⟩) (fun acc H p => ⟨xs, (hl _ acc H p).2, Nat.le_refl _⟩) ?_ hd
  rintro i x acc H1 H2 hi p ⟨rfl, y⟩
  exact hs i x acc _ (y xs (hl i acc _ p).2) p
theorem lc_range {lo : Int} {n : Nat} {te : TE} {tt : TT} {caps : List Nat} {σ : St} {H : Hp} {Q : VK} (hz : n ≤ sizeLine) (Pv : Nat → List V → Hp → Prop) (h0 : Pv 0 [] H) (hl : ∀ i acc H, Pv i acc H → acc.length ≤ i)
    (hs : ∀ i acc H, i < n → Pv i acc H → tt (some (.int (lo + i)) :: capV caps σ) H fun b H4 => if b = true then te (some (.int (lo + i)) :: capV caps σ) H4 fun y H5 => Pv (i + 1) (acc ++ [y]) H5 else Pv (i + 1) acc H4)
    (hd : ∀ acc H, Pv n acc H → New H (.lst acc) Q) : LcEnd (Itr lo n) te tt caps σ H Q := by
  refine lc_any n hz Pv h0 hl (fun i acc H hi p => hi) (fun acc H p => Nat.le_refl _) ?_ hd
  rintro i x acc H1 H2 hi p ⟨rfl, rfl⟩
  exact hs i acc _ hi p
end
end L2
namespace L2
open PySem
theorem ex_some_and {α : Type} {a : α} {p : α → Prop} : (∃ v, some (some a) = some (some v) ∧ p v) ↔ p a := ⟨fun ⟨_, e, h⟩ => by cases e; exact h, fun h => ⟨a, rfl, h⟩⟩
def ForEnd (J : It) (g : TG) (tb : TS) (D : Ends) (σ : St) (H1 : Hp) : Prop := ∃ W : Nat → Nat → St → Hp → Prop, (∃ m, W 0 m σ H1) ∧ ∀ i m σ H, W i m σ H →
  (J.stop i H ∧ D.nx σ H) ∨ (J.go i H ∧ ∃ N : St → Hp → Prop, (∀ σ' H', N σ' H' → ∃ m', m' < m ∧ W (i + 1) m' σ' H') ∧ ∀ x H', J.yld i H x H' → g x σ H' fun σ2 H2 => tb { D with nx := N, ct := N, bk := D.nx } σ2 H2)
def CompEnd (J : It) (g : TG) (tt : TT) (te : TE) (n : Nat) (caps : List Nat) (σ : St) (H : Hp) (Q : VK) : Prop := ∃ W : Nat → Nat → List V → St → Hp → Prop, (∃ m, W 0 m [] (cSt n caps σ) H) ∧ ∀ i m acc σ' H', W i m acc σ' H' →
  (J.stop i H' ∧ ∀ l, H' l = none → Q (.ref l) (upd H' l (.lst acc))) ∨
  (J.go i H' ∧ acc.length < sizeLine ∧ ∃ N : List V → St → Hp → Prop, (∀ ac σ2 H2, N ac σ2 H2 → ∃ m', m' < m ∧ W (i + 1) m' ac σ2 H2) ∧ ∀ x H2, J.yld i H' x H2 → g x σ' H2 fun σ3 H3 => tt σ3 H3 fun b H4 => if b = true then te σ3 H4 fun y H5 => N (acc ++ [y]) σ3 H5 else N acc σ3 H4)
section
variable {K : PySem.W.Frag} {a : Addr} {xs : List V} {te : TE} {tt : TT} {caps : List Nat} {σ : St} {H : Hp} {Q : VK} {z : Str} {lo : Int} {n : Nat}
theorem cc_list (hz : xs.length ≤ sizeLine) (Pv : Nat → List V → Hp → Prop) (h0 : Pv 0 [] H) (hl : ∀ i acc H, Pv i acc H → acc.length ≤ i ∧ SqL K H a xs)
    (hs : ∀ i x acc H, xs[i]? = some x → Pv i acc H → tt (some x :: capV caps σ) H fun b H4 => if b = true then te (some x :: capV caps σ) H4 fun y H5 => Pv (i + 1) (acc ++ [y]) H5 else Pv (i + 1) acc H4)
    (hd : ∀ acc H, Pv xs.length acc H → New H (.lst acc) Q) : CompEnd (Itl K a) (gName 0) tt te 1 caps σ H Q := lc_list hz Pv h0 hl hs hd
theorem cc_tup (hz : xs.length ≤ sizeLine) (Pv : Nat → List V → Hp → Prop) (h0 : Pv 0 [] H) (hl : ∀ i acc H, Pv i acc H → acc.length ≤ i ∧ SqT K H a xs)
    (hs : ∀ i x acc H, xs[i]? = some x → Pv i acc H → tt (some x :: capV caps σ) H fun b H4 => if b = true then te (some x :: capV caps σ) H4 fun y H5 => Pv (i + 1) (acc ++ [y]) H5 else Pv (i + 1) acc H4)
    (hd : ∀ acc H, Pv xs.length acc H → New H (.lst acc) Q) : CompEnd (Itt K a) (gName 0) tt te 1 caps σ H Q := lc_tup hz Pv h0 hl hs hd
theorem cc_range (hz : n ≤ sizeLine) (Pv : Nat → List V → Hp → Prop) (h0 : Pv 0 [] H) (hl : ∀ i acc H, Pv i acc H → acc.length ≤ i)
    (hs : ∀ i acc H, i < n → Pv i acc H → tt (some (.int (lo + i)) :: capV caps σ) H fun b H4 => if b = true then te (some (.int (lo + i)) :: capV caps σ) H4 fun y H5 => Pv (i + 1) (acc ++ [y]) H5 else Pv (i + 1) acc H4)
    (hd : ∀ acc H, Pv n acc H → New H (.lst acc) Q) : CompEnd (Itr lo n) (gName 0) tt te 1 caps σ H Q := lc_range hz Pv h0 hl hs hd
end
theorem cxOf_K {CX : CXT} {P : Program} {w : World} {K : PySem.W.Frag} {mg : Str → Option Value} {base : Heap} {N : List Str} {qual : Str} {scope : Scope} {f : Addr} {cd : Value} {A : Around} {outer : List Env} {s : Shared} {H : Hp} {E : XK} :
    (cxOf CX P w K mg base N qual scope f cd A outer s H E).K = K := rfl
theorem cxC_K {X : Cx} {N : List Str} {scope : Scope} {cl : List (Str × Addr)} {C : Addr} {s0 : Shared} {H0 : Hp} {ex : List Addr} : (cxC X N scope cl C s0 H0 ex).K = X.K := rfl
section
variable {X : Cx}
theorem kix_list (K : PySem.W.Frag) (hK : X.K = K := by rfl) : IxR X (rIxL K) := hK ▸ ix_list
theorem kix_tup (K : PySem.W.Frag) (hK : X.K = K := by rfl) : IxR X (rIxT K) := hK ▸ ix_tup
theorem ksl_list (K : PySem.W.Frag) (hK : X.K = K := by rfl) : SlR X (rSlN K) := hK ▸ sl_listN
theorem kcl_len (K : PySem.W.Frag) (hK : X.K = K := by rfl) : CallR X (.builtin "len") (rLen K) := hK ▸ cl_len
theorem kcl_all (K : PySem.W.Frag) (h : X.calm = true := by rfl) (hK : X.K = K := by rfl) : CallR X (.builtin "all") (rAll K) := hK ▸ cl_all h
theorem kcl_list (K : PySem.W.Frag) (hK : X.K = K := by rfl) : CallR X (.type "list") (rListN K) := hK ▸ cl_list
theorem kcl_tuple (K : PySem.W.Frag) (hK : X.K = K := by rfl) : CallR X (.type "tuple") (rTupleN K) := hK ▸ cl_tuple
theorem kpt_tru (K : PySem.W.Frag) {a : Expr} {ta : TE} (ha : PE X a ta) (he : ∀ whole, isTrue a X.env whole = (do let v ← whole; standAt a.pos; holding [v] (truthy v))) (hK : X.K = K := by rfl) : PT X a (tTru K ta) := hK ▸ pt_tru ha he
theorem kpi_list (K : PySem.W.Frag) {tg l : Expr} {tl : TE} (hl : PE X l tl) (hK : X.K = K := by rfl) : PI X tg l (iList K tl) := hK ▸ pi_list hl
theorem kpi_tup (K : PySem.W.Frag) {tg l : Expr} {tl : TE} (hl : PE X l tl) (hK : X.K = K := by rfl) : PI X tg l (iTup K tl) := hK ▸ pi_tup hl
theorem kpg_tup (K : PySem.W.Frag) {pos : Pos} {es : List Expr} {k : Nat} {t : TGs} {n : Nat} (hc : X.calm = true) (h : PGs X es t) (hn : (assignEach es X.env).length = n := by rfl) (hst : (assignEach es X.env).findIdx? (·.1) = none := by rfl) (hK : X.K = K := by rfl) :
    PG X (.Tuple es k pos) (gTup K n t) := hK ▸ pg_tup hc h hn hst
theorem kpe_bm (K : PySem.W.Frag) {o e : Expr} {es : List Expr} {to : TE} {t : TA} {name : Str} {apos cpos : Pos} {T id : String} {r : V → List V → Hp → VK → Prop} (pa : PlainAttrs T) (slot : Slot T name id) (hty : typeOf (.builtin id) = pure (.type "method_descriptor")) (hm : MtR X id r) (ho : PE X o to) (ha : PA X (e :: es) t)
    (hbase : attributeBase o name X.env (eval o X.env) = eval o X.env := by rfl)
    (hfew : ((backTo cpos (starEach (e :: es) X.env)).all (fun x => !x.1) && (backToKw cpos (keywordEach [] X.env)).all (fun x => x.1.isSome) && decide ((e :: es).length + ([] : List Keyword).length + (if ([] : List Keyword).isEmpty then 0 else 1) < 30)) = true := by rfl)
    (hline : (apos.endLine == cpos.line) = true := by rfl) (hs : starEach (e :: es) X.env = (false, eval e X.env) :: starEach es X.env := by rfl) (hplain : (backTo cpos (starEach es X.env)).any (·.1) = false := by rfl) (hK : X.K = K := by rfl) :
    PE X (.Call (.Attribute o name apos) (e :: es) [] cpos) (tBM K T r to t) := hK ▸ pe_bm pa slot hty hm ho ha hbase hfew hline hs hplain
end
theorem bb_len : bootBuiltins "len" = some (.builtin "len") := by decide +kernel
theorem bb_all : bootBuiltins "all" = some (.builtin "all") := by decide +kernel
theorem bb_sorted : bootBuiltins "sorted" = some (.builtin "sorted") := by decide +kernel
theorem bb_sum : bootBuiltins "sum" = some (.builtin "sum") := by decide +kernel
theorem bb_min : bootBuiltins "min" = some (.builtin "min") := by decide +kernel
theorem bb_max : bootBuiltins "max" = some (.builtin "max") := by decide +kernel
theorem bb_list : bootBuiltins "list" = some (.type "list") := by decide +kernel
theorem bb_tuple : bootBuiltins "tuple" = some (.type "tuple") := by decide +kernel
theorem bb_set : bootBuiltins "set" = some (.type "set") := by decide +kernel
end L2
namespace L2
open PySem
end L2
local macro_rules | `(tactic| walk_at "rd") => `(tactic| simp only [L2.tCB, L2.tCons, L2.tNil, L2.tVar, L2.rStr, L2.tNoIf, L2.capV, List.map_nil, List.getElem?_cons_zero, L2.ex_some_and, if_true])
namespace L2
open PySem
theorem le_line {n : Nat} (h : n ≤ 1000000) : n ≤ sizeLine := Nat.le_trans h (by decide)
theorem cut_from {ns : List Int} {j k : Nat} : cutV (ns.map V.int) (some (j : Int)) (some (k : Int)) = ((ns.drop j).take (k - j)).map V.int := by
  unfold cutV
  rw [HT.sIx_nat, HT.sIx_nat, List.length_map, List.map_take, List.map_drop]
  by_cases hj : j ≤ ns.length
  · rw [Nat.min_eq_left hj]
    by_cases h : k ≤ ns.length
    · rw [Nat.min_eq_left h]
    · rw [Nat.min_eq_right (by omega), List.take_of_length_le (by simp), List.take_of_length_le (by simp; omega)]
  · have hj' : min j ns.length = ns.length := by omega
    rw [hj', List.drop_of_length_le (by simp), List.drop_of_length_le (l := ns.map V.int) (i := j) (by simp; omega)]
    simp
end L2
namespace L2
open PySem
theorem nox_K {X : Cx} : X.nox.K = X.K := rfl
theorem wish_K {X : Cx} {E : Value → Shared → Prop} : (X.wish E).K = X.K := rfl
section
variable {σ : St} {H : Hp} {Q : VK} {D : Ends} {nn bb cc : St → Hp → Prop} {rr : VK} {t u : TS} {ta tb tc te : TE} {tA tB : TT} {g : TG} {QT : Bool → Hp → Prop} {QA : List V → Hp → Prop} {QS : St → Hp → Prop}
theorem i_seq (h : t ⟨u ⟨nn, rr, bb, cc⟩, rr, bb, cc⟩ σ H) : tSeq t u ⟨nn, rr, bb, cc⟩ σ H := h
theorem i_asg (h : te σ H fun x H1 => g x σ H1 nn) : tAsg te g ⟨nn, rr, bb, cc⟩ σ H := h
theorem i_name {i : Nat} {v : V} (h : QS (σ.set i (some v)) H) : gName i v σ H QS := h
theorem i_var {i : Nat} {v : V} (e : σ[i]? = some (some v)) (h : Q v H) : tVar i σ H Q := ⟨v, e, h⟩
theorem i_c {v : V} (h : Q v H) : tC v σ H Q := h
theorem i_op {r : R2} (h : ta σ H fun x H1 => tb σ H1 fun y H2 => r x y H2 Q) : tOp r ta tb σ H Q := h
theorem i_un {r : V → Hp → VK → Prop} (h : ta σ H fun x H1 => r x H1 Q) : tUn r ta σ H Q := h
theorem i_rU {f : Int → V} {i : Int} (h : Q (f i) H) : rU f (.int i) H Q := ⟨i, rfl, h⟩
theorem i_rI {C : Int → Int → Prop} {f : Int → Int → V} {i j : Int} (c : C i j) (h : Q (f i j) H) : rI C f (.int i) (.int j) H Q := ⟨i, j, rfl, rfl, c, h⟩
theorem i_rI0 {f : Int → Int → V} {i j : Int} (h : Q (f i j) H) : rI0 f (.int i) (.int j) H Q := ⟨i, j, rfl, rfl, h⟩
theorem i_plusI {i j : Int} (h : Q (.int (i + j)) H) : rPlus (.int i) (.int j) H Q := h
theorem i_plusL {l b : Addr} {xs zs : List V} (h1 : H l = some (.lst xs)) (h2 : H b = some (.lst zs)) (z : xs.length + zs.length ≤ sizeLine) (h : New H (.lst (xs ++ zs)) Q) : rPlus (.ref l) (.ref b) H Q := ⟨xs, zs, h1, h2, z, h⟩
theorem i_timesI {i j : Int} (c : CBig i j) (h : Q (.int (i * j)) H) : rTimes (.int i) (.int j) H Q := ⟨c, h⟩
theorem decI (i j : Int) : decide (V.int i = V.int j) = decide (i = j) := by rw [Bool.eq_iff_iff]; simp
theorem i_eqI {i j : Int} (h : Q (.bl (decide (i = j))) H) : rEq (.int i) (.int j) H Q := ⟨rfl, by rw [decI]; exact h⟩
theorem i_neI {i j : Int} (h : Q (.bl (!decide (i = j))) H) : rNe (.int i) (.int j) H Q := ⟨rfl, by rw [decI]; exact h⟩
theorem i_test (h : te σ H fun x H' => ∃ k, x = .bl k ∧ QT k H') : tTest te σ H QT := h
theorem i_bl {k : Bool} {p : Bool → Prop} (h : p k) : ∃ j, V.bl k = V.bl j ∧ p j := ⟨k, rfl, h⟩
theorem i_ifS (h : tA σ H fun b H1 => if b = true then t D σ H1 else u D σ H1) : tIfS tA t u D σ H := h
theorem i_if (h : tA σ H fun b H1 => if b = true then ta σ H1 Q else tb σ H1 Q) : tIf tA ta tb σ H Q := h
theorem i_ret (h : te σ H rr) : tRet te ⟨nn, rr, bb, cc⟩ σ H := h
theorem i_next (h : nn σ H) : tNext ⟨nn, rr, bb, cc⟩ σ H := h
theorem i_drop (h : te σ H fun _ H1 => nn σ H1) : tDrop te ⟨nn, rr, bb, cc⟩ σ H := h
theorem i_cons {tr : TA} (h : te σ H fun x H1 => tr σ H1 fun xs H2 => QA (x :: xs) H2) : tCons te tr σ H QA := h
theorem i_nil (h : QA [] H) : tNil σ H QA := h
theorem i_cb {r : List V → Hp → VK → Prop} {ts : TA} (h : ts σ H fun vs H1 => r vs H1 Q) : tCB r ts σ H Q := h
theorem i_call {sp : Sp} {dvs : List V} {E : XK} {ts : TA} (h : ts σ H fun vs H1 => sp (vs ++ dvs) H1 Q E) : tCall sp dvs E ts σ H Q := h
theorem i_lst {ts : TA} (h : ts σ H fun xs H1 => xs.length ≤ sizeLine ∧ New H1 (.lst xs) Q) : tLstN ts σ H Q := h
theorem i_tup {ts : TA} (h : ts σ H fun xs H1 => xs.length ≤ sizeLine ∧ New H1 (.tup xs) Q) : tTupN ts σ H Q := h
theorem i_szA {n : Nat} {P : Prop} (h : n ≤ sizeLine) (p : P) : n ≤ sizeLine ∧ P := ⟨h, p⟩
theorem i_rgA {j : Int} {P : Prop} (h : -(2 ^ 62) ≤ j) (h' : j < 2 ^ 62) (p : P) : -(2 ^ 62) ≤ j ∧ j < 2 ^ 62 ∧ P := ⟨h, h', p⟩
theorem i_noIf (h : QT true H) : tNoIf σ H QT := h
theorem i_not (h : tA σ H fun c H1 => QT (!c) H1) : tNot tA σ H QT := h
theorem i_and (h : tA σ H fun c H1 => if c = true then tB σ H1 QT else QT false H1) : tAnd tA tB σ H QT := h
theorem i_or (h : tA σ H fun c H1 => if c = true then QT true H1 else tB σ H1 QT) : tOr tA tB σ H QT := h
theorem i_andV (h : ta σ H fun x H1 => ∃ c, x = .bl c ∧ if c = true then tb σ H1 Q else Q (.bl false) H1) : tAndV ta tb σ H Q := h
theorem i_for {wi : TI} (h : wi σ H fun J H1 => ForEnd J g t D σ H1) : tFor wi g t D σ H := h
theorem i_lc {wi : TI} {n : Nat} {caps : List Nat} (h : wi σ H fun J H1 => CompEnd J g tA te n caps σ H1 Q) : tLC wi g tA te n caps σ H Q := h
theorem i_rng1 {R : It → Hp → Prop} {ts : TA} (h : ts σ H fun vs H1 => ∃ j : Int, vs = [.int j] ∧ -(2 ^ 62) ≤ j ∧ j < 2 ^ 62 ∧ R (Itr 0 j.toNat) H1) : iRng1 ts σ H R := h
theorem i_iList {K : PySem.W.Frag} {R : It → Hp → Prop} (h : te σ H fun x H1 => ∃ a, x = .ref a ∧ (∃ xs, SqL K H1 a xs) ∧ R (Itl K a) H1) : iList K te σ H R := h
theorem i_iTup {K : PySem.W.Frag} {R : It → Hp → Prop} (h : te σ H fun x H1 => ∃ a, x = .ref a ∧ (∃ xs, SqT K H1 a xs) ∧ R (Itt K a) H1) : iTup K te σ H R := h
theorem i_rng {j : Int} {p : Int → Prop} (h : p j) : ∃ i : Int, [V.int j] = [V.int i] ∧ p i := ⟨j, rfl, h⟩
theorem i_ref {a : Addr} {p : Addr → Prop} (h : p a) : ∃ b, V.ref a = V.ref b ∧ p b := ⟨a, rfl, h⟩
theorem i_bm {K : PySem.W.Frag} {T : String} {r : V → List V → Hp → VK → Prop} {to : TE} {ts : TA} (h : to σ H fun x H1 => tyV K T x H1 ∧ ts σ H1 fun xs H2 => r x xs H2 Q) : tBM K T r to ts σ H Q := h
theorem i_ixL {K : PySem.W.Frag} {p : Addr} {xs : List V} {i : Int} {v : V} (h1 : SqL K H p xs) (h2 : atI xs i = some v) (h : Q v H) : rIxL K (.ref p) (.int i) H Q := ⟨p, xs, i, v, rfl, rfl, h1, h2, h⟩
theorem i_ixT {K : PySem.W.Frag} {p : Addr} {xs : List V} {i : Int} {v : V} (h1 : SqT K H p xs) (h2 : atI xs i = some v) (h : Q v H) : rIxT K (.ref p) (.int i) H Q := ⟨p, xs, i, v, rfl, rfl, h1, h2, h⟩
theorem i_sl {r : V → Option Int → Option Int → Hp → VK → Prop} {tl th : TO} (h : te σ H fun x H1 => tl σ H1 fun l H2 => th σ H2 fun u H3 => r x l u H3 Q) : tSl r te tl th σ H Q := h
theorem i_nopart {QO : Option Int → Hp → Prop} (h : QO none H) : tNoPart σ H QO := h
theorem i_part {QO : Option Int → Hp → Prop} (h : te σ H fun x H1 => ∃ i, x = .int i ∧ QO (some i) H1) : tPart te σ H QO := h
theorem i_ix1 {i : Int} {p : Int → Prop} (h : p i) : ∃ j, V.int i = V.int j ∧ p j := ⟨i, rfl, h⟩
theorem i_slL {K : PySem.W.Frag} {a : Addr} {xs : List V} {lo hi : Option Int} (h1 : SqL K H a xs) (h : New H (.lst (cutV xs lo hi)) Q) : rSlN K (.ref a) lo hi H Q := ⟨a, xs, rfl, h1, h⟩
theorem i_itT {A B : Prop} (h : A) : if true = true then A else B := iteT h
theorem i_itF {A B : Prop} (h : B) : if false = true then A else B := iteF h
theorem i_itnT {A B : Prop} (h : B) : if (!true) = true then A else B := iteF h
theorem i_itnF {A B : Prop} (h : A) : if (!false) = true then A else B := iteT h
theorem i_itDT {c A B : Prop} [Decidable c] (hc : c) (h : A) : if decide c = true then A else B := by rw [decide_eq_true hc]; exact iteT h
theorem i_itDF {c A B : Prop} [Decidable c] (hc : ¬ c) (h : B) : if decide c = true then A else B := by rw [decide_eq_false hc]; exact iteF h
theorem i_chain {r r' : R2} (h : ta σ H fun x H1 => tb σ H1 fun y H2 => r x y H2 fun z H3 => ∃ k, z = .bl k ∧ (if k = true then tc σ H3 fun w' H4 => r' y w' H4 Q else Q (.bl false) H3)) : tChain r r' ta tb tc σ H Q := h
theorem i_asgT {K : PySem.W.Frag} {n : Nat} {ts : TGs} {a : Addr} {xs : List V} (h1 : SqT K H a xs) (h2 : xs.length = n) (h : ts xs σ H QS) : gTup K n ts (.ref a) σ H QS := ⟨a, xs, rfl, h1, h2, h⟩
theorem i_gnil (h : QS σ H) : gNil [] σ H QS := ⟨rfl, h⟩
theorem i_gcons {gt : TG} {us : TGs} {v : V} {r : List V} (h : gt v σ H fun σ' H' => us r σ' H' QS) : gCons gt us (v :: r) σ H QS := ⟨v, r, rfl, h⟩
theorem i_tru {K : PySem.W.Frag} (h : te σ H fun x H' => ∃ k, TruV K x H' k ∧ QT k H') : tTru K te σ H QT := h
theorem i_truB {K : PySem.W.Frag} {k : Bool} {p : Bool → Prop} (h : p k) : ∃ j, TruV K (.bl k) H j ∧ p j := ⟨k, rfl, h⟩
theorem i_lenL {K : PySem.W.Frag} {p : Addr} {xs : List V} (h1 : SqL K H p xs) (h : Q (.int xs.length) H) : rLen K [V.ref p] H Q := ⟨_, _, rfl, .inl ⟨xs, h1, rfl⟩, h⟩
theorem i_all {K : PySem.W.Frag} {p : Addr} {bs : List Bool} (h1 : SqL K H p (blsV bs)) (h : Q (.bl (bs.all id)) H) : rAll K [V.ref p] H Q := ⟨p, bs, rfl, h1, h⟩
theorem i_listL {K : PySem.W.Frag} {p : Addr} {ys : List V} (h1 : SqL K H p ys) (h : New H (.lst ys) Q) : rListN K [.ref p] H Q := ⟨p, ys, rfl, .inl h1, h⟩
theorem i_tupleL {K : PySem.W.Frag} {p : Addr} {ys : List V} (h1 : SqL K H p ys) (h : New H (.tup ys) Q) : rTupleN K [.ref p] H Q := ⟨p, ys, rfl, h1, h⟩
end
end L2
namespace L2
open PySem PySem.Spec PyProof.Rows
section
variable {X : Cx}
end
theorem cc_pairs {K : PySem.W.Frag} {a : Addr} {xs : List V} {te : TE} {tt : TT} {caps : List Nat} {σ : St} {H : Hp} {Q : VK} (hz : xs.length ≤ sizeLine) (Pv : Nat → List V → Hp → Prop) (h0 : Pv 0 [] H) (hl : ∀ i acc H, Pv i acc H → acc.length ≤ i ∧ SqL K H a xs)
    (hs : ∀ i x acc H, xs[i]? = some x → Pv i acc H → ∃ p u v, x = .ref p ∧ SqT K H p [u, v] ∧ tt (some u :: some v :: capV caps σ) H fun b H4 => if b = true then te (some u :: some v :: capV caps σ) H4 fun y H5 => Pv (i + 1) (acc ++ [y]) H5 else Pv (i + 1) acc H4)
    (hd : ∀ acc H, Pv xs.length acc H → New H (.lst acc) Q) : CompEnd (Itl K a) (gTup K 2 (gCons (gName 0) (gCons (gName 1) gNil))) tt te 2 caps σ H Q := by
  refine ⟨fun i m acc σ' H => m = xs.length - i ∧ i ≤ xs.length ∧ (∃ u v, σ' = u :: v :: capV caps σ) ∧ Pv i acc H, ⟨xs.length, by simp, Nat.zero_le _, ⟨none, none, rfl⟩, h0⟩, ?_⟩
  rintro i m acc σ' H' ⟨rfl, hi, ⟨u0, v0, rfl⟩, p⟩
  obtain ⟨hl1, hq⟩ := hl i acc H' p
  by_cases hlt : i < xs.length
  · refine .inr ⟨⟨xs, xs[i], hq, by simp [hlt]⟩, by omega, fun ac σ2 H2 => (∃ u v, σ2 = u :: v :: capV caps σ) ∧ Pv (i + 1) ac H2, fun ac σ2 H2 ⟨e, p'⟩ => ⟨xs.length - (i + 1), by omega, rfl, hlt, e, p'⟩, fun x H2 y => ?_⟩
    obtain ⟨e, y⟩ := y
    subst e
    obtain ⟨q, u, v, rfl, hT, hst⟩ := hs i x acc _ (y xs hq) p
    have eN : ∀ ac H5, ((∃ u1 v1, some u :: some v :: capV caps σ = u1 :: v1 :: capV caps σ) ∧ Pv (i + 1) ac H5) = Pv (i + 1) ac H5 := fun ac H5 => propext ⟨And.right, fun p => ⟨⟨_, _, rfl⟩, p⟩⟩
    refine ⟨q, [u, v], rfl, hT, rfl, u, [v], rfl, v, [], rfl, rfl, ?_⟩
    show tt (some u :: some v :: capV caps σ) _ fun b H4 => if b = true then te (some u :: some v :: capV caps σ) H4 fun y H5 => ((∃ u1 v1, some u :: some v :: capV caps σ = u1 :: v1 :: capV caps σ) ∧ Pv (i + 1) (acc ++ [y]) H5) else ((∃ u1 v1, some u :: some v :: capV caps σ = u1 :: v1 :: capV caps σ) ∧ Pv (i + 1) acc H4)
    simp only [eN]
    exact hst
  · have e : i = xs.length := by omega
    subst e
    exact .inl ⟨⟨xs, hq, Nat.le_refl _⟩, New.to (hd acc H' p)⟩
section
variable {σ : St} {H : Hp} {Q : VK}
theorem i_append {l : Addr} {xs : List V} {y : V} (h1 : H l = some (.lst xs)) (hz : xs.length < sizeLine) (h : Q .non (upd H l (.lst (xs ++ [y])))) : rAppend (.ref l) [y] H Q := ⟨l, xs, y, rfl, rfl, h1, hz, h⟩
theorem i_tyL {K : PySem.W.Frag} {l : Addr} {xs : List V} {P : Prop} (h1 : SqL K H l xs) (h : P) : tyV K "list" (.ref l) H ∧ P := ⟨.inl ⟨rfl, xs, h1⟩, h⟩
end
def Tups (H H' : Hp) : Prop := ∀ b xs, H b = some (.tup xs) → H' b = some (.tup xs)
theorem Same.tups {H H' : Hp} (s : Same H H') : Tups H H' := fun b xs h => s b _ h
theorem Tups.upd {H : Hp} {l : Addr} {xs : List V} {o : HO} (h : H l = some (.lst xs)) : Tups H (upd H l o) := fun b ys e => by rw [upd_ne (ne_of e h (fun z => nomatch z))]; exact e
end L2
namespace L2
open PySem
theorem Same.updNew {H H1 : Hp} {l : Addr} {o : HO} (s : Same H H1) (h : H l = none) : Same H (upd H1 l o) := fun b u e => by rw [upd_ne (ne_of_none e h)]; exact s b u e
inductive Ex where
  | num (i : Int)
  | box (n : Str)
  | two (k : Bool) (a b : Ex)
end L2
namespace L2
open PySem PySem.Spec PyProof.Rows
end L2
namespace L2
open PySem PySem.Spec PyProof.Rows
end L2
namespace L2
open PySem
def pick (ys ws : List Str) : List Str := ws.filter fun w => decide (w ∈ ys)
end L2
namespace L2
open PySem
end L2
namespace L2
open PySem PySem.Spec PyProof.Rows
end L2
namespace L2
open PySem
inductive Tr where
  | non
  | int (i : Int)
  | str (s : Str)
  | tup (xs : List Tr)
  | lst (xs : List Tr)
mutual
def Tr.At (H : Hp) : Tr → V → List Addr → Prop
  | .non, v, fs => v = .non ∧ fs = []
  | .int i, v, fs => v = .int i ∧ fs = []
  | .str s, v, fs => v = .str s ∧ fs = []
  | .tup xs, v, fs => ∃ a vs, v = .ref a ∧ H a = some (.tup vs) ∧ Tr.Ats H xs vs fs
  | .lst xs, v, fs => ∃ a vs gs, v = .ref a ∧ H a = some (.lst vs) ∧ Tr.Ats H xs vs gs ∧ fs = a :: gs
def Tr.Ats (H : Hp) : List Tr → List V → List Addr → Prop
  | [], vs, fs => vs = [] ∧ fs = []
  | x :: xs, vs, fs => ∃ v ws f g, vs = v :: ws ∧ fs = f ++ g ∧ Tr.At H x v f ∧ Tr.Ats H xs ws g
end
def Keep (fs : List Addr) (H H' : Hp) : Prop := Tups H H' ∧ ∀ a ∈ fs, ∀ xs, H a = some (.lst xs) → H' a = some (.lst xs)
theorem Same.keep {H H' : Hp} (s : Same H H') (fs : List Addr) : Keep fs H H' := ⟨s.tups, fun a _ xs h => s a _ h⟩
theorem Keep.upd {fs : List Addr} {H : Hp} {l : Addr} {xs : List V} {o : HO} (h : H l = some (.lst xs)) (n : l ∉ fs) : Keep fs H (upd H l o) := ⟨Tups.upd h, fun a m ys e => by
  have hne : a ≠ l := fun z => n (z ▸ m)
  rw [upd_ne hne]
  exact e⟩
theorem Keep.sub {fs gs : List Addr} {H H' : Hp} (k : Keep fs H H') (h : ∀ a ∈ gs, a ∈ fs) : Keep gs H H' := ⟨k.1, fun a m => k.2 a (h a m)⟩
mutual
theorem Tr.At.mono {H H' : Hp} : ∀ {x : Tr} {v : V} {fs : List Addr}, x.At H v fs → Keep fs H H' → x.At H' v fs
  | .non, _, _, h, _ => by simpa only [Tr.At] using h
  | .int _, _, _, h, _ => by simpa only [Tr.At] using h
  | .str _, _, _, h, _ => by simpa only [Tr.At] using h
  | .tup xs, v, fs, h, k => by
    simp only [Tr.At] at h ⊢
    obtain ⟨a, vs, e, g, r⟩ := h
    exact ⟨a, vs, e, k.1 _ _ g, Tr.Ats.mono r k⟩
  | .lst xs, v, fs, h, k => by
    simp only [Tr.At] at h ⊢
    obtain ⟨a, vs, gs, e, g, r, rfl⟩ := h
    exact ⟨a, vs, gs, e, k.2 _ (by simp) _ g, Tr.Ats.mono r (k.sub fun b m => by simp [m]), rfl⟩
theorem Tr.Ats.mono {H H' : Hp} : ∀ {xs : List Tr} {vs : List V} {fs : List Addr}, Tr.Ats H xs vs fs → Keep fs H H' → Tr.Ats H' xs vs fs
  | [], _, _, h, _ => by simpa only [Tr.Ats] using h
  | x :: xs, vs, fs, h, k => by
    simp only [Tr.Ats] at h ⊢
    obtain ⟨v, ws, f, g, e, rfl, a, b⟩ := h
    exact ⟨v, ws, f, g, e, rfl, Tr.At.mono a (k.sub fun c m => by simp [m]), Tr.Ats.mono b (k.sub fun c m => by simp [m])⟩
end
theorem Tr.Ats.len {H : Hp} : ∀ {xs : List Tr} {vs : List V} {fs : List Addr}, Tr.Ats H xs vs fs → vs.length = xs.length
  | [], vs, fs, h => by
    simp only [Tr.Ats] at h
    obtain ⟨rfl, rfl⟩ := h
    rfl
  | y :: xs, vs, fs, h => by
    simp only [Tr.Ats] at h
    obtain ⟨w, ws, f, g, rfl, rfl, b, c⟩ := h
    simp [c.len]
theorem Tr.Ats.get {H : Hp} : ∀ {xs : List Tr} {vs : List V} {fs : List Addr}, Tr.Ats H xs vs fs → ∀ (i : Nat) (v : V), vs[i]? = some v → ∃ x f, xs[i]? = some x ∧ x.At H v f ∧ ∀ a ∈ f, a ∈ fs
  | [], vs, fs, h, i, v, e => by
    simp only [Tr.Ats] at h
    obtain ⟨rfl, rfl⟩ := h
    simp at e
  | y :: xs, vs, fs, h, i, v, e => by
    simp only [Tr.Ats] at h
    obtain ⟨w, ws, f, g, rfl, rfl, b, c⟩ := h
    cases i with
    | zero =>
      simp at e
      subst e
      exact ⟨y, f, rfl, b, fun a m => by simp [m]⟩
    | succ i =>
      obtain ⟨x, f', h1, h2, h3⟩ := c.get i v (by simpa using e)
      exact ⟨x, f', by simpa using h1, h2, fun a m => by simp [h3 a m]⟩
end L2
namespace L2
open PySem PySem.Spec PyProof.Rows
mutual
def Tr.h : Tr → Nat
  | .non => 0
  | .int _ => 0
  | .str _ => 0
  | .tup xs => Tr.hs xs + 1
  | .lst xs => Tr.hs xs + 1
def Tr.hs : List Tr → Nat
  | [] => 0
  | x :: xs => max x.h (Tr.hs xs)
end
theorem all_tt (n : Nat) : ((List.range n).all fun _ => true) = true := by simp
theorem in1_units (A : Around) : A.in1.units = A.units + 1 := rfl
section
variable {X : Cx} {pins : List (Addr × Obj)} {σ : St} {H : Hp} {s : Shared}
end
end L2
namespace L2
open PySem PySem.Spec PyProof.Rows
theorem isList_but {it l : Addr} {items : Array Value} {h h' : Heap} (hl : h.IsList l items) (e : Heap.ExtBut it h h') (hne : l ≠ it) : h'.IsList l items := by
  obtain ⟨o, ho, r⟩ := hl
  exact ⟨o, e l o hne ho, r⟩
section
variable {prog : Program} {w : World} {A : Around} {E : Value → Shared → Prop}
theorem draw_list {it l : Addr} {items : Array Value} (hne : l ≠ it) : ∀ (n i : Nat) (s : Shared) (Q : List Value → Shared → Prop), s.heap.IsListIter it l i → s.heap.IsList l items → i + n ≤ items.size →
    (∀ h', h'.IsListIter it l (i + n) → Heap.SameBut it s.heap h' → Q ((items.toList.drop i).take n) { s with heap := h' }) → wpAny (model prog w) A (draw (.ref it) n) Q E s
  | 0, i, s, Q, hit, _, _, hQ => by
    show wpAny _ _ (pure []) Q E s
    exact wpAny_pure (by simpa using hQ s.heap hit (Heap.SameBut.refl ..))
  | n + 1, i, s, Q, hit, ht, hle, hQ => by
    have hlt : i < items.size := by omega
    show wpAny _ _ (pyNext (.ref it) >>= _) Q E s
    refine wpAny_bind (wpAny_pyNext_list_item hit ht (x := items[i]) (by simp [hlt]) fun h1 hit1 hs1 => ?_)
    refine wpAny_bind (wpAny_holding (draw_list hne n (i + 1) _ _ hit1 (isList_but ht hs1.extBut hne) (by omega) fun h2 hit2 hs2 => wpAny_pure ?_))
    have hd : items.toList.drop i = items[i] :: items.toList.drop (i + 1) := by simp [List.drop_eq_getElem_cons, hlt]
    have := hQ h2 (by rw [show i + (n + 1) = i + 1 + n by omega]; exact hit2) (hs1.trans hs2)
    rw [hd, List.take_succ_cons] at this
    exact this
theorem unpackItems_list {s : Shared} {l : Addr} {items : Array Value} {Q : List Value → Shared → Prop} (hh : A.handled = none) (ht : s.heap.IsList l items)
    (hQ : ∀ h', Heap.ExtBut s.heap.objs.size s.heap h' → Q items.toList { s with heap := h' }) : wpAny (model prog w) A (unpackItems (.ref l) items.size none) Q E s := by
  have hlt : l ≠ s.heap.objs.size := by obtain ⟨o, ho, _⟩ := ht; exact Nat.ne_of_lt (Heap.lt_size ho)
  unfold unpackItems
  refine wpAny_bind ?_
  unfold notIterableAtAll
  refine wpAny_bind (wpAny_specialOf ht.typeIs slot_list_iter.lookup ?_)
  refine wpAny_pure ?_
  simp only [Bool.false_eq_true, if_false]
  refine wpAny_bind (wpAny_holding (wpAny_pyIter_list ht ?_))
  have hp : (s.heap.push { cls := .type "list_iterator", data := .fields #[.ref l, .int 0 0] }).IsList l items := by
    obtain ⟨o, ho, r⟩ := ht
    exact ⟨o, Heap.get?_push_of_some _ ho, r⟩
  refine wpAny_bind (wpAny_holding (draw_list hlt items.size 0 _ _ ⟨_, Heap.get?_push_size _ rfl, rfl, rfl⟩ hp (by omega) fun h1 hit1 hs1 => ?_))
  have hall : List.take items.size (List.drop 0 items.toList) = items.toList := by
    rw [List.drop_zero]; exact List.take_of_length_le (by simp)
  rw [hall, if_neg (by simp)]
  refine wpAny_bind (wpAny_holding (wpAny_pyNext_list_end hh hit1 (isList_but hp hs1.extBut hlt) (by simp) fun h2 he2 => ?_))
  simp only [Option.isSome_none, Bool.false_eq_true, if_false]
  exact wpAny_pure (hQ h2 fun b o hb e => he2 b o hb (hs1.extBut b o hb (Heap.get?_push_of_some _ e)))
end
section
variable {X : Cx} {pos : Pos}
def gLst (K : PySem.W.Frag) (n : Nat) (t : TGs) : TG := fun v σ H Q => ∃ a xs, v = .ref a ∧ SqL K H a xs ∧ xs.length = n ∧ t xs σ H Q
theorem kpg_lst (K : PySem.W.Frag) {es : List Expr} {k : Nat} {t : TGs} {n : Nat} (hc : X.calm = true) (h : PGs X es t) (hn : (assignEach es X.env).length = n := by rfl) (hst : (assignEach es X.env).findIdx? (·.1) = none := by rfl) (hK : X.K = K := by rfl) :
    PG X (.Tuple es k pos) (gLst K n t) := by
  subst hK
  intro pins s σ H v u Q I r hw
  obtain ⟨a, xs, e1, hq, hl, hw⟩ := hw
  subst e1
  cases r
  obtain ⟨its, rv, ht, hz⟩ := I.list hq
  rw [PySem.arm_assign_Tuple]
  refine wpAny_bind (wpAny_standAt ?_)
  unfold unpack
  rw [hst, show (assignEach es X.env).length = its.toArray.size by simp [hn, ← hl, rv.length]]
  refine wpAny_bind (wpAny_holding (unpackItems_list (I.ok.hd hc) ht.isList fun h' hx => ?_))
  have I1 : Inv X pins σ H { s with heap := h' } := I.kept (t' := s.toks) fun b o e => hx b o (Nat.ne_of_lt (Heap.lt_size e)) e
  exact h pins _ σ H xs _ Q I1 (by simpa using rv) hw
theorem i_asgL {K : PySem.W.Frag} {σ : St} {H : Hp} {QS : St → Hp → Prop} {n : Nat} {ts : TGs} {a : Addr} {xs : List V} (h1 : SqL K H a xs) (h2 : xs.length = n) (h : ts xs σ H QS) : gLst K n ts (.ref a) σ H QS := ⟨a, xs, rfl, h1, h2, h⟩
end
end L2
namespace L2
open PySem PySem.Spec PyProof.Rows
theorem i_extend {H : Hp} {Q : VK} {l b : Addr} {xs zs : List V} (h1 : H l = some (.lst xs)) (h2 : H b = some (.lst zs)) (hz : xs.length + zs.length ≤ sizeLine) (h : Q .non (upd H l (.lst (xs ++ zs)))) : rExtend (.ref l) [.ref b] H Q := ⟨l, b, xs, zs, rfl, rfl, h1, h2, hz, h⟩
end L2
namespace L2
open PySem
end L2
namespace L2
open PySem
end L2
namespace L2
open PySem
section
variable {H : Hp} {v : V} {fs : List Addr}
end
end L2
namespace L2
open PySem
section
variable {H : Hp} {v : V} {fs : List Addr}
end
end L2
namespace L2
open PySem PySem.Spec PyProof.Rows
section
variable {X : Cx}
end
end L2
namespace L2
def keptP (ws : List (Option Nat)) (n : Nat) : List Nat := (List.range n).filter fun i => decide (ws[i]? = some none)
def kept (ws : List (Option Nat)) : List Nat := keptP ws ws.length
end L2
namespace L2
open PySem
section
variable {prog : Program} {w : World} {K : Type} [DecidableEq K] {knd : KeyKind prog w K} {A : Around} {E : Value → Shared → Prop} {s : Shared}
end
end L2
namespace L2
open PySem
section
variable {prog : Program} {w : World} {K : Type} [DecidableEq K] {knd : KeyKind prog w K} {A : Around} {E : Value → Shared → Prop} {s : Shared}
end
end L2
namespace L2
open PySem PySem.Spec PyProof.Rows
section
variable {X : Cx} {pins : List (Addr × Obj)} {σ : St} {H : Hp} {s : Shared}
theorem Inv.turnedL {t' : Nat} {h' : Heap} {ch : List Addr} (I : Inv X pins σ H s) (k : ∀ b o, b ∉ ch → s.heap.get? b = some o → h'.get? b = some o) (hf : ∀ b ∈ ch, FpOk X pins H b) : Inv X pins σ H { s with heap := h', toks := t' } := by
  have nit : ∀ b u, H b = some u → b ∉ ch := fun b u e z => by rw [(hf b z).1] at e; cases e
  refine I.step (g' := s.gens) (d' := s.drawn) (ch := ch) (fun b hb => ⟨(hf b hb).2.2.2.1, (hf b hb).2.1, (hf b hb).2.2.2.2.1, (hf b hb).2.2.2.2.2⟩) (fun b o _ _ hc e _ => k b o hc e) (fun b o _ _ hc e _ => ⟨o.slots, k b o hc e⟩) (fun _ _ _ _ n => n)
    (fun b o hc e => ⟨o, k b o hc e⟩) (fun _ _ e => e) (fun _ _ _ e => e) (fun b ps e => ⟨#[], by rw [e]; simp⟩) (fun m hm => ?_) (fun b u e => ?_) I.bare
  · obtain ⟨o, es, ep, ho, r⟩ := hm
    exact ⟨o, es, ep, k _ o (fun z => (hf _ z).2.1 rfl) ho, r⟩
  · refine (I.hok b u e).stay (fun c v hc q => k c v ?_ q) (fun _ q => q) fun _ _ q => q
    rcases hc with z | z
    · rw [z]; exact nit b u e
    · exact nit c _ z
end
def Ite (K : PySem.W.Frag) (a : Addr) : It :=
  ⟨fun i H => ∃ xs x, SqL K H a xs ∧ xs[i]? = some x, fun i H v H' => ∃ p y, v = .ref p ∧ H p = none ∧ Same H H' ∧ H' p = some (.tup [.int (i : Nat), y]) ∧ ∀ xs, SqL K H a xs → xs[i]? = some y, fun i H => ∃ xs, SqL K H a xs ∧ xs.length ≤ i⟩
theorem turn_enum {P : Program} {w : World} {K : PySem.W.Frag} {elts : List Expr} {x1 : Nat} {pos : Pos} (a e it : Addr) (hne : e ≠ it) :
    Turn P w K (.Tuple elts x1 pos) (Ite K a) [e, it] e (fun i h => (∃ old, IsEnum h e it (i : Nat) old) ∧ h.IsListIter it a i) where
  mem := by simp
  obj := fun i h st b hb => by
    obtain ⟨⟨old, he⟩, o, e2, c, d⟩ := st
    rcases (by simpa using hb : b = e ∨ b = it) with rfl | rfl
    · exact ⟨_, he, fun v z => by cases z⟩
    · exact ⟨o, e2, fun v z => by rw [d] at z; cases z⟩
  keep := fun i h h' st k => ⟨let ⟨old, he⟩ := st.1; ⟨old, k e (by simp) _ he⟩, st.2.at fun o x => k it (by simp) o x⟩
  item := by
    intro X hP hw hK hc i pins s σ H E I hf st hg
    subst hP hw hK
    obtain ⟨xs, x, hq, hx⟩ := hg
    obtain ⟨its, rv, p, hz⟩ := I.list hq
    obtain ⟨u, hu, ru⟩ := rv.get hx
    obtain ⟨⟨old, he⟩, hit⟩ := st
    have helt : e < s.heap.objs.size := Heap.lt_size he
    have hilt : it < s.heap.objs.size := by obtain ⟨_, q, _⟩ := hit; exact Heap.lt_size q
    refine wpAny_pyNext_enum_item he hit p.isList (x := u) (by simpa using hu) hne fun h' ho hit' hT hsz hk => ?_
    have fr : H s.heap.objs.size = none := I.hok.fresh (Nat.le_refl _)
    have I1 : Inv X pins σ H { s with heap := h', toks := s.toks + 1 } := I.turnedL (ch := [e, it]) (fun b o hb q => hk b o (fun z => hb (by simp [z])) (fun z => hb (by simp [z])) q) hf
    have I2 : Inv X pins σ (upd H s.heap.objs.size (.tup [.int (i : Nat), x])) { s with heap := h', toks := s.toks + 1 } := I1.adopt (o := .tup [.int (i : Nat), x]) fr I.sz (Nat.ne_of_gt I.lt) (fun y c ec z => by
        obtain ⟨v, q⟩ := I.cell y c ec
        exact absurd q.lt (by rw [z]; exact Nat.lt_irrefl _)) (fun q hq z => absurd (Heap.lt_size (I.pin q hq).1) (by rw [z]; exact Nat.lt_irrefl _))
      ⟨le_line (by simp), [.int (i : Nat) s.toks, u], .cons ⟨_, rfl⟩ (.cons ru .nil), ⟨_, hT, rfl, _, rfl⟩⟩
    have ne : ∀ b ∈ [e, it], b ≠ s.heap.objs.size := fun b hb => by
      rcases (by simpa using hb : b = e ∨ b = it) with rfl | rfl
      · exact Nat.ne_of_lt helt
      · exact Nat.ne_of_lt hilt
    have hf2 : ∀ b ∈ [e, it], FpOk X pins (upd H s.heap.objs.size (.tup [.int (i : Nat), x])) b := fun b hb => ⟨by rw [upd_ne (ne b hb)]; exact (hf b hb).1, (hf b hb).2⟩
    refine ⟨_, rfl, wpAny_letOwnedTupleGo_enum ho fun h2 he2 hs2 => ⟨.ref s.heap.objs.size, _, I2.turnedL (t' := s.toks + 1) (ch := [e]) (fun b o hb q => (hs2.2 b (fun z => hb (by simp [z]))).trans q) (fun b hb => hf2 b (by simp at hb; simp [hb])), rfl, ⟨s.heap.objs.size, x, rfl, fr, Same.new fr, upd_same, fun ys hy => by rw [I.list_inj hy hq]; exact hx⟩, ⟨⟨_, by simpa using he2⟩, hit'.at fun o q => (hs2.2 it (Ne.symm hne)).trans q⟩, fun b hb => (hf2 b hb).1⟩⟩
  done := by
    intro X hP hw hK hc i pins s σ H E I hf st hg
    subst hP hw hK
    obtain ⟨xs, hq, hx⟩ := hg
    obtain ⟨its, rv, p, hz⟩ := I.list hq
    obtain ⟨⟨old, he⟩, hit⟩ := st
    have hl := rv.length
    exact wpAny_pyNext_enum_end (I.ok.hd hc) he hit p.isList (by simp; omega) fun h' eb => ⟨rfl, I.turnedL (t' := s.toks) (ch := [it]) (fun b o hb q => eb b o (fun z => hb (by simp [z])) q) (fun b hb => hf b (by simp at hb; simp [hb]))⟩
  self := fun A i s Q E st h => let ⟨old, he⟩ := st.1; wpAny_pyIter_enum he h
section
variable {X : Cx} {elts : List Expr} {x1 : Nat} {tpos : Pos}
def iEnum (K : PySem.W.Frag) (ta : TA) : TI := fun σ H R => ta σ H fun vs H1 => ∃ a, vs = [.ref a] ∧ (∃ xs, SqL K H1 a xs) ∧ R (Ite K a) H1
theorem pi_enum (K : PySem.W.Frag) {a : Expr} {ta : TA} {p pos : Pos} (hg : Gl X "enumerate") (hm : X.mg "enumerate" = none) (ha : PA X [a] ta) (hs : starEach [a] X.env = [(false, eval a X.env)] := by rfl) (hK : X.K = K := by rfl) : PI X (.Tuple elts x1 tpos) (.Call (.Name "enumerate" p) [a] [] pos) (iEnum K ta) := by
  subst hK
  intro pins s σ H R I h
  refine Call_ (ld_blt I hg hm boot_enumerate (PyProof.Rows.callWith_type1 (thn (ha pos pins s σ H _ I h) fun us s1 ⟨vs, H1, I1, r1, q1⟩ => ?_) hs rfl))
  obtain ⟨l, e, ⟨xs, hq⟩, q⟩ := q1
  subst e
  obtain ⟨u, rfl, ru⟩ := vals1 r1
  cases ru
  obtain ⟨its, rv, pl, hz⟩ := I1.list hq
  refine call_enumerate_list pl.isList fun h' he hit hsz hk => ?_
  refine wpAny_pyIter_enum he ?_
  refine ⟨s1.heap.objs.size + 1, [s1.heap.objs.size + 1, s1.heap.objs.size], _, _, H1, rfl, I1.kept (t' := s1.toks) hk, turn_enum l _ _ (Nat.succ_ne_self _), ⟨⟨_, he⟩, hit⟩, fun b hb => ?_, q⟩
  have hb' : s1.heap.objs.size ≤ b := by
    rcases (by simpa using hb : b = s1.heap.objs.size + 1 ∨ b = s1.heap.objs.size) with rfl | rfl <;> omega
  exact I1.fpOk hb' (I1.hok.fresh hb')
theorem i_enum {K : PySem.W.Frag} {σ : St} {H : Hp} {R : It → Hp → Prop} {ts : TA} (h : ts σ H fun vs H1 => ∃ a, vs = [.ref a] ∧ (∃ xs, SqL K H1 a xs) ∧ R (Ite K a) H1) : iEnum K ts σ H R := h
theorem i_lref {a : Addr} {p : Addr → Prop} (h : p a) : ∃ b, [V.ref a] = [V.ref b] ∧ p b := ⟨a, rfl, h⟩
end
section
variable {X : Cx}
def rMin2 : List V → Hp → VK → Prop := fun xs H Q => ∃ a b : Int, xs = [.int a, .int b] ∧ Q (.int (min a b)) H
theorem kcall_min2 (hh : X.calm = true := by rfl) : CallR X (.builtin "min") rMin2 := by
  intro pins s σ H xs us Q I r h
  obtain ⟨a, b, rfl, q⟩ := h
  obtain ⟨u, v, rfl, ⟨t1, rfl⟩, ⟨t2, rfl⟩⟩ := vals2 r
  refine min_two_ints (I.ok.hd hh) fun h' tk hk => ?_
  have I1 : Inv X pins σ H { s with heap := h', toks := tk } := I.kept hk
  by_cases c : b < a
  · rw [if_pos c]
    exact ⟨.int b, H, I1, ⟨_, rfl⟩, by rw [show min a b = b by omega] at q; exact q⟩
  · rw [if_neg c]
    exact ⟨.int a, H, I1, ⟨_, rfl⟩, by rw [show min a b = a by omega] at q; exact q⟩
theorem i_min2 {H : Hp} {Q : VK} {a b : Int} (h : Q (.int (min a b)) H) : rMin2 [.int a, .int b] H Q := ⟨a, b, rfl, h⟩
theorem cut_init (xs : List V) (y : V) : cutV (xs ++ [y]) none (some (-1)) = xs ∧ HT.sIx (xs ++ [y]).length (xs ++ [y]).length (some (-1)) = xs.length := by
  have e : HT.sIx (xs ++ [y]).length (xs ++ [y]).length (some (-1)) = xs.length := by
    unfold HT.sIx
    simp only []
    rw [if_pos (by decide), List.length_append]
    simp only [List.length_cons, List.length_nil]
    omega
  refine ⟨?_, e⟩
  unfold cutV
  rw [e, HT.sIx_none, List.drop_zero, Nat.sub_zero, List.take_left']
  rfl
def rIsN : R2 := fun x y H Q => y = .non ∧ Q (.bl (decide (x = .non))) H
theorem kop_isN : OpR X (compareOp .Is) rIsN := op_isN
theorem i_isN {x : V} {H : Hp} {Q : VK} (h : Q (.bl (decide (x = .non))) H) : rIsN x .non H Q := ⟨rfl, h⟩
theorem i_gsub {to ti : TE} {t : TSet} {v : V} {σ : St} {H : Hp} {Q : St → Hp → Prop} (h : to σ H fun o H1 => ti σ H1 fun i H2 => t o i v H2 fun H3 => Q σ H3) : gSub to ti t v σ H Q := h
theorem i_setL {H : Hp} {Q : Hp → Prop} {p : Addr} {xs : List V} {k : Int} {j : Nat} {v : V} (h1 : H p = some (.lst xs)) (h2 : ixN xs.length k = some j) (h : Q (upd H p (.lst (xs.set j v)))) : rSetL (.ref p) (.int k) v H Q := ⟨p, xs, k, j, rfl, rfl, h1, h2, h⟩
theorem rT {R : Bool → Hp → Prop} {H : Hp} {c : Prop} [Decidable c] (h : R (decide c) H) (hc : c) : R true H := by rw [decide_eq_true hc] at h; exact h
theorem i_while {c : TT} {tb : TS} {nn bb cc : St → Hp → Prop} {rr : VK} {σ : St} {H : Hp} (W : Nat → St → Hp → Prop) (m : Nat) (h0 : W m σ H)
    (hs : ∀ m σ H, W m σ H → c σ H fun b H1 => if b = true then ∃ N : St → Hp → Prop, (∀ σ' H', N σ' H' → ∃ m', m' < m ∧ W m' σ' H') ∧ tb ⟨N, rr, nn, N⟩ σ H1 else nn σ H1) : tWhile c tb ⟨nn, rr, bb, cc⟩ σ H := ⟨W, ⟨m, h0⟩, hs⟩
end
end L2
namespace L2
open PySem
section
variable {H : Hp} {x : Tr} {xs : List Tr} {v : V} {vs ws : List V}
theorem ats_nil0 : Tr.Ats H [] vs [] ↔ vs = [] := by simp [Tr.Ats]
theorem ats_cons0 : Tr.Ats H (x :: xs) vs [] ↔ ∃ v ws, vs = v :: ws ∧ x.At H v [] ∧ Tr.Ats H xs ws [] := by
  simp only [Tr.Ats]
  constructor
  · rintro ⟨v, ws, f, g, h1, h2, h3, h4⟩
    obtain ⟨rfl, rfl⟩ := List.append_eq_nil_iff.mp h2.symm
    exact ⟨v, ws, h1, h3, h4⟩
  · rintro ⟨v, ws, h1, h3, h4⟩
    exact ⟨v, ws, [], [], h1, rfl, h3, h4⟩
theorem at_tup0 : (Tr.tup xs).At H v [] ↔ ∃ a vs, v = .ref a ∧ H a = some (.tup vs) ∧ Tr.Ats H xs vs [] := by simp only [Tr.At]
theorem at_int0 {i : Int} : (Tr.int i).At H v [] ↔ v = .int i := by simp [Tr.At]
theorem at_str0 {i : Str} : (Tr.str i).At H v [] ↔ v = .str i := by simp [Tr.At]
theorem ats_app0 : ∀ {xs ys : List Tr} {vs : List V}, Tr.Ats H (xs ++ ys) vs [] ↔ ∃ us ws, vs = us ++ ws ∧ Tr.Ats H xs us [] ∧ Tr.Ats H ys ws []
  | [], ys, vs => by
    constructor
    · intro h; exact ⟨[], vs, rfl, ats_nil0.mpr rfl, h⟩
    · rintro ⟨us, ws, rfl, h1, h2⟩
      rw [ats_nil0.mp h1]
      exact h2
  | x :: xs, ys, vs => by
    constructor
    · intro h
      obtain ⟨v, ws, rfl, h1, h2⟩ := ats_cons0.mp h
      obtain ⟨us, zs, rfl, h3, h4⟩ := ats_app0.mp h2
      exact ⟨v :: us, zs, rfl, ats_cons0.mpr ⟨v, us, rfl, h1, h3⟩, h4⟩
    · rintro ⟨us, ws, rfl, h1, h2⟩
      obtain ⟨v, us', rfl, h3, h4⟩ := ats_cons0.mp h1
      exact ats_cons0.mpr ⟨v, us' ++ ws, rfl, h3, ats_app0.mpr ⟨us', ws, rfl, h4, h2⟩⟩
theorem Tr.At.same {H H' : Hp} (h : x.At H v []) (s : Same H H') : x.At H' v [] := h.mono (s.keep _)
theorem Tr.Ats.same {H H' : Hp} (h : Tr.Ats H xs vs []) (s : Same H H') : Tr.Ats H' xs vs [] := h.mono (s.keep _)
end
section
variable {H : Hp} {v : V} {a : Addr}
theorem tup2_at {x y : Tr} {u v : V} (e : H a = some (.tup [u, v])) (h : x.At H u []) (h2 : y.At H v []) : (Tr.tup [x, y]).At H (.ref a) [] := at_tup0.mpr ⟨a, _, rfl, e, ats_cons0.mpr ⟨_, _, rfl, h, ats_cons0.mpr ⟨_, _, rfl, h2, ats_nil0.mpr rfl⟩⟩⟩
theorem int_at {i : Int} : (Tr.int i).At H (.int i) [] := at_int0.mpr rfl
theorem str_at0 {i : Str} : (Tr.str i).At H (.str i) [] := at_str0.mpr rfl
end
def natsV (l : List Nat) : List V := l.map fun k => V.int (k : Nat)
theorem natsV_int (l : List Nat) : natsV l = (l.map fun (k : Nat) => (k : Int)).map V.int := by simp [natsV]
theorem natsV_len (l : List Nat) : (natsV l).length = l.length := by simp [natsV]
theorem natsV_snoc (l : List Nat) (k : Nat) : natsV l ++ [V.int (k : Nat)] = natsV (l ++ [k]) := by simp [natsV]
end L2
namespace L2
open PySem PySem.Spec PyProof.Rows
section
variable {σ : St} {H : Hp} {Q : VK} {QT : Bool → Hp → Prop} {td ty tv te : TE} {nn bb cc : St → Hp → Prop} {rr : VK}
end
end L2
namespace L2
end L2
namespace L2
open PySem PySem.Spec PyProof.Rows
section
variable {X : Cx} {σ : St} {H : Hp} {Q : VK} {QT : Bool → Hp → Prop} {td ty tv te : TE} {nn bb cc : St → Hp → Prop} {rr : VK}
def rRepN : R2 := fun x y H Q => ∃ l k xs, x = .ref l ∧ y = .int k ∧ H l = some (.lst xs) ∧ -(2 ^ 63) ≤ k ∧ k < 2 ^ 63 ∧ xs.length * k.toNat ≤ sizeLine ∧ New H (.lst (List.replicate k.toNat xs).flatten) Q
theorem kop_repN : OpR X (binaryOp .Mult) rRepN := by
  intro pins s σ H x y v u Q I rx ry h
  obtain ⟨l, k, xs, e1, e2, h1, h2, h3, h4, h5⟩ := h
  exact op_rep pins s σ H x y v u Q I rx ry ⟨l, k, xs, e1, e2, h1, h2, h3, h4, New.to h5⟩
end
end L2
namespace L2
open PySem PySem.Spec PyProof.Rows
def Itz (K : PySem.W.Frag) (a b : Addr) : It :=
  ⟨fun i H => ∃ xs ys x y, SqL K H a xs ∧ SqL K H b ys ∧ xs[i]? = some x ∧ ys[i]? = some y, fun i H v H' => ∃ p x y, v = .ref p ∧ H p = none ∧ Same H H' ∧ H' p = some (.tup [x, y]) ∧ (∀ xs, SqL K H a xs → xs[i]? = some x) ∧ ∀ ys, SqL K H b ys → ys[i]? = some y, fun i H => ∃ xs ys, SqL K H a xs ∧ SqL K H b ys ∧ (xs.length ≤ i ∨ ys.length ≤ i)⟩
theorem turn_zip {P : Program} {w : World} {K : PySem.W.Frag} {elts : List Expr} {x1 : Nat} {pos : Pos} (a b z TI TO i1 i2 : Addr) (D : ZipApart z TI TO i1 i2 a b) :
    Turn P w K (.Tuple elts x1 pos) (Itz K a b) [z, TI, TO, i1, i2] z (fun i h => IsZip h z TI TO .none ∧ IsPair h TI (.ref i1) (.ref i2) ∧ (∃ a b, IsPair h TO a b) ∧ h.IsListIter i1 a i ∧ h.IsListIter i2 b i) where
  mem := by simp
  obj := fun i h st c hc => by
    obtain ⟨hz, hTI, ⟨a, b, hTO⟩, ⟨o1, h1, _, d1⟩, o2, h2, _, d2⟩ := st
    rcases (by simpa using hc : c = z ∨ c = TI ∨ c = TO ∨ c = i1 ∨ c = i2) with rfl | rfl | rfl | rfl | rfl
    · exact ⟨_, hz, fun v q => by cases q⟩
    · exact ⟨_, hTI, fun v q => by cases q⟩
    · exact ⟨_, hTO, fun v q => by cases q⟩
    · exact ⟨_, h1, fun v q => by rw [d1] at q; cases q⟩
    · exact ⟨_, h2, fun v q => by rw [d2] at q; cases q⟩
  keep := fun i h h' st k => by
    obtain ⟨hz, hTI, ⟨a, b, hTO⟩, h1, h2⟩ := st
    exact ⟨k z (by simp) _ hz, k TI (by simp) _ hTI, ⟨a, b, k TO (by simp) _ hTO⟩, h1.at fun o x => k i1 (by simp) o x, h2.at fun o x => k i2 (by simp) o x⟩
  item := by
    intro X hP hw hK hc i pins s σ H E I hf st hg
    subst hP hw hK
    obtain ⟨xs, ys, x, y, hqa, hqb, hx, hy⟩ := hg
    obtain ⟨it1, rv1, p1, hz1⟩ := I.list hqa
    obtain ⟨it2, rv2, p2, hz2⟩ := I.list hqb
    obtain ⟨u1, hu1, ru1⟩ := rv1.get hx
    obtain ⟨u2, hu2, ru2⟩ := rv2.get hy
    obtain ⟨hz, hTI, ⟨a', b', hTO⟩, h1, h2⟩ := st
    have fr : H s.heap.objs.size = none := I.hok.fresh (Nat.le_refl _)
    have lt : ∀ c ∈ [z, TI, TO, i1, i2], c < s.heap.objs.size := fun c hc => by
      obtain ⟨o1, e1, _⟩ := h1
      obtain ⟨o2, e2, _⟩ := h2
      rcases (by simpa using hc : c = z ∨ c = TI ∨ c = TO ∨ c = i1 ∨ c = i2) with rfl | rfl | rfl | rfl | rfl
      · exact Heap.lt_size hz
      · exact Heap.lt_size hTI
      · exact Heap.lt_size hTO
      · exact Heap.lt_size e1
      · exact Heap.lt_size e2
    refine wpAny_pyNext_zip_item D hz hTI hTO h1 h2 p1.isList p2.isList (x := u1) (y := u2) (by simpa using hu1) (by simpa using hu2) fun h' a1 a2 a3 a4 a5 a6 hk => ?_
    have I1 : Inv X pins σ H { s with heap := h' } := I.turnedL (t' := s.toks) (ch := [z, TI, TO, i1, i2]) (fun c o hc q => hk c o (fun e => hc (by simp [e])) (fun e => hc (by simp [e])) (fun e => hc (by simp [e])) (fun e => hc (by simp [e])) q) hf
    have I2 : Inv X pins σ (upd H s.heap.objs.size (.tup [x, y])) { s with heap := h' } := I1.adopt (o := .tup [x, y]) fr I.sz (Nat.ne_of_gt I.lt) (fun n c ec e => by
        obtain ⟨v, q⟩ := I.cell n c ec
        exact absurd q.lt (by rw [e]; exact Nat.lt_irrefl _)) (fun q hq e => absurd (Heap.lt_size (I.pin q hq).1) (by rw [e]; exact Nat.lt_irrefl _))
      ⟨le_line (by simp), [u1, u2], .cons ru1 (.cons ru2 .nil), ⟨_, a5, rfl, _, rfl⟩⟩
    have hf2 : ∀ c ∈ [z, TI, TO, i1, i2], FpOk X pins (upd H s.heap.objs.size (.tup [x, y])) c := fun c hc => ⟨by rw [upd_ne (Nat.ne_of_lt (lt c hc))]; exact (hf c hc).1, (hf c hc).2⟩
    refine ⟨_, rfl, wpAny_letOwnedTupleGo_zip a1 fun h2' hz' hs' => ⟨.ref s.heap.objs.size, _, I2.turnedL (t' := s.toks) (ch := [z]) (fun c o hc q => (hs'.2 c (fun e => hc (by simp [e]))).trans q) (fun c hc => hf2 c (by simp at hc; simp [hc])), rfl, ⟨s.heap.objs.size, x, y, rfl, fr, Same.new fr, upd_same, fun q hq => by rw [I.list_inj hq hqa]; exact hx, fun q hq => by rw [I.list_inj hq hqb]; exact hy⟩, ⟨hz', hs'.extBut _ _ D.TIz (hk _ _ D.TIz D.TITO D.TIi1 D.TIi2 hTI), ⟨_, _, hs'.extBut _ _ D.TOz a2⟩, a3.extBut hs'.extBut D.i1z, a4.extBut hs'.extBut D.i2z⟩, fun c hc => (hf2 c hc).1⟩⟩
  done := by
    intro X hP hw hK hc i pins s σ H E I hf st hg
    subst hP hw hK
    obtain ⟨xs, ys, hqa, hqb, hx⟩ := hg
    obtain ⟨it1, rv1, p1, hz1⟩ := I.list hqa
    obtain ⟨it2, rv2, p2, hz2⟩ := I.list hqb
    obtain ⟨hz, hTI, ⟨a', b', hTO⟩, h1, h2⟩ := st
    have l1 := rv1.length
    have l2 := rv2.length
    exact wpAny_pyNext_zip_end (I.ok.hd hc) D hz hTI hTO h1 h2 p1.isList p2.isList (hx.elim (fun e => .inl (by simp; omega)) fun e => .inr (by simp; omega)) fun h' hk => ⟨rfl, I.turnedL (t' := s.toks) (ch := [z, TI, TO, i1, i2]) (fun c o hc q => hk c o (fun e => hc (by simp [e])) (fun e => hc (by simp [e])) (fun e => hc (by simp [e])) (fun e => hc (by simp [e])) q) hf⟩
  self := fun A i s Q E st h => wpAny_pyIter_zip st.1 h
section
variable {X : Cx} {elts : List Expr} {x1 : Nat} {tpos : Pos}
def iZip (K : PySem.W.Frag) (ta : TA) : TI := fun σ H R => ta σ H fun vs H1 => ∃ a b, vs = [.ref a, .ref b] ∧ (∃ xs, SqL K H1 a xs) ∧ (∃ ys, SqL K H1 b ys) ∧ R (Itz K a b) H1
theorem boot_zip0 : bootBuiltins "zip" = some (.type "zip") := by decide +kernel
theorem pi_zip (K : PySem.W.Frag) {a b : Expr} {ta : TA} {p pos : Pos} (hg : Gl X "zip") (hm : X.mg "zip" = none) (ha : PA X [a, b] ta) (hs : starEach [a, b] X.env = [(false, eval a X.env), (false, eval b X.env)] := by rfl) (hs2 : starEach [b] X.env = [(false, eval b X.env)] := by rfl) (hK : X.K = K := by rfl) :
    PI X (.Tuple elts x1 tpos) (.Call (.Name "zip" p) [a, b] [] pos) (iZip K ta) := by
  subst hK
  intro pins s σ H R I h
  refine Call_ (ld_blt I hg hm boot_zip0 (PyProof.Rows.callWith_type1 (thn (ha pos pins s σ H _ I h) fun us s1 ⟨vs, H1, I1, r1, q1⟩ => ?_) (by rw [hs, hs2]) (by rw [hs2]; rfl)))
  obtain ⟨l1, l2, e, ⟨xs, hq1⟩, ⟨ys, hq2⟩, q⟩ := q1
  subst e
  obtain ⟨u1, u2, rfl, r2, r3⟩ := vals2 r1
  cases r2
  cases r3
  obtain ⟨it1, rv1, p1, hz1⟩ := I1.list hq1
  obtain ⟨it2, rv2, p2, hz2⟩ := I1.list hq2
  have a1 : l1 < s1.heap.objs.size := by obtain ⟨_, e, _⟩ := p1.isList; exact Heap.lt_size e
  have a2 : l2 < s1.heap.objs.size := by obtain ⟨_, e, _⟩ := p2.isList; exact Heap.lt_size e
  refine call_zip_2 p1.isList p2.isList fun h' b1 b2 b3 b4 b5 b6 hk => ?_
  refine wpAny_pyIter_zip b1 ?_
  have ge : ∀ c ∈ [s1.heap.objs.size + 4, s1.heap.objs.size + 2, s1.heap.objs.size + 3, s1.heap.objs.size, s1.heap.objs.size + 1], s1.heap.objs.size ≤ c := fun c hc => by
    simp only [List.mem_cons, List.not_mem_nil, or_false] at hc
    rcases hc with rfl | rfl | rfl | rfl | rfl
    · exact Nat.le_add_right _ _
    · exact Nat.le_add_right _ _
    · exact Nat.le_add_right _ _
    · exact Nat.le_refl _
    · exact Nat.le_add_right _ _
  have fp : ∀ c ∈ [s1.heap.objs.size + 4, s1.heap.objs.size + 2, s1.heap.objs.size + 3, s1.heap.objs.size, s1.heap.objs.size + 1], FpOk X pins H1 c := fun c hc => I1.fpOk (ge c hc) (I1.hok.fresh (ge c hc))
  generalize s1.heap.objs.size = m at a1 a2 b1 b2 b3 b4 b5 b6 fp ⊢
  have D : ZipApart (m + 4) (m + 2) (m + 3) m (m + 1) l1 l2 := by
    have h1 : l1 < m := a1
    have h2 : l2 < m := a2
    constructor <;> first | exact Nat.ne_of_lt (Nat.lt_of_lt_of_le h1 (Nat.le_add_right _ _)) | exact Nat.ne_of_lt (Nat.lt_of_lt_of_le h2 (Nat.le_add_right _ _)) | exact Nat.ne_of_lt h1 | exact Nat.ne_of_lt h2 | (intro e; simp at e) | (intro e; exact absurd e (by omega))
  refine ⟨m + 4, [m + 4, m + 2, m + 3, m, m + 1], _, _, H1, rfl, I1.kept (t' := s1.toks) hk, turn_zip l1 l2 _ _ _ _ _ D, ⟨b1, b2, ⟨_, _, b3⟩, b4, b5⟩, fp, q⟩
end
end L2
namespace L2
open PySem PySem.Spec PyProof.Rows
def pl2 (k : Bool) : Option Int → Option Int → Option Int
  | some x, some y => some (if k then x + y else x - y)
  | _, _ => none
end L2
namespace L2
open PySem PySem.Spec PyProof.Rows
theorem for_zip {K : PySem.W.Frag} {a b : Addr} {xs ys : List V} {g : TG} {tb : TS} {D : Ends} {σ : St} {H : Hp} (hz : xs.length = ys.length) (Pv : Nat → St → Hp → Prop) (h0 : Pv 0 σ H) (hl : ∀ i σ H, i ≤ xs.length → Pv i σ H → SqL K H a xs ∧ SqL K H b ys)
    (hs : ∀ i x y σ H q H2, xs[i]? = some x → ys[i]? = some y → Pv i σ H → Same H H2 → H2 q = some (.tup [x, y]) → g (.ref q) σ H2 fun σ1 H1 => tb { D with nx := Pv (i + 1), ct := Pv (i + 1), bk := D.nx } σ1 H1)
    (hd : ∀ σ H, Pv xs.length σ H → D.nx σ H) : ForEnd (Itz K a b) g tb D σ H := by
  refine ⟨fun i m σ H => m = xs.length - i ∧ i ≤ xs.length ∧ Pv i σ H, ⟨xs.length, by simp, Nat.zero_le _, h0⟩, ?_⟩
  rintro i m σ' H' ⟨rfl, hi, p⟩
  obtain ⟨hq1, hq2⟩ := hl i σ' H' hi p
  by_cases hlt : i < xs.length
  · have hlt2 : i < ys.length := by omega
    refine .inr ⟨⟨xs, ys, xs[i], ys[i], hq1, hq2, by simp [hlt], by simp [hlt2]⟩, Pv (i + 1), fun σ2 H2 p' => ⟨xs.length - (i + 1), by omega, rfl, hlt, p'⟩, fun v H2 y => ?_⟩
    obtain ⟨q, x, y, rfl, hn, sm, hT, hx, hy⟩ := y
    exact hs i x y σ' H' q H2 (hx xs hq1) (hy ys hq2) p sm hT
  · have e : i = xs.length := by omega
    subst e
    exact .inl ⟨⟨xs, ys, hq1, hq2, .inl (Nat.le_refl _)⟩, hd σ' H' p⟩
theorem i_zip {K : PySem.W.Frag} {σ : St} {H : Hp} {R : It → Hp → Prop} {ts : TA} (h : ts σ H fun vs H1 => ∃ a b, vs = [.ref a, .ref b] ∧ (∃ xs, SqL K H1 a xs) ∧ (∃ ys, SqL K H1 b ys) ∧ R (Itz K a b) H1) : iZip K ts σ H R := h
end L2
namespace L2
open PySem
end L2
namespace L2
open PySem PySem.Spec PyProof.Rows
end L2
namespace L2
open PySem PySem.Spec PyProof.Rows
noncomputable instance trDec : DecidableEq Tr := fun _ _ => Classical.propDecidable _
mutual
def Tr.In (h : Heap) : Tr → Value → Prop
  | .non, u => u = .none
  | .int z, u => ∃ t, u = .int z t
  | .str x, u => ∃ t, u = .str x t
  | .tup ts, u => ∃ a us, u = .ref a ∧ h.IsTuple a us ∧ Tr.Ins h ts us.toList
  | .lst _, _ => False
def Tr.Ins (h : Heap) : List Tr → List Value → Prop
  | [], us => us = []
  | t :: ts, us => ∃ u r, us = u :: r ∧ Tr.In h t u ∧ Tr.Ins h ts r
end
theorem Tr.Ins.len {h : Heap} : ∀ {ts : List Tr} {us : List Value}, Tr.Ins h ts us → us.length = ts.length
  | [], us, e => by simp only [Tr.Ins] at e; rw [e]; rfl
  | t :: ts, us, e => by
    simp only [Tr.Ins] at e
    obtain ⟨u, r, rfl, _, e⟩ := e
    simp [e.len]
theorem isTuple_inj {h : Heap} {a : Addr} {us vs : Array Value} (x : h.IsTuple a us) (y : h.IsTuple a vs) : us = vs := by
  obtain ⟨o, e, _, n, d⟩ := x
  obtain ⟨o', e', _, n', d'⟩ := y
  rw [e] at e'; cases e'
  rw [d] at d'
  injection d' with d1 _
mutual
theorem Tr.In.inj {h : Heap} : ∀ {t r : Tr} {u : Value}, Tr.In h t u → Tr.In h r u → t = r
  | .non, r, u, e, f => by
    simp only [Tr.In] at e
    subst e
    cases r <;> simp [Tr.In] at f ⊢
  | .int z, r, u, e, f => by
    simp only [Tr.In] at e
    obtain ⟨t, rfl⟩ := e
    cases r <;> simp [Tr.In] at f ⊢
    exact f
  | .str x, r, u, e, f => by
    simp only [Tr.In] at e
    obtain ⟨t, rfl⟩ := e
    cases r <;> simp [Tr.In] at f ⊢
    exact f
  | .lst _, r, u, e, f => e.elim
  | .tup ts, .tup rs, u, e, f => by
    simp only [Tr.In] at e f
    obtain ⟨a, us, rfl, e2, e3⟩ := e
    obtain ⟨b, vs, hb, f2, f3⟩ := f
    cases hb
    cases isTuple_inj e2 f2
    rw [Tr.Ins.inj e3 f3]
  | .tup ts, .non, u, e, f => by
    simp only [Tr.In] at e f
    obtain ⟨a, us, rfl, e2, e3⟩ := e
    cases f
  | .tup ts, .int _, u, e, f => by
    simp only [Tr.In] at e f
    obtain ⟨a, us, rfl, e2, e3⟩ := e
    obtain ⟨_, f⟩ := f
    cases f
  | .tup ts, .str _, u, e, f => by
    simp only [Tr.In] at e f
    obtain ⟨a, us, rfl, e2, e3⟩ := e
    obtain ⟨_, f⟩ := f
    cases f
  | .tup ts, .lst _, u, e, f => f.elim
theorem Tr.Ins.inj {h : Heap} : ∀ {ts rs : List Tr} {us : List Value}, Tr.Ins h ts us → Tr.Ins h rs us → ts = rs
  | [], rs, us, e, f => by
    simp only [Tr.Ins] at e
    subst e
    cases rs with
    | nil => rfl
    | cons r rs => simp [Tr.Ins] at f
  | t :: ts, rs, us, e, f => by
    simp only [Tr.Ins] at e
    obtain ⟨u, r, rfl, e1, e2⟩ := e
    cases rs with
    | nil => simp [Tr.Ins] at f
    | cons q qs =>
      simp only [Tr.Ins] at f
      obtain ⟨u', r', hh, f1, f2⟩ := f
      cases hh
      rw [e1.inj f1, Tr.Ins.inj e2 f2]
end
theorem at_no_lst {H : Hp} {ts : List Tr} {v : V} {h : (Tr.lst ts).At H v []} : False := by
  simp only [Tr.At] at h
  obtain ⟨a, vs, _, rfl, e1, c1, e⟩ := h
  simp at e
section
variable {X : Cx} {pins : List (Addr × Obj)} {σ : St} {H : Hp} {s : Shared}
mutual
theorem Tr.At.isIn (I : Inv X pins σ H s) : ∀ {t : Tr} {v : V} {u : Value}, t.At H v [] → RelV v u → Tr.In s.heap t u
  | .non, v, u, h, r => by
    obtain ⟨rfl, -⟩ := (by simpa only [Tr.At] using h)
    cases r
    exact rfl
  | .int z, v, u, h, r => by
    obtain ⟨rfl, -⟩ := (by simpa only [Tr.At] using h)
    obtain ⟨t, rfl⟩ := r
    exact ⟨t, rfl⟩
  | .str z, v, u, h, r => by
    obtain ⟨rfl, -⟩ := (by simpa only [Tr.At] using h)
    obtain ⟨t, rfl⟩ := r
    exact ⟨t, rfl⟩
  | .lst _, v, u, h, r => (at_no_lst (h := h)).elim
  | .tup ts, v, u, h, r => by
    simp only [Tr.At] at h
    obtain ⟨a, vs, rfl, e1, c1⟩ := h
    cases r
    obtain ⟨is1, q1, p1, _⟩ := I.tuple (SqT.of e1)
    simp only [Tr.In]
    exact ⟨a, is1.toArray, rfl, p1, by simpa using Tr.Ats.isIns I c1 q1⟩
theorem Tr.Ats.isIns (I : Inv X pins σ H s) : ∀ {ts : List Tr} {vs : List V} {us : List Value}, Tr.Ats H ts vs [] → Vals vs us → Tr.Ins s.heap ts us
  | [], vs, us, c, q => by
    simp only [Tr.Ats] at c
    obtain ⟨rfl, -⟩ := c
    cases q
    exact rfl
  | t :: ts, vs, us, c, q => by
    simp only [Tr.Ats] at c
    obtain ⟨v, vs, f, g, rfl, e, a1, b1⟩ := c
    have hf : f = [] ∧ g = [] := by simpa using e.symm
    obtain ⟨rfl, rfl⟩ := hf
    cases q with
    | cons r1 q1 =>
    simp only [Tr.Ins]
    exact ⟨_, _, rfl, a1.isIn I r1, b1.isIns I q1⟩
end
end
theorem all_range {n : Nat} {e : Nat → Bool} : (List.range n).all e = true ↔ ∀ j, j < n → e j = true := by simp [List.all_eq_true]
theorem trs_eq {ts rs : List Tr} : ((List.range (min ts.length rs.length)).all (fun j => decide (ts.getD j .non = rs.getD j .non)) && ts.length == rs.length) = decide (ts = rs) := by
  rw [Bool.eq_iff_iff, Bool.and_eq_true, all_range, decide_eq_true_iff, beq_iff_eq]
  constructor
  · rintro ⟨h1, h2⟩
    refine List.ext_getElem h2 fun j h3 h4 => ?_
    have := of_decide_eq_true (h1 j (by omega))
    simpa [h3, h4] using this
  · rintro rfl
    exact ⟨fun j _ => decide_eq_true rfl, rfl⟩
section
variable {s : Shared}
mutual
theorem Tr.In.eqAt : ∀ {t r : Tr} {A : Around} {u z : Value}, Tr.In s.heap t u → Tr.In s.heap r z → A.units + t.h + r.h < cLine → SeqAt.EqAt A s u z (decide (t = r))
  | .non, r, A, u, z, h1, h2, hu => by
    simp only [Tr.In] at h1
    subst h1
    cases r with
    | non =>
      simp only [Tr.In] at h2
      subst h2
      rw [decide_eq_true rfl]
      exact SeqAt.EqAt.same _
    | int i =>
      obtain ⟨t2, rfl⟩ := h2
      rw [decide_eq_false (by simp)]
      exact SeqAt.EqAt.none_int _ _
    | str i =>
      obtain ⟨t2, rfl⟩ := h2
      rw [decide_eq_false (by simp)]
      exact SeqAt.EqAt.none_str _ _
    | tup rs =>
      simp only [Tr.In] at h2
      obtain ⟨a, us, rfl, p, _⟩ := h2
      rw [decide_eq_false (by simp)]
      exact SeqAt.EqAt.none_tuple p (by omega)
    | lst rs => exact h2.elim
  | .int i, r, A, u, z, h1, h2, hu => by
    obtain ⟨t1, rfl⟩ := h1
    cases r with
    | non =>
      simp only [Tr.In] at h2
      subst h2
      rw [decide_eq_false (by simp)]
      exact SeqAt.EqAt.int_none _ _
    | int j =>
      obtain ⟨t2, rfl⟩ := h2
      have := SeqAt.EqAt.int_int (A := A) (s := s) i t1 j t2
      rw [show (i == j) = decide (Tr.int i = Tr.int j) from Bool.eq_iff_iff.mpr (by simp)] at this
      exact this
    | str j =>
      obtain ⟨t2, rfl⟩ := h2
      rw [decide_eq_false (by simp)]
      exact SeqAt.EqAt.int_str _ _ _ _
    | tup rs =>
      simp only [Tr.In] at h2
      obtain ⟨a, us, rfl, p, _⟩ := h2
      rw [decide_eq_false (by simp)]
      exact SeqAt.EqAt.int_tuple _ _ p (by omega)
    | lst rs => exact h2.elim
  | .str i, r, A, u, z, h1, h2, hu => by
    obtain ⟨t1, rfl⟩ := h1
    cases r with
    | non =>
      simp only [Tr.In] at h2
      subst h2
      rw [decide_eq_false (by simp)]
      exact SeqAt.EqAt.str_none _ _
    | int j =>
      obtain ⟨t2, rfl⟩ := h2
      rw [decide_eq_false (by simp)]
      exact SeqAt.EqAt.str_int _ _ _ _
    | str j =>
      obtain ⟨t2, rfl⟩ := h2
      have := SeqAt.EqAt.str_str (A := A) (s := s) i t1 j t2
      rw [show (i == j) = decide (Tr.str i = Tr.str j) from Bool.eq_iff_iff.mpr (by simp)] at this
      exact this
    | tup rs =>
      simp only [Tr.In] at h2
      obtain ⟨a, us, rfl, p, _⟩ := h2
      rw [decide_eq_false (by simp)]
      exact SeqAt.EqAt.str_tuple _ _ p (by omega)
    | lst rs => exact h2.elim
  | .lst _, r, A, u, z, h1, h2, hu => h1.elim
  | .tup ts, r, A, u, z, h1, h2, hu => by
    have h1' := h1
    simp only [Tr.In] at h1
    obtain ⟨a, us, rfl, p1, c1⟩ := h1
    cases r with
    | non =>
      simp only [Tr.In] at h2
      subst h2
      rw [decide_eq_false (by simp)]
      exact SeqAt.EqAt.tuple_none p1 (by omega)
    | int j =>
      obtain ⟨t2, rfl⟩ := h2
      rw [decide_eq_false (by simp)]
      exact SeqAt.EqAt.tuple_int _ _ p1 (by omega)
    | str j =>
      obtain ⟨t2, rfl⟩ := h2
      rw [decide_eq_false (by simp)]
      exact SeqAt.EqAt.tuple_str _ _ p1 (by omega)
    | lst rs => exact h2.elim
    | tup rs =>
      have h2' := h2
      simp only [Tr.In] at h2
      obtain ⟨b, vs, rfl, p2, c2⟩ := h2
      by_cases hab : a = b
      · subst hab
        rw [decide_eq_true (h1'.inj h2')]
        exact SeqAt.EqAt.same _
      refine SeqAt.EqAt.of_refs hab ?_
      simp only [Tr.h] at hu
      have l1 := c1.len
      have l2 := c2.len
      simp only [Array.length_toList] at l1 l2
      have := SeqAt.RcAt.tuples (A := A) (s := s) (e := fun j => decide (ts.getD j .non = rs.getD j .non)) p1 p2 (by omega) (fun j h1 h2 => by
        have := Tr.Ins.eqAts (A := A.in1) c1 c2 (by rw [in1_units]; omega) j (by simpa using h1) (by simpa using h2)
        simpa using this)
      rw [l1, l2, trs_eq] at this
      rw [show decide (Tr.tup ts = Tr.tup rs) = decide (ts = rs) from Bool.eq_iff_iff.mpr (by simp)]
      exact this
theorem Tr.Ins.eqAts : ∀ {ts rs : List Tr} {A : Around} {us zs : List Value}, Tr.Ins s.heap ts us → Tr.Ins s.heap rs zs → A.units + Tr.hs ts + Tr.hs rs < cLine →
    ∀ (j : Nat) (h1 : j < us.length) (h2 : j < zs.length), SeqAt.EqAt A s us[j] zs[j] (decide (ts.getD j .non = rs.getD j .non))
  | [], rs, A, us, zs, c1, c2, hu, j, h1, h2 => by
    simp only [Tr.Ins] at c1
    subst c1
    exact absurd h1 (by simp)
  | t :: ts, [], A, us, zs, c1, c2, hu, j, h1, h2 => by
    simp only [Tr.Ins] at c2
    subst c2
    exact absurd h2 (by simp)
  | t :: ts, r :: rs, A, us, zs, c1, c2, hu, j, h1, h2 => by
    simp only [Tr.Ins] at c1 c2
    obtain ⟨u, us, rfl, a1, b1⟩ := c1
    obtain ⟨z, zs, rfl, a2, b2⟩ := c2
    simp only [Tr.hs] at hu
    cases j with
    | zero =>
      have := a1.eqAt a2 (A := A) (by omega)
      simpa using this
    | succ j =>
      have := b1.eqAts b2 (A := A) (by omega) j (by simpa using h1) (by simpa using h2)
      simpa using this
end
end
mutual
def Tr.hash (P : Params) : Tr → Int
  | .non => PySem.W.hashW P .none
  | .int z => PySem.W.hashW P (.int z)
  | .str x => PySem.W.hashW P (.str x)
  | .tup ts => reduceHash (Builtin.Tuple.tupleHashOf (Tr.hashes P ts))
  | .lst _ => 0
def Tr.hashes (P : Params) : List Tr → List Int
  | [] => []
  | t :: ts => Tr.hash P t :: Tr.hashes P ts
end
section
variable {prog : Program} {w : World} {E : Value → Shared → Prop}
mutual
theorem Tr.In.pyHash : ∀ {t : Tr} {A : Around} {s : Shared} {u : Value} {Q : Int → Shared → Prop}, Tr.In s.heap t u → A.units + t.h < cLine → (∀ n, Q (t.hash w.params) { s with toks := n }) → wpAny (model prog w) A (pyHash u) Q E s
  | .non, A, s, u, Q, e, hu, h => by
    simp only [Tr.In] at e
    subst e
    exact PySem.W.pyHash_laid .none _ A s Q rfl .none (by simp only [PySem.W.WData.depth]; omega) h
  | .int z, A, s, u, Q, e, hu, h => by
    obtain ⟨t, rfl⟩ := e
    exact PySem.W.pyHash_laid (.int z) _ A s Q rfl (.int z t) (by simp only [PySem.W.WData.depth]; omega) h
  | .str z, A, s, u, Q, e, hu, h => by
    obtain ⟨t, rfl⟩ := e
    exact PySem.W.pyHash_laid (.str z) _ A s Q rfl (.str z t) (by simp only [PySem.W.WData.depth]; omega) h
  | .lst _, A, s, u, Q, e, hu, h => e.elim
  | .tup ts, A, s, u, Q, e, hu, h => by
    simp only [Tr.In] at e
    obtain ⟨a, us, rfl, ⟨o, p1, p2, n, p3⟩, c⟩ := e
    simp only [Tr.h] at hu
    refine PySem.W.pyHash_slot (T := "tuple") ⟨o, p1, p2⟩ F.slot_tuple_hash F.entry_tuple_hash (F.args_tuple_hash_1 _) (beq_builtin_none _) (.inr (by omega)) ?_
    show wpAny _ A.in1 (Builtin.Tuple.tupleItemsOf (.ref a) >>= _) _ _ s
    refine wpAny_bind (wpAny_tupleItemsOf p1 p3 (wpAny_bind ?_))
    rw [← Array.forIn_toList]
    refine Tr.Ins.pyHashes (b := #[]) c (by rw [in1_units]; omega) fun tk b hb => ?_
    have hb' : b.toList = Tr.hashes w.params ts := by simpa using hb
    show wpAny _ A.in1 (retInt (Builtin.Tuple.tupleHashOf b.toList)) _ _ _
    rw [hb']
    exact wpAny_bind (wpAny_mkInt (wpAny_pure ⟨_, _, rfl, h (_)⟩))
theorem Tr.Ins.pyHashes : ∀ {ts : List Tr} {A : Around} {s : Shared} {us : List Value} {b : Array Int} {Q : Array Int → Shared → Prop}, Tr.Ins s.heap ts us → A.units + Tr.hs ts < cLine →
    (∀ n b', b'.toList = b.toList ++ Tr.hashes w.params ts → Q b' { s with toks := n }) →
    wpAny (model prog w) A (forIn us b fun x r => do let h ← pyHash x; pure PUnit.unit; pure (ForInStep.yield (r.push h))) Q E s
  | [], A, s, us, b, Q, e, hu, h => by
    simp only [Tr.Ins] at e
    subst e
    exact wpAny_pure (h s.toks b (by simp [Tr.hashes]))
  | t :: ts, A, s, us, b, Q, e, hu, h => by
    simp only [Tr.Ins] at e
    obtain ⟨u, us, rfl, a1, b1⟩ := e
    simp only [Tr.hs] at hu
    rw [List.forIn_cons]
    refine wpAny_bind (wpAny_bind (a1.pyHash (by omega) fun tk => wpAny_bind (wpAny_pure (wpAny_pure ?_))))
    exact b1.pyHashes (s := { s with toks := tk }) (by omega) fun n b' hb => h n b' (by simp [hb, Tr.hashes])
end
end
end L2
namespace L2
open PySem PySem.Spec PyProof.Rows
section
variable {prog : Program} {w : World} {E : Value → Shared → Prop}
mutual
theorem Tr.In.quiet : ∀ {t : Tr} {A : Around} {s : Shared} {u : Value} {Q : Bool → Shared → Prop} {n : Nat}, Tr.In s.heap t u → t.h ≤ n → Q true s → wpAny (model prog w) A (eqIsQuiet n u) Q E s
  | .non, A, s, u, Q, n, e, hn, h => by
    simp only [Tr.In] at e
    subst e
    rw [eqIsQuiet_byValue n (v := .none) rfl]
    exact wpAny_pure h
  | .int z, A, s, u, Q, n, e, hn, h => by
    obtain ⟨t, rfl⟩ := e
    rw [eqIsQuiet_byValue n (v := .int z t) rfl]
    exact wpAny_pure h
  | .str z, A, s, u, Q, n, e, hn, h => by
    obtain ⟨t, rfl⟩ := e
    rw [eqIsQuiet_byValue n (v := .str z t) rfl]
    exact wpAny_pure h
  | .lst _, A, s, u, Q, n, e, hn, h => e.elim
  | .tup ts, A, s, u, Q, n, e, hn, h => by
    simp only [Tr.In] at e
    obtain ⟨a, us, rfl, ⟨o, p1, p2, m, p3⟩, c⟩ := e
    simp only [Tr.h] at hn
    obtain ⟨n, rfl⟩ : ∃ k, n = k + 1 := ⟨n - 1, by omega⟩
    have hT : s.TypeIs (.ref a) "tuple" := ⟨o, p1, p2⟩
    unfold eqIsQuiet
    refine wpAny_bind (wpAny_specialOf hT (F.slot_tuple_eq.lookup) ?_)
    show wpAny _ A (isInstance (.ref a) (.type "tuple") >>= _) _ _ s
    refine wpAny_bind (wpAny_isInstance hT (isSubtype_tuple_tuple) ?_)
    simp only [Bool.false_eq_true, Bool.not_true, if_false]
    refine wpAny_bind (wpAny_seqItems p1 p3 (wpAny_bind ?_))
    show wpAny _ _ (forIn us _ _) _ _ s
    rw [← Array.forIn_toList]
    refine wpAny_forIn_list _ (fun rest r s' => r.1 = none ∧ s' = s ∧ ∃ ts', Tr.Ins s.heap ts' rest ∧ ∀ t ∈ ts', ∃ k, ∃ hk : k < ts.length, t = ts[k]) _ ?_ ?_ _ _ ⟨rfl, rfl, ts, c, fun t ht => by
      obtain ⟨k, hk, e⟩ := List.mem_iff_getElem.mp ht
      exact ⟨k, hk, e.symm⟩⟩
    · rintro v rest r s' ⟨hr, rfl, ts', c', hm⟩
      cases ts' with
      | nil => simp [Tr.Ins] at c'
      | cons t ts' =>
        simp only [Tr.Ins] at c'
        obtain ⟨u', r', hh, a1, b1⟩ := c'
        cases hh
        obtain ⟨k, hk, rfl⟩ := hm t List.mem_cons_self
        refine wpAny_bind (Tr.Ins.quietAt (n := n) c k hk a1 (by omega) ?_)
        simp only [Bool.false_eq_true, Bool.not_true, if_false]
        exact wpAny_pure ⟨rfl, rfl, ts', b1, fun t' ht' => hm t' (List.mem_cons_of_mem _ ht')⟩
    · rintro ⟨r1, r2⟩ s' ⟨hr, rfl, _⟩
      simp only at hr
      subst hr
      exact wpAny_pure h
theorem Tr.Ins.quietAt : ∀ {ts : List Tr} {A : Around} {s : Shared} {us : List Value} {u : Value} {Q : Bool → Shared → Prop} {n : Nat}, Tr.Ins s.heap ts us → ∀ (k : Nat) (hk : k < ts.length), Tr.In s.heap ts[k] u → Tr.hs ts ≤ n → Q true s →
    wpAny (model prog w) A (eqIsQuiet n u) Q E s
  | [], A, s, us, u, Q, n, e, k, hk, a1, hn, h => absurd hk (Nat.not_lt_zero _)
  | t :: ts, A, s, us, u, Q, n, e, k, hk, a1, hn, h => by
    simp only [Tr.Ins] at e
    obtain ⟨u', us, rfl, a2, b2⟩ := e
    simp only [Tr.hs] at hn
    cases k with
    | zero => exact Tr.In.quiet (t := t) a1 (by omega) h
    | succ k => exact Tr.Ins.quietAt b2 k (by simpa using hk) a1 (by omega) h
end
end
structure Ents (P : Params) (h : Heap) (es : Array DictEntry) (ts : List Tr) : Prop where
  len : es.size = ts.length
  at_ : ∀ (j : Nat) (e : DictEntry), es[j]? = some e → ∃ t : Tr, ts[j]? = some t ∧ e.hash = t.hash P ∧ Tr.In h t e.key ∧ t.h ≤ 8
  nd : ts.Nodup
theorem Ents.of {P : Params} {h : Heap} {es : Array DictEntry} {ts : List Tr} (x : Ents P h es ts) {j : Nat} {t : Tr} (e : ts[j]? = some t) : ∃ en, es[j]? = some en ∧ en.hash = t.hash P ∧ Tr.In h t en.key ∧ t.h ≤ 8 := by
  have hj : j < es.size := by rw [x.len]; exact (List.getElem?_eq_some_iff.mp e).1
  obtain ⟨t', e', h2⟩ := x.at_ j es[j] (Array.getElem?_eq_getElem hj)
  rw [e] at e'
  cases e'
  exact ⟨_, Array.getElem?_eq_getElem hj, h2⟩
theorem Ents.one {P : Params} {h : Heap} {es : Array DictEntry} {ts : List Tr} (x : Ents P h es ts) {i j : Nat} {t : Tr} (e : ts[i]? = some t) (f : ts[j]? = some t) : i = j := by
  obtain ⟨h1, e⟩ := List.getElem?_eq_some_iff.mp e
  obtain ⟨h2, f⟩ := List.getElem?_eq_some_iff.mp f
  have pw := List.pairwise_iff_getElem.mp x.nd
  rcases Nat.lt_trichotomy i j with h | h | h
  · exact absurd (e.trans f.symm) (pw i j h1 h2 h)
  · exact h
  · exact absurd (f.trans e.symm) (pw j i h2 h1 h)
section
variable {prog : Program} {w : World} {E : Value → Shared → Prop} {A : Around} {s : Shared} {d : Addr} {o : Obj} {es : Array DictEntry} {ep : Nat} {ts : List Tr} {t : Tr} {u : Value}
theorem mem_places {f : Nat → Option Int} {n i : Nat} {h : Int} : i ∈ placesWithHash n f h ↔ i < n ∧ f i = some h := by simp [placesWithHash, List.mem_filter]
theorem places_nd {f : Nat → Option Int} {n : Nat} {h : Int} : (placesWithHash n f h).Nodup := List.Pairwise.filter _ List.nodup_range
theorem find_tr {Q : Option Nat → Shared → Prop} (ho : s.heap.get? d = some o) (hd : o.data = .dict es ep) (x : Ents w.params s.heap es ts) (hk : Tr.In s.heap t u) (h8 : t.h ≤ 8) (hu : A.units + 16 < cLine)
    (hnone : (∀ j : Nat, ts[j]? ≠ some t) → Q none s) (hsome : ∀ j : Nat, ts[j]? = some t → Q (some j) s) : wpAny (model prog w) A (dictFind d u (t.hash w.params)) Q E s := by
  have hin : ∀ j : Nat, ts[j]? = some t → j ∈ placesWithHash es.size (fun i => es[i]?.map (·.hash)) (t.hash w.params) := fun j hj => by
    obtain ⟨en, e1, e2, _⟩ := x.of hj
    exact mem_places.mpr ⟨(Array.getElem?_eq_some_iff.mp e1).1, by rw [e1]; exact congrArg some e2⟩
  have hex : ∀ i ∈ placesWithHash es.size (fun i => es[i]?.map (·.hash)) (t.hash w.params), ∃ en t', es[i]? = some en ∧ ts[i]? = some t' ∧ en.hash = t.hash w.params ∧ Tr.In s.heap t' en.key ∧ t'.h ≤ 8 := fun i hi => by
    obtain ⟨hi, h2⟩ := mem_places.mp hi
    have e1 := Array.getElem?_eq_getElem hi
    obtain ⟨t', e2, e3, e4, e5⟩ := x.at_ i _ e1
    rw [e1] at h2
    exact ⟨_, t', e1, e2, Option.some.inj h2, e4, e5⟩
  have hnd : (placesWithHash es.size (fun i => es[i]?.map (·.hash)) (t.hash w.params)).Nodup := places_nd
  generalize hP : placesWithHash es.size (fun i => es[i]?.map (·.hash)) (t.hash w.params) = ps at hin hex hnd
  have eqa : ∀ {t' : Tr} {z : Value}, Tr.In s.heap t' z → t'.h ≤ 8 → SeqAt.EqAt A s z u (decide (t' = t)) := fun a b => a.eqAt hk (by omega)
  have plain : wpAny (model prog w) A (dictWalkPlain d u (t.hash w.params) es ps) Q E s := by
    unfold dictWalkPlain
    refine wpAny_bind ?_
    refine wpAny_forIn_list _ (fun rest b s' => s' = s ∧ b = (none, ()) ∧ (∀ i ∈ rest, i ∈ ps) ∧ ∀ j : Nat, ts[j]? = some t → j ∈ rest) _ ?_ ?_ _ _ ⟨rfl, rfl, fun _ z => z, hin⟩
    · rintro i rest b s' ⟨rfl, rfl, hr, hj⟩
      obtain ⟨en, t', e1, e2, e3, e4, e5⟩ := hex i (hr i List.mem_cons_self)
      rw [e1]
      dsimp only
      rw [if_pos (by rw [e3]; exact beq_self_eq_true _)]
      refine wpAny_bind (wpAny_dictEpoch ho hd (wpAny_bind (eqa e4 e5 _ _ _ _ (wpAny_bind (wpAny_dictEpoch ho hd ?_)))))
      show wpAny _ A (if (ep != ep) = true then _ else _) _ E _
      rw [if_neg (by simp)]
      by_cases hkk : t' = t
      · subst hkk
        rw [decide_eq_true rfl]
        exact wpAny_bind (wpAny_rule (wpAny_pure (wpAny_pure (hsome i e2))))
      · rw [decide_eq_false hkk]
        refine wpAny_bind (wpAny_rule (wpAny_pure ⟨rfl, rfl, fun i hi => hr i (List.mem_cons_of_mem _ hi), fun j h2 => ?_⟩))
        rcases List.mem_cons.mp (hj j h2) with rfl | h3
        · rw [e2] at h2
          exact absurd (Option.some.inj h2) hkk
        · exact h3
    · rintro b s' ⟨rfl, rfl, _, hj⟩
      exact wpAny_pure (hnone fun j h2 => absurd (hj j h2) (by simp))
  have hany : ∀ a, u = .ref a → ¬ (es.any fun e => e.key == u && e.hash != t.hash w.params) = true := by
    rintro a rfl
    rw [← Array.any_toList, List.any_eq_true]
    rintro ⟨e, hin', hc⟩
    obtain ⟨j, hj, rfl⟩ := Array.mem_iff_getElem.mp (Array.mem_toList_iff.mp hin')
    obtain ⟨t', _, f2, f3, _⟩ := x.at_ j _ (Array.getElem?_eq_getElem hj)
    simp only [Bool.and_eq_true, beq_iff_eq, bne_iff_ne, ne_eq] at hc
    rw [hc.1] at f3
    exact hc.2 (by rw [f2, f3.inj hk])
  have hst : ∀ v ∈ ps.filterMap (fun i => es[i]?.map (·.key)), ∃ t', Tr.In s.heap t' v ∧ t'.h ≤ 8 := by
    intro v hv
    obtain ⟨i, hi, hv⟩ := List.mem_filterMap.mp hv
    obtain ⟨en, t', e1, _, _, e4, e5⟩ := hex i hi
    rw [e1] at hv
    cases hv
    exact ⟨t', e4, e5⟩
  have tell : ∀ {Q : Bool → Shared → Prop}, Q false s → wpAny (model prog w) A (tableMayTell u (ps.filterMap fun i => es[i]?.map (·.key))) Q E s := by
    intro Q q
    unfold tableMayTell
    split
    · exact wpAny_pure q
    · refine wpAny_bind (hk.quiet h8 ?_)
      simp only [Bool.false_eq_true, Bool.not_true, if_false]
      refine wpAny_bind (wpAny_forIn_list _ (fun rest r s' => s' = s ∧ r = (none, ()) ∧ ∀ v ∈ rest, ∃ t', Tr.In s.heap t' v ∧ t'.h ≤ 8) _ ?_ ?_ _ _ ⟨rfl, rfl, hst⟩)
      · rintro v rest r s' ⟨rfl, rfl, hr⟩
        obtain ⟨t', b1, b2⟩ := hr v List.mem_cons_self
        refine wpAny_bind (b1.quiet b2 ?_)
        simp only [Bool.false_eq_true, Bool.not_true, if_false]
        exact wpAny_pure ⟨rfl, rfl, fun z hz => hr z (List.mem_cons_of_mem _ hz)⟩
      · rintro r s' ⟨rfl, rfl, _⟩
        exact wpAny_pure q
  unfold dictFind
  try (with_reducible refine wpAny_holding ?_)
  refine wpAny_bind (wpAny_dictEntries ho (hd) ?_)
  extract_lets places st hit0 jp3 jp2 jp1
  have hpl : places = ps := hP
  have hS : ps.filterMap (fun i => es[i]?.map (·.key)) = st := by rw [← hpl]
  rw [hS] at tell
  clear hst
  have h3 : wpAny (model prog w) A (jp3 false) Q E s := by
    dsimp only [jp3]
    rw [if_neg (by simp), hpl]
    refine wpAny_bind (wpAny_forIn_list _ (fun rest b s' => s' = s ∧ rest.Nodup ∧ ∃ hit : Option Nat, b = (none, hit) ∧ (∀ i ∈ rest, i ∈ ps) ∧
     ((hit = none ∧ ∀ j : Nat, ts[j]? = some t → j ∈ rest) ∨ ∃ j : Nat, hit = some j ∧ ts[j]? = some t ∧ j ∉ rest)) _ ?_ ?_ _ _ ⟨rfl, hnd, none, rfl, fun _ z => z, .inl ⟨rfl, hin⟩⟩)
    · rintro i rest b s' ⟨rfl, hnd', hit, rfl, hr, hH⟩
      have hni : i ∉ rest := (List.nodup_cons.mp hnd').1
      have hnr : rest.Nodup := (List.nodup_cons.mp hnd').2
      have hr' : ∀ j ∈ rest, j ∈ ps := fun j hj => hr j (List.mem_cons_of_mem _ hj)
      obtain ⟨en, t', e1, e2, e3, e4, e5⟩ := hex i (hr i List.mem_cons_self)
      rw [e1]
      dsimp only
      rw [if_pos (by rw [e3]; exact beq_self_eq_true _)]
      refine wpAny_bind (wpAny_dictEpoch ho hd (wpAny_bind (eqa e4 e5 _ _ _ _ (wpAny_bind (wpAny_dictEpoch ho hd ?_)))))
      show wpAny _ A (if (ep != ep) = true then _ else _) _ E _
      rw [if_neg (by simp)]
      by_cases hkk : t' = t
      · subst hkk
        rw [decide_eq_true rfl]
        rcases hH with ⟨rfl, hj⟩ | ⟨j, rfl, hj, hjr⟩
        · rw [if_pos rfl]
          simp only [Bool.false_eq_true, Option.isSome_none, if_false]
          refine wpAny_bind ((wpAny_rule) ?_)
          split
          · exact wpAny_pure (wpAny_pure (hsome i e2))
          · exact wpAny_pure ⟨rfl, hnr, some i, rfl, hr', .inr ⟨i, rfl, e2, hni⟩⟩
        · exact absurd (x.one e2 hj ▸ List.mem_cons_self) hjr
      · rw [decide_eq_false hkk]
        rw [if_neg (by simp)]
        refine wpAny_bind ((wpAny_rule) ?_)
        rw [if_neg (by simp)]
        refine wpAny_pure ⟨rfl, hnr, hit, rfl, hr', ?_⟩
        rcases hH with ⟨rfl, hj⟩ | ⟨j, rfl, hj, hjr⟩
        · refine .inl ⟨rfl, fun j h2 => ?_⟩
          rcases List.mem_cons.mp (hj j h2) with rfl | h3
          · rw [e2] at h2
            exact absurd (Option.some.inj h2) hkk
          · exact h3
        · exact .inr ⟨j, rfl, hj, fun z => hjr (List.mem_cons_of_mem _ z)⟩
    · rintro b s' ⟨rfl, _, hit, rfl, _, hH⟩
      rcases hH with ⟨rfl, hj⟩ | ⟨j, rfl, hj, _⟩
      · exact wpAny_pure (hnone fun j h2 => absurd (hj j h2) (by simp))
      · exact wpAny_pure (hsome j hj)
  clear_value jp3
  have h2 : wpAny (model prog w) A (jp2 ()) Q E s := by
    dsimp only [jp2]
    by_cases hone : (st == [u]) = true
    · rw [if_pos hone]
      exact wpAny_bind (wpAny_pure h3)
    · rw [if_neg hone]
      exact wpAny_bind (tell h3)
  clear_value jp2
  have h1 : wpAny (model prog w) A (jp1 ()) Q E s := by
    dsimp only [jp1]
    by_cases hall : (u :: st).all carriedByValue = true
    · rw [if_pos hall, hpl]
      exact plain
    rw [if_neg hall]
    split
    · rename_i a
      rw [if_neg (hany a rfl)]
      exact h2
    · exact h2
  clear_value jp1
  split
  · rename_i y tk
    by_cases hx : (es.all fun e => isExactStrKey e.key) = true
    · rw [if_pos hx]
      have ht : t = .str y := hk.inj (r := .str y) ⟨tk, rfl⟩
      subst ht
      have hstr : ∀ (j : Nat) (hj : j < es.size), es[j].key.isStr y = decide (ts[j]? = some (.str y)) := fun j hj => by
        obtain ⟨t', f1, f2, f3, _⟩ := x.at_ j _ (Array.getElem?_eq_getElem hj)
        have hx' := Array.all_eq_true.mp hx j hj
        rw [f1]
        cases hq : es[j].key with
        | str z tz =>
          rw [hq] at f3
          obtain rfl : t' = .str z := f3.inj (r := .str z) ⟨tz, rfl⟩
          show (z == y) = _
          exact Bool.eq_iff_iff.mpr (by simp)
        | _ => rw [hq] at hx'; cases hx'
      unfold foundByValue
      cases hf : es.findIdx? (fun e => e.key.isStr y) with
      | none =>
        refine wpAny_pure (hnone fun j hj => ?_)
        obtain ⟨en, g1, _⟩ := x.of hj
        obtain ⟨hl, _⟩ := Array.getElem?_eq_some_iff.mp g1
        have := Array.findIdx?_eq_none_iff.mp hf es[j] (Array.getElem_mem hl)
        rw [hstr j hl, decide_eq_true hj] at this
        cases this
      | some i =>
        obtain ⟨hlt, hi, _⟩ := Array.findIdx?_eq_some_iff_getElem.mp hf
        rw [hstr i hlt] at hi
        have hi := of_decide_eq_true hi
        obtain ⟨t', f1, f2, f3, f4⟩ := x.at_ i _ (Array.getElem?_eq_getElem hlt)
        rw [hi] at f1
        cases f1
        simp only [Array.getElem?_eq_getElem hlt]
        refine wpAny_bind (wpAny_dictEpoch ho hd (wpAny_bind (eqa f3 f4 _ _ _ _ (wpAny_bind (wpAny_dictEpoch ho hd ?_)))))
        show wpAny _ A (if (ep != ep) = true then _ else _) _ E _
        rw [if_neg (by simp), decide_eq_true rfl]
        exact wpAny_bind (wpAny_rule (wpAny_pure (hsome i hi)))
    · rw [if_neg hx]
      exact h1
  · exact h1
end
end L2
namespace L2
open PySem PySem.Spec PyProof.Rows
structure DtR (P : Params) (m : List (Tr × V × V)) (es : Array DictEntry) : Prop where
  len : es.size = m.length
  at_ : ∀ (j : Nat) (x : Tr × V × V), m[j]? = some x → ∃ e, es[j]? = some e ∧ e.hash = x.1.hash P ∧ RelV x.2.1 e.key ∧ RelV x.2.2 e.val
def DtP (P : Params) (a : Addr) (m : List (Tr × V × V)) : Heap → Prop := fun h => m.length ≤ sizeLine ∧ (a == sysModules) = false ∧ ∃ o es ep, h.get? a = some o ∧ o.ExactDict ∧ o.data = .dict es ep ∧ DtR P m es
abbrev DtO (P : Params) (a : Addr) (m : List (Tr × V × V)) : HO := .ext (DtP P a m)
theorem DtP.one {P : Params} {a : Addr} {m : List (Tr × V × V)} (h1 h2 : Heap) (x : DtP P a m h1) (k : ∀ o, h1.get? a = some o → h2.get? a = some o) : DtP P a m h2 := by
  obtain ⟨z, y, o, es, ep, e, r⟩ := x
  exact ⟨z, y, o, es, ep, k _ e, r⟩
theorem dto_ok {Pr : Program} {w : World} {H : Hp} {h : Heap} {P : Params} {a : Addr} {m : List (Tr × V × V)} (x : DtP P a m h) : ObjOk Pr w H h a (DtO P a m) := by
  refine ⟨x, ?_, DtP.one⟩
  obtain ⟨_, _, o, _, _, e, _⟩ := x
  exact ⟨o, e⟩
def DtE (P : Params) (H : Hp) (a : Addr) (m : List (Tr × V × V)) : Prop := ∃ φ, H a = some (.ext φ) ∧ ∀ h, φ h → DtP P a m h
theorem DtE.of {P : Params} {H : Hp} {a : Addr} {m : List (Tr × V × V)} (h : H a = some (DtO P a m)) : DtE P H a m := ⟨_, h, fun _ x => x⟩
theorem DtE.mut {P : Params} {H : Hp} {a : Addr} {m : List (Tr × V × V)} (h : DtE P H a m) : Mut (H a) := by
  obtain ⟨φ, e, _⟩ := h
  rw [e]
  exact True.intro
def DtAt (P : Params) (H : Hp) (a : Addr) (kvs : List (Tr × V)) : Prop := ∃ m : List (Tr × V × V), m.map (fun x => (x.1, x.2.2)) = kvs ∧ DtE P H a m ∧ (∀ x ∈ m, x.1.At H x.2.1 [] ∧ x.1.h ≤ 8) ∧ (m.map (·.1)).Nodup
noncomputable def putM (m : List (Tr × V × V)) (t : Tr) (y v : V) : List (Tr × V × V) := if t ∈ m.map (·.1) then m.map (fun x => if x.1 = t then (x.1, x.2.1, v) else x) else m ++ [(t, y, v)]
theorem putM_kvs (m : List (Tr × V × V)) (t : Tr) (y v : V) : (putM m t y v).map (fun x => (x.1, x.2.2)) = putK (m.map fun x => (x.1, x.2.2)) t v := by
  have hany : ((m.map fun x => (x.1, x.2.2)).any fun kv => decide (kv.1 = t)) = decide (t ∈ m.map (·.1)) := by
    rw [Bool.eq_iff_iff, List.any_eq_true, decide_eq_true_iff, List.mem_map]
    constructor
    · rintro ⟨p, hp, e⟩
      obtain ⟨x, hx, rfl⟩ := List.mem_map.mp hp
      exact ⟨x, hx, of_decide_eq_true e⟩
    · rintro ⟨x, hx, e⟩
      exact ⟨_, List.mem_map_of_mem hx, decide_eq_true e⟩
  unfold putM putK
  rw [hany]
  by_cases h : t ∈ m.map (·.1)
  · rw [if_pos h, if_pos (decide_eq_true h), List.map_map, List.map_map]
    refine List.map_congr_left fun x _ => ?_
    simp only [Function.comp]
    split <;> rfl
  · rw [if_neg h, if_neg (by rw [decide_eq_false h]; exact Bool.false_ne_true), List.map_append]
    rfl
theorem putM_nd {m : List (Tr × V × V)} (t : Tr) (y v : V) (h : (m.map (·.1)).Nodup) : ((putM m t y v).map (·.1)).Nodup := by
  unfold putM
  by_cases ht : t ∈ m.map (·.1)
  · rw [if_pos ht, List.map_map]
    rw [show m.map ((·.1) ∘ fun x => if x.1 = t then (x.1, x.2.1, v) else x) = m.map (·.1) from List.map_congr_left fun x _ => by simp only [Function.comp]; split <;> rfl]
    exact h
  · rw [if_neg ht, List.map_append]
    exact nd_snoc h ht
theorem putM_all {m : List (Tr × V × V)} {t : Tr} {y v : V} {p : Tr → V → Prop} (h : ∀ x ∈ m, p x.1 x.2.1) (hy : p t y) : ∀ x ∈ putM m t y v, p x.1 x.2.1 := by
  intro x hx
  unfold putM at hx
  by_cases ht : t ∈ m.map (·.1)
  · rw [if_pos ht] at hx
    obtain ⟨z, hz, rfl⟩ := List.mem_map.mp hx
    split <;> exact h z hz
  · rw [if_neg ht] at hx
    rcases List.mem_append.mp hx with hx | hx
    · exact h x hx
    · rw [List.mem_singleton.mp hx]; exact hy
theorem putM_len (m : List (Tr × V × V)) (t : Tr) (y v : V) : (putM m t y v).length ≤ m.length + 1 := by
  unfold putM
  split <;> simp
theorem dt_same {P : Params} {H H' : Hp} {a : Addr} {kvs : List (Tr × V)} (x : DtAt P H a kvs) (s : Same H H') : DtAt P H' a kvs := by
  obtain ⟨m, e1, ⟨φ, e2, hφ⟩, e3, e4⟩ := x
  exact ⟨m, e1, ⟨φ, s _ _ e2, hφ⟩, fun x hx => ⟨(e3 x hx).1.mono (s.keep _), (e3 x hx).2⟩, e4⟩
def TK (H : Hp) (t : Tr) (y : V) : Prop := t.At H y [] ∧ t.h ≤ 8
theorem valV_get {m : List (Tr × V × V)} (hn : (m.map (·.1)).Nodup) {j : Nat} {x : Tr × V × V} (e : m[j]? = some x) : valV (m.map fun x => (x.1, x.2.2)) x.1 = some x.2.2 := by
  induction m generalizing j with
  | nil => simp at e
  | cons z m ih =>
    rw [List.map_cons, List.nodup_cons] at hn
    cases j with
    | zero =>
      obtain rfl : z = x := by simpa using e
      exact valV_pos rfl
    | succ j =>
      have e' : m[j]? = some x := by simpa using e
      rw [List.map_cons, valV_neg (fun q => hn.1 (by
        show z.1 ∈ _
        rw [show z.1 = x.1 from q]
        exact List.mem_map_of_mem (List.mem_of_getElem? e')))]
      exact ih hn.2 e'
theorem valV_none {m : List (Tr × V × V)} {t : Tr} (h : ∀ j : Nat, (m.map (·.1))[j]? ≠ some t) : valV (m.map fun x => (x.1, x.2.2)) t = none ∧ t ∉ m.map (·.1) := by
  have hn : t ∉ m.map (·.1) := fun z => by
    obtain ⟨j, hj, e⟩ := List.mem_iff_getElem.mp z
    exact h j (by rw [List.getElem?_eq_getElem hj, e])
  refine ⟨?_, hn⟩
  unfold valV
  rw [List.find?_eq_none.mpr]
  · rfl
  · intro p hp
    obtain ⟨x, hx, rfl⟩ := List.mem_map.mp hp
    simp only [decide_eq_true_iff]
    exact fun z => hn (z ▸ List.mem_map_of_mem hx)
section
variable {X : Cx} {pins : List (Addr × Obj)} {σ : St} {H : Hp} {s : Shared} {a : Addr} {t : Tr} {y v : V} {u r : Value} {A : Around} {E : Value → Shared → Prop} {kvs : List (Tr × V)} {m : List (Tr × V × V)}
theorem dt_ents (I : Inv X pins σ H s) (e2 : DtE X.w.params H a m) (e3 : ∀ x ∈ m, x.1.At H x.2.1 [] ∧ x.1.h ≤ 8) (e4 : (m.map (·.1)).Nodup) :
    ∃ o es ep, s.heap.get? a = some o ∧ o.ExactDict ∧ o.data = .dict es ep ∧ DtR X.w.params m es ∧ Ents X.w.params s.heap es (m.map (·.1)) ∧ m.length ≤ sizeLine ∧ (a == sysModules) = false := by
  obtain ⟨φ, e2, hφ⟩ := e2
  obtain ⟨z1, z2, o, es, ep, q1, q2, q3, q4⟩ := hφ _ (I.hok a _ e2).1
  refine ⟨o, es, ep, q1, q2, q3, q4, ⟨by rw [q4.len, List.length_map], fun j e he => ?_, e4⟩, z1, z2⟩
  have hj : j < m.length := by rw [← q4.len]; exact (Array.getElem?_eq_some_iff.mp he).1
  obtain ⟨e', f1, f2, f3, f4⟩ := q4.at_ j m[j] (List.getElem?_eq_getElem hj)
  rw [he] at f1
  cases f1
  have := e3 m[j] (List.getElem_mem hj)
  exact ⟨m[j].1, by rw [List.getElem?_map, List.getElem?_eq_getElem hj]; rfl, f2, this.1.isIn I f3, this.2⟩
theorem dt_get {Q : Option Value → Shared → Prop} (hu : A.units + 16 < cLine) (I : Inv X pins σ H s) (g : DtAt X.w.params H a kvs) (hk : TK H t y) (ry : RelV y u) (h : ∀ o s', Inv X pins σ H s' → RelO (valV kvs t) o → Q o s') :
    wpAny (model X.prog X.w) A (dictGet a u) Q E s := by
  obtain ⟨m, rfl, e2, e3, e4⟩ := g
  obtain ⟨o, es, ep, q1, q2, q3, q4, q5, _⟩ := dt_ents I e2 e3 e4
  have hin := hk.1.isIn I ry
  unfold dictGet
  try (with_reducible refine wpAny_holding ?_)
  refine wpAny_bind (hin.pyHash (by have := hk.2; omega) fun n => wpAny_bind (find_tr (s := { s with toks := n }) q1 q3 q5 hin hk.2 hu (fun hn => ?_) fun j hj => ?_))
  · refine wpAny_pure (h _ _ (I.tok _) ?_)
    rw [(valV_none hn).1]
    exact True.intro
  · rw [List.getElem?_map] at hj
    obtain ⟨x, hx, rfl⟩ := Option.map_eq_some_iff.mp hj
    obtain ⟨en, f1, f2, f3, f4⟩ := q4.at_ j x hx
    refine wpAny_bind (wpAny_dictEntries (s := { s with toks := n }) q1 q3 ?_)
    rw [f1]
    refine wpAny_pure (h _ _ (I.tok _) ?_)
    rw [valV_get e4 hx]
    exact f4
theorem dtr_snoc {P : Params} {es : Array DictEntry} {e : DictEntry} (x : DtR P m es) (h1 : e.hash = t.hash P) (h2 : RelV y e.key) (h3 : RelV v e.val) : DtR P (m ++ [(t, y, v)]) (es.push e) := by
  refine ⟨by simp [x.len], fun j z hz => ?_⟩
  by_cases hj : j < m.length
  · rw [List.getElem?_append_left hj] at hz
    obtain ⟨e', f1, f2⟩ := x.at_ j z hz
    exact ⟨e', by rw [Array.getElem?_push, if_neg (by rw [x.len]; omega)]; exact f1, f2⟩
  · rw [List.getElem?_append_right (by omega)] at hz
    have hj2 : j - m.length = 0 := by
      refine Nat.eq_zero_of_not_pos fun z => ?_
      rw [List.getElem?_eq_none (by simp; omega)] at hz
      cases hz
    rw [hj2] at hz
    cases hz
    exact ⟨e, by rw [Array.getElem?_push, if_pos (by rw [x.len]; omega)], h1, h2, h3⟩
theorem dtr_put {P : Params} {es : Array DictEntry} {j : Nat} {x : Tr × V × V} (R : DtR P m es) (hn : (m.map (·.1)).Nodup) (hx : m[j]? = some x) (h3 : RelV v r) :
    DtR P (m.map fun z => if z.1 = x.1 then (z.1, z.2.1, v) else z) (es.modify j fun e => { e with val := r }) := by
  refine ⟨by simp [R.len], fun i z hz => ?_⟩
  rw [List.getElem?_map] at hz
  obtain ⟨z0, hz0, rfl⟩ := Option.map_eq_some_iff.mp hz
  obtain ⟨e', f1, f2, f3, f4⟩ := R.at_ i z0 hz0
  have hi : i < es.size := (Array.getElem?_eq_some_iff.mp f1).1
  rw [Array.getElem?_modify, f1]
  by_cases hij : j = i
  · subst hij
    rw [hz0] at hx
    cases hx
    rw [if_pos rfl, if_pos rfl]
    exact ⟨_, rfl, f2, f3, h3⟩
  · rw [if_neg hij, if_neg]
    · exact ⟨_, rfl, f2, f3, f4⟩
    · intro e
      have pw := List.pairwise_iff_getElem.mp hn
      obtain ⟨l1, g1⟩ := List.getElem?_eq_some_iff.mp hx
      obtain ⟨l2, g2⟩ := List.getElem?_eq_some_iff.mp hz0
      rcases Nat.lt_trichotomy j i with h | h | h
      · exact pw j i (by simpa using l1) (by simpa using l2) h (by simp [g1, g2, e])
      · exact hij h
      · exact pw i j (by simpa using l2) (by simpa using l1) h (by simp [g1, g2, e])
theorem dt_set {Q : Unit → Shared → Prop} (hu : A.units + 16 < cLine) (I : Inv X pins σ H s) (e2 : DtE X.w.params H a m) (e3 : ∀ x ∈ m, x.1.At H x.2.1 [] ∧ x.1.h ≤ 8) (e4 : (m.map (·.1)).Nodup) (hz : m.length < sizeLine)
    (hk : TK H t y) (ry : RelV y u) (rv : RelV v r) (h : ∀ s', Inv X pins σ (upd H a (DtO X.w.params a (putM m t y v))) s' → Q () s') :
    wpAny (model X.prog X.w) A (dictSet a u r) Q E s := by
  obtain ⟨o, es, ep, q1, q2, q3, q4, q5, z1, z2⟩ := dt_ents I e2 e3 e4
  have hin := hk.1.isIn I ry
  have hl : (putM m t y v).length ≤ sizeLine := by have := putM_len m t y v; omega
  unfold dictSet
  try (with_reducible refine wpAny_holding ?_)
  refine wpAny_bind (hin.pyHash (by have := hk.2; omega) fun n => ?_)
  unfold dictSetHashed
  try (with_reducible refine wpAny_holding ?_)
  refine wpAny_bind (find_tr (s := { s with toks := n }) q1 q3 q5 hin hk.2 hu (fun hn => ?_) fun j hj => ?_)
  · refine wpAny_bind (wpAny_rule (wpAny_updateDictKeys (s := { s with toks := n }) q1 q3 (h _ (d_write (I.tok n) e2.mut (Heap.SameBut.update ..) ?_ (dto_ok ⟨hl, z2, _, _, ep + 1, Heap.get?_update_self _ q1 (Obj.isFreed_of_dict (Obj.data_mapDictKeys q3 _)), q2.mapDictKeys _, Obj.data_mapDictKeys q3 _, ?_⟩))) (by rw [q4.len]; omega)))
    · exact ⟨_, Heap.get?_update_self _ q1 (Obj.isFreed_of_dict (Obj.data_mapDictKeys q3 _))⟩
    · unfold putM
      rw [if_neg (valV_none hn).2]
      exact dtr_snoc q4 rfl ry rv
  · rw [List.getElem?_map] at hj
    obtain ⟨x, hx, rfl⟩ := Option.map_eq_some_iff.mp hj
    refine wpAny_bind (wpAny_rule (wpAny_bind (wpAny_updateDict (s := { s with toks := n }) q1 q3 (wpAny_point (h _ (d_write (I.tok n) e2.mut (Heap.SameBut.update ..) ?_ (dto_ok ⟨hl, z2, _, _, ep, Heap.get?_update_self _ q1 (Obj.isFreed_of_dict (Obj.data_mapDict q3 _)), q2.mapDict _, Obj.data_mapDict q3 _, ?_⟩)))))))
    · exact ⟨_, Heap.get?_update_self _ q1 (Obj.isFreed_of_dict (Obj.data_mapDict q3 _))⟩
    · unfold putM
      rw [if_pos (List.mem_map_of_mem (List.mem_of_getElem? hx))]
      exact dtr_put q4 e4 hx rv
end
end L2
namespace L2
open PySem PySem.Spec PyProof.Rows
def RawD (h : Heap) (d : Addr) (es : Array DictEntry) (ep : Nat) : Prop := ∃ o, h.get? d = some o ∧ o.ExactDict ∧ o.data = .dict es ep
theorem RawD.ty {s : Shared} {d : Addr} {es : Array DictEntry} {ep : Nat} (x : RawD s.heap d es ep) : s.TypeIs (.ref d) "dict" := let ⟨o, e, c, _⟩ := x; ⟨o, e, c.1⟩
theorem RawD.keep {h h' : Heap} {d : Addr} {es : Array DictEntry} {ep : Nat} (x : RawD h d es ep) (k : ∀ o, h.get? d = some o → h'.get? d = some o) : RawD h' d es ep := let ⟨o, e, r⟩ := x; ⟨o, k o e, r⟩
theorem RawD.lt {h : Heap} {d : Addr} {es : Array DictEntry} {ep : Nat} (x : RawD h d es ep) : d < h.objs.size := let ⟨_, e, _⟩ := x; Heap.lt_size e
section
variable {prog : Program} {w : World} {A : Around} {E : Value → Shared → Prop} {s : Shared} {d it : Addr} {es : Array DictEntry} {ep i : Nat}
theorem raw_iter {Q : Value → Shared → Prop} (lo : (d == sysModules) = false) (x : RawD s.heap d es ep)
    (q : Q (.ref s.heap.objs.size) { s with heap := s.heap.push { cls := .type "dict_keyiterator", data := .fields #[.ref d, .int 0 0, .int es.size 0, .int ep 0] } }) : wpAny (model prog w) A (pyIter (.ref d)) Q E s := by
  have T := x.ty
  obtain ⟨o, e1, e2, e3⟩ := x
  refine wpAny_pyIter_slot T F.slot_dict_iter (wpAny_call_entry F.slot_dict_iter T F.entry_dict_iter ?_ (F.args_dict_iter_1 _))
  unfold Builtin.«dict.__iter__»
  refine wpAny_bind ?_
  unfold Builtin.Dict.dictSlotNone
  refine wpAny_bind (wpAny_notOrdered_dict T ?_)
  refine (show wpAny _ _ (pure (Value.ref d)) _ _ s from wpAny_pure ?_)
  show wpAny _ A.in1 (Builtin.Dict.showsAll d >>= _) _ _ s
  unfold Builtin.Dict.showsAll
  rw [if_neg (by rw [lo]; simp)]
  refine wpAny_bind ((wpAny_pure) (wpAny_bind (wpAny_dictEntries e1 e3 (wpAny_bind (wpAny_dictEpoch e1 e3 (wpAny_bind (wpAny_newObj_type (wpAny_pure ⟨_, rfl, "dict_keyiterator", _, ⟨_, Heap.get?_push_size _ rfl, rfl⟩, F.slot_dict_keyiterator_next.lookup, ?_⟩))))))))
  simpa [rawInt] using q
theorem raw_item {Q : Option Value → Shared → Prop} {e : DictEntry} (hit : s.heap.IsKeyIter it d i es.size ep) (x : RawD s.heap d es ep) (he : es[i]? = some e)
    (q : ∀ h', h'.IsKeyIter it d (i + 1) es.size ep → Heap.SameBut it s.heap h' → Q (some e.key) { s with heap := h' }) : wpAny (model prog w) A (pyNext (.ref it)) Q E s := by
  have T := hit.typeIs
  obtain ⟨o, ho, hc, hd⟩ := id hit
  obtain ⟨od, g1, g2, g3⟩ := x
  have hlt : i < es.size := (Array.getElem?_eq_some_iff.mp he).1
  unfold pyNext
  refine wpAny_bind (wpAny_attempt (wpAny_callSpecial?_slot (name := Str.ofString "__next__") T F.slot_dict_keyiterator_next (wpAny_call_entry F.slot_dict_keyiterator_next T F.entry_dict_keyiterator_next ?_ (F.args_dict_keyiterator_next_1 _))))
  refine wpAny_bind ((wpAny_pure) (wpAny_bind (wpAny_bind ?_)))
  first | refine wpAny_bind (wpAny_typeNameOfWhole_keyiter T (wpAny_pure ?_)) | refine wpAny_bind (wpAny_typeNameOf_keyiter T (wpAny_pure ?_))
  refine wpAny_bind (wpAny_fieldsOf ho (hd) ?_)
  simp only [show Builtin.Dict_items.ownsTuple "dict_keyiterator" = false by decide, Bool.false_eq_true, if_false]
  show wpAny _ A.in1 (if (Value.ref d == Value.none) = true then _ else _) _ _ s
  rw [if_neg (fun z : (Value.ref d == Value.none) = true => Bool.false_ne_true z)]
  refine wpAny_bind ((wpAny_pure) (wpAny_bind (wpAny_dictEntries g1 g3 ?_)))
  rw [if_neg (by simp)]
  refine wpAny_bind ((wpAny_pure) (wpAny_bind (wpAny_dictEpoch g1 g3 ?_)))
  rw [if_neg (by simp)]
  refine wpAny_pure ?_
  simp only [show ¬ ((i : Int) < 0) by omega, if_false, Int.toNat_natCast, he]
  refine wpAny_bind ?_
  first | refine wpAny_bind (wpAny_typeNameOfWhole_keyiter T (wpAny_pure ?_)) | refine wpAny_bind (wpAny_typeNameOf_keyiter T (wpAny_pure ?_))
  refine wpAny_bind (wpAny_isOneOf_keyiter T ?_)
  show wpAny _ A.in1 (setField (.ref it) 1 (rawInt ((i : Int) + 1)) >>= _) _ _ s
  refine wpAny_bind (wpAny_setField ho (hd) (by simp) ?_)
  have hit2 : (s.heap.update it (Obj.mapFields (·.setIfInBounds 1 (rawInt ((i : Int) + 1))))).IsKeyIter it d (i + 1) es.size ep :=
    ⟨_, Heap.get?_update_self _ ho (Obj.isFreed_of_fields (Obj.data_mapFields hd _)), (Obj.cls_mapFields ..).trans hc, by rw [Obj.data_mapFields hd]; simp [rawInt]⟩
  refine wpAny_bind (wpAny_holding (wpAny_bind (wpAny_isOneOf_keyiter (s := { s with heap := s.heap.update it (Obj.mapFields (·.setIfInBounds 1 (rawInt ((i : Int) + 1)))) }) hit2.typeIs ?_)))
  show wpAny _ A.in1 (pure e.key) _ _ _
  exact wpAny_pure (wpAny_pure ⟨_, rfl, wpAny_pure (q _ hit2 (Heap.SameBut.update ..))⟩)
theorem raw_end {Q : Option Value → Shared → Prop} (hh : A.handled = none) (hit : s.heap.IsKeyIter it d i es.size ep) (x : RawD s.heap d es ep) (he : es.size ≤ i)
    (q : ∀ h', Heap.ExtBut it s.heap h' → Q none { s with heap := h' }) : wpAny (model prog w) A (pyNext (.ref it)) Q E s := by
  have T := hit.typeIs
  obtain ⟨o, ho, hc, hd⟩ := id hit
  obtain ⟨od, g1, g2, g3⟩ := x
  unfold pyNext
  refine wpAny_bind (wpAny_attempt (wpAny_callSpecial?_slot (name := Str.ofString "__next__") T F.slot_dict_keyiterator_next (wpAny_call_entry F.slot_dict_keyiterator_next T F.entry_dict_keyiterator_next ?_ (F.args_dict_keyiterator_next_1 _))))
  refine wpAny_bind ((wpAny_pure) (wpAny_bind (wpAny_bind ?_)))
  first | refine wpAny_bind (wpAny_typeNameOfWhole_keyiter T (wpAny_pure ?_)) | refine wpAny_bind (wpAny_typeNameOf_keyiter T (wpAny_pure ?_))
  refine wpAny_bind (wpAny_fieldsOf ho (hd) ?_)
  simp only [show Builtin.Dict_items.ownsTuple "dict_keyiterator" = false by decide, Bool.false_eq_true, if_false]
  show wpAny _ A.in1 (if (Value.ref d == Value.none) = true then _ else _) _ _ s
  rw [if_neg (fun z : (Value.ref d == Value.none) = true => Bool.false_ne_true z)]
  refine wpAny_bind ((wpAny_pure) (wpAny_bind (wpAny_dictEntries g1 g3 ?_)))
  rw [if_neg (by simp)]
  refine wpAny_bind ((wpAny_pure) (wpAny_bind (wpAny_dictEpoch g1 g3 ?_)))
  rw [if_neg (by simp)]
  refine wpAny_pure ?_
  simp only [show ¬ ((i : Int) < 0) by omega, if_false, Int.toNat_natCast, Array.getElem?_eq_none he]
  refine wpAny_bind ?_
  first | refine wpAny_bind (wpAny_typeNameOfWhole_keyiter T (wpAny_pure ?_)) | refine wpAny_bind (wpAny_typeNameOf_keyiter T (wpAny_pure ?_))
  show wpAny _ A.in1 (setField (.ref it) 0 .none >>= _) _ _ s
  refine wpAny_bind (wpAny_setField ho (hd) (by simp) ?_)
  show wpAny _ A.in1 (newExc (.type "StopIteration") [] >>= _) _ _ _
  refine wpAny_bind ?_
  simp only [newExc, newTuple]
  refine wpAny_bind (wpAny_newObj_type ?_ (by size_fits))
  refine wpAny_bind (m := firstArgMember _ _) (wpAny_of_eq (a := Value.none) (by first | rfl | (simp only [firstArgMember]; rfl)) (wpAny_newObj_type ?_ (by size_fits)))
  simp only [raiseNew]
  refine wpAny_bind (wpAny_handled ?_)
  rw [show A.in1.handled = none from hh]
  refine wpAny_bind ((wpAny_pure) ((wpAny_throw) ?_))
  refine wpAny_bind (wpAny_isInstance (b := true) (T := "StopIteration") ⟨_, Heap.get?_push_size _ rfl, rfl⟩ isSubtype_stop ?_)
  exact wpAny_pure (q _ (((Heap.SameBut.update ..).extBut.push _).push _))
theorem raw_walks (hh : A.handled = none) (hne : d ≠ it) : Walks prog w A it [it, d] [it] es.size (fun i v => ∃ e, es[i]? = some e ∧ v = e.key) (fun i h => h.IsKeyIter it d i es.size ep ∧ RawD h d es ep) where
  sub := fun b hb => by simp at hb; simp [hb]
  frame := fun _ _ _ st hk => ⟨st.1.at fun o e => hk it (by simp) o e, st.2.keep fun o e => hk d (by simp) o e⟩
  item := fun i s Q E hi st hQ => raw_item st.1 st.2 (Array.getElem?_eq_getElem hi) fun h' hit' hs => hQ _ h' s.toks ⟨_, Array.getElem?_eq_getElem hi, rfl⟩ ⟨hit', st.2.keep fun o e => hs.extBut d o hne e⟩ fun b o hb e => hs.extBut b o (fun h => hb (by simp [h])) e
  done := fun s Q E st hQ => raw_end hh st.1 st.2 (Nat.le_refl _) fun h' he' => hQ h' s.toks fun b o hb e => he' b o (fun h => hb (by simp [h])) e
  self := fun _ _ _ _ st hQ => wpAny_pyIter_keyiter st.1 hQ
theorem raw_src (lo : (d == sysModules) = false) : PySem.W.KdlSrc prog w "dict" d d es.size (fun i v => ∃ e, es[i]? = some e ∧ v = e.key) (fun h => RawD h d es ep) where
  type := fun _ hm => hm.ty
  there := fun _ hm => ⟨hm.lt, hm.lt⟩
  keep := fun _ _ hm hk => hm.keep fun o e => hk d (.inl rfl) o e
  notList := by decide
  notTuple := by decide
  hint := fun _ _ _ _ hm hq => PySem.W.kdl_hint_dict hm.ty hq
  iter := fun _ _ hh hm => ⟨_, _, (fun _ _ hq => raw_iter lo hm hq), raw_walks hh (Nat.ne_of_lt hm.lt), ⟨⟨_, Heap.get?_push_size _ rfl, rfl, rfl⟩, hm.keep fun o e => Heap.get?_push_of_some _ e⟩⟩
end
theorem vals_of : ∀ {xs : List V} {us : List Value}, xs.length = us.length → (∀ (j : Nat) x u, xs[j]? = some x → us[j]? = some u → RelV x u) → Vals xs us
  | [], [], _, _ => .nil
  | x :: xs, u :: us, hl, h => .cons (h 0 x u rfl rfl) (vals_of (by simpa using hl) fun j y z hy hz => h (j + 1) y z (by simpa using hy) (by simpa using hz))
  | [], _ :: _, hl, _ => by simp at hl
  | _ :: _, [], hl, _ => by simp at hl
section
variable {X : Cx} {pins : List (Addr × Obj)} {σ : St} {H : Hp} {s : Shared} {a : Addr} {t : Tr} {y v z : V} {u r : Value} {A : Around} {E : Value → Shared → Prop} {kvs : List (Tr × V)} {m : List (Tr × V × V)}
theorem dt_raw (I : Inv X pins σ H s) (g : DtAt X.w.params H a kvs) : ∃ es ep, RawD s.heap a es ep ∧ (a == sysModules) = false ∧ es.size = kvs.length ∧ kvs.length ≤ sizeLine := by
  obtain ⟨m, rfl, e2, e3, e4⟩ := g
  obtain ⟨o, es, ep, q1, q2, q3, q4, q5, z1, z2⟩ := dt_ents I e2 e3 e4
  exact ⟨es, ep, ⟨o, q1, q2, q3⟩, z2, by rw [q4.len, List.length_map], by rw [List.length_map]; exact z1⟩
theorem dt_getItem {Q : Value → Shared → Prop} (hu : A.units + 20 < cLine) (I : Inv X pins σ H s) (g : DtAt X.w.params H a kvs) (hk : TK H t y) (ry : RelV y u) (hv : valV kvs t = some v) (h : ∀ w' s', Inv X pins σ H s' → RelV v w' → Q w' s') :
    wpAny (model X.prog X.w) A (getItem (.ref a) u) Q E s := by
  obtain ⟨_, _, x, _, _, _⟩ := dt_raw I g
  have T := x.ty
  unfold getItem
  try (with_reducible refine wpAny_holding ?_)
  refine wpAny_bind (wpAny_sequenceKey T (by decide) (wpAny_bind (wpAny_callSpecial?_slot (name := Str.ofString "__getitem__") T slot_dict_getitem (wpAny_call_entry slot_dict_getitem T entry_dict_getitem ?_ (args_dict_getitem _ _)))))
  show wpAny _ A.in1 (dictGet a u >>= _) _ _ s
  refine wpAny_bind (dt_get (by rw [in1_units]; omega) I g hk ry fun o s' I' ro => ?_)
  rw [hv] at ro
  obtain ⟨w', rfl, rw'⟩ := ro.some_of
  exact wpAny_pure ⟨w', rfl, wpAny_pure (h w' s' I' rw')⟩
theorem dt_setItem {Q : Unit → Shared → Prop} (hu : A.units + 20 < cLine) (I : Inv X pins σ H s) (e2 : DtE X.w.params H a m) (e3 : ∀ x ∈ m, x.1.At H x.2.1 [] ∧ x.1.h ≤ 8) (e4 : (m.map (·.1)).Nodup) (hz : m.length < sizeLine)
    (hk : TK H t y) (ry : RelV y u) (rv : RelV v r) (h : ∀ s', Inv X pins σ (upd H a (DtO X.w.params a (putM m t y v))) s' → Q () s') : wpAny (model X.prog X.w) A (setItem (.ref a) u r) Q E s := by
  obtain ⟨_, _, x, lo, _, _⟩ := dt_raw I ⟨m, rfl, e2, e3, e4⟩
  have T := x.ty
  unfold setItem
  try (with_reducible refine wpAny_holding ?_)
  refine wpAny_bind (wpAny_sequenceKey T (by decide) (wpAny_bind (wpAny_callSpecial?_slot (name := Str.ofString "__setitem__") T slot_dict_setitem (wpAny_call_entry slot_dict_setitem T entry_dict_setitem ?_ (args_dict_setitem _ _ _)))))
  show wpAny _ A.in1 (Builtin.Dict.notOrdered "__setitem__" ⟨[.ref a, u, r], []⟩ >>= _) _ _ s
  refine wpAny_bind (wpAny_notOrdered_dict T ?_)
  show wpAny _ A.in1 (dictSet a u r >>= _) _ _ s
  exact wpAny_bind (dt_set (by rw [in1_units]; omega) I e2 e3 e4 hz hk ry rv fun s' I' => wpAny_pure ⟨.none, rfl, wpAny_pure (h s' I')⟩)
theorem dt_getD {Q : Value → Shared → Prop} (hu : A.units + 20 < cLine) (I : Inv X pins σ H s) (g : DtAt X.w.params H a kvs) (hk : TK H t y) (ry : RelV y u) (rz : RelV z r) (h : ∀ w' s', Inv X pins σ H s' → RelV ((valV kvs t).getD z) w' → Q w' s') :
    wpAny (model X.prog X.w) A (call (.builtin "dict.get") [.ref a, u, r]) Q E s := by
  obtain ⟨_, _, x, lo, _, _⟩ := dt_raw I g
  refine wpAny_call_entry PySem.F.slot_dict_get x.ty PySem.F.entry_dict_get ?_ (PySem.F.args_dict_get_3 _ _ _)
  show wpAny _ A.in1 (dictGet a u >>= _) _ _ s
  refine wpAny_bind (dt_get (by rw [in1_units]; omega) I g hk ry fun o s' I' ro => ?_)
  have h := h (o.getD r) s' I' (ro.getD rz)
  cases o with
  | some w' => exact wpAny_pure ⟨w', rfl, h⟩
  | none => exact (show wpAny _ _ (Builtin.Dict.missed a u >>= _) _ _ _ from wpAny_bind (wpAny_missed_other lo (wpAny_pure ⟨r, rfl, h⟩)))
theorem dt_setDef {Q : Value → Shared → Prop} (hu : A.units + 20 < cLine) (I : Inv X pins σ H s) (e2 : DtE X.w.params H a m) (e3 : ∀ x ∈ m, x.1.At H x.2.1 [] ∧ x.1.h ≤ 8) (e4 : (m.map (·.1)).Nodup) (hz : m.length < sizeLine)
    (hk : TK H t y) (ry : RelV y u) (rz : RelV z r) (h1 : ∀ v w' s', valV (m.map fun x => (x.1, x.2.2)) t = some v → Inv X pins σ H s' → RelV v w' → Q w' s')
    (h2 : ∀ s', valV (m.map fun x => (x.1, x.2.2)) t = none → Inv X pins σ (upd H a (DtO X.w.params a (m ++ [(t, y, z)]))) s' → Q r s') :
    wpAny (model X.prog X.w) A (call (.builtin "dict.setdefault") [.ref a, u, r]) Q E s := by
  obtain ⟨_, _, x, lo, _, _⟩ := dt_raw I ⟨m, rfl, e2, e3, e4⟩
  obtain ⟨o, es, ep, q1, q2, q3, q4, q5, z1, z2⟩ := dt_ents I e2 e3 e4
  have hin := hk.1.isIn I ry
  refine wpAny_call_entry PySem.F.slot_dict_setdefault x.ty PySem.F.entry_dict_setdefault ?_ (PySem.F.args_dict_setdefault_3 _ _ _)
  unfold Builtin.«dict.setdefault»
  refine wpAny_bind ?_
  unfold Builtin.Dict.keyAndDefault
  refine wpAny_bind (wpAny_notOrdered_dict x.ty ?_)
  refine (show wpAny _ _ (pure (a, u, some r)) _ _ s from wpAny_pure ?_)
  show wpAny _ A.in1 (if (a == sysModules) = true then _ else (dictSetDefault a u r >>= _)) _ _ s
  rw [if_neg (by rw [lo]; simp)]
  refine wpAny_bind ?_
  unfold dictSetDefault
  try (with_reducible refine wpAny_holding ?_)
  refine wpAny_bind (hin.pyHash (by have := hk.2; rw [in1_units]; omega) fun n => ?_)
  refine wpAny_bind (find_tr (s := { s with toks := n }) q1 q3 q5 hin hk.2 (by rw [in1_units]; omega) (fun hn => ?_) fun j hj => ?_)
  · refine wpAny_bind (wpAny_rule (wpAny_bind (wpAny_updateDictKeys (s := { s with toks := n }) q1 q3 (wpAny_pure (wpAny_pure ⟨r, rfl, h2 _ (valV_none hn).1 (d_write (I.tok n) e2.mut (Heap.SameBut.update ..) ?_ (dto_ok ⟨by simp; omega, z2, _, _, ep + 1, Heap.get?_update_self _ q1 (Obj.isFreed_of_dict (Obj.data_mapDictKeys q3 _)), q2.mapDictKeys _, Obj.data_mapDictKeys q3 _, ?_⟩))⟩)) (by rw [q4.len]; omega))))
    · exact ⟨_, Heap.get?_update_self _ q1 (Obj.isFreed_of_dict (Obj.data_mapDictKeys q3 _))⟩
    · exact dtr_snoc q4 rfl ry rz
  · rw [List.getElem?_map] at hj
    obtain ⟨p, hp, rfl⟩ := Option.map_eq_some_iff.mp hj
    obtain ⟨en, f1, f2, f3, f4⟩ := q4.at_ j p hp
    refine wpAny_bind (wpAny_dictEntries (s := { s with toks := n }) q1 q3 ?_)
    rw [f1]
    exact wpAny_bind (wpAny_rule (wpAny_pure (wpAny_pure ⟨_, rfl, h1 _ _ _ (valV_get e4 hp) (I.tok _) f4⟩)))
theorem dt_list {Q : Value → Shared → Prop} (hh : A.handled = none) (I : Inv X pins σ H s) (e2 : DtE X.w.params H a m) (e3 : ∀ x ∈ m, x.1.At H x.2.1 [] ∧ x.1.h ≤ 8) (e4 : (m.map (·.1)).Nodup)
    (h : ∀ p s', H p = none → Inv X pins σ (upd H p (.lst (m.map (·.2.1)))) s' → Q (.ref p) s') : wpAny (model X.prog X.w) A (call (.type "list") [.ref a]) Q E s := by
  obtain ⟨o, es, ep, q1, q2, q3, q4, q5, z1, z2⟩ := dt_ents I e2 e3 e4
  refine PySem.W.kdl_call (raw_src (es := es) (ep := ep) z2) hh ⟨o, q1, q2, q3⟩ (by rw [q4.len]; exact z1) fun h' tk acc c hk hS hacc => h _ _ I.fresh ?_
  refine I.laid (a := s.heap.objs.size) (t' := tk) hk (Nat.le_refl _) ?_
  refine ⟨by rw [List.length_map]; exact z1, acc.toList, c, ?_, by simpa using hS⟩
  have hl : acc.size = m.length := hacc.1.trans q4.len
  refine vals_of (by simp [hl]) fun j x1 x2 hx1 hx2 => ?_
  rw [List.getElem?_map] at hx1
  obtain ⟨p, hp, rfl⟩ := Option.map_eq_some_iff.mp hx1
  obtain ⟨e, he, rfl⟩ := hacc.2 j x2 (by rw [← Array.getElem?_toList]; exact hx2)
  obtain ⟨en, f1, f2, f3, f4⟩ := q4.at_ j p hp
  rw [he] at f1
  cases f1
  exact f3
end
end L2
namespace L2
open PySem PySem.Spec PyProof.Rows
theorem tups_updE {H : Hp} {a : Addr} {φ : Heap → Prop} {o : HO} (h : H a = some (.ext φ)) : Tups H (upd H a o) := fun b ys e => by rw [upd_ne (ne_of e h (fun z => nomatch z))]; exact e
theorem tr_tups {H H' : Hp} {t : Tr} {v : V} (h : t.At H v []) (k : Tups H H') : t.At H' v [] := h.mono ⟨k, fun _ m => absurd m (by simp)⟩
theorem tr_tups_s {H H' : Hp} {ts : List Tr} {vs : List V} (h : Tr.Ats H ts vs []) (k : Tups H H') : Tr.Ats H' ts vs [] := h.mono ⟨k, fun _ m => absurd m (by simp)⟩
theorem DtAt.ext {P : Params} {H : Hp} {a : Addr} {kvs : List (Tr × V)} (g : DtAt P H a kvs) : ∃ φ, H a = some (.ext φ) := let ⟨_, _, ⟨φ, e, _⟩, _⟩ := g; ⟨φ, e⟩
theorem DtAt.mono {P : Params} {H H' : Hp} {a : Addr} {kvs : List (Tr × V)} (g : DtAt P H a kvs) (k : Tups H H') (e : H' a = H a) : DtAt P H' a kvs := by
  obtain ⟨m, e1, ⟨φ, e2, hφ⟩, e3, e4⟩ := g
  exact ⟨m, e1, ⟨φ, e.trans e2, hφ⟩, fun x hx => ⟨tr_tups (e3 x hx).1 k, (e3 x hx).2⟩, e4⟩
theorem dt_putM {P : Params} {H : Hp} {a : Addr} {m : List (Tr × V × V)} {t : Tr} {y v : V} (e2 : DtE P H a m) (e3 : ∀ x ∈ m, x.1.At H x.2.1 [] ∧ x.1.h ≤ 8) (e4 : (m.map (·.1)).Nodup) (hk : TK H t y) :
    DtAt P (upd H a (DtO P a (putM m t y v))) a (putK (m.map fun x => (x.1, x.2.2)) t v) := by
  obtain ⟨φ, e2, hφ⟩ := e2
  refine ⟨_, putM_kvs m t y v, .of upd_same, ?_, putM_nd t y v e4⟩
  exact putM_all (p := fun t y => t.At (upd H a (DtO P a (putM m _ _ _))) y [] ∧ t.h ≤ 8) (fun x hx => ⟨tr_tups (e3 x hx).1 (tups_updE e2), (e3 x hx).2⟩) ⟨tr_tups hk.1 (tups_updE e2), hk.2⟩
theorem putM_new {m : List (Tr × V × V)} {t : Tr} {y v : V} (h : valV (m.map fun x => (x.1, x.2.2)) t = none) : putM m t y v = m ++ [(t, y, v)] := by
  unfold putM
  rw [if_neg]
  intro z
  obtain ⟨x, hx, rfl⟩ := List.mem_map.mp z
  have := valV_not h
  exact this (by
    rw [List.map_map]
    exact List.mem_map_of_mem (f := fun x => x.1) hx)
def tTNew (P : Params) : TE := fun _ H Q => ∀ p o, H p = none → DtAt P (upd H p o) p [] → Q (.ref p) (upd H p o)
def tTGet (P : Params) (td ty : TE) : TE := fun σ H Q => td σ H fun x H1 => ty σ H1 fun y H2 => ∃ a kvs t v, x = .ref a ∧ DtAt P H2 a kvs ∧ TK H2 t y ∧ valV kvs t = some v ∧ Q v H2
def sTPut (P : Params) (td ty tv : TE) : TS := fun D σ H => tv σ H fun v H1 => td σ H1 fun x H2 => ty σ H2 fun y H3 => ∃ a kvs t, x = .ref a ∧ DtAt P H3 a kvs ∧ TK H3 t y ∧ kvs.length < sizeLine ∧ ∀ o, DtAt P (upd H3 a o) a (putK kvs t v) → D.nx σ (upd H3 a o)
def tTGet2 (P : Params) (td ty tx : TE) : TE := fun σ H Q => td σ H fun x H1 => ∃ a kvs, x = .ref a ∧ DtAt P H1 a kvs ∧ ty σ H1 fun y H2 => tx σ H2 fun z H3 => ∃ kvs' t, DtAt P H3 a kvs' ∧ TK H3 t y ∧ Q ((valV kvs' t).getD z) H3
def tTSetD (P : Params) (td ty tx : TE) : TE := fun σ H Q => td σ H fun x H1 => ∃ a kvs, x = .ref a ∧ DtAt P H1 a kvs ∧ ty σ H1 fun y H2 => tx σ H2 fun z H3 => ∃ kvs' t, DtAt P H3 a kvs' ∧ TK H3 t y ∧ kvs'.length < sizeLine ∧
  (∀ v, valV kvs' t = some v → Q v H3) ∧ (valV kvs' t = none → ∀ o, DtAt P (upd H3 a o) a (kvs' ++ [(t, z)]) → Q z (upd H3 a o))
def rListT (P : Params) : List V → Hp → VK → Prop := fun xs H Q => ∃ a kvs, xs = [.ref a] ∧ DtAt P H a kvs ∧ ∀ p ks H', H p = none → Same H H' → H' p = some (.lst ks) → Tr.Ats H' (kvs.map (·.1)) ks [] → Q (.ref p) H'
section
variable {X : Cx} {o i e f value : Expr} {pos pos' apos cpos : Pos} {td ty tv tx : TE} {P : Params}
theorem dt_new0 (h : Heap) (P : Params) (hb : sysModules < h.objs.size) : DtP P h.objs.size [] (h.push { cls := .type "dict", data := .dict #[] }) :=
  ⟨Nat.zero_le _, beq_eq_false_iff_ne.mpr (Ne.symm (Nat.ne_of_lt hb)), _, #[], 0, Heap.get?_push_size _ rfl, ⟨rfl, rfl, rfl⟩, rfl, rfl, fun j x hx => by simp at hx⟩
theorem pe_tnew (P : Params) : PE X (.Dict [] [] pos) (tTNew P) := fun pins s σ H Q I h =>
  wpAny_Dict_empty ⟨.ref s.heap.objs.size, _, I.laid (a := s.heap.objs.size) (o := DtO P s.heap.objs.size []) (t' := s.toks) (fun _ _ q => Heap.get?_push_of_some _ q) (Nat.le_refl _) (dto_ok (dt_new0 s.heap P I.big)), rfl,
    h _ _ (I.hok.fresh (Nat.le_refl _)) ⟨[], rfl, .of upd_same, fun x hx => absurd hx (by simp), List.nodup_nil⟩⟩
theorem pe_tget (hP : X.w.params = P) (hu : X.A.units + 64 < cLine) (ho : PE X o td) (hi : PE X i ty) (hs : NoSl i) : PE X (.Subscript o i pos) (tTGet P td ty) := by
  subst hP
  intro pins s σ H Q I h
  refine subD_of PySem.F.slot_dict_getitem.lookup hs (thn (ho pins s σ H _ I h) fun u s1 ⟨x, H1, I1, rx, q1⟩ => thn (hi pins s1 σ H1 _ I1 q1) fun iv s2 ⟨y, H2, I2, ry, a, kvs, t, v, ex, g, hk, hv, q2⟩ => ?_)
  subst ex
  obtain rfl : u = Value.ref a := rx
  obtain ⟨_, _, x, _⟩ := dt_raw I2 g
  exact ⟨x.ty, dt_getItem (by omega) I2 g hk ry hv fun w' s3 I3 rw' => ⟨v, H2, I3, rw', q2⟩⟩
theorem ps_tput (hP : X.w.params = P) (hu : X.A.units + 64 < cLine) (ho : PE X o td) (hi : PE X i ty) (hv : PE X value tv) (hs : swapsWith value (some (.Subscript o i pos')) pos.line X.env = pure false) :
    PS X (.Assign [.Subscript o i pos'] value pos) (sTPut P td ty tv) := by
  subst hP
  intro pins s σ H D I h
  refine wpAny_Assign_Subscript (thn (hv pins s σ H _ I h) fun r s1 ⟨v, H1, I1, rv, q1⟩ => thn (ho pins s1 σ H1 _ I1 q1) fun u s2 ⟨x, H2, I2, rx, q2⟩ => thn (hi pins s2 σ H2 _ I2 q2) fun iv s3 ⟨y, H3, I3, ry, a, kvs, t, ex, g, hk, hz, q3⟩ => ?_) hs
  subst ex
  obtain rfl : u = Value.ref a := rx
  obtain ⟨m, rfl, e2, e3, e4⟩ := g
  rw [List.length_map] at hz
  exact dt_setItem (by omega) I3 e2 e3 e4 hz hk ry rv fun s4 I4 => ⟨σ, _, I4, q3 _ (dt_putM e2 e3 e4 hk)⟩
theorem pe_tget2 (hP : X.w.params = P) (hu : X.A.units + 64 < cLine) (ho : PE X o td) (he : PE X e ty) (hf : PE X f tx) (m : M2 X o "get" apos e f cpos) : PE X (.Call (.Attribute o "get" apos) [e, f] [] cpos) (tTGet2 P td ty tx) := by
  subst hP
  intro pins s σ H Q I h
  refine wpAny_Call_method m.base m.few m.line PySem.F.plainAttrs_dict PySem.F.slot_dict_get PySem.F.type_dict_get (thn (ho pins s σ H _ I h) fun u s1 ⟨x, H1, I1, rx, a, kvs, ex, g1, q1⟩ => ?_)
  subst ex
  obtain rfl : u = Value.ref a := rx
  obtain ⟨es, ep, x, _⟩ := dt_raw I1 g1
  refine ⟨x.ty, (fun b q => by cases q; obtain ⟨ob, h1, h2, _⟩ := x; exact ⟨ob, h1, h2.2.1⟩), ?_⟩
  rw [m.trees]
  refine Calls.callWith_builtin rfl (Calls.evalArgs_plain (Calls.spliced_cons (thn (he pins s1 σ H1 _ I1 q1) fun iv s2 ⟨y, H2, I2, ry, q2⟩ => Calls.spliced_cons (thn (hf pins s2 σ H2 _ I2 q2) fun fv s3 ⟨z, H3, I3, rz, kvs', t, g, hk, q3⟩ => Calls.spliced_nil ?_))))
  exact dt_getD (by omega) I3 g hk ry rz fun w' s4 I4 rw' => ⟨_, H3, I4, rw', q3⟩
theorem pe_tsetd (hP : X.w.params = P) (hu : X.A.units + 64 < cLine) (ho : PE X o td) (he : PE X e ty) (hf : PE X f tx) (m : M2 X o "setdefault" apos e f cpos) : PE X (.Call (.Attribute o "setdefault" apos) [e, f] [] cpos) (tTSetD P td ty tx) := by
  subst hP
  intro pins s σ H Q I h
  refine wpAny_Call_method m.base m.few m.line PySem.F.plainAttrs_dict PySem.F.slot_dict_setdefault PySem.F.type_dict_setdefault (thn (ho pins s σ H _ I h) fun u s1 ⟨x, H1, I1, rx, a, kvs, ex, g1, q1⟩ => ?_)
  subst ex
  obtain rfl : u = Value.ref a := rx
  obtain ⟨es, ep, x, _⟩ := dt_raw I1 g1
  refine ⟨x.ty, (fun b q => by cases q; obtain ⟨ob, h1, h2, _⟩ := x; exact ⟨ob, h1, h2.2.1⟩), ?_⟩
  rw [m.trees]
  refine Calls.callWith_builtin rfl (Calls.evalArgs_plain (Calls.spliced_cons (thn (he pins s1 σ H1 _ I1 q1) fun iv s2 ⟨y, H2, I2, ry, q2⟩ => Calls.spliced_cons (thn (hf pins s2 σ H2 _ I2 q2) fun fv s3 ⟨z, H3, I3, rz, kvs', t, g, hk, hz, n1, n2⟩ => Calls.spliced_nil ?_))))
  obtain ⟨mm, rfl, e2, e3, e4⟩ := g
  rw [List.length_map] at hz
  refine dt_setDef (by omega) I3 e2 e3 e4 hz hk ry rz (fun v w' s' hv I' rv => ⟨v, H3, I', rv, n1 v hv⟩) fun s' hv I' => ⟨z, _, I', rz, n2 hv _ ?_⟩
  have := dt_putM (v := z) e2 e3 e4 hk
  rw [putM_new hv, putK_new z hv] at this
  exact this
theorem cl_listT (hP : X.w.params = P) (hc : X.calm = true) : CallR X (.type "list") (rListT P) := by
  subst hP
  intro pins s σ H xs us Q I r h
  obtain ⟨a, kvs, rfl, ⟨m, rfl, e2, e3, e4⟩, q⟩ := h
  cases r with
  | cons r1 r2 =>
  cases r2
  cases r1
  refine dt_list (I.ok.hd hc) I e2 e3 e4 fun p s' hp I' => ⟨.ref p, _, I', rfl, q p _ _ hp (Same.new hp) upd_same ?_⟩
  have sm : Same H (upd H p (.lst (m.map (·.2.1)))) := Same.new hp
  clear I'
  generalize upd H p (.lst (m.map (·.2.1))) = H' at sm
  clear q e2 e4
  rw [List.map_map]
  induction m with
  | nil => simp [Tr.Ats]
  | cons x m ih =>
    simp only [List.map_cons, Tr.Ats]
    exact ⟨_, _, [], [], rfl, rfl, tr_tups (e3 x List.mem_cons_self).1 sm.tups, ih (fun z hz => e3 z (List.mem_cons_of_mem _ hz))⟩
end
def rSum (K : PySem.W.Frag) : List V → Hp → VK → Prop := fun xs H Q => ∃ (a : Addr) (ns : List Int), xs = [.ref a] ∧ SqL K H a (ns.map V.int) ∧ Q (.int ns.sum) H
section
variable {X : Cx}
theorem cl_sum (hc : X.calm = true) : CallR X (.builtin "sum") (rSum X.K) := by
  intro pins s σ H xs us Q I r h
  obtain ⟨a, ns, rfl, hS, q⟩ := h
  cases r with
  | cons r1 r2 =>
  cases r2
  cases r1
  obtain ⟨its, v1, p1, _⟩ := I.list hS
  have hi := intsAre_of v1
  obtain ⟨ys, e⟩ := hi.allInts.items
  have hn := nums_intItems (xs := ys)
  rw [← e, show its.toArray.toList = its from rfl, hi.numsOf] at hn
  refine sum_intListG (xs := ys) (I.ok.hd hc) (e ▸ p1.isList) fun h' tk t' hk => ⟨.int ns.sum, H, I.kept hk, ⟨t', ?_⟩, q⟩
  rw [preSum_eq, List.take_of_length_le (by simp), hn]
end
end L2
namespace L2
open PySem PySem.Spec PyProof.Rows
section
variable {P : Params} {σ : St} {H : Hp} {Q : VK} {td ty tx tv : TE} {nn bb cc : St → Hp → Prop} {rr : VK}
theorem i_tnew (h : ∀ p o, H p = none → DtAt P (upd H p o) p [] → Q (.ref p) (upd H p o)) : tTNew P σ H Q := h
theorem i_tget (h : td σ H fun x H1 => ty σ H1 fun y H2 => ∃ a kvs t v, x = .ref a ∧ DtAt P H2 a kvs ∧ TK H2 t y ∧ valV kvs t = some v ∧ Q v H2) : tTGet P td ty σ H Q := h
theorem i_tput (h : tv σ H fun v H1 => td σ H1 fun x H2 => ty σ H2 fun y H3 => ∃ a kvs t, x = .ref a ∧ DtAt P H3 a kvs ∧ TK H3 t y ∧ kvs.length < sizeLine ∧ ∀ o, DtAt P (upd H3 a o) a (putK kvs t v) → nn σ (upd H3 a o)) : sTPut P td ty tv ⟨nn, rr, bb, cc⟩ σ H := h
theorem i_tget2 (h : td σ H fun x H1 => ∃ a kvs, x = .ref a ∧ DtAt P H1 a kvs ∧ ty σ H1 fun y H2 => tx σ H2 fun z H3 => ∃ kvs' t, DtAt P H3 a kvs' ∧ TK H3 t y ∧ Q ((valV kvs' t).getD z) H3) : tTGet2 P td ty tx σ H Q := h
theorem i_tsetd (h : td σ H fun x H1 => ∃ a kvs, x = .ref a ∧ DtAt P H1 a kvs ∧ ty σ H1 fun y H2 => tx σ H2 fun z H3 => ∃ kvs' t, DtAt P H3 a kvs' ∧ TK H3 t y ∧ kvs'.length < sizeLine ∧
  (∀ v, valV kvs' t = some v → Q v H3) ∧ (valV kvs' t = none → ∀ o, DtAt P (upd H3 a o) a (kvs' ++ [(t, z)]) → Q z (upd H3 a o))) : tTSetD P td ty tx σ H Q := h
end
def rEqNil (K : PySem.W.Frag) : R2 := fun x y H Q => ∃ a b xs, x = .ref a ∧ y = .ref b ∧ SqL K H a xs ∧ SqL K H b [] ∧ Q (.bl xs.isEmpty) H
section
variable {X : Cx}
theorem kop_eqNil (K : PySem.W.Frag) (hu : X.A.units + 64 < cLine) (hK : X.K = K := by rfl) : OpR X (compareOp .Eq) (rEqNil K) := by
  subst hK
  intro pins s σ H x y v u Q I rx ry h
  obtain ⟨a, b, xs, rfl, rfl, h1, h2, q⟩ := h
  cases rx
  cases ry
  obtain ⟨is1, q1, p1, _⟩ := I.list h1
  obtain ⟨is2, q2, p2, _⟩ := I.list h2
  cases q2
  cases q1 with
  | nil =>
    have := SeqAt.RcAt.lists (A := X.A) (s := s) (e := fun _ => true) p1.isList p2.isList rfl (by omega) (fun j h1 _ => absurd h1 (by simp))
    exact this X.prog X.w X.xe (EP X pins σ Q) ⟨.bl true, H, I, rfl, q⟩
  | cons r1 r2 =>
    have := SeqAt.RcAt.lists_lengths (A := X.A) (s := s) p1.isList p2.isList (by simp) (by omega)
    exact this X.prog X.w X.xe (EP X pins σ Q) ⟨.bl false, H, I, rfl, q⟩
theorem kcl_sum (K : PySem.W.Frag) (h : X.calm = true := by rfl) (hK : X.K = K := by rfl) : CallR X (.builtin "sum") (rSum K) := hK ▸ cl_sum h
end
section
variable {K : PySem.W.Frag} {H : Hp} {Q : VK}
theorem i_eqNil {a b : Addr} {xs : List V} (h1 : SqL K H a xs) (h2 : SqL K H b []) (h : Q (.bl xs.isEmpty) H) : rEqNil K (.ref a) (.ref b) H Q := ⟨a, b, xs, rfl, rfl, h1, h2, h⟩
theorem i_sum {a : Addr} {ns : List Int} (h1 : SqL K H a (ns.map V.int)) (h : Q (.int ns.sum) H) : rSum K [.ref a] H Q := ⟨a, ns, rfl, h1, h⟩
end
end L2
namespace L2
open PySem PySem.Spec PyProof.Rows
end L2
namespace L2
open PySem PySem.Spec PyProof.Rows
section
variable {X : Cx} {o e value : Expr} {f : Str} {pos pos' : Pos} {ta tv : TE}
end
section
variable {K : PySem.W.Frag} {σ : St} {H : Hp} {Q : VK} {ta tv : TE} {t : TA} {f m : Str} {C : Addr} {sp : Sp} {dvs : List V} {E : XK} {nn bb cc : St → Hp → Prop} {rr : VK}
end
end L2
namespace L2
open PySem PySem.Spec PyProof.Rows
inductive Tw where
  | sc (v : V)
  | tup (xs : List Tw)
  | lst (xs : List Tw)
def Scal : V → Prop
  | .non | .int _ | .str _ | .bl _ => True
  | _ => False
mutual
def Tw.At (H : Hp) : Tw → V → List Addr → Prop
  | .sc x, v, fs => v = x ∧ Scal x ∧ fs = []
  | .tup xs, v, fs => ∃ a vs, v = .ref a ∧ H a = some (.tup vs) ∧ Tw.Ats H xs vs fs
  | .lst xs, v, fs => ∃ a vs gs, v = .ref a ∧ H a = some (.lst vs) ∧ Tw.Ats H xs vs gs ∧ fs = a :: gs
def Tw.Ats (H : Hp) : List Tw → List V → List Addr → Prop
  | [], vs, fs => vs = [] ∧ fs = []
  | x :: xs, vs, fs => ∃ v ws f g, vs = v :: ws ∧ fs = f ++ g ∧ Tw.At H x v f ∧ Tw.Ats H xs ws g
end
mutual
theorem Tw.At.mono {H H' : Hp} : ∀ {x : Tw} {v : V} {fs : List Addr}, x.At H v fs → Keep fs H H' → x.At H' v fs
  | .sc _, _, _, h, _ => by simpa only [Tw.At] using h
  | .tup xs, v, fs, h, k => by
    simp only [Tw.At] at h ⊢
    obtain ⟨a, vs, e, g, r⟩ := h
    exact ⟨a, vs, e, k.1 _ _ g, Tw.Ats.mono r k⟩
  | .lst xs, v, fs, h, k => by
    simp only [Tw.At] at h ⊢
    obtain ⟨a, vs, gs, e, g, r, rfl⟩ := h
    exact ⟨a, vs, gs, e, k.2 _ (by simp) _ g, Tw.Ats.mono r (k.sub fun b m => by simp [m]), rfl⟩
theorem Tw.Ats.mono {H H' : Hp} : ∀ {xs : List Tw} {vs : List V} {fs : List Addr}, Tw.Ats H xs vs fs → Keep fs H H' → Tw.Ats H' xs vs fs
  | [], _, _, h, _ => by simpa only [Tw.Ats] using h
  | x :: xs, vs, fs, h, k => by
    simp only [Tw.Ats] at h ⊢
    obtain ⟨v, ws, f, g, e, rfl, a, b⟩ := h
    exact ⟨v, ws, f, g, e, rfl, Tw.At.mono a (k.sub fun c m => by simp [m]), Tw.Ats.mono b (k.sub fun c m => by simp [m])⟩
end
theorem Tw.Ats.same {H H' : Hp} {xs : List Tw} {vs : List V} {fs : List Addr} (h : Tw.Ats H xs vs fs) (s : Same H H') : Tw.Ats H' xs vs fs := h.mono (s.keep _)
theorem Tw.Ats.len {H : Hp} : ∀ {xs : List Tw} {vs : List V} {fs : List Addr}, Tw.Ats H xs vs fs → vs.length = xs.length
  | [], vs, fs, h => by simp only [Tw.Ats] at h; rw [h.1]; rfl
  | x :: xs, vs, fs, h => by
    simp only [Tw.Ats] at h
    obtain ⟨v, ws, f, g, rfl, rfl, _, b⟩ := h
    simp [b.len]
theorem Tw.Ats.snoc {H : Hp} : ∀ {xs : List Tw} {vs : List V} {fs gs : List Addr} {x : Tw} {v : V}, Tw.Ats H xs vs fs → x.At H v gs → Tw.Ats H (xs ++ [x]) (vs ++ [v]) (fs ++ gs)
  | [], vs, fs, gs, x, v, h, a => by
    simp only [Tw.Ats] at h
    obtain ⟨rfl, rfl⟩ := h
    simp only [List.nil_append, Tw.Ats]
    exact ⟨v, [], gs, [], rfl, by simp, a, rfl, rfl⟩
  | y :: ys, vs, fs, gs, x, v, h, a => by
    simp only [Tw.Ats, List.cons_append] at h ⊢
    obtain ⟨w, ws, f, g, rfl, rfl, b, c⟩ := h
    exact ⟨w, ws ++ [v], f, g ++ gs, rfl, by simp, b, c.snoc a⟩
theorem Tw.Ats.get {H : Hp} : ∀ {xs : List Tw} {vs : List V} {fs : List Addr}, Tw.Ats H xs vs fs → ∀ (i : Nat) (v : V), vs[i]? = some v → ∃ x f, xs[i]? = some x ∧ x.At H v f ∧ ∀ a ∈ f, a ∈ fs
  | [], vs, fs, h, i, v, e => by simp only [Tw.Ats] at h; rw [h.1] at e; simp at e
  | x :: xs, vs, fs, h, i, v, e => by
    simp only [Tw.Ats] at h
    obtain ⟨w, ws, f, g, rfl, rfl, a, b⟩ := h
    cases i with
    | zero =>
      obtain rfl : w = v := by simpa using e
      exact ⟨x, f, rfl, a, fun c m => by simp [m]⟩
    | succ i =>
      obtain ⟨y, f', h1, h2, h3⟩ := b.get i v (by simpa using e)
      exact ⟨y, f', by simpa using h1, h2, fun c m => by simp [h3 c m]⟩
mutual
def Tw.h : Tw → Nat
  | .sc _ => 0
  | .tup xs => Tw.hs xs + 1
  | .lst xs => Tw.hs xs + 1
def Tw.hs : List Tw → Nat
  | [] => 0
  | x :: xs => max x.h (Tw.hs xs)
end
theorem scal_eq {A : Around} {s : Shared} {x : V} {u z : Value} (h : Scal x) (r1 : RelV x u) (r2 : RelV x z) : SeqAt.EqAt A s u z true := by
  cases x with
  | non => cases r1; cases r2; exact SeqAt.EqAt.same _
  | int i =>
    obtain ⟨t1, rfl⟩ := r1
    obtain ⟨t2, rfl⟩ := r2
    have := SeqAt.EqAt.int_int (A := A) (s := s) i t1 i t2
    simpa using this
  | str i =>
    obtain ⟨t1, rfl⟩ := r1
    obtain ⟨t2, rfl⟩ := r2
    have := SeqAt.EqAt.str_str (A := A) (s := s) i t1 i t2
    simpa using this
  | bl b =>
    cases (show u = Value.bool b from r1)
    cases (show z = Value.bool b from r2)
    exact SeqAt.EqAt.same _
  | _ => exact h.elim
section
variable {X : Cx} {pins : List (Addr × Obj)} {σ : St} {H : Hp} {s : Shared}
mutual
theorem Tw.eqAt (I : Inv X pins σ H s) : ∀ {t : Tw} {A : Around} {v w : V} {fs gs : List Addr} {u z : Value}, t.At H v fs → t.At H w gs → RelV v u → RelV w z → A.units + t.h < cLine → SeqAt.EqAt A s u z true
  | .sc x, A, v, w, fs, gs, u, z, h1, h2, r1, r2, hu => by
    simp only [Tw.At] at h1 h2
    obtain ⟨rfl, sc, -⟩ := h1
    obtain ⟨rfl, -, -⟩ := h2
    exact scal_eq sc r1 r2
  | .tup xs, A, v, w, fs, gs, u, z, h1, h2, r1, r2, hu => by
    simp only [Tw.At] at h1 h2
    obtain ⟨a, vs, rfl, e1, c1⟩ := h1
    obtain ⟨b, ws, rfl, e2, c2⟩ := h2
    cases r1
    cases r2
    by_cases hab : a = b
    · subst hab
      exact SeqAt.EqAt.same _
    refine SeqAt.EqAt.of_refs hab ?_
    obtain ⟨is1, q1, p1, _⟩ := I.tuple (SqT.of e1)
    obtain ⟨is2, q2, p2, _⟩ := I.tuple (SqT.of e2)
    simp only [Tw.h] at hu
    have hl : is1.length = is2.length := by rw [← q1.length, ← q2.length, c1.len, c2.len]
    have := SeqAt.RcAt.tuples (A := A) (s := s) (e := fun _ => true) p1 p2 (by omega) (fun j h1 h2 => by
      have := Tw.eqAts I (A := A.in1) c1 c2 q1 q2 (by rw [in1_units]; omega) j (by simpa using h1) (by simpa using h2)
      simpa using this)
    simpa [hl, all_tt] using this
  | .lst xs, A, v, w, fs, gs, u, z, h1, h2, r1, r2, hu => by
    simp only [Tw.At] at h1 h2
    obtain ⟨a, vs, _, rfl, e1, c1, _⟩ := h1
    obtain ⟨b, ws, _, rfl, e2, c2, _⟩ := h2
    cases r1
    cases r2
    by_cases hab : a = b
    · subst hab
      exact SeqAt.EqAt.same _
    refine SeqAt.EqAt.of_refs hab ?_
    obtain ⟨is1, q1, p1, _⟩ := I.list (SqL.of e1)
    obtain ⟨is2, q2, p2, _⟩ := I.list (SqL.of e2)
    simp only [Tw.h] at hu
    have hl : is1.length = is2.length := by rw [← q1.length, ← q2.length, c1.len, c2.len]
    have := SeqAt.RcAt.lists (A := A) (s := s) (e := fun _ => true) p1.isList p2.isList (by simpa using hl) (by omega) (fun j h1 h2 => by
      have := Tw.eqAts I (A := A.in1) c1 c2 q1 q2 (by rw [in1_units]; omega) j (by simpa using h1) (by simpa using h2)
      simpa using this)
    simpa [all_tt] using this
theorem Tw.eqAts (I : Inv X pins σ H s) : ∀ {ts : List Tw} {A : Around} {vs ws : List V} {fs gs : List Addr} {us zs : List Value}, Tw.Ats H ts vs fs → Tw.Ats H ts ws gs → Vals vs us → Vals ws zs → A.units + Tw.hs ts < cLine →
    ∀ (j : Nat) (h1 : j < us.length) (h2 : j < zs.length), SeqAt.EqAt A s us[j] zs[j] true
  | [], A, vs, ws, fs, gs, us, zs, c1, c2, q1, q2, hu, j, h1, h2 => by
    simp only [Tw.Ats] at c1
    obtain ⟨rfl, -⟩ := c1
    cases q1
    exact absurd h1 (by simp)
  | t :: ts, A, vs, ws, fs, gs, us, zs, c1, c2, q1, q2, hu, j, h1, h2 => by
    simp only [Tw.Ats] at c1 c2
    obtain ⟨v, vs, f, g, rfl, rfl, a1, b1⟩ := c1
    obtain ⟨w, ws, f', g', rfl, rfl, a2, b2⟩ := c2
    cases q1 with
    | cons r1 q1 =>
    cases q2 with
    | cons r2 q2 =>
    simp only [Tw.hs] at hu
    cases j with
    | zero => exact Tw.eqAt I a1 a2 r1 r2 (by omega)
    | succ j => exact Tw.eqAts I b1 b2 q1 q2 (by omega) j (by simpa using h1) (by simpa using h2)
end
def rEqW : R2 := fun x y H Q => ∃ t fs gs, (Tw.tup t).At H x fs ∧ (Tw.tup t).At H y gs ∧ Tw.hs t ≤ 50 ∧ Q (.bl true) H
def rNeW : R2 := fun x y H Q => ∃ t fs gs, (Tw.tup t).At H x fs ∧ (Tw.tup t).At H y gs ∧ Tw.hs t ≤ 50 ∧ Q (.bl false) H
theorem tw_rc (I : Inv X pins σ H s) {A : Around} {t : List Tw} {x y : V} {v u : Value} {fs gs : List Addr} (rx : RelV x v) (ry : RelV y u) (h1 : (Tw.tup t).At H x fs) (h2 : (Tw.tup t).At H y gs) (hu : A.units + Tw.hs t + 4 < cLine) : SeqAt.RcAt A s v u true ∧ SeqAt.RcNeAt A s v u false := by
  simp only [Tw.At] at h1 h2
  obtain ⟨a, vs, rfl, e1, c1⟩ := h1
  obtain ⟨b, ws, rfl, e2, c2⟩ := h2
  cases rx
  cases ry
  obtain ⟨is1, q1, p1, _⟩ := I.tuple (SqT.of e1)
  obtain ⟨is2, q2, p2, _⟩ := I.tuple (SqT.of e2)
  have hl : is1.length = is2.length := by rw [← q1.length, ← q2.length, c1.len, c2.len]
  have hh : ∀ (j : Nat) (h1 : j < is1.toArray.size) (h2 : j < is2.toArray.size), SeqAt.EqAt A.in1 s is1.toArray[j] is2.toArray[j] ((fun _ => true) j) := fun j h1 h2 => by
    have := Tw.eqAts I (A := A.in1) c1 c2 q1 q2 (by rw [in1_units]; omega) j (by simpa using h1) (by simpa using h2)
    simpa using this
  have k1 := SeqAt.RcAt.tuples (A := A) (s := s) (e := fun _ => true) p1 p2 (by omega) hh
  have k2 := SeqAt.RcNeAt.tuples (A := A) (s := s) (e := fun _ => true) p1 p2 (by omega) hh
  rw [show ((List.range (min is1.toArray.size is2.toArray.size)).all (fun _ => true) && is1.toArray.size == is2.toArray.size) = true by simp [hl]] at k1 k2
  exact ⟨k1, k2⟩
theorem kop_eqW (hu : X.A.units + 64 < cLine) : OpR X (compareOp .Eq) rEqW := by
  intro pins s σ H x y v u Q I rx ry h
  obtain ⟨t, fs, gs, h1, h2, hh, q⟩ := h
  exact (tw_rc I rx ry h1 h2 (A := X.A) (by omega)).1 X.prog X.w X.xe (EP X pins σ Q) ⟨.bl true, H, I, rfl, q⟩
theorem kop_neW (hu : X.A.units + 64 < cLine) : OpR X (compareOp .NotEq) rNeW := by
  intro pins s σ H x y v u Q I rx ry h
  obtain ⟨t, fs, gs, h1, h2, hh, q⟩ := h
  exact (tw_rc I rx ry h1 h2 (A := X.A) (by omega)).2 X.prog X.w X.xe (EP X pins σ Q) ⟨.bl false, H, I, rfl, q⟩
theorem i_eqW {H : Hp} {Q : VK} {x y : V} {t : List Tw} {fs gs : List Addr} (h1 : (Tw.tup t).At H x fs) (h2 : (Tw.tup t).At H y gs) (hh : Tw.hs t ≤ 50) (h : Q (.bl true) H) : rEqW x y H Q := ⟨t, fs, gs, h1, h2, hh, h⟩
theorem i_neW {H : Hp} {Q : VK} {x y : V} {t : List Tw} {fs gs : List Addr} (h1 : (Tw.tup t).At H x fs) (h2 : (Tw.tup t).At H y gs) (hh : Tw.hs t ≤ 50) (h : Q (.bl false) H) : rNeW x y H Q := ⟨t, fs, gs, h1, h2, hh, h⟩
end
end L2
namespace L2
open PySem PySem.Spec PyProof.Rows
section
variable {X : Cx}
end
theorem for_enum {K : PySem.W.Frag} {a : Addr} {xs : List V} {g : TG} {tb : TS} {D : Ends} {σ : St} {H : Hp} (Pv : Nat → St → Hp → Prop) (h0 : Pv 0 σ H) (hl : ∀ i σ H, i ≤ xs.length → Pv i σ H → SqL K H a xs)
    (hs : ∀ i x σ H q H2, xs[i]? = some x → Pv i σ H → Same H H2 → H2 q = some (.tup [.int (i : Nat), x]) → g (.ref q) σ H2 fun σ1 H1 => tb { D with nx := Pv (i + 1), ct := Pv (i + 1), bk := D.nx } σ1 H1)
    (hd : ∀ σ H, Pv xs.length σ H → D.nx σ H) : ForEnd (Ite K a) g tb D σ H := by
  refine ⟨fun i m σ H => m = xs.length - i ∧ i ≤ xs.length ∧ Pv i σ H, ⟨xs.length, by simp, Nat.zero_le _, h0⟩, ?_⟩
  rintro i m σ' H' ⟨rfl, hi, p⟩
  have hq := hl i σ' H' hi p
  by_cases hlt : i < xs.length
  · refine .inr ⟨⟨xs, xs[i], hq, by simp [hlt]⟩, Pv (i + 1), fun σ2 H2 p' => ⟨xs.length - (i + 1), by omega, rfl, hlt, p'⟩, fun v H2 y => ?_⟩
    obtain ⟨q, x, rfl, hn, sm, hT, hx⟩ := y
    exact hs i x σ' H' q H2 (hx xs hq) p sm hT
  · have e : i = xs.length := by omega
    subst e
    exact .inl ⟨⟨xs, hq, Nat.le_refl _⟩, hd σ' H' p⟩
section
variable {K : PySem.W.Frag} {H : Hp} {Q : VK}
end
end L2
namespace L2
open PySem PySem.Spec PyProof.Rows
end L2
namespace L2
open PySem PySem.Spec PyProof.Rows
def Itr3 (lo : Int) (n : Nat) : It := ⟨fun i _ => i < n, fun i H x H' => H' = H ∧ x = .int (lo + i * 3), fun i _ => n ≤ i⟩
theorem turn_range3 {P : Program} {w : World} {K : PySem.W.Frag} {tg : Expr} (it : Addr) (lo : Int) (n : Nat) : Turn P w K tg (Itr3 lo n) [it] it (fun i h => IsRangeIter h it (lo + (i : Nat) * 3) ((n : Int) - (i : Nat)) 3) where
  mem := by simp
  obj := fun i h st b hb => by
    have e : b = it := by simpa using hb
    subst e
    exact ⟨_, st, fun v z => by
      have z' : Data.fields _ = Data.cell v := z
      cases z'⟩
  keep := fun i h h' st k => k it (by simp) _ st
  item := by
    intro X hP hw hK hc i pins s σ H E I hf st hg
    subst hP hw hK
    obtain ⟨f0, f1, f2, f3, f4, f5⟩ := hf it (by simp)
    have W := Walks.range (prog := X.prog) (w := X.w) (I.ok.hd hc) it lo 3 n
    refine W.item i s _ _ hg st fun v h' tk hv st' kk => ?_
    obtain ⟨t, rfl⟩ := hv
    have I1 : Inv X pins σ H { s with heap := h', toks := tk } := I.turned (fun b o hb e => kk b o (by simpa using hb) e) f0 f1 f3 f4 f5
    exact ⟨_, rfl, go_of (s := { s with heap := h', toks := tk }) (n := "range_iterator") st' rfl rfl (by decide) ⟨.int (lo + i * 3), H, I1, ⟨t, rfl⟩, ⟨rfl, rfl⟩, st', fun b hb => (hf b hb).1⟩⟩
  done := by
    intro X hP hw hK hc i pins s σ H E I hf st hg
    subst hP hw hK
    obtain ⟨f0, f1, f2, f3, f4, f5⟩ := hf it (by simp)
    exact wpAny_pyNext_range_end (I.ok.hd hc) st (by have : n ≤ i := hg; omega) fun h' eb => ⟨rfl, I.turned (t' := s.toks) (fun b o hb e => eb b o hb e) f0 f1 f3 f4 f5⟩
  self := fun _ _ _ _ _ st h => wpAny_pyIter_rangeiter st h
theorem small_three {a b : Int} (h1 : -(2 ^ 40) ≤ a) (h2 : a < 2 ^ 40) (h3 : -(2 ^ 40) ≤ b) (h4 : b < 2 ^ 40) : Builtin.Range.small a b 3 = true := by
  have hs : 0 ≤ Builtin.Range.rangeSize a b 3 ∧ Builtin.Range.rangeSize a b 3 < 2 ^ 42 := by
    unfold Builtin.Range.rangeSize
    rw [if_pos (by decide)]
    split <;> omega
  unfold Builtin.Range.small
  rw [if_pos (by decide)]
  generalize Builtin.Range.rangeSize a b 3 = z at hs
  simp only [Builtin.Range.rangeFitsLong, Bool.and_eq_true, Bool.or_eq_true, decide_eq_true_eq, beq_iff_eq]
  omega
def many3 (lo hi : Int) : Nat := ((hi - lo + 2) / 3).toNat
section
variable {X : Cx} {tg : Expr}
theorem range_it3 {pins : List (Addr × Obj)} {σ : St} {H : Hp} {s : Shared} {R : It → Hp → Prop} {E : Value → Shared → Prop} {lo hi : Int} {t u v : Tok} (I : Inv X pins σ H s) (h1 : -(2 ^ 40) ≤ lo) (h2 : lo < 2 ^ 40) (h3 : -(2 ^ 40) ≤ hi) (h4 : hi < 2 ^ 40)
    (q : R (Itr3 lo (many3 lo hi)) H) : wpAny (model X.prog X.w) X.A (pyIter (.ref s.heap.objs.size)) (PIE X pins σ tg R) E { s with heap := s.heap.push { cls := .type "range", data := .fields #[.int lo t, .int hi u, .int 3 v] } } := by
  refine wpAny_pyIter_range (IsRange.new ..) (small_three h1 h2 h3 h4) ?_
  have I1 : Inv X pins σ H { s with heap := s.heap.push { cls := .type "range", data := .fields #[.int lo t, .int hi u, .int 3 v] } } := I.kept (t' := s.toks) fun b o e => Heap.get?_push_of_some _ e
  refine ⟨(s.heap.push { cls := .type "range", data := .fields #[.int lo t, .int hi u, .int 3 v] }).objs.size, [(s.heap.push { cls := .type "range", data := .fields #[.int lo t, .int hi u, .int 3 v] }).objs.size], _, _, H, rfl,
    I1.kept (t' := s.toks) fun b o e => Heap.get?_push_of_some _ e, turn_range3 _ lo (many3 lo hi), ?_, fun b hb => ?_, q⟩
  · have e1 : lo + ((0 : Nat) : Int) * 3 = lo := by simp
    have e2 : ((many3 lo hi : Nat) : Int) - ((0 : Nat) : Int) = Builtin.Range.rangeSize lo hi 3 := by
      unfold Builtin.Range.rangeSize many3
      rw [if_pos (by decide)]
      split <;> omega
    show IsRangeIter _ _ (lo + ((0 : Nat) : Int) * 3) (((many3 lo hi : Nat) : Int) - ((0 : Nat) : Int)) 3
    rw [e1, e2]
    exact Heap.get?_push_size _ rfl
  · have e : b = (s.heap.push { cls := .type "range", data := .fields #[.int lo t, .int hi u, .int 3 v] }).objs.size := by simpa using hb
    subst e
    exact I1.fpOk (Nat.le_refl _) (I1.hok.fresh (Nat.le_refl _))
def iRng3 (ta : TA) : TI := fun σ H R => ta σ H fun vs H1 => ∃ i j : Int, vs = [.int i, .int j, .int 3] ∧ (-(2 ^ 40) ≤ i ∧ i < 2 ^ 40 ∧ -(2 ^ 40) ≤ j ∧ j < 2 ^ 40) ∧ R (Itr3 i (many3 i j)) H1
theorem pi_range3 {a b c : Expr} {ta : TA} {p pos : Pos} (hg : Gl X "range") (hm : X.mg "range" = none) (ha : PA X [a, b, c] ta) (hs : starEach [a, b, c] X.env = [(false, eval a X.env), (false, eval b X.env), (false, eval c X.env)] := by rfl) (hs2 : starEach [b, c] X.env = [(false, eval b X.env), (false, eval c X.env)] := by rfl) :
    PI X tg (.Call (.Name "range" p) [a, b, c] [] pos) (iRng3 ta) := by
  intro pins s σ H R I h
  refine Call_ (ld_blt I hg hm boot_range (PyProof.Rows.callWith_type1 (thn (ha pos pins s σ H _ I h) fun us s1 ⟨vs, H1, I1, r1, q1⟩ => ?_) (by rw [hs, hs2]) (by rw [hs2]; rfl)))
  obtain ⟨i, j, e, ⟨q1, q2, q3, q4⟩, q⟩ := q1
  subst e
  cases r1 with
  | cons r rr =>
    cases rr with
    | cons r' rr =>
      cases rr with
      | cons r'' rr =>
        cases rr
        obtain ⟨t, rfl⟩ := r
        obtain ⟨t', rfl⟩ := r'
        obtain ⟨t'', rfl⟩ := r''
        exact call_range_3 (by decide) (range_it3 I1 q1 q2 q3 q4 q)
end
section
variable {σ : St} {H : Hp} {R : It → Hp → Prop} {ts : TA}
theorem i_rng3 (h : ts σ H fun vs H1 => ∃ i j : Int, vs = [.int i, .int j, .int 3] ∧ (-(2 ^ 40) ≤ i ∧ i < 2 ^ 40 ∧ -(2 ^ 40) ≤ j ∧ j < 2 ^ 40) ∧ R (Itr3 i (many3 i j)) H1) : iRng3 ts σ H R := h
end
theorem for_range3 {lo : Int} {n : Nat} {g : TG} {tb : TS} {D : Ends} {σ : St} {H : Hp} (Pv : Nat → St → Hp → Prop) (h0 : Pv 0 σ H)
    (hs : ∀ i σ H, i < n → Pv i σ H → g (.int (lo + i * 3)) σ H fun σ2 H2 => tb { D with nx := Pv (i + 1), ct := Pv (i + 1), bk := D.nx } σ2 H2) (hd : ∀ σ H, Pv n σ H → D.nx σ H) : ForEnd (Itr3 lo n) g tb D σ H := by
  refine ⟨fun i m σ H => m = n - i ∧ i ≤ n ∧ Pv i σ H, ⟨n, by simp, Nat.zero_le _, h0⟩, ?_⟩
  rintro i m σ H ⟨rfl, hi, p⟩
  by_cases hlt : i < n
  · refine .inr ⟨hlt, Pv (i + 1), fun σ' H' p' => ⟨n - (i + 1), by omega, rfl, hlt, p'⟩, fun x H' y => ?_⟩
    obtain ⟨e, y⟩ := y
    subst e y
    exact hs i σ _ hlt p
  · have e : i = n := by omega
    subst e
    exact .inl ⟨Nat.le_refl _, hd σ H p⟩
theorem cc_range3 {lo : Int} {n : Nat} {te : TE} {tt : TT} {caps : List Nat} {σ : St} {H : Hp} {Q : VK} (hz : n ≤ sizeLine) (Pv : Nat → List V → Hp → Prop) (h0 : Pv 0 [] H) (hl : ∀ i acc H, Pv i acc H → acc.length ≤ i)
    (hs : ∀ i acc H, i < n → Pv i acc H → tt (some (.int (lo + i * 3)) :: capV caps σ) H fun b H4 => if b = true then te (some (.int (lo + i * 3)) :: capV caps σ) H4 fun y H5 => Pv (i + 1) (acc ++ [y]) H5 else Pv (i + 1) acc H4)
    (hd : ∀ acc H, Pv n acc H → New H (.lst acc) Q) : CompEnd (Itr3 lo n) (gName 0) tt te 1 caps σ H Q := by
  refine lc_any n hz Pv h0 hl (fun i acc H hi p => hi) (fun acc H p => Nat.le_refl _) ?_ hd
  rintro i x acc H1 H2 hi p ⟨rfl, rfl⟩
  exact hs i acc _ hi p
def relabelS (scope sc0 : Scope) : Scope := relabel scope { scope := sc0, locals := 0, globals := 0, cells := [] }
theorem cxC_scope {X : Cx} {N : List Str} {scope sc0 : Scope} {cl : List (Str × Addr)} {C : Addr} {s0 : Shared} {H0 : Hp} {ex : List Addr} (h : X.env.scope = sc0) : (cxC X N scope cl C s0 H0 ex).env.scope = relabelS scope sc0 := by
  subst h
  rfl
theorem i_augE {i : Nat} {t : TE} {f : Int → Int → Int} {σ : St} {H : Hp} {nn bb cc : St → Hp → Prop} {rr : VK} {a : Int} (e : σ[i]? = some (some (.int a))) (h : t σ H fun x H1 => ∃ b : Int, x = .int b ∧ nn (σ.set i (some (.int (f a b)))) H1) : tAug i t (ipI f) ⟨nn, rr, bb, cc⟩ σ H := ⟨_, e, by
  have h' : t σ H fun y H1 => ipI f (.int a) y H1 fun z H2 => nn (σ.set i (some z)) H2 := by
    have : (fun x H1 => ∃ b : Int, x = .int b ∧ nn (σ.set i (some (.int (f a b)))) H1) = fun y H1 => ipI f (.int a) y H1 fun z H2 => nn (σ.set i (some z)) H2 := by
      funext y H1
      apply propext
      constructor
      · rintro ⟨b, rfl, h⟩; exact ⟨a, b, rfl, rfl, h⟩
      · rintro ⟨a', b, e1, rfl, h⟩; cases e1; exact ⟨b, rfl, h⟩
    rw [← this]
    exact h
  exact h'⟩
end L2
namespace L2
open PySem PySem.Spec PyProof.Rows
section
variable {X : Cx}
end
section
variable {K : PySem.W.Frag} {H : Hp} {Q : VK}
end
end L2
namespace L2
open PySem PySem.Spec PyProof.Rows
section
variable {X : Cx} {e st : Expr} {te ts : TE} {p2 pos : Pos}
end
end L2
namespace L2
open PySem PySem.Spec PyProof.Rows
section
variable {prog : Program} {w : World} {z TI TO i1 i2 i3 l1 l2 l3 : Addr} {xs ys us : Array Value} {st1 st2 st3 : Nat → Heap → Prop}
end
end L2
namespace L2
open PySem PySem.Spec PyProof.Rows
section
variable {X : Cx} {elts : List Expr} {x1 : Nat} {tpos : Pos}
end
end L2
namespace L2
open PySem PySem.Spec PyProof.Rows
section
variable {X : Cx} {k v : Expr} {pos : Pos} {tk tv : TE} {P : Params}
end
end L2
namespace L2
open PySem PySem.Spec PyProof.Rows
section
variable {α β : Type} {R : α → β → Prop} {vs : List α} {xs : List β}
end
section
variable {f : Nat → Option Nat} {rep rk : Nat → Nat}
end
def hF (d : Addr) : List (Str × V) := putF "heads" (.ref d) []
abbrev Pr := Nat × Nat
def pairT (p : Pr) : Tr := .tup [.int (p.1 : Nat), .int (p.2 : Nat)]
theorem pairT_inj {p q : Pr} : pairT p = pairT q ↔ p = q := by
  constructor
  · intro h
    unfold pairT at h
    simp only [Tr.tup.injEq, List.cons.injEq, Tr.int.injEq, and_true] at h
    exact Prod.ext (by omega) (by omega)
  · intro h; rw [h]
end L2
namespace L2
open PySem PySem.Spec PyProof.Rows
section
variable {X : Cx}
end
section
variable {H : Hp} {Q : VK}
end
def TupK (K : PySem.W.Frag) (a : Addr) (xs : List V) : Prop := ∃ (o : Obj) (its : Array Value) (n : Nat), K.lookup a = some o ∧ o.cls = .type "tuple" ∧ o.data = .seq its n ∧ its.size ≤ sizeLine ∧ Vals xs its.toList
theorem TupK.sq {K : PySem.W.Frag} {a : Addr} {xs : List V} (h : TupK K a xs) (H : Hp) : SqT K H a xs := .inr h
mutual
def Tr.AtK (K : PySem.W.Frag) (H : Hp) : Tr → V → Prop
  | .non, v => v = .non
  | .int i, v => v = .int i
  | .str s, v => v = .str s
  | .tup xs, v => ∃ a vs, v = .ref a ∧ (H a = some (.tup vs) ∨ TupK K a vs) ∧ Tr.AtsK K H xs vs
  | .lst _, _ => False
def Tr.AtsK (K : PySem.W.Frag) (H : Hp) : List Tr → List V → Prop
  | [], vs => vs = []
  | x :: xs, vs => ∃ v ws, vs = v :: ws ∧ Tr.AtK K H x v ∧ Tr.AtsK K H xs ws
end
mutual
theorem Tr.At.toK (K : PySem.W.Frag) {H : Hp} : ∀ {x : Tr} {v : V}, x.At H v [] → x.AtK K H v
  | .non, _, h => by simp only [Tr.At] at h; simp only [Tr.AtK]; exact h.1
  | .int _, _, h => by simp only [Tr.At] at h; simp only [Tr.AtK]; exact h.1
  | .str _, _, h => by simp only [Tr.At] at h; simp only [Tr.AtK]; exact h.1
  | .tup xs, v, h => by
    simp only [Tr.At] at h
    simp only [Tr.AtK]
    obtain ⟨a, vs, e, g, r⟩ := h
    exact ⟨a, vs, e, .inl g, Tr.Ats.toK K r⟩
  | .lst xs, v, h => (at_no_lst (h := h)).elim
theorem Tr.Ats.toK (K : PySem.W.Frag) {H : Hp} : ∀ {xs : List Tr} {vs : List V}, Tr.Ats H xs vs [] → Tr.AtsK K H xs vs
  | [], _, h => by simp only [Tr.Ats] at h; simp only [Tr.AtsK]; exact h.1
  | x :: xs, vs, h => by
    simp only [Tr.Ats] at h
    simp only [Tr.AtsK]
    obtain ⟨v, ws, f, g, e, e2, a, b⟩ := h
    have hf : f = [] ∧ g = [] := by simpa using e2.symm
    obtain ⟨rfl, rfl⟩ := hf
    exact ⟨v, ws, e, Tr.At.toK K a, Tr.Ats.toK K b⟩
end
section
variable {X : Cx} {pins : List (Addr × Obj)} {σ : St} {H : Hp} {s : Shared}
mutual
theorem Tr.AtK.isIn (I : Inv X pins σ H s) : ∀ {t : Tr} {v : V} {u : Value}, t.AtK X.K H v → RelV v u → Tr.In s.heap t u
  | .non, v, u, h, r => by
    simp only [Tr.AtK] at h
    subst h
    cases r
    exact rfl
  | .int z, v, u, h, r => by
    simp only [Tr.AtK] at h
    subst h
    obtain ⟨t, rfl⟩ := r
    exact ⟨t, rfl⟩
  | .str z, v, u, h, r => by
    simp only [Tr.AtK] at h
    subst h
    obtain ⟨t, rfl⟩ := r
    exact ⟨t, rfl⟩
  | .lst _, v, u, h, r => by simp only [Tr.AtK] at h
  | .tup ts, v, u, h, r => by
    simp only [Tr.AtK] at h
    obtain ⟨a, vs, rfl, e1, c1⟩ := h
    cases r
    obtain ⟨is1, q1, p1, _⟩ := I.tuple (show SqT X.K H a vs from e1.elim SqT.of (fun z => z.sq H))
    simp only [Tr.In]
    exact ⟨a, is1.toArray, rfl, p1, by simpa using Tr.AtsK.isIns I c1 q1⟩
theorem Tr.AtsK.isIns (I : Inv X pins σ H s) : ∀ {ts : List Tr} {vs : List V} {us : List Value}, Tr.AtsK X.K H ts vs → Vals vs us → Tr.Ins s.heap ts us
  | [], vs, us, c, q => by
    simp only [Tr.AtsK] at c
    subst c
    cases q
    exact rfl
  | t :: ts, vs, us, c, q => by
    simp only [Tr.AtsK] at c
    obtain ⟨v, vs, rfl, a1, b1⟩ := c
    cases q with
    | cons r1 r2 =>
      simp only [Tr.Ins]
      exact ⟨_, _, rfl, Tr.AtK.isIn I a1 r1, Tr.AtsK.isIns I b1 r2⟩
end
end
end L2
namespace L2
open PySem PySem.Spec PyProof.Rows
section
variable {X : Cx} {pins : List (Addr × Obj)} {σ : St} {H : Hp} {s : Shared} {a : Addr} {t : Tr} {y v z : V} {u r : Value} {A : Around} {E : Value → Shared → Prop} {kvs : List (Tr × V)} {m : List (Tr × V × V)}
end
section
variable {X : Cx} {o i e f value : Expr} {pos pos' apos cpos : Pos} {td ty tv tx : TE} {P : Params}
end
section
variable {K : PySem.W.Frag} {P : Params} {σ : St} {H : Hp} {Q : VK} {td ty tx tv : TE}
end
end L2
namespace L2
open PySem PySem.Spec PyProof.Rows
section
variable {prog : Program} {w : World} {A : Around} {E : Value → Shared → Prop} {s : Shared}
theorem nextOf_tuple_item {it l : Addr} {i : Nat} {items} {x : Value} {Q : Value → Shared → Prop} (hit : s.heap.IsTupleIter it l i)
    (hl : s.heap.IsTuple l items) (hx : items[i]? = some x)
    (hQ : ∀ h', h'.IsTupleIter it l (i + 1) → Heap.SameBut it s.heap h' → Q x { s with heap := h' }) :
    wpAny (model prog w) A (Builtin.SmallTypes.nextOf (.ref it)) Q E s := by
  obtain ⟨o, ho, hc, hd⟩ := id hit
  obtain ⟨ol, hol, _, nl, hdl⟩ := hl
  unfold Builtin.SmallTypes.nextOf
  refine wpAny_bind (wpAny_callSpecial?_slot (name := Str.ofString "__next__") hit.typeIs F.slot_tuple_iterator_next
    (wpAny_call_entry F.slot_tuple_iterator_next hit.typeIs F.entry_tuple_iterator_next ?_ (F.args_tuple_iterator_next_1 _)))
  show wpAny _ _ (field (.ref it) 0 >>= _) _ _ s
  refine wpAny_bind (wpAny_field ho hd (x := .ref l) rfl ?_)
  show wpAny _ _ (if (Value.ref l == Value.none) = true then _ else _) _ _ s
  rw [if_neg (show ¬ ((Value.ref l == Value.none) = true) from Bool.false_ne_true)]
  show wpAny _ _ (field (.ref it) 1 >>= _) _ _ s
  refine wpAny_bind (wpAny_field ho hd (x := .int i 0) rfl ?_)
  show wpAny _ _ (seqItems? (.ref l) >>= _) _ _ s
  refine wpAny_bind (wpAny_seqItems hol hdl ?_)
  simp only [Int.toNat_natCast, hx]
  refine wpAny_bind (wpAny_setField ho hd (by simp) (wpAny_pure ⟨x, rfl, wpAny_pure (hQ _ ?_ (Heap.SameBut.update ..))⟩))
  exact ⟨_, Heap.get?_update_self _ ho (Obj.isFreed_of_fields (Obj.data_mapFields hd _)), (Obj.cls_mapFields ..).trans hc, by
    rw [Obj.data_mapFields hd]; simp [rawInt]⟩
theorem nextOf_tuple_end {it l : Addr} {i : Nat} {items} {Q : Value → Shared → Prop} (hh : A.handled = none)
    (hit : s.heap.IsTupleIter it l i) (hl : s.heap.IsTuple l items) (hx : items[i]? = none)
    (hE : ∀ h' e, Heap.ExtBut it s.heap h' → (∃ o, h'.get? e = some o ∧ o.cls = .type "StopIteration") → E (.ref e) { s with heap := h' }) :
    wpAny (model prog w) A (Builtin.SmallTypes.nextOf (.ref it)) Q E s := by
  obtain ⟨o, ho, hc, hd⟩ := id hit
  obtain ⟨ol, hol, _, nl, hdl⟩ := hl
  unfold Builtin.SmallTypes.nextOf
  refine wpAny_bind (wpAny_callSpecial?_slot (name := Str.ofString "__next__") hit.typeIs F.slot_tuple_iterator_next
    (wpAny_call_entry F.slot_tuple_iterator_next hit.typeIs F.entry_tuple_iterator_next ?_ (F.args_tuple_iterator_next_1 _)))
  show wpAny _ _ (field (.ref it) 0 >>= _) _ _ s
  refine wpAny_bind (wpAny_field ho hd (x := .ref l) rfl ?_)
  show wpAny _ _ (if (Value.ref l == Value.none) = true then _ else _) _ _ s
  rw [if_neg (show ¬ ((Value.ref l == Value.none) = true) from Bool.false_ne_true)]
  show wpAny _ _ (field (.ref it) 1 >>= _) _ _ s
  refine wpAny_bind (wpAny_field ho hd (x := .int i 0) rfl ?_)
  show wpAny _ _ (seqItems? (.ref l) >>= _) _ _ s
  refine wpAny_bind (wpAny_seqItems hol hdl ?_)
  simp only [Int.toNat_natCast, hx]
  refine wpAny_bind (wpAny_rule (wpAny_bind (wpAny_setField ho hd (by simp) ?_)))
  show wpAny _ _ (newExc (.type "StopIteration") [] >>= _) _ _ _
  refine wpAny_bind ?_
  simp only [newExc, newTuple]
  refine wpAny_bind (wpAny_newObj_type ?_ (by size_fits))
  refine wpAny_bind (m := firstArgMember _ _) (wpAny_of_eq (a := Value.none) (by first | rfl | (simp only [firstArgMember]; rfl)) ?_)
  refine wpAny_newObj_type ?_ (by size_fits)
  simp only [raiseNew]
  refine wpAny_bind (wpAny_handled ?_)
  first | rw [show A.in1.handled = none from hh] | rw [hh]
  refine wpAny_bind (wpAny_pure (wpAny_throw ?_))
  exact hE _ _ (((Heap.SameBut.update ..).extBut.push _).push _) ⟨_, Heap.get?_push_size _ rfl, rfl⟩
end
theorem tupIter_at {h h' : Heap} {a t : Addr} {i : Nat} (x : h.IsTupleIter a t i) (k : ∀ o, h.get? a = some o → h'.get? a = some o) : h'.IsTupleIter a t i := let ⟨o, ho, r⟩ := x; ⟨o, k o ho, r⟩
section
variable {X : Cx} {elts : List Expr} {x1 : Nat} {tpos : Pos}
end
end L2
namespace L2
open PySem PySem.Spec PyProof.Rows
end L2
namespace L2
open PySem PySem.Spec PyProof.Rows
theorem Tr.In.rcNeAt {s : Shared} {ts rs : List Tr} {A : Around} {u z : Value} (h1 : Tr.In s.heap (.tup ts) u) (h2 : Tr.In s.heap (.tup rs) z) (hu : A.units + (Tr.tup ts).h + (Tr.tup rs).h + 2 < cLine) : SeqAt.RcNeAt A s u z (!decide (Tr.tup ts = Tr.tup rs)) := by
  simp only [Tr.In] at h1 h2
  obtain ⟨a, us, rfl, p1, c1⟩ := h1
  obtain ⟨b, vs, rfl, p2, c2⟩ := h2
  simp only [Tr.h] at hu
  have l1 := c1.len
  have l2 := c2.len
  simp only [Array.length_toList] at l1 l2
  have := SeqAt.RcNeAt.tuples (A := A) (s := s) (e := fun j => decide (ts.getD j .non = rs.getD j .non)) p1 p2 (by omega) (fun j h1 h2 => by
    have := Tr.Ins.eqAts (A := A.in1) c1 c2 (by rw [in1_units]; omega) j (by simpa using h1) (by simpa using h2)
    simpa using this)
  rw [l1, l2, trs_eq] at this
  rw [show decide (Tr.tup ts = Tr.tup rs) = decide (ts = rs) from Bool.eq_iff_iff.mpr (by simp)]
  exact this
def rNeFK (K : PySem.W.Frag) : R2 := fun x y H Q => ∃ (ts rs : List Tr), (Tr.tup ts).AtK K H x ∧ (Tr.tup rs).AtK K H y ∧ (Tr.tup ts).h ≤ 20 ∧ (Tr.tup rs).h ≤ 20 ∧ Q (.bl (!decide (Tr.tup ts = Tr.tup rs))) H
theorem kop_neFK {X : Cx} (K : PySem.W.Frag) (hu : X.A.units + 64 < cLine) (hK : X.K = K := by rfl) : OpR X (compareOp .NotEq) (rNeFK K) := by
  subst hK
  intro pins s σ H x y v u Q I rx ry h
  obtain ⟨t, r, h1, h2, l1, l2, q⟩ := h
  exact (h1.isIn I rx).rcNeAt (h2.isIn I ry) (A := X.A) (by omega) X.prog X.w X.xe (EP X pins σ Q) ⟨.bl _, H, I, rfl, q⟩
theorem i_neFK {K : PySem.W.Frag} {H : Hp} {Q : VK} {x y : V} {ts rs : List Tr} (h1 : (Tr.tup ts).AtK K H x) (h2 : (Tr.tup rs).AtK K H y) (l1 : (Tr.tup ts).h ≤ 20) (l2 : (Tr.tup rs).h ≤ 20) (h : Q (.bl (!decide (Tr.tup ts = Tr.tup rs))) H) : rNeFK K x y H Q := ⟨ts, rs, h1, h2, l1, l2, h⟩
theorem keepE {α : Type} {a : α} {P : α → Prop} (h : ∀ x, a = x → P x) : ∀ x, a = x → P x := h
end L2
namespace L2
open PySem PySem.Spec PyProof.Rows
def frzP (P : Params) (a : Addr) (m : List (Tr × V × V)) (o : Obj) : Heap → Prop := fun h => DtP P a m h ∧ h.get? a = some o
structure FzAt (P : Params) (H : Hp) (a : Addr) (m : List (Tr × V × V)) (o : Obj) : Prop where
  e : H a = some (.ext (frzP P a m o))
  k : ∀ x ∈ m, x.1.At H x.2.1 [] ∧ x.1.h ≤ 8
  n : (m.map (·.1)).Nodup
theorem FzAt.dt {P : Params} {H : Hp} {a : Addr} {m : List (Tr × V × V)} {o : Obj} (h : FzAt P H a m o) : DtAt P H a (m.map fun x => (x.1, x.2.2)) := ⟨m, rfl, ⟨_, h.e, fun _ x => x.1⟩, h.k, h.n⟩
theorem FzAt.mono {P : Params} {H H' : Hp} {a : Addr} {m : List (Tr × V × V)} {o : Obj} (h : FzAt P H a m o) (k : Tups H H') (e : H' a = H a) : FzAt P H' a m o := ⟨e.trans h.e, fun x hx => ⟨tr_tups (h.k x hx).1 k, (h.k x hx).2⟩, h.n⟩
theorem FzAt.same {P : Params} {H H' : Hp} {a : Addr} {m : List (Tr × V × V)} {o : Obj} (h : FzAt P H a m o) (s : Same H H') : FzAt P H' a m o := h.mono s.tups (by rw [h.e]; exact s _ _ h.e)
def Itd (P : Params) (a : Addr) (m : List (Tr × V × V)) (o : Obj) : It :=
  ⟨fun i H => H a = some (.ext (frzP P a m o)) ∧ i < m.length, fun i H x H' => H' = H ∧ ∃ k, m[i]? = some k ∧ x = k.2.1, fun i H => H a = some (.ext (frzP P a m o)) ∧ m.length ≤ i⟩
theorem turn_td {Pr : Program} {w : World} {K : PySem.W.Frag} {tg : Expr} {P : Params} {a it : Addr} {m : List (Tr × V × V)} {o : Obj} {es : Array DictEntry} {ep : Nat} (hx : o.ExactDict) (hd : o.data = .dict es ep) (hr : DtR P m es) :
    Turn Pr w K tg (Itd P a m o) [it] it (fun i h => h.IsKeyIter it a i es.size ep) where
  mem := by simp
  obj := fun i h st b hb => by
    have e : b = it := by simpa using hb
    subst e
    obtain ⟨o, e, c, d⟩ := st
    exact ⟨o, e, fun v z => by rw [d] at z; cases z⟩
  keep := fun i h h' st k => st.at fun o e => k it (by simp) o e
  item := by
    intro X hP hw hK hc i pins s σ H E I hf st hg
    subst hP hw hK
    have hD : RawD s.heap a es ep := ⟨o, (I.hok a _ hg.1).1.2, hx, hd⟩
    have hk : m[i]? = some (m[i]'hg.2) := List.getElem?_eq_getElem hg.2
    obtain ⟨e, he, _, rk, _⟩ := hr.at_ i _ hk
    obtain ⟨f0, f1, f2, f3, f4, f5⟩ := hf it (by simp)
    refine raw_item st hD he fun h' st' sb => ?_
    have I1 : Inv X pins σ H { s with heap := h' } := I.turned (t' := s.toks) (fun b o hb e => (sb.2 b hb).trans e) f0 f1 f3 f4 f5
    obtain ⟨oi, e', c, d⟩ := id st'
    exact ⟨_, rfl, go_of (s := { s with heap := h' }) e' c d (by decide) ⟨(m[i]'hg.2).2.1, H, I1, rk, ⟨rfl, _, hk, rfl⟩, st', fun b hb => (hf b hb).1⟩⟩
  done := by
    intro X hP hw hK hc i pins s σ H E I hf st hg
    subst hP hw hK
    have hD : RawD s.heap a es ep := ⟨o, (I.hok a _ hg.1).1.2, hx, hd⟩
    obtain ⟨f0, f1, f2, f3, f4, f5⟩ := hf it (by simp)
    exact raw_end (I.ok.hd hc) st hD (by rw [hr.len]; exact hg.2) fun h' eb => ⟨rfl, I.turned (t' := s.toks) (fun b o hb e => eb b o hb e) f0 f1 f3 f4 f5⟩
  self := fun _ _ _ _ _ st h => wpAny_pyIter_keyiter st h
def iTd (P : Params) (tl : TE) : TI := fun σ H R => tl σ H fun x H1 => ∃ a kvs, x = .ref a ∧ DtAt P H1 a kvs ∧ ∀ m o H', m.map (fun x => (x.1, x.2.2)) = kvs → (∀ b ob, b ≠ a → H1 b = some ob → H' b = some ob) → FzAt P H' a m o → R (Itd P a m o) H'
theorem pi_td {X : Cx} {P : Params} {tg l : Expr} {tl : TE} (hP : X.w.params = P) (hl : PE X l tl) : PI X tg l (iTd P tl) := by
  subst hP
  intro pins s σ H R I h
  refine thn (hl pins s σ H _ I h) fun v s1 ⟨x, H1, I1, r1, q1⟩ => ?_
  obtain ⟨a, kvs, rfl, ⟨m, rfl, e2, e3, e4⟩, q⟩ := q1
  cases r1
  obtain ⟨o, es, ep, g1, g2, g3, g4, g5, z1, z2⟩ := dt_ents I1 e2 e3 e4
  have nw : ObjOk X.prog X.w (upd H1 a (.ext (frzP X.w.params a m o))) s1.heap a (.ext (frzP X.w.params a m o)) := ⟨⟨⟨z1, z2, o, es, ep, g1, g2, g3, g4⟩, g1⟩, ⟨o, g1⟩, fun h1 h2 x k => ⟨DtP.one h1 h2 x.1 k, k _ x.2⟩⟩
  have I2 : Inv X pins σ (upd H1 a (.ext (frzP X.w.params a m o))) s1 := I1.write (h' := s1.heap) (t' := s1.toks) (x := a) (e := a) e2.mut (.inl rfl) (fun b u _ e => e) ⟨o, g1⟩ nw
  have ne : ∀ b ob, b ≠ a → H1 b = some ob → upd H1 a (.ext (frzP X.w.params a m o)) b = some ob := fun b ob hb e => by rw [upd_ne hb]; exact e
  obtain ⟨φ, e2', _⟩ := e2
  have hF : FzAt X.w.params (upd H1 a (.ext (frzP X.w.params a m o))) a m o := ⟨upd_same, fun x hx => ⟨tr_tups (e3 x hx).1 (tups_updE e2'), (e3 x hx).2⟩, e4⟩
  refine raw_iter z2 ⟨o, g1, g2, g3⟩ ?_
  refine ⟨s1.heap.objs.size, [s1.heap.objs.size], _, _, _, rfl, I2.kept (t' := s1.toks) fun b o e => Heap.get?_push_of_some _ e, turn_td (a := a) g2 g3 g4, ⟨_, Heap.get?_push_size _ rfl, rfl, rfl⟩, fun b hb => ?_, q m o _ rfl ne hF⟩
  have e : b = s1.heap.objs.size := by simpa using hb
  subst e
  exact I2.fpOk (Nat.le_refl _) (I2.hok.fresh (Nat.le_refl _))
theorem i_td {P : Params} {tl : TE} {σ : St} {H : Hp} {R : It → Hp → Prop} (h : tl σ H fun x H1 => ∃ a kvs, x = .ref a ∧ DtAt P H1 a kvs ∧ ∀ m o H', m.map (fun x => (x.1, x.2.2)) = kvs → (∀ b ob, b ≠ a → H1 b = some ob → H' b = some ob) → FzAt P H' a m o → R (Itd P a m o) H') : iTd P tl σ H R := h
theorem for_td {P : Params} {a : Addr} {m : List (Tr × V × V)} {o : Obj} {g : TG} {tb : TS} {D : Ends} {σ : St} {H : Hp} (Pv : Nat → St → Hp → Prop) (h0 : Pv 0 σ H) (hl : ∀ i σ H, i ≤ m.length → Pv i σ H → H a = some (.ext (frzP P a m o)))
    (hs : ∀ i x σ H, m[i]? = some x → Pv i σ H → g x.2.1 σ H fun σ1 H1 => tb { D with nx := Pv (i + 1), ct := Pv (i + 1), bk := D.nx } σ1 H1) (hd : ∀ σ H, Pv m.length σ H → D.nx σ H) : ForEnd (Itd P a m o) g tb D σ H := by
  refine ⟨fun i k σ H => k = m.length - i ∧ i ≤ m.length ∧ Pv i σ H, ⟨m.length, by simp, Nat.zero_le _, h0⟩, ?_⟩
  rintro i k σ' H' ⟨rfl, hi, p⟩
  have hq := hl i σ' H' hi p
  by_cases hlt : i < m.length
  · refine .inr ⟨⟨hq, hlt⟩, Pv (i + 1), fun σ2 H2 p' => ⟨m.length - (i + 1), by omega, rfl, hlt, p'⟩, fun v H2 y => ?_⟩
    obtain ⟨rfl, x, hx, rfl⟩ := y
    exact hs i x σ' _ hx p
  · have e : i = m.length := by omega
    subst e
    exact .inl ⟨⟨hq, Nat.le_refl _⟩, hd σ' H' p⟩
end L2
namespace L2
open PySem PySem.Spec PyProof.Rows
theorem cc_td {P : Params} {a : Addr} {m : List (Tr × V × V)} {o : Obj} {te : TE} {tt : TT} {caps : List Nat} {σ : St} {H : Hp} {Q : VK} (hz : m.length ≤ sizeLine) (Pv : Nat → List V → Hp → Prop) (h0 : Pv 0 [] H) (hl : ∀ i acc H, Pv i acc H → acc.length ≤ i ∧ H a = some (.ext (frzP P a m o)))
    (hs : ∀ i x acc H, m[i]? = some x → Pv i acc H → tt (some x.2.1 :: capV caps σ) H fun b H4 => if b = true then te (some x.2.1 :: capV caps σ) H4 fun y H5 => Pv (i + 1) (acc ++ [y]) H5 else Pv (i + 1) acc H4)
    (hd : ∀ acc H, Pv m.length acc H → New H (.lst acc) Q) : CompEnd (Itd P a m o) (gName 0) tt te 1 caps σ H Q := by
  refine lc_any m.length hz Pv h0 (fun i acc H p => (hl i acc H p).1) (fun i acc H hi p => ⟨(hl i acc H p).2, hi⟩) (fun acc H p => ⟨(hl _ acc H p).2, Nat.le_refl _⟩) ?_ hd
  rintro i x acc H1 H2 hi p ⟨rfl, k, hk, rfl⟩
  exact hs i k acc _ hk p
section
variable {prog : Program} {w : World} {A : Around} {E : Value → Shared → Prop} {s : Shared} {d : Addr} {es : Array DictEntry} {ep : Nat}
theorem raw_len {Q : Value → Shared → Prop} (lo : (d == sysModules) = false) (x : RawD s.heap d es ep) (hz : (es.size : Int) < 2 ^ 63) (h : Q (.int es.size (s.toks + 1)) { s with toks := s.toks + 1 + 1 }) : wpAny (model prog w) A (call (.builtin "len") [.ref d]) Q E s := by
  have T := x.ty
  obtain ⟨o, e1, e2, e3⟩ := x
  refine Calls.call_function_entry kind_len plain_len entry_len (args_len1 _) ?_
  unfold Builtin.«len»
  refine wpAny_bind (m := oneArg "len" _) (wpAny_pure ?_)
  refine wpAny_bind (m := callSpecial? (.ref d) (Str.ofString "__len__")) (wpAny_callSpecial?_slot (name := Str.ofString "__len__") T F.slot_dict_len (wpAny_call_entry F.slot_dict_len T F.entry_dict_len ?_ (F.args_dict_len_1 _)))
  unfold Builtin.«dict.__len__»
  show wpAny _ _ (dictSize d >>= _) _ _ s
  unfold dictSize
  refine wpAny_bind (wpAny_bind (wpAny_dictEntries e1 e3 (wpAny_pure ?_)))
  show wpAny _ _ (Builtin.Dict.pendingCount d >>= _) _ _ s
  refine wpAny_bind (wpAny_pendingCount_other lo ?_)
  show wpAny _ _ (retInt _) _ _ s
  unfold retInt
  refine wpAny_bind (wpAny_mkInt (wpAny_pure ⟨_, rfl, ?_⟩))
  rw [show ((es.size : Nat) : Int) + ((0 : Nat) : Int) = ((es.size : Nat) : Int) by simp]
  refine wpAny_bind (wpAny_holding (wpAny_pure ?_))
  refine wpAny_bind (wpAny_letGo ?_)
  show wpAny _ _ (if ((es.size : Nat) : Int) < 0 then _ else _) _ _ _
  rw [if_neg (by omega)]
  show wpAny _ _ (if ((es.size : Nat) : Int) ≥ 2 ^ 63 then _ else _) _ _ _
  rw [if_neg (by omega)]
  exact wpAny_bind (wpAny_mkInt (wpAny_pure ⟨_, rfl, h⟩))
end
def rLenT (P : Params) : List V → Hp → VK → Prop := fun vs H Q => ∃ a kvs, vs = [V.ref a] ∧ DtAt P H a kvs ∧ Q (.int (kvs.length : Nat)) H
theorem cl_lenT {X : Cx} {P : Params} (hP : X.w.params = P) : CallR X (.builtin "len") (rLenT P) := by
  subst hP
  intro pins s σ H xs us Q I r h
  obtain ⟨a, kvs, rfl, ⟨m, rfl, e2, e3, e4⟩, q⟩ := h
  cases r with
  | cons r1 r2 =>
  cases r2
  cases r1
  obtain ⟨o, es, ep, g1, g2, g3, g4, g5, z1, z2⟩ := dt_ents I e2 e3 e4
  have hsz : es.size = m.length := g4.len
  refine raw_len z2 ⟨o, g1, g2, g3⟩ (by rw [hsz]; rw [sizeLine_eq] at z1; omega) ?_
  rw [hsz]
  exact ⟨.int (m.length : Nat), H, I.tok _, ⟨_, rfl⟩, by rw [List.length_map] at q; exact q⟩
end L2
namespace L2
open PySem PySem.Spec PyProof.Rows
def rExtendT (K : PySem.W.Frag) : V → List V → Hp → VK → Prop := fun x vs H Q => ∃ l b xs zs, x = .ref l ∧ vs = [.ref b] ∧ H l = some (.lst xs) ∧ SqT K H b zs ∧ xs.length + zs.length ≤ sizeLine ∧ Q .non (upd H l (.lst (xs ++ zs)))
theorem kmt_extendT {X : Cx} (K : PySem.W.Frag) (hK : X.K = K := by rfl) : MtM X "list.extend" (rExtendT K) := by
  subst hK
  intro pins s σ H x vs v us Q I rx rv h
  obtain ⟨l, b, xs, zs, rfl, rfl, hH, hB, hz, q⟩ := h
  cases rx
  obtain ⟨u, rfl, ru⟩ := rv.one
  cases ru
  obtain ⟨z, its, n, r, hl, e⟩ := I.lstM hH
  obtain ⟨its2, r2, ⟨ob, eb, cb, n2, db⟩, z2⟩ := I.tuple hB
  have hl2 := r2.length
  have hsz : its.toArray.size + its2.toArray.size ≤ sizeLine := by rw [List.size_toArray, List.size_toArray]; omega
  have hne : l ≠ b := fun z => by
    subst z
    rw [e] at eb
    injection eb with eb
    rw [← eb] at cb
    exact absurd (show Value.type "list" = Value.type "tuple" from cb) (by decide)
  have h1 : Builtin.List.listSameRef (.ref l) (.ref b) = false := by simp [Builtin.List.listSameRef, hne]
  refine wpAny_call_entry F.slot_list_extend ⟨_, e, rfl⟩ F.entry_list_extend ?_ (F.args_list_extend_2 _ _)
  unfold Builtin.«list.extend»
  show wpAny _ _ (Builtin.List.listExtendWith (.ref l) (.ref b) .none) _ _ s
  unfold Builtin.List.listExtendWith
  refine wpAny_bind (wpAny_typeOf (T := "tuple") ⟨ob, eb, cb⟩ ?_)
  simp only [h1, show (Value.type "tuple" == Value.type "list") = false by decide, show (Value.type "tuple" == Value.type "tuple") = true by decide, Bool.or_false, Bool.or_true, if_true]
  refine wpAny_bind (listItems_at eb db ?_)
  refine wpAny_bind (listItems_at e rfl ?_)
  have hlong : ¬ (!its.toArray.isEmpty && Builtin.List.listTooLong (its.toArray.size + its2.toArray.size)) = true := by
    rw [notLongL hsz, Bool.and_false]
    exact Bool.false_ne_true
  rw [if_neg hlong]
  show wpAny _ _ (updateSeq l (· ++ its2.toArray) >>= _) _ _ s
  refine wpAny_bind (wpAny_updateSeq (hz := by rw [List.size_toArray]; omega) (_hz' := by rw [Array.size_append]; omega) e rfl ?_)
  refine wpAny_pure ⟨_, rfl, .non, _, I.lset (its' := its ++ its2) (t' := s.toks) hH e (by simp) (r.append r2) (by rw [List.length_append]; omega), rfl, q⟩
end L2
namespace L2
open PySem PySem.Spec PyProof.Rows
section
variable {prog : Program} {w : World} {A : Around} {E : Value → Shared → Prop} {s : Shared} {d it : Addr} {es : Array DictEntry} {ep i : Nat}
theorem rawv_item {Q : Option Value → Shared → Prop} {e : DictEntry} (hit : s.heap.IsValIter it d i es.size ep) (x : RawD s.heap d es ep) (he : es[i]? = some e)
    (q : ∀ h', h'.IsValIter it d (i + 1) es.size ep → Heap.SameBut it s.heap h' → Q (some e.val) { s with heap := h' }) : wpAny (model prog w) A (pyNext (.ref it)) Q E s := by
  have T := hit.typeIs
  obtain ⟨o, ho, hc, hd⟩ := id hit
  obtain ⟨od, g1, g2, g3⟩ := x
  have hlt : i < es.size := (Array.getElem?_eq_some_iff.mp he).1
  unfold pyNext
  refine wpAny_bind (wpAny_attempt (wpAny_callSpecial?_slot (name := Str.ofString "__next__") T F.slot_dict_valueiterator_next (wpAny_call_entry F.slot_dict_valueiterator_next T F.entry_dict_valueiterator_next ?_ (F.args_dict_valueiterator_next_1 _))))
  refine wpAny_bind ((wpAny_pure) (wpAny_bind (wpAny_bind ?_)))
  first | refine wpAny_bind (wpAny_typeNameOfWhole_valiter T (wpAny_pure ?_)) | refine wpAny_bind (wpAny_typeNameOf_valiter T (wpAny_pure ?_))
  refine wpAny_bind (wpAny_fieldsOf ho (hd) ?_)
  simp only [show Builtin.Dict_items.ownsTuple "dict_valueiterator" = false by decide, Bool.false_eq_true, if_false]
  show wpAny _ A.in1 (if (Value.ref d == Value.none) = true then _ else _) _ _ s
  rw [if_neg (fun z : (Value.ref d == Value.none) = true => Bool.false_ne_true z)]
  refine wpAny_bind ((wpAny_pure) (wpAny_bind (wpAny_dictEntries g1 g3 ?_)))
  rw [if_neg (by simp)]
  refine wpAny_bind ((wpAny_pure) (wpAny_bind (wpAny_dictEpoch g1 g3 ?_)))
  rw [if_neg (by simp)]
  refine wpAny_pure ?_
  simp only [show ¬ ((i : Int) < 0) by omega, if_false, Int.toNat_natCast, he]
  refine wpAny_bind ?_
  first | refine wpAny_bind (wpAny_typeNameOfWhole_valiter T (wpAny_pure ?_)) | refine wpAny_bind (wpAny_typeNameOf_valiter T (wpAny_pure ?_))
  refine wpAny_bind (wpAny_isOneOf_valiter T ?_)
  show wpAny _ A.in1 (setField (.ref it) 1 (rawInt ((i : Int) + 1)) >>= _) _ _ s
  refine wpAny_bind (wpAny_setField ho (hd) (by simp) ?_)
  have hit2 : (s.heap.update it (Obj.mapFields (·.setIfInBounds 1 (rawInt ((i : Int) + 1))))).IsValIter it d (i + 1) es.size ep :=
    ⟨_, Heap.get?_update_self _ ho (Obj.isFreed_of_fields (Obj.data_mapFields hd _)), (Obj.cls_mapFields ..).trans hc, by rw [Obj.data_mapFields hd]; simp [rawInt]⟩
  refine wpAny_bind (wpAny_holding (wpAny_bind (wpAny_isOneOf_valiter (s := { s with heap := s.heap.update it (Obj.mapFields (·.setIfInBounds 1 (rawInt ((i : Int) + 1)))) }) hit2.typeIs ?_)))
  rw [if_neg (by decide)]
  refine wpAny_bind (wpAny_isOneOf_valiter (s := { s with heap := s.heap.update it (Obj.mapFields (·.setIfInBounds 1 (rawInt ((i : Int) + 1)))) }) hit2.typeIs ?_)
  show wpAny _ A.in1 (pure e.val) _ _ _
  exact wpAny_pure (wpAny_pure ⟨_, rfl, wpAny_pure (q _ hit2 (Heap.SameBut.update ..))⟩)
theorem rawv_end {Q : Option Value → Shared → Prop} (hh : A.handled = none) (hit : s.heap.IsValIter it d i es.size ep) (x : RawD s.heap d es ep) (he : es.size ≤ i)
    (q : ∀ h', Heap.ExtBut it s.heap h' → Q none { s with heap := h' }) : wpAny (model prog w) A (pyNext (.ref it)) Q E s := by
  have T := hit.typeIs
  obtain ⟨o, ho, hc, hd⟩ := id hit
  obtain ⟨od, g1, g2, g3⟩ := x
  unfold pyNext
  refine wpAny_bind (wpAny_attempt (wpAny_callSpecial?_slot (name := Str.ofString "__next__") T F.slot_dict_valueiterator_next (wpAny_call_entry F.slot_dict_valueiterator_next T F.entry_dict_valueiterator_next ?_ (F.args_dict_valueiterator_next_1 _))))
  refine wpAny_bind ((wpAny_pure) (wpAny_bind (wpAny_bind ?_)))
  first | refine wpAny_bind (wpAny_typeNameOfWhole_valiter T (wpAny_pure ?_)) | refine wpAny_bind (wpAny_typeNameOf_valiter T (wpAny_pure ?_))
  refine wpAny_bind (wpAny_fieldsOf ho (hd) ?_)
  simp only [show Builtin.Dict_items.ownsTuple "dict_valueiterator" = false by decide, Bool.false_eq_true, if_false]
  show wpAny _ A.in1 (if (Value.ref d == Value.none) = true then _ else _) _ _ s
  rw [if_neg (fun z : (Value.ref d == Value.none) = true => Bool.false_ne_true z)]
  refine wpAny_bind ((wpAny_pure) (wpAny_bind (wpAny_dictEntries g1 g3 ?_)))
  rw [if_neg (by simp)]
  refine wpAny_bind ((wpAny_pure) (wpAny_bind (wpAny_dictEpoch g1 g3 ?_)))
  rw [if_neg (by simp)]
  refine wpAny_pure ?_
  simp only [show ¬ ((i : Int) < 0) by omega, if_false, Int.toNat_natCast, Array.getElem?_eq_none he]
  refine wpAny_bind ?_
  first | refine wpAny_bind (wpAny_typeNameOfWhole_valiter T (wpAny_pure ?_)) | refine wpAny_bind (wpAny_typeNameOf_valiter T (wpAny_pure ?_))
  show wpAny _ A.in1 (setField (.ref it) 0 .none >>= _) _ _ s
  refine wpAny_bind (wpAny_setField ho (hd) (by simp) ?_)
  show wpAny _ A.in1 (newExc (.type "StopIteration") [] >>= _) _ _ _
  refine wpAny_bind ?_
  simp only [newExc, newTuple]
  refine wpAny_bind (wpAny_newObj_type ?_ (by size_fits))
  refine wpAny_bind (m := firstArgMember _ _) (wpAny_of_eq (a := Value.none) (by first | rfl | (simp only [firstArgMember]; rfl)) (wpAny_newObj_type ?_ (by size_fits)))
  simp only [raiseNew]
  refine wpAny_bind (wpAny_handled ?_)
  rw [show A.in1.handled = none from hh]
  refine wpAny_bind ((wpAny_pure) ((wpAny_throw) ?_))
  refine wpAny_bind (wpAny_isInstance (b := true) (T := "StopIteration") ⟨_, Heap.get?_push_size _ rfl, rfl⟩ isSubtype_stop ?_)
  exact wpAny_pure (q _ (((Heap.SameBut.update ..).extBut.push _).push _))
theorem rawv_walks (hh : A.handled = none) (hne : d ≠ it) : Walks prog w A it [it, d] [it] es.size (fun i v => ∃ e, es[i]? = some e ∧ v = e.val) (fun i h => h.IsValIter it d i es.size ep ∧ RawD h d es ep) where
  sub := fun b hb => by simp at hb; simp [hb]
  frame := fun _ _ _ st hk => ⟨st.1.at fun o e => hk it (by simp) o e, st.2.keep fun o e => hk d (by simp) o e⟩
  item := fun i s Q E hi st hQ => rawv_item st.1 st.2 (Array.getElem?_eq_getElem hi) fun h' hit' hs => hQ _ h' s.toks ⟨_, Array.getElem?_eq_getElem hi, rfl⟩ ⟨hit', st.2.keep fun o e => hs.extBut d o hne e⟩ fun b o hb e => hs.extBut b o (fun h => hb (by simp [h])) e
  done := fun s Q E st hQ => rawv_end hh st.1 st.2 (Nat.le_refl _) fun h' he' => hQ h' s.toks fun b o hb e => he' b o (fun h => hb (by simp [h])) e
  self := fun _ _ _ _ st hQ => wpAny_pyIter_valiter st.1 hQ
end
end L2
namespace L2
open PySem PySem.Spec PyProof.Rows
def ViewAt (H : Hp) (p d : Addr) : Prop := H p = some (.ext fun h => h.IsValuesView p d)
def tTVals (P : Params) (td : TE) : TE := fun σ H Q => td σ H fun x H1 => ∃ a kvs, x = .ref a ∧ DtAt P H1 a kvs ∧ ∀ p H', H1 p = none → Same H1 H' → ViewAt H' p a → Q (.ref p) H'
theorem i_tvals {P : Params} {td : TE} {σ : St} {H : Hp} {Q : VK} (h : td σ H fun x H1 => ∃ a kvs, x = .ref a ∧ DtAt P H1 a kvs ∧ ∀ p H', H1 p = none → Same H1 H' → ViewAt H' p a → Q (.ref p) H') : tTVals P td σ H Q := h
section
variable {X : Cx} {P : Params} {o : Expr} {td : TE} {apos cpos : Pos}
theorem pe_tvals (hP : X.w.params = P) (ho : PE X o td) (hbase : attributeBase o "values" X.env (eval o X.env) = eval o X.env := by rfl) (hline : (apos.endLine == cpos.line) = true := by rfl) : PE X (.Call (.Attribute o "values" apos) [] [] cpos) (tTVals P td) := by
  subst hP
  intro pins s σ H Q I h
  refine wpAny_Call_method0_late hbase hline (thn (ho pins s σ H _ I h) fun v s1 ⟨x, H1, I1, r1, a, kvs, ex, g1, q1⟩ => ?_)
  subst ex
  obtain rfl : v = Value.ref a := r1
  obtain ⟨es, ep, x, lo, _⟩ := dt_raw I1 g1
  refine ⟨"dict", "dict.values", PySem.F.plainAttrs_dict, PySem.F.slot_dict_values, PySem.F.type_dict_values, x.ty, (fun b q => by cases q; obtain ⟨ob, h1, h2, _⟩ := x; exact ⟨ob, h1, h2.2.1⟩), Calls.callWith_builtin rfl (PySem.evalArgs_none ?_)⟩
  refine wpAny_call_entry PySem.F.slot_dict_values x.ty PySem.F.entry_dict_values ?_ (PySem.F.args_dict_values_1 _)
  unfold Builtin.«dict.values»
  refine wpAny_bind ?_
  unfold Builtin.Dict.noArgs
  refine wpAny_bind (wpAny_notOrdered_dict x.ty ?_)
  show wpAny _ _ (pure a) _ _ s1
  refine wpAny_pure ?_
  show wpAny _ _ (Builtin.Dict.showsAll a >>= _) _ _ s1
  unfold Builtin.Dict.showsAll
  rw [if_neg (by rw [lo]; exact Bool.false_ne_true)]
  refine wpAny_bind (wpAny_pure (wpAny_bind (wpAny_newObj_type (wpAny_pure ⟨_, rfl, ?_⟩))))
  have hp := I1.hok.fresh (Nat.le_refl s1.heap.objs.size)
  have vw : (s1.heap.push { cls := .type "dict_values", data := .fields #[.ref a] }).IsValuesView s1.heap.objs.size a := ⟨_, Heap.get?_push_size _ rfl, rfl, rfl⟩
  have I2 := I1.laid (t' := s1.toks) (h' := s1.heap.push { cls := .type "dict_values", data := .fields #[.ref a] }) (a := s1.heap.objs.size) (o := .ext fun h => h.IsValuesView s1.heap.objs.size a) (fun b u e => Heap.get?_push_of_some _ e) (Nat.le_refl _) ⟨vw, let ⟨ob, e, _⟩ := vw; ⟨ob, e⟩, fun h1 h2 ⟨ob, e, r⟩ k => ⟨ob, k _ e, r⟩⟩
  exact ⟨.ref s1.heap.objs.size, _, I2, rfl, q1 _ _ hp (Same.new hp) upd_same⟩
end
section
variable {prog : Program} {w : World} {A : Around} {E : Value → Shared → Prop} {s : Shared} {d v : Addr} {es : Array DictEntry} {ep : Nat}
theorem rawv_iter {Q : Value → Shared → Prop} (hv : s.heap.IsValuesView v d) (x : RawD s.heap d es ep) (q : Q (.ref s.heap.objs.size) { s with heap := s.heap.push { cls := .type "dict_valueiterator", data := .fields #[.ref d, .int 0 0, .int es.size 0, .int ep 0] } }) : wpAny (model prog w) A (pyIter (.ref v)) Q E s := by
  obtain ⟨ov, hov, hcv, hdv⟩ := id hv
  obtain ⟨o, ho, hc, hdat⟩ := id x
  refine wpAny_pyIter_slot hv.typeIs F.slot_dict_values_iter (wpAny_call_entry F.slot_dict_values_iter hv.typeIs F.entry_dict_values_iter ?_ (F.args_dict_values_iter_1 _))
  unfold Builtin.«dict_values.__iter__»
  refine wpAny_bind (wpAny_pure (wpAny_bind ?_))
  unfold Builtin.Dict_items.dictOf
  refine wpAny_bind (wpAny_field hov hdv (x := .ref d) rfl (wpAny_pure (wpAny_bind ?_)))
  unfold Builtin.Dict_items.newIterator
  refine wpAny_bind (wpAny_dictEntries ho hdat (wpAny_bind (wpAny_dictEpoch ho hdat ?_)))
  simp only [show Builtin.Dict_items.ownsTuple "dict_valueiterator" = false by decide, Bool.false_eq_true, if_false]
  refine wpAny_newObj_type (wpAny_pure ⟨_, rfl, "dict_valueiterator", _, ⟨_, Heap.get?_push_size _ rfl, rfl⟩, F.slot_dict_valueiterator_next.lookup, ?_⟩)
  simpa [rawInt] using q
end
end L2
namespace L2
open PySem PySem.Spec PyProof.Rows
def rMaxV (P : Params) : List V → Hp → VK → Prop := fun vs H Q => ∃ (p d : Addr) (kvs : List (Tr × V)) (ns : List Int), vs = [V.ref p] ∧ ViewAt H p d ∧ DtAt P H d kvs ∧ kvs.map (·.2) = ns.map V.int ∧ 0 < ns.length ∧ ∀ b, b ∈ ns → (∀ x ∈ ns, x ≤ b) → Q (.int b) H
section
variable {X : Cx} {P : Params}
theorem cl_maxV (hP : X.w.params = P) (hc : X.calm = true) : CallR X (.builtin "max") (rMaxV P) := by
  subst hP
  intro pins s σ H xs us Q I r h
  obtain ⟨p, d, kvs, ns, rfl, hv, ⟨m, rfl, e2, e3, e4⟩, hns, hpos, q⟩ := h
  cases r with
  | cons r1 r2 =>
  cases r2
  cases r1
  obtain ⟨o, es, ep, q1, q2, q3, q4, q5, z1, z2⟩ := dt_ents I e2 e3 e4
  have vw : s.heap.IsValuesView p d := (I.hok p _ hv).1
  have lt : d < s.heap.objs.size := Heap.lt_size q1
  have ml : ns.length = m.length := by
    have := congrArg List.length hns
    simpa using this.symm
  have hval : ∀ (i : Nat) (v : Value), (∃ e, es[i]? = some e ∧ v = e.val) → ∃ t, v = .int (ns.getD i 0) t := by
    rintro i v ⟨e, he, rfl⟩
    have hi : i < m.length := by rw [← q4.len]; exact (Array.getElem?_eq_some_iff.mp he).1
    obtain ⟨en, f1, f2, f3, f4⟩ := q4.at_ i m[i] (List.getElem?_eq_getElem hi)
    rw [he] at f1
    cases f1
    have hm : (m.map fun x => (x.1, x.2.2)).map (·.2) = m.map (·.2.2) := by rw [List.map_map]; rfl
    have h2 : (ns.map V.int)[i]? = some m[i].2.2 := by rw [← hns, hm, List.getElem?_map, List.getElem?_eq_getElem hi]; rfl
    rw [List.getElem?_map, List.getElem?_eq_getElem (by omega)] at h2
    have h3 : V.int (ns[i]'(by omega)) = m[i].2.2 := by injection h2
    rw [← h3] at f4
    obtain ⟨t, ht⟩ := f4
    exact ⟨t, by rw [ht, List.getD_eq_getElem?_getD, List.getElem?_eq_getElem (by omega)]; rfl⟩
  refine call_max_walkS (rawv_iter vw ⟨o, q1, q2, q3⟩ ⟨_, _, _, _, _, _, _, _, rfl, (rawv_walks (A := X.A.in1) (es := es) (ep := ep) (I.ok.hd hc) (Nat.ne_of_lt lt)).toS, ⟨⟨_, Heap.get?_push_size _ rfl, rfl, rfl⟩, o, Heap.get?_push_of_some _ q1, q2, q3⟩, fun b hb => ?_, by rw [q4.len, ← ml]; exact hpos, CmpOf.ints_gt (fun i => ns.getD i 0) hval, fun v s' hP hm => ?_⟩)
  · simp only [List.mem_cons, List.not_mem_nil, or_false] at hb
    rcases hb with rfl | rfl
    · rw [Heap.size_push]; exact Nat.lt_succ_self _
    · rw [Heap.size_push]; exact Nat.lt_succ_of_lt lt
  · obtain ⟨t, rfl⟩ := hval _ _ hP
    obtain ⟨b1, b2⟩ := argBest_gt (fun i => ns.getD i 0) (es.size - 1)
    have bl : argBest (fun i j => decide (ns.getD i 0 > ns.getD j 0)) (es.size - 1) < ns.length := by rw [q4.len] at b1 ⊢; omega
    rw [Moved.eq_with hm]
    refine ⟨.int _, H, I.kept (t' := s'.toks) fun b ob e => hm.heap b ob (fun z => ?_) (Heap.get?_push_of_some _ e), ⟨t, rfl⟩, q _ ?_ fun x hx => ?_⟩
    · exact absurd (Heap.lt_size e) (by rw [List.mem_singleton.mp z]; exact Nat.lt_irrefl _)
    · rw [List.getD_eq_getElem?_getD, List.getElem?_eq_getElem bl]
      exact List.getElem_mem _
    · obtain ⟨j, hj, rfl⟩ := List.mem_iff_getElem.mp hx
      have := b2 j (by rw [q4.len]; omega)
      rw [List.getD_eq_getElem?_getD (l := ns) (i := j), List.getElem?_eq_getElem hj] at this
      exact this
end
end L2
namespace L2
open PySem PySem.Spec PyProof.Rows
theorem draws_tup {prog : Program} {w : World} {A : Around} (hh : A.handled = none) (it l : Addr) (hne : l ≠ it) (items : Array Value) :
    Draws prog w A it [it, l] items.size (fun i v => items[i]? = some v) (fun i h => h.IsTupleIter it l i ∧ h.IsTuple l items) where
  live := fun _ _ st => let ⟨o, ho, _⟩ := st.1; ⟨o, ho⟩
  frame := fun _ _ _ st hk => ⟨tupIter_at st.1 fun o e => hk it (by simp) o e, let ⟨o, e, r⟩ := st.2; ⟨o, hk l (by simp) o e, r⟩⟩
  item := fun i s Q E hi st hQ => by
    refine nextOf_tuple_item st.1 st.2 (x := items[i]) (by simp [hi]) fun h' hit' hs' => ?_
    exact hQ _ h' s.toks (by simp [hi]) ⟨hit', let ⟨o, e, r⟩ := st.2; ⟨o, hs'.extBut l o hne e, r⟩⟩ hs'
  done := fun s Q E st hE => nextOf_tuple_end hh st.1 st.2 (by simp) hE
open AutoSeq1 (wpAny_loadPart')
def tupIt (l : Addr) : Obj := { cls := .type "tuple_iterator", data := .fields #[.ref l, .int 0 0] }
def enObj (it : Addr) : Obj := { cls := .type "enumerate", data := .fields #[.none, .bool false, .ref it, rawInt 0, .none, .none] }
theorem enum_newT (l : Addr) (items : Array Value) (n : Nat) (dct : Option Addr) (sl : Array (Option Value)) :
    Meets (Builtin.«enumerate.__new__» ⟨[.type "enumerate", .ref l], []⟩) (fun _ R s => s.heap.get? l = some { cls := .type "tuple", dict := dct, data := .seq items n, slots := sl } ∧
      R (.ok (.ret (.ref (s.heap.push (tupIt l)).objs.size))) { s with heap := (s.heap.push (tupIt l)).push (enObj s.heap.objs.size) }) :=
  .of_wp fun prog w A R s h => by
    obtain ⟨hp, g, d, tk, os⟩ := s
    obtain ⟨hl, h⟩ := h
    have hsub := sub_enumerate
    have hL : Heap.IsTuple (Shared.heap ⟨hp, g, d, tk, os⟩) l items := ⟨_, hl, rfl, n, rfl⟩
    wp_walk using wpAny_loadPart' hl
    refine wpAny_stack_any fun st => wpAny_pure ?_
    split
    · rename_i c _ _ _ _ _
      cases (c == Value.type "enumerate")
      · wp_walk using wpAny_loadPart' hl, wpAny_pyIter_tuple hL
        exact ⟨_, rfl, h⟩
      · wp_walk using wpAny_loadPart' hl, wpAny_pyIter_tuple hL
        exact ⟨_, rfl, h⟩
    · wp_walk using wpAny_loadPart' hl, wpAny_pyIter_tuple hL
      exact ⟨_, rfl, h⟩
theorem call_enumT {prog : Program} {w : World} {A : Around} {E : Value → Shared → Prop} {s : Shared} {l : Addr} {items : Array Value} {Q : Value → Shared → Prop} (hL : s.heap.IsTuple l items)
    (h : ∀ h', IsEnum h' (s.heap.objs.size + 1) s.heap.objs.size 0 .none → h'.IsTupleIter s.heap.objs.size l 0 → (∀ b o, s.heap.get? b = some o → h'.get? b = some o) → Q (.ref (s.heap.objs.size + 1)) { s with heap := h' }) :
    wpAny (model prog w) A (call (.type "enumerate") [.ref l]) Q E s := by
  obtain ⟨⟨c, dct, dt, sl⟩, hl, hc, n, hd⟩ := hL
  replace hc : c = .type "tuple" := hc
  replace hd : dt = .seq items n := hd
  subst hc hd
  refine callType_new F.called_enumerate (by decide) (F.typeCall_enumerate_1 _) (F.newCall_enumerate_1 _) (fun obj => F.args_object_init_2 obj _) F.entry_enumerate_new (enum_newT l items n dct sl) ⟨hl, ?_⟩
  have hz : (s.heap.push (tupIt l)).objs.size = s.heap.objs.size + 1 := Heap.size_push ..
  show _ ∧ _
  rw [hz]
  have he : IsEnum ((s.heap.push (tupIt l)).push (enObj s.heap.objs.size)) (s.heap.objs.size + 1) s.heap.objs.size 0 .none := by
    have := Heap.get?_push_size (s.heap.push (tupIt l)) (o := enObj s.heap.objs.size) rfl
    rw [hz] at this
    exact this
  exact ⟨⟨_, he, rfl⟩, h _ he ⟨_, Heap.get?_push_of_some _ (Heap.get?_push_size _ rfl), rfl, rfl⟩ fun b o x => Heap.get?_push_of_some _ (Heap.get?_push_of_some _ x)⟩
end L2
namespace L2
open PySem PySem.Spec PyProof.Rows
def IteT (K : PySem.W.Frag) (a : Addr) : It :=
  ⟨fun i H => ∃ xs x, SqT K H a xs ∧ xs[i]? = some x, fun i H v H' => ∃ p y, v = .ref p ∧ H p = none ∧ Same H H' ∧ H' p = some (.tup [.int (i : Nat), y]) ∧ ∀ xs, SqT K H a xs → xs[i]? = some y, fun i H => ∃ xs, SqT K H a xs ∧ xs.length = i⟩
theorem turn_enumT {P : Program} {w : World} {K : PySem.W.Frag} {elts : List Expr} {x1 : Nat} {pos : Pos} (a e it : Addr) (hne : e ≠ it) :
    Turn P w K (.Tuple elts x1 pos) (IteT K a) [e, it] e (fun i h => (∃ old, IsEnum h e it (i : Nat) old) ∧ h.IsTupleIter it a i) where
  mem := by simp
  obj := fun i h st b hb => by
    obtain ⟨⟨old, he⟩, o, e2, c, d⟩ := st
    rcases (by simpa using hb : b = e ∨ b = it) with rfl | rfl
    · exact ⟨_, he, fun v z => by cases z⟩
    · exact ⟨o, e2, fun v z => by rw [d] at z; cases z⟩
  keep := fun i h h' st k => ⟨let ⟨old, he⟩ := st.1; ⟨old, k e (by simp) _ he⟩, tupIter_at st.2 fun o x => k it (by simp) o x⟩
  item := by
    intro X hP hw hK hc i pins s σ H E I hf st hg
    subst hP hw hK
    obtain ⟨xs, x, hq, hx⟩ := hg
    obtain ⟨its, rv, ⟨ob, p1, p2, n, p3⟩, hz⟩ := I.tuple hq
    obtain ⟨u, hu, ru⟩ := rv.get hx
    obtain ⟨⟨old, he⟩, hit⟩ := st
    have helt : e < s.heap.objs.size := Heap.lt_size he
    have hilt : it < s.heap.objs.size := by obtain ⟨_, q, _⟩ := hit; exact Heap.lt_size q
    have nea : e ≠ a := fun z => by
      subst z
      have he' := he
      unfold IsEnum at he'
      rw [p1] at he'
      injection he' with he'
      rw [he'] at p2
      exact absurd (show Value.type "enumerate" = Value.type "tuple" from p2) (by decide)
    have nia : a ≠ it := fun z => by
      subst z
      obtain ⟨o2, g1, g2, _⟩ := hit
      rw [p1] at g1
      cases g1
      rw [p2] at g2
      exact absurd g2 (by decide)
    have hl : i < its.toArray.size := by
      have := (List.getElem?_eq_some_iff.mp hu).1
      simpa using this
    refine wpAny_pyNext_enum_itemD (draws_tup (A := X.A.in1) (I.ok.hd hc) it a nia its.toArray) he ⟨hit, ob, p1, p2, n, p3⟩ hl hne (by simp only [List.mem_cons, List.not_mem_nil, or_false, not_or]; exact ⟨hne, nea⟩) fun y h' tk hy ho st' hT hsz hk => ?_
    have hyu : y = u := by
      rw [List.getElem?_toArray, hu] at hy
      cases hy
      rfl
    subst hyu
    have fr : H s.heap.objs.size = none := I.hok.fresh (Nat.le_refl _)
    have I1 : Inv X pins σ H { s with heap := h', toks := tk + 1 } := I.turnedL (ch := [e, it]) (fun b o hb q => hk b o (fun z => hb (by simp [z])) (fun z => hb (by simp [z])) q) hf
    have I2 : Inv X pins σ (upd H s.heap.objs.size (.tup [.int (i : Nat), x])) { s with heap := h', toks := tk + 1 } := I1.adopt (o := .tup [.int (i : Nat), x]) fr I.sz (Nat.ne_of_gt I.lt) (fun y c ec z => by
        obtain ⟨v, q⟩ := I.cell y c ec
        exact absurd q.lt (by rw [z]; exact Nat.lt_irrefl _)) (fun q hq z => absurd (Heap.lt_size (I.pin q hq).1) (by rw [z]; exact Nat.lt_irrefl _))
      ⟨le_line (by simp), [.int (i : Nat) tk, y], .cons ⟨_, rfl⟩ (.cons ru .nil), ⟨_, hT, rfl, _, rfl⟩⟩
    have ne : ∀ b ∈ [e, it], b ≠ s.heap.objs.size := fun b hb => by
      rcases (by simpa using hb : b = e ∨ b = it) with rfl | rfl
      · exact Nat.ne_of_lt helt
      · exact Nat.ne_of_lt hilt
    have hf2 : ∀ b ∈ [e, it], FpOk X pins (upd H s.heap.objs.size (.tup [.int (i : Nat), x])) b := fun b hb => ⟨by rw [upd_ne (ne b hb)]; exact (hf b hb).1, (hf b hb).2⟩
    refine ⟨_, rfl, wpAny_letOwnedTupleGo_enum ho fun h2 he2 hs2 => ⟨.ref s.heap.objs.size, _, I2.turnedL (t' := tk + 1) (ch := [e]) (fun b o hb q => (hs2.2 b (fun z => hb (by simp [z]))).trans q) (fun b hb => hf2 b (by simp at hb; simp [hb])), rfl, ⟨s.heap.objs.size, x, rfl, fr, Same.new fr, upd_same, fun ys hy => by rw [I.tuple_inj hy hq]; exact hx⟩, ⟨⟨_, by simpa using he2⟩, tupIter_at st'.1 fun o q => (hs2.2 it (Ne.symm hne)).trans q⟩, fun b hb => (hf2 b hb).1⟩⟩
  done := by
    intro X hP hw hK hc i pins s σ H E I hf st hg
    subst hP hw hK
    obtain ⟨xs, hq, hx⟩ := hg
    obtain ⟨its, rv, ⟨ob, p1, p2, n, p3⟩, hz⟩ := I.tuple hq
    obtain ⟨⟨old, he⟩, hit⟩ := st
    have nia : a ≠ it := fun z => by
      subst z
      obtain ⟨o2, g1, g2, _⟩ := hit
      rw [p1] at g1
      cases g1
      rw [p2] at g2
      exact absurd g2 (by decide)
    have hl : its.toArray.size = i := by
      have := rv.length
      rw [List.size_toArray, ← this]
      exact hx
    subst hl
    exact wpAny_pyNext_enum_endD (draws_tup (A := X.A.in1) (I.ok.hd hc) it a nia its.toArray) he ⟨hit, ob, p1, p2, n, p3⟩ fun h' eb => ⟨rfl, I.turnedL (t' := s.toks) (ch := [it]) (fun b o hb q => eb b o (fun z => hb (by simp [z])) q) (fun b hb => hf b (by simp at hb; simp [hb]))⟩
  self := fun A i s Q E st h => let ⟨old, he⟩ := st.1; wpAny_pyIter_enum he h
section
variable {X : Cx} {elts : List Expr} {x1 : Nat} {tpos : Pos}
def iEnumT (K : PySem.W.Frag) (ta : TA) : TI := fun σ H R => ta σ H fun vs H1 => ∃ a, vs = [.ref a] ∧ (∃ xs, SqT K H1 a xs) ∧ R (IteT K a) H1
theorem pi_enumT (K : PySem.W.Frag) {a : Expr} {ta : TA} {p pos : Pos} (hg : Gl X "enumerate") (hm : X.mg "enumerate" = none) (ha : PA X [a] ta) (hs : starEach [a] X.env = [(false, eval a X.env)] := by rfl) (hK : X.K = K := by rfl) : PI X (.Tuple elts x1 tpos) (.Call (.Name "enumerate" p) [a] [] pos) (iEnumT K ta) := by
  subst hK
  intro pins s σ H R I h
  refine Call_ (ld_blt I hg hm boot_enumerate (PyProof.Rows.callWith_type1 (thn (ha pos pins s σ H _ I h) fun us s1 ⟨vs, H1, I1, r1, q1⟩ => ?_) hs rfl))
  obtain ⟨l, e, ⟨xs, hq⟩, q⟩ := q1
  subst e
  obtain ⟨u, rfl, ru⟩ := vals1 r1
  cases ru
  obtain ⟨its, rv, pl, hz⟩ := I1.tuple hq
  refine call_enumT pl fun h' he hit hk => ?_
  refine wpAny_pyIter_enum he ?_
  refine ⟨s1.heap.objs.size + 1, [s1.heap.objs.size + 1, s1.heap.objs.size], _, _, H1, rfl, I1.kept (t' := s1.toks) hk, turn_enumT l _ _ (Nat.succ_ne_self _), ⟨⟨_, he⟩, hit⟩, fun b hb => ?_, q⟩
  have hb' : s1.heap.objs.size ≤ b := by
    rcases (by simpa using hb : b = s1.heap.objs.size + 1 ∨ b = s1.heap.objs.size) with rfl | rfl <;> omega
  exact I1.fpOk hb' (I1.hok.fresh hb')
theorem i_enumT {K : PySem.W.Frag} {σ : St} {H : Hp} {R : It → Hp → Prop} {ts : TA} (h : ts σ H fun vs H1 => ∃ a, vs = [.ref a] ∧ (∃ xs, SqT K H1 a xs) ∧ R (IteT K a) H1) : iEnumT K ts σ H R := h
theorem for_enumT {K : PySem.W.Frag} {a : Addr} {xs : List V} {g : TG} {tb : TS} {D : Ends} {σ : St} {H : Hp} (Pv : Nat → St → Hp → Prop) (h0 : Pv 0 σ H) (hl : ∀ i σ H, i ≤ xs.length → Pv i σ H → SqT K H a xs)
    (hs : ∀ i x σ H q H2, xs[i]? = some x → Pv i σ H → Same H H2 → H2 q = some (.tup [.int (i : Nat), x]) → g (.ref q) σ H2 fun σ1 H1 => tb { D with nx := Pv (i + 1), ct := Pv (i + 1), bk := D.nx } σ1 H1)
    (hd : ∀ σ H, Pv xs.length σ H → D.nx σ H) : ForEnd (IteT K a) g tb D σ H := by
  refine ⟨fun i m σ H => m = xs.length - i ∧ i ≤ xs.length ∧ Pv i σ H, ⟨xs.length, by simp, Nat.zero_le _, h0⟩, ?_⟩
  rintro i m σ' H' ⟨rfl, hi, p⟩
  have hq := hl i σ' H' hi p
  by_cases hlt : i < xs.length
  · refine .inr ⟨⟨xs, xs[i], hq, by simp [hlt]⟩, Pv (i + 1), fun σ2 H2 p' => ⟨xs.length - (i + 1), by omega, rfl, hlt, p'⟩, fun v H2 y => ?_⟩
    obtain ⟨q, x, rfl, hn, sm, hT, hx⟩ := y
    exact hs i x σ' H' q H2 (hx xs hq) p sm hT
  · have e : i = xs.length := by omega
    subst e
    exact .inl ⟨⟨xs, hq, rfl⟩, hd σ' H' p⟩
end
end L2
namespace L2
open PySem PySem.Spec PyProof.Rows
theorem orStand_led (t : SetTable) (n : Nat) : (t.orStandIn n).led = t.led ∧ (t.plain = false → (t.orStandIn n).plain = false) := by
  unfold SetTable.orStandIn
  split
  · exact ⟨rfl, id⟩
  · exact ⟨rfl, fun _ => rfl⟩
theorem lay_led (t : SetTable) (es : Array (Int × Value)) (h : Int) (x : Value) : (layNew t es h x).2.1.led = t.led ∧ (t.plain = false → (layNew t es h x).2.1.plain = false) := by
  unfold layNew
  split
  · exact orStand_led _ _
  · exact ⟨rfl, fun _ => rfl⟩
theorem relay_led (t : SetTable) (es : Array (Int × Value)) (n : Nat) : (relayAll t es n).2.1.led = t.led ∧ (t.plain = false → (relayAll t es n).2.1.plain = false) := by
  unfold relayAll
  split
  · next t' order he =>
    dsimp only
    split
    · unfold SetTable.relaid SetTable.laid at he
      simp only [Option.bind_eq_bind, Option.pure_def, Option.bind_eq_some_iff, Option.some.injEq] at he
      obtain ⟨ow, _, he⟩ := he
      have := congrArg Prod.fst he
      dsimp only at this
      rw [← this]
      exact ⟨rfl, id⟩
    · exact ⟨rfl, fun _ => rfl⟩
  · exact ⟨rfl, fun _ => rfl⟩
section
variable {prog : Program} {w : World}
structure SStr (prog : Program) (w : World) (h : Heap) (a : Addr) (es : Array (Int × Value)) : Prop where
  ex : ∃ o ep t, h.get? a = some o ∧ o.ExactSet ∧ o.data = .set es ep t ∧ t.fits es.size = true ∧ t.led = !w.params.followText "set-order" ∧ (0 < es.size → t.plain = false)
  el : ElemsOf (strKind prog w) es.toList
  lt : es.size < scanBound
theorem SStr.store {h : Heap} {a : Addr} {o : Obj} {es es' : Array (Int × Value)} {ep : Nat} {t t' : SetTable} (ho : h.get? a = some o) (hx : o.ExactSet) (hd : o.data = .set es ep t) (hf : t'.fits es'.size = true) (hl : t'.led = !w.params.followText "set-order") (hp : 0 < es'.size → t'.plain = false) (el : ElemsOf (strKind prog w) es'.toList) (lt : es'.size < scanBound) :
    (h.update a (Obj.putSet es' t')).get? a = some { o with data := .set es' (ep + 1) t' } ∧ SStr prog w (h.update a (Obj.putSet es' t')) a es' := by
  have e : (h.update a (Obj.putSet es' t')).get? a = some { o with data := .set es' (ep + 1) t' } := by
    rw [← putSet_of es' t' hd]
    exact Heap.get?_update_self (Obj.putSet es' t') ho (by rw [putSet_of es' t' hd]; rfl)
  exact ⟨e, ⟨_, ep + 1, t', e, hx, rfl, hf, hl, hp⟩, el, lt⟩
def Grew (w : World) (es es' : Array (Int × Value)) (k : Str) : Prop := (es' = es ∧ ∃ e ∈ es.toList, e.2.isStrOf k = true) ∨ ((∀ e ∈ es.toList, e.2.isStrOf k = false) ∧ ∃ u, es'.toList.Perm (es.toList ++ [(hashStr w k, .str k u)]))
variable {A : Around} {E : Value → Shared → Prop} {s : Shared}
theorem SStr.add {a : Addr} {es : Array (Int × Value)} {k : Str} {u : Tok} {Q : Bool → Shared → Prop} (hS : SStr prog w s.heap a es) (room : es.size + 1 < scanBound)
    (h : ∀ b h' es', Heap.SameBut a s.heap h' → SStr prog w h' a es' → Grew w es es' k → Q b { s with heap := h', toks := s.toks + 1 }) : wpAny (model prog w) A (setAdd a (.str k u)) Q E s := by
  obtain ⟨⟨o, ep, t, ho, hx, hd, hf, hl, hp⟩, hel, hlt⟩ := hS
  have hk : (strKind prog w).is k (.str k u) = true := by simp [PySem.strKind, Value.isStrOf]
  have hsc : (Value.str k u).scannable = true := rfl
  unfold setAdd setAddHashed setAddHashedIn
  refine wpAny_holding (wpAny_bind ((strKind prog w).pyHash hk ?_))
  refine wpAny_holding (wpAny_bind (wpAny_setState_of (s := { s with toks := s.toks + 1 }) ho hd hf ?_))
  dsimp only
  rw [byScan_of hsc hlt hel]
  simp only [↓reduceIte]
  unfold setAddByScan
  refine wpAny_bind (wpAny_bind (wpAny_rule (wpAny_bind (wpAny_setScan_of (s := { s with toks := s.toks + 1 }) hk ho hd hf hel ?_))))
  cases hr : List.findIdx? (fun e => (strKind prog w).is k e.2) es.toList with
  | some j =>
    dsimp only
    obtain ⟨hj, hpj, _⟩ := List.findIdx?_eq_some_iff_getElem.mp hr
    exact wpAny_pure (wpAny_pure (h _ s.heap es (Heap.SameBut.refl a s.heap) ⟨⟨o, ep, t, ho, hx, hd, hf, hl, hp⟩, hel, hlt⟩ (.inl ⟨rfl, _, List.getElem_mem hj, hpj⟩)))
  | none =>
    dsimp only
    have hno : ∀ e ∈ es.toList, e.2.isStrOf k = false := fun e he => by
      have := List.findIdx?_eq_none_iff.mp hr e he
      exact this
    have hgw : ∀ (b : Bool) {s₁ : Shared} {Q' : Unit → Shared → Prop}, Q' () s₁ → wpAny (model prog w) A (match b with | true => rule "set.scan.the-table-gave-way" | false => pure ()) Q' E s₁ := fun b s₁ Q' hq => by
      cases b
      · exact wpAny_pure hq
      · exact wpAny_rule hq
    have p1 := layNew_perm t es ((strKind prog w).hash k) (.str k u)
    have q1 := layNew_fits t es ((strKind prog w).hash k) (.str k u)
    have r1 := lay_led t es ((strKind prog w).hash k) (.str k u)
    generalize layNew t es ((strKind prog w).hash k) (.str k u) = L at p1 q1 r1 ⊢
    obtain ⟨es1, t1, wd, gv⟩ := L
    dsimp only at p1 q1 r1 ⊢
    rw [Array.toList_push] at p1
    have el1 : ElemsOf (strKind prog w) es1.toList := (hel.push hk hsc).perm p1
    have sz1 : es1.size = es.size + 1 := by rw [← Array.length_toList, p1.length_eq]; simp
    refine wpAny_bind (hgw _ ?_)
    have fin : ∀ t2 : SetTable, t2.fits es1.size = true → t2.led = t.led → t2.plain = false → wpAny (model prog w) A (do
        storeSet a es1 t2
        if (!wd && t2.tooFull) = true then do
            (match (relayAll t2 es1 (SetTable.grown es1.size)).2.2 with | true => rule "set.scan.the-table-gave-way" | false => pure ())
            storeSet a (relayAll t2 es1 (SetTable.grown es1.size)).1 (relayAll t2 es1 (SetTable.grown es1.size)).2.1
            pure (some true)
          else pure (some true)) (fun r s₁ => wpAny (model prog w) A (match r with | some added => pure added | none => setAddHashedIn a (.str k u) ((strKind prog w).hash k) 99999) Q E s₁) E { s with toks := s.toks + 1 } := by
      intro t2 f2 l2 pl2
      obtain ⟨o1, S1⟩ := SStr.store (prog := prog) (w := w) (es' := es1) (t' := t2) ho hx hd f2 (l2.trans hl) (fun _ => pl2) el1 (by omega)
      have b1 := Heap.SameBut.update s.heap a (Obj.putSet es1 t2)
      refine wpAny_bind (wpAny_storeSet_of (s := { s with toks := s.toks + 1 }) ho hd ?_ (fits_of_scanBound (by omega)))
      split
      · have p2 := relayAll_perm t2 es1 (SetTable.grown es1.size)
        have q2 := relayAll_fits t2 es1 (SetTable.grown es1.size)
        have r2 := relay_led t2 es1 (SetTable.grown es1.size)
        generalize relayAll t2 es1 (SetTable.grown es1.size) = R at p2 q2 r2 ⊢
        obtain ⟨es2, t3, gv2⟩ := R
        dsimp only at p2 q2 r2 ⊢
        have sz2 : es2.size = es1.size := by rw [← Array.length_toList, p2.length_eq, Array.length_toList]
        refine wpAny_bind (hgw _ ?_)
        obtain ⟨_, S2⟩ := SStr.store (prog := prog) (w := w) (es' := es2) (t' := t3) o1 hx rfl q2 (r2.1.trans (l2.trans hl)) (fun _ => r2.2 pl2) (el1.perm p2) (by omega)
        refine wpAny_bind (wpAny_storeSet_of o1 rfl ?_ (fits_of_scanBound (by omega)))
        exact wpAny_pure (wpAny_pure (h _ _ es2 (b1.trans (Heap.SameBut.update _ a _)) S2 (.inr ⟨hno, u, p2.trans p1⟩)))
      · exact wpAny_pure (wpAny_pure (h _ _ es1 b1 S1 (.inr ⟨hno, u, p1⟩)))
    split
    · refine wpAny_bind ?_
      rw [hashByValue_scannable 8 hsc]
      refine wpAny_pure ?_
      exact fin { t1 with plain := false } q1 r1.1 rfl
    · next hpl =>
      refine wpAny_bind (wpAny_pure ?_)
      simp only [↓reduceIte]
      exact fin t1 q1 r1.1 (by simpa using hpl)
end
end L2
namespace L2
open PySem PySem.Spec PyProof.Rows
noncomputable def metS (ks : List Str) (k : Str) : List Str := if k ∈ ks then ks else ks ++ [k]
noncomputable def firstS (val : Nat → Str) (i : Nat) : List Str := ((List.range i).map val).foldl metS []
theorem firstS_succ (val : Nat → Str) (i : Nat) : firstS val (i + 1) = metS (firstS val i) (val i) := by
  unfold firstS
  rw [List.range_succ, List.map_append, List.foldl_append]
  rfl
theorem metS_mem {ks : List Str} {k x : Str} : x ∈ metS ks k ↔ x ∈ ks ∨ x = k := by
  unfold metS
  split
  · constructor
    · exact .inl
    · rintro (h | rfl)
      · exact h
      · assumption
  · simp
theorem firstS_mem (val : Nat → Str) (x : Str) : ∀ i, x ∈ firstS val i ↔ ∃ j, j < i ∧ val j = x
  | 0 => by simp [firstS]
  | i + 1 => by
    rw [firstS_succ, metS_mem, firstS_mem val x i]
    constructor
    · rintro (⟨j, h, e⟩ | rfl)
      · exact ⟨j, by omega, e⟩
      · exact ⟨i, by omega, rfl⟩
    · rintro ⟨j, h, e⟩
      by_cases hj : j = i
      · subst hj; exact .inr e.symm
      · exact .inl ⟨j, by omega, e⟩
theorem metS_len (ks : List Str) (k : Str) : (metS ks k).length ≤ ks.length + 1 := by
  unfold metS
  split <;> simp
theorem firstS_len (val : Nat → Str) : ∀ i, (firstS val i).length ≤ i
  | 0 => by simp [firstS]
  | i + 1 => by
    rw [firstS_succ]
    have h1 := metS_len (firstS val i) (val i)
    have h2 := firstS_len val i
    omega
def entS (w : World) (x : Str × Tok) : Int × Value := (hashStr w x.1, .str x.1 x.2)
def KsOf (w : World) (es : Array (Int × Value)) (ks : List Str) : Prop := ks.Nodup ∧ ∃ l : List (Str × Tok), l.map (·.1) = ks ∧ es.toList.Perm (l.map (entS w))
theorem KsOf.len {w : World} {es : Array (Int × Value)} {ks : List Str} (h : KsOf w es ks) : es.size = ks.length := by
  obtain ⟨_, l, rfl, p⟩ := h
  rw [← Array.length_toList, p.length_eq]
  simp
theorem KsOf.grew {w : World} {es es' : Array (Int × Value)} {ks : List Str} {k : Str} (h : KsOf w es ks) (g : Grew w es es' k) : KsOf w es' (metS ks k) := by
  obtain ⟨nd, l, rfl, p⟩ := h
  have hm : k ∈ l.map (·.1) ↔ ∃ e ∈ es.toList, e.2.isStrOf k = true := by
    constructor
    · intro hk
      obtain ⟨x, hx, rfl⟩ := List.mem_map.mp hk
      exact ⟨entS w x, p.mem_iff.mpr (List.mem_map_of_mem hx), by simp [entS, Value.isStrOf]⟩
    · rintro ⟨e, he, hi⟩
      obtain ⟨x, hx, rfl⟩ := List.mem_map.mp (p.mem_iff.mp he)
      have : x.1 = k := by
        have := Value.isStrOf_shape hi
        obtain ⟨t, e⟩ := this
        simp only [entS, Value.str.injEq] at e
        exact e.1
      rw [← this]
      exact List.mem_map_of_mem hx
  rcases g with ⟨rfl, hx⟩ | ⟨hno, u, pp⟩
  · unfold metS
    rw [if_pos (hm.mpr hx)]
    exact ⟨nd, l, rfl, p⟩
  · have hk : k ∉ l.map (·.1) := fun z => by
      obtain ⟨e, he, hi⟩ := hm.mp z
      rw [hno e he] at hi
      cases hi
    unfold metS
    rw [if_neg hk]
    refine ⟨?_, l ++ [(k, u)], by simp, ?_⟩
    · refine List.nodup_append.mpr ⟨nd, by simp, fun a ha b hb z => ?_⟩
      rw [List.mem_singleton.mp hb] at z
      exact hk (z ▸ ha)
    · refine pp.trans ?_
      rw [List.map_append]
      exact List.Perm.append p (List.Perm.refl _)
section
variable {prog : Program} {w : World} {A : Around} {R : Result → Shared → Prop} {I : Addr} {fp wr : List Addr} {G : Array GenState → Array GenState → Prop} {n : Nat} {P : Nat → Value → Prop} {St : Nat → Shared → Prop}
theorem SStr.moved {h h' : Heap} {a : Addr} {es : Array (Int × Value)} (x : SStr prog w h a es) (k : ∀ o, h.get? a = some o → h'.get? a = some o) : SStr prog w h' a es := by
  obtain ⟨⟨o, ep, t, ho, r⟩, el, lt⟩ := x
  exact ⟨⟨o, ep, t, k _ ho, r⟩, el, lt⟩
theorem set_loop (W : WalksS prog w A.in1 I fp wr G n P St) (S : Addr) (hSf : S ∉ fp) (val : Nat → Str) (hval : ∀ i v, P i v → ∃ t, v = .str (val i) t) (hb : n + 1 < scanBound) :
    ∀ (k i : Nat) (s : Shared) (es : Array (Int × Value)), n - i = k → i ≤ n → St i s → SStr prog w s.heap S es → KsOf w es (firstS val i) →
      (∀ s' es', Moved (S :: wr) G s s' → SStr prog w s'.heap S es' → KsOf w es' (firstS val n) → R (.ok (.ret .none)) s') →
      codeAny (model prog w) A (.builtin "set.update.loop" ⟨[.ref S, .ref I], []⟩) R s := by
  have hw : S ∉ wr := fun z => hSf (W.sub _ z)
  have hs : ∀ b ∈ wr, b ∈ S :: wr := fun b z => List.mem_cons_of_mem _ z
  intro k
  induction k with
  | zero =>
    intro i s es hk hi st hS hK q
    have e : i = n := by omega
    subst e
    refine codeAny_builtin F.entry_set_update_loop ?_
    rw [Around.under_plainId F.plain_set_update_loop _]
    show wpAny _ A.in1 (pyNext (.ref I) >>= _) _ _ s
    refine wpAny_bind (W.done s _ _ st fun s' hm => ?_)
    show wpAny _ A.in1 (ret Value.none) _ _ s'
    exact wpAny_pure (q s' es (hm.mono hs) (hS.moved fun o e => hm.heap S _ hw e) hK)
  | succ k ih =>
    intro i s es hk hi st hS hK q
    have lt : i < n := by omega
    refine codeAny_builtin F.entry_set_update_loop ?_
    rw [Around.under_plainId F.plain_set_update_loop _]
    show wpAny _ A.in1 (pyNext (.ref I) >>= _) _ _ s
    refine wpAny_bind (W.item i s _ _ lt st fun v s' hP st' hm => ?_)
    obtain ⟨u, rfl⟩ := hval i v hP
    have hS' : SStr prog w s'.heap S es := hS.moved fun o e => hm.heap S _ hw e
    show wpAny _ A.in1 (holding [Value.str (val i) u] (setAdd S (.str (val i) u)) >>= _) _ _ s'
    have l1 := firstS_len val i
    have l2 := hK.len
    refine wpAny_bind (wpAny_holding (SStr.add hS' (by omega) fun b h' es' sb hS2 g => ?_))
    refine wpAny_pure ⟨plainId_quiet F.plain_set_update_loop _, ih (i + 1) _ es' (by omega) lt (W.frame _ s' _ _ st' (Nat.le_succ _) fun b hb o e => ?_) hS2 (by rw [firstS_succ]; exact hK.grew g) fun s2 es2 m2 S2 K2 => ?_⟩
    · rw [sb.2 b (fun z : b = S => hSf (z ▸ hb))]
      exact e
    · refine q s2 es2 (Moved.trans W.gtrans ((hm.mono hs).then_heap (Nat.le_succ _) fun b o hb e => ?_) m2) S2 K2
      rw [sb.2 b (fun z : b = S => hb (by rw [z]; exact List.mem_cons_self))]
      exact e
end
end L2
namespace L2
open PySem PySem.Spec PyProof.Rows
section
variable {prog : Program} {w : World} {A : Around} {E : Value → Shared → Prop} {s : Shared}
def setObj (w : World) : Obj := { cls := .type "set", dict := none, data := .set #[] 0 (.fresh 0 0 (!w.params.followText "set-order")) }
theorem set_new1 (v : Value) {Q1 : Value → Shared → Prop} (h : Q1 (.ref s.heap.objs.size) { s with heap := s.heap.push (setObj w) }) :
    codeAny (model prog w) A (.call (.builtin "set.__new__") ⟨[.type "set", v], []⟩) (wants Q1 E) s := by
  refine codeAny_of_tree ?_
  show wpAny _ A.in1 (do checkBuiltinCall "set.__new__" ⟨[.type "set", v], []⟩; again (.builtin "set.__new__" ⟨[.type "set", v], []⟩)) _ _ s
  refine wpAny_bind (wpAny_of_eq (F.newCall_set_1 v) (wpAny_pure ⟨plainId_quiet F.plain_set_new _, codeAny_builtin F.entry_set_new ?_⟩))
  rw [Around.under_plainId F.plain_set_new _]
  unfold Builtin.«set.__new__» Builtin.Frozenset.newClass
  have hsub := sub_set_self
  obtain ⟨hp, g, d, tk, os⟩ := s
  dsimp only
  wp_walk
  refine wpAny_askSetting (wpAny_pure ?_)
  dsimp only
  simp only [newObj]
  exact wpAny_bind (wpAny_alloc (wpAny_pure (wpAny_pure h)))
theorem call_set_strs {l : Addr} {items : Array Value} {val : Nat → Str} {Q : Value → Shared → Prop} (hh : A.handled = none) (hl : s.heap.IsList l items) (hi : ∀ (i : Nat) (v : Value), items[i]? = some v → ∃ t, v = .str (val i) t) (hb : items.size + 1 < scanBound)
    (h : ∀ (h' : Heap) (tk : Nat) (es : Array (Int × Value)), SStr prog w h' s.heap.objs.size es → KsOf w es (firstS val items.size) → (∀ b o, b < s.heap.objs.size → s.heap.get? b = some o → h'.get? b = some o) → Q (.ref s.heap.objs.size) { s with heap := h', toks := tk }) :
    wpAny (model prog w) A (call (.type "set") [.ref l]) Q E s := by
  obtain ⟨c, tl, hmro⟩ := F.called_set.mro
  have hmade := F.called_set.made
  have hsub := F.called_set.sub
  refine wpAny_call (codeAny_of_tree ?_)
  show wpAny _ _ (callAny (.type "set") _) _ _ _
  refine wpAny_pure ⟨Code.quiet_builtin _ (by decide +kernel), codeAny_builtin F.entry_type_call ?_⟩
  rw [Around.under_plain (weight_type_call_type "set" [.ref l] []) rfl]
  have h1 := F.called_set.notType
  have h2 := F.called_set.canCreate
  have hct := F.typeCall_set_1 (.ref l)
  repeat (any_goals (first | assumption | wp_step))
  refine codeAny_mono (set_new1 (.ref l) (E := E) (Q1 := fun obj s1 => obj = .ref s.heap.objs.size ∧ s1 = { s with heap := s.heap.push (setObj w) }) ⟨rfl, rfl⟩) fun r s1 hr => ?_
  cases r with
  | error e => exact hr
  | ok fl =>
    cases fl with
    | ret obj =>
      obtain ⟨rfl, rfl⟩ := hr
      have hS : (s.heap.push (setObj w)).get? s.heap.objs.size = some (setObj w) := Heap.get?_push_size _ rfl
      have hT : Shared.TypeIs { s with heap := s.heap.push (setObj w) } (.ref s.heap.objs.size) "set" := ⟨_, hS, rfl⟩
      have hli := F.called_set.init.lookup
      have hbi := F.called_set.init.bind (.ref s.heap.objs.size)
      repeat (any_goals (first | assumption | wp_step))
      refine codeAny_mono (codeAny_call_builtin (R := wants (fun r s2 => r = .none ∧ ∃ h' tk es, s2 = { s with heap := h', toks := tk } ∧ SStr prog w h' s.heap.objs.size es ∧ KsOf w es (firstS val items.size) ∧
          (∀ b o, b < s.heap.objs.size → s.heap.get? b = some o → h'.get? b = some o)) E) F.called_set.init.plain F.entry_set_init (check_set_init_1 hT ?_)) fun r2 s2 hr2 => ?_
      · obtain ⟨ol, hol, hcl, nl, hdl⟩ := hl
        obtain ⟨ocls, odict, odata, oslots⟩ := ol
        simp only at hcl hdl
        subst hcl; subst hdl
        have hol' : (s.heap.push (setObj w)).get? l = some { cls := .type "list", dict := odict, data := .seq items nl, slots := oslots } := Heap.get?_push_of_some _ hol
        have hsls := F.sub_list_set
        have hslf := F.sub_list_frozenset
        have hne : (Value.type "list" == Value.type "dict") = false := by decide
        have hl1 : (s.heap.push (setObj w)).IsList l items := ⟨_, hol', rfl, nl, rfl⟩
        unfold Builtin.«set.__init__» noKeywords Builtin.Frozenset.updateFrom
        generalize hPI : pyIter = PI
        wp_walk
        subst hPI
        refine wpAny_pyIter_list hl1 (wpAny_bind (wpAny_runValue ?_))
        have hlS : l < s.heap.objs.size := Heap.lt_size hol
        have hh3 : A.in1.in1.in1.handled = none := by simp [hh]
        have hneI : l ≠ (s.heap.push (setObj w)).objs.size := by
          rw [Heap.size_push]; exact Nat.ne_of_lt (Nat.lt_succ_of_lt hlS)
        have hSf : s.heap.objs.size ∉ [(s.heap.push (setObj w)).objs.size, l] := by
          rw [Heap.size_push]
          simp only [List.mem_cons, List.not_mem_nil, or_false, not_or]
          exact ⟨Nat.ne_of_lt (Nat.lt_succ_self _), Nat.ne_of_gt hlS⟩
        have hget : ((s.heap.push (setObj w)).push { cls := .type "list_iterator", data := .fields #[.ref l, .int 0 0] }).get? s.heap.objs.size = some (setObj w) := Heap.get?_push_of_some _ hS
        refine set_loop ((Walks.list hh3 _ l hneI items).toS) s.heap.objs.size hSf val hi hb (items.size - 0) 0 _ #[] (by omega) (Nat.zero_le _) ⟨⟨_, Heap.get?_push_size _ rfl, rfl, rfl⟩, (hl1.push _)⟩ ?hS0 ?hK0 ?hR
        case hS0 => exact ⟨⟨_, 0, _, hget, ⟨rfl, rfl, rfl⟩, rfl, rfl, rfl, fun z => absurd z (by simp)⟩, fun e he => by simp at he, by decide⟩
        case hK0 => exact ⟨by simp [firstS], [], by simp [firstS], by simp⟩
        case hR =>
          intro s' es' hm hS' hK'
          obtain ⟨h', g', d', tk', os'⟩ := s'
          have eg : g' = s.gens := hm.gens
          have ed : d' = s.drawn := hm.drawn
          have eo : os' = s.os := hm.os
          subst eg; subst ed; subst eo
          show wpAny _ _ _ _ _ _
          refine wpAny_pure ?_
          show wpAny _ _ (ret Value.none) _ _ _
          refine wpAny_pure ⟨rfl, h', tk', es', rfl, hS', hK', fun b o hb e => ?_⟩
          have hb1 : b ≠ s.heap.objs.size := Nat.ne_of_lt hb
          have hb2 : b ≠ (s.heap.push (setObj w)).objs.size := by
            rw [Heap.size_push]; exact Nat.ne_of_lt (Nat.lt_succ_of_lt hb)
          exact hm.heap b o (by simp only [List.mem_cons, List.not_mem_nil, or_false, not_or]; exact ⟨hb1, hb2⟩) (Heap.get?_push_of_some _ (Heap.get?_push_of_some _ e))
      · cases r2 with
        | error e => exact hr2
        | ok fl2 =>
          cases fl2 with
          | ret r =>
            obtain ⟨rfl, h', tk, es, rfl, hS', hK', hk'⟩ := hr2
            repeat (any_goals (first | assumption | wp_step))
            exact h _ _ _ hS' hK' hk'
          | _ => exact hr2.elim
    | _ => exact hr.elim
end
end L2
namespace L2
open PySem PySem.Spec PyProof.Rows
theorem erase_perm {α : Type} : ∀ (xs : List α) (i : Nat) (h : i < xs.length), (xs[i] :: xs.eraseIdx i).Perm xs
  | x :: xs, 0, _ => List.Perm.refl _
  | x :: xs, i + 1, h => by
    have h' : i < xs.length := by simpa using h
    exact (List.Perm.swap x xs[i] (xs.eraseIdx i)).trans (List.Perm.cons x (erase_perm xs i h'))
section
variable {M : Model} {A : Around} {E : Value → Shared → Prop} {s : Shared}
theorem pick_any {n : Nat} {Q : Nat → Shared → Prop} (hn : n ≠ 0) (h : ∀ i d, i < n → Q i { s with drawn := d }) : wpAny M A (choose .order n) Q E s := fun Γ p _ => by
  show Sem.wp M Γ (.choose .order n .pure) _ _ p s
  rw [Sem.wp_choose]
  exact ⟨hn, h _ _ (Nat.mod_lt _ (Nat.pos_of_ne_zero hn))⟩
theorem draw_perm {α : Type} : ∀ (n : Nat) (xs : List α) (s : Shared) {Q : List α → Shared → Prop}, xs.length = n → (∀ l d, l.Perm xs → Q l { s with drawn := d }) → wpAny M A (drawOrder n xs) Q E s
  | 0, xs, s, Q, hl, h => by
    cases List.length_eq_zero_iff.mp hl
    exact wpAny_pure (h [] s.drawn (List.Perm.refl _))
  | n + 1, xs, s, Q, hl, h => by
    obtain ⟨x, xs', rfl⟩ := List.exists_cons_of_length_eq_add_one hl
    show wpAny M A (choose .order (x :: xs').length >>= _) Q E s
    refine wpAny_bind (pick_any (by simp) fun i d hi => ?_)
    rw [List.getElem?_eq_getElem hi]
    dsimp only
    refine wpAny_bind (draw_perm n _ _ (by rw [List.length_eraseIdx]; simp only [hi, if_true]; omega) fun l d' p => ?_)
    refine wpAny_pure (h _ d' ?_)
    exact (List.Perm.cons _ p).trans (erase_perm _ i hi)
end
theorem slot_set_iterator_next : Slot "set_iterator" "__next__" "set_iterator.__next__" :=
  .of (owner := "set_iterator") (n := "__next__") (by rw [typeLookup_type, builtinLookup_eq_fast]; kernel_rfl) (by decide +kernel) (by decide +kernel) (by decide +kernel) (by first | exact .inl (by decide +kernel) | exact .inr (by decide +kernel)) (by rw [isSubtype_type]; kernel_rfl)
theorem entry_set_iterator_next : entryFor table "set_iterator.__next__" = some Builtin.«set_iterator.__next__» := entryFor_of_tree (by kernel_rfl)
theorem entry_set_iter : entryFor table "set.__iter__" = some Builtin.«frozenset.__iter__» := entryFor_alias (id' := "frozenset.__iter__") (by kernel_rfl) rfl (by decide +kernel) (by kernel_rfl)
theorem args_set_iterator_next (a : Value) : argsOk "set_iterator.__next__" ⟨[a], []⟩ := by
  unfold argsOk
  kernel_rfl
section
variable {prog : Program} {w : World} {A : Around} {E : Value → Shared → Prop} {s : Shared} {S it : Addr} {o : Obj} {es : Array (Int × Value)} {ep : Nat} {t : SetTable}
def Drw (w : World) (es : Array (Int × Value)) (t : SetTable) : Bool := !w.params.followText "set-order" && (!t.plain && decide (es.size > 1))
theorem set_drawn {Q : Bool → Shared → Prop} (ho : s.heap.get? S = some o) (hd : o.data = .set es ep t) (hf : t.fits es.size = true) (h : Q (Drw w es t) s) : wpAny (model prog w) A (setDrawn S) Q E s := by
  unfold setDrawn
  refine wpAny_bind (wpAny_setState_of ho hd hf ?_)
  dsimp only
  unfold setsByText
  exact wpAny_bind (wpAny_bind (wpAny_askSetting (wpAny_pure (wpAny_pure h))))
def itObj (first : Value) (S : Addr) (i n ep : Nat) : Obj := { cls := .type "set_iterator", data := .fields #[first, .int i 0, .ref S, .int n 0, .int ep 0] }
def plObj (pl : List Nat) : Obj := { cls := .type "tuple", data := .seq (pl.map fun (i : Nat) => rawInt i).toArray }
theorem set_iter {Q : Value → Shared → Prop} (ho : s.heap.get? S = some o) (hx : o.ExactSet) (hd : o.data = .set es ep t) (hf : t.fits es.size = true) (lt : es.size < scanBound)
    (qN : Drw w es t = false → Q (.ref s.heap.objs.size) { s with heap := s.heap.push (itObj (rawInt 0) S 0 es.size ep) })
    (qD : Drw w es t = true → ∀ (pl : List Nat) d, pl.Perm (List.range es.size) → Q (.ref (s.heap.push (plObj pl)).objs.size) { s with heap := (s.heap.push (plObj pl)).push (itObj (.ref s.heap.objs.size) S 0 es.size ep), drawn := d }) :
    wpAny (model prog w) A (pyIter (.ref S)) Q E s := by
  have T : s.TypeIs (.ref S) "set" := ⟨o, ho, hx.1⟩
  refine wpAny_pyIter_slot T F.slot_set_iter (wpAny_call_entry F.slot_set_iter T entry_set_iter ?_ (F.args_set_iter_1 _))
  unfold Builtin.«frozenset.__iter__» Builtin.Frozenset.slot0 slotArgs
  simp only [List.isEmpty_nil, Bool.not_true, Bool.false_eq_true, ↓reduceIte, bind_assoc, List.length_nil, bne_self_eq_false]
  unfold Builtin.Frozenset.addrOf Builtin.Frozenset.sizeOf
  refine wpAny_bind (wpAny_pure ?_)
  try dsimp only
  refine wpAny_bind (wpAny_pure ?_)
  refine wpAny_bind (wpAny_bind (wpAny_setEntries_of ho hd hf (wpAny_pure ?_)))
  refine wpAny_bind (set_drawn ho hd hf ?_)
  cases hD : Drw w es t with
  | false =>
    simp only [Bool.false_eq_true, if_false]
    refine wpAny_bind (wpAny_pure (wpAny_bind (wpAny_setEpoch_of ho hd hf ?_)))
    unfold newFields
    refine wpAny_bind (wpAny_newObj_type (wpAny_pure ⟨_, rfl, "set_iterator", _, ⟨_, Heap.get?_push_size _ rfl, rfl⟩, slot_set_iterator_next.lookup, ?_⟩) (by size_fits))
    exact qN hD
  | true =>
    simp only [if_true]
    refine wpAny_bind (draw_perm _ _ _ List.length_range fun pl d pp => ?_)
    unfold newTuple
    have ln : pl.length = es.size := by rw [pp.length_eq, List.length_range]
    refine wpAny_bind (wpAny_newObj_type ?_ (by show (pl.map _).toArray.size ≤ _; rw [List.size_toArray, List.length_map, ln]; exact fits_of_scanBound lt))
    refine wpAny_bind (wpAny_setEpoch_of (Heap.get?_push_of_some _ ho) hd hf ?_)
    unfold newFields
    refine wpAny_bind (wpAny_newObj_type (wpAny_pure ⟨_, rfl, "set_iterator", _, ⟨_, Heap.get?_push_size _ rfl, rfl⟩, slot_set_iterator_next.lookup, ?_⟩) (by size_fits))
    exact qD hD pl d pp
end
end L2
namespace L2
open PySem PySem.Spec PyProof.Rows
section
variable {prog : Program} {w : World} {A : Around} {E : Value → Shared → Prop} {s : Shared} {S it tp : Addr} {o : Obj} {es : Array (Int × Value)} {ep i : Nat} {t : SetTable} {first : Value}
theorem it_step {h : Heap} (hi : h.get? it = some (itObj first S i es.size ep)) : (h.update it (Obj.mapFields (·.setIfInBounds 1 (rawInt ((i : Int) + 1))))).get? it = some (itObj first S (i + 1) es.size ep) := by
  have := Heap.get?_update_self (Obj.mapFields (·.setIfInBounds 1 (rawInt ((i : Int) + 1)))) hi rfl
  rw [this]
  rfl
theorem seq_pl {pl : List Nat} {Q : Option (Array Value) → Shared → Prop} (ht : s.heap.get? tp = some (plObj pl)) (q : Q (some (pl.map fun (i : Nat) => rawInt i).toArray) s) : wpAny (model prog w) A (seqItems? (.ref tp)) Q E s := wpAny_seqItems (n := 0) ht rfl q
theorem nextD_item {Q : Option Value → Shared → Prop} {pl : List Nat} {p : Nat} {e : Int × Value} (hi : s.heap.get? it = some (itObj (.ref tp) S i es.size ep)) (ht : s.heap.get? tp = some (plObj pl)) (ho : s.heap.get? S = some o) (hd : o.data = .set es ep t) (hf : t.fits es.size = true) (hp : pl[i]? = some p) (he : es[p]? = some e)
    (q : ∀ h', h'.get? it = some (itObj (.ref tp) S (i + 1) es.size ep) → Heap.SameBut it s.heap h' → Q (some e.2) { s with heap := h' }) : wpAny (model prog w) A (pyNext (.ref it)) Q E s := by
  have T : s.TypeIs (.ref it) "set_iterator" := ⟨_, hi, rfl⟩
  unfold pyNext
  refine wpAny_bind (wpAny_attempt (wpAny_callSpecial?_slot (name := Str.ofString "__next__") T slot_set_iterator_next (wpAny_call_entry slot_set_iterator_next T entry_set_iterator_next ?_ (args_set_iterator_next _))))
  unfold Builtin.«set_iterator.__next__» slotArgs
  simp only [List.isEmpty_nil, Bool.not_true, Bool.false_eq_true, ↓reduceIte, bind_assoc, List.length_nil, bne_self_eq_false]
  refine wpAny_bind (wpAny_pure ?_)
  refine wpAny_bind (wpAny_fieldsOf hi rfl ?_)
  show wpAny _ A.in1 (setEntries S >>= _) _ _ s
  refine wpAny_bind (wpAny_setEntries_of ho hd hf ?_)
  rw [if_neg (by simp)]
  show wpAny _ A.in1 (seqItems? (.ref tp) >>= _) _ _ s
  refine wpAny_bind (seq_pl ht ?_)
  dsimp only
  rw [show ((pl.map fun (i : Nat) => rawInt i).toArray)[((i : Nat) : Int).toNat]? = some (rawInt p) by rw [Int.toNat_natCast, List.getElem?_toArray, List.getElem?_map, hp]; rfl]
  show wpAny _ A.in1 (setNextDrawn S ((p : Nat) : Int).toNat ((ep : Nat) : Int).toNat >>= _) _ _ s
  unfold setNextDrawn
  refine wpAny_bind (wpAny_bind (wpAny_setState_of ho hd hf ?_))
  dsimp only
  rw [if_neg (by simp), Int.toNat_natCast, he]
  refine wpAny_pure ?_
  show wpAny _ A.in1 (setField (.ref it) 1 (rawInt ((i : Int) + 1)) >>= _) _ _ s
  refine wpAny_bind (wpAny_setField hi rfl (by simp) ?_)
  exact wpAny_pure ⟨_, rfl, wpAny_pure (q _ (it_step hi) (Heap.SameBut.update ..))⟩
theorem stop_now {R : PySem.Fin → Shared → Prop} {E' : Value → Shared → Prop} (hh : A.handled = none) (q : ∀ h' e, (∀ b o, s.heap.get? b = some o → h'.get? b = some o) → Shared.TypeIs { s with heap := h' } (.ref e) "StopIteration" → E' (.ref e) { s with heap := h' }) :
    wpAny (model prog w) A (newExc (.type "StopIteration") [] >>= fun e => (raiseNew e : Sem PySem.Fin)) R E' s := by
  refine wpAny_bind ?_
  simp only [newExc, newTuple]
  refine wpAny_bind (wpAny_newObj_type ?_ (by size_fits))
  refine wpAny_bind (m := firstArgMember _ _) (wpAny_of_eq (a := Value.none) (by first | rfl | (simp only [firstArgMember]; rfl)) (wpAny_newObj_type ?_ (by size_fits)))
  simp only [raiseNew]
  refine wpAny_bind (wpAny_handled ?_)
  rw [hh]
  refine wpAny_bind ((wpAny_pure) ((wpAny_throw) ?_))
  exact q _ _ (fun b o e => Heap.get?_push_of_some _ (Heap.get?_push_of_some _ e)) ⟨_, Heap.get?_push_size _ rfl, rfl⟩
theorem nextD_end {Q : Option Value → Shared → Prop} {pl : List Nat} (hh : A.handled = none) (hi : s.heap.get? it = some (itObj (.ref tp) S i es.size ep)) (ht : s.heap.get? tp = some (plObj pl)) (ho : s.heap.get? S = some o) (hd : o.data = .set es ep t) (hf : t.fits es.size = true) (hp : pl[i]? = none)
    (q : ∀ h', Heap.ExtBut it s.heap h' → Q none { s with heap := h' }) : wpAny (model prog w) A (pyNext (.ref it)) Q E s := by
  have T : s.TypeIs (.ref it) "set_iterator" := ⟨_, hi, rfl⟩
  unfold pyNext
  refine wpAny_bind (wpAny_attempt (wpAny_callSpecial?_slot (name := Str.ofString "__next__") T slot_set_iterator_next (wpAny_call_entry slot_set_iterator_next T entry_set_iterator_next ?_ (args_set_iterator_next _))))
  unfold Builtin.«set_iterator.__next__» slotArgs
  simp only [List.isEmpty_nil, Bool.not_true, Bool.false_eq_true, ↓reduceIte, bind_assoc, List.length_nil, bne_self_eq_false]
  refine wpAny_bind (wpAny_pure (wpAny_bind (wpAny_fieldsOf hi rfl ?_)))
  show wpAny _ A.in1 (setEntries S >>= _) _ _ s
  refine wpAny_bind (wpAny_setEntries_of ho hd hf ?_)
  rw [if_neg (by simp)]
  show wpAny _ A.in1 (seqItems? (.ref tp) >>= _) _ _ s
  refine wpAny_bind (seq_pl ht ?_)
  dsimp only
  rw [show ((pl.map fun (i : Nat) => rawInt i).toArray)[((i : Nat) : Int).toNat]? = none by rw [Int.toNat_natCast, List.getElem?_toArray, List.getElem?_map, hp]; rfl]
  show wpAny _ A.in1 (setField (.ref it) 0 (rawInt 0) >>= fun _ => setField (.ref it) 2 .none >>= fun _ => newExc (.type "StopIteration") [] >>= fun e => raiseNew e) _ _ s
  refine wpAny_bind (wpAny_setField hi rfl (by simp) ?_)
  refine wpAny_bind (wpAny_setField (Heap.get?_update_self _ hi rfl) rfl (by simp) ?_)
  refine stop_now hh fun h' e hk hT => ?_
  refine wpAny_bind (wpAny_isInstance (b := true) (T := "StopIteration") hT isSubtype_stop ?_)
  refine wpAny_pure (q _ fun b ob hb e => hk _ _ ?_)
  exact ((Heap.SameBut.update ..).trans (Heap.SameBut.update ..)).extBut b ob hb e
end
end L2
namespace L2
open PySem PySem.Spec PyProof.Rows
theorem slot_set_iterator_iter : Slot "set_iterator" "__iter__" "set_iterator.__iter__" :=
  .of (owner := "set_iterator") (n := "__iter__") (by rw [typeLookup_type, builtinLookup_eq_fast]; kernel_rfl) (by decide +kernel) (by decide +kernel) (by decide +kernel) (by first | exact .inl (by decide +kernel) | exact .inr (by decide +kernel)) (by rw [isSubtype_type]; kernel_rfl)
theorem entry_set_iterator_iter : entryFor table "set_iterator.__iter__" = some Builtin.«dict_keyiterator.__iter__» := entryFor_alias (id' := "dict_keyiterator.__iter__") (by kernel_rfl) rfl (by decide +kernel) (by kernel_rfl)
theorem args_set_iterator_iter (a : Value) : argsOk "set_iterator.__iter__" ⟨[a], []⟩ := by
  unfold argsOk
  kernel_rfl
theorem pick_go {α : Type} (nx : Nat → Nat) : ∀ (f k : Nat) (left : List α) (out : Array α), left.length ≤ f → (pickOrder.go nx f k left out).toList.Perm (out.toList ++ left)
  | 0, k, left, out, h => by
    cases List.length_eq_zero_iff.mp (Nat.le_zero.mp h)
    simp [pickOrder.go]
  | f + 1, k, left, out, h => by
    rw [pickOrder.go]
    by_cases h0 : left = []
    · subst h0
      simp
    · have hl : 0 < left.length := List.length_pos_iff.mpr h0
      have hi : nx k % left.length < left.length := Nat.mod_lt _ hl
      rw [List.getElem?_eq_getElem hi]
      dsimp only
      refine (pick_go nx f (k + 1) _ _ (by rw [List.length_eraseIdx]; simp only [hi, if_true]; omega)).trans ?_
      rw [Array.toList_push, List.append_assoc]
      exact List.Perm.append (List.Perm.refl _) (erase_perm _ _ hi)
theorem pick_perm {α : Type} (nx : Nat → Nat) (xs : Array α) : (pickOrder nx xs).toList.Perm xs.toList := by
  have := pick_go nx xs.size 0 xs.toList #[] (by simp)
  simpa [pickOrder] using this
section
variable {prog : Program} {w : World} {A : Around} {E : Value → Shared → Prop} {s : Shared} {S it tp : Addr} {o : Obj} {es : Array (Int × Value)} {ep i : Nat} {t : SetTable} {first : Value}
theorem set_self {Q : Value → Shared → Prop} (hi : s.heap.get? it = some (itObj first S i es.size ep)) (h : Q (.ref it) s) : wpAny (model prog w) A (pyIter (.ref it)) Q E s := by
  have T : s.TypeIs (.ref it) "set_iterator" := ⟨_, hi, rfl⟩
  refine wpAny_pyIter_slot T slot_set_iterator_iter (wpAny_call_entry slot_set_iterator_iter T entry_set_iterator_iter ?_ (args_set_iterator_iter _))
  show wpAny _ _ (ret (.ref it)) _ _ s
  exact wpAny_pure ⟨_, rfl, "set_iterator", _, T, slot_set_iterator_next.lookup, h⟩
theorem nextN_item {Q : Option Value → Shared → Prop} {slot nxt : Nat} {x : Value} (hi : s.heap.get? it = some (itObj (rawInt slot) S i es.size ep)) (ho : s.heap.get? S = some o) (hd : o.data = .set es ep t) (hf : t.fits es.size = true)
    (hn : ∀ {E' : Value → Shared → Prop} {Q' : Option (Value × Nat) → Shared → Prop}, Q' (some (x, nxt)) s → wpAny (model prog w) A.in1 (setNext S slot i ep) Q' E' s)
    (q : ∀ h', h'.get? it = some (itObj (rawInt nxt) S (i + 1) es.size ep) → Heap.SameBut it s.heap h' → Q (some x) { s with heap := h' }) : wpAny (model prog w) A (pyNext (.ref it)) Q E s := by
  have T : s.TypeIs (.ref it) "set_iterator" := ⟨_, hi, rfl⟩
  unfold pyNext
  refine wpAny_bind (wpAny_attempt (wpAny_callSpecial?_slot (name := Str.ofString "__next__") T slot_set_iterator_next (wpAny_call_entry slot_set_iterator_next T entry_set_iterator_next ?_ (args_set_iterator_next _))))
  unfold Builtin.«set_iterator.__next__» slotArgs
  simp only [List.isEmpty_nil, Bool.not_true, Bool.false_eq_true, ↓reduceIte, bind_assoc, List.length_nil, bne_self_eq_false]
  refine wpAny_bind (wpAny_pure (wpAny_bind (wpAny_fieldsOf hi rfl ?_)))
  show wpAny _ A.in1 (setEntries S >>= _) _ _ s
  refine wpAny_bind (wpAny_setEntries_of ho hd hf ?_)
  rw [if_neg (by simp)]
  show wpAny _ A.in1 (setNext S ((slot : Nat) : Int).toNat ((i : Nat) : Int).toNat ((ep : Nat) : Int).toNat >>= _) _ _ s
  rw [Int.toNat_natCast, Int.toNat_natCast, Int.toNat_natCast]
  refine wpAny_bind (hn ?_)
  show wpAny _ A.in1 (setField (.ref it) 0 (rawInt ((nxt : Nat) : Int)) >>= fun _ => setField (.ref it) 1 (rawInt ((i : Int) + 1)) >>= fun _ => ret x) _ _ s
  refine wpAny_bind (wpAny_setField hi rfl (by simp) ?_)
  have h1 : (s.heap.update it (Obj.mapFields (·.setIfInBounds 0 (rawInt ((nxt : Nat) : Int))))).get? it = some (itObj (rawInt nxt) S i es.size ep) := by
    rw [Heap.get?_update_self _ hi rfl]
    rfl
  refine wpAny_bind (wpAny_setField h1 rfl (by simp) ?_)
  exact wpAny_pure ⟨_, rfl, wpAny_pure (q _ (it_step h1) ((Heap.SameBut.update ..).trans (Heap.SameBut.update ..)))⟩
theorem nextN_end {Q : Option Value → Shared → Prop} {slot : Nat} (hh : A.handled = none) (hi : s.heap.get? it = some (itObj (rawInt slot) S i es.size ep)) (ho : s.heap.get? S = some o) (hd : o.data = .set es ep t) (hf : t.fits es.size = true)
    (hn : ∀ {E' : Value → Shared → Prop} {Q' : Option (Value × Nat) → Shared → Prop}, Q' none s → wpAny (model prog w) A.in1 (setNext S slot i ep) Q' E' s)
    (q : ∀ h', Heap.ExtBut it s.heap h' → Q none { s with heap := h' }) : wpAny (model prog w) A (pyNext (.ref it)) Q E s := by
  have T : s.TypeIs (.ref it) "set_iterator" := ⟨_, hi, rfl⟩
  unfold pyNext
  refine wpAny_bind (wpAny_attempt (wpAny_callSpecial?_slot (name := Str.ofString "__next__") T slot_set_iterator_next (wpAny_call_entry slot_set_iterator_next T entry_set_iterator_next ?_ (args_set_iterator_next _))))
  unfold Builtin.«set_iterator.__next__» slotArgs
  simp only [List.isEmpty_nil, Bool.not_true, Bool.false_eq_true, ↓reduceIte, bind_assoc, List.length_nil, bne_self_eq_false]
  refine wpAny_bind (wpAny_pure (wpAny_bind (wpAny_fieldsOf hi rfl ?_)))
  show wpAny _ A.in1 (setEntries S >>= _) _ _ s
  refine wpAny_bind (wpAny_setEntries_of ho hd hf ?_)
  rw [if_neg (by simp)]
  show wpAny _ A.in1 (setNext S ((slot : Nat) : Int).toNat ((i : Nat) : Int).toNat ((ep : Nat) : Int).toNat >>= _) _ _ s
  rw [Int.toNat_natCast, Int.toNat_natCast, Int.toNat_natCast]
  refine wpAny_bind (hn ?_)
  show wpAny _ A.in1 (setField (.ref it) 2 .none >>= fun _ => newExc (.type "StopIteration") [] >>= fun e => raiseNew e) _ _ s
  refine wpAny_bind (wpAny_setField hi rfl (by simp) ?_)
  refine stop_now hh fun h' e hk hT => ?_
  refine wpAny_bind (wpAny_isInstance (b := true) (T := "StopIteration") hT isSubtype_stop ?_)
  refine wpAny_pure (q _ fun b ob hb e => hk _ _ ?_)
  exact (Heap.SameBut.update ..).extBut b ob hb e
theorem next_text {slot : Nat} {Q : Option (Value × Nat) → Shared → Prop} (ho : s.heap.get? S = some o) (hd : o.data = .set es ep t) (hf : t.fits es.size = true) (hb : w.params.followText "set-order" = true)
    (q : Q (((pickOrder (w.params.setOrder S ep) es)[i]?).map fun e => (e.2, slot)) s) : wpAny (model prog w) A (setNext S slot i ep) Q E s := by
  unfold setNext
  refine wpAny_bind (wpAny_setState_of ho hd hf ?_)
  dsimp only
  unfold setsByText
  refine wpAny_bind (wpAny_bind (wpAny_askSetting (wpAny_pure ?_)))
  rw [show (model prog w).w.params.followText "set-order" = true from hb]
  simp only [if_true, bne_self_eq_false, Bool.false_eq_true, if_false]
  unfold setWalk
  refine wpAny_bind (wpAny_bind (wpAny_setState_of ho hd hf ?_))
  dsimp only
  unfold setsByText
  refine wpAny_bind (wpAny_bind (wpAny_askSetting (wpAny_pure ?_)))
  rw [show (model prog w).w.params.followText "set-order" = true from hb]
  simp only [if_true]
  refine wpAny_bind (wpAny_askSetting (wpAny_pure ?_))
  exact wpAny_pure q
end
end L2
namespace L2
open PySem PySem.Spec PyProof.Rows
theorem arr1 (a : Array Nat) (h : a.size = 1) : ∃ j, a = #[j] := by
  obtain ⟨l⟩ := a
  obtain ⟨j, r, rfl⟩ := List.exists_cons_of_length_eq_add_one (n := 0) h
  have e : r = [] := by simpa using h
  exact ⟨j, by rw [e]⟩
theorem below_1 (j : Nat) : SetTable.below #[j] 0 = 0 ∧ SetTable.below #[j] (j + 1) = 1 := by
  constructor
  · simp [SetTable.below, SetTable.below.go]
  · simp [SetTable.below, SetTable.below.go]
section
variable {prog : Program} {w : World} {A : Around} {E : Value → Shared → Prop} {s : Shared} {S it tp : Addr} {o : Obj} {es : Array (Int × Value)} {ep i : Nat} {t : SetTable} {first : Value}
theorem next_led {slot : Nat} {Q : Option (Value × Nat) → Shared → Prop} (ho : s.heap.get? S = some o) (hd : o.data = .set es ep t) (hf : t.fits es.size = true) (hb : w.params.followText "set-order" = false) (h1 : es.size ≤ 1) (hl : t.led = true)
    (q : Q (match es[SetTable.below t.place slot]?, t.place[SetTable.below t.place slot]? with | some (_, x), some j => some (x, j + 1) | _, _ => none) s) : wpAny (model prog w) A (setNext S slot i ep) Q E s := by
  unfold setNext
  refine wpAny_bind (wpAny_setState_of ho hd hf ?_)
  dsimp only
  unfold setsByText
  refine wpAny_bind (wpAny_bind (wpAny_askSetting (wpAny_pure ?_)))
  rw [show (model prog w).w.params.followText "set-order" = false from hb]
  simp only [Bool.false_eq_true, if_false]
  refine wpAny_ite_split (fun z => ?_) fun _ => ?_
  · have z' : (!t.plain && decide (es.size > 1)) = true := z
    rw [Bool.and_eq_true, decide_eq_true_eq] at z'
    omega
  show wpAny _ _ ((if (!t.led && !es.isEmpty) = true then unsupported "set:maker-not-led" else pure ()) >>= _) _ _ s
  rw [hl]
  simp only [Bool.not_true, Bool.false_and, Bool.false_eq_true, if_false]
  exact wpAny_bind (wpAny_pure (wpAny_pure q))
theorem walkD (hh : A.handled = none) {pl : List Nat} (hn1 : S ≠ it) (hn2 : tp ≠ it) (hd : o.data = .set es ep t) (hf : t.fits es.size = true) (pp : pl.Perm (List.range es.size)) :
    Walks prog w A it [it, S, tp] [it] es.size (fun i v => ∃ e, (pl.map fun p => es.getD p (0, .none))[i]? = some e ∧ v = e.2) (fun i h => h.get? it = some (itObj (.ref tp) S i es.size ep) ∧ h.get? tp = some (plObj pl) ∧ h.get? S = some o) where
  sub := fun b hb => by simp at hb; simp [hb]
  frame := fun _ _ _ st hk => ⟨hk it (by simp) _ st.1, hk tp (by simp) _ st.2.1, hk S (by simp) _ st.2.2⟩
  item := fun i s Q E hi st hQ => by
    have hl : pl.length = es.size := by rw [pp.length_eq, List.length_range]
    have hp : pl[i]? = some (pl[i]'(by omega)) := List.getElem?_eq_getElem (by omega)
    have hm : pl[i]'(by omega) < es.size := List.mem_range.mp (pp.mem_iff.mp (List.getElem_mem _))
    refine nextD_item st.1 st.2.1 st.2.2 hd hf hp (Array.getElem?_eq_getElem hm) fun h' h1 hs => hQ _ h' s.toks ⟨_, by rw [List.getElem?_map, hp]; rfl, by simp [Array.getD, hm]⟩ ⟨h1, hs.extBut _ _ hn2 st.2.1, hs.extBut _ _ hn1 st.2.2⟩ fun b o hb e => hs.extBut b o (fun z => hb (by simp [z])) e
  done := fun s Q E st hQ => by
    have hl : pl.length = es.size := by rw [pp.length_eq, List.length_range]
    exact nextD_end hh st.1 st.2.1 st.2.2 hd hf (List.getElem?_eq_none (by omega)) fun h' he => hQ h' s.toks fun b o hb e => he b o (fun z => hb (by simp [z])) e
  self := fun _ _ _ _ st hQ => set_self st.1 hQ
theorem walkT (hh : A.handled = none) (hn1 : S ≠ it) (hd : o.data = .set es ep t) (hf : t.fits es.size = true) (hb : w.params.followText "set-order" = true) :
    Walks prog w A it [it, S, S] [it] es.size (fun i v => ∃ e, ((pickOrder (w.params.setOrder S ep) es).toList)[i]? = some e ∧ v = e.2) (fun i h => h.get? it = some (itObj (rawInt ((0 : Nat) : Int)) S i es.size ep) ∧ h.get? S = some o) where
  sub := fun b hb => by simp at hb; simp [hb]
  frame := fun _ _ _ st hk => ⟨hk it (by simp) _ st.1, hk S (by simp) _ st.2⟩
  item := fun i s Q E hi st hQ => by
    have hl : (pickOrder (w.params.setOrder S ep) es).size = es.size := by
      have := (pick_perm (w.params.setOrder S ep) es).length_eq
      simpa using this
    have hg : (pickOrder (w.params.setOrder S ep) es)[i]? = some ((pickOrder (w.params.setOrder S ep) es)[i]'(by omega)) := Array.getElem?_eq_getElem _
    refine nextN_item (slot := 0) (nxt := 0) (x := ((pickOrder (w.params.setOrder S ep) es)[i]'(by omega)).2) st.1 st.2 hd hf (fun q' => next_text st.2 hd hf hb (by rw [hg]; exact q')) fun h' h1 hs => hQ _ h' s.toks ⟨_, by rw [Array.getElem?_toList]; exact hg, rfl⟩ ⟨h1, hs.extBut _ _ hn1 st.2⟩ fun b o hb e => hs.extBut b o (fun z => hb (by simp [z])) e
  done := fun s Q E st hQ => by
    have hl : (pickOrder (w.params.setOrder S ep) es).size = es.size := by
      have := (pick_perm (w.params.setOrder S ep) es).length_eq
      simpa using this
    exact nextN_end hh st.1 st.2 hd hf (fun q' => next_text st.2 hd hf hb (by rw [Array.getElem?_eq_none (by omega)]; exact q')) fun h' he => hQ h' s.toks fun b o hb e => he b o (fun z => hb (by simp [z])) e
  self := fun _ _ _ _ st hQ => set_self st.1 hQ
theorem walkL (hh : A.handled = none) (hn1 : S ≠ it) (hd : o.data = .set es ep t) (hf : t.fits es.size = true) (hb : w.params.followText "set-order" = false) (h1 : es.size ≤ 1) (hl : t.led = true) :
    Walks prog w A it [it, S, S] [it] es.size (fun i v => ∃ e, es.toList[i]? = some e ∧ v = e.2) (fun i h => h.get? it = some (itObj (rawInt ((if i = 0 then 0 else t.place.getD 0 0 + 1 : Nat) : Int)) S i es.size ep) ∧ h.get? S = some o) where
  sub := fun b hb => by simp at hb; simp [hb]
  frame := fun _ _ _ st hk => ⟨hk it (by simp) _ st.1, hk S (by simp) _ st.2⟩
  item := fun i s Q E hi st hQ => by
    have e0 : i = 0 := by omega
    subst e0
    have sz : t.place.size = 1 := by
      simp only [SetTable.fits, Bool.and_eq_true, beq_iff_eq] at hf
      omega
    obtain ⟨j, hj⟩ := arr1 _ sz
    have he : es[0]? = some (es[0]'(by omega)) := Array.getElem?_eq_getElem _
    refine nextN_item (slot := 0) (nxt := j + 1) (x := (es[0]'(by omega)).2) st.1 st.2 hd hf (fun q' => next_led st.2 hd hf hb h1 hl (by rw [hj, (below_1 j).1, he]; exact q')) fun h' h1' hs => hQ _ h' s.toks ⟨_, by rw [Array.getElem?_toList]; exact he, rfl⟩ ⟨by rw [if_neg (by omega), hj]; exact h1', hs.extBut _ _ hn1 st.2⟩ fun b o hb e => hs.extBut b o (fun z => hb (by simp [z])) e
  done := fun s Q E st hQ => by
    refine nextN_end hh st.1 st.2 hd hf (fun q' => next_led st.2 hd hf hb h1 hl ?_) fun h' he => hQ h' s.toks fun b o hb e => he b o (fun z => hb (by simp [z])) e
    by_cases h0 : es.size = 0
    · rw [Array.getElem?_eq_none (xs := es) (by omega)]
      exact q'
    · have sz : t.place.size = 1 := by
        simp only [SetTable.fits, Bool.and_eq_true, beq_iff_eq] at hf
        omega
      obtain ⟨j, hj⟩ := arr1 _ sz
      rw [if_neg h0, hj]
      rw [show (#[j] : Array Nat).getD 0 0 = j from rfl, (below_1 j).2, Array.getElem?_eq_none (xs := es) (by omega)]
      exact q'
  self := fun _ _ _ _ st hQ => set_self st.1 hQ
end
end L2
namespace L2
open PySem PySem.Spec PyProof.Rows
section
variable {prog : Program} {w : World} {A : Around} {E : Value → Shared → Prop} {s : Shared} {S : Addr} {es : Array (Int × Value)}
theorem set_hint {Q : Bool → Shared → Prop} (hT : s.TypeIs (.ref S) "set") (h : Q false s) : wpAny (model prog w) A (Builtin.List.listLengthHint (.ref S)) Q E s := by
  unfold Builtin.List.listLengthHint
  refine wpAny_bind (wpAny_specialOf hT F.slot_set_len.lookup ?_)
  generalize hid : ("set.__len__" : String) = id0
  wp_delta
  rw [show splitId id0 = some ("set", "__len__") from by subst hid; decide +kernel]
  subst hid
  refine wpAny_bind (wpAny_isInstance (T := "set") (b := true) hT (by rw [isSubtype_type]; kernel_rfl) ?_)
  refine wpAny_ite_split (fun hab => absurd hab (by decide)) (fun _ => ?_)
  refine wpAny_ite_split (fun _ => ?_) (fun hab => absurd (by decide +kernel) hab)
  refine wpAny_bind (wpAny_typeOf hT ?_)
  exact wpAny_pure h
theorem ext_tail {R : Result → Shared → Prop} {I L : Addr} {fp : List Addr} {n c0 : Nat} {P : Nat → Value → Prop} {St : Nat → Heap → Prop} {res : Value} {cnd : Bool} (W : Walks prog w A.in1 I fp [I] n P St) (hn : n ≤ sizeLine) (hLf : L ∉ fp) (hI : I ∈ fp) (hT : s.TypeIs (.ref S) "set") (hS : S ∈ fp)
    (st : St 0 s.heap) (hL : s.heap.get? L = some { cls := .type "list", data := .seq #[] c0 })
    (hR : ∀ h' tk acc c', (∀ b o, b ≠ L → b ≠ I → s.heap.get? b = some o → h'.get? b = some o) → h'.get? L = some { cls := .type "list", dict := none, data := .seq acc c', slots := #[] } → ItemsOf P acc n → R (.ok (.ret res)) { s with heap := h', toks := tk }) :
    wpAny (model prog w) A.in1 (do
      let room ← holding [.ref I] (Builtin.List.listLengthHint (.ref S))
      if (room || cnd) = true then do
          rule "list.extend.makes-room"
          Builtin.List.listTouch (.ref L)
          again (.builtin "list.extend.loop" ⟨[.ref L, .ref I, res], []⟩)
        else again (.builtin "list.extend.loop" ⟨[.ref L, .ref I, res], []⟩))
      (fun fin s' => match fin with | .done f => R (.ok f) s' | .again c' => c'.quiet = true ∧ codeAny (model prog w) A c' R s') (fun e s' => R (.error e) s') s := by
  have key : ∀ (h : Heap) (c1 : Nat), St 0 h → (∀ b o, b ≠ L → s.heap.get? b = some o → h.get? b = some o) → h.get? L = some { cls := .type "list", data := .seq #[] c1 } → codeAny (model prog w) A (.builtin "list.extend.loop" ⟨[.ref L, .ref I, res], []⟩) R { s with heap := h } := by
    intro h c1 hst hk hL1
    refine codeAny_extend_loopS W.toS hn L hLf res n 0 _ #[] c1 rfl (Nat.zero_le _) hst hL1 (ItemsOf.nil _) fun s' acc' c' hm hL' hacc => ?_
    rw [Moved.eq_with hm]
    refine hR s'.heap s'.toks acc' c' (fun b o hb hbI e => hm.heap b o (fun z => ?_) (hk b o hb e)) hL' hacc
    rcases List.mem_cons.mp z with z | z
    · exact hb z
    · exact hbI (List.mem_singleton.mp z)
  refine wpAny_bind (wpAny_holding (set_hint hT ?_))
  refine wpAny_ite_split (fun _ => ?_) (fun _ => wpAny_pure ⟨plainId_quiet PySem.F.plain_extend_loop _, key _ c0 st (fun b o _ e => e) hL⟩)
  refine wpAny_bind (wpAny_rule (wpAny_bind ?_))
  show wpAny _ _ (updateSeq L (·.push .none) >>= fun _ => updateSeq L (·.pop)) _ _ _
  refine wpAny_bind (wpAny_updateSeq hL rfl ?_)
  have hL2 := Heap.get?_update_self (Obj.mapSeq (·.push Value.none)) hL rfl
  refine wpAny_updateSeq (hz := by seq_fits) hL2 rfl ?_
  have hL3 := Heap.get?_update_self (Obj.mapSeq (·.pop)) hL2 rfl
  have hk : ∀ b o, b ≠ L → s.heap.get? b = some o → ((s.heap.update L (Obj.mapSeq (·.push Value.none))).update L (Obj.mapSeq (·.pop))).get? b = some o := fun b o hb e => (Heap.get?_update_other _ _ (Ne.symm hb)).trans ((Heap.get?_update_other _ _ (Ne.symm hb)).trans e)
  exact wpAny_pure ⟨plainId_quiet PySem.F.plain_extend_loop _, key _ _ (W.frame 0 _ _ st fun b hb o e => hk b o (fun z => hLf (z ▸ hb)) e) hk hL3⟩
theorem set_items {ord : List (Int × Value)} {acc : Array Value} {n : Nat} (h : ItemsOf (fun i v => ∃ e, ord[i]? = some e ∧ v = e.2) acc n) (hl : ord.length = n) : acc.toList = ord.map (·.2) := by
  apply List.ext_getElem?
  intro j
  rw [List.getElem?_map]
  by_cases hj : j < n
  · have hj' : j < acc.size := by rw [h.1]; exact hj
    obtain ⟨e, h1, h2⟩ := h.2 j acc[j] (Array.getElem?_eq_getElem hj')
    rw [h1, Array.getElem?_toList, Array.getElem?_eq_getElem hj', h2]
    rfl
  · have := h.1
    rw [Array.getElem?_toList, Array.getElem?_eq_none (by omega), List.getElem?_eq_none (by omega)]
    rfl
theorem range_getD (es : Array (Int × Value)) (d : Int × Value) : (List.range es.size).map (fun p => es.getD p d) = es.toList := by
  apply List.ext_getElem
  · simp
  · intro j h1 h2
    have hj : j < es.size := by simpa using h2
    simp [Array.getD, hj]
theorem set_extend {R : Result → Shared → Prop} {L : Addr} {c0 : Nat} {res : Value} (hh : A.handled = none) (hS : SStr prog w s.heap S es) (hne : L ≠ S) (hL : s.heap.get? L = some { cls := .type "list", data := .seq #[] c0 })
    (hR : ∀ h' tk d acc c', (∀ b o, b ≠ L → s.heap.get? b = some o → h'.get? b = some o) → h'.get? L = some { cls := .type "list", dict := none, data := .seq acc c', slots := #[] } → acc.toList.Perm (es.toList.map (·.2)) → R (.ok (.ret res)) { s with heap := h', toks := tk, drawn := d }) :
    wpAny (model prog w) A.in1 (Builtin.List.listExtendWith (.ref L) (.ref S) res)
      (fun fin s' => match fin with | .done f => R (.ok f) s' | .again c' => c'.quiet = true ∧ codeAny (model prog w) A c' R s') (fun e s' => R (.error e) s') s := by
  obtain ⟨⟨o, ep, t, ho, hx, hd, hf, hl, hp⟩, hel, hlt⟩ := hS
  have T : s.TypeIs (.ref S) "set" := ⟨o, ho, hx.1⟩
  have hn : es.size ≤ sizeLine := fits_of_scanBound hlt
  have lS := Heap.lt_size ho
  have lL := Heap.lt_size hL
  have hh1 : A.in1.handled = none := hh
  unfold Builtin.List.listExtendWith
  refine wpAny_bind (wpAny_typeOf (T := "set") T ?_)
  have h1 : Builtin.List.listSameRef (.ref L) (.ref S) = false := by simp [Builtin.List.listSameRef, hne]
  simp only [h1, show (Value.type "set" == Value.type "list") = false by decide, show (Value.type "set" == Value.type "tuple") = false by decide, Bool.or_false, Bool.false_eq_true, if_false]
  refine wpAny_bind (set_iter ho hx hd hf hlt (fun hD => ?_) (fun hD pl d pp => ?_))
  · have nf : L ∉ [s.heap.objs.size, S, S] := by
      simp only [List.mem_cons, List.not_mem_nil, or_false, not_or]
      exact ⟨Nat.ne_of_lt lL, hne, hne⟩
    have T1 : Shared.TypeIs { s with heap := s.heap.push (itObj (rawInt 0) S 0 es.size ep) } (.ref S) "set" := ⟨o, Heap.get?_push_of_some _ ho, hx.1⟩
    by_cases hb : w.params.followText "set-order" = true
    · refine ext_tail (walkT hh1 (Nat.ne_of_lt lS) hd hf hb) hn nf (by simp) T1 (by simp) ⟨Heap.get?_push_size _ rfl, Heap.get?_push_of_some _ ho⟩ (Heap.get?_push_of_some _ hL) fun h' tk acc c' hk hL' hit => ?_
      have pl := (pick_perm (w.params.setOrder S ep) es).length_eq
      refine hR h' tk s.drawn acc c' (fun b o hb e => hk b o hb (Nat.ne_of_lt (Heap.lt_size e)) (Heap.get?_push_of_some _ e)) hL' ?_
      rw [set_items hit (by simpa using pl)]
      exact (pick_perm _ _).map _
    · have hb' : w.params.followText "set-order" = false := by simpa using hb
      have h1' : es.size ≤ 1 := by
        by_cases h0 : es.size ≤ 1
        · exact h0
        · have := hp (by omega)
          unfold Drw at hD
          rw [hb', this] at hD
          simp at hD
          omega
      refine ext_tail (walkL hh1 (Nat.ne_of_lt lS) hd hf hb' h1' (by rw [hl, hb']; rfl)) hn nf (by simp) T1 (by simp) ⟨Heap.get?_push_size _ rfl, Heap.get?_push_of_some _ ho⟩ (Heap.get?_push_of_some _ hL) fun h' tk acc c' hk hL' hit => ?_
      refine hR h' tk s.drawn acc c' (fun b o hb e => hk b o hb (Nat.ne_of_lt (Heap.lt_size e)) (Heap.get?_push_of_some _ e)) hL' ?_
      rw [set_items hit (by simp)]
  · have gt : ∀ b : Addr, b < s.heap.objs.size → b ≠ (s.heap.push (plObj pl)).objs.size := fun b z => by
      rw [Heap.size_push]
      exact Nat.ne_of_lt (Nat.lt_succ_of_lt z)
    have gt2 : s.heap.objs.size ≠ (s.heap.push (plObj pl)).objs.size := by
      rw [Heap.size_push]
      exact Nat.ne_of_lt (Nat.lt_succ_self _)
    have nf : L ∉ [(s.heap.push (plObj pl)).objs.size, S, s.heap.objs.size] := by
      simp only [List.mem_cons, List.not_mem_nil, or_false, not_or]
      exact ⟨gt L lL, hne, Nat.ne_of_lt lL⟩
    have up : ∀ b ob, s.heap.get? b = some ob → ((s.heap.push (plObj pl)).push (itObj (.ref s.heap.objs.size) S 0 es.size ep)).get? b = some ob := fun b ob e => Heap.get?_push_of_some _ (Heap.get?_push_of_some _ e)
    refine ext_tail (s := { s with heap := (s.heap.push (plObj pl)).push (itObj (.ref s.heap.objs.size) S 0 es.size ep), drawn := d }) (walkD hh1 (gt S lS) gt2 hd hf pp) hn nf (by simp) ⟨o, up _ _ ho, hx.1⟩ (by simp) ⟨Heap.get?_push_size _ rfl, Heap.get?_push_of_some _ (Heap.get?_push_size _ rfl), up _ _ ho⟩ (up _ _ hL) fun h' tk acc c' hk hL' hit => ?_
    have ln : pl.length = es.size := by rw [pp.length_eq, List.length_range]
    refine hR h' tk d acc c' (fun b o hb e => hk b o hb (gt b (Heap.lt_size e)) (up _ _ e)) hL' ?_
    rw [set_items hit (by simpa using ln), ← range_getD es (0, .none)]
    exact (pp.map _).map _
end
end L2
namespace L2
open PySem PySem.Spec PyProof.Rows
section
variable {prog : Program} {w : World} {A : Around} {E : Value → Shared → Prop} {s : Shared} {S : Addr} {es : Array (Int × Value)}
theorem set_collect {R : List Value → Shared → Prop} (hh : A.handled = none) (hS : SStr prog w s.heap S es)
    (h : ∀ (h' : Heap) (tk : Nat) (d : Drawn) (acc : Array Value), (∀ b o, s.heap.get? b = some o → h'.get? b = some o) → s.heap.objs.size < h'.objs.size → acc.toList.Perm (es.toList.map (·.2)) → R acc.toList { s with heap := h', toks := tk, drawn := d }) :
    wpAny (model prog w) A (collect (.ref S)) R E s := by
  obtain ⟨o, ep, t, ho, _⟩ := hS.ex
  have lS := Heap.lt_size ho
  unfold collect
  refine wpAny_bind (wpAny_runValue (codeAny_builtin entry_proto_collect' ?_))
  rw [Around.under_plainId PySem.F.plain_proto_collect _]
  show wpAny _ A.in1 (newList [] >>= fun l => again (.builtin "list.__iadd__" ⟨[l, .ref S], []⟩)) _ _ s
  refine wpAny_bind (wpAny_newObj_type (wpAny_pure ⟨plainId_quiet PySem.F.plain_list_iadd _, codeAny_builtin entry_list_iadd' ?_⟩))
  rw [Around.under_plainId PySem.F.plain_list_iadd _]
  have hL : (s.heap.push { cls := .type "list", data := .seq ([] : List Value).toArray }).get? s.heap.objs.size = some { cls := .type "list", data := .seq #[] } := Heap.get?_push_size _ rfl
  show wpAny _ A.in1 (Builtin.List.listExtendWith (.ref s.heap.objs.size) (.ref S) (.ref s.heap.objs.size)) _ _ _
  have key := set_extend (A := A) (s := { s with heap := s.heap.push { cls := .type "list", data := .seq ([] : List Value).toArray } }) (L := s.heap.objs.size) (c0 := 0) (res := .ref s.heap.objs.size) (es := es) (S := S) (w := w) (prog := prog)
    (R := fun (q : Result) (s' : Shared) => ∃ (h' : Heap) (tk : Nat) (d : Drawn) (acc : Array Value) (c' : Nat), q = .ok (.ret (.ref s.heap.objs.size)) ∧ s' = { s with heap := h', toks := tk, drawn := d } ∧ (∀ b o, s.heap.get? b = some o → h'.get? b = some o) ∧ h'.get? s.heap.objs.size = some { cls := .type "list", dict := none, data := .seq acc c', slots := #[] } ∧ acc.toList.Perm (es.toList.map (·.2)))
    hh (hS.moved fun o e => Heap.get?_push_of_some _ e) (Nat.ne_of_gt lS) hL
    (fun h' tk d acc c' hk hL' hp => ⟨h', tk, d, acc, c', rfl, rfl, fun b o e => hk b o (Nat.ne_of_lt (Heap.lt_size e)) (Heap.get?_push_of_some _ e), hL', hp⟩)
  refine wpAny_mono key (fun fin s' x => ?_) fun e s' x => ?_
  · cases fin with
    | done f =>
      obtain ⟨h', tk, d, acc, c', e, rfl, hk, hL', hp⟩ := x
      cases e
      show wpAny _ A (load s.heap.objs.size >>= _) _ _ _
      exact wpAny_bind (wpAny_load hL' (wpAny_pure (h h' tk d acc hk (Heap.lt_size hL') hp)))
    | again c1 =>
      refine ⟨x.1, codeAny_mono x.2 fun q s2 y => ?_⟩
      obtain ⟨h', tk, d, acc, c', rfl, rfl, hk, hL', hp⟩ := y
      show wpAny _ A (load s.heap.objs.size >>= _) _ _ _
      exact wpAny_bind (wpAny_load hL' (wpAny_pure (h h' tk d acc hk (Heap.lt_size hL') hp)))
  · obtain ⟨_, _, _, _, _, e', _⟩ := x
    cases e'
theorem perm_of_map {α β : Type} {f : α → β} {xs ys : List β} (h : xs.Perm ys) : ∀ l : List α, ys = l.map f → ∃ l' : List α, l'.Perm l ∧ xs = l'.map f := by
  induction h with
  | nil =>
    intro l hl
    exact ⟨l, List.Perm.refl _, hl⟩
  | cons x _ ih =>
    intro l hl
    cases l with
    | nil => simp at hl
    | cons y l =>
      rw [List.map_cons, List.cons.injEq] at hl
      obtain ⟨l', p, e⟩ := ih l hl.2
      exact ⟨y :: l', p.cons y, by rw [List.map_cons, ← hl.1, e]⟩
  | swap x y zs =>
    intro l hl
    match l, hl with
    | a :: b :: l, hl =>
      rw [List.map_cons, List.map_cons, List.cons.injEq, List.cons.injEq] at hl
      exact ⟨b :: a :: l, List.Perm.swap _ _ _, by rw [List.map_cons, List.map_cons, ← hl.1, ← hl.2.1, hl.2.2]⟩
  | trans _ _ ih1 ih2 =>
    intro l hl
    obtain ⟨l2, p2, e2⟩ := ih2 l hl
    obtain ⟨l1, p1, e1⟩ := ih1 l2 e2
    exact ⟨l1, p1.trans p2, e1⟩
theorem strs_of : ∀ {l : List (Str × Tok)} {vs : List Value}, vs = l.map (fun x => (entS w x).2) → StrsAre vs (l.map (·.1))
  | [], _, rfl => .nil
  | x :: l, _, rfl => .cons x.1 x.2 (strs_of rfl)
theorem set_sorted {ks : List Str} {Q : Value → Shared → Prop} (hh : A.handled = none) (hS : SStr prog w s.heap S es) (hK : KsOf w es ks) (h64 : ks.length < 64)
    (h : ∀ (D : Addr) (h' : Heap) (tk : Nat) (d : Drawn) (vs : List Value) (ss : List Str) (e : Nat), (∀ b o, s.heap.get? b = some o → h'.get? b = some o) → s.heap.objs.size ≤ D → h'.get? D = some (seqObj "list" vs.toArray e) → StrsAre vs ss → ss.Perm ks → sortedS ss = true → Q (.ref D) { s with heap := h', toks := tk, drawn := d }) :
    wpAny (model prog w) A (call (.builtin "sorted") [.ref S]) Q E s := by
  refine Calls.call_function_entry kind_sorted plain_sorted entry_sorted (args_sorted1 _) ?_
  unfold Builtin.«sorted»
  refine wpAny_bind (m := checkCount "sorted" 1 1 _) (wpAny_pure ?_)
  refine wpAny_bind (set_collect hh hS fun h' tk d acc hk hsz hp => ?_)
  obtain ⟨nd, l, rfl, pp⟩ := hK
  have p2 : acc.toList.Perm (l.map fun x => (entS w x).2) := hp.trans (by have := pp.map (·.2); rw [List.map_map] at this; exact this)
  have ln : acc.toList.length = l.length := by rw [p2.length_eq, List.length_map]
  have hl64 : acc.toList.length < 64 := by rw [ln]; simpa using h64
  obtain ⟨l', p3, e3⟩ := perm_of_map p2 l rfl
  have hst := strs_of (w := w) e3
  refine wpAny_bind (wpAny_newList ?_ (by have : 64 ≤ sizeLine := le_line (by decide); omega))
  have hD : (h'.push (seqObj "list" acc.toList.toArray 0)).get? h'.objs.size = some (seqObj "list" acc.toList.toArray 0) := Heap.get?_push_size _ rfl
  show wpAny _ _ _ _ _ { s with heap := h'.push (seqObj "list" acc.toList.toArray 0), toks := tk, drawn := d }
  refine wpAny_bind (wpAny_holding (wpAny_call_entry PyProof.Rows.slot_list_sort ⟨_, hD, rfl⟩ PyProof.Rows.entry_list_sort (list_sort_treeK strKind_oneLt hD hst.keysOf (fun v1 v2 rest e => keyKind_strs (by rw [← e]; exact hst)) hl64 fun st' a1 a2 => ⟨_, rfl, ?_⟩) (args_list_sort _)))
  obtain ⟨ss', b1, b2, b3⟩ := sorted_out_str hst a1 a2
  obtain ⟨e, he⟩ := sortedHeap_at (h := h'.push (seqObj "list" acc.toList.toArray 0)) (a := h'.objs.size) (vs := acc.toList) (out := (arrOf st').map (·.2)) (n := 0) hD
  have lt : ∀ b o, s.heap.get? b = some o → b < h'.objs.size := fun b o e => Heap.lt_size (hk b o e)
  refine wpAny_pure ⟨_, rfl, h h'.objs.size _ tk d ((arrOf st').map (·.2)).toList ss' e (fun b o e => ?_) ?_ (by rw [Array.toArray_toList]; exact he) b1 (b2.trans (p3.map _)) b3⟩
  · have := lt b o e
    rw [sortedHeap_old (Nat.ne_of_lt this) (by rw [size_push']; exact Nat.lt_succ_of_lt this)]
    exact Heap.get?_push_of_some _ (hk b o e)
  · exact Nat.le_of_lt hsz
end
end L2
namespace L2
open PySem PySem.Spec PyProof.Rows
theorem Inv.drw {X : Cx} {pins : List (Addr × Obj)} {σ : List (Option V)} {H : Hp} {s : Shared} (I : Inv X pins σ H s) (d : Drawn) : Inv X pins σ H { s with drawn := d } := ⟨I.ok, I.os, I.bare, I.base, I.loc, I.cell, I.free, I.freeC, I.pin, I.hok, I.len⟩
def setφ (P : Program) (w : World) (p : Addr) (ks : List Str) : Heap → Prop := fun h => ∃ es, SStr P w h p es ∧ KsOf w es ks
def SetAt (P : Program) (w : World) (H : Hp) (p : Addr) (ks : List Str) : Prop := H p = some (.ext (setφ P w p ks))
def rSetS (K : PySem.W.Frag) (P : Program) (w : World) : List V → Hp → VK → Prop := fun vs H Q => ∃ a ss, vs = [V.ref a] ∧ SqL K H a (strsV ss) ∧ ss.length + 1 < 4096 ∧ ∀ p H' ks, H p = none → Same H H' → SetAt P w H' p ks → ks.Nodup → (∀ x, x ∈ ks ↔ x ∈ ss) → Q (.ref p) H'
def rSortS (P : Program) (w : World) : List V → Hp → VK → Prop := fun vs H Q => ∃ p ks, vs = [V.ref p] ∧ SetAt P w H p ks ∧ ks.length < 64 ∧ ∀ q out H', H q = none → Same H H' → H' q = some (.lst (strsV out)) → out.Perm ks → sortedS out = true → Q (.ref q) H'
theorem vals_texts : ∀ {ss : List Str} {us : List Value}, Vals (strsV ss) us → ∀ (i : Nat) (v : Value), us[i]? = some v → ∃ t, v = Value.str (ss.getD i ⟨#[]⟩) t
  | [], us, h, i, v, e => by
    cases h
    simp at e
  | x :: ss, us, h, i, v, e => by
    cases h with
    | cons h1 h2 =>
      obtain ⟨t, rfl⟩ := h1
      cases i with
      | zero =>
        simp at e
        exact ⟨t, by rw [← e]; rfl⟩
      | succ i => exact vals_texts h2 i v (by simpa using e)
theorem strs_vals : ∀ {vs : List Value} {ss : List Str}, StrsAre vs ss → Vals (strsV ss) vs
  | _, _, .nil => .nil
  | _, _, .cons y t h => .cons ⟨t, rfl⟩ (strs_vals h)
theorem first_all (ss : List Str) (x : Str) : x ∈ firstS (fun i => ss.getD i ⟨#[]⟩) ss.length ↔ x ∈ ss := by
  rw [firstS_mem]
  constructor
  · rintro ⟨j, hj, rfl⟩
    rw [List.getD_eq_getElem?_getD, List.getElem?_eq_getElem hj]
    exact List.getElem_mem hj
  · intro hx
    obtain ⟨j, hj, rfl⟩ := List.mem_iff_getElem.mp hx
    exact ⟨j, hj, by rw [List.getD_eq_getElem?_getD, List.getElem?_eq_getElem hj]; rfl⟩
theorem firstS_nd (val : Nat → Str) : ∀ i, (firstS val i).Nodup
  | 0 => by simp [firstS]
  | i + 1 => by
    rw [firstS_succ]
    unfold metS
    split
    · exact firstS_nd val i
    · next h =>
      refine List.nodup_append.mpr ⟨firstS_nd val i, by simp, fun a ha b hb z => ?_⟩
      rw [List.mem_singleton.mp hb] at z
      exact h (z ▸ ha)
section
variable {X : Cx} {P : Program} {w : World}
theorem cl_setS (K : PySem.W.Frag) (hP : X.prog = P) (hw : X.w = w) (hc : X.calm = true) (hK : X.K = K := by rfl) : CallR X (.type "set") (rSetS K P w) := by
  subst hP hw hK
  intro pins s σ H xs us Q I r h
  obtain ⟨a, ss, rfl, hS, hl, q⟩ := h
  cases r with
  | cons r1 r2 =>
  cases r2
  cases r1
  obtain ⟨its, v1, p1, z⟩ := I.list hS
  have hlen : its.length = ss.length := by
    have := v1.length
    simpa [strsV] using this.symm
  have hb : its.toArray.size + 1 < scanBound := by
    rw [List.size_toArray, hlen]
    exact hl
  refine call_set_strs (I.ok.hd hc) p1.isList (val := fun i => ss.getD i ⟨#[]⟩) (fun i v e => vals_texts v1 i v (by rw [List.getElem?_toArray] at e; exact e)) hb fun h' tk es hs hk keep => ?_
  rw [List.size_toArray, hlen] at hk
  have kp : ∀ b u, s.heap.get? b = some u → h'.get? b = some u := fun b u e => keep b u (Heap.lt_size e) e
  have hp := I.hok.fresh (Nat.le_refl s.heap.objs.size)
  obtain ⟨o, ep, t, ho, _⟩ := hs.ex
  have I2 := I.laid (h' := h') (t' := tk) (a := s.heap.objs.size) (o := .ext (setφ X.prog X.w s.heap.objs.size (firstS (fun i => ss.getD i ⟨#[]⟩) ss.length))) kp (Nat.le_refl _) ⟨⟨es, hs, hk⟩, ⟨o, ho⟩, fun h1 h2 ⟨es', a1, a2⟩ z => ⟨es', a1.moved z, a2⟩⟩
  exact ⟨.ref s.heap.objs.size, _, I2, rfl, q _ _ _ hp (Same.new hp) upd_same (firstS_nd _ _) (first_all ss)⟩
theorem cl_sortS (hP : X.prog = P) (hw : X.w = w) (hc : X.calm = true) : CallR X (.builtin "sorted") (rSortS P w) := by
  subst hP hw
  intro pins s σ H xs us Q I r h
  obtain ⟨p, ks, rfl, hS, h64, q⟩ := h
  cases r with
  | cons r1 r2 =>
  cases r2
  cases r1
  obtain ⟨⟨es, hs, hk⟩, _⟩ := (show ObjOk X.prog X.w H s.heap p (.ext (setφ X.prog X.w p ks)) from I.hok p _ hS)
  refine set_sorted (I.ok.hd hc) hs hk h64 fun D h' tk d vs ss e kp hD hl hv pm so => ?_
  have hp := I.hok.fresh hD
  have ln : ss.length = ks.length := pm.length_eq
  have I2 := (I.drw d).laid (h' := h') (t' := tk) (a := D) (o := .lst (strsV ss)) kp hD ⟨by simp [strsV]; exact Nat.le_trans (by omega) (le_line (show 64 ≤ 1000000 by decide)), vs, e, strs_vals hv, hl⟩
  exact ⟨.ref D, _, I2, rfl, q D ss _ hp (Same.new hp) upd_same pm so⟩
end
end L2
namespace L2
open PySem PySem.Spec PyProof.Rows
end L2
namespace L2
open PySem PySem.Spec PyProof.Rows
section
variable {X : Cx}
end
end L2
namespace L2
open PySem PySem.Spec PyProof.Rows
def idx {α : Type} [DecidableEq α] (l : List α) (x : α) : Nat := l.idxOf x
theorem idx_cons {α : Type} [DecidableEq α] (y : α) (l : List α) (x : α) : idx (y :: l) x = if y = x then 0 else idx l x + 1 := by
  unfold idx
  rw [List.idxOf_cons]
  by_cases h : y = x
  · simp [h]
  · rw [if_neg h, show (y == x) = false by simpa using h]
    rfl
theorem idx_nd {α : Type} [DecidableEq α] : ∀ {l : List α} {n : Nat} {x : α}, l.Nodup → l[n]? = some x → idx l x = n
  | [], n, x, _, h => by simp at h
  | y :: l, 0, x, hn, h => by
    obtain rfl : y = x := by simpa using h
    rw [idx_cons, if_pos rfl]
  | y :: l, n + 1, x, hn, h => by
    rw [List.nodup_cons] at hn
    have h' : l[n]? = some x := by simpa using h
    have hne : ¬ y = x := fun e => hn.1 (e ▸ List.mem_of_getElem? h')
    rw [idx_cons, if_neg hne, idx_nd hn.2 h']
end L2
namespace L2
open PySem PySem.Spec PyProof.Rows
def rIsntT : R2 := fun x y H Q => x = .bl true ∧ y = .bl true ∧ Q (.bl false) H
theorem kop_isntT {X : Cx} : OpR X (compareOp .IsNot) rIsntT := by
  intro pins s σ H x y v u Q I rx ry h
  obtain ⟨rfl, rfl, q⟩ := h
  cases rx
  cases ry
  exact wpAny_isNot_plain rfl ⟨.bl _, H, I, rfl, q⟩
theorem i_isntT {H : Hp} {Q : VK} (h : Q (.bl false) H) : rIsntT (.bl true) (.bl true) H Q := ⟨rfl, rfl, h⟩
end L2
local macro_rules | `(tactic| walk_at "side") => `(tactic| first | exact ⟨by decide, by decide, by decide⟩ | exact ⟨by decide, by decide⟩ | exact .inr (.inr ⟨by decide, by decide⟩) | exact .inr (.inl ⟨by decide, by decide⟩) | decide | omega | exact L2.le_line (by simp only [List.length_cons, List.length_nil]; omega))
local macro_rules | `(tactic| walk_at "step") => do
  let mut acc ← `(tactic| ((with_reducible refine L2.i_rgA ?k ?l ?_); (case k => walk_at "side"); (case l => walk_at "side")))
  for s in ("i_rI i_timesI i_seq i_asg i_c i_op i_un i_rU i_rI0 i_plusI i_eqI i_neI i_test i_bl i_ifS i_if i_ret i_next i_drop i_cons i_nil i_cb i_call i_lst i_tup i_not i_noIf i_and i_or i_andV i_for i_lc i_rng1 i_iList i_iTup i_rng i_ref i_bm i_sl i_nopart i_part i_ix1 i_itT i_itF i_itnT i_itnF i_truB i_chain i_gnil i_gcons i_tru i_isN i_enum i_lref i_min2 i_gsub i_zip i_tnew i_tget i_tput i_tget2 i_tsetd i_rng3 i_td i_tvals i_enumT i_szA".splitOn " ").reverse do
    let n := Lean.mkIdent (Lean.Name.str `L2 s)
    if s == "i_rI" || s == "i_timesI" || s == "i_szA" then acc ← `(tactic| first | ((with_reducible refine $n ?k ?_); (case k => walk_at "side")) | $acc:tactic)
    else acc ← `(tactic| first | with_reducible refine $n ?_ | $acc:tactic)
  `(tactic| first | ((with_reducible refine L2.i_name ?_); dsimp only [List.set_cons_zero, List.set_cons_succ]) | ((with_reducible refine' L2.i_var ?k ?_); (case k => rfl)) | $acc:tactic)
local macro_rules | `(tactic| walk_at "run") => `(tactic| (repeat walk_at "step"))
local macro_rules | `(tactic| walk_at "go") => do
  let ids := (("L2.start List.map_cons List.map_nil List.length_cons List.length_nil List.replicate List.cons_append List.nil_append Nat.reduceSub Nat.reduceAdd L2.nox_K L2.wish_K L2.cxOf_K L2.cxC_K".splitOn " ").map fun s => Lean.mkIdent s.toName).toArray
  `(tactic| (simp only [$[$ids:term],*]; walk_at "run"))
namespace K70
open PySem L2
def top (i : Nat) : Stmt := PySem.Challenge.pw_callmill_k70_whole_packs_of_other_cells.main.body.getD i (.Pass ⟨0, 0, 0, 0⟩)
abbrev s_counted : Stmt := top 2
abbrev s_pack : Stmt := top 5
abbrev s_sayings_of : Stmt := top 6
abbrev s_pairs_of : Stmt := top 7
abbrev s_texts_in : Stmt := top 8
abbrev s_block : Stmt := top 9
abbrev s_shape_cells : Stmt := top 10
abbrev s_common_pair : Stmt := top 11
abbrev s_unpacked : Stmt := top 12
abbrev s_block_places : Stmt := top 13
abbrev s_texts_at : Stmt := top 14
abbrev s_cells_in : Stmt := top 15
abbrev s_pairs_in : Stmt := top 16
abbrev s_others_in : Stmt := top 17
abbrev s_whole_pack : Stmt := top 18
abbrev s_whole_shape : Stmt := top 19
abbrev s_whole_rooms : Stmt := top 20
abbrev s_law_take : Stmt := top 22
abbrev s_law_cell : Stmt := top 23
abbrev s_law_events : Stmt := top 24
abbrev s_law_shape : Stmt := top 25
abbrev s_law_still_shape : Stmt := top 26
abbrev s_law_parts : Stmt := top 27
abbrev s_law_cells : Stmt := top 28
abbrev s_law_texts : Stmt := top 29
abbrev s_law_row : Stmt := top 30
abbrev s_law_table : Stmt := top 31
abbrev s_law : Stmt := top 32
theorem sc_counted : FnScope ["things", "numbers", "thing"] ["things"] (defScope s_counted) := ⟨rfl, rfl, rfl, by decide +kernel, rfl, by decide +kernel, by decide +kernel⟩
theorem sc_pack : FnScope ["table", "rooms", "sayings", "rows", "shapes", "texts", "places", "cells", "room", "row", "shape", "saying"] ["table"] (defScope s_pack) := ⟨rfl, rfl, rfl, by decide +kernel, rfl, by decide +kernel, by decide +kernel⟩
theorem sc_sayings_of : FnScope ["table", "found", "room"] ["table"] (defScope s_sayings_of) := ⟨rfl, rfl, rfl, by decide +kernel, rfl, by decide +kernel, by decide +kernel⟩
theorem sc_pairs_of : FnScope ["room", "sayings"] ["room", "sayings"] (defScope s_pairs_of) := ⟨rfl, rfl, rfl, by decide +kernel, rfl, by decide +kernel, by decide +kernel⟩
theorem sc_texts_in : FnScope ["sayings", "found", "saying"] ["sayings"] (defScope s_texts_in) := ⟨rfl, rfl, rfl, by decide +kernel, rfl, by decide +kernel, by decide +kernel⟩
theorem sc_block : FnScope ["cells"] ["cells"] (defScope s_block) := ⟨rfl, rfl, rfl, by decide +kernel, rfl, by decide +kernel, by decide +kernel⟩
theorem sc_shape_cells : FnScope ["shape", "common", "cells", "place", "pair"] ["shape"] (defScope s_shape_cells) := ⟨rfl, rfl, rfl, by decide +kernel, rfl, by decide +kernel, by decide +kernel⟩
theorem sc_common_pair : FnScope ["shape", "counts", "pair", "most"] ["shape"] (defScope s_common_pair) := ⟨rfl, rfl, rfl, by decide +kernel, rfl, by decide +kernel, by decide +kernel⟩
theorem sc_unpacked : FnScope ["pack", "cells", "shapes", "sayings", "rooms", "cell", "pairs"] ["pack"] (defScope s_unpacked) := ⟨rfl, rfl, rfl, by decide +kernel, rfl, by decide +kernel, by decide +kernel⟩
theorem sc_block_places : FnScope ["cells", "place", "count", "found"] ["cells", "place", "count"] (defScope s_block_places) := ⟨rfl, rfl, rfl, by decide +kernel, rfl, by decide +kernel, by decide +kernel⟩
theorem sc_texts_at : FnScope ["texts", "cells", "place"] ["texts", "cells", "place"] (defScope s_texts_at) := ⟨rfl, rfl, rfl, by decide +kernel, rfl, by decide +kernel, by decide +kernel⟩
theorem sc_cells_in : FnScope ["cells", "place"] ["cells", "place"] (defScope s_cells_in) := ⟨rfl, rfl, rfl, by decide +kernel, rfl, by decide +kernel, by decide +kernel⟩
theorem sc_pairs_in : FnScope ["cells", "place", "count", "pairs", "event", "saying", "way"] ["cells", "place", "count"] (defScope s_pairs_in) := ⟨rfl, rfl, rfl, by decide +kernel, rfl, by decide +kernel, by decide +kernel⟩
theorem sc_others_in : FnScope ["shape"] ["shape"] (defScope s_others_in) := ⟨rfl, rfl, rfl, by decide +kernel, rfl, by decide +kernel, by decide +kernel⟩
theorem sc_whole_pack : FnScope ["events", "texts", "cells", "shapes", "sayings", "place"] ["events", "texts", "cells"] (defScope s_whole_pack) := ⟨rfl, rfl, rfl, by decide +kernel, rfl, by decide +kernel, by decide +kernel⟩
theorem sc_whole_shape : FnScope ["shape", "cells", "count", "ahead", "pairs", "event", "saying", "way"] ["shape", "cells", "count"] (defScope s_whole_shape) := ⟨rfl, rfl, rfl, by decide +kernel, rfl, by decide +kernel, by decide +kernel⟩
theorem sc_whole_rooms : FnScope ["cells", "shapes", "sayings", "count", "room", "cell", "saying", "way"] ["cells", "shapes", "sayings", "count"] (defScope s_whole_rooms) := ⟨rfl, rfl, rfl, by decide +kernel, rfl, by decide +kernel, by decide +kernel⟩
theorem sc_law_take : FnScope ["state", "many", "found"] ["state", "many"] (defScope s_law_take) := ⟨rfl, rfl, rfl, by decide +kernel, rfl, by decide +kernel, by decide +kernel⟩
theorem sc_law_cell : FnScope ["script", "k", "mixed"] ["script", "k", "mixed"] (defScope s_law_cell) := ⟨rfl, rfl, rfl, by decide +kernel, rfl, by decide +kernel, by decide +kernel⟩
theorem sc_law_events : FnScope ["state", "keys", "words"] ["state"] (defScope s_law_events) := ⟨rfl, rfl, rfl, by decide +kernel, rfl, by decide +kernel, by decide +kernel⟩
theorem sc_law_shape : FnScope ["state", "many", "events", "says", "rooms", "common", "shape", "place", "way"] ["state", "many", "events", "says", "rooms"] (defScope s_law_shape) := ⟨rfl, rfl, rfl, by decide +kernel, rfl, by decide +kernel, by decide +kernel⟩
theorem sc_law_still_shape : FnScope ["state", "events", "empty", "room", "shape", "place"] ["state", "events", "empty", "room"] (defScope s_law_still_shape) := ⟨rfl, rfl, rfl, by decide +kernel, rfl, by decide +kernel, by decide +kernel⟩
theorem sc_law_parts : FnScope ["script", "mixed", "first", "events", "texts", "rooms", "says", "state", "sayings", "shapes", "k", "own", "cells"] ["script"] (defScope s_law_parts) := ⟨rfl, rfl, rfl, by decide +kernel, rfl, by decide +kernel, by decide +kernel⟩
theorem sc_law_cells : FnScope ["parts", "events", "texts", "sayings", "shapes", "rooms", "saying", "cells", "shape", "said"] ["parts"] (defScope s_law_cells) := ⟨rfl, rfl, rfl, by decide +kernel, rfl, by decide +kernel, by decide +kernel⟩
theorem sc_law_texts : FnScope ["parts", "saying"] ["parts", "saying"] (defScope s_law_texts) := ⟨rfl, rfl, rfl, by decide +kernel, rfl, by decide +kernel, by decide +kernel⟩
theorem sc_law_row : FnScope ["parts", "shape", "place", "at"] ["parts", "shape", "place"] (defScope s_law_row) := ⟨rfl, rfl, rfl, by decide +kernel, rfl, by decide +kernel, by decide +kernel⟩
theorem sc_law_table : FnScope ["parts", "rooms", "room", "shape"] ["parts"] (defScope s_law_table) := ⟨rfl, rfl, rfl, by decide +kernel, rfl, by decide +kernel, by decide +kernel⟩
theorem sc_law : FnScope ["script", "parts", "told", "due", "again"] ["script"] (defScope s_law) := ⟨rfl, rfl, rfl, by decide +kernel, rfl, by decide +kernel, by decide +kernel⟩
set_option genInjectivity false in
structure Adr where
  a_counted : Addr
  fd_counted : FuncData
  a_pack : Addr
  fd_pack : FuncData
  a_sayings_of : Addr
  fd_sayings_of : FuncData
  a_pairs_of : Addr
  fd_pairs_of : FuncData
  a_texts_in : Addr
  fd_texts_in : FuncData
  a_block : Addr
  fd_block : FuncData
  a_shape_cells : Addr
  fd_shape_cells : FuncData
  a_common_pair : Addr
  fd_common_pair : FuncData
  a_unpacked : Addr
  fd_unpacked : FuncData
  a_block_places : Addr
  fd_block_places : FuncData
  a_texts_at : Addr
  fd_texts_at : FuncData
  a_cells_in : Addr
  fd_cells_in : FuncData
  a_pairs_in : Addr
  fd_pairs_in : FuncData
  a_others_in : Addr
  fd_others_in : FuncData
  a_whole_pack : Addr
  fd_whole_pack : FuncData
  a_whole_shape : Addr
  fd_whole_shape : FuncData
  a_whole_rooms : Addr
  fd_whole_rooms : FuncData
  a__law_take : Addr
  fd__law_take : FuncData
  a__law_cell : Addr
  fd__law_cell : FuncData
  a__law_events : Addr
  fd__law_events : FuncData
  a__law_shape : Addr
  fd__law_shape : FuncData
  a__law_still_shape : Addr
  fd__law_still_shape : FuncData
  a__law_parts : Addr
  fd__law_parts : FuncData
  a__law_cells : Addr
  fd__law_cells : FuncData
  a__law_texts : Addr
  fd__law_texts : FuncData
  a__law_row : Addr
  fd__law_row : FuncData
  a__law_table : Addr
  fd__law_table : FuncData
  a_law : Addr
  fd_law : FuncData
  u_MOST_STANDINGS : Value
  u_HEAD : Value
structure Txt (K : PySem.W.Frag) (mg : Str → Option Value) (t : Adr) : Prop where
  F_counted : Fun K "counted" "counted" s_counted t.a_counted t.fd_counted
  m_counted : mg "counted" = some (.ref t.a_counted)
  b_counted : Binds K t.fd_counted ["things"] []
  F_pack : Fun K "pack" "pack" s_pack t.a_pack t.fd_pack
  m_pack : mg "pack" = some (.ref t.a_pack)
  b_pack : Binds K t.fd_pack ["table"] []
  F_sayings_of : Fun K "sayings_of" "sayings_of" s_sayings_of t.a_sayings_of t.fd_sayings_of
  m_sayings_of : mg "sayings_of" = some (.ref t.a_sayings_of)
  b_sayings_of : Binds K t.fd_sayings_of ["table"] []
  F_pairs_of : Fun K "pairs_of" "pairs_of" s_pairs_of t.a_pairs_of t.fd_pairs_of
  m_pairs_of : mg "pairs_of" = some (.ref t.a_pairs_of)
  b_pairs_of : Binds K t.fd_pairs_of ["room", "sayings"] []
  F_texts_in : Fun K "texts_in" "texts_in" s_texts_in t.a_texts_in t.fd_texts_in
  m_texts_in : mg "texts_in" = some (.ref t.a_texts_in)
  b_texts_in : Binds K t.fd_texts_in ["sayings"] []
  F_block : Fun K "block" "block" s_block t.a_block t.fd_block
  m_block : mg "block" = some (.ref t.a_block)
  b_block : Binds K t.fd_block ["cells"] []
  F_shape_cells : Fun K "shape_cells" "shape_cells" s_shape_cells t.a_shape_cells t.fd_shape_cells
  m_shape_cells : mg "shape_cells" = some (.ref t.a_shape_cells)
  b_shape_cells : Binds K t.fd_shape_cells ["shape"] []
  F_common_pair : Fun K "common_pair" "common_pair" s_common_pair t.a_common_pair t.fd_common_pair
  m_common_pair : mg "common_pair" = some (.ref t.a_common_pair)
  b_common_pair : Binds K t.fd_common_pair ["shape"] []
  F_unpacked : Fun K "unpacked" "unpacked" s_unpacked t.a_unpacked t.fd_unpacked
  m_unpacked : mg "unpacked" = some (.ref t.a_unpacked)
  b_unpacked : Binds K t.fd_unpacked ["pack"] []
  F_block_places : Fun K "block_places" "block_places" s_block_places t.a_block_places t.fd_block_places
  m_block_places : mg "block_places" = some (.ref t.a_block_places)
  b_block_places : Binds K t.fd_block_places ["cells", "place", "count"] []
  F_texts_at : Fun K "texts_at" "texts_at" s_texts_at t.a_texts_at t.fd_texts_at
  m_texts_at : mg "texts_at" = some (.ref t.a_texts_at)
  b_texts_at : Binds K t.fd_texts_at ["texts", "cells", "place"] []
  F_cells_in : Fun K "cells_in" "cells_in" s_cells_in t.a_cells_in t.fd_cells_in
  m_cells_in : mg "cells_in" = some (.ref t.a_cells_in)
  b_cells_in : Binds K t.fd_cells_in ["cells", "place"] []
  F_pairs_in : Fun K "pairs_in" "pairs_in" s_pairs_in t.a_pairs_in t.fd_pairs_in
  m_pairs_in : mg "pairs_in" = some (.ref t.a_pairs_in)
  b_pairs_in : Binds K t.fd_pairs_in ["cells", "place", "count"] []
  F_others_in : Fun K "others_in" "others_in" s_others_in t.a_others_in t.fd_others_in
  m_others_in : mg "others_in" = some (.ref t.a_others_in)
  b_others_in : Binds K t.fd_others_in ["shape"] []
  F_whole_pack : Fun K "whole_pack" "whole_pack" s_whole_pack t.a_whole_pack t.fd_whole_pack
  m_whole_pack : mg "whole_pack" = some (.ref t.a_whole_pack)
  b_whole_pack : Binds K t.fd_whole_pack ["events", "texts", "cells"] []
  F_whole_shape : Fun K "whole_shape" "whole_shape" s_whole_shape t.a_whole_shape t.fd_whole_shape
  m_whole_shape : mg "whole_shape" = some (.ref t.a_whole_shape)
  b_whole_shape : Binds K t.fd_whole_shape ["shape", "cells", "count"] []
  F_whole_rooms : Fun K "whole_rooms" "whole_rooms" s_whole_rooms t.a_whole_rooms t.fd_whole_rooms
  m_whole_rooms : mg "whole_rooms" = some (.ref t.a_whole_rooms)
  b_whole_rooms : Binds K t.fd_whole_rooms ["cells", "shapes", "sayings", "count"] []
  F__law_take : Fun K "_law_take" "_law_take" s_law_take t.a__law_take t.fd__law_take
  m__law_take : mg "_law_take" = some (.ref t.a__law_take)
  b__law_take : Binds K t.fd__law_take ["state", "many"] []
  F__law_cell : Fun K "_law_cell" "_law_cell" s_law_cell t.a__law_cell t.fd__law_cell
  m__law_cell : mg "_law_cell" = some (.ref t.a__law_cell)
  b__law_cell : Binds K t.fd__law_cell ["script", "k", "mixed"] []
  F__law_events : Fun K "_law_events" "_law_events" s_law_events t.a__law_events t.fd__law_events
  m__law_events : mg "_law_events" = some (.ref t.a__law_events)
  b__law_events : Binds K t.fd__law_events ["state"] []
  F__law_shape : Fun K "_law_shape" "_law_shape" s_law_shape t.a__law_shape t.fd__law_shape
  m__law_shape : mg "_law_shape" = some (.ref t.a__law_shape)
  b__law_shape : Binds K t.fd__law_shape ["state", "many", "events", "says", "rooms"] []
  F__law_still_shape : Fun K "_law_still_shape" "_law_still_shape" s_law_still_shape t.a__law_still_shape t.fd__law_still_shape
  m__law_still_shape : mg "_law_still_shape" = some (.ref t.a__law_still_shape)
  b__law_still_shape : Binds K t.fd__law_still_shape ["state", "events", "empty", "room"] []
  F__law_parts : Fun K "_law_parts" "_law_parts" s_law_parts t.a__law_parts t.fd__law_parts
  m__law_parts : mg "_law_parts" = some (.ref t.a__law_parts)
  b__law_parts : Binds K t.fd__law_parts ["script"] []
  F__law_cells : Fun K "_law_cells" "_law_cells" s_law_cells t.a__law_cells t.fd__law_cells
  m__law_cells : mg "_law_cells" = some (.ref t.a__law_cells)
  b__law_cells : Binds K t.fd__law_cells ["parts"] []
  F__law_texts : Fun K "_law_texts" "_law_texts" s_law_texts t.a__law_texts t.fd__law_texts
  m__law_texts : mg "_law_texts" = some (.ref t.a__law_texts)
  b__law_texts : Binds K t.fd__law_texts ["parts", "saying"] []
  F__law_row : Fun K "_law_row" "_law_row" s_law_row t.a__law_row t.fd__law_row
  m__law_row : mg "_law_row" = some (.ref t.a__law_row)
  b__law_row : Binds K t.fd__law_row ["parts", "shape", "place"] []
  F__law_table : Fun K "_law_table" "_law_table" s_law_table t.a__law_table t.fd__law_table
  m__law_table : mg "_law_table" = some (.ref t.a__law_table)
  b__law_table : Binds K t.fd__law_table ["parts"] []
  F_law : Fun K "law" "law" s_law t.a_law t.fd_law
  m_law : mg "law" = some (.ref t.a_law)
  b_law : Binds K t.fd_law ["script"] []
  z_all : mg "all" = none
  z_enumerate : mg "enumerate" = none
  z_len : mg "len" = none
  z_list : mg "list" = none
  z_max : mg "max" = none
  z_min : mg "min" = none
  z_range : mg "range" = none
  z_set : mg "set" = none
  z_sorted : mg "sorted" = none
  z_sum : mg "sum" = none
  z_tuple : mg "tuple" = none
  z_zip : mg "zip" = none
  m_MOST_STANDINGS : mg "MOST_STANDINGS" = some t.u_MOST_STANDINGS
  r_MOST_STANDINGS : RelV (.int 2000) t.u_MOST_STANDINGS
  m_HEAD : mg "HEAD" = some t.u_HEAD
  r_HEAD : RelV (.int 4) t.u_HEAD
section
variable {P : Program} {w : World} {K : PySem.W.Frag} {mg : Str → Option Value} {base : Heap} {t : Adr}
def Oth (s : Addr) (H H' : Hp) : Prop := ∀ y o, y ≠ s → H y = some o → H' y = some o
def StA (H : Hp) (s : Addr) (z : Int) : Prop := ∃ x : Int, H s = some (.lst [.int x, .int z])
theorem Oth.refl {s : Addr} {H : Hp} : Oth s H H := fun _ _ _ e => e
theorem Oth.trans {s : Addr} {H H1 H2 : Hp} (a : Oth s H H1) (b : Oth s H1 H2) : Oth s H H2 := fun c o h e => b c o h (a c o h e)
theorem oth_same {s : Addr} {H H' : Hp} (h : Same H H') : Oth s H H' := fun c o _ e => h c o e
theorem Oth.tups {s : Addr} {H H' : Hp} {z : Int} (f : Oth s H H') (k : StA H s z) : Tups H H' := fun b ys e => by
  obtain ⟨x, h⟩ := k
  exact f b _ (ne_of e h (fun z => nomatch z)) e
theorem Oth.keep {s : Addr} {H H' : Hp} {z : Int} {fs : List Addr} (f : Oth s H H') (k : StA H s z) (hn : s ∉ fs) : Keep fs H H' := ⟨f.tups k, fun a ha xs e => f a _ (fun q => hn (q ▸ ha)) e⟩
theorem Oth.new {s : Addr} {H0 H H' : Hp} (f : Oth s H H') (h : Same H0 H) (hs : H0 s = none) : Same H0 H' := fun b o e => f b o (ne_of_none e hs) (h b o e)
theorem StA.same {H H' : Hp} {s : Addr} {z : Int} (k : StA H s z) (h : Same H H') : StA H' s z := by
  obtain ⟨x, e⟩ := k
  exact ⟨x, h _ _ e⟩
theorem Oth.free {s p : Addr} {H H' : Hp} {z : Int} (f : Oth s H H') (k : StA H' s z) (h : H' p = none) : H p = none := by
  cases e : H p with
  | none => rfl
  | some o =>
    obtain ⟨x, hs⟩ := k
    rw [f p o (fun q => by rw [q, hs] at h; cases h) e] at h
    cases h
theorem mod_nat (x : Int) {m : Nat} (h : 0 < m) : ∃ r : Nat, r < m ∧ x % (m : Int) = (r : Nat) := ⟨(x % (m : Int)).toNat, by
  have h1 := Int.emod_nonneg x (show (m : Int) ≠ 0 by omega)
  have h2 := Int.emod_lt_of_pos x (show (0 : Int) < (m : Int) by omega)
  omega, by
  have h1 := Int.emod_nonneg x (show (m : Int) ≠ 0 by omega)
  omega⟩
theorem cb {i j : Int} (h1 : -1000000000000000000 < i) (h2 : i < 1000000000000000000) : CBig i j := .inr (.inl ⟨by omega, by omega⟩)
theorem cb2 {i j : Int} (h1 : -1000000000000000000 < j) (h2 : j < 1000000000000000000) : CBig i j := .inr (.inr ⟨by omega, by omega⟩)
def sp_take (K : PySem.W.Frag) : Sp := fun vs H Q _ => ∃ (s : Addr) (z : Int) (m : Nat), vs = [.ref s, .int (m : Nat)] ∧ StA H s z ∧ 0 < m ∧ m ≤ 1000 ∧ ∀ (r : Nat) H', r < m → Oth s H H' → StA H' s z → Q (.int (r : Nat)) H'
theorem ok_law_take (T : Txt K mg t) : FnOk P w K mg base CX0 1 t.a__law_take t.fd__law_take ["state", "many"] (sp_take K) := by
  refine T.F__law_take.ok sc_law_take (fun vs H Q E h => ?_) (fun cdv A outer s H vs Q E hr h => ?_)
  · obtain ⟨s, z, m, rfl, _⟩ := h
    rfl
  · obtain ⟨s0, z, m, rfl, ⟨x, hs⟩, hm, hm2, q⟩ := h
    refine ⟨_, (@pss_cons _ _ _ _ _ (@ps_if _ _ _ _ _ _ _ _ (@pt_cmpR _ _ _ _ _ _ _ _ op_eq (@pe_ix _ _ _ _ _ _ _ (kix_list K) (pv 0) (@pe_int _ _ _ _) (fun _ _ => rfl)) (@pe_int _ _ _ _) (nomark _)) (@pss_cons _ _ _ _ _ (@ps_asg _ _ _ _ _ _ (@pe_op _ _ _ _ _ _ _ _ op_mod (@pe_op _ _ _ _ _ _ _ _ op_times (@pe_op _ _ _ _ _ _ _ _ op_plus (@pe_ix _ _ _ _ _ _ _ (kix_list K) (pv 0) (@pe_int _ _ _ _) (fun _ _ => rfl)) (@pe_int _ _ _ _)) (@pe_int _ _ _ _)) (@pe_int _ _ _ _)) (pg_sub (pv 0) (@pe_int _ _ _ _) set_list) (by rfl) (by rfl) (by rfl))
        (@pss_cons _ _ _ _ _ (@ps_asg _ _ _ _ _ _ (@pe_op _ _ _ _ _ _ _ _ op_mod (@pe_op _ _ _ _ _ _ _ _ op_times (@pe_ix _ _ _ _ _ _ _ (kix_list K) (pv 0) (@pe_int _ _ _ _) (fun _ _ => rfl)) (@pe_ix _ _ _ _ _ _ _ (kix_list K) (pv 0) (@pe_int _ _ _ _) (fun _ _ => rfl))) (@pe_int _ _ _ _)) (pg_sub (pv 0) (@pe_int _ _ _ _) set_list) (by rfl) (by rfl) (by rfl))
        (@pss_one _ _ _ (@ps_ret _ _ _ _ (@pe_op _ _ _ _ _ _ _ _ op_mod (@pe_op _ _ _ _ _ _ _ _ op_fdiv (@pe_op _ _ _ _ _ _ _ _ op_mod (@pe_op _ _ _ _ _ _ _ _ op_times (@pe_ix _ _ _ _ _ _ _ (kix_list K) (pv 0) (@pe_int _ _ _ _) (fun _ _ => rfl)) (@pe_int _ _ _ _)) (@pe_int _ _ _ _)) (@pe_int _ _ _ _)) (pv 1)))))) (@pss_nil _))
      (@pss_cons _ _ _ _ _ (@ps_set _ _ 2 _ _ _ _ sc_law_take.nd rfl (by first | exact Or.inl rfl | exact Or.inr rfl) (@pe_op _ _ _ _ _ _ _ _ op_mod (@pe_ix _ _ _ _ _ _ _ (kix_list K) (pv 0) (@pe_int _ _ _ _) (fun _ _ => rfl)) (pv 1)) (by rfl) (by first | exact Or.inl rfl | exact Or.inr rfl))
      (@pss_cons _ _ _ _ _ (@ps_asg _ _ _ _ _ _ (@pe_op _ _ _ _ _ _ _ _ op_fdiv (@pe_ix _ _ _ _ _ _ _ (kix_list K) (pv 0) (@pe_int _ _ _ _) (fun _ _ => rfl)) (pv 1)) (pg_sub (pv 0) (@pe_int _ _ _ _) set_list) (by rfl) (by rfl) (by rfl))
      (@pss_one _ _ _ (@ps_ret _ _ _ _ (pv 2)))))), ?_⟩
    walk_at "go"
    refine i_ixL (SqL.of hs) (atI_nat (j := 1) rfl) ?_
    walk_at "run"
    have up : ∀ y : Int, Oth s0 H (upd H s0 (.lst [.int y, .int z])) := fun y c o h e => by rw [upd_ne h]; exact e
    have ups : ∀ y : Int, upd H s0 (.lst [.int y, .int z]) s0 = some (.lst [.int y, .int z]) := fun y => upd_same
    refine ite2 (fun hc => ?_) (fun hc => ?_)
    · walk_at "run"
      refine i_ixL (SqL.of hs) (atI_nat (j := 0) rfl) ?_
      walk_at "run"
      refine i_setL hs (j := 0) rfl ?_
      have b1 := Int.emod_nonneg ((x + 1) * 48271) (show (2147483647 : Int) ≠ 0 by decide)
      have b2 := Int.emod_lt_of_pos ((x + 1) * 48271) (show (0 : Int) < 2147483647 by decide)
      rw [show [V.int x, V.int z].set 0 (V.int ((x + 1) * 48271 % 2147483647)) = [V.int ((x + 1) * 48271 % 2147483647), .int z] from rfl]
      generalize (x + 1) * 48271 % 2147483647 = y at b1 b2
      walk_at "run"
      refine i_ixL (SqL.of (ups y)) (atI_nat (j := 0) rfl) ?_
      walk_at "run"
      refine i_ixL (SqL.of (ups y)) (atI_nat (j := 0) rfl) ?_
      walk_at "run"
      refine i_timesI (cb2 (by omega) (by omega)) ?_
      walk_at "run"
      refine i_setL (ups y) (j := 0) rfl ?_
      rw [upd_upd, show [V.int y, V.int z].set 0 (V.int (y * y % 2147483629)) = [V.int (y * y % 2147483629), .int z] from rfl]
      generalize y * y % 2147483629 = y2
      walk_at "run"
      refine i_ixL (SqL.of (ups y2)) (atI_nat (j := 0) rfl) ?_
      walk_at "run"
      obtain ⟨r, hr, e⟩ := mod_nat (y2 * 69621 % 2147483587 / 8) hm
      rw [e]
      exact q r _ hr (up y2) ⟨y2, ups y2⟩
    · walk_at "run"
      refine i_ixL (SqL.of hs) (atI_nat (j := 0) rfl) ?_
      walk_at "run"
      obtain ⟨r, hr, e⟩ := mod_nat x hm
      rw [e]
      refine i_ixL (SqL.of hs) (atI_nat (j := 0) rfl) ?_
      walk_at "run"
      refine i_rI (show CDiv _ _ from ⟨by omega, by omega⟩) ?_
      walk_at "run"
      refine i_setL hs (j := 0) rfl ?_
      walk_at "run"
      exact q r _ hr (up (x / (m : Nat))) ⟨x / (m : Nat), ups _⟩
def sp_cell (K : PySem.W.Frag) : Sp := fun vs H Q _ => ∃ (a : Addr) (ns : List Int) (k : Nat) (m : Int), vs = [.ref a, .int (k : Nat), .int m] ∧ SqL K H a (ns.map V.int) ∧ k ≤ 1000 ∧ 0 ≤ m ∧ m ≤ 1 ∧ ∀ (z : Int) H', Same H H' → Q (.int z) H'
theorem ok_law_cell (T : Txt K mg t) : FnOk P w K mg base CX0 1 t.a__law_cell t.fd__law_cell ["script", "k", "mixed"] (sp_cell K) := by
  refine T.F__law_cell.ok sc_law_cell (fun vs H Q E h => ?_) (fun cdv A outer s H vs Q E hr h => ?_)
  · obtain ⟨a, ns, k, m, rfl, _⟩ := h
    rfl
  · obtain ⟨a, ns, k, m, rfl, hS, hk, hm, hm2, q⟩ := h
    refine ⟨_, (@pss_cons _ _ _ _ _ (@ps_if _ _ _ _ _ _ _ _ (@pt_cmpR _ _ _ _ _ _ _ _ (kop_eqNil K (by exact hr.units)) (pv 0) (@pe_lstN _ _ _ _ (@pa_nil _)) (nomark _)) (@pss_one _ _ _ (@ps_ret _ _ _ _ (@pe_op _ _ _ _ _ _ _ _ op_times (pv 2) (pv 1)))) (@pss_nil _))
      (@pss_one _ _ _ (@ps_ret _ _ _ _ (@pe_op _ _ _ _ _ _ _ _ op_plus (@pe_ix _ _ _ _ _ _ _ (kix_list K) (pv 0) (@pe_op _ _ _ _ _ _ _ _ op_mod (pv 1) (@pe_callB _ _ _ _ _ _ _ _ _ kcall_min2 (by rfl) T.z_min bb_min (@pa_cons _ _ _ _ _ (@pe_int _ _ _ _) (@pa_cons _ _ _ _ _ (@pe_callB _ _ _ _ _ _ _ _ _ (kcl_len K) (by rfl) T.z_len bb_len (@pa_cons _ _ _ _ _ (pv 0) (@pa_nil _) (by rfl)) (by decide) (by decide) (by rfl) (by rfl)) (@pa_nil _) (by rfl)) (by rfl)) (by decide) (by decide) (by rfl) (by rfl))) (fun _ _ => rfl)) (@pe_op _ _ _ _ _ _ _ _ op_times (pv 2) (pv 1)))))), ?_⟩
    walk_at "go"
    intro p1 H1 f1 s1 e1
    refine i_eqNil (s1.seq hS) (SqL.of e1) ?_
    walk_at "run"
    cases ns with
    | nil =>
      refine i_itT ?_
      walk_at "run"
      refine i_timesI (cb (by omega) (by omega)) ?_
      exact q _ H1 s1
    | cons n0 nr =>
      refine i_itF ?_
      walk_at "run"
      refine i_lenL (s1.seq hS) ?_
      walk_at "run"
      have hl : 0 < min 63 (n0 :: nr).length := by simp; omega
      have hlen : (n0 :: nr).length = nr.length + 1 := rfl
      generalize n0 :: nr = ns at hS hl hlen
      rw [List.length_map, show min (63 : Int) (ns.length : Nat) = ((min 63 ns.length : Nat) : Int) by omega]
      obtain ⟨r, hr, e⟩ := mod_nat (k : Int) hl
      walk_at "run"
      rw [e]
      have hrl : r < ns.length := by omega
      refine i_ixL (s1.seq hS) (v := .int ns[r]) (atI_nat (j := r) (by simp [hrl])) ?_
      walk_at "run"
      refine i_timesI (cb (by omega) (by omega)) ?_
      walk_at "run"
      exact q _ H1 s1
inductive Ev where
  | quiet
  | key (k : Nat)
  | word (w : Str)
def Ev.tr : Ev → Tr
  | .quiet => .tup [.str "quiet"]
  | .key k => .tup [.str "key", .int (k : Nat)]
  | .word w => .tup [.str "word", .str w]
theorem ats_get0 {H : Hp} {xs : List Tr} {vs : List V} (h : Tr.Ats H xs vs []) {i : Nat} {v : V} (e : vs[i]? = some v) : ∃ x, xs[i]? = some x ∧ x.At H v [] := by
  obtain ⟨x, f, h1, h2, h3⟩ := h.get i v e
  have : f = [] := List.eq_nil_iff_forall_not_mem.mpr fun a m => by simpa using h3 a m
  subst this
  exact ⟨x, h1, h2⟩
def strW (s : Str) : Tw := .sc (.str s)
theorem strs_w {H : Hp} : ∀ {ss : List Str} {vs : List V} {fs : List Addr}, Tw.Ats H (ss.map strW) vs fs ↔ vs = strsV ss ∧ fs = []
  | [], vs, fs => by simp [Tw.Ats, strsV]
  | s :: ss, vs, fs => by
    simp only [List.map_cons, Tw.Ats, strW, Tw.At]
    constructor
    · rintro ⟨v, ws, f, g, rfl, rfl, ⟨rfl, _, rfl⟩, h⟩
      obtain ⟨rfl, rfl⟩ := strs_w.mp h
      exact ⟨rfl, rfl⟩
    · rintro ⟨rfl, rfl⟩
      exact ⟨_, _, [], [], rfl, rfl, ⟨rfl, True.intro, rfl⟩, strs_w.mpr ⟨rfl, rfl⟩⟩
def natW (k : Nat) : Tw := .sc (.int (k : Nat))
theorem nats_w {H : Hp} : ∀ {ss : List Nat} {vs : List V} {fs : List Addr}, Tw.Ats H (ss.map natW) vs fs ↔ vs = natsV ss ∧ fs = []
  | [], vs, fs => by simp [Tw.Ats, natsV]
  | s :: ss, vs, fs => by
    simp only [List.map_cons, Tw.Ats, natW, Tw.At]
    constructor
    · rintro ⟨v, ws, f, g, rfl, rfl, ⟨rfl, _, rfl⟩, h⟩
      obtain ⟨rfl, rfl⟩ := nats_w.mp h
      exact ⟨rfl, rfl⟩
    · rintro ⟨rfl, rfl⟩
      exact ⟨_, _, [], [], rfl, rfl, ⟨rfl, True.intro, rfl⟩, nats_w.mpr ⟨rfl, rfl⟩⟩
def lstW (l : List Nat) : Tw := .lst (l.map natW)
theorem lst_w {H : Hp} {l : List Nat} {v : V} {fs : List Addr} : (lstW l).At H v fs ↔ ∃ a, v = .ref a ∧ H a = some (.lst (natsV l)) ∧ fs = [a] := by
  simp only [lstW, Tw.At]
  constructor
  · rintro ⟨a, vs, gs, rfl, e, h, rfl⟩
    obtain ⟨rfl, rfl⟩ := nats_w.mp h
    exact ⟨a, rfl, e, rfl⟩
  · rintro ⟨a, rfl, e, rfl⟩
    exact ⟨a, _, [], rfl, e, nats_w.mpr ⟨rfl, rfl⟩, rfl⟩
mutual
theorem tw_lst {H : Hp} : ∀ {x : Tw} {v : V} {fs : List Addr}, x.At H v fs → ∀ a ∈ fs, ∃ vs, H a = some (.lst vs)
  | .sc _, v, fs, h, a, m => by simp only [Tw.At] at h; rw [h.2.2] at m; cases m
  | .tup xs, v, fs, h, a, m => by
    simp only [Tw.At] at h
    obtain ⟨b, vs, _, _, r⟩ := h
    exact tws_lst r a m
  | .lst xs, v, fs, h, a, m => by
    simp only [Tw.At] at h
    obtain ⟨b, vs, gs, _, g, r, rfl⟩ := h
    rcases List.mem_cons.mp m with rfl | m
    · exact ⟨_, g⟩
    · exact tws_lst r a m
theorem tws_lst {H : Hp} : ∀ {xs : List Tw} {vs : List V} {fs : List Addr}, Tw.Ats H xs vs fs → ∀ a ∈ fs, ∃ vs, H a = some (.lst vs)
  | [], vs, fs, h, a, m => by simp only [Tw.Ats] at h; rw [h.2] at m; cases m
  | x :: xs, vs, fs, h, a, m => by
    simp only [Tw.Ats] at h
    obtain ⟨v, ws, f, g, _, rfl, h1, h2⟩ := h
    rcases List.mem_append.mp m with m | m
    · exact tw_lst h1 a m
    · exact tws_lst h2 a m
end
theorem tws_new {H : Hp} {xs : List Tw} {vs : List V} {fs : List Addr} (h : Tw.Ats H xs vs fs) {p : Addr} (f : H p = none) : p ∉ fs := fun hp => by
  obtain ⟨us, e⟩ := tws_lst h p hp
  rw [f] at e
  cases e
theorem hsW_all {xs : List Tw} {n : Nat} (h : ∀ x ∈ xs, x.h ≤ n) : Tw.hs xs ≤ n := by
  induction xs with
  | nil => simp [Tw.hs]
  | cons x xs ih =>
    simp only [Tw.hs]
    have := h x (by simp)
    have := ih fun y hy => h y (by simp [hy])
    omega
theorem strs_hW (ss : List Str) : Tw.hs (ss.map strW) ≤ 0 := hsW_all fun x hx => by
  obtain ⟨s, _, rfl⟩ := List.mem_map.mp hx
  simp [strW, Tw.h]
theorem natsV_get {ks : List Nat} {j : Nat} {v : V} (h : (natsV ks)[j]? = some v) : ∃ k, ks[j]? = some k ∧ v = .int (k : Nat) := by
  simp only [natsV, List.getElem?_map] at h
  obtain ⟨k, h1, h2⟩ := Option.map_eq_some_iff.mp h
  exact ⟨k, h1, h2.symm⟩
theorem strsV_get {ks : List Str} {j : Nat} {v : V} (h : (strsV ks)[j]? = some v) : ∃ k, ks[j]? = some k ∧ v = .str k := by
  simp only [strsV, List.getElem?_map] at h
  obtain ⟨k, h1, h2⟩ := Option.map_eq_some_iff.mp h
  exact ⟨k, h1, h2.symm⟩
theorem natsV_at {ks : List Nat} {j k : Nat} (h : ks[j]? = some k) : (natsV ks)[j]? = some (.int (k : Nat)) := by
  simp only [natsV, List.getElem?_map, h]
  rfl
theorem strsV_at {ks : List Str} {j : Nat} {k : Str} (h : ks[j]? = some k) : (strsV ks)[j]? = some (.str k) := by
  simp only [strsV, List.getElem?_map, h]
  rfl
noncomputable instance evDec : DecidableEq Ev := fun _ _ => Classical.propDecidable _
theorem es_nd {ks : List Nat} {ws : List Str} (h1 : ks.Nodup) (h2 : ws.Nodup) : ([Ev.quiet] ++ ks.map Ev.key ++ ws.map Ev.word).Nodup := by
  have i1 : (ks.map Ev.key).Nodup := List.Pairwise.map _ (fun a b hab z => hab (by injection z)) h1
  have i2 : (ws.map Ev.word).Nodup := List.Pairwise.map _ (fun a b hab z => hab (by injection z)) h2
  unfold List.Nodup at *
  rw [List.pairwise_append, List.pairwise_append]
  refine ⟨⟨by simp, i1, ?_⟩, i2, ?_⟩
  · intro a ha b hb z
    obtain ⟨k, _, rfl⟩ := List.mem_map.mp hb
    rw [List.mem_singleton.mp ha] at z
    cases z
  · intro a ha b hb z
    obtain ⟨k, _, rfl⟩ := List.mem_map.mp hb
    rcases List.mem_append.mp ha with ha | ha
    · rw [List.mem_singleton.mp ha] at z
      cases z
    · obtain ⟨k', _, rfl⟩ := List.mem_map.mp ha
      cases z
def sp_events (K : PySem.W.Frag) : Sp := fun vs H Q _ => ∃ (s : Addr) (z : Int), vs = [.ref s] ∧ StA H s z ∧ ∀ (es : List Ev) p us H', H p = none → H' p = some (.lst us) → Tr.Ats H' (es.map Ev.tr) us [] → es.Nodup → es.length ≤ 15 → 0 < es.length → Oth s H H' → StA H' s z → Q (.ref p) H'
theorem of4 {H : Hp} {r : Nat} {a b c d : Addr} (h : r < 4) : ∃ x : Addr, atI [V.ref a, .ref b, .ref c, .ref d] (r : Nat) = some (.ref x) ∧ (x = a ∨ x = b ∨ x = c ∨ x = d) := by
  have : r = 0 ∨ r = 1 ∨ r = 2 ∨ r = 3 := by omega
  rcases this with rfl | rfl | rfl | rfl
  · exact ⟨a, atI_nat rfl, by simp⟩
  · exact ⟨b, atI_nat rfl, by simp⟩
  · exact ⟨c, atI_nat rfl, by simp⟩
  · exact ⟨d, atI_nat rfl, by simp⟩
theorem StA.ne {H : Hp} {s : Addr} {z : Int} (k : StA H s z) {p : Addr} (h : H p = none) : p ≠ s := by
  obtain ⟨x, e⟩ := k
  exact (ne_of_none e h).symm
theorem ok_law_events (T : Txt K mg t) : FnOk P w K mg base CX0 2 t.a__law_events t.fd__law_events ["state"] (sp_events K) := by
  have G__law_take := ok_law_take (P := P) (w := w) (base := base) T
  refine T.F__law_events.ok sc_law_events (fun vs H Q E h => ?_) (fun cdv A outer s H vs Q E hr h => ?_)
  · obtain ⟨s, z, rfl, _⟩ := h
    rfl
  · obtain ⟨s0, z, rfl, k, q⟩ := h
    refine ⟨_, (@pss_cons _ _ _ _ _ (@ps_set _ _ 1 _ _ _ _ sc_law_events.nd rfl (by first | exact Or.inl rfl | exact Or.inr rfl) (@pe_ix _ _ _ _ _ _ _ (kix_list K) (@pe_lstN _ _ _ _ (@pa_cons _ _ _ _ _ (@pe_lstN _ _ _ _ (@pa_nil _)) (@pa_cons _ _ _ _ _ (@pe_lstN _ _ _ _ (@pa_cons _ _ _ _ _ (@pe_int _ _ _ _) (@pa_nil _) (by rfl))) (@pa_cons _ _ _ _ _ (@pe_lstN _ _ _ _ (@pa_cons _ _ _ _ _ (@pe_int _ _ _ _) (@pa_cons _ _ _ _ _ (@pe_int _ _ _ _) (@pa_nil _) (by rfl)) (by rfl))) (@pa_cons _ _ _ _ _ (@pe_lstN _ _ _ _ (@pa_cons _ _ _ _ _ (@pe_int _ _ _ _) (@pa_cons _ _ _ _ _ (@pe_int _ _ _ _) (@pa_cons _ _ _ _ _ (@pe_int _ _ _ _) (@pa_nil _) (by rfl)) (by rfl)) (by rfl))) (@pa_nil _) (by rfl)) (by rfl)) (by rfl)) (by rfl))) (@pe_call _ _ _ _ _ _ _ _ _ _ _ _ _ _ _ _ G__law_take (hr.mono (by omega)) rfl T.m__law_take T.F__law_take.kp T.b__law_take .nil pass0 (@pa_cons _ _ _ _ _ (pv 0) (@pa_cons _ _ _ _ _ (@pe_int _ _ _ _) (@pa_nil _) (by rfl)) (by rfl)) (by decide) (by rfl) (by rfl)) (fun _ _ => rfl)) (by rfl) (by first | exact Or.inl rfl | exact Or.inr rfl))
      (@pss_cons _ _ _ _ _ (@ps_set _ _ 2 _ _ _ _ sc_law_events.nd rfl (by first | exact Or.inl rfl | exact Or.inr rfl) (@pe_ix _ _ _ _ _ _ _ (kix_list K) (@pe_lstN _ _ _ _ (@pa_cons _ _ _ _ _ (@pe_lstN _ _ _ _ (@pa_nil _)) (@pa_cons _ _ _ _ _ (@pe_lstN _ _ _ _ (@pa_cons _ _ _ _ _ (@pe_str _ _ _ _) (@pa_nil _) (by rfl))) (@pa_cons _ _ _ _ _ (@pe_lstN _ _ _ _ (@pa_cons _ _ _ _ _ (@pe_str _ _ _ _) (@pa_cons _ _ _ _ _ (@pe_str _ _ _ _) (@pa_nil _) (by rfl)) (by rfl))) (@pa_cons _ _ _ _ _ (@pe_lstN _ _ _ _ (@pa_cons _ _ _ _ _ (@pe_str _ _ _ _) (@pa_cons _ _ _ _ _ (@pe_str _ _ _ _) (@pa_cons _ _ _ _ _ (@pe_str _ _ _ _) (@pa_nil _) (by rfl)) (by rfl)) (by rfl))) (@pa_nil _) (by rfl)) (by rfl)) (by rfl)) (by rfl))) (@pe_call _ _ _ _ _ _ _ _ _ _ _ _ _ _ _ _ G__law_take (hr.mono (by omega)) rfl T.m__law_take T.F__law_take.kp T.b__law_take .nil pass0 (@pa_cons _ _ _ _ _ (pv 0) (@pa_cons _ _ _ _ _ (@pe_int _ _ _ _) (@pa_nil _) (by rfl)) (by rfl)) (by decide) (by rfl) (by rfl)) (fun _ _ => rfl)) (by rfl) (by first | exact Or.inl rfl | exact Or.inr rfl))
      (@pss_one _ _ _ (@ps_ret _ _ _ _ (@pe_op _ _ _ _ _ _ _ _ op_plus (@pe_op _ _ _ _ _ _ _ _ op_plus (@pe_lstN _ _ _ _ (@pa_cons _ _ _ _ _ (@pe_tupN _ _ _ _ _ (@pa_cons _ _ _ _ _ (@pe_str _ _ _ _) (@pa_nil _) (by rfl))) (@pa_nil _) (by rfl))) (pe_lc (Nt := ["key"]) (Nf := []) (caps := []) rfl (comp_ok (sc := defScope s_law_events) rfl rfl (by decide +kernel) (by decide +kernel) (by decide +kernel) rfl (by decide +kernel)) (kpi_list K (pv 1)) (fun _ _ _ _ _ => (pg_name (i := 0) (show (["key"] : List Str).Nodup by decide +kernel) rfl (by first | exact Or.inl rfl | exact Or.inr rfl))) (fun _ _ _ _ _ => (@pts_nil _)) (fun _ _ _ _ _ => (@pe_tupN _ _ _ _ _ (@pa_cons _ _ _ _ _ (@pe_str _ _ _ _) (@pa_cons _ _ _ _ _ (pv 0) (@pa_nil _) (by rfl)) (by rfl)))))) (pe_lc (Nt := ["word"]) (Nf := []) (caps := []) rfl (comp_ok (sc := defScope s_law_events) rfl rfl (by decide +kernel) (by decide +kernel) (by decide +kernel) rfl (by decide +kernel)) (kpi_list K (pv 2)) (fun _ _ _ _ _ => (pg_name (i := 0) (show (["word"] : List Str).Nodup by decide +kernel) rfl (by first | exact Or.inl rfl | exact Or.inr rfl))) (fun _ _ _ _ _ => (@pts_nil _)) (fun _ _ _ _ _ => (@pe_tupN _ _ _ _ _ (@pa_cons _ _ _ _ _ (@pe_str _ _ _ _) (@pa_cons _ _ _ _ _ (pv 0) (@pa_nil _) (by rfl)) (by rfl)))))))))), ?_⟩
    walk_at "go"
    intro pa H1 f1 s1 e1
    walk_at "run"
    intro pb H2 f2 s2 e2
    walk_at "run"
    intro pc H3 f3 s3 e3
    walk_at "run"
    intro pd H4 f4 s4 e4
    walk_at "run"
    intro pe H5 f5 s5 e5
    walk_at "run"
    have s05 := s1.trans (s2.trans (s3.trans (s4.trans s5)))
    have k5 := k.same s05
    refine ⟨s0, z, 4, rfl, k5, by decide, by decide, fun r H6 hr o6 k6 => ?_⟩
    obtain ⟨pk, hpk, hor⟩ := of4 (H := H) (a := pa) (b := pb) (c := pc) (d := pd) hr
    refine i_ixL (SqL.of (o6 _ _ (k.ne ((s1.trans (s2.trans (s3.trans s4))).free f5)) e5)) hpk ?_
    walk_at "run"
    obtain ⟨ks, hk6, hknd, kl, hpks⟩ : ∃ ks : List Nat, H6 pk = some (.lst (natsV ks)) ∧ ks.Nodup ∧ ks.length ≤ 10 ∧ pk ≠ s0 := by
      rcases hor with rfl | rfl | rfl | rfl
      · exact ⟨[], o6 _ _ (k.ne f1) ((s2.trans (s3.trans (s4.trans s5))) _ _ e1), by simp, by simp, k.ne f1⟩
      · exact ⟨[3], o6 _ _ (k.ne (s1.free f2)) ((s3.trans (s4.trans s5)) _ _ e2), by simp, by simp, k.ne (s1.free f2)⟩
      · exact ⟨[0, 9], o6 _ _ (k.ne ((s1.trans s2).free f3)) ((s4.trans s5) _ _ e3), by simp, by simp, k.ne ((s1.trans s2).free f3)⟩
      · exact ⟨[1, 2, 7], o6 _ _ (k.ne ((s1.trans (s2.trans s3)).free f4)) (s5 _ _ e4), by simp, by simp, k.ne ((s1.trans (s2.trans s3)).free f4)⟩
    have oA : Oth s0 H H6 := (oth_same s05).trans o6
    clear hor hpk o6 e1 e2 e3 e4 e5 f1 f2 f3 f4 f5 s1 s2 s3 s4 s5 s05 k5
    intro pa H1 f1 s1 e1
    walk_at "run"
    intro pb H2 f2 s2 e2
    walk_at "run"
    intro pc H3 f3 s3 e3
    walk_at "run"
    intro pd H4 f4 s4 e4
    walk_at "run"
    intro pe H5 f5 s5 e5
    walk_at "run"
    have s05 := s1.trans (s2.trans (s3.trans (s4.trans s5)))
    have k5 := k6.same s05
    refine ⟨s0, z, 4, rfl, k5, by decide, by decide, fun r2 H7 hr2 o7 k7 => ?_⟩
    obtain ⟨pw, hpw, hor⟩ := of4 (H := H) (a := pa) (b := pb) (c := pc) (d := pd) hr2
    refine i_ixL (SqL.of (o7 _ _ (k6.ne ((s1.trans (s2.trans (s3.trans s4))).free f5)) e5)) hpw ?_
    walk_at "run"
    obtain ⟨ws, e4', hwnd, wl⟩ : ∃ ws : List Str, H7 pw = some (.lst (strsV ws)) ∧ ws.Nodup ∧ ws.length ≤ 4 := by
      rcases hor with rfl | rfl | rfl | rfl
      · exact ⟨[], o7 _ _ (k6.ne f1) ((s2.trans (s3.trans (s4.trans s5))) _ _ e1), by simp, by simp⟩
      · exact ⟨["a"], o7 _ _ (k6.ne (s1.free f2)) ((s3.trans (s4.trans s5)) _ _ e2), by simp, by simp⟩
      · exact ⟨["no", "yes"], o7 _ _ (k6.ne ((s1.trans s2).free f3)) ((s4.trans s5) _ _ e3), by decide +kernel, by simp⟩
      · exact ⟨["z", "b", "abcdefgh"], o7 _ _ (k6.ne ((s1.trans (s2.trans s3)).free f4)) (s5 _ _ e4), by decide +kernel, by simp⟩
    have oB : Oth s0 H H7 := oA.trans ((oth_same s05).trans o7)
    have e14 : H7 pk = some (.lst (natsV ks)) := o7 _ _ hpks (s05 _ _ hk6)
    clear hor hpw o7 e1 e2 e3 e4 e5 f1 f2 f3 f4 f5 s1 s2 s3 s4 s5 s05 k5 k6 hk6
    intro p5 H5 f5 s5 e5
    walk_at "run"
    intro p6 H6 f6 s6 e6
    walk_at "run"
    have s46 := s5.trans s6
    refine ⟨⟨_, SqL.of (s46 _ _ e14)⟩, cc_list (xs := natsV ks) (le_line (by rw [natsV_len]; omega)) (fun i acc H' => i ≤ ks.length ∧ acc.length = i ∧ Same H6 H' ∧ Tr.Ats H' (((ks.take i).map Ev.key).map Ev.tr) acc []) ⟨Nat.zero_le _, rfl, Same.refl _, ats_nil0.mpr rfl⟩ (fun i acc H' ⟨_, e, s', _⟩ => ⟨by omega, SqL.of ((s46.trans s') _ _ e14)⟩) ?_ ?_⟩
    · rintro i x acc H' hx ⟨hi, ea, s', hat⟩
      obtain ⟨k0, hk0, rfl⟩ := natsV_get hx
      walk_at "run"
      intro p7 H7 f7 s7 e7
      refine ⟨(List.getElem?_eq_some_iff.mp hk0).1, by simp [ea], s'.trans s7, ?_⟩
      rw [List.take_add_one, hk0, show ks.take i ++ (some k0).toList = ks.take i ++ [k0] from rfl, List.map_append, List.map_append]
      exact ats_app0.mpr ⟨_, _, rfl, hat.same s7, ats_cons0.mpr ⟨_, _, rfl, tup2_at e7 str_at0 int_at, ats_nil0.mpr rfl⟩⟩
    · rintro acc H' ⟨_, ea, s', hat⟩ p8 H8 f8 s8 e8
      rw [natsV_len, List.take_length] at hat
      have al : acc.length ≤ 10 := by rw [ea, natsV_len]; exact kl
      walk_at "run"
      refine i_plusL ((s'.trans s8) _ _ e6) e8 (le_line (by simp; omega)) ?_
      intro p9 H9 f9 s9 e9
      walk_at "run"
      have s49 := s46.trans (s'.trans (s8.trans s9))
      refine ⟨⟨_, SqL.of (s49 _ _ e4')⟩, cc_list (xs := strsV ws) (le_line (by simp [strsV]; omega)) (fun i acc H' => i ≤ ws.length ∧ acc.length = i ∧ Same H9 H' ∧ Tr.Ats H' (((ws.take i).map Ev.word).map Ev.tr) acc []) ⟨Nat.zero_le _, rfl, Same.refl _, ats_nil0.mpr rfl⟩ (fun i acc H' ⟨_, e, s', _⟩ => ⟨by omega, SqL.of ((s49.trans s') _ _ e4')⟩) ?_ ?_⟩
      · rintro i x acc H' hx ⟨hi, ea, s', hat⟩
        obtain ⟨k0, hk0, rfl⟩ := strsV_get hx
        walk_at "run"
        intro p7 H7 f7 s7 e7
        refine ⟨(List.getElem?_eq_some_iff.mp hk0).1, by simp [ea], s'.trans s7, ?_⟩
        rw [List.take_add_one, hk0, show ws.take i ++ (some k0).toList = ws.take i ++ [k0] from rfl, List.map_append, List.map_append]
        exact ats_app0.mpr ⟨_, _, rfl, hat.same s7, ats_cons0.mpr ⟨_, _, rfl, tup2_at e7 str_at0 str_at0, ats_nil0.mpr rfl⟩⟩
      · rintro acc2 H10 ⟨_, ea2, s10, hat2⟩ p11 H11 f11 s11 e11
        rw [show (strsV ws).length = ws.length by simp [strsV], List.take_length] at hat2
        have al2 : acc2.length ≤ 4 := by rw [ea2]; simp [strsV]; omega
        walk_at "run"
        have s911 := s10.trans s11
        refine i_plusL (s911 _ _ e9) e11 (le_line (by simp; omega)) ?_
        intro p12 H12 f12 s12 e12
        have s412 := s49.trans (s911.trans s12)
        refine q ([Ev.quiet] ++ ks.map Ev.key ++ ws.map Ev.word) p12 _ H12 ?_ e12 ?_ (es_nd hknd hwnd) (by simp; omega) (by simp) (oB.trans (oth_same s412)) (k7.same s412)
        · exact oB.free k7 (s49.free (s911.free f12))
        · rw [List.map_append, List.map_append]
          refine ats_app0.mpr ⟨_, _, rfl, ats_app0.mpr ⟨_, _, rfl, ats_cons0.mpr ⟨_, _, rfl, ?_, ats_nil0.mpr rfl⟩, hat.same (s8.trans (s9.trans (s911.trans s12)))⟩, hat2.same (s11.trans s12)⟩
          exact at_tup0.mpr ⟨p5, _, rfl, (s6.trans (s'.trans (s8.trans (s9.trans (s911.trans s12))))) _ _ e5, ats_cons0.mpr ⟨_, _, rfl, str_at0, ats_nil0.mpr rfl⟩⟩
def blocks (ls : List (List Nat)) : List Nat := ls.flatMap fun l => l.length :: l
def sp_cellsin (K : PySem.W.Frag) : Sp := fun vs H Q _ => ∃ (c : Addr) (cells l : List Nat) (pl : Nat), vs = [.ref c, .int (pl : Nat)] ∧ H c = some (.lst (natsV cells)) ∧ cells[pl]? = some l.length ∧ (cells.drop (pl + 1)).take l.length = l ∧ ∀ p H', H p = none → Same H H' → H' p = some (.lst (natsV l)) → Q (.ref p) H'
theorem cut_nats {ns : List Nat} {j k : Nat} : cutV (natsV ns) (some (j : Int)) (some (k : Int)) = natsV ((ns.drop j).take (k - j)) := by
  rw [natsV_int, cut_from, ← List.map_drop, ← List.map_take, ← natsV_int]
def txOf (txs : List Str) (l : List Nat) : List Str := l.map fun n => txs.getD n (Str.ofString "")
theorem txs_at {txs : List Str} {n : Nat} (h : n < txs.length) : (strsV txs)[n]? = some (.str (txs.getD n (Str.ofString ""))) := by
  refine strsV_at ?_
  rw [List.getD_eq_getElem?_getD, List.getElem?_eq_getElem h]
  rfl
theorem txOf_snoc {txs : List Str} {l : List Nat} {i n : Nat} (e : l[i]? = some n) : strsV (txOf txs (l.take i)) ++ [V.str (txs.getD n (Str.ofString ""))] = strsV (txOf txs (l.take (i + 1))) := by
  rw [List.take_add_one, e]
  simp [txOf, strsV]
abbrev Tri := Nat × Nat × Nat
abbrev Sh := (Nat × Nat) × List Tri
def flat3 (ts : List Tri) : List Nat := ts.flatMap fun t => [t.1, t.2.1, t.2.2]
def shL (h : Sh) : List Nat := h.1.1 :: h.1.2 :: flat3 h.2
theorem flat3_len : ∀ ts : List Tri, (flat3 ts).length = ts.length * 3
  | [] => rfl
  | t :: ts => by
    have := flat3_len ts
    simp only [flat3, List.flatMap_cons, List.length_append, List.length_cons, List.length_nil] at this ⊢
    omega
theorem flat3_at : ∀ {ts : List Tri} {i : Nat} {t : Tri}, ts[i]? = some t → ((flat3 ts).drop (i * 3)).take 3 = [t.1, t.2.1, t.2.2] ∧ (flat3 ts)[i * 3]? = some t.1 ∧ (flat3 ts)[i * 3 + 1]? = some t.2.1 ∧ (flat3 ts)[i * 3 + 2]? = some t.2.2
  | [], i, t, h => by simp at h
  | x :: ts, 0, t, h => by
    obtain rfl : x = t := by simpa using h
    refine ⟨?_, ?_, ?_, ?_⟩ <;> simp [flat3]
  | x :: ts, i + 1, t, h => by
    obtain ⟨h1, h2, h3, h4⟩ := flat3_at (ts := ts) (i := i) (t := t) (by simpa using h)
    have e : flat3 (x :: ts) = [x.1, x.2.1, x.2.2] ++ flat3 ts := rfl
    rw [e, show (i + 1) * 3 = i * 3 + 3 by omega]
    refine ⟨?_, ?_, ?_, ?_⟩
    · simpa using h1
    · simpa using h2
    · rw [show i * 3 + 3 + 1 = i * 3 + 1 + 3 by omega]; simpa using h3
    · rw [show i * 3 + 3 + 2 = i * 3 + 2 + 3 by omega]; simpa using h4
theorem shL_at {h : Sh} {i : Nat} {t : Tri} (e : h.2[i]? = some t) : ((shL h).drop (2 + i * 3)).take 3 = [t.1, t.2.1, t.2.2] ∧ (shL h)[2 + i * 3]? = some t.1 ∧ (shL h)[2 + i * 3 + 1]? = some t.2.1 ∧ (shL h)[2 + i * 3 + 2]? = some t.2.2 := by
  obtain ⟨h1, h2, h3, h4⟩ := flat3_at e
  unfold shL
  rw [show 2 + i * 3 = i * 3 + 1 + 1 by omega, show i * 3 + 1 + 1 + 1 = i * 3 + 1 + 1 + 1 from rfl]
  refine ⟨?_, ?_, ?_, ?_⟩
  · simpa using h1
  · simpa using h2
  · rw [show i * 3 + 1 + 1 + 1 = (i * 3 + 1) + 1 + 1 by omega]; simpa using h3
  · rw [show i * 3 + 1 + 1 + 2 = (i * 3 + 2) + 1 + 1 by omega]; simpa using h4
def tripW (t : Tri) : Tw := .tup [natW t.1, natW t.2.1, natW t.2.2]
theorem trip_w {H : Hp} {t : Tri} {v : V} {fs : List Addr} : (tripW t).At H v fs ↔ ∃ k, v = .ref k ∧ H k = some (.tup [.int (t.1 : Nat), .int (t.2.1 : Nat), .int (t.2.2 : Nat)]) ∧ fs = [] := by
  simp only [tripW, natW, Tw.At, Tw.Ats]
  constructor
  · rintro ⟨a, vs, rfl, e, v, ws, f, g, rfl, rfl, ⟨rfl, _, rfl⟩, v', ws', f', g', rfl, rfl, ⟨rfl, _, rfl⟩, v2, ws2, f2, g2, rfl, rfl, ⟨rfl, _, rfl⟩, rfl, rfl⟩
    exact ⟨a, rfl, e, rfl⟩
  · rintro ⟨k, rfl, e, rfl⟩
    exact ⟨k, _, rfl, e, _, _, [], [], rfl, rfl, ⟨rfl, True.intro, rfl⟩, _, _, [], [], rfl, rfl, ⟨rfl, True.intro, rfl⟩, _, _, [], [], rfl, rfl, ⟨rfl, True.intro, rfl⟩, rfl, rfl⟩
def sp_others (K : PySem.W.Frag) : Sp := fun vs H Q _ => ∃ (s : Addr) (h : Sh), vs = [.ref s] ∧ H s = some (.lst (natsV (shL h))) ∧ h.2.length ≤ 1000 ∧ ∀ p acc H', H p = none → Same H H' → H' p = some (.lst acc) → Tw.Ats H' (h.2.map tripW) acc [] → Q (.ref p) H'
theorem many3_sh (n : Nat) : many3 2 ((n * 3 + 2 : Nat) : Int) = n := by
  unfold many3
  omega
structure Pk where
  told : List Nat
  shs : List Sh
  sys : List (List Nat)
  say : Nat
def Pk.cells (k : Pk) : List Nat := k.told.length :: k.sys.length :: k.shs.length :: k.say :: (k.told ++ (blocks (k.shs.map shL) ++ blocks k.sys))
def Pk.pre1 (k : Pk) : List Nat := k.told.length :: k.sys.length :: k.shs.length :: k.say :: k.told
def Pk.pre2 (k : Pk) : List Nat := k.pre1 ++ blocks (k.shs.map shL)
theorem Pk.c1 (k : Pk) : k.cells = k.pre1 ++ (blocks (k.shs.map shL) ++ blocks k.sys) := by simp [Pk.cells, Pk.pre1]
theorem Pk.c2 (k : Pk) : k.cells = k.pre2 ++ (blocks k.sys ++ []) := by simp [Pk.cells, Pk.pre2, Pk.pre1]
theorem Pk.l1 (k : Pk) : k.pre1.length = 4 + k.told.length := by simp [Pk.pre1]; omega
theorem Pk.at4 (k : Pk) {i t : Nat} (h : k.told[i]? = some t) : k.cells[4 + i]? = some t := by
  unfold Pk.cells
  rw [show 4 + i = i + 1 + 1 + 1 + 1 by omega]
  simp only [List.getElem?_cons_succ]
  rw [List.getElem?_append_left (List.getElem?_eq_some_iff.mp h).1, h]
structure PkOk (k : Pk) (T : Nat) : Prop where
  nt : k.told.length ≤ 100
  n0 : 0 < k.told.length
  nsh : k.shs.length ≤ 100
  nsy : k.sys.length ≤ 100
  told : ∀ t ∈ k.told, t / 2 < k.shs.length
  sh : ∀ h ∈ k.shs, h.1.1 < k.sys.length ∧ h.1.2 < k.told.length ∧ (∀ t ∈ h.2, t.2.1 < k.sys.length ∧ t.2.2 < k.told.length) ∧ (h.2.map (·.1)).Nodup ∧ h.2.length ≤ 100
  sy : ∀ l ∈ k.sys, l.length ≤ 100 ∧ ∀ n ∈ l, n < T
  say : k.say < k.sys.length
def pm (d tx c sh sy : Addr) : List (Str × V) := putF "sayings" (.ref sy) (putF "shapes" (.ref sh) (putF "cells" (.ref c) (putF "texts" (.ref tx) (putF "places" (.ref d) []))))
def pick (h : Sh) (j : Nat) : Nat × Nat := match h.2.find? (fun t => t.1 == j) with
  | some t => t.2
  | none => h.1
theorem pick_some {h : Sh} {j i : Nat} {t : Tri} (e : h.2[i]? = some t) (hj : t.1 = j) (hn : ∀ x ∈ h.2.take i, ¬ x.1 = j) : pick h j = t.2 := by
  have e2 : h.2 = h.2.take i ++ t :: h.2.drop (i + 1) := by
    conv => lhs; rw [← List.take_append_drop i h.2, List.drop_eq_getElem_cons (List.getElem?_eq_some_iff.mp e).1]
    rw [(List.getElem?_eq_some_iff.mp e).2]
  have hf : h.2.find? (fun t => t.1 == j) = some t := by
    rw [e2, List.find?_append, List.find?_eq_none.mpr fun x hx => by simpa using hn x hx]
    simp [hj]
  unfold pick
  rw [hf]
theorem pick_none {h : Sh} {j : Nat} (hn : ∀ x ∈ h.2, ¬ x.1 = j) : pick h j = h.1 := by
  unfold pick
  rw [List.find?_eq_none.mpr fun x hx => by simpa using hn x hx]
def met1 {α : Type} [DecidableEq α] (acc : List α) (x : α) : List α := if x ∈ acc then acc else acc ++ [x]
def mets {α : Type} [DecidableEq α] (l : List α) : List α := l.foldl met1 []
theorem mets_snoc {α : Type} [DecidableEq α] (l : List α) (x : α) : mets (l ++ [x]) = met1 (mets l) x := by
  unfold mets
  rw [List.foldl_append]
  rfl
theorem met1_mem {α : Type} [DecidableEq α] {acc : List α} {x y : α} : x ∈ met1 acc y ↔ x ∈ acc ∨ x = y := by
  unfold met1
  split
  · next h =>
    constructor
    · exact .inl
    · rintro (h' | rfl)
      · exact h'
      · exact h
  · simp
theorem metf_mem {α : Type} [DecidableEq α] (x : α) : ∀ (l acc : List α), x ∈ l.foldl met1 acc ↔ x ∈ acc ∨ x ∈ l
  | [], acc => by simp
  | y :: l, acc => by
    rw [List.foldl_cons, metf_mem x l, met1_mem, List.mem_cons, or_assoc]
theorem mets_mem {α : Type} [DecidableEq α] (x : α) (l : List α) : x ∈ mets l ↔ x ∈ l := by
  unfold mets
  rw [metf_mem]
  simp
theorem met1_nd {α : Type} [DecidableEq α] {acc : List α} {y : α} (ha : acc.Nodup) : (met1 acc y).Nodup := by
  unfold met1
  split
  · exact ha
  · next h =>
    refine List.nodup_append.mpr ⟨ha, by simp, fun a hm b hb z => ?_⟩
    rw [List.mem_singleton.mp hb] at z
    exact h (z ▸ hm)
theorem metf_nd {α : Type} [DecidableEq α] : ∀ (l acc : List α), acc.Nodup → (l.foldl met1 acc).Nodup
  | [], acc, h => h
  | y :: l, acc, h => metf_nd l _ (met1_nd h)
theorem mets_nd {α : Type} [DecidableEq α] (l : List α) : (mets l).Nodup := metf_nd l [] (by simp)
theorem metf_len {α : Type} [DecidableEq α] : ∀ (l acc : List α), (l.foldl met1 acc).length ≤ acc.length + l.length
  | [], acc => by simp
  | y :: l, acc => by
    have h := metf_len l (met1 acc y)
    have h2 : (met1 acc y).length ≤ acc.length + 1 := by
      unfold met1
      split <;> simp
    rw [List.foldl_cons, List.length_cons]
    omega
theorem mets_len {α : Type} [DecidableEq α] (l : List α) : (mets l).length ≤ l.length := by
  have := metf_len l []
  simpa [mets] using this
def numF {α : Type} (f : α → Tr) : List α → Nat → List (Tr × V)
  | [], _ => []
  | x :: l, n => (f x, .int (n : Nat)) :: numF f l (n + 1)
def numd {α : Type} (f : α → Tr) (l : List α) : List (Tr × V) := numF f l 0
theorem numF_len {α : Type} (f : α → Tr) : ∀ (l : List α) (n : Nat), (numF f l n).length = l.length
  | [], _ => rfl
  | _ :: l, n => by simp [numF, numF_len f l]
theorem numF_keys {α : Type} (f : α → Tr) : ∀ (l : List α) (n : Nat), (numF f l n).map (·.1) = l.map f
  | [], _ => rfl
  | _ :: l, n => by simp [numF, numF_keys f l]
theorem numF_snoc {α : Type} (f : α → Tr) (x : α) : ∀ (l : List α) (n : Nat), numF f (l ++ [x]) n = numF f l n ++ [(f x, .int ((n + l.length : Nat) : Int))]
  | [], n => rfl
  | y :: l, n => by
    show (f y, V.int (n : Nat)) :: numF f (l ++ [x]) (n + 1) = _
    rw [numF_snoc f x l (n + 1), show n + 1 + l.length = n + (y :: l).length by simp; omega]
    rfl
theorem numF_val {α : Type} {f : α → Tr} (hf : ∀ a b, f a = f b → a = b) : ∀ (l : List α) (n : Nat), l.Nodup → ∀ (x : α) (i : Nat), l[i]? = some x → valV (numF f l n) (f x) = some (.int ((n + i : Nat) : Int))
  | [], n, _, x, i, h => by simp at h
  | y :: l, n, hn, x, i, h => by
    rw [List.nodup_cons] at hn
    unfold valV numF
    rw [List.find?_cons]
    cases i with
    | zero =>
      have e : y = x := by simpa using h
      subst e
      simp
    | succ i =>
      have h' : l[i]? = some x := by simpa using h
      have hne : f y ≠ f x := fun z => hn.1 (by rw [hf _ _ z]; exact List.mem_of_getElem? h')
      rw [decide_eq_false hne]
      have := numF_val hf l (n + 1) hn.2 x i h'
      unfold valV at this
      rw [this, show n + 1 + i = n + (i + 1) by omega]
theorem numF_none {α : Type} {f : α → Tr} (hf : ∀ a b, f a = f b → a = b) {x : α} : ∀ (l : List α) (n : Nat), x ∉ l → valV (numF f l n) (f x) = none
  | [], n, _ => rfl
  | y :: l, n, h => by
    rw [List.mem_cons, not_or] at h
    unfold valV numF
    rw [List.find?_cons, decide_eq_false (fun z : f y = f x => h.1 (hf _ _ z).symm)]
    have := numF_none hf l (n + 1) h.2
    unfold valV at this
    exact this
theorem numd_val {α : Type} {f : α → Tr} (hf : ∀ a b, f a = f b → a = b) {l : List α} (hn : l.Nodup) {x : α} {i : Nat} (h : l[i]? = some x) : valV (numd f l) (f x) = some (.int (i : Nat)) := by
  have := numF_val hf l 0 hn x i h
  rw [Nat.zero_add] at this
  exact this
theorem has_num {α : Type} {f : α → Tr} (hf : ∀ a b, f a = f b → a = b) {l : List α} (hn : l.Nodup) {x : α} (h : x ∈ l) : ∃ i : Nat, l[i]? = some x ∧ valV (numd f l) (f x) = some (.int (i : Nat)) := by
  obtain ⟨i, hi, rfl⟩ := List.mem_iff_getElem.mp h
  exact ⟨i, List.getElem?_eq_getElem hi, numd_val hf hn (List.getElem?_eq_getElem hi)⟩
def sp_counted (K : PySem.W.Frag) (P : Params) : Sp := fun vs H Q _ => ∃ (a : Addr) (us : List V) (α : Type) (_ : DecidableEq α) (f : α → Tr) (xs : List α), vs = [.ref a] ∧ SqL K H a us ∧ Tr.Ats H (xs.map f) us [] ∧ (∀ a b, f a = f b → a = b) ∧ (∀ x, (f x).h ≤ 8) ∧ xs.length ≤ 100000 ∧ ∀ d H', H d = none → Same H H' → DtAt P H' d (numd f (mets xs)) → Q (.ref d) H'
theorem ok_counted (T : Txt K mg t) : FnOk P w K mg base CX0 1 t.a_counted t.fd_counted ["things"] (sp_counted K w.params) := by
  refine T.F_counted.ok sc_counted (fun vs H Q E h => ?_) (fun cdv A outer s H vs Q E hr h => ?_)
  · obtain ⟨a, us, α, dα, f, xs, rfl, _⟩ := h
    rfl
  · obtain ⟨a, us, α, dα, f, xs, rfl, ha, hu, hf, hh, hl, q⟩ := h
    refine ⟨_, (@pss_cons _ _ _ _ _ (@ps_set _ _ 1 _ _ _ _ sc_counted.nd rfl (by first | exact Or.inl rfl | exact Or.inr rfl) (pe_tnew w.params) (by rfl) (by first | exact Or.inl rfl | exact Or.inr rfl))
      (@pss_cons _ _ _ _ _ (@ps_for _ _ _ _ _ _ _ _ PassesOwn.never rfl (kpi_list K (pv 0)) (pg_name (i := 2) sc_counted.nd rfl (by first | exact Or.inl rfl | exact Or.inr rfl)) (@pss_one _ _ _ (@ps_expr _ _ _ _ (pe_tsetd (P := w.params) rfl (by exact hr.units) (pv 1) (pv 2) (@pe_callB _ _ _ _ _ _ _ _ _ (cl_lenT (P := w.params) rfl) (by rfl) T.z_len bb_len (@pa_cons _ _ _ _ _ (pv 1) (@pa_nil _) (by rfl)) (by decide) (by decide) (by rfl) (by rfl)) ⟨by rfl, by rfl, by rfl, by rfl⟩) (by rfl))) (by intro _; rfl))
      (@pss_one _ _ _ (@ps_ret _ _ _ _ (pv 1))))), ?_⟩
    have sl : (1000000 : Nat) ≤ sizeLine := le_line (Nat.le_refl _)
    have ul : us.length = xs.length := by rw [hu.len, List.length_map]
    walk_at "go"
    intro d o fd hd
    walk_at "run"
    have s1 : Same H (upd H d o) := Same.new fd
    refine ⟨⟨_, s1.seq ha⟩, for_list (K := K) (a := a) (xs := us) (fun i σ H' => i ≤ xs.length ∧ Same H H' ∧ DtAt w.params H' d (numd f (mets (xs.take i))) ∧ ∃ y, σ = [some (.ref a), some (.ref d), y]) ⟨Nat.zero_le _, s1, hd, _, rfl⟩ (fun i σ H' _ ⟨_, s', _⟩ => s'.seq ha) ?_ ?_⟩
    · rintro i v σ H2 hv ⟨hi, s2, hD, y, rfl⟩
      obtain ⟨tx, hx1, hx2⟩ := ats_get0 hu hv
      rw [List.getElem?_map] at hx1
      obtain ⟨x, hx, rfl⟩ := Option.map_eq_some_iff.mp hx1
      have hi' : i < xs.length := (List.getElem?_eq_some_iff.mp hx).1
      have htk : xs.take (i + 1) = xs.take i ++ [x] := by rw [List.take_add_one, hx]; rfl
      have hln := mets_len (xs.take i)
      have hlt : (xs.take i).length ≤ 100000 := by simp; omega
      walk_at "run"
      refine ⟨d, _, rfl, hD, ?_⟩
      walk_at "run"
      refine ⟨d, _, rfl, hD, ?_⟩
      walk_at "run"
      refine ⟨_, f x, hD, ⟨tr_tups hx2 s2.tups, hh x⟩, by unfold numd; rw [numF_len]; omega, fun z hz => ?_, fun hz o' hD' => ?_⟩
      · have hm : x ∈ mets (xs.take i) := Classical.byContradiction fun hm => by
          have := numF_none hf (mets (xs.take i)) 0 hm
          unfold numd at hz
          rw [this] at hz
          cases hz
        rw [htk, mets_snoc, met1, if_pos hm]
        exact ⟨hi', s2, hD, _, rfl⟩
      · have hm : x ∉ mets (xs.take i) := fun hm => by
          obtain ⟨j, _, hj⟩ := has_num hf (mets_nd _) hm
          rw [hj] at hz
          cases hz
        rw [htk, mets_snoc, met1, if_neg hm]
        refine ⟨hi', s2.updNew fd, ?_, _, rfl⟩
        unfold numd at hD' ⊢
        rw [numF_snoc, Nat.zero_add]
        rw [numF_len] at hD'
        exact hD'
    · rintro σ H2 ⟨_, s2, hD, y, rfl⟩
      rw [ul, List.take_length] at hD
      walk_at "run"
      exact q d H2 fd s2 hD
def pairT (p : Nat × Nat) : Tr := .tup [.int (p.1 : Nat), .int (p.2 : Nat)]
theorem pairT_inj {a b : Nat × Nat} (h : pairT a = pairT b) : a = b := by
  simp only [pairT, Tr.tup.injEq, List.cons.injEq, Tr.int.injEq, and_true] at h
  exact Prod.ext (by omega) (by omega)
theorem pairT_h (p : Nat × Nat) : (pairT p).h ≤ 1 := by simp [pairT, Tr.h, Tr.hs]
theorem pair_at {H : Hp} {p : Nat × Nat} {v : V} (h : (pairT p).At H v []) : ∃ a, v = .ref a ∧ H a = some (.tup [.int (p.1 : Nat), .int (p.2 : Nat)]) := by
  obtain ⟨a, vs, rfl, e, h2⟩ := at_tup0.mp h
  obtain ⟨u, w1, rfl, a1, h3⟩ := ats_cons0.mp h2
  obtain ⟨u2, w2, rfl, a2, h4⟩ := ats_cons0.mp h3
  cases at_int0.mp a1
  cases at_int0.mp a2
  cases ats_nil0.mp h4
  exact ⟨a, rfl, e⟩
def encC (x : (Nat × Nat) × Nat) : Tr × V := (pairT x.1, .int (x.2 : Nat))
structure IsC (row : List (Nat × Nat)) (c : Nat × Nat) : Prop where
  mem : c ∈ row
  most : ∀ p ∈ row, row.count p ≤ row.count c
  first : ∃ j : Nat, (mets row)[j]? = some c ∧ ∀ (i : Nat) (p : Nat × Nat), i < j → (mets row)[i]? = some p → row.count p < row.count c
theorem IsC.one {row : List (Nat × Nat)} {c d : Nat × Nat} (h1 : IsC row c) (h2 : IsC row d) : c = d := by
  obtain ⟨i, a1, a2⟩ := h1.first
  obtain ⟨j, b1, b2⟩ := h2.first
  have m1 := h1.most d h2.mem
  have m2 := h2.most c h1.mem
  rcases Nat.lt_trichotomy i j with h | h | h
  · have := b2 i c h a1
    omega
  · subst h
    rw [a1] at b1
    injection b1
  · have := a2 j d h b1
    omega
noncomputable def commF (row : List (Nat × Nat)) : Nat × Nat := @dite _ (∃ c, IsC row c) (Classical.propDecidable _) (fun h => Classical.choose h) (fun _ => (0, 0))
theorem IsC.is {row : List (Nat × Nat)} {c : Nat × Nat} (h : IsC row c) : commF row = c := by
  unfold commF
  rw [dif_pos ⟨c, h⟩]
  exact (Classical.choose_spec (⟨c, h⟩ : ∃ c, IsC row c)).one h
def cntL (l : List (Nat × Nat)) : List ((Nat × Nat) × Nat) := (mets l).map fun p => (p, l.count p)
theorem cnt_any (l : List (Nat × Nat)) (p : Nat × Nat) : (((cntL l).map encC).any fun kv => decide (kv.1 = pairT p)) = true ↔ p ∈ l := by
  rw [List.any_eq_true, ← mets_mem]
  constructor
  · rintro ⟨x, hx, e⟩
    obtain ⟨y, hy, rfl⟩ := List.mem_map.mp hx
    obtain ⟨z, hz, rfl⟩ := List.mem_map.mp hy
    rw [← pairT_inj (of_decide_eq_true e)]
    exact hz
  · intro h
    exact ⟨encC (p, l.count p), List.mem_map_of_mem (List.mem_map_of_mem (f := fun p => (p, l.count p)) h), decide_eq_true rfl⟩
theorem cnt_put (l : List (Nat × Nat)) (p : Nat × Nat) : putK ((cntL l).map encC) (pairT p) (.int ((l.count p + 1 : Nat) : Int)) = (cntL (l ++ [p])).map encC := by
  unfold putK
  by_cases h : p ∈ l
  · rw [if_pos ((cnt_any l p).mpr h)]
    unfold cntL
    rw [mets_snoc, met1, if_pos ((mets_mem _ _).mpr h), List.map_map, List.map_map, List.map_map]
    refine List.map_congr_left fun x _ => ?_
    by_cases hx : x = p
    · subst hx
      simp [encC]
    · have hx' : ¬ pairT x = pairT p := fun z => hx (pairT_inj z)
      refine (if_neg hx').trans ?_
      show (pairT x, V.int (l.count x : Nat)) = (pairT x, V.int ((l ++ [p]).count x : Nat))
      rw [List.count_append, List.count_eq_zero_of_not_mem (a := x) (l := [p]) (by simpa using hx), Nat.add_zero]
  · rw [if_neg fun z => h ((cnt_any l p).mp z)]
    unfold cntL
    rw [mets_snoc, met1, if_neg fun z => h ((mets_mem _ _).mp z), List.map_append, List.map_append, List.map_map, List.map_map]
    congr 1
    · refine List.map_congr_left fun x hx => ?_
      have hx' : ¬ x = p := fun z => h (z ▸ (mets_mem _ _).mp hx)
      simp only [Function.comp_apply, encC]
      rw [List.count_append, List.count_eq_zero_of_not_mem (a := x) (l := [p]) (by simpa using hx'), Nat.add_zero]
    · simp [encC]
theorem cnt_val (l : List (Nat × Nat)) (p : Nat × Nat) : (valV ((cntL l).map encC) (pairT p)).getD (.int 0) = .int (l.count p : Nat) := by
  unfold valV
  cases h : ((cntL l).map encC).find? (fun kv => decide (kv.1 = pairT p)) with
  | none =>
    have hn : p ∉ l := fun hm => by
      have := (cnt_any l p).mpr hm
      rw [List.any_eq_true] at this
      obtain ⟨x, hx, e⟩ := this
      exact absurd e (by simpa using List.find?_eq_none.mp h x hx)
    rw [List.count_eq_zero_of_not_mem hn]
    rfl
  | some y =>
    have hy := List.find?_some h
    obtain ⟨x, hx, rfl⟩ := List.mem_map.mp (List.mem_of_find?_eq_some h)
    obtain ⟨z, hz, rfl⟩ := List.mem_map.mp hx
    have : z = p := pairT_inj (of_decide_eq_true hy)
    subst this
    rfl
theorem cnt_len (l : List (Nat × Nat)) : (cntL l).length ≤ l.length := by
  have := mets_len l
  simp [cntL]
  exact this
def sp_block (K : PySem.W.Frag) : Sp := fun vs H Q _ => ∃ (c : Addr) (l : List Nat), vs = [.ref c] ∧ H c = some (.lst (natsV l)) ∧ l.length ≤ 100000 ∧ ∀ p H', H p = none → Same H H' → H' p = some (.lst (natsV (l.length :: l))) → Q (.ref p) H'
theorem ok_block (T : Txt K mg t) : FnOk P w K mg base CX0 1 t.a_block t.fd_block ["cells"] (sp_block K) := by
  refine T.F_block.ok sc_block (fun vs H Q E h => ?_) (fun cdv A outer s H vs Q E hr h => ?_)
  · obtain ⟨c, l, rfl, _⟩ := h
    rfl
  · obtain ⟨c, l, rfl, hc, hl, q⟩ := h
    refine ⟨_, (@pss_one _ _ _ (@ps_ret _ _ _ _ (@pe_op _ _ _ _ _ _ _ _ op_plus (@pe_lstN _ _ _ _ (@pa_cons _ _ _ _ _ (@pe_callB _ _ _ _ _ _ _ _ _ (kcl_len K) (by rfl) T.z_len bb_len (@pa_cons _ _ _ _ _ (pv 0) (@pa_nil _) (by rfl)) (by decide) (by decide) (by rfl) (by rfl)) (@pa_nil _) (by rfl))) (pv 0)))), ?_⟩
    have sl : (1000000 : Nat) ≤ sizeLine := le_line (Nat.le_refl _)
    walk_at "go"
    refine i_lenL (SqL.of hc) ?_
    walk_at "run"
    intro p1 H1 f1 s1 e1
    walk_at "run"
    refine i_plusL e1 (s1 _ _ hc) (by rw [natsV_len]; simp; omega) ?_
    intro p2 H2 f2 s2 e2
    rw [natsV_len] at e2
    exact q p2 H2 (s1.free f2) (s1.trans s2) e2
def sp_common (K : PySem.W.Frag) : Sp := fun vs H Q _ => ∃ (a : Addr) (us : List V) (row : List (Nat × Nat)), vs = [.ref a] ∧ H a = some (.tup us) ∧ Tr.Ats H (row.map pairT) us [] ∧ 0 < row.length ∧ row.length ≤ 1000 ∧ ∀ v c H', Same H H' → IsC row c → (pairT c).At H' v [] → Q v H'
theorem ok_common_pair (T : Txt K mg t) : FnOk P w K mg base CX0 1 t.a_common_pair t.fd_common_pair ["shape"] (sp_common K) := by
  refine T.F_common_pair.ok sc_common_pair (fun vs H Q E h => ?_) (fun cdv A outer s H vs Q E hr h => ?_)
  · obtain ⟨a, us, row, rfl, _⟩ := h
    rfl
  · obtain ⟨a, us, row, rfl, ha, hu, h0, hl, q⟩ := h
    refine ⟨_, (@pss_cons _ _ _ _ _ (@ps_set _ _ 1 _ _ _ _ sc_common_pair.nd rfl (by first | exact Or.inl rfl | exact Or.inr rfl) (pe_tnew w.params) (by rfl) (by first | exact Or.inl rfl | exact Or.inr rfl))
      (@pss_cons _ _ _ _ _ (@ps_for _ _ _ _ _ _ _ _ PassesOwn.never rfl (kpi_tup K (pv 0)) (pg_name (i := 2) sc_common_pair.nd rfl (by first | exact Or.inl rfl | exact Or.inr rfl)) (@pss_one _ _ _ (ps_tput (P := w.params) rfl (by exact hr.units) (pv 1) (pv 2) (@pe_op _ _ _ _ _ _ _ _ op_plus (pe_tget2 (P := w.params) rfl (by exact hr.units) (pv 1) (pv 2) (@pe_int _ _ _ _) ⟨by rfl, by rfl, by rfl, by rfl⟩) (@pe_int _ _ _ _)) rfl)) (by intro _; rfl))
      (@pss_cons _ _ _ _ _ (@ps_set _ _ 3 _ _ _ _ sc_common_pair.nd rfl (by first | exact Or.inl rfl | exact Or.inr rfl) (@pe_callB _ _ _ _ _ _ _ _ _ (cl_maxV (P := w.params) rfl rfl) (by rfl) T.z_max bb_max (@pa_cons _ _ _ _ _ (pe_tvals (P := w.params) rfl (pv 1)) (@pa_nil _) (by rfl)) (by decide) (by decide) (by rfl) (by rfl)) (by rfl) (by first | exact Or.inl rfl | exact Or.inr rfl))
      (@pss_one _ _ _ (@ps_ret _ _ _ _ (@pe_ix _ _ _ _ _ _ _ (kix_list K) (pe_lc (Nt := ["pair"]) (Nf := ["counts", "most"]) (caps := [1, 3]) rfl (comp_ok (sc := defScope s_common_pair) rfl rfl (by decide +kernel) (by decide +kernel) (by decide +kernel) rfl (by decide +kernel)) (pi_td (P := w.params) rfl (pv 1)) (fun _ _ _ _ _ => (pg_name (i := 0) (show (["pair", "counts", "most"] : List Str).Nodup by decide +kernel) rfl (by first | exact Or.inl rfl | exact Or.inr rfl))) (fun _ _ _ _ _ => (@pts_one _ _ _ (@pt_cmpR _ _ _ _ _ _ _ _ op_eq (pe_tget (P := w.params) rfl (by exact hr.units) (pv 1) (pv 0) (fun _ _ => rfl)) (pv 2) (nomark _)))) (fun _ _ _ _ _ => (pv 0))) (@pe_int _ _ _ _) (fun _ _ => rfl))))))), ?_⟩
    have sl : (1000000 : Nat) ≤ sizeLine := le_line (Nat.le_refl _)
    have ul : us.length = row.length := by rw [hu.len, List.length_map]
    walk_at "go"
    intro d o fd hd
    walk_at "run"
    have s1 : Same H (upd H d o) := Same.new fd
    refine ⟨⟨_, SqT.of (s1 _ _ ha)⟩, for_tup (K := K) (a := a) (xs := us) (fun i σ H' => i ≤ row.length ∧ Same H H' ∧ DtAt w.params H' d ((cntL (row.take i)).map encC) ∧ ∃ y, σ = [some (.ref a), some (.ref d), y, none]) ⟨Nat.zero_le _, s1, hd, _, rfl⟩ (fun i σ H' _ ⟨_, s', _⟩ => SqT.of (s' _ _ ha)) ?_ ?_⟩
    · rintro i v σ H2 hv ⟨hi, s2, hD, y, rfl⟩
      obtain ⟨tx, hx1, hx2⟩ := ats_get0 hu hv
      rw [List.getElem?_map] at hx1
      obtain ⟨p, hp, rfl⟩ := Option.map_eq_some_iff.mp hx1
      have hi' : i < row.length := (List.getElem?_eq_some_iff.mp hp).1
      have htk : row.take (i + 1) = row.take i ++ [p] := by rw [List.take_add_one, hp]; rfl
      have hcl := cnt_len (row.take i)
      have hlt : (row.take i).length = i := by simp; omega
      have tk : TK H2 (pairT p) v := ⟨tr_tups hx2 s2.tups, by have := pairT_h p; omega⟩
      walk_at "run"
      refine ⟨d, _, rfl, hD, ?_⟩
      walk_at "run"
      refine ⟨_, pairT p, hD, tk, ?_⟩
      rw [cnt_val]
      have hcp := List.count_le_length (a := p) (l := row.take i)
      walk_at "run"
      refine ⟨d, _, pairT p, rfl, hD, tk, by rw [List.length_map]; omega, fun o' hD' => ?_⟩
      rw [show ((List.count p (row.take i) : Nat) : Int) + 1 = ((List.count p (row.take i) + 1 : Nat) : Int) by omega, cnt_put, ← htk] at hD'
      exact ⟨hi', s2.updNew fd, hD', _, rfl⟩
    · rintro σ H2 ⟨_, s2, hD, y, rfl⟩
      rw [ul, List.take_length] at hD
      have hc0' : 0 < (cntL row).length := by
        have : row[0] ∈ mets row := (mets_mem _ _).mpr (List.getElem_mem h0)
        have := List.length_pos_of_mem this
        simpa [cntL] using this
      have hcl := cnt_len row
      walk_at "run"
      refine ⟨d, _, rfl, hD, fun pv H3 f3 s3 e3 => ?_⟩
      walk_at "run"
      refine ⟨pv, d, _, (cntL row).map fun x => ((x.2 : Nat) : Int), rfl, e3, dt_same hD s3, by simp [encC], by simpa using hc0', fun b hb hmx => ?_⟩
      walk_at "run"
      refine ⟨d, _, rfl, dt_same hD s3, fun m o H4 hm hk fz => ?_⟩
      have s4 : Same H H4 := fun x ob e => hk x ob (ne_of_none e fd) (s3 _ _ (s2 _ _ e))
      have hml : m.length = (cntL row).length := by simpa using congrArg List.length hm
      have hmem : ∀ (j : Nat) x, m[j]? = some x → ∃ p, (mets row)[j]? = some p ∧ x.1 = pairT p ∧ x.2.2 = .int (row.count p : Nat) := fun j x hx => by
        have := congrArg (fun l => l[j]?) hm
        simp only [List.getElem?_map, hx, Option.map_some, cntL, List.map_map] at this
        obtain ⟨p, hp, e⟩ := Option.map_eq_some_iff.mp this.symm
        exact ⟨p, hp, (congrArg Prod.fst e).symm, (congrArg Prod.snd e).symm⟩
      refine cc_td (by omega) (fun i acc H' => H' = H4 ∧ acc.length ≤ i ∧ (∀ v, acc[0]? = some v → ∃ (j : Nat) (x : Tr × V × V), m[j]? = some x ∧ x.2.2 = .int b ∧ x.1.At H4 v [] ∧ ∀ (j' : Nat) (x' : Tr × V × V), j' < j → m[j']? = some x' → x'.2.2 ≠ .int b) ∧ ∀ (j : Nat) x, j < i → m[j]? = some x → x.2.2 = .int b → 0 < acc.length) ⟨rfl, Nat.zero_le _, by simp, fun j x h => absurd h (by omega)⟩ (fun i acc H' ⟨e, h, _⟩ => ⟨h, by rw [e]; exact fz.e⟩) ?_ ?_
      · rintro i x acc H' hx ⟨rfl, h1, h2, h3⟩
        have hxm := List.mem_of_getElem? hx
        obtain ⟨p, hp, e1, e2⟩ := hmem i x hx
        walk_at "run"
        refine ⟨d, _, x.1, _, rfl, fz.dt, fz.k x hxm, valV_get fz.n hx, ?_⟩
        rw [e2]
        walk_at "run"
        refine ite2 (fun hc => ?_) (fun hc => ?_)
        · walk_at "run"
          have hb : ((row.count p : Nat) : Int) = b := by simpa using hc
          refine ⟨rfl, by simp; omega, fun v hv => ?_, fun j x' _ _ _ => by simp⟩
          cases acc with
          | nil =>
            obtain rfl : x.2.1 = v := by simpa using hv
            exact ⟨i, x, hx, by rw [e2, hb], (fz.k x hxm).1, fun j' x' hj' hx' z => absurd (h3 j' x' hj' hx' z) (by simp)⟩
          | cons a0 acc => exact h2 v (by simpa using hv)
        · refine ⟨rfl, by omega, h2, fun j x' hj hx' e => ?_⟩
          by_cases hji : j = i
          · subst hji
            rw [hx] at hx'
            cases hx'
            rw [e2] at e
            injection e with e
            exact absurd (decide_eq_true e) (by simpa using hc)
          · exact h3 j x' (by omega) hx' e
      · rintro acc H' ⟨rfl, h1, h2, h3⟩
        have hpos : 0 < acc.length := by
          obtain ⟨y, hy, e⟩ := List.mem_map.mp hb
          obtain ⟨j, hj, rfl⟩ := List.mem_iff_getElem.mp hy
          have hjm : j < m.length := by omega
          refine h3 j m[j] hjm (List.getElem?_eq_getElem hjm) ?_
          have := congrArg (fun l => l[j]?) hm
          simp only [List.getElem?_map, List.getElem?_eq_getElem hj, List.getElem?_eq_getElem hjm, Option.map_some, encC, Option.some.injEq, Prod.mk.injEq] at this
          rw [this.2, e]
        intro p5 H5 f5 s5 e5
        walk_at "run"
        obtain ⟨j, x, hx, hxb, hat, hfirst⟩ := h2 acc[0] (List.getElem?_eq_getElem hpos)
        obtain ⟨c, hc, e1, e2⟩ := hmem j x hx
        rw [e1] at hat
        have hcb : ((row.count c : Nat) : Int) = b := by
          rw [e2] at hxb
          injection hxb
        have hmost : ∀ p ∈ row, row.count p ≤ row.count c := fun p hp => by
          have := hmx ((row.count p : Nat) : Int) (List.mem_map_of_mem (f := fun x : (Nat × Nat) × Nat => ((x.2 : Nat) : Int)) (List.mem_map_of_mem (f := fun p => (p, row.count p)) ((mets_mem _ _).mpr hp)))
          omega
        refine i_ixL (SqL.of e5) (v := acc[0]) (atI_nat (j := 0) (List.getElem?_eq_getElem hpos)) ?_
        refine q _ c H5 (s4.trans s5) ⟨(mets_mem _ _).mp (List.mem_of_getElem? hc), hmost, j, hc, fun i p hij hp => ?_⟩ (hat.same s5)
        have hjm : j < m.length := (List.getElem?_eq_some_iff.mp hx).1
        obtain ⟨p', hp', _, e4⟩ := hmem i m[i] (List.getElem?_eq_getElem (by omega))
        rw [hp] at hp'
        cases hp'
        have hne := hfirst i m[i] hij (List.getElem?_eq_getElem (by omega))
        rw [e4] at hne
        have := hmost p ((mets_mem _ _).mp (List.mem_of_getElem? hp))
        rcases Nat.lt_or_ge (row.count p) (row.count c) with h | h
        · exact h
        · exact absurd (by rw [← hcb, show row.count p = row.count c by omega]) hne
def excF (c : Nat × Nat) : List (Nat × Nat) → Nat → List Tri
  | [], _ => []
  | p :: ps, n => (if p = c then [] else [(n, p)]) ++ excF c ps (n + 1)
theorem excF_snoc (c p : Nat × Nat) : ∀ (row : List (Nat × Nat)) (n : Nat), excF c (row ++ [p]) n = excF c row n ++ (if p = c then [] else [(n + row.length, p)])
  | [], n => by simp [excF]
  | x :: row, n => by
    show (if x = c then [] else [(n, x)]) ++ excF c (row ++ [p]) (n + 1) = ((if x = c then [] else [(n, x)]) ++ excF c row (n + 1)) ++ _
    rw [excF_snoc c p row (n + 1), List.append_assoc, show n + 1 + row.length = n + (x :: row).length by simp; omega]
theorem excF_mem (c : Nat × Nat) : ∀ (row : List (Nat × Nat)) (n : Nat) (t : Tri), t ∈ excF c row n → n ≤ t.1 ∧ t.2 ∈ row
  | [], n, t, h => by simp [excF] at h
  | x :: row, n, t, h => by
    rcases List.mem_append.mp h with h | h
    · split at h
      · simp at h
      · rw [List.mem_singleton.mp h]; simp
    · obtain ⟨h1, h2⟩ := excF_mem c row (n + 1) t h
      exact ⟨by omega, List.mem_cons_of_mem _ h2⟩
theorem excF_len (c : Nat × Nat) : ∀ (row : List (Nat × Nat)) (n : Nat), (excF c row n).length ≤ row.length
  | [], n => by simp [excF]
  | x :: row, n => by
    have := excF_len c row (n + 1)
    show ((if x = c then [] else [(n, x)]) ++ excF c row (n + 1)).length ≤ _
    rw [List.length_append, List.length_cons]
    split
    · simp; omega
    · simp; omega
theorem excF_nd (c : Nat × Nat) : ∀ (row : List (Nat × Nat)) (n : Nat), ((excF c row n).map (·.1)).Nodup
  | [], n => by simp [excF]
  | x :: row, n => by
    have ih := excF_nd c row (n + 1)
    show (((if x = c then [] else [(n, x)]) ++ excF c row (n + 1)).map (·.1)).Nodup
    split
    · exact ih
    · rw [List.singleton_append, List.map_cons, List.nodup_cons]
      refine ⟨fun hm => ?_, ih⟩
      obtain ⟨t, ht, e⟩ := List.mem_map.mp hm
      have := (excF_mem c row (n + 1) t ht).1
      simp only at e
      omega
theorem excF_find (c : Nat × Nat) : ∀ (row : List (Nat × Nat)) (n j : Nat) (p : Nat × Nat), row[j]? = some p → (match (excF c row n).find? (fun t => t.1 == n + j) with | some t => t.2 | none => c) = p
  | [], n, j, p, h => by simp at h
  | x :: row, n, 0, p, h => by
    obtain rfl : x = p := by simpa using h
    show (match ((if x = c then [] else [(n, x)]) ++ excF c row (n + 1)).find? (fun t => t.1 == n + 0) with | some t => t.2 | none => c) = x
    split
    · next hx =>
      by_cases hc : x = c
      · rw [if_pos hc] at hx
        exfalso
        have hm := List.mem_of_find?_eq_some hx
        have h1 := List.find?_some hx
        have h2 := (excF_mem c row (n + 1) _ hm).1
        simp at h1
        omega
      · rw [if_neg hc, List.singleton_append, List.find?_cons] at hx
        simp at hx
        rw [← hx]
    · next hx =>
      by_cases hc : x = c
      · exact hc.symm
      · rw [if_neg hc, List.singleton_append, List.find?_cons] at hx
        simp at hx
  | x :: row, n, j + 1, p, h => by
    have ih := excF_find c row (n + 1) j p (by simpa using h)
    rw [show n + 1 + j = n + (j + 1) by omega] at ih
    show (match ((if x = c then [] else [(n, x)]) ++ excF c row (n + 1)).find? (fun t => t.1 == n + (j + 1)) with | some t => t.2 | none => c) = p
    have e : ((if x = c then [] else [(n, x)]) ++ excF c row (n + 1)).find? (fun t => t.1 == n + (j + 1)) = (excF c row (n + 1)).find? (fun t => t.1 == n + (j + 1)) := by
      by_cases hc : x = c
      · rw [if_pos hc, List.nil_append]
      · rw [if_neg hc, List.singleton_append, List.find?_cons, show (n == n + (j + 1)) = false by simp]
    rw [e]
    exact ih
theorem pick_exc {c p : Nat × Nat} {row : List (Nat × Nat)} {j : Nat} (h : row[j]? = some p) : pick (c, excF c row 0) j = p := by
  have := excF_find c row 0 j p h
  rw [Nat.zero_add] at this
  unfold pick
  exact this
theorem flat3_snoc (ts : List Tri) (t : Tri) : flat3 (ts ++ [t]) = flat3 ts ++ [t.1, t.2.1, t.2.2] := by simp [flat3]
def sp_shape (K : PySem.W.Frag) : Sp := fun vs H Q _ => ∃ (a : Addr) (us : List V) (row : List (Nat × Nat)), vs = [.ref a] ∧ H a = some (.tup us) ∧ Tr.Ats H (row.map pairT) us [] ∧ 0 < row.length ∧ row.length ≤ 1000 ∧ ∀ p c H', H p = none → Same H H' → IsC row c → H' p = some (.lst (natsV (shL (c, excF c row 0)))) → Q (.ref p) H'
theorem ok_shape_cells (T : Txt K mg t) : FnOk P w K mg base CX0 2 t.a_shape_cells t.fd_shape_cells ["shape"] (sp_shape K) := by
  have G_common_pair := ok_common_pair (P := P) (w := w) (base := base) T
  refine T.F_shape_cells.ok sc_shape_cells (fun vs H Q E h => ?_) (fun cdv A outer s H vs Q E hr h => ?_)
  · obtain ⟨a, us, row, rfl, _⟩ := h
    rfl
  · obtain ⟨a, us, row, rfl, ha, hu, h0, hl, q⟩ := h
    refine ⟨_, (@pss_cons _ _ _ _ _ (@ps_set _ _ 1 _ _ _ _ sc_shape_cells.nd rfl (by first | exact Or.inl rfl | exact Or.inr rfl) (@pe_call _ _ _ _ _ _ _ _ _ _ _ _ _ _ _ _ G_common_pair (hr.mono (by omega)) rfl T.m_common_pair T.F_common_pair.kp T.b_common_pair .nil pass0 (@pa_cons _ _ _ _ _ (pv 0) (@pa_nil _) (by rfl)) (by decide) (by rfl) (by rfl)) (by rfl) (by first | exact Or.inl rfl | exact Or.inr rfl))
      (@pss_cons _ _ _ _ _ (@ps_set _ _ 2 _ _ _ _ sc_shape_cells.nd rfl (by first | exact Or.inl rfl | exact Or.inr rfl) (@pe_lstN _ _ _ _ (@pa_cons _ _ _ _ _ (@pe_ix _ _ _ _ _ _ _ (kix_tup K) (pv 1) (@pe_int _ _ _ _) (fun _ _ => rfl)) (@pa_cons _ _ _ _ _ (@pe_ix _ _ _ _ _ _ _ (kix_tup K) (pv 1) (@pe_int _ _ _ _) (fun _ _ => rfl)) (@pa_nil _) (by rfl)) (by rfl))) (by rfl) (by first | exact Or.inl rfl | exact Or.inr rfl))
      (@pss_cons _ _ _ _ _ (@ps_for _ _ _ _ _ _ _ _ PassesOwn.never rfl (pi_enumT K rfl T.z_enumerate (@pa_cons _ _ _ _ _ (pv 0) (@pa_nil _) (by rfl))) (kpg_tup K (n := 2) rfl (pgs_cons (pg_name (i := 3) sc_shape_cells.nd rfl (by first | exact Or.inl rfl | exact Or.inr rfl)) (pgs_cons (pg_name (i := 4) sc_shape_cells.nd rfl (by first | exact Or.inl rfl | exact Or.inr rfl)) (@pgs_nil _)))) (@pss_one _ _ _ (@ps_if _ _ _ _ _ _ _ _ (@pt_cmpR _ _ _ _ _ _ _ _ (kop_neFK K (by exact hr.units)) (pv 4) (pv 1) (nomark _)) (@pss_one _ _ _ (@ps_expr _ _ _ _ (@kpe_bm _ K _ _ _ _ _ _ _ _ _ _ _ PySem.F.plainAttrs_list PySem.F.slot_list_extend PySem.F.type_list_extend mt_extend (pv 2) (@pa_cons _ _ _ _ _ (@pe_lstN _ _ _ _ (@pa_cons _ _ _ _ _ (pv 3) (@pa_cons _ _ _ _ _ (@pe_ix _ _ _ _ _ _ _ (kix_tup K) (pv 4) (@pe_int _ _ _ _) (fun _ _ => rfl)) (@pa_cons _ _ _ _ _ (@pe_ix _ _ _ _ _ _ _ (kix_tup K) (pv 4) (@pe_int _ _ _ _) (fun _ _ => rfl)) (@pa_nil _) (by rfl)) (by rfl)) (by rfl))) (@pa_nil _) (by rfl)) (by rfl) (by rfl) (by rfl) (by rfl) (by rfl) (by rfl)) (by rfl))) (@pss_nil _))) (by intro _; rfl))
      (@pss_one _ _ _ (@ps_ret _ _ _ _ (pv 2)))))), ?_⟩
    have sl : (1000000 : Nat) ≤ sizeLine := le_line (Nat.le_refl _)
    have ul : us.length = row.length := by rw [hu.len, List.length_map]
    walk_at "go"
    refine ⟨a, us, row, rfl, ha, hu, h0, hl, fun v c H1 s1 hc hv => ?_⟩
    obtain ⟨ca, rfl, hca⟩ := pair_at hv
    walk_at "run"
    refine i_ixT (SqT.of hca) (atI_nat (j := 0) rfl) ?_
    walk_at "run"
    refine i_ixT (SqT.of hca) (atI_nat (j := 1) rfl) ?_
    walk_at "run"
    intro pl H2 f2 s2 e2
    walk_at "run"
    have s02 := s1.trans s2
    refine ⟨⟨_, SqT.of (s02 _ _ ha)⟩, for_enumT (K := K) (a := a) (xs := us) (fun i σ H' => i ≤ row.length ∧ Same H1 H' ∧ H' pl = some (.lst (natsV (shL (c, excF c (row.take i) 0)))) ∧ ∃ y z, σ = [some (.ref a), some (.ref ca), some (.ref pl), y, z]) ⟨Nat.zero_le _, s2, by rw [e2]; rfl, _, _, rfl⟩ (fun i σ H' _ ⟨_, s', _⟩ => SqT.of ((s1.trans s') _ _ ha)) ?_ ?_⟩
    · rintro i v σ H3 p3 H4 hv' ⟨hi, s3, e3, y, z, rfl⟩ s4 e4
      obtain ⟨tx, hx1, hx2⟩ := ats_get0 (hu.same (s1.trans (s3.trans s4))) hv'
      rw [List.getElem?_map] at hx1
      obtain ⟨p, hp, rfl⟩ := Option.map_eq_some_iff.mp hx1
      have hi' : i < row.length := (List.getElem?_eq_some_iff.mp hp).1
      have htk : row.take (i + 1) = row.take i ++ [p] := by rw [List.take_add_one, hp]; rfl
      obtain ⟨va, rfl, hva⟩ := pair_at hx2
      have s14 := s3.trans s4
      have hle := excF_len c (row.take i) 0
      have hlt : (row.take i).length = i := by simp; omega
      refine i_asgT (SqT.of e4) rfl ?_
      walk_at "run"
      refine i_neFK (ts := [.int (p.1 : Nat), .int (p.2 : Nat)]) (rs := [.int (c.1 : Nat), .int (c.2 : Nat)]) (hx2.toK K) ((hv.same s14).toK K) (by have := pairT_h p; unfold pairT at this; omega) (by have := pairT_h c; unfold pairT at this; omega) ?_
      walk_at "run"
      rw [htk, excF_snoc, hlt, Nat.zero_add]
      have hlf := flat3_len (excF c (row.take i) 0)
      refine ite2 (fun hne => ?_) (fun hne => ?_)
      · have hpc : ¬ p = c := fun z => by subst z; simp at hne
        rw [if_neg hpc]
        walk_at "run"
        refine i_tyL (SqL.of (s4 _ _ e3)) ?_
        walk_at "run"
        refine i_ixT (SqT.of hva) (atI_nat (j := 0) rfl) ?_
        walk_at "run"
        refine i_ixT (SqT.of hva) (atI_nat (j := 1) rfl) ?_
        walk_at "run"
        intro p5 H5 f5 s5 e5
        walk_at "run"
        refine i_extend ((s4.trans s5) _ _ e3) e5 (by rw [natsV_len]; simp only [shL, List.length_cons, List.length_nil]; omega) ?_
        refine ⟨hi', (s14.trans s5).updNew f2, ?_, _, _, rfl⟩
        rw [upd_same, show shL (c, excF c (row.take i) 0 ++ [(i, p)]) = shL (c, excF c (row.take i) 0) ++ [i, p.1, p.2] by simp [shL, flat3_snoc]]
        simp [natsV]
      · have hpc : p = c := Classical.byContradiction fun z => hne (by
          have : ¬ pairT p = pairT c := fun h => z (pairT_inj h)
          unfold pairT at this
          rw [decide_eq_false this]; rfl)
        rw [if_pos hpc, List.append_nil]
        walk_at "run"
        exact ⟨hi', s14, s4 _ _ e3, _, _, rfl⟩
    · rintro σ H3 ⟨_, s3, e3, y, z, rfl⟩
      rw [ul, List.take_length] at e3
      walk_at "run"
      exact q pl c H3 (s1.free f2) (s1.trans s3) hc e3
abbrev Row := List Str × Nat
abbrev Room_ := Bool × List Row
def rowW (r : Row) : Tw := .tup [.lst (r.1.map strW), .sc (.int (r.2 : Nat))]
def roomW (r : Room_) : Tw := .tup [.sc (.bl r.1), .lst (r.2.map rowW)]
theorem row_w {H : Hp} {r : Row} {v : V} {fs : List Addr} : (rowW r).At H v fs ↔ ∃ k sl, v = .ref k ∧ H k = some (.tup [.ref sl, .int (r.2 : Nat)]) ∧ H sl = some (.lst (strsV r.1)) ∧ fs = [sl] := by
  simp only [rowW, Tw.At, Tw.Ats]
  constructor
  · rintro ⟨a, vs, rfl, e, v, ws, f, g, rfl, rfl, ⟨sl, us, gs, rfl, e2, h, rfl⟩, v', ws', f', g', rfl, rfl, ⟨rfl, _, rfl⟩, rfl, rfl⟩
    obtain ⟨rfl, rfl⟩ := strs_w.mp h
    exact ⟨a, sl, rfl, e, e2, rfl⟩
  · rintro ⟨k, sl, rfl, e, e2, rfl⟩
    exact ⟨k, _, rfl, e, _, _, [sl], [], rfl, rfl, ⟨sl, _, [], rfl, e2, strs_w.mpr ⟨rfl, rfl⟩, rfl⟩, _, _, [], [], rfl, rfl, ⟨rfl, True.intro, rfl⟩, rfl, rfl⟩
theorem room_w {H : Hp} {r : Room_} {v : V} {fs : List Addr} : (roomW r).At H v fs ↔ ∃ q g ps gs, v = .ref q ∧ H q = some (.tup [.bl r.1, .ref g]) ∧ H g = some (.lst ps) ∧ Tw.Ats H (r.2.map rowW) ps gs ∧ fs = g :: gs := by
  simp only [roomW, Tw.At, Tw.Ats]
  constructor
  · rintro ⟨a, vs, rfl, e, v, ws, f, g, rfl, rfl, ⟨rfl, _, rfl⟩, v', ws', f', g', rfl, rfl, ⟨sl, us, gs, rfl, e2, h, rfl⟩, rfl, rfl⟩
    exact ⟨a, sl, us, gs, rfl, e, e2, h, by simp⟩
  · rintro ⟨q, g, ps, gs, rfl, e, e2, h, rfl⟩
    exact ⟨q, _, rfl, e, _, _, [], g :: gs, rfl, rfl, ⟨rfl, True.intro, rfl⟩, _, _, g :: gs, [], rfl, by simp, ⟨g, ps, gs, rfl, e2, h, rfl⟩, rfl, rfl⟩
structure TabAt (H : Hp) (v : V) (a b c : Addr) (es : List Ev) (sy : List Str) (rs : List Room_) (gs : List Addr) : Prop where
  ex : ∃ t us rvs, v = .ref t ∧ H t = some (.tup [.ref a, .ref b, .ref c]) ∧ H a = some (.lst us) ∧ Tr.Ats H (es.map Ev.tr) us [] ∧ H b = some (.lst (strsV sy)) ∧ H c = some (.lst rvs) ∧ Tw.Ats H (rs.map roomW) rvs gs
theorem TabAt.same {H H' : Hp} {v : V} {a b c : Addr} {es : List Ev} {sy : List Str} {rs : List Room_} {gs : List Addr} (h : TabAt H v a b c es sy rs gs) (s : Same H H') : TabAt H' v a b c es sy rs gs := by
  obtain ⟨t, us, rvs, h1, h2, h3, h4, h5, h6, h7⟩ := h.ex
  exact ⟨t, us, rvs, h1, s _ _ h2, s _ _ h3, h4.same s, s _ _ h5, s _ _ h6, h7.same s⟩
structure TabOk (es : List Ev) (sy : List Str) (rs : List Room_) : Prop where
  ne : es.length ≤ 20
  ns : sy.length ≤ 20
  nr : rs.length ≤ 100
  ok : ∀ r ∈ rs, r.2.length = es.length ∧ ∀ x ∈ r.2, x.2 < rs.length ∧ x.1.length ≤ 20
theorem strs_tr {H : Hp} : ∀ ss : List Str, Tr.Ats H (ss.map Tr.str) (strsV ss) []
  | [] => by simp [strsV, Tr.Ats]
  | s :: ss => ats_cons0.mpr ⟨_, _, rfl, str_at0, strs_tr ss⟩
theorem strs_h : ∀ ss : List Str, Tr.hs (ss.map Tr.str) ≤ 1
  | [] => by simp [Tr.hs]
  | s :: ss => by
    have := strs_h ss
    simp only [List.map_cons, Tr.hs, Tr.h]
    omega
def sT (s : List Str) : Tr := .tup (s.map Tr.str)
theorem strsT_inj : ∀ {a b : List Str}, a.map Tr.str = b.map Tr.str → a = b
  | [], [], _ => rfl
  | [], _ :: _, h => by simp at h
  | _ :: _, [], h => by simp at h
  | x :: a, y :: b, h => by
    simp only [List.map_cons, List.cons.injEq, Tr.str.injEq] at h
    rw [h.1, strsT_inj h.2]
theorem sT_inj {a b : List Str} (h : sT a = sT b) : a = b := by
  unfold sT at h
  injection h with h
  exact strsT_inj h
theorem sT_h (s : List Str) : (sT s).h ≤ 8 := by
  have := strs_h s
  simp only [sT, Tr.h]
  omega
theorem sT_to {H : Hp} {a : Addr} {s : List Str} (h : H a = some (.tup (strsV s))) : (sT s).At H (.ref a) [] := at_tup0.mpr ⟨a, _, rfl, h, strs_tr s⟩
theorem strs_of {H : Hp} : ∀ {ss : List Str} {us : List V}, Tr.Ats H (ss.map Tr.str) us [] → us = strsV ss
  | [], us, h => ats_nil0.mp h
  | s :: ss, us, h => by
    obtain ⟨u, w1, rfl, a1, h2⟩ := ats_cons0.mp h
    cases at_str0.mp a1
    rw [strs_of h2]
    rfl
theorem sT_of {H : Hp} {v : V} {s : List Str} (h : (sT s).At H v []) : ∃ a, v = .ref a ∧ H a = some (.tup (strsV s)) := by
  obtain ⟨a, vs, rfl, e, h2⟩ := at_tup0.mp h
  rw [strs_of h2] at e
  exact ⟨a, rfl, e⟩
def sayL (sy : List Str) (rs : List Room_) : List (List Str) := sy :: rs.flatMap fun r => r.2.map (·.1)
theorem fm_len {α β : Type} {f : α → List β} {n : Nat} : ∀ {l : List α}, (∀ x ∈ l, (f x).length ≤ n) → (l.flatMap f).length ≤ l.length * n
  | [], _ => by simp
  | x :: l, h => by
    have h1 := h x (by simp)
    have h2 := fm_len (f := f) (n := n) (l := l) fun y hy => h y (by simp [hy])
    rw [List.flatMap_cons, List.length_append, List.length_cons, Nat.add_mul]
    omega
def sp_sayings (K : PySem.W.Frag) : Sp := fun vs H Q _ => ∃ (v : V) (a b c : Addr) (es : List Ev) (sy : List Str) (rs : List Room_) (gs : List Addr), vs = [v] ∧ TabAt H v a b c es sy rs gs ∧ TabOk es sy rs ∧ ∀ p us H', H p = none → Same H H' → H' p = some (.lst us) → Tr.Ats H' ((sayL sy rs).map sT) us [] → Q (.ref p) H'
theorem ok_sayings_of (T : Txt K mg t) : FnOk P w K mg base CX0 1 t.a_sayings_of t.fd_sayings_of ["table"] (sp_sayings K) := by
  refine T.F_sayings_of.ok sc_sayings_of (fun vs H Q E h => ?_) (fun cdv A outer s H vs Q E hr h => ?_)
  · obtain ⟨v, a, b, c, es, sy, rs, gs, rfl, _⟩ := h
    rfl
  · obtain ⟨v, a, b, c, es, sy, rs, gs, rfl, hT, ok, q⟩ := h
    refine ⟨_, (@pss_cons _ _ _ _ _ (@ps_set _ _ 1 _ _ _ _ sc_sayings_of.nd rfl (by first | exact Or.inl rfl | exact Or.inr rfl) (@pe_lstN _ _ _ _ (@pa_cons _ _ _ _ _ (@pe_callTy _ _ _ _ _ _ _ _ _ (kcl_tuple K) (by rfl) T.z_tuple bb_tuple (@pa_cons _ _ _ _ _ (@pe_ix _ _ _ _ _ _ _ (kix_tup K) (pv 0) (@pe_int _ _ _ _) (fun _ _ => rfl)) (@pa_nil _) (by rfl)) (by decide) (by decide) (by rfl) (by rfl)) (@pa_nil _) (by rfl))) (by rfl) (by first | exact Or.inl rfl | exact Or.inr rfl))
      (@pss_cons _ _ _ _ _ (@ps_for _ _ _ _ _ _ _ _ PassesOwn.never rfl (kpi_list K (@pe_ix _ _ _ _ _ _ _ (kix_tup K) (pv 0) (@pe_int _ _ _ _) (fun _ _ => rfl))) (pg_name (i := 2) sc_sayings_of.nd rfl (by first | exact Or.inl rfl | exact Or.inr rfl)) (@pss_one _ _ _ (@ps_expr _ _ _ _ (@kpe_bm _ K _ _ _ _ _ _ _ _ _ _ _ PySem.F.plainAttrs_list PySem.F.slot_list_extend PySem.F.type_list_extend mt_extend (pv 1) (@pa_cons _ _ _ _ _ (pe_lc (Nt := ["said", "way"]) (Nf := []) (caps := []) rfl (comp_ok (sc := defScope s_sayings_of) rfl rfl (by decide +kernel) (by decide +kernel) (by decide +kernel) rfl (by decide +kernel)) (kpi_list K (@pe_ix _ _ _ _ _ _ _ (kix_tup K) (pv 2) (@pe_int _ _ _ _) (fun _ _ => rfl))) (fun _ _ _ _ _ => (kpg_tup K (n := 2) rfl (pgs_cons (pg_name (i := 0) (show (["said", "way"] : List Str).Nodup by decide +kernel) rfl (by first | exact Or.inl rfl | exact Or.inr rfl)) (pgs_cons (pg_name (i := 1) (show (["said", "way"] : List Str).Nodup by decide +kernel) rfl (by first | exact Or.inl rfl | exact Or.inr rfl)) (@pgs_nil _))))) (fun _ _ _ _ _ => (@pts_nil _)) (fun _ _ _ _ _ => (@pe_callTy _ _ _ _ _ _ _ _ _ (kcl_tuple K) (by rfl) T.z_tuple bb_tuple (@pa_cons _ _ _ _ _ (pv 0) (@pa_nil _) (by rfl)) (by decide) (by decide) (by rfl) (by rfl)))) (@pa_nil _) (by rfl)) (by rfl) (by rfl) (by rfl) (by rfl) (by rfl) (by rfl)) (by rfl))) (by intro _; rfl))
      (@pss_one _ _ _ (@ps_ret _ _ _ _ (pv 1))))), ?_⟩
    have sl : (1000000 : Nat) ≤ sizeLine := le_line (Nat.le_refl _)
    obtain ⟨tt, us, rvs, rfl, h1, h2, h3, h4, h5, h6⟩ := hT.ex
    have rl : rvs.length = rs.length := by rw [h6.len, List.length_map]
    walk_at "go"
    refine i_ixT (SqT.of h1) (atI_nat (j := 1) rfl) ?_
    walk_at "run"
    refine i_tupleL (SqL.of h4) ?_
    intro p1 H1 f1 s1 e1
    walk_at "run"
    intro pf H2 f2 s2 e2
    walk_at "run"
    have s02 := s1.trans s2
    refine i_ixT (SqT.of (s02 _ _ h1)) (atI_nat (j := 2) rfl) ?_
    have frl : ∀ i, ((rs.take i).flatMap fun r => r.2.map (·.1)).length ≤ 2000 := fun i => by
      have h := fm_len (f := fun r : Room_ => r.2.map (·.1)) (n := 20) (l := rs.take i) fun r hr => by
        have := (ok.ok r (List.mem_of_mem_take hr)).1
        have := ok.ne
        simp
        omega
      have := ok.nr
      have hle : (rs.take i).length ≤ 100 := by simp; omega
      have := Nat.mul_le_mul_right 20 hle
      omega
    refine ⟨c, rfl, ⟨_, SqL.of (s02 _ _ h5)⟩, for_list (K := K) (a := c) (xs := rvs) (fun i σ H' => i ≤ rs.length ∧ Same H1 H' ∧ (∃ ws, H' pf = some (.lst ws) ∧ Tr.Ats H' ((sayL sy (rs.take i)).map sT) ws []) ∧ ∃ y, σ = [some (.ref tt), some (.ref pf), y]) ⟨Nat.zero_le _, s2, ⟨_, e2, ats_cons0.mpr ⟨_, _, rfl, sT_to (s2 _ _ e1), ats_nil0.mpr rfl⟩⟩, _, rfl⟩ (fun i σ H' _ ⟨_, s', _⟩ => SqL.of ((s1.trans s') _ _ h5)) ?_ ?_⟩
    · rintro i v σ H3 hv ⟨hi, s3, ⟨ws, e3, hw⟩, y, rfl⟩
      have s03 := s1.trans s3
      obtain ⟨tx, fx, hx1, hx2, _⟩ := (h6.same s03).get i v hv
      rw [List.getElem?_map] at hx1
      obtain ⟨r, hr, rfl⟩ := Option.map_eq_some_iff.mp hx1
      obtain ⟨q1, g, ps, gs1, rfl, k1, k2, k3, rfl⟩ := room_w.mp hx2
      have hi' : i < rs.length := (List.getElem?_eq_some_iff.mp hr).1
      have htk : rs.take (i + 1) = rs.take i ++ [r] := by rw [List.take_add_one, hr]; rfl
      have pl : ps.length = r.2.length := by rw [k3.len, List.length_map]
      have hwl : ws.length ≤ 2001 := by
        have := frl i
        rw [hw.len, List.length_map]
        simp only [sayL, List.length_cons]
        omega
      have hrl : r.2.length ≤ 20 := by rw [(ok.ok r (List.mem_of_getElem? hr)).1]; exact ok.ne
      walk_at "run"
      refine i_tyL (SqL.of e3) ?_
      walk_at "run"
      refine i_ixT (SqT.of k1) (atI_nat (j := 1) rfl) ?_
      refine ⟨g, rfl, ⟨_, SqL.of k2⟩, cc_pairs (xs := ps) (by omega) (fun i acc H' => i ≤ r.2.length ∧ acc.length = i ∧ Same H3 H' ∧ Tr.Ats H' (((r.2.take i).map (·.1)).map sT) acc []) ⟨Nat.zero_le _, rfl, Same.refl _, ats_nil0.mpr rfl⟩ (fun i acc H' ⟨_, e, s', _⟩ => ⟨by omega, SqL.of (s' _ _ k2)⟩) ?_ ?_⟩
      · rintro j x acc H4 hx ⟨hj, ea, s4, hat⟩
        obtain ⟨tx2, fx2, hy1, hy2, _⟩ := (k3.same s4).get j x hx
        rw [List.getElem?_map] at hy1
        obtain ⟨w0, hw0, rfl⟩ := Option.map_eq_some_iff.mp hy1
        obtain ⟨k, sl', rfl, hk, hsl', rfl⟩ := row_w.mp hy2
        refine ⟨k, _, _, rfl, SqT.of hk, ?_⟩
        walk_at "run"
        refine i_tupleL (SqL.of hsl') ?_
        intro p5 H5 f5 s5 e5
        refine ⟨(List.getElem?_eq_some_iff.mp hw0).1, by simp [ea], s4.trans s5, ?_⟩
        rw [List.take_add_one, hw0, show r.2.take j ++ (some w0).toList = r.2.take j ++ [w0] from rfl, List.map_append, List.map_append]
        exact ats_app0.mpr ⟨_, _, rfl, hat.same s5, ats_cons0.mpr ⟨_, _, rfl, sT_to e5, ats_nil0.mpr rfl⟩⟩
      · rintro acc H4 ⟨_, ea, s4, hat⟩ p5 H5 f5 s5 e5
        rw [pl, List.take_length] at hat
        have s35 := s4.trans s5
        walk_at "run"
        refine i_extend (s35 _ _ e3) e5 (by omega) ?_
        refine ⟨hi', (s3.trans s35).updNew f2, ⟨_, upd_same, ?_⟩, _, rfl⟩
        rw [htk, show sayL sy (rs.take i ++ [r]) = sayL sy (rs.take i) ++ r.2.map (·.1) by simp [sayL], List.map_append]
        exact ats_app0.mpr ⟨_, _, rfl, tr_tups_s (hw.same s35) (Tups.upd (s35 _ _ e3)), tr_tups_s (hat.same s5) (Tups.upd (s35 _ _ e3))⟩
    · rintro σ H3 ⟨_, s3, ⟨ws, e3, hw⟩, y, rfl⟩
      rw [rl, List.take_length] at hw
      walk_at "run"
      exact q pf ws H3 (s1.free f2) (s1.trans s3) e3 hw
def PairsOf (l : List (List Str)) (r : Room_) (row : List (Nat × Nat)) : Prop := row.length = r.2.length ∧ ∀ (j : Nat) (x : Row), r.2[j]? = some x → ∃ n, row[j]? = some (n, x.2) ∧ l[n]? = some x.1
def rT (r : List (Nat × Nat)) : Tr := .tup (r.map pairT)
def sp_pairs (K : PySem.W.Frag) (P : Params) : Sp := fun vs H Q _ => ∃ (v : V) (d : Addr) (r : Room_) (fs : List Addr) (l : List (List Str)), vs = [v, .ref d] ∧ (roomW r).At H v fs ∧ DtAt P H d (numd sT l) ∧ l.Nodup ∧ r.2.length ≤ 100 ∧ (∀ x ∈ r.2, x.1 ∈ l) ∧ ∀ v' row H', Same H H' → (rT row).At H' v' [] → PairsOf l r row → Q v' H'
theorem ok_pairs_of (T : Txt K mg t) : FnOk P w K mg base CX0 1 t.a_pairs_of t.fd_pairs_of ["room", "sayings"] (sp_pairs K w.params) := by
  refine T.F_pairs_of.ok sc_pairs_of (fun vs H Q E h => ?_) (fun cdv A outer s H vs Q E hr h => ?_)
  · obtain ⟨v, d, r, fs, l, rfl, _⟩ := h
    rfl
  · obtain ⟨v, d, r, fs, l, rfl, hv, hD, nd, hl, hin, q⟩ := h
    refine ⟨_, (@pss_one _ _ _ (@ps_ret _ _ _ _ (@pe_callTy _ _ _ _ _ _ _ _ _ (kcl_tuple K) (by rfl) T.z_tuple bb_tuple (@pa_cons _ _ _ _ _ (pe_lc (Nt := ["said", "way"]) (Nf := ["sayings"]) (caps := [1]) rfl (comp_ok (sc := defScope s_pairs_of) rfl rfl (by decide +kernel) (by decide +kernel) (by decide +kernel) rfl (by decide +kernel)) (kpi_list K (@pe_ix _ _ _ _ _ _ _ (kix_tup K) (pv 0) (@pe_int _ _ _ _) (fun _ _ => rfl))) (fun _ _ _ _ _ => (kpg_tup K (n := 2) rfl (pgs_cons (pg_name (i := 0) (show (["said", "way", "sayings"] : List Str).Nodup by decide +kernel) rfl (by first | exact Or.inl rfl | exact Or.inr rfl)) (pgs_cons (pg_name (i := 1) (show (["said", "way", "sayings"] : List Str).Nodup by decide +kernel) rfl (by first | exact Or.inl rfl | exact Or.inr rfl)) (@pgs_nil _))))) (fun _ _ _ _ _ => (@pts_nil _)) (fun _ _ _ _ _ => (@pe_tupN _ _ _ _ _ (@pa_cons _ _ _ _ _ (pe_tget (P := w.params) rfl (by exact hr.units) (pv 2) (@pe_callTy _ _ _ _ _ _ _ _ _ (kcl_tuple K) (by rfl) T.z_tuple bb_tuple (@pa_cons _ _ _ _ _ (pv 0) (@pa_nil _) (by rfl)) (by decide) (by decide) (by rfl) (by rfl)) (fun _ _ => rfl)) (@pa_cons _ _ _ _ _ (pv 1) (@pa_nil _) (by rfl)) (by rfl))))) (@pa_nil _) (by rfl)) (by decide) (by decide) (by rfl) (by rfl)))), ?_⟩
    have sl : (1000000 : Nat) ≤ sizeLine := le_line (Nat.le_refl _)
    obtain ⟨q1, g, ps, gs1, rfl, k1, k2, k3, rfl⟩ := room_w.mp hv
    have pl : ps.length = r.2.length := by rw [k3.len, List.length_map]
    walk_at "go"
    refine i_ixT (SqT.of k1) (atI_nat (j := 1) rfl) ?_
    walk_at "run"
    refine ⟨⟨_, SqL.of k2⟩, cc_pairs (xs := ps) (by omega) (fun i acc H' => i ≤ r.2.length ∧ acc.length = i ∧ Same H H' ∧ ∃ row, Tr.Ats H' (row.map pairT) acc [] ∧ row.length = i ∧ ∀ (j : Nat) (x : Row), j < i → r.2[j]? = some x → ∃ n, row[j]? = some (n, x.2) ∧ l[n]? = some x.1) ⟨Nat.zero_le _, rfl, Same.refl _, [], ats_nil0.mpr rfl, rfl, fun j x h => absurd h (by omega)⟩ (fun i acc H' ⟨_, e, s', _⟩ => ⟨by omega, SqL.of (s' _ _ k2)⟩) ?_ ?_⟩
    · rintro j x acc H4 hx ⟨hj, ea, s4, row, hat, hrl, hrow⟩
      obtain ⟨tx2, fx2, hy1, hy2, _⟩ := (k3.same s4).get j x hx
      rw [List.getElem?_map] at hy1
      obtain ⟨w0, hw0, rfl⟩ := Option.map_eq_some_iff.mp hy1
      obtain ⟨k, sl', rfl, hk, hsl', rfl⟩ := row_w.mp hy2
      refine ⟨k, _, _, rfl, SqT.of hk, ?_⟩
      walk_at "run"
      refine i_tupleL (SqL.of hsl') ?_
      intro p5 H5 f5 s5 e5
      obtain ⟨n, hn, hval⟩ := has_num (f := sT) (fun a b => sT_inj) nd (hin w0 (List.mem_of_getElem? hw0))
      refine ⟨d, _, sT w0.1, _, rfl, dt_same hD (s4.trans s5), ⟨sT_to e5, sT_h _⟩, hval, ?_⟩
      walk_at "run"
      intro p6 H6 f6 s6 e6
      refine ⟨(List.getElem?_eq_some_iff.mp hw0).1, by simp [ea], s4.trans (s5.trans s6), row ++ [(n, w0.2)], ?_, by simp [hrl], fun m y hm hy => ?_⟩
      · rw [List.map_append]
        exact ats_app0.mpr ⟨_, _, rfl, hat.same (s5.trans s6), ats_cons0.mpr ⟨_, _, rfl, tup2_at e6 int_at int_at, ats_nil0.mpr rfl⟩⟩
      · by_cases hmj : m = j
        · subst hmj
          rw [hw0] at hy
          cases hy
          exact ⟨n, by rw [List.getElem?_append_right (by omega), hrl, Nat.sub_self]; rfl, hn⟩
        · obtain ⟨n2, a1, a2⟩ := hrow m y (by omega) hy
          exact ⟨n2, by rw [List.getElem?_append_left (List.getElem?_eq_some_iff.mp a1).1]; exact a1, a2⟩
    · rintro acc H4 ⟨_, ea, s4, row, hat, hrl, hrow⟩ p5 H5 f5 s5 e5
      walk_at "run"
      refine i_tupleL (SqL.of e5) ?_
      intro p6 H6 f6 s6 e6
      exact q (.ref p6) row H6 (s4.trans (s5.trans s6)) (at_tup0.mpr ⟨p6, _, rfl, e6, hat.same (s5.trans s6)⟩) ⟨by omega, fun j x hx => hrow j x (by rw [pl]; exact (List.getElem?_eq_some_iff.mp hx).1) hx⟩
theorem nd_len {α : Type} [DecidableEq α] : ∀ {a b : List α}, a.Nodup → (∀ x ∈ a, x ∈ b) → a.length ≤ b.length
  | [], b, _, _ => by simp
  | x :: a, b, hn, h => by
    rw [List.nodup_cons] at hn
    have hx := h x (by simp)
    have ih := nd_len (b := b.erase x) hn.2 fun y hy => (List.mem_erase_of_ne (fun z => hn.1 (by rw [← z]; exact hy))).mpr (h y (by simp [hy]))
    have := List.length_erase_of_mem hx
    have := List.length_pos_of_mem hx
    rw [List.length_cons]
    omega
def sp_textsin (K : PySem.W.Frag) : Sp := fun vs H Q _ => ∃ (a : Addr) (us : List V) (l : List (List Str)) (W : List Str), vs = [.ref a] ∧ SqL K H a us ∧ Tr.Ats H (l.map sT) us [] ∧ l.length ≤ 50 ∧ (∀ s ∈ l, s.length ≤ 20 ∧ ∀ x ∈ s, x ∈ W) ∧ W.length < 64 ∧ ∀ p out H', H p = none → Same H H' → H' p = some (.lst (strsV out)) → out.Nodup → (∀ x, x ∈ out ↔ ∃ s ∈ l, x ∈ s) → out.length < 64 → PyProof.Rows.sortedS out = true → Q (.ref p) H'
theorem ok_texts_in (T : Txt K mg t) : FnOk P w K mg base CX0 1 t.a_texts_in t.fd_texts_in ["sayings"] (sp_textsin K) := by
  refine T.F_texts_in.ok sc_texts_in (fun vs H Q E h => ?_) (fun cdv A outer s H vs Q E hr h => ?_)
  · obtain ⟨a, us, l, W, rfl, _⟩ := h
    rfl
  · obtain ⟨a, us, l, W, rfl, ha, hu, hl, hW, hWl, q⟩ := h
    refine ⟨_, (@pss_cons _ _ _ _ _ (@ps_set _ _ 1 _ _ _ _ sc_texts_in.nd rfl (by first | exact Or.inl rfl | exact Or.inr rfl) (@pe_lstN _ _ _ _ (@pa_nil _)) (by rfl) (by first | exact Or.inl rfl | exact Or.inr rfl))
      (@pss_cons _ _ _ _ _ (@ps_for _ _ _ _ _ _ _ _ PassesOwn.never rfl (kpi_list K (pv 0)) (pg_name (i := 2) sc_texts_in.nd rfl (by first | exact Or.inl rfl | exact Or.inr rfl)) (@pss_one _ _ _ (@ps_expr _ _ _ _ (@kpe_bm _ K _ _ _ _ _ _ _ _ _ _ _ PySem.F.plainAttrs_list PySem.F.slot_list_extend PySem.F.type_list_extend (kmt_extendT K) (pv 1) (@pa_cons _ _ _ _ _ (pv 2) (@pa_nil _) (by rfl)) (by rfl) (by rfl) (by rfl) (by rfl) (by rfl) (by rfl)) (by rfl))) (by intro _; rfl))
      (@pss_one _ _ _ (@ps_ret _ _ _ _ (@pe_callB _ _ _ _ _ _ _ _ _ (cl_sortS (P := P) (w := w) rfl rfl rfl) (by rfl) T.z_sorted bb_sorted (@pa_cons _ _ _ _ _ (@pe_callTy _ _ _ _ _ _ _ _ _ (cl_setS (P := P) (w := w) K rfl rfl rfl) (by rfl) T.z_set bb_set (@pa_cons _ _ _ _ _ (pv 1) (@pa_nil _) (by rfl)) (by decide) (by decide) (by rfl) (by rfl)) (@pa_nil _) (by rfl)) (by decide) (by decide) (by rfl) (by rfl)))))), ?_⟩
    have sl : (1000000 : Nat) ≤ sizeLine := le_line (Nat.le_refl _)
    have ul : us.length = l.length := by rw [hu.len, List.length_map]
    have fll : ∀ l' : List (List Str), (∀ s ∈ l', s ∈ l) → l'.length ≤ 50 → (l'.flatMap id).length ≤ 1000 := fun l' hs hl' => by
      have h1 := fm_len (f := id) (n := 20) (l := l') fun s h => (hW s (hs s h)).1
      have h2 := Nat.mul_le_mul_right 20 hl'
      omega
    walk_at "go"
    intro pf H1 f1 s1 e1
    walk_at "run"
    refine ⟨⟨_, s1.seq ha⟩, for_list (K := K) (a := a) (xs := us) (fun i σ H' => i ≤ l.length ∧ Same H H' ∧ H' pf = some (.lst (strsV ((l.take i).flatMap id))) ∧ ∃ y, σ = [some (.ref a), some (.ref pf), y]) ⟨Nat.zero_le _, s1, e1, _, rfl⟩ (fun i σ H' _ ⟨_, s', _⟩ => s'.seq ha) ?_ ?_⟩
    · rintro i v σ H3 hv ⟨hi, s3, e3, y, rfl⟩
      obtain ⟨tx, hx1, hx2⟩ := ats_get0 (hu.same s3) hv
      rw [List.getElem?_map] at hx1
      obtain ⟨r, hr, rfl⟩ := Option.map_eq_some_iff.mp hx1
      obtain ⟨b, rfl, hb⟩ := sT_of hx2
      have hi' : i < l.length := (List.getElem?_eq_some_iff.mp hr).1
      have htk : l.take (i + 1) = l.take i ++ [r] := by rw [List.take_add_one, hr]; rfl
      have hfl := fll (l.take i) (fun s hs => List.mem_of_mem_take hs) (by simp; omega)
      have hrl := (hW r (List.mem_of_getElem? hr)).1
      walk_at "run"
      refine i_tyL (SqL.of e3) ?_
      walk_at "run"
      refine ⟨pf, b, _, _, rfl, rfl, e3, SqT.of hb, by simp only [strsV, List.length_map]; omega, ?_⟩
      refine ⟨hi', s3.updNew f1, ?_, _, rfl⟩
      rw [upd_same, htk, List.flatMap_append]
      simp [strsV]
    · rintro σ H3 ⟨_, s3, e3, y, rfl⟩
      rw [ul, List.take_length] at e3
      walk_at "run"
      refine ⟨pf, l.flatMap id, rfl, SqL.of e3, by have := fll l (fun s hs => hs) hl; omega, fun p4 H4 ks f4 s4 e4 nd hks => ?_⟩
      walk_at "run"
      have hkm : ∀ x, x ∈ ks ↔ ∃ s ∈ l, x ∈ s := fun x => by rw [hks x, List.mem_flatMap]; rfl
      have hkl : ks.length ≤ W.length := nd_len nd fun x hx => by
        obtain ⟨s, hs, hxs⟩ := (hkm x).mp hx
        exact (hW s hs).2 x hxs
      refine ⟨p4, ks, rfl, e4, by omega, fun p5 out H5 f5 s5 e5 pm so => ?_⟩
      have := pm.length_eq
      exact q p5 out H5 (s3.free (s4.free f5)) (s3.trans (s4.trans s5)) e5 (pm.nodup_iff.mpr nd) (fun x => by rw [pm.mem_iff]; exact hkm x) (by omega) so
theorem rT_inj {a b : List (Nat × Nat)} (h : rT a = rT b) : a = b := by
  unfold rT at h
  injection h with h
  induction a generalizing b with
  | nil =>
    cases b with
    | nil => rfl
    | cons y b => simp at h
  | cons x a ih =>
    cases b with
    | nil => simp at h
    | cons y b =>
      simp only [List.map_cons, List.cons.injEq] at h
      rw [pairT_inj h.1, ih h.2]
theorem rT_h (r : List (Nat × Nat)) : (rT r).h ≤ 8 := by
  have : Tr.hs (r.map pairT) ≤ 1 := by
    induction r with
    | nil => simp [Tr.hs]
    | cons x r ih =>
      have := pairT_h x
      simp only [List.map_cons, Tr.hs]
      omega
  simp only [rT, Tr.h]
  omega
theorem mets_same {α : Type} [DecidableEq α] : ∀ {l : List α}, l.Nodup → mets l = l := by
  have h : ∀ (l acc : List α), (acc ++ l).Nodup → l.foldl met1 acc = acc ++ l := by
    intro l
    induction l with
    | nil => intro acc _; simp
    | cons x l ih =>
      intro acc hn
      have hx : x ∉ acc := fun hm => (List.nodup_append.mp hn).2.2 x hm x (by simp) rfl
      rw [List.foldl_cons, met1, if_neg hx, ih _ (by simpa using hn)]
      simp
  intro l hn
  unfold mets
  rw [h l [] (by simpa using hn)]
  rfl
structure Packs (k : Pk) (txs sy : List Str) (rs : List Room_) : Prop where
  tl : k.told.length = rs.length
  say : ∃ l, k.sys[k.say]? = some l ∧ txOf txs l = sy
  room : ∀ (i : Nat) (r : Room_), rs[i]? = some r → ∃ t h, k.told[i]? = some t ∧ decide ((t : Int) % 2 = 1) = r.1 ∧ k.shs[t / 2]? = some h ∧ ∀ (j : Nat) (x : Row), r.2[j]? = some x → (pick h j).2 = x.2 ∧ ∃ l, k.sys[(pick h j).1]? = some l ∧ txOf txs l = x.1
def prL (L : List (List Str)) (rows : List Row) : List (Nat × Nat) := rows.map fun x => (idx L x.1, x.2)
theorem pairs_fun {L : List (List Str)} {r : Room_} {row : List (Nat × Nat)} (nd : L.Nodup) (h : PairsOf L r row) : row = prL L r.2 := by
  refine List.ext_getElem? fun j => ?_
  unfold prL
  rw [List.getElem?_map]
  cases e : r.2[j]? with
  | none =>
    have := List.getElem?_eq_none_iff.mp e
    exact List.getElem?_eq_none_iff.mpr (by rw [h.1]; exact this)
  | some x =>
    obtain ⟨n, a1, a2⟩ := h.2 j x e
    rw [a1, ← idx_nd nd a2]
    rfl
theorem rows_fun {L : List (List Str)} {rs : List Room_} {rows : List (List (Nat × Nat))} (nd : L.Nodup) (hl : rows.length = rs.length) (h : ∀ (j : Nat) (r : Room_), j < rs.length → rs[j]? = some r → ∃ row, rows[j]? = some row ∧ PairsOf L r row) : rows = rs.map fun r => prL L r.2 := by
  refine List.ext_getElem? fun j => ?_
  rw [List.getElem?_map]
  cases e : rs[j]? with
  | none =>
    have := List.getElem?_eq_none_iff.mp e
    exact List.getElem?_eq_none_iff.mpr (by omega)
  | some r =>
    obtain ⟨row, a1, a2⟩ := h j r (List.getElem?_eq_some_iff.mp e).1 e
    rw [a1, pairs_fun nd a2]
    rfl
noncomputable def shOf (row : List (Nat × Nat)) : Sh := (commF row, excF (commF row) row 0)
noncomputable def dueK (L : List (List Str)) (txs : List Str) (rs : List Room_) : Pk := ⟨rs.map fun r => 2 * idx (mets (rs.map fun r => prL L r.2)) (prL L r.2) + (if r.1 = true then 1 else 0), (mets (rs.map fun r => prL L r.2)).map shOf, L.map fun s => s.map fun x => idx txs x, 0⟩
theorem metf_pre {α : Type} [DecidableEq α] : ∀ (l acc : List α), ∃ u, l.foldl met1 acc = acc ++ u
  | [], acc => ⟨[], by simp⟩
  | y :: l, acc => by
    obtain ⟨u, h⟩ := metf_pre l (met1 acc y)
    rw [List.foldl_cons, h]
    unfold met1
    split
    · exact ⟨u, rfl⟩
    · exact ⟨[y] ++ u, by simp⟩
theorem mets_head {α : Type} [DecidableEq α] (x : α) (l : List α) : (mets (x :: l))[0]? = some x := by
  unfold mets
  rw [List.foldl_cons]
  obtain ⟨u, h⟩ := metf_pre l (met1 [] x)
  rw [h]
  rfl
theorem tx_idx {txs : List Str} (nd : txs.Nodup) : ∀ {l : List Nat} {s : List Str}, txOf txs l = s → (∀ n ∈ l, n < txs.length) → l = s.map fun x => idx txs x := by
  intro l s h hl
  subst h
  unfold txOf
  rw [List.map_map]
  refine (List.map_id l).symm.trans (List.map_congr_left fun n hn => ?_)
  have := hl n hn
  simp only [id_eq, Function.comp_apply]
  rw [idx_nd nd (n := n)]
  simp [List.getElem?_eq_getElem this]
structure TxOk (L : List (List Str)) (txs : List Str) : Prop where
  so : PyProof.Rows.sortedS txs = true
  nd : txs.Nodup
  mem : ∀ x, x ∈ txs ↔ ∃ s ∈ L, x ∈ s
theorem built_fn {sy : List Str} {rs : List Room_} {L : List (List Str)} {rows : List (List (Nat × Nat))} {told : List Nat} {shs : List Sh} {sys : List (List Nat)} {n0 : Nat} {txs : List Str} (hL : L = mets (sayL sy rs)) (hrl : rows.length = rs.length) (htl : told.length = rs.length)
    (ht : ∀ (j : Nat) (r : Room_), j < rs.length → rs[j]? = some r → ∃ row m, rows[j]? = some row ∧ (mets rows)[m]? = some row ∧ told[j]? = some (2 * m + if r.1 = true then 1 else 0))
    (hrow : ∀ (j : Nat) (r : Room_), j < rs.length → rs[j]? = some r → ∃ row, rows[j]? = some row ∧ PairsOf L r row) (hsl : shs.length = (mets rows).length)
    (hsh : ∀ (j : Nat) (row : List (Nat × Nat)), j < (mets rows).length → (mets rows)[j]? = some row → ∃ c, IsC row c ∧ shs[j]? = some (c, excF c row 0)) (hyl : sys.length = L.length)
    (hsy : ∀ (j : Nat) (s : List Str), j < L.length → L[j]? = some s → ∃ l, sys[j]? = some l ∧ l.length = s.length ∧ txOf txs l = s ∧ ∀ n ∈ l, n < txs.length) (tnd : txs.Nodup) (hn0 : L[n0]? = some sy) : Pk.mk told shs sys n0 = dueK L txs rs := by
  have nd : L.Nodup := by rw [hL]; exact mets_nd _
  have hR := rows_fun nd hrl hrow
  unfold dueK
  rw [← hR]
  have e1 : told = rs.map fun r => 2 * idx (mets rows) (prL L r.2) + (if r.1 = true then 1 else 0) := by
    refine List.ext_getElem? fun j => ?_
    rw [List.getElem?_map]
    cases e : rs[j]? with
    | none => exact List.getElem?_eq_none_iff.mpr (by have := List.getElem?_eq_none_iff.mp e; omega)
    | some r =>
      obtain ⟨row, m, a1, a2, a3⟩ := ht j r (List.getElem?_eq_some_iff.mp e).1 e
      rw [hR, List.getElem?_map, e] at a1
      injection a1 with a1
      rw [a3, ← idx_nd (mets_nd rows) a2, ← a1]
      rfl
  have e2 : shs = (mets rows).map shOf := by
    refine List.ext_getElem? fun j => ?_
    rw [List.getElem?_map]
    cases e : (mets rows)[j]? with
    | none => exact List.getElem?_eq_none_iff.mpr (by have := List.getElem?_eq_none_iff.mp e; omega)
    | some row =>
      obtain ⟨c, a1, a2⟩ := hsh j row (List.getElem?_eq_some_iff.mp e).1 e
      rw [a2, ← a1.is]
      rfl
  have e3 : sys = L.map fun s => s.map fun x => idx txs x := by
    refine List.ext_getElem? fun j => ?_
    rw [List.getElem?_map]
    cases e : L[j]? with
    | none => exact List.getElem?_eq_none_iff.mpr (by have := List.getElem?_eq_none_iff.mp e; omega)
    | some s =>
      obtain ⟨l, a1, _, a2, a3⟩ := hsy j s (List.getElem?_eq_some_iff.mp e).1 e
      rw [a1, tx_idx tnd a2 a3]
      rfl
  have e4 : n0 = 0 := by
    have h0 : L[0]? = some sy := by rw [hL]; exact mets_head _ _
    rw [← idx_nd nd hn0, idx_nd nd h0]
  rw [← e1, ← e2, ← e3, e4]
structure PackPost (H H' : Hp) (tt a b c : Addr) (us : List V) (txs : List Str) (k : Pk) (es : List Ev) (sy : List Str) (rs : List Room_) : Prop where
  same : Same H H'
  e : H' tt = some (.tup [.ref a, .ref b, .ref c])
  fa : H a = none
  fb : H b = none
  fc : H c = none
  ab : a ≠ b
  ac : a ≠ c
  bc : b ≠ c
  ea : H' a = some (.lst us)
  hu : Tr.Ats H' (es.map Ev.tr) us []
  eb : H' b = some (.lst (strsV txs))
  ec : H' c = some (.lst (natsV k.cells))
  ok : PkOk k txs.length
  tx : txs.length < 64
  is : Packs k txs sy rs
  fn : k = dueK (mets (sayL sy rs)) txs rs
  txo : TxOk (mets (sayL sy rs)) txs
def sp_pack (K : PySem.W.Frag) : Sp := fun vs H Q _ => ∃ (v : V) (a b c : Addr) (es : List Ev) (sy : List Str) (rs : List Room_) (gs : List Addr) (M : List (List Str)) (W : List Str), vs = [v] ∧ TabAt H v a b c es sy rs gs ∧ TabOk es sy rs ∧ 0 < es.length ∧ 0 < rs.length ∧ M.length ≤ 50 ∧ W.length < 64 ∧ (∀ s ∈ sayL sy rs, s ∈ M ∧ ∀ x ∈ s, x ∈ W) ∧ ∀ tt a' b' c' us txs k H', PackPost H H' tt a' b' c' us txs k es sy rs → Q (.ref tt) H'
theorem sayL_len {es : List Ev} {sy : List Str} {rs : List Room_} (ok : TabOk es sy rs) : (sayL sy rs).length ≤ 2001 := by
  have h := fm_len (f := fun r : Room_ => r.2.map (·.1)) (n := 20) (l := rs) fun r hr => by
    have := (ok.ok r hr).1
    have := ok.ne
    simp
    omega
  have := Nat.mul_le_mul_right 20 ok.nr
  simp only [sayL, List.length_cons]
  omega
theorem built_ok {es : List Ev} {sy : List Str} {rs : List Room_} {L : List (List Str)} {rows : List (List (Nat × Nat))} {told : List Nat} {shs : List Sh} {sys : List (List Nat)} {n0 T : Nat} (ok : TabOk es sy rs) (hr0 : 0 < rs.length) (hnr : rs.length ≤ 100) (htl : told.length = rs.length) (hml : (mets rows).length ≤ 100) (hsl : shs.length = (mets rows).length) (hLl : L.length ≤ 100) (hyl : sys.length = L.length) (hel : es.length ≤ 100)
    (ht : ∀ (j : Nat) (r : Room_), j < rs.length → rs[j]? = some r → ∃ row m, rows[j]? = some row ∧ (mets rows)[m]? = some row ∧ told[j]? = some (2 * m + if r.1 = true then 1 else 0))
    (hrok : ∀ row ∈ mets rows, ∃ r ∈ rs, PairsOf L r row ∧ row.length = es.length)
    (hsh : ∀ (j : Nat) (row : List (Nat × Nat)), j < (mets rows).length → (mets rows)[j]? = some row → ∃ c, IsC row c ∧ shs[j]? = some (c, excF c row 0))
    (hsy : ∀ l ∈ sys, l.length ≤ 100 ∧ ∀ n ∈ l, n < T) (hn0 : L[n0]? = some sy) : PkOk ⟨told, shs, sys, n0⟩ T := by
  refine ⟨by simp only; omega, by simp only; omega, by simp only; omega, by simp only; omega, fun t htm => ?_, fun h hh => ?_, hsy, ?_⟩
  · obtain ⟨j, hj, rfl⟩ := List.mem_iff_getElem.mp htm
    have hj' : j < rs.length := by simp only at hj; omega
    obtain ⟨row, m, a1, a2, a3⟩ := ht j rs[j] hj' (List.getElem?_eq_getElem hj')
    have hm := (List.getElem?_eq_some_iff.mp a2).1
    simp only at hj ⊢
    rw [List.getElem?_eq_getElem hj] at a3
    injection a3 with a3
    rw [a3, hsl]
    split <;> omega
  · obtain ⟨j, hj, rfl⟩ := List.mem_iff_getElem.mp hh
    simp only at hj ⊢
    have hj' : j < (mets rows).length := by omega
    obtain ⟨c, hc, e⟩ := hsh j (mets rows)[j] hj' (List.getElem?_eq_getElem hj')
    obtain ⟨r, hr, hp, hrl⟩ := hrok (mets rows)[j] (List.getElem_mem _)
    generalize (mets rows)[j] = row at hc e hp hrl
    rw [List.getElem?_eq_getElem hj] at e
    injection e with e
    rw [e]
    have hpr : ∀ p ∈ row, p.1 < sys.length ∧ p.2 < told.length := fun p hpm => by
      obtain ⟨i, hi, rfl⟩ := List.mem_iff_getElem.mp hpm
      have hi' : i < r.2.length := by rw [← hp.1]; exact hi
      obtain ⟨n, b1, b2⟩ := hp.2 i r.2[i] (List.getElem?_eq_getElem hi')
      rw [List.getElem?_eq_getElem hi] at b1
      injection b1 with b1
      rw [b1]
      have := (List.getElem?_eq_some_iff.mp b2).1
      have := ((ok.ok r hr).2 r.2[i] (List.getElem_mem _)).1
      simp only
      omega
    have hxl := excF_len c row 0
    exact ⟨(hpr c hc.mem).1, (hpr c hc.mem).2, fun t ht => hpr t.2 (excF_mem c row 0 t ht).2, excF_nd c row 0, by simp only; omega⟩
  · have := (List.getElem?_eq_some_iff.mp hn0).1
    simp only
    omega
theorem built_is {sy : List Str} {rs : List Room_} {L : List (List Str)} {rows : List (List (Nat × Nat))} {told : List Nat} {shs : List Sh} {sys : List (List Nat)} {n0 : Nat} {txs : List Str} (htl : told.length = rs.length)
    (ht : ∀ (j : Nat) (r : Room_), j < rs.length → rs[j]? = some r → ∃ row m, rows[j]? = some row ∧ (mets rows)[m]? = some row ∧ told[j]? = some (2 * m + if r.1 = true then 1 else 0))
    (hrow : ∀ (j : Nat) (r : Room_), j < rs.length → rs[j]? = some r → ∃ row, rows[j]? = some row ∧ PairsOf L r row)
    (hsh : ∀ (j : Nat) (row : List (Nat × Nat)), j < (mets rows).length → (mets rows)[j]? = some row → ∃ c, IsC row c ∧ shs[j]? = some (c, excF c row 0))
    (hsy : ∀ (j : Nat) (s : List Str), j < L.length → L[j]? = some s → ∃ l, sys[j]? = some l ∧ l.length = s.length ∧ txOf txs l = s ∧ ∀ n ∈ l, n < txs.length) (hn0 : L[n0]? = some sy) : Packs ⟨told, shs, sys, n0⟩ txs sy rs := by
  refine ⟨htl, ?_, fun i r hr => ?_⟩
  · obtain ⟨l, a1, _, a2, _⟩ := hsy n0 sy (List.getElem?_eq_some_iff.mp hn0).1 hn0
    exact ⟨l, a1, a2⟩
  · have hi := (List.getElem?_eq_some_iff.mp hr).1
    obtain ⟨row, m, a1, a2, a3⟩ := ht i r hi hr
    obtain ⟨row', b1, b2⟩ := hrow i r hi hr
    rw [a1] at b1
    cases b1
    obtain ⟨c, hc, e⟩ := hsh m row (List.getElem?_eq_some_iff.mp a2).1 a2
    refine ⟨_, (c, excF c row 0), a3, ?_, ?_, fun j x hx => ?_⟩
    · cases r.1
      · simp
      · simp
    · rw [show (2 * m + if r.1 = true then 1 else 0) / 2 = m by split <;> omega]
      exact e
    · obtain ⟨n, d1, d2⟩ := b2.2 j x hx
      rw [pick_exc d1]
      obtain ⟨l, f1, _, f2, _⟩ := hsy n x.1 (List.getElem?_eq_some_iff.mp d2).1 d2
      exact ⟨rfl, l, f1, f2⟩
theorem ok_pack (T : Txt K mg t) : FnOk P w K mg base CX0 4 t.a_pack t.fd_pack ["table"] (sp_pack K) := by
  have G_block := ok_block (P := P) (w := w) (base := base) T
  have G_counted := ok_counted (P := P) (w := w) (base := base) T
  have G_pairs_of := ok_pairs_of (P := P) (w := w) (base := base) T
  have G_sayings_of := ok_sayings_of (P := P) (w := w) (base := base) T
  have G_shape_cells := ok_shape_cells (P := P) (w := w) (base := base) T
  have G_texts_in := ok_texts_in (P := P) (w := w) (base := base) T
  refine T.F_pack.ok sc_pack (fun vs H Q E h => ?_) (fun cdv A outer s H vs Q E hr h => ?_)
  · obtain ⟨v, a, b, c, es, sy, rs, gs, M, W, rfl, _⟩ := h
    rfl
  · obtain ⟨v, a, b, c, es, sy, rs, gs, M, W, rfl, hT, ok, he0, hr0, hM, hW, hin, q⟩ := h
    refine ⟨_, (@pss_cons _ _ _ _ _ (@ps_set _ _ 1 _ _ _ _ sc_pack.nd rfl (by first | exact Or.inl rfl | exact Or.inr rfl) (@pe_ix _ _ _ _ _ _ _ (kix_tup K) (pv 0) (@pe_int _ _ _ _) (fun _ _ => rfl)) (by rfl) (by first | exact Or.inl rfl | exact Or.inr rfl))
      (@pss_cons _ _ _ _ _ (@ps_set _ _ 2 _ _ _ _ sc_pack.nd rfl (by first | exact Or.inl rfl | exact Or.inr rfl) (@pe_call _ _ _ _ _ _ _ _ _ _ _ _ _ _ _ _ G_counted (hr.mono (by omega)) rfl T.m_counted T.F_counted.kp T.b_counted .nil pass0 (@pa_cons _ _ _ _ _ (@pe_call _ _ _ _ _ _ _ _ _ _ _ _ _ _ _ _ G_sayings_of (hr.mono (by omega)) rfl T.m_sayings_of T.F_sayings_of.kp T.b_sayings_of .nil pass0 (@pa_cons _ _ _ _ _ (pv 0) (@pa_nil _) (by rfl)) (by decide) (by rfl) (by rfl)) (@pa_nil _) (by rfl)) (by decide) (by rfl) (by rfl)) (by rfl) (by first | exact Or.inl rfl | exact Or.inr rfl))
      (@pss_cons _ _ _ _ _ (ps_lc (i := 3) (Nt := ["room"]) (Nf := ["sayings"]) (caps := [2]) rfl (comp_ok (sc := defScope s_pack) rfl rfl (by decide +kernel) (by decide +kernel) (by decide +kernel) rfl (by decide +kernel)) (kpi_list K (pv 1)) (fun _ _ _ _ _ => (pg_name (i := 0) (show (["room", "sayings"] : List Str).Nodup by decide +kernel) rfl (by first | exact Or.inl rfl | exact Or.inr rfl))) (fun _ _ _ _ _ => (@pts_nil _)) (fun _ _ _ _ _ => (@pe_call _ _ _ _ _ _ _ _ _ _ _ _ _ _ _ _ G_pairs_of (hr.mono (by omega)) rfl T.m_pairs_of T.F_pairs_of.kp T.b_pairs_of .nil pass0 (@pa_cons _ _ _ _ _ (pv 0) (@pa_cons _ _ _ _ _ (pv 1) (@pa_nil _) (by rfl)) (by rfl)) (by decide) (by rfl) (by rfl))) sc_pack.nd rfl (by first | exact Or.inl rfl | exact Or.inr rfl) rfl)
      (@pss_cons _ _ _ _ _ (@ps_set _ _ 4 _ _ _ _ sc_pack.nd rfl (by first | exact Or.inl rfl | exact Or.inr rfl) (@pe_call _ _ _ _ _ _ _ _ _ _ _ _ _ _ _ _ G_counted (hr.mono (by omega)) rfl T.m_counted T.F_counted.kp T.b_counted .nil pass0 (@pa_cons _ _ _ _ _ (pv 3) (@pa_nil _) (by rfl)) (by decide) (by rfl) (by rfl)) (by rfl) (by first | exact Or.inl rfl | exact Or.inr rfl))
      (@pss_cons _ _ _ _ _ (@ps_set _ _ 5 _ _ _ _ sc_pack.nd rfl (by first | exact Or.inl rfl | exact Or.inr rfl) (@pe_call _ _ _ _ _ _ _ _ _ _ _ _ _ _ _ _ G_texts_in (hr.mono (by omega)) rfl T.m_texts_in T.F_texts_in.kp T.b_texts_in .nil pass0 (@pa_cons _ _ _ _ _ (@pe_callTy _ _ _ _ _ _ _ _ _ (cl_listT (P := w.params) rfl rfl) (by rfl) T.z_list bb_list (@pa_cons _ _ _ _ _ (pv 2) (@pa_nil _) (by rfl)) (by decide) (by decide) (by rfl) (by rfl)) (@pa_nil _) (by rfl)) (by decide) (by rfl) (by rfl)) (by rfl) (by first | exact Or.inl rfl | exact Or.inr rfl))
      (@pss_cons _ _ _ _ _ (@ps_set _ _ 6 _ _ _ _ sc_pack.nd rfl (by first | exact Or.inl rfl | exact Or.inr rfl) (@pe_call _ _ _ _ _ _ _ _ _ _ _ _ _ _ _ _ G_counted (hr.mono (by omega)) rfl T.m_counted T.F_counted.kp T.b_counted .nil pass0 (@pa_cons _ _ _ _ _ (pv 5) (@pa_nil _) (by rfl)) (by decide) (by rfl) (by rfl)) (by rfl) (by first | exact Or.inl rfl | exact Or.inr rfl))
      (@pss_cons _ _ _ _ _ (@ps_set _ _ 7 _ _ _ _ sc_pack.nd rfl (by first | exact Or.inl rfl | exact Or.inr rfl) (@pe_lstN _ _ _ _ (@pa_cons _ _ _ _ _ (@pe_callB _ _ _ _ _ _ _ _ _ (kcl_len K) (by rfl) T.z_len bb_len (@pa_cons _ _ _ _ _ (pv 1) (@pa_nil _) (by rfl)) (by decide) (by decide) (by rfl) (by rfl)) (@pa_cons _ _ _ _ _ (@pe_callB _ _ _ _ _ _ _ _ _ (cl_lenT (P := w.params) rfl) (by rfl) T.z_len bb_len (@pa_cons _ _ _ _ _ (pv 2) (@pa_nil _) (by rfl)) (by decide) (by decide) (by rfl) (by rfl)) (@pa_cons _ _ _ _ _ (@pe_callB _ _ _ _ _ _ _ _ _ (cl_lenT (P := w.params) rfl) (by rfl) T.z_len bb_len (@pa_cons _ _ _ _ _ (pv 4) (@pa_nil _) (by rfl)) (by decide) (by decide) (by rfl) (by rfl)) (@pa_cons _ _ _ _ _ (pe_tget (P := w.params) rfl (by exact hr.units) (pv 2) (@pe_callTy _ _ _ _ _ _ _ _ _ (kcl_tuple K) (by rfl) T.z_tuple bb_tuple (@pa_cons _ _ _ _ _ (@pe_ix _ _ _ _ _ _ _ (kix_tup K) (pv 0) (@pe_int _ _ _ _) (fun _ _ => rfl)) (@pa_nil _) (by rfl)) (by decide) (by decide) (by rfl) (by rfl)) (fun _ _ => rfl)) (@pa_nil _) (by rfl)) (by rfl)) (by rfl)) (by rfl))) (by rfl) (by first | exact Or.inl rfl | exact Or.inr rfl))
      (@pss_cons _ _ _ _ _ (@ps_for _ _ _ _ _ _ _ _ PassesOwn.never rfl (pi_zip K rfl T.z_zip (@pa_cons _ _ _ _ _ (pv 1) (@pa_cons _ _ _ _ _ (pv 3) (@pa_nil _) (by rfl)) (by rfl))) (kpg_tup K (n := 2) rfl (pgs_cons (pg_name (i := 8) sc_pack.nd rfl (by first | exact Or.inl rfl | exact Or.inr rfl)) (pgs_cons (pg_name (i := 9) sc_pack.nd rfl (by first | exact Or.inl rfl | exact Or.inr rfl)) (@pgs_nil _)))) (@pss_one _ _ _ (@ps_expr _ _ _ _ (@kpe_bm _ K _ _ _ _ _ _ _ _ _ _ _ PySem.F.plainAttrs_list PySem.F.slot_list_append PySem.F.type_list_append mt_append (pv 7) (@pa_cons _ _ _ _ _ (@pe_op _ _ _ _ _ _ _ _ op_plus (@pe_op _ _ _ _ _ _ _ _ op_times (@pe_int _ _ _ _) (pe_tget (P := w.params) rfl (by exact hr.units) (pv 4) (pv 9) (fun _ _ => rfl))) (@pe_ifExp _ _ _ _ _ _ _ _ (kpt_tru K (@pe_ix _ _ _ _ _ _ _ (kix_tup K) (pv 8) (@pe_int _ _ _ _) (fun _ _ => rfl)) (fun _ => rfl)) (@pe_int _ _ _ _) (@pe_int _ _ _ _))) (@pa_nil _) (by rfl)) (by rfl) (by rfl) (by rfl) (by rfl) (by rfl) (by rfl)) (by rfl))) (by intro _; rfl))
      (@pss_cons _ _ _ _ _ (@ps_for _ _ _ _ _ _ _ _ PassesOwn.never rfl (pi_td (P := w.params) rfl (pv 4)) (pg_name (i := 10) sc_pack.nd rfl (by first | exact Or.inl rfl | exact Or.inr rfl)) (@pss_one _ _ _ (@ps_expr _ _ _ _ (@kpe_bm _ K _ _ _ _ _ _ _ _ _ _ _ PySem.F.plainAttrs_list PySem.F.slot_list_extend PySem.F.type_list_extend mt_extend (pv 7) (@pa_cons _ _ _ _ _ (@pe_call _ _ _ _ _ _ _ _ _ _ _ _ _ _ _ _ G_block (hr.mono (by omega)) rfl T.m_block T.F_block.kp T.b_block .nil pass0 (@pa_cons _ _ _ _ _ (@pe_call _ _ _ _ _ _ _ _ _ _ _ _ _ _ _ _ G_shape_cells (hr.mono (by omega)) rfl T.m_shape_cells T.F_shape_cells.kp T.b_shape_cells .nil pass0 (@pa_cons _ _ _ _ _ (pv 10) (@pa_nil _) (by rfl)) (by decide) (by rfl) (by rfl)) (@pa_nil _) (by rfl)) (by decide) (by rfl) (by rfl)) (@pa_nil _) (by rfl)) (by rfl) (by rfl) (by rfl) (by rfl) (by rfl) (by rfl)) (by rfl))) (by intro _; rfl))
      (@pss_cons _ _ _ _ _ (@ps_for _ _ _ _ _ _ _ _ PassesOwn.never rfl (pi_td (P := w.params) rfl (pv 2)) (pg_name (i := 11) sc_pack.nd rfl (by first | exact Or.inl rfl | exact Or.inr rfl)) (@pss_one _ _ _ (@ps_expr _ _ _ _ (@kpe_bm _ K _ _ _ _ _ _ _ _ _ _ _ PySem.F.plainAttrs_list PySem.F.slot_list_extend PySem.F.type_list_extend mt_extend (pv 7) (@pa_cons _ _ _ _ _ (@pe_call _ _ _ _ _ _ _ _ _ _ _ _ _ _ _ _ G_block (hr.mono (by omega)) rfl T.m_block T.F_block.kp T.b_block .nil pass0 (@pa_cons _ _ _ _ _ (pe_lc (Nt := ["text"]) (Nf := ["places"]) (caps := [6]) rfl (comp_ok (sc := defScope s_pack) rfl rfl (by decide +kernel) (by decide +kernel) (by decide +kernel) rfl (by decide +kernel)) (kpi_tup K (pv 11)) (fun _ _ _ _ _ => (pg_name (i := 0) (show (["text", "places"] : List Str).Nodup by decide +kernel) rfl (by first | exact Or.inl rfl | exact Or.inr rfl))) (fun _ _ _ _ _ => (@pts_nil _)) (fun _ _ _ _ _ => (pe_tget (P := w.params) rfl (by exact hr.units) (pv 1) (pv 0) (fun _ _ => rfl)))) (@pa_nil _) (by rfl)) (by decide) (by rfl) (by rfl)) (@pa_nil _) (by rfl)) (by rfl) (by rfl) (by rfl) (by rfl) (by rfl) (by rfl)) (by rfl))) (by intro _; rfl))
      (@pss_one _ _ _ (@ps_ret _ _ _ _ (@pe_tupN _ _ _ _ _ (@pa_cons _ _ _ _ _ (@pe_callTy _ _ _ _ _ _ _ _ _ (kcl_list K) (by rfl) T.z_list bb_list (@pa_cons _ _ _ _ _ (@pe_ix _ _ _ _ _ _ _ (kix_tup K) (pv 0) (@pe_int _ _ _ _) (fun _ _ => rfl)) (@pa_nil _) (by rfl)) (by decide) (by decide) (by rfl) (by rfl)) (@pa_cons _ _ _ _ _ (pv 5) (@pa_cons _ _ _ _ _ (pv 7) (@pa_nil _) (by rfl)) (by rfl)) (by rfl))))))))))))))), ?_⟩
    generalize hTF3 : (tFor (iTd _ _) (gName 11) _ : TS) = TF3
    revert hTF3
    revert TF3
    refine keepE ?_
    intro TF3 hTF3
    generalize hTF2 : (tFor (iTd _ _) (gName 10) _ : TS) = TF2
    revert hTF2
    revert TF2
    refine keepE ?_
    intro TF2 hTF2
    generalize hTF1 : (tFor (iZip _ _) _ _ : TS) = TF1
    revert hTF1
    revert TF1
    refine keepE ?_
    intro TF1 hTF1
    generalize hTC7 : (tSeq (tAsg _ (gName 7)) _ : TS) = TC7
    revert hTC7
    revert TC7
    refine keepE ?_
    intro TC7 hTC7
    generalize hTC5 : (tSeq (tAsg _ (gName 5)) _ : TS) = TC5
    revert hTC5
    revert TC5
    refine keepE ?_
    intro TC5 hTC5
    generalize hTC4 : (tSeq (tAsg _ (gName 4)) _ : TS) = TC4
    revert hTC4
    revert TC4
    refine keepE ?_
    intro TC4 hTC4
    have sl : (1000000 : Nat) ≤ sizeLine := le_line (Nat.le_refl _)
    obtain ⟨tt, us, rvs, rfl, h1, h2, h3, h4, h5, h6⟩ := hT.ex
    have rl : rvs.length = rs.length := by rw [h6.len, List.length_map]
    have hnr := ok.nr
    have hsl := sayL_len ok
    walk_at "go"
    refine i_ixT (SqT.of h1) (atI_nat (j := 2) rfl) ?_
    walk_at "run"
    refine ⟨_, a, b, c, es, sy, rs, gs, rfl, hT, ok, fun p1 us1 H1 f1 s1 e1 hs1 => ?_⟩
    walk_at "run"
    refine ⟨p1, us1, List Str, inferInstance, sT, sayL sy rs, rfl, SqL.of e1, hs1, fun a b => sT_inj, sT_h, by omega, fun d1 H2 f2 s2 hD => ?_⟩
    walk_at "run"
    have s02 := s1.trans s2
    obtain ⟨L, hL⟩ : ∃ L, L = mets (sayL sy rs) := ⟨_, rfl⟩
    have Lnd : L.Nodup := by rw [hL]; exact mets_nd _
    have Lm : ∀ x, x ∈ L ↔ x ∈ sayL sy rs := fun x => by rw [hL]; exact mets_mem x _
    have Ll : L.length ≤ 50 := Nat.le_trans (nd_len Lnd fun x hx => (hin x ((Lm x).mp hx)).1) hM
    rw [← hL] at hD
    refine ⟨⟨_, SqL.of (s02 _ _ h5)⟩, cc_list (xs := rvs) (by omega) (fun i acc H' => i ≤ rs.length ∧ acc.length = i ∧ Same H2 H' ∧ ∃ rows : List (List (Nat × Nat)), rows.length = i ∧ Tr.Ats H' (rows.map rT) acc [] ∧ ∀ (j : Nat) (r : Room_), j < i → rs[j]? = some r → ∃ row, rows[j]? = some row ∧ PairsOf L r row) ⟨Nat.zero_le _, rfl, Same.refl _, [], rfl, ats_nil0.mpr rfl, fun j r h => absurd h (by omega)⟩ (fun i acc H' ⟨_, e, s', _⟩ => ⟨by omega, SqL.of ((s02.trans s') _ _ h5)⟩) ?_ ?_⟩
    · rintro i v acc H3 hv ⟨hi, ea, s3, rows, hrl, hat, hrow⟩
      obtain ⟨tx, fx, hx1, hx2, _⟩ := (h6.same (s02.trans s3)).get i v hv
      rw [List.getElem?_map] at hx1
      obtain ⟨r, hr, rfl⟩ := Option.map_eq_some_iff.mp hx1
      have hrm := List.mem_of_getElem? hr
      have hi' : i < rs.length := (List.getElem?_eq_some_iff.mp hr).1
      have := ok.ne
      walk_at "run"
      refine ⟨v, d1, r, fx, L, rfl, hx2, dt_same hD s3, Lnd, by rw [(ok.ok r hrm).1]; omega, fun x hx => (Lm _).mpr ?_, fun v' row H4 s4 hr4 hp => ?_⟩
      · exact List.mem_cons_of_mem _ (List.mem_flatMap.mpr ⟨r, hrm, List.mem_map.mpr ⟨x, hx, rfl⟩⟩)
      refine ⟨hi', by simp [ea], s3.trans s4, rows ++ [row], by simp [hrl], ?_, fun j r' hj hr' => ?_⟩
      · rw [List.map_append]
        exact ats_app0.mpr ⟨_, _, rfl, hat.same s4, ats_cons0.mpr ⟨_, _, rfl, hr4, ats_nil0.mpr rfl⟩⟩
      · by_cases hji : j = i
        · subst hji
          rw [hr] at hr'
          cases hr'
          exact ⟨row, by rw [List.getElem?_append_right (by omega), hrl, Nat.sub_self]; rfl, hp⟩
        · obtain ⟨row', a1, a2⟩ := hrow j r' (by omega) hr'
          exact ⟨row', by rw [List.getElem?_append_left (List.getElem?_eq_some_iff.mp a1).1]; exact a1, a2⟩
    rintro acc H3 ⟨_, ea, s3, rows, hrl, hat, hrow⟩ pr H4 f4 s4 e4
    rw [rl] at ea hrl hrow
    walk_at "run"
    subst hTC4
    walk_at "run"
    refine ⟨pr, acc, List (Nat × Nat), inferInstance, rT, rows, rfl, SqL.of e4, hat.same s4, fun a b => rT_inj, rT_h, by omega, fun d2 H5 f5 s5 hD2 => ?_⟩
    walk_at "run"
    have s25 := s3.trans (s4.trans s5)
    have hD5 := dt_same hD s25
    subst hTC5
    walk_at "run"
    refine ⟨d1, _, rfl, hD5, fun p6 ks H6 f6 s6 e6 hk6 => ?_⟩
    rw [show (numd sT L).map (·.1) = L.map sT from numF_keys _ _ _] at hk6
    walk_at "run"
    refine ⟨p6, ks, L, W, rfl, SqL.of e6, hk6, Ll, fun s hs => ⟨?_, (hin s ((Lm s).mp hs)).2⟩, hW, fun px txs H7 f7 s7 e7 txnd txm txl txso => ?_⟩
    · rcases List.mem_cons.mp ((Lm s).mp hs) with rfl | h
      · exact ok.ns
      · obtain ⟨r, hr, hx⟩ := List.mem_flatMap.mp h
        obtain ⟨x, hx2, rfl⟩ := List.mem_map.mp hx
        exact ((ok.ok r hr).2 x hx2).2
    walk_at "run"
    refine ⟨px, strsV txs, Str, inferInstance, Tr.str, txs, rfl, SqL.of e7, strs_tr txs, fun a b h => by injection h, fun x => by simp [Tr.h], by omega, fun d3 H8 f8 s8 hD3 => ?_⟩
    rw [mets_same txnd] at hD3
    have s58 := s6.trans (s7.trans s8)
    have s08 := s02.trans (s25.trans s58)
    have e7' := s8 _ _ e7
    have e4' := (s5.trans s58) _ _ e4
    have hat8 := hat.same (s4.trans (s5.trans s58))
    have fpx : H px = none := s02.free (s25.free (s6.free f7))
    have hD8 := dt_same hD5 s58
    have hD28 := dt_same hD2 s58
    have fd1 : H d1 = none := s1.free f2
    have fd2 : H d2 = none := s02.free ((s3.trans s4).free f5)
    have d12 : d2 ≠ d1 := by
      obtain ⟨φ, hφ⟩ := (dt_same hD (s3.trans s4)).ext
      exact (ne_of_none hφ f5).symm
    have d13 : d3 ≠ d1 := by
      obtain ⟨φ, hφ⟩ := (dt_same hD5 (s6.trans s7)).ext
      exact (ne_of_none hφ f8).symm
    have d23 : d3 ≠ d2 := by
      obtain ⟨φ, hφ⟩ := (dt_same hD2 (s6.trans s7)).ext
      exact (ne_of_none hφ f8).symm
    clear hk6 e6 f6 hD5 hD2 hD e7 e4 hat f7 s6 s7 s8 s25 s3 s4 s5 s1 s2 s02 hs1 e1 f1 f2 f4 f5 f8 s58
    walk_at "run"
    subst hTC7
    walk_at "run"
    refine i_lenL (SqL.of (s08 _ _ h5)) ?_
    walk_at "run"
    refine ⟨d1, _, rfl, hD8, ?_⟩
    walk_at "run"
    refine ⟨d2, _, rfl, hD28, ?_⟩
    walk_at "run"
    refine i_ixT (SqT.of (s08 _ _ h1)) (atI_nat (j := 1) rfl) ?_
    walk_at "run"
    refine i_tupleL (SqL.of (s08 _ _ h4)) ?_
    intro pq H9 f9 s9 e9
    obtain ⟨n0, hn0, hval0⟩ := has_num (f := sT) (fun a b => sT_inj) Lnd ((Lm sy).mpr (List.mem_cons_self ..))
    refine ⟨d1, _, sT sy, _, rfl, dt_same hD8 s9, ⟨sT_to e9, sT_h _⟩, hval0, ?_⟩
    walk_at "run"
    unfold numd
    rw [numF_len, numF_len, rl]
    intro pc H10 f10 s10 e10
    walk_at "run"
    subst hTF1
    walk_at "run"
    have fpc : H pc = none := s08.free (s9.free f10)
    have s09 := s08.trans s9
    have hml := mets_len rows
    obtain ⟨hd4, hhd⟩ : ∃ hd4 : List Nat, hd4 = [rs.length, L.length, (mets rows).length, n0] := ⟨_, rfl⟩
    have h4l : hd4.length = 4 := by rw [hhd]; rfl
    obtain ⟨Pv, hPv⟩ : ∃ Pv : Nat → St → Hp → Prop, Pv = (fun i σ H' => i ≤ rs.length ∧ Same H9 H' ∧ (∃ told : List Nat, H' pc = some (.lst (natsV (hd4 ++ told))) ∧ told.length = i ∧ ∀ (j : Nat) (r : Room_), j < i → rs[j]? = some r → ∃ row m, rows[j]? = some row ∧ (mets rows)[m]? = some row ∧ told[j]? = some (2 * m + if r.1 = true then 1 else 0)) ∧ ∃ y z, σ = [some (.ref tt), some (.ref c), some (.ref d1), some (.ref pr), some (.ref d2), some (.ref px), some (.ref d3), some (.ref pc), y, z, none, none]) := ⟨_, rfl⟩
    refine ⟨c, pr, rfl, ⟨_, SqL.of ((s09.trans s10) _ _ h5)⟩, ⟨_, SqL.of ((s9.trans s10) _ _ e4')⟩, for_zip (K := K) (xs := rvs) (ys := acc) (by omega) Pv (by rw [hPv]; exact ⟨Nat.zero_le _, s10, ⟨[], by rw [e10, hhd]; rfl, rfl, fun j r h => absurd h (by omega)⟩, _, _, rfl⟩) (fun i σ H' _ hI => by rw [hPv] at hI; obtain ⟨_, s', _⟩ := hI; exact ⟨SqL.of ((s09.trans s') _ _ h5), SqL.of ((s9.trans s') _ _ e4')⟩) ?_ ?_⟩
    · intro i v u σ H11 p12 H12 hv hu hI s12 e12
      rw [hPv] at hI
      obtain ⟨hi, s11, ⟨told, e11, htl, ht⟩, y, z, rfl⟩ := hI
      have s912 := s11.trans s12
      have s012 := s09.trans s912
      obtain ⟨tx, fx, hx1, hx2, _⟩ := (h6.same s012).get i v hv
      rw [List.getElem?_map] at hx1
      obtain ⟨r, hr, rfl⟩ := Option.map_eq_some_iff.mp hx1
      obtain ⟨q1, g, ps, gs1, rfl, k1, k2, k3, rfl⟩ := room_w.mp hx2
      obtain ⟨ty, hy1, hy2⟩ := ats_get0 (hat8.same (s9.trans s912)) hu
      rw [List.getElem?_map] at hy1
      obtain ⟨row, hrow1, rfl⟩ := Option.map_eq_some_iff.mp hy1
      have hi' : i < rs.length := (List.getElem?_eq_some_iff.mp hr).1
      obtain ⟨m, hm, hval⟩ := has_num (f := rT) (fun a b => rT_inj) (mets_nd rows) ((mets_mem row rows).mpr (List.mem_of_getElem? hrow1))
      have hmlt : m < (mets rows).length := (List.getElem?_eq_some_iff.mp hm).1
      refine i_asgT (SqT.of e12) rfl ?_
      walk_at "run"
      refine i_tyL (SqL.of (s12 _ _ e11)) ?_
      walk_at "run"
      refine ⟨d2, _, rT row, _, rfl, dt_same hD28 (s9.trans s912), ⟨hy2, rT_h _⟩, hval, ?_⟩
      walk_at "run"
      refine i_ixT (SqT.of k1) (atI_nat (j := 0) rfl) ?_
      walk_at "run"
      have fin : ∀ n : Nat, n = 2 * m + (if r.1 = true then 1 else 0) → ∀ vv : V, vv = .int (n : Nat) → rAppend (.ref pc) [vv] H12 fun x H1 => Pv (i + 1) [some (V.ref tt), some (.ref c), some (.ref d1), some (.ref pr), some (.ref d2), some (.ref px), some (.ref d3), some (.ref pc), some (V.ref q1), some u, none, none] H1 := by
        rintro n hn vv rfl
        refine i_append (s12 _ _ e11) (by rw [natsV_len, List.length_append]; omega) ?_
        rw [hPv]
        refine ⟨hi', s912.updNew f10, ⟨told ++ [n], by rw [upd_same, natsV_snoc, List.append_assoc], by simp [htl], fun j r' hj hr' => ?_⟩, _, _, rfl⟩
        by_cases hji : j = i
        · subst hji
          rw [hr] at hr'
          cases hr'
          exact ⟨row, m, hrow1, hm, by rw [List.getElem?_append_right (by omega), htl, Nat.sub_self, ← hn]; rfl⟩
        · obtain ⟨row', m', a1, a2, a3⟩ := ht j r' (by omega) hr'
          exact ⟨row', m', a1, a2, by rw [List.getElem?_append_left (List.getElem?_eq_some_iff.mp a3).1]; exact a3⟩
      refine ite2 (fun hb => ?_) (fun hb => ?_)
      · rw [if_pos hb] at fin
        walk_at "run"
        exact fin (2 * m + 1) rfl _ (by rw [show ((2 * m + 1 : Nat) : Int) = 2 * (m : Nat) + 1 by omega])
      · rw [if_neg hb] at fin
        walk_at "run"
        exact fin (2 * m) rfl _ (by rw [show ((2 * m : Nat) : Int) = 2 * (m : Nat) + 0 by omega])
    intro σ H11 hI
    rw [hPv] at hI
    obtain ⟨_, s11, ⟨told, e11, htl, ht⟩, y, z, rfl⟩ := hI
    clear hPv Pv
    rw [rl] at htl ht
    walk_at "run"
    subst hTF2
    walk_at "run"
    have s911 := s9.trans s11
    refine ⟨d2, _, rfl, dt_same hD28 s911, fun m2 o2 H12 hm2 hk2 fz2 => ?_⟩
    have hD1 := dt_same hD8 s911
    have hD311 := dt_same hD3 s911
    have e7'' := s911 _ _ e7'
    have s011 := s08.trans s911
    have npc : ∀ {x : Addr} {o : HO}, H8 x = some o → x ≠ pc := fun e => ne_of_none (s9 _ _ e) f10
    have npc2 : pc ≠ d2 := by
      obtain ⟨φ, hφ⟩ := hD28.ext
      exact (npc hφ).symm
    have npc1 : pc ≠ d1 := by
      obtain ⟨φ, hφ⟩ := hD8.ext
      exact (npc hφ).symm
    have npc3 : d3 ≠ pc := by
      obtain ⟨φ, hφ⟩ := hD3.ext
      exact npc hφ
    have npx : px ≠ pc := npc e7'
    have t12 : Tups H11 H12 := fun b ys e => by
      obtain ⟨φ, hφ⟩ := (dt_same hD28 s911).ext
      exact hk2 b _ (ne_of e hφ (fun z => nomatch z)) e
    have hml2 : m2.length = (mets rows).length := by
      have := congrArg List.length hm2
      simpa [numd, numF_len] using this
    have hkey2 : ∀ (i : Nat) x, m2[i]? = some x → ∃ row, (mets rows)[i]? = some row ∧ x.1 = rT row := fun i x hx => by
      have h : (m2.map fun x => (x.1, x.2.2)).map (·.1) = (mets rows).map rT := by rw [hm2]; exact numF_keys _ _ _
      have h' := congrArg (fun l => l[i]?) h
      simp only [List.getElem?_map, hx, Option.map_some] at h'
      obtain ⟨row, a1, a2⟩ := Option.map_eq_some_iff.mp h'.symm
      exact ⟨row, a1, a2.symm⟩
    have hrok : ∀ row ∈ mets rows, ∃ r ∈ rs, PairsOf L r row ∧ row.length = es.length := fun row hr => by
      obtain ⟨j, hj, rfl⟩ := List.mem_iff_getElem.mp ((mets_mem _ _).mp hr)
      have hj' : j < rs.length := by omega
      obtain ⟨row', a1, a2⟩ := hrow j rs[j] hj' (List.getElem?_eq_getElem hj')
      rw [List.getElem?_eq_getElem hj] at a1
      cases a1
      exact ⟨rs[j], List.getElem_mem _, a2, by rw [a2.1]; exact (ok.ok _ (List.getElem_mem _)).1⟩
    have hel := ok.ne
    have hb2 : ∀ (shs : List Sh) (i : Nat), i ≤ (mets rows).length → shs.length = i → (∀ (j : Nat) (row : List (Nat × Nat)), j < i → (mets rows)[j]? = some row → ∃ c, IsC row c ∧ shs[j]? = some (c, excF c row 0)) → (∀ h ∈ shs, h.2.length ≤ 20) ∧ (blocks (shs.map shL)).length ≤ 6300 := fun shs i hi hl hs => by
      have h1 : ∀ h ∈ shs, h.2.length ≤ 20 := fun h hh => by
        obtain ⟨j, hj, rfl⟩ := List.mem_iff_getElem.mp hh
        have hj' : j < (mets rows).length := by omega
        obtain ⟨c, _, e⟩ := hs j (mets rows)[j] (by omega) (List.getElem?_eq_getElem hj')
        rw [List.getElem?_eq_getElem hj] at e
        injection e with e
        rw [e]
        have := excF_len c (mets rows)[j] 0
        obtain ⟨r, _, _, h⟩ := hrok (mets rows)[j] (List.getElem_mem _)
        simp only
        omega
      refine ⟨h1, ?_⟩
      have := fm_len (f := fun l : List Nat => l.length :: l) (n := 63) (l := shs.map shL) fun l hl => by
        obtain ⟨h, hh, rfl⟩ := List.mem_map.mp hl
        have := h1 h hh
        simp only [List.length_cons, shL, flat3_len]
        omega
      have h2 := Nat.mul_le_mul_right 63 (show (shs.map shL).length ≤ 100 by rw [List.length_map]; omega)
      unfold blocks
      omega
    obtain ⟨Pv, hPv⟩ : ∃ Pv : Nat → St → Hp → Prop, Pv = (fun i σ H' => i ≤ m2.length ∧ (∀ x o, x ≠ d2 → x ≠ pc → H11 x = some o → H' x = some o) ∧ FzAt w.params H' d2 m2 o2 ∧ (∃ shs : List Sh, H' pc = some (.lst (natsV (hd4 ++ told ++ blocks (shs.map shL)))) ∧ shs.length = i ∧ ∀ (j : Nat) (row : List (Nat × Nat)), j < i → (mets rows)[j]? = some row → ∃ c, IsC row c ∧ shs[j]? = some (c, excF c row 0)) ∧ ∃ y z u, σ = [some (.ref tt), some (.ref c), some (.ref d1), some (.ref pr), some (.ref d2), some (.ref px), some (.ref d3), some (.ref pc), y, z, u, none]) := ⟨_, rfl⟩
    refine for_td Pv (by rw [hPv]; exact ⟨Nat.zero_le _, fun x o h1 h2 e => hk2 x o h1 e, fz2, ⟨[], by rw [hk2 _ _ npc2 e11]; simp [blocks], rfl, fun j row h => absurd h (by omega)⟩, _, _, _, rfl⟩) (fun i σ H' _ hI => by rw [hPv] at hI; obtain ⟨_, _, h, _⟩ := hI; exact h.e) ?_ ?_
    · intro i x σ H13 hx hI
      rw [hPv] at hI
      obtain ⟨hi, hk, fz, ⟨shs, e13, hsl2, hsh⟩, y, z, u, rfl⟩ := hI
      have hxm := List.mem_of_getElem? hx
      obtain ⟨row, hrow1, hxr⟩ := hkey2 i x hx
      have hrm := List.mem_of_getElem? hrow1
      obtain ⟨r, hr, hpo, hrlen⟩ := hrok row hrm
      have hat13 := (fz.k x hxm).1
      rw [hxr] at hat13
      obtain ⟨ra, rus, hra, hrt, hrats⟩ := at_tup0.mp hat13
      rw [hra]
      have hi' : i < (mets rows).length := (List.getElem?_eq_some_iff.mp hrow1).1
      obtain ⟨hb3, hb4⟩ := hb2 shs i (by omega) hsl2 hsh
      walk_at "run"
      refine i_tyL (SqL.of e13) ?_
      walk_at "run"
      refine ⟨ra, rus, row, rfl, hrt, hrats, by omega, by omega, fun p14 cc H14 f14 s14 hcc e14 => ?_⟩
      walk_at "run"
      have hlen14 : (shL (cc, excF cc row 0)).length ≤ 62 := by
        have := excF_len cc row 0
        simp only [shL, List.length_cons, flat3_len]
        omega
      refine ⟨p14, _, rfl, e14, by omega, fun p15 H15 f15 s15 e15 => ?_⟩
      walk_at "run"
      have s1315 := s14.trans s15
      have e13' := s1315 _ _ e13
      refine i_extend e13' e15 (by simp only [natsV_len, List.length_append, List.length_cons]; omega) ?_
      rw [hPv]
      refine ⟨by omega, fun x o h1 h2 e => by rw [upd_ne h2]; exact s1315 _ _ (hk x o h1 h2 e), (fz.same s1315).mono (Tups.upd e13') (upd_ne (Ne.symm npc2)), ⟨shs ++ [(cc, excF cc row 0)], ?_, by simp [hsl2], fun j row' hj hr' => ?_⟩, _, _, _, rfl⟩
      · rw [upd_same]
        simp [blocks, natsV]
      · by_cases hji : j = i
        · subst hji
          rw [hrow1] at hr'
          cases hr'
          exact ⟨cc, hcc, by rw [List.getElem?_append_right (by omega), hsl2, Nat.sub_self]; rfl⟩
        · obtain ⟨c', a1, a2⟩ := hsh j row' (by omega) hr'
          exact ⟨c', a1, by rw [List.getElem?_append_left (List.getElem?_eq_some_iff.mp a2).1]; exact a2⟩
    intro σ H13 hI
    rw [hPv] at hI
    obtain ⟨_, hk, fz, ⟨shs, e13, hsl2, hsh⟩, y, z, u, rfl⟩ := hI
    clear hPv Pv
    walk_at "run"
    subst hTF3
    walk_at "run"
    rw [hml2] at hsl2 hsh
    obtain ⟨hb3, hb4⟩ := hb2 shs _ (Nat.le_refl _) hsl2 hsh
    obtain ⟨φ1, hφ1⟩ := hD1.ext
    obtain ⟨φ2, hφ2⟩ := (dt_same hD28 s911).ext
    obtain ⟨φ3, hφ3⟩ := hD311.ext
    have t13 : Tups H11 H13 := fun b ys e => hk b _ (ne_of e hφ2 (fun z => nomatch z)) (ne_of e e11 (fun z => nomatch z)) e
    have hD13 : DtAt w.params H13 d1 (numd sT L) := hD1.mono t13 (by rw [hφ1]; exact hk _ _ (Ne.symm d12) (Ne.symm npc1) hφ1)
    have hD313 : DtAt w.params H13 d3 (numd Tr.str txs) := hD311.mono t13 (by rw [hφ3]; exact hk _ _ d23 npc3 hφ3)
    obtain ⟨φ4, hφ4⟩ := hD313.ext
    obtain ⟨φ5, hφ5⟩ := hD13.ext
    refine ⟨d1, _, rfl, hD13, fun m1 o1 H14 hm1 hk1 fz1 => ?_⟩
    have t14 : Tups H13 H14 := fun b ys e => hk1 b _ (ne_of e hφ5 (fun z => nomatch z)) e
    have hml1 : m1.length = L.length := by
      have := congrArg List.length hm1
      simpa [numd, numF_len] using this
    have hkey1 : ∀ (i : Nat) x, m1[i]? = some x → ∃ s, L[i]? = some s ∧ x.1 = sT s := fun i x hx => by
      have h : (m1.map fun x => (x.1, x.2.2)).map (·.1) = L.map sT := by rw [hm1]; exact numF_keys _ _ _
      have h' := congrArg (fun l => l[i]?) h
      simp only [List.getElem?_map, hx, Option.map_some] at h'
      obtain ⟨row, a1, a2⟩ := Option.map_eq_some_iff.mp h'.symm
      exact ⟨row, a1, a2.symm⟩
    have hLl : ∀ s ∈ L, s.length ≤ 20 := fun s hs => by
      rcases List.mem_cons.mp ((Lm s).mp hs) with rfl | h
      · exact ok.ns
      · obtain ⟨r, hr, hx⟩ := List.mem_flatMap.mp h
        obtain ⟨x, hx2, rfl⟩ := List.mem_map.mp hx
        exact ((ok.ok r hr).2 x hx2).2
    have hb5 : ∀ (sys : List (List Nat)) (i : Nat), i ≤ L.length → sys.length = i → (∀ (j : Nat) (s : List Str), j < i → L[j]? = some s → ∃ l, sys[j]? = some l ∧ l.length = s.length ∧ txOf txs l = s ∧ ∀ n ∈ l, n < txs.length) → (∀ l ∈ sys, l.length ≤ 20 ∧ ∀ n ∈ l, n < txs.length) ∧ (blocks sys).length ≤ 1050 := fun sys i hi hl hs => by
      have h1 : ∀ l ∈ sys, l.length ≤ 20 ∧ ∀ n ∈ l, n < txs.length := fun l hh => by
        obtain ⟨j, hj, rfl⟩ := List.mem_iff_getElem.mp hh
        have hj' : j < L.length := by omega
        obtain ⟨c, e, e2, _, e3⟩ := hs j L[j] (by omega) (List.getElem?_eq_getElem hj')
        rw [List.getElem?_eq_getElem hj] at e
        injection e with e
        rw [e]
        exact ⟨by rw [e2]; exact hLl _ (List.getElem_mem _), e3⟩
      refine ⟨h1, ?_⟩
      have := fm_len (f := fun l : List Nat => l.length :: l) (n := 21) (l := sys) fun l hl => by
        have := (h1 l hl).1
        simp only [List.length_cons]
        omega
      have h2 := Nat.mul_le_mul_right 21 (show sys.length ≤ 50 by omega)
      unfold blocks
      omega
    obtain ⟨Pv, hPv⟩ : ∃ Pv : Nat → St → Hp → Prop, Pv = (fun i σ H' => i ≤ m1.length ∧ (∀ x o, x ≠ d1 → x ≠ pc → H13 x = some o → H' x = some o) ∧ FzAt w.params H' d1 m1 o1 ∧ (∃ sys : List (List Nat), H' pc = some (.lst (natsV (hd4 ++ told ++ blocks (shs.map shL) ++ blocks sys))) ∧ sys.length = i ∧ ∀ (j : Nat) (s : List Str), j < i → L[j]? = some s → ∃ l, sys[j]? = some l ∧ l.length = s.length ∧ txOf txs l = s ∧ ∀ n ∈ l, n < txs.length) ∧ ∃ y z u v, σ = [some (.ref tt), some (.ref c), some (.ref d1), some (.ref pr), some (.ref d2), some (.ref px), some (.ref d3), some (.ref pc), y, z, u, v]) := ⟨_, rfl⟩
    refine for_td Pv (by rw [hPv]; exact ⟨Nat.zero_le _, fun x o h1 h2 e => hk1 x o h1 e, fz1, ⟨[], by rw [hk1 _ _ npc1 e13]; simp [blocks], rfl, fun j row h => absurd h (by omega)⟩, _, _, _, _, rfl⟩) (fun i σ H' _ hI => by rw [hPv] at hI; obtain ⟨_, _, h, _⟩ := hI; exact h.e) ?_ ?_
    · intro i x σ H15 hx hI
      rw [hPv] at hI
      obtain ⟨hi, hk5, fz5, ⟨sys, e15, hsl5, hsy⟩, y, z, u, v, rfl⟩ := hI
      have hxm := List.mem_of_getElem? hx
      obtain ⟨sg, hsg, hxr⟩ := hkey1 i x hx
      have hsm := List.mem_of_getElem? hsg
      have hat15 := (fz5.k x hxm).1
      rw [hxr] at hat15
      obtain ⟨sa, hsa, hst⟩ := sT_of hat15
      rw [hsa]
      have hi' : i < L.length := (List.getElem?_eq_some_iff.mp hsg).1
      obtain ⟨_, hb6⟩ := hb5 sys i (by omega) hsl5 hsy
      have hsgl := hLl sg hsm
      have t15 : Tups H13 H15 := fun b ys e => hk5 b _ (ne_of e hφ5 (fun z => nomatch z)) (ne_of e e13 (fun z => nomatch z)) e
      have hD15 : DtAt w.params H15 d3 (numd Tr.str txs) := hD313.mono t15 (by rw [hφ4]; exact hk5 _ _ d13 npc3 hφ4)
      walk_at "run"
      refine i_tyL (SqL.of e15) ?_
      walk_at "run"
      refine ⟨⟨_, SqT.of hst⟩, cc_tup (xs := strsV sg) (by simp only [strsV, List.length_map]; omega) (fun i acc H' => i ≤ sg.length ∧ H' = H15 ∧ ∃ l, acc = natsV l ∧ l.length = i ∧ txOf txs l = sg.take i ∧ ∀ n ∈ l, n < txs.length) ⟨Nat.zero_le _, rfl, [], rfl, rfl, rfl, by simp⟩ (fun i acc H' ⟨_, e, l, e2, e3, _⟩ => ⟨by rw [e2, natsV_len]; omega, e ▸ SqT.of hst⟩) ?_ ?_⟩
      · rintro j x' acc' H' hx' ⟨hj, rfl, l, rfl, hll, htx, hln⟩
        obtain ⟨t0, ht0, rfl⟩ := strsV_get hx'
        have ht0m : t0 ∈ txs := (txm t0).mpr ⟨sg, hsm, List.mem_of_getElem? ht0⟩
        obtain ⟨n, hn, hvn⟩ := has_num (f := Tr.str) (fun a b h => by injection h) txnd ht0m
        walk_at "run"
        refine ⟨d3, _, .str t0, _, rfl, hD15, ⟨str_at0, by simp [Tr.h]⟩, hvn, ?_⟩
        refine ⟨(List.getElem?_eq_some_iff.mp ht0).1, rfl, l ++ [n], natsV_snoc _ _, by simp [hll], ?_, fun k hk => ?_⟩
        · rw [List.take_add_one, ht0]
          unfold txOf at htx ⊢
          rw [List.map_append, htx]
          simp [hn]
        · rcases List.mem_append.mp hk with h | h
          · exact hln k h
          · rw [List.mem_singleton.mp h]; exact (List.getElem?_eq_some_iff.mp hn).1
      rintro acc' H' ⟨_, rfl, l, rfl, hll, htx, hln⟩ p16 H16 f16 s16 e16
      rw [show (strsV sg).length = sg.length by simp [strsV]] at hll htx
      rw [List.take_length] at htx
      walk_at "run"
      refine ⟨p16, _, rfl, e16, by omega, fun p17 H17 f17 s17 e17 => ?_⟩
      walk_at "run"
      have s1517 := s16.trans s17
      have e15' := s1517 _ _ e15
      refine i_extend e15' e17 (by simp only [natsV_len, List.length_append, List.length_cons]; omega) ?_
      rw [hPv]
      refine ⟨by omega, fun x o h1 h2 e => by rw [upd_ne h2]; exact s1517 _ _ (hk5 x o h1 h2 e), (fz5.same s1517).mono (Tups.upd e15') (upd_ne (Ne.symm npc1)), ⟨sys ++ [l], ?_, by simp [hsl5], fun j row' hj hr' => ?_⟩, _, _, _, _, rfl⟩
      · rw [upd_same]
        simp [blocks, natsV]
      · by_cases hji : j = i
        · subst hji
          rw [hsg] at hr'
          cases hr'
          exact ⟨l, by rw [List.getElem?_append_right (by omega), hsl5, Nat.sub_self]; rfl, hll, htx, hln⟩
        · obtain ⟨c', a1, a2⟩ := hsy j row' (by omega) hr'
          exact ⟨c', by rw [List.getElem?_append_left (List.getElem?_eq_some_iff.mp a1).1]; exact a1, a2⟩
    intro σ H15 hI
    rw [hPv] at hI
    obtain ⟨_, hk5, fz5, ⟨sys, e15, hsl5, hsy⟩, y, z, u, v, rfl⟩ := hI
    clear hPv Pv
    rw [hml1] at hsl5 hsy
    obtain ⟨hb7, hb8⟩ := hb5 sys _ (Nat.le_refl _) hsl5 hsy
    have k15 : ∀ x o, x ≠ d1 → x ≠ d2 → x ≠ pc → H11 x = some o → H15 x = some o := fun x o a1 a2 a3 e => hk5 x o a1 a3 (hk x o a2 a3 e)
    have s015 : Same H H15 := fun x o e => k15 x o (ne_of_none e fd1) (ne_of_none e fd2) (ne_of_none e fpc) (s011 _ _ e)
    walk_at "run"
    refine i_ixT (SqT.of (s015 _ _ h1)) (atI_nat (j := 0) rfl) ?_
    walk_at "run"
    refine i_listL (SqL.of (s015 _ _ h2)) ?_
    intro pe H16 f16 s16 e16
    walk_at "run"
    intro pt H17 f17 s17 e17
    have s1517 := s16.trans s17
    have e17x : H15 px = some (.lst (strsV txs)) := k15 _ _ (ne_of e7'' hφ1 (fun z => nomatch z)) (ne_of e7'' hφ2 (fun z => nomatch z)) npx e7''
    refine q pt pe px pc us txs ⟨told, shs, sys, n0⟩ H17 ⟨s015.trans s1517, e17, s015.free f16, fpx, fpc, (ne_of_none e17x f16).symm, (ne_of_none e15 f16).symm, npx, s17 _ _ e16, h3.same (s015.trans s1517), s1517 _ _ e17x, ?_, ?_, txl, ?_, ?_, ?_⟩
    · rw [s1517 _ _ e15, hhd]
      simp [Pk.cells, htl, hsl2, hsl5]
    · exact built_ok ok hr0 hnr htl (by omega) hsl2 (by omega) hsl5 (by omega) ht hrok hsh (fun l hl => ⟨by have := (hb7 l hl).1; omega, (hb7 l hl).2⟩) hn0
    · exact built_is htl ht hrow hsh hsy hn0
    · rw [← hL]; exact built_fn hL hrl htl ht hrow hsl2 hsh hsl5 hsy txnd hn0
    · rw [← hL]; exact ⟨txso, txnd, txm⟩
namespace Z
def intsV (zs : List Int) : List V := zs.map V.int
theorem intsV_len (zs : List Int) : (intsV zs).length = zs.length := by simp [intsV]
theorem intsV_get {zs : List Int} {j : Nat} {v : V} (h : (intsV zs)[j]? = some v) : ∃ z, zs[j]? = some z ∧ v = .int z := by
  simp only [intsV, List.getElem?_map] at h
  obtain ⟨k, h1, h2⟩ := Option.map_eq_some_iff.mp h
  exact ⟨k, h1, h2.symm⟩
def gi (c : List Int) (i : Nat) : Int := c.getD i 0
theorem gi_at {c : List Int} {i : Nat} (h : i < c.length) : c[i]? = some (gi c i) := by
  unfold gi
  rw [List.getD_eq_getElem?_getD, List.getElem?_eq_getElem h]
  rfl
theorem iv_at {c : List Int} {i : Nat} (h : i < c.length) : (intsV c)[i]? = some (.int (gi c i)) := by
  simp only [intsV, List.getElem?_map, gi_at h]
  rfl
def bp (c : List Int) : Nat → Nat → Option (List Nat)
  | 0, p => if p ≤ c.length then some [p] else none
  | m + 1, p => if c.length ≤ p ∨ gi c p < 0 then none else (bp c m (p + (1 + (gi c p).toNat))).map (p :: ·)
theorem bp_stop {c : List Int} {m p : Nat} (h : c.length ≤ p ∨ gi c p < 0) : bp c (m + 1) p = none := by
  unfold bp
  rw [if_pos h]
theorem bp_go {c : List Int} {m p : Nat} (h : ¬ (c.length ≤ p ∨ gi c p < 0)) : bp c (m + 1) p = (bp c m (p + (1 + (gi c p).toNat))).map (p :: ·) := by
  conv => lhs; unfold bp
  rw [if_neg h]
def block (c : List Int) (p : Nat) : List Int := (c.drop (p + 1)).take (gi c p).toNat
def lastN (l : List Nat) : Nat := l.getLastD 0
abbrev Tri := Int × Int × Int
abbrev Sh := (Int × Int) × List Tri
def flat3 (ts : List Tri) : List Int := ts.flatMap fun t => [t.1, t.2.1, t.2.2]
def shI (h : Sh) : List Int := h.1.1 :: h.1.2 :: flat3 h.2
theorem flat3_len : ∀ ts : List Tri, (flat3 ts).length = ts.length * 3
  | [] => rfl
  | t :: ts => by
    have := flat3_len ts
    simp only [flat3, List.flatMap_cons, List.length_append, List.length_cons, List.length_nil] at this ⊢
    omega
theorem shI_len (h : Sh) : (shI h).length = h.2.length * 3 + 2 := by simp [shI, flat3_len]
theorem flat3_of : ∀ (n : Nat) (l : List Int), l.length = n * 3 → ∃ ts, l = flat3 ts
  | 0, l, h => ⟨[], List.length_eq_zero_iff.mp (by omega)⟩
  | n + 1, [], h => by simp at h
  | n + 1, [_], h => by simp at h; omega
  | n + 1, [_, _], h => by simp at h; omega
  | n + 1, a :: b :: c :: r, h => by
    obtain ⟨ts, e⟩ := flat3_of n r (by simp at h; omega)
    exact ⟨(a, b, c) :: ts, by rw [e]; rfl⟩
theorem shI_of {l : List Int} (h : l.length % 3 = 2) : ∃ s, l = shI s := by
  match l, h with
  | a :: b :: r, h =>
    obtain ⟨ts, e⟩ := flat3_of (r.length / 3) r (by simp at h; omega)
    exact ⟨((a, b), ts), by rw [e]; rfl⟩
theorem flat3_inj : ∀ {ts us : List Tri}, flat3 ts = flat3 us → ts = us
  | [], [], _ => rfl
  | [], u :: us, h => by simp [flat3] at h
  | t :: ts, [], h => by simp [flat3] at h
  | (a, b, c) :: ts, (d, e, f) :: us, h => by
    have h' : a :: b :: c :: flat3 ts = d :: e :: f :: flat3 us := h
    injection h' with h1 h'
    injection h' with h2 h'
    injection h' with h3 h'
    rw [h1, h2, h3, flat3_inj h']
theorem shI_inj {s u : Sh} (h : shI s = shI u) : s = u := by
  obtain ⟨⟨a, b⟩, ts⟩ := s
  obtain ⟨⟨c, d⟩, us⟩ := u
  have h' : a :: b :: flat3 ts = c :: d :: flat3 us := h
  injection h' with h1 h'
  injection h' with h2 h'
  rw [h1, h2, flat3_inj h']
theorem flat3_at : ∀ {ts : List Tri} {i : Nat} {t : Tri}, ts[i]? = some t → ((flat3 ts).drop (i * 3)).take 3 = [t.1, t.2.1, t.2.2] ∧ (flat3 ts)[i * 3]? = some t.1 ∧ (flat3 ts)[i * 3 + 1]? = some t.2.1 ∧ (flat3 ts)[i * 3 + 2]? = some t.2.2
  | [], i, t, h => by simp at h
  | x :: ts, 0, t, h => by
    obtain rfl : x = t := by simpa using h
    refine ⟨?_, ?_, ?_, ?_⟩ <;> simp [flat3]
  | x :: ts, i + 1, t, h => by
    obtain ⟨h1, h2, h3, h4⟩ := flat3_at (ts := ts) (i := i) (t := t) (by simpa using h)
    have e : flat3 (x :: ts) = [x.1, x.2.1, x.2.2] ++ flat3 ts := rfl
    rw [e, show (i + 1) * 3 = i * 3 + 3 by omega]
    refine ⟨?_, ?_, ?_, ?_⟩
    · simpa using h1
    · simpa using h2
    · rw [show i * 3 + 3 + 1 = i * 3 + 1 + 3 by omega]; simpa using h3
    · rw [show i * 3 + 3 + 2 = i * 3 + 2 + 3 by omega]; simpa using h4
theorem shI_at {h : Sh} {i : Nat} {t : Tri} (e : h.2[i]? = some t) : ((shI h).drop (2 + i * 3)).take 3 = [t.1, t.2.1, t.2.2] ∧ (shI h)[2 + i * 3]? = some t.1 ∧ (shI h)[2 + i * 3 + 1]? = some t.2.1 ∧ (shI h)[2 + i * 3 + 2]? = some t.2.2 := by
  obtain ⟨h1, h2, h3, h4⟩ := flat3_at e
  unfold shI
  rw [show 2 + i * 3 = i * 3 + 1 + 1 by omega]
  refine ⟨?_, ?_, ?_, ?_⟩
  · simpa using h1
  · simpa using h2
  · rw [show i * 3 + 1 + 1 + 1 = (i * 3 + 1) + 1 + 1 by omega]; simpa using h3
  · rw [show i * 3 + 1 + 1 + 2 = (i * 3 + 2) + 1 + 1 by omega]; simpa using h4
def asc (E : Int) : Int → List Int → Prop
  | _, [] => True
  | a, e :: es => a < e ∧ e < E ∧ asc E e es
def prs (h : Sh) : List (Int × Int) := h.1 :: h.2.map (·.2)
def WS (c : List Int) (E : Nat) (l : List Int) : Prop := ∃ h, l = shI h ∧ asc E (-1) (h.2.map (·.1)) ∧ ∀ x ∈ prs h, 0 ≤ x.1 ∧ x.1 < gi c 1 ∧ 0 ≤ x.2 ∧ x.2 < gi c 0
def pairsOf (E : Nat) (h : Sh) : List (Int × Int) := h.2.foldl (fun acc t => acc.set t.1.toNat t.2) (List.replicate E h.1)
def WY (c : List Int) (T : Nat) (p : Nat) : Prop := ∀ z ∈ block c p, 0 ≤ z ∧ z < (T : Int)
def RM (c : List Int) (sh sy : List Nat) (E : Nat) (i : Nat) : Prop := 0 ≤ gi c (4 + i) / 2 ∧ gi c (4 + i) / 2 < gi c 2 ∧ (gi c (4 + i) % 2 = 1 → ∃ h, block c (sh.getD (gi c (4 + i) / 2).toNat 0) = shI h ∧ ∀ x ∈ pairsOf E h, x.2 = (i : Int) ∧ gi c (sy.getD x.1.toNat 0) = 0)
def VV (c : List Int) (E T : Nat) : Prop := 4 ≤ c.length ∧ (1 ≤ gi c 0 ∧ gi c 0 ≤ 2000) ∧ (0 ≤ gi c 3 ∧ gi c 3 < gi c 1) ∧ ∃ sh sy, bp c (gi c 2).toNat (4 + (gi c 0).toNat) = some sh ∧ bp c (gi c 1).toNat (lastN sh) = some sy ∧ lastN sy = c.length ∧ (∀ p ∈ sh.dropLast, WS c E (block c p)) ∧ (∀ p ∈ sy.dropLast, WY c T p) ∧ ∀ i, i < (gi c 0).toNat → RM c sh sy E i
theorem bp_len {c : List Int} : ∀ {m p : Nat} {l : List Nat}, bp c m p = some l → l.length = m + 1
  | 0, p, l, h => by
    unfold bp at h
    split at h
    · cases h; rfl
    · cases h
  | m + 1, p, l, h => by
    unfold bp at h
    split at h
    · cases h
    · obtain ⟨l', h1, rfl⟩ := Option.map_eq_some_iff.mp h
      simp [bp_len h1]
theorem bp_head {c : List Int} : ∀ {m p : Nat} {l : List Nat}, bp c m p = some l → ∃ t, l = p :: t
  | 0, p, l, h => by
    unfold bp at h
    split at h
    · cases h; exact ⟨[], rfl⟩
    · cases h
  | m + 1, p, l, h => by
    unfold bp at h
    split at h
    · cases h
    · obtain ⟨l', h1, rfl⟩ := Option.map_eq_some_iff.mp h
      exact ⟨l', rfl⟩
theorem lastN_cons {p q : Nat} {t : List Nat} : lastN (p :: q :: t) = lastN (q :: t) := by simp [lastN]
theorem bp_last {c : List Int} : ∀ {m p : Nat} {l : List Nat}, bp c m p = some l → lastN l ≤ c.length ∧ p ≤ lastN l
  | 0, p, l, h => by
    unfold bp at h
    split at h
    · cases h
      exact ⟨by simpa [lastN], by simp [lastN]⟩
    · cases h
  | m + 1, p, l, h => by
    unfold bp at h
    split at h
    · cases h
    · obtain ⟨l', h1, rfl⟩ := Option.map_eq_some_iff.mp h
      obtain ⟨t, rfl⟩ := bp_head h1
      obtain ⟨x, y⟩ := bp_last h1
      rw [lastN_cons]
      exact ⟨x, by omega⟩
theorem bp_in {c : List Int} : ∀ {m p : Nat} {l : List Nat}, bp c m p = some l → ∀ q ∈ l.dropLast, q < c.length ∧ 0 ≤ gi c q ∧ q + 1 + (gi c q).toNat ≤ lastN l
  | 0, p, l, h, q, hq => by
    unfold bp at h
    split at h
    · cases h
      simp at hq
    · cases h
  | m + 1, p, l, h, q, hq => by
    unfold bp at h
    split at h
    · cases h
    · rename_i hc
      obtain ⟨l', h1, rfl⟩ := Option.map_eq_some_iff.mp h
      obtain ⟨t, rfl⟩ := bp_head h1
      have hl := bp_last h1
      rw [List.dropLast_cons₂] at hq
      rw [lastN_cons]
      rcases List.mem_cons.mp hq with rfl | hq
      · exact ⟨by omega, by omega, by omega⟩
      · exact bp_in h1 q hq
theorem block_at {c : List Int} {q k : Nat} (h : q + 1 + (gi c q).toNat ≤ c.length) (hk : k < (gi c q).toNat) : (block c q)[k]? = some (gi c (q + 1 + k)) := by
  unfold block
  rw [List.getElem?_take_of_lt hk, List.getElem?_drop]
  exact gi_at (by omega)
theorem block_len {c : List Int} {q : Nat} (h : q + 1 + (gi c q).toNat ≤ c.length) : (block c q).length = (gi c q).toNat := by
  simp [block]
  omega
theorem asc_pos {E : Int} : ∀ {a : Int} {l : List Int}, asc E a l → -1 ≤ a → ∀ e ∈ l, 0 ≤ e ∧ e < E
  | _, [], _, _, e, he => by simp at he
  | a, x :: l, h, ha, e, he => by
    obtain ⟨h1, h2, h3⟩ := h
    rcases List.mem_cons.mp he with rfl | he
    · exact ⟨by omega, h2⟩
    · exact asc_pos h3 (by omega) e he
end Z
namespace Z
def sp_bp (K : PySem.W.Frag) : Sp := fun vs H Q _ => ∃ (a : Addr) (c : List Int) (p : Nat) (cnt : Int), vs = [.ref a, .int (p : Nat), .int cnt] ∧ H a = some (.lst (intsV c)) ∧ c.length ≤ 5000 ∧ (∀ H', Same H H' → bp c cnt.toNat p = none → Q .non H') ∧ ∀ q l H', H q = none → Same H H' → bp c cnt.toNat p = some l → H' q = some (.lst (natsV l)) → Q (.ref q) H'
theorem map_map_app {o : Option (List Nat)} {pre : List Nat} {p : Nat} : (o.map (p :: ·)).map (pre ++ ·) = o.map ((pre ++ [p]) ++ ·) := by
  cases o <;> simp
theorem ok_block_places (T : Txt K mg t) : FnOk P w K mg base CX0 1 t.a_block_places t.fd_block_places ["cells", "place", "count"] (sp_bp K) := by
  refine T.F_block_places.ok sc_block_places (fun vs H Q E h => ?_) (fun cdv A outer s H vs Q E hr h => ?_)
  · obtain ⟨a, c, p, cnt, rfl, _⟩ := h
    rfl
  · obtain ⟨a, c, p, cnt, rfl, ha, hcl, qn, q⟩ := h
    refine ⟨_, (@pss_cons _ _ _ _ _ (@ps_set _ _ 3 _ _ _ _ sc_block_places.nd rfl (by first | exact Or.inl rfl | exact Or.inr rfl) (@pe_lstN _ _ _ _ (@pa_cons _ _ _ _ _ (pv 1) (@pa_nil _) (by rfl))) (by rfl) (by first | exact Or.inl rfl | exact Or.inr rfl))
      (@pss_cons _ _ _ _ _ (@ps_while _ _ _ _ _ _ PassesOwn.never (@pt_cmpR _ _ _ _ _ _ _ _ op_le (@pe_callB _ _ _ _ _ _ _ _ _ (kcl_len K) (by rfl) T.z_len bb_len (@pa_cons _ _ _ _ _ (pv 3) (@pa_nil _) (by rfl)) (by decide) (by decide) (by rfl) (by rfl)) (pv 2) (nomark _)) (@pss_cons _ _ _ _ _ (@ps_if _ _ _ _ _ _ _ _ (@PW.pt _ _ _ (@pw_or _ _ _ _ _ _ _ (@pt_cmpR _ _ _ _ _ _ _ _ op_ge (pv 1) (@pe_callB _ _ _ _ _ _ _ _ _ (kcl_len K) (by rfl) T.z_len bb_len (@pa_cons _ _ _ _ _ (pv 0) (@pa_nil _) (by rfl)) (by decide) (by decide) (by rfl) (by rfl)) (nomark _)) (@pw_or1 _ _ _ _ (@pt_cmpR _ _ _ _ _ _ _ _ op_lt (@pe_ix _ _ _ _ _ _ _ (kix_list K) (pv 0) (pv 1) (fun _ _ => rfl)) (@pe_int _ _ _ _) (nomark _))))) (@pss_one _ _ _ (@ps_ret _ _ _ _ (@pe_non _ _ _))) (@pss_nil _))
        (@pss_cons _ _ _ _ _ (@ps_aug _ _ 1 _ _ _ _ _ _ sc_block_places.nd rfl (by first | exact Or.inl rfl | exact Or.inr rfl) (@pe_op _ _ _ _ _ _ _ _ op_plus (@pe_int _ _ _ _) (@pe_ix _ _ _ _ _ _ _ (kix_list K) (pv 0) (pv 1) (fun _ _ => rfl))) ip_add (by first | exact Or.inl rfl | exact Or.inr rfl))
        (@pss_one _ _ _ (@ps_expr _ _ _ _ (@kpe_bm _ K _ _ _ _ _ _ _ _ _ _ _ PySem.F.plainAttrs_list PySem.F.slot_list_append PySem.F.type_list_append mt_append (pv 3) (@pa_cons _ _ _ _ _ (pv 1) (@pa_nil _) (by rfl)) (by rfl) (by rfl) (by rfl) (by rfl) (by rfl) (by rfl)) (by rfl))))))
      (@pss_one _ _ _ (@ps_ret _ _ _ _ (@pe_ifExp _ _ _ _ _ _ _ _ (@pt_cmpR _ _ _ _ _ _ _ _ op_le (pv 1) (@pe_callB _ _ _ _ _ _ _ _ _ (kcl_len K) (by rfl) T.z_len bb_len (@pa_cons _ _ _ _ _ (pv 0) (@pa_nil _) (by rfl)) (by decide) (by decide) (by rfl) (by rfl)) (nomark _)) (pv 3) (@pe_non _ _ _)))))), ?_⟩
    have sl : (1000000 : Nat) ≤ sizeLine := le_line (Nat.le_refl _)
    walk_at "go"
    intro pf H1 f1 s1 e1
    walk_at "run"
    refine i_while (fun m σ H' => Same H H' ∧ ∃ (pre : List Nat) (p' : Nat), σ = [some (.ref a), some (.int (p' : Nat)), some (.int cnt), some (.ref pf)] ∧ m = (cnt - pre.length).toNat ∧ pre.length ≤ p' ∧ pre.length ≤ 5000 ∧ bp c cnt.toNat p = (bp c (cnt - pre.length).toNat p').map (pre ++ ·) ∧ H' pf = some (.lst (natsV (pre ++ [p'])))) cnt.toNat ⟨s1, [], p, rfl, by simp, by simp, by simp, by simp, e1⟩ ?_
    rintro m σ H2 ⟨s2, pre, p', rfl, rfl, hpl, hpl2, hbp, hpf⟩
    have ha2 := s2 _ _ ha
    walk_at "run"
    refine i_lenL (SqL.of hpf) ?_
    walk_at "run"
    have ol : (natsV (pre ++ [p'])).length = pre.length + 1 := by simp [natsV]
    rw [ol]
    refine ite2 (fun hd => ?_) (fun hd => ?_)
    · have hlt : (pre.length : Int) + 1 ≤ cnt := by have := of_decide_eq_true hd; omega
      have em : (cnt - pre.length).toNat = (cnt - (pre ++ [p']).length).toNat + 1 := by simp; omega
      refine ⟨fun σ' H' => Same H H' ∧ ∃ p'' : Nat, σ' = [some (.ref a), some (.int (p'' : Nat)), some (.int cnt), some (.ref pf)] ∧ (pre ++ [p']).length ≤ p'' ∧ (pre ++ [p']).length ≤ 5000 ∧ bp c cnt.toNat p = (bp c (cnt - (pre ++ [p']).length).toNat p'').map ((pre ++ [p']) ++ ·) ∧ H' pf = some (.lst (natsV ((pre ++ [p']) ++ [p'']))), fun σ' H' ⟨s', p'', e, h1, h2, h3, h4⟩ => ⟨_, by rw [em]; exact Nat.lt_succ_self _, s', pre ++ [p'], p'', e, rfl, h1, h2, h3, h4⟩, ?_⟩
      walk_at "run"
      refine i_lenL (SqL.of ha2) ?_
      walk_at "run"
      rw [intsV_len]
      refine ite2 (fun hx => ?_) (fun hx => ?_)
      · walk_at "run"
        have : c.length ≤ p' := by have := of_decide_eq_true hx; omega
        refine qn H2 s2 ?_
        rw [hbp, em, bp_stop (.inl this)]
        rfl
      have hlt2 : p' < c.length := Nat.lt_of_not_le fun z => hx (decide_eq_true (by omega))
      walk_at "run"
      refine i_ixL (SqL.of ha2) (atI_nat (iv_at hlt2)) ?_
      walk_at "run"
      refine ite2 (fun hx => ?_) (fun hx => ?_)
      · walk_at "run"
        refine qn H2 s2 ?_
        rw [hbp, em, bp_stop (.inr (of_decide_eq_true hx))]
        rfl
      have hge : 0 ≤ gi c p' := Int.not_lt.mp fun z => hx (decide_eq_true z)
      walk_at "run"
      refine i_augE rfl ?_
      walk_at "run"
      refine i_ixL (SqL.of ha2) (atI_nat (iv_at hlt2)) ?_
      walk_at "run"
      dsimp only [List.set_cons_zero, List.set_cons_succ]
      refine i_tyL (SqL.of hpf) ?_
      walk_at "run"
      refine i_append hpf (by rw [ol]; omega) ?_
      have eo : ((p' : Nat) : Int) + (1 + gi c p') = ((p' + (1 + (gi c p').toNat) : Nat) : Int) := by omega
      rw [eo]
      refine ⟨s2.updNew f1, _, rfl, by simp; omega, by simp; omega, ?_, by rw [upd_same, natsV_snoc]⟩
      rw [hbp, em, bp_go (by omega), map_map_app]
    · have hm : (cnt - pre.length).toNat = 0 := by
        have : ¬ ((pre.length : Int) + 1 ≤ cnt) := fun z => hd (decide_eq_true (by omega))
        omega
      rw [hm] at hbp
      walk_at "run"
      refine i_lenL (SqL.of ha2) ?_
      walk_at "run"
      rw [intsV_len]
      refine ite2 (fun hx => ?_) (fun hx => ?_)
      · walk_at "run"
        have hle : p' ≤ c.length := by have := of_decide_eq_true hx; omega
        refine q pf (pre ++ [p']) H2 f1 s2 ?_ hpf
        rw [hbp]
        simp [bp, hle]
      · walk_at "run"
        have hle : ¬ p' ≤ c.length := fun z => hx (decide_eq_true (by omega))
        refine qn H2 s2 ?_
        rw [hbp]
        simp [bp, hle]
def sp_cellsin (K : PySem.W.Frag) : Sp := fun vs H Q _ => ∃ (a : Addr) (c : List Int) (p : Nat), vs = [.ref a, .int (p : Nat)] ∧ H a = some (.lst (intsV c)) ∧ p < c.length ∧ 0 ≤ gi c p ∧ ∀ q H', H q = none → Same H H' → H' q = some (.lst (intsV (block c p))) → Q (.ref q) H'
theorem ok_cells_in (T : Txt K mg t) : FnOk P w K mg base CX0 1 t.a_cells_in t.fd_cells_in ["cells", "place"] (sp_cellsin K) := by
  refine T.F_cells_in.ok sc_cells_in (fun vs H Q E h => ?_) (fun cdv A outer s H vs Q E hr h => ?_)
  · obtain ⟨a, c, p, rfl, _⟩ := h
    rfl
  · obtain ⟨a, c, p, rfl, ha, h1, h2, q⟩ := h
    refine ⟨_, (@pss_one _ _ _ (@ps_ret _ _ _ _ (@pe_slice _ _ _ _ _ _ _ _ _ _ (ksl_list K) (pv 0) (@po_some _ _ _ (@pe_op _ _ _ _ _ _ _ _ op_plus (pv 1) (@pe_int _ _ _ _))) (@po_some _ _ _ (@pe_op _ _ _ _ _ _ _ _ op_plus (@pe_op _ _ _ _ _ _ _ _ op_plus (pv 1) (@pe_int _ _ _ _)) (@pe_ix _ _ _ _ _ _ _ (kix_list K) (pv 0) (pv 1) (fun _ _ => rfl))))))), ?_⟩
    walk_at "go"
    refine i_ixL (SqL.of ha) (atI_nat (iv_at h1)) ?_
    walk_at "run"
    refine i_slL (SqL.of ha) ?_
    rw [show ((p : Nat) : Int) + 1 = ((p + 1 : Nat) : Int) by omega, show ((p + 1 : Nat) : Int) + gi c p = ((p + 1 + (gi c p).toNat : Nat) : Int) by omega, show cutV (intsV c) (some ((p + 1 : Nat) : Int)) (some ((p + 1 + (gi c p).toNat : Nat) : Int)) = intsV (block c p) by unfold intsV; rw [cut_from, Nat.add_sub_cancel_left]; rfl]
    intro q1 H1 f1 s1 e1
    exact q q1 H1 f1 s1 e1
def intW (k : Int) : Tw := .sc (.int k)
def tripW (t : Tri) : Tw := .tup [intW t.1, intW t.2.1, intW t.2.2]
theorem trip_w {H : Hp} {t : Tri} {v : V} {fs : List Addr} : (tripW t).At H v fs ↔ ∃ k, v = .ref k ∧ H k = some (.tup [.int t.1, .int t.2.1, .int t.2.2]) ∧ fs = [] := by
  simp only [tripW, intW, Tw.At, Tw.Ats]
  constructor
  · rintro ⟨a, vs, rfl, e, v, ws, f, g, rfl, rfl, ⟨rfl, _, rfl⟩, v', ws', f', g', rfl, rfl, ⟨rfl, _, rfl⟩, v2, ws2, f2, g2, rfl, rfl, ⟨rfl, _, rfl⟩, rfl, rfl⟩
    exact ⟨a, rfl, e, rfl⟩
  · rintro ⟨k, rfl, e, rfl⟩
    exact ⟨k, _, rfl, e, _, _, [], [], rfl, rfl, ⟨rfl, True.intro, rfl⟩, _, _, [], [], rfl, rfl, ⟨rfl, True.intro, rfl⟩, _, _, [], [], rfl, rfl, ⟨rfl, True.intro, rfl⟩, rfl, rfl⟩
def sp_others (K : PySem.W.Frag) : Sp := fun vs H Q _ => ∃ (s : Addr) (h : Sh), vs = [.ref s] ∧ H s = some (.lst (intsV (shI h))) ∧ h.2.length ≤ 10000 ∧ ∀ p acc H', H p = none → Same H H' → H' p = some (.lst acc) → Tw.Ats H' (h.2.map tripW) acc [] → Q (.ref p) H'
theorem many3_sh (n : Nat) : many3 2 ((n * 3 + 2 : Nat) : Int) = n := by
  unfold many3
  omega
theorem cut_ints {ns : List Int} {j k : Nat} : cutV (intsV ns) (some (j : Int)) (some (k : Int)) = intsV ((ns.drop j).take (k - j)) := by
  unfold intsV
  rw [cut_from]
theorem ok_others_in (T : Txt K mg t) : FnOk P w K mg base CX0 1 t.a_others_in t.fd_others_in ["shape"] (sp_others K) := by
  refine T.F_others_in.ok sc_others_in (fun vs H Q E h => ?_) (fun cdv A outer s H vs Q E hr h => ?_)
  · obtain ⟨s, h, rfl, _⟩ := h
    rfl
  · obtain ⟨s0, sh, rfl, hs, hl, q⟩ := h
    refine ⟨_, (@pss_one _ _ _ (@ps_ret _ _ _ _ (pe_lc (Nt := ["place"]) (Nf := ["shape"]) (caps := [0]) rfl (comp_ok (sc := defScope s_others_in) rfl rfl (by decide +kernel) (by decide +kernel) (by decide +kernel) rfl (by decide +kernel)) (pi_range3 rfl T.z_range (@pa_cons _ _ _ _ _ (@pe_int _ _ _ _) (@pa_cons _ _ _ _ _ (@pe_callB _ _ _ _ _ _ _ _ _ (kcl_len K) (by rfl) T.z_len bb_len (@pa_cons _ _ _ _ _ (pv 0) (@pa_nil _) (by rfl)) (by decide) (by decide) (by rfl) (by rfl)) (@pa_cons _ _ _ _ _ (@pe_int _ _ _ _) (@pa_nil _) (by rfl)) (by rfl)) (by rfl))) (fun _ _ _ _ _ => (pg_name (i := 0) (show (["place", "shape"] : List Str).Nodup by decide +kernel) rfl (by first | exact Or.inl rfl | exact Or.inr rfl))) (fun _ _ _ _ _ => (@pts_nil _)) (fun _ _ _ _ _ => (@pe_callTy _ _ _ _ _ _ _ _ _ (kcl_tuple K) (by rfl) T.z_tuple bb_tuple (@pa_cons _ _ _ _ _ (@pe_slice _ _ _ _ _ _ _ _ _ _ (ksl_list K) (pv 1) (@po_some _ _ _ (pv 0)) (@po_some _ _ _ (@pe_op _ _ _ _ _ _ _ _ op_plus (pv 0) (@pe_int _ _ _ _)))) (@pa_nil _) (by rfl)) (by decide) (by decide) (by rfl) (by rfl)))))), ?_⟩
    walk_at "go"
    refine i_lenL (SqL.of hs) ?_
    walk_at "run"
    have hle : (intsV (shI sh)).length = sh.2.length * 3 + 2 := by rw [intsV_len, shI_len]
    rw [hle]
    refine ⟨2, _, rfl, ⟨by omega, by omega, by omega, by omega⟩, ?_⟩
    rw [many3_sh]
    refine cc_range3 (n := sh.2.length) (le_line (by omega)) (fun i acc H' => i ≤ sh.2.length ∧ acc.length = i ∧ Same H H' ∧ Tw.Ats H' ((sh.2.take i).map tripW) acc []) ⟨Nat.zero_le _, rfl, Same.refl _, by simp [Tw.Ats]⟩ (fun i acc H' ⟨_, e, _⟩ => by omega) ?_ ?_
    · rintro i acc H1 hi ⟨hil, ea, s1, hat⟩
      have et : sh.2[i]? = some sh.2[i] := List.getElem?_eq_getElem hi
      obtain ⟨x1, _⟩ := shI_at et
      walk_at "run"
      refine i_slL (SqL.of (s1 _ _ hs)) ?_
      rw [show (2 : Int) + (i : Nat) * 3 = ((2 + i * 3 : Nat) : Int) by omega, show ((2 + i * 3 : Nat) : Int) + 3 = ((2 + i * 3 + 3 : Nat) : Int) by omega, cut_ints, Nat.add_sub_cancel_left, x1]
      intro p2 H2 f2 s2 e2
      walk_at "run"
      refine i_tupleL (SqL.of e2) ?_
      intro p3 H3 f3 s3 e3
      refine ⟨hi, by simp [ea], s1.trans (s2.trans s3), ?_⟩
      rw [List.take_add_one, et, List.map_append]
      exact Tw.Ats.snoc (gs := []) (hat.same (s2.trans s3)) (trip_w.mpr ⟨p3, rfl, e3, rfl⟩)
    · rintro acc H1 ⟨_, ea, s1, hat⟩ p2 H2 f2 s2 e2
      rw [List.take_length] at hat
      exact q p2 acc H2 (s1.free f2) (s1.trans s2) e2 (hat.same s2)
end Z
namespace Z
def pairW (x : Int × Int) : Tw := .tup [intW x.1, intW x.2]
theorem pair_w {H : Hp} {x : Int × Int} {v : V} {fs : List Addr} : (pairW x).At H v fs ↔ ∃ k, v = .ref k ∧ H k = some (.tup [.int x.1, .int x.2]) ∧ fs = [] := by
  simp only [pairW, intW, Tw.At, Tw.Ats]
  constructor
  · rintro ⟨a, vs, rfl, e, v, ws, f, g, rfl, rfl, ⟨rfl, _, rfl⟩, v', ws', f', g', rfl, rfl, ⟨rfl, _, rfl⟩, rfl, rfl⟩
    exact ⟨a, rfl, e, rfl⟩
  · rintro ⟨k, rfl, e, rfl⟩
    exact ⟨k, _, rfl, e, _, _, [], [], rfl, rfl, ⟨rfl, True.intro, rfl⟩, _, _, [], [], rfl, rfl, ⟨rfl, True.intro, rfl⟩, rfl, rfl⟩
theorem ats_set0 {H : Hp} : ∀ {xs : List Tw} {vs : List V} {j : Nat} {x : Tw} {v : V}, Tw.Ats H xs vs [] → x.At H v [] → Tw.Ats H (xs.set j x) (vs.set j v) []
  | [], vs, j, x, v, h, _ => by
    simp only [Tw.Ats] at h
    rw [h.1]
    simp [Tw.Ats]
  | y :: ys, vs, j, x, v, h, hx => by
    simp only [Tw.Ats] at h
    obtain ⟨w, ws, f, g, rfl, hfg, a, b⟩ := h
    obtain ⟨rfl, rfl⟩ := List.append_eq_nil_iff.mp hfg.symm
    cases j with
    | zero =>
      simp only [List.set_cons_zero, Tw.Ats]
      exact ⟨v, ws, [], [], rfl, rfl, hx, b⟩
    | succ j =>
      simp only [List.set_cons_succ, Tw.Ats]
      exact ⟨w, ws.set j v, [], [], rfl, rfl, a, ats_set0 b hx⟩
theorem ats_rep {H : Hp} {x : Tw} {v : V} (h : x.At H v []) : ∀ n, Tw.Ats H (List.replicate n x) (List.replicate n v) []
  | 0 => by simp [Tw.Ats]
  | n + 1 => by
    rw [List.replicate_succ, List.replicate_succ, Tw.Ats]
    exact ⟨v, _, [], [], rfl, rfl, h, ats_rep h n⟩
theorem ats_get0w {H : Hp} {xs : List Tw} {vs : List V} (h : Tw.Ats H xs vs []) {i : Nat} {v : V} (e : vs[i]? = some v) : ∃ x, xs[i]? = some x ∧ x.At H v [] := by
  obtain ⟨x, f, h1, h2, h3⟩ := h.get i v e
  have : f = [] := List.eq_nil_iff_forall_not_mem.mpr fun a m => by simpa using h3 a m
  subst this
  exact ⟨x, h1, h2⟩
def pairsT (E : Nat) (h : Sh) (i : Nat) : List (Int × Int) := (h.2.take i).foldl (fun acc t => acc.set t.1.toNat t.2) (List.replicate E h.1)
theorem pairsT_succ {E : Nat} {h : Sh} {i : Nat} {t : Tri} (e : h.2[i]? = some t) : pairsT E h (i + 1) = (pairsT E h i).set t.1.toNat t.2 := by
  unfold pairsT
  rw [List.take_add_one, e]
  simp
theorem foldl_set_mem : ∀ (ts : List Tri) (l : List (Int × Int)) (x : Int × Int), x ∈ ts.foldl (fun acc t => acc.set t.1.toNat t.2) l → x ∈ l ∨ x ∈ ts.map (·.2)
  | [], l, x, h => .inl h
  | t :: ts, l, x, h => by
    rw [List.foldl_cons] at h
    rcases foldl_set_mem ts _ x h with h | h
    · rcases List.mem_or_eq_of_mem_set h with h | h
      · exact .inl h
      · exact .inr (by rw [h]; simp)
    · exact .inr (by simp at h ⊢; exact .inr h)
theorem pairsOf_mem {E : Nat} {h : Sh} {x : Int × Int} (hx : x ∈ pairsOf E h) : x ∈ prs h := by
  rcases foldl_set_mem h.2 _ x hx with hx | hx
  · rw [(List.mem_replicate.mp hx).2]
    simp [prs]
  · simp only [prs, List.mem_cons]
    exact .inr hx
theorem block_two {c : List Int} {p : Nat} {h : Sh} (hb : block c p = shI h) (hl : p + 1 + (gi c p).toNat ≤ c.length) : gi c (p + 1) = h.1.1 ∧ gi c (p + 2) = h.1.2 ∧ 2 ≤ (gi c p).toNat := by
  have l1 := block_len hl
  rw [hb, shI_len] at l1
  have e0 := block_at hl (k := 0) (by omega)
  have e1 := block_at hl (k := 1) (by omega)
  rw [hb] at e0 e1
  exact ⟨(Option.some.inj e0).symm, (Option.some.inj e1).symm, by omega⟩
def sp_pairsin (K : PySem.W.Frag) : Sp := fun vs H Q _ => ∃ (a : Addr) (c : List Int) (p E : Nat) (h : Sh), vs = [.ref a, .int (p : Nat), .int (E : Nat)] ∧ H a = some (.lst (intsV c)) ∧ c.length ≤ 5000 ∧ p < c.length ∧ 0 ≤ gi c p ∧ p + 1 + (gi c p).toNat ≤ c.length ∧ block c p = shI h ∧ asc E (-1) (h.2.map (·.1)) ∧ E ≤ 100 ∧ ∀ q acc H', H q = none → Same H H' → H' q = some (.lst acc) → Tw.Ats H' ((pairsOf E h).map pairW) acc [] → Q (.ref q) H'
theorem ok_pairs_in (T : Txt K mg t) : FnOk P w K mg base CX0 2 t.a_pairs_in t.fd_pairs_in ["cells", "place", "count"] (sp_pairsin K) := by
  have G_cells_in := ok_cells_in (P := P) (w := w) (base := base) T
  have G_others_in := ok_others_in (P := P) (w := w) (base := base) T
  refine T.F_pairs_in.ok sc_pairs_in (fun vs H Q E h => ?_) (fun cdv A outer s H vs Q E hr h => ?_)
  · obtain ⟨a, c, p, E, h, rfl, _⟩ := h
    rfl
  · obtain ⟨a, c, p, En, h, rfl, ha, hcl, h1, h2, h3, hb, hasc, hE, q⟩ := h
    refine ⟨_, (@pss_cons _ _ _ _ _ (@ps_set _ _ 3 _ _ _ _ sc_pairs_in.nd rfl (by first | exact Or.inl rfl | exact Or.inr rfl) (@pe_op _ _ _ _ _ _ _ _ kop_repN (@pe_lstN _ _ _ _ (@pa_cons _ _ _ _ _ (@pe_tupN _ _ _ _ _ (@pa_cons _ _ _ _ _ (@pe_ix _ _ _ _ _ _ _ (kix_list K) (pv 0) (@pe_op _ _ _ _ _ _ _ _ op_plus (pv 1) (@pe_int _ _ _ _)) (fun _ _ => rfl)) (@pa_cons _ _ _ _ _ (@pe_ix _ _ _ _ _ _ _ (kix_list K) (pv 0) (@pe_op _ _ _ _ _ _ _ _ op_plus (pv 1) (@pe_int _ _ _ _)) (fun _ _ => rfl)) (@pa_nil _) (by rfl)) (by rfl))) (@pa_nil _) (by rfl))) (pv 2)) (by rfl) (by first | exact Or.inl rfl | exact Or.inr rfl))
      (@pss_cons _ _ _ _ _ (@ps_for _ _ _ _ _ _ _ _ PassesOwn.never rfl (kpi_list K (@pe_call _ _ _ _ _ _ _ _ _ _ _ _ _ _ _ _ G_others_in (hr.mono (by omega)) rfl T.m_others_in T.F_others_in.kp T.b_others_in .nil pass0 (@pa_cons _ _ _ _ _ (@pe_call _ _ _ _ _ _ _ _ _ _ _ _ _ _ _ _ G_cells_in (hr.mono (by omega)) rfl T.m_cells_in T.F_cells_in.kp T.b_cells_in .nil pass0 (@pa_cons _ _ _ _ _ (pv 0) (@pa_cons _ _ _ _ _ (pv 1) (@pa_nil _) (by rfl)) (by rfl)) (by decide) (by rfl) (by rfl)) (@pa_nil _) (by rfl)) (by decide) (by rfl) (by rfl))) (kpg_tup K (n := 3) rfl (pgs_cons (pg_name (i := 4) sc_pairs_in.nd rfl (by first | exact Or.inl rfl | exact Or.inr rfl)) (pgs_cons (pg_name (i := 5) sc_pairs_in.nd rfl (by first | exact Or.inl rfl | exact Or.inr rfl)) (pgs_cons (pg_name (i := 6) sc_pairs_in.nd rfl (by first | exact Or.inl rfl | exact Or.inr rfl)) (@pgs_nil _))))) (@pss_one _ _ _ (@ps_asg _ _ _ _ _ _ (@pe_tupN _ _ _ _ _ (@pa_cons _ _ _ _ _ (pv 5) (@pa_cons _ _ _ _ _ (pv 6) (@pa_nil _) (by rfl)) (by rfl))) (pg_sub (pv 3) (pv 4) set_list) (by rfl) (by rfl) (by rfl))) (by intro _; rfl))
      (@pss_one _ _ _ (@ps_ret _ _ _ _ (pv 3))))), ?_⟩
    have sl : (1000000 : Nat) ≤ sizeLine := le_line (Nat.le_refl _)
    obtain ⟨g1, g2, g3⟩ := block_two hb h3
    have hpos := asc_pos hasc (by omega)
    walk_at "go"
    rw [show ((p : Nat) : Int) + 1 = ((p + 1 : Nat) : Int) by omega]
    refine i_ixL (SqL.of ha) (atI_nat (iv_at (i := p + 1) (by omega))) ?_
    walk_at "run"
    rw [show ((p : Nat) : Int) + 2 = ((p + 2 : Nat) : Int) by omega]
    refine i_ixL (SqL.of ha) (atI_nat (iv_at (i := p + 2) (by omega))) ?_
    walk_at "run"
    rw [g1, g2]
    intro p1 H1 f1 s1 e1
    walk_at "run"
    intro p2 H2 f2 s2 e2
    walk_at "run"
    refine ⟨p2, (En : Int), [.ref p1], rfl, rfl, e2, by omega, by omega, by simp only [List.length_cons, List.length_nil, Int.toNat_natCast]; omega, ?_⟩
    rw [Int.toNat_natCast, show (List.replicate En [V.ref p1]).flatten = List.replicate En (V.ref p1) from by simp]
    intro q0 H3 f3 s3 e3
    walk_at "run"
    have s13 := s2.trans s3
    have s03 := s1.trans s13
    refine ⟨a, c, p, rfl, s03 _ _ ha, h1, h2, fun pb H4 f4 s4 e4 => ?_⟩
    rw [hb] at e4
    walk_at "run"
    have hl2 : h.2.length ≤ 10000 := by
      have l1 := block_len h3
      rw [hb, shI_len] at l1
      omega
    refine ⟨pb, h, rfl, e4, hl2, fun po acc H5 f5 s5 e5 ho => ?_⟩
    have al : acc.length = h.2.length := by rw [ho.len, List.length_map]
    have s35 := s4.trans s5
    have s05 := s03.trans s35
    have f03 : H q0 = none := (s1.trans s2).free f3
    refine ⟨po, rfl, ⟨_, SqL.of e5⟩, for_list (K := K) (a := po) (xs := acc) (fun i σ H' => i ≤ h.2.length ∧ Same H H' ∧ H' po = some (.lst acc) ∧ Tw.Ats H' (h.2.map tripW) acc [] ∧ (∃ ps, H' q0 = some (.lst ps) ∧ ps.length = En ∧ Tw.Ats H' ((pairsT En h i).map pairW) ps []) ∧ ∃ y1 y2 y3, σ = [some (.ref a), some (.int (p : Nat)), some (.int (En : Nat)), some (.ref q0), y1, y2, y3]) ⟨Nat.zero_le _, s05, e5, ho, ⟨_, s35 _ _ e3, by simp, ?_⟩, _, _, _, rfl⟩ (fun i σ H' _ ⟨_, _, e, _⟩ => SqL.of e) ?_ ?_⟩
    · unfold pairsT
      simp only [List.take_zero, List.foldl_nil, List.map_replicate]
      exact ats_rep (pair_w.mpr ⟨p1, rfl, (s13.trans s35) _ _ e1, rfl⟩) En
    · rintro i x σ H6 hx ⟨hil, s6, e6, ho6, ⟨ps, hq0, hpl, hps⟩, y1, y2, y3, rfl⟩
      obtain ⟨tx, ht1, ht2⟩ := ats_get0w ho6 hx
      rw [List.getElem?_map] at ht1
      obtain ⟨t3, ht3, rfl⟩ := Option.map_eq_some_iff.mp ht1
      obtain ⟨kk, rfl, hkk, _⟩ := trip_w.mp ht2
      have hi' : i < h.2.length := (List.getElem?_eq_some_iff.mp ht3).1
      obtain ⟨z1, z2⟩ := hpos t3.1 (List.mem_map.mpr ⟨t3, List.mem_of_getElem? ht3, rfl⟩)
      refine i_asgT (SqT.of hkk) rfl ?_
      walk_at "run"
      intro p7 H7 f7 s7 e7
      walk_at "run"
      refine i_setL (s7 _ _ hq0) (j := t3.1.toNat) (by unfold ixN; rw [if_pos (by omega), if_pos (by omega)]) ?_
      have hpo : po ≠ q0 := (ne_of_none ((s4 _ _ e3)) f5).symm
      have kq : Keep [] H7 (upd H7 q0 (.lst (ps.set t3.1.toNat (.ref p7)))) := Keep.upd (s7 _ _ hq0) (by simp)
      refine ⟨hi', (s6.trans s7).updNew f03, by rw [upd_ne hpo]; exact s7 _ _ e6, (ho6.same s7).mono kq, ⟨_, upd_same, by simp [hpl], ?_⟩, _, _, _, rfl⟩
      rw [pairsT_succ ht3, List.map_set]
      exact (ats_set0 (hps.same s7) (pair_w.mpr ⟨p7, rfl, e7, rfl⟩)).mono kq
    · rintro σ H6 ⟨hil, s6, e6, ho6, ⟨ps, hq0, hpl, hps⟩, y1, y2, y3, rfl⟩
      rw [al] at hps
      walk_at "run"
      refine q q0 ps H6 f03 s6 hq0 ?_
      unfold pairsT at hps
      rw [List.take_length] at hps
      exact hps
end Z
namespace Z
def cnd (c : List Int) (x : Int × Int) : Bool := decide (0 ≤ x.1 ∧ x.1 < gi c 1 ∧ 0 ≤ x.2 ∧ x.2 < gi c 0)
theorem bls_snoc {c : List Int} {ps : List (Int × Int)} {i : Nat} {x : Int × Int} (e : ps[i]? = some x) : blsV ((ps.take i).map (cnd c)) ++ [V.bl (cnd c x)] = blsV ((ps.take (i + 1)).map (cnd c)) := by
  rw [List.take_add_one, e]
  simp [blsV]
def sp_wshape (K : PySem.W.Frag) : Sp := fun vs H Q _ => ∃ (s a : Addr) (l c : List Int) (E : Nat), vs = [.ref s, .ref a, .int (E : Nat)] ∧ H s = some (.lst (intsV l)) ∧ l.length ≤ 5000 ∧ H a = some (.lst (intsV c)) ∧ 4 ≤ c.length ∧ ∀ b H', (b = true ↔ WS c E l) → Same H H' → Q (.bl b) H'
theorem ok_whole_shape (T : Txt K mg t) : FnOk P w K mg base CX0 2 t.a_whole_shape t.fd_whole_shape ["shape", "cells", "count"] (sp_wshape K) := by
  have G_others_in := ok_others_in (P := P) (w := w) (base := base) T
  refine T.F_whole_shape.ok sc_whole_shape (fun vs H Q E h => ?_) (fun cdv A outer s H vs Q E hr h => ?_)
  · obtain ⟨s, a, l, c, E, rfl, _⟩ := h
    rfl
  · obtain ⟨s0, a, l, c, En, rfl, hs, hll, ha, hcl, q⟩ := h
    refine ⟨_, (@pss_cons _ _ _ _ _ (@ps_if _ _ _ _ _ _ _ _ (@pt_cmpR _ _ _ _ _ _ _ _ op_ne (@pe_op _ _ _ _ _ _ _ _ op_mod (@pe_callB _ _ _ _ _ _ _ _ _ (kcl_len K) (by rfl) T.z_len bb_len (@pa_cons _ _ _ _ _ (pv 0) (@pa_nil _) (by rfl)) (by decide) (by decide) (by rfl) (by rfl)) (@pe_int _ _ _ _)) (@pe_int _ _ _ _) (nomark _)) (@pss_one _ _ _ (@ps_ret _ _ _ _ (@pe_bl _ _ _ _))) (@pss_nil _))
      (@pss_cons _ _ _ _ _ (@ps_set _ _ 3 _ _ _ _ sc_whole_shape.nd rfl (by first | exact Or.inl rfl | exact Or.inr rfl) (@pe_un _ _ _ _ _ _ un_neg (@pe_int _ _ _ _)) (by rfl) (by first | exact Or.inl rfl | exact Or.inr rfl))
      (@pss_cons _ _ _ _ _ (@ps_set _ _ 4 _ _ _ _ sc_whole_shape.nd rfl (by first | exact Or.inl rfl | exact Or.inr rfl) (@pe_lstN _ _ _ _ (@pa_cons _ _ _ _ _ (@pe_tupN _ _ _ _ _ (@pa_cons _ _ _ _ _ (@pe_ix _ _ _ _ _ _ _ (kix_list K) (pv 0) (@pe_int _ _ _ _) (fun _ _ => rfl)) (@pa_cons _ _ _ _ _ (@pe_ix _ _ _ _ _ _ _ (kix_list K) (pv 0) (@pe_int _ _ _ _) (fun _ _ => rfl)) (@pa_nil _) (by rfl)) (by rfl))) (@pa_nil _) (by rfl))) (by rfl) (by first | exact Or.inl rfl | exact Or.inr rfl))
      (@pss_cons _ _ _ _ _ (@ps_for _ _ _ _ _ _ _ _ PassesOwn.never rfl (kpi_list K (@pe_call _ _ _ _ _ _ _ _ _ _ _ _ _ _ _ _ G_others_in (hr.mono (by omega)) rfl T.m_others_in T.F_others_in.kp T.b_others_in .nil pass0 (@pa_cons _ _ _ _ _ (pv 0) (@pa_nil _) (by rfl)) (by decide) (by rfl) (by rfl))) (kpg_tup K (n := 3) rfl (pgs_cons (pg_name (i := 5) sc_whole_shape.nd rfl (by first | exact Or.inl rfl | exact Or.inr rfl)) (pgs_cons (pg_name (i := 6) sc_whole_shape.nd rfl (by first | exact Or.inl rfl | exact Or.inr rfl)) (pgs_cons (pg_name (i := 7) sc_whole_shape.nd rfl (by first | exact Or.inl rfl | exact Or.inr rfl)) (@pgs_nil _))))) (@pss_cons _ _ _ _ _ (@ps_if _ _ _ _ _ _ _ _ (@pt_not _ _ _ _ (pt_chain op_lt op_lt (pv 3) (pv 5) (pv 2))) (@pss_one _ _ _ (@ps_ret _ _ _ _ (@pe_bl _ _ _ _))) (@pss_nil _))
        (@pss_cons _ _ _ _ _ (@ps_set _ _ 3 _ _ _ _ sc_whole_shape.nd rfl (by first | exact Or.inl rfl | exact Or.inr rfl) (pv 5) (by rfl) (by first | exact Or.inl rfl | exact Or.inr rfl))
        (@pss_one _ _ _ (@ps_expr _ _ _ _ (@kpe_bm _ K _ _ _ _ _ _ _ _ _ _ _ PySem.F.plainAttrs_list PySem.F.slot_list_append PySem.F.type_list_append mt_append (pv 4) (@pa_cons _ _ _ _ _ (@pe_tupN _ _ _ _ _ (@pa_cons _ _ _ _ _ (pv 6) (@pa_cons _ _ _ _ _ (pv 7) (@pa_nil _) (by rfl)) (by rfl))) (@pa_nil _) (by rfl)) (by rfl) (by rfl) (by rfl) (by rfl) (by rfl) (by rfl)) (by rfl))))) (by intro _; rfl))
      (@pss_one _ _ _ (@ps_ret _ _ _ _ (@pe_callB _ _ _ _ _ _ _ _ _ (kcl_all K) (by rfl) T.z_all bb_all (@pa_cons _ _ _ _ _ (pe_lc (Nt := ["saying", "way"]) (Nf := ["cells"]) (caps := [1]) rfl (comp_ok (sc := defScope s_whole_shape) rfl rfl (by decide +kernel) (by decide +kernel) (by decide +kernel) rfl (by decide +kernel)) (kpi_list K (pv 4)) (fun _ _ _ _ _ => (kpg_tup K (n := 2) rfl (pgs_cons (pg_name (i := 0) (show (["saying", "way", "cells"] : List Str).Nodup by decide +kernel) rfl (by first | exact Or.inl rfl | exact Or.inr rfl)) (pgs_cons (pg_name (i := 1) (show (["saying", "way", "cells"] : List Str).Nodup by decide +kernel) rfl (by first | exact Or.inl rfl | exact Or.inr rfl)) (@pgs_nil _))))) (fun _ _ _ _ _ => (@pts_nil _)) (fun _ _ _ _ _ => (@pe_and _ _ _ _ _ _ _ (pe_chain op_le op_lt (@pe_int _ _ _ _) (pv 0) (@pe_ix _ _ _ _ _ _ _ (kix_list K) (pv 2) (@pe_int _ _ _ _) (fun _ _ => rfl))) (@pe_one _ _ _ _ _ (pe_chain op_le op_lt (@pe_int _ _ _ _) (pv 1) (@pe_ix _ _ _ _ _ _ _ (kix_list K) (pv 2) (@pe_int _ _ _ _) (fun _ _ => rfl))))))) (@pa_nil _) (by rfl)) (by decide) (by decide) (by rfl) (by rfl)))))))), ?_⟩
    have sl : (1000000 : Nat) ≤ sizeLine := le_line (Nat.le_refl _)
    walk_at "go"
    refine i_lenL (SqL.of hs) ?_
    walk_at "run"
    rw [intsV_len]
    refine ite2 (fun hc => ?_) (fun hc => ?_)
    · walk_at "run"
      refine q false H ⟨fun z => (Bool.noConfusion z), fun ⟨h, e, _⟩ => ?_⟩ (Same.refl _)
      exfalso
      have := congrArg List.length e
      rw [shI_len] at this
      simp at hc
      omega
    have hl3 : l.length % 3 = 2 := by
      simp at hc
      omega
    obtain ⟨h, rfl⟩ := shI_of hl3
    rw [shI_len] at hll
    walk_at "run"
    refine i_ixL (SqL.of hs) (v := .int h.1.1) (atI_nat (j := 0) rfl) ?_
    walk_at "run"
    refine i_ixL (SqL.of hs) (v := .int h.1.2) (atI_nat (j := 1) rfl) ?_
    walk_at "run"
    intro p1 H1 f1 s1 e1
    walk_at "run"
    intro q0 H2 f2 s2 e2
    walk_at "run"
    have s02 := s1.trans s2
    have f02 : H q0 = none := s1.free f2
    refine ⟨s0, h, rfl, s02 _ _ hs, by omega, fun po acc H5 f5 s5 e5 ho => ?_⟩
    have al : acc.length = h.2.length := by rw [ho.len, List.length_map]
    have s05 := s02.trans s5
    have no : ∀ {b : Bool}, b = false → ¬ WS c En (shI h) → (b = true ↔ WS c En (shI h)) := fun hb hw => ⟨fun z => (by rw [hb] at z; cases z), fun z => absurd z hw⟩
    refine ⟨po, rfl, ⟨_, SqL.of e5⟩, for_list (K := K) (a := po) (xs := acc) (fun i σ H' => i ≤ h.2.length ∧ Same H H' ∧ H' po = some (.lst acc) ∧ Tw.Ats H' (h.2.map tripW) acc [] ∧ (∃ ps, H' q0 = some (.lst ps) ∧ ps.length = i + 1 ∧ Tw.Ats H' ((h.1 :: (h.2.take i).map (·.2)).map pairW) ps []) ∧ ∃ (ah : Int) (y1 y2 y3 : Option V), (asc En (-1) (h.2.map (·.1)) ↔ asc En ah ((h.2.drop i).map (·.1))) ∧ σ = [some (.ref s0), some (.ref a), some (.int (En : Nat)), some (.int ah), some (.ref q0), y1, y2, y3]) ⟨Nat.zero_le _, s05, e5, ho, ⟨_, s5 _ _ e2, rfl, ?_⟩, -1, _, _, _, by simp, rfl⟩ (fun i σ H' _ ⟨_, _, e, _⟩ => SqL.of e) ?_ ?_⟩
    · simp only [List.take_zero, List.map_nil, List.map_cons, Tw.Ats]
      exact ⟨_, _, [], [], rfl, rfl, pair_w.mpr ⟨p1, rfl, (s2.trans s5) _ _ e1, rfl⟩, rfl, rfl⟩
    · rintro i x σ H6 hx ⟨hil, s6, e6, ho6, ⟨ps, hq0, hpl, hps⟩, ah, y1, y2, y3, hasc, rfl⟩
      obtain ⟨tx, ht1, ht2⟩ := ats_get0w ho6 hx
      rw [List.getElem?_map] at ht1
      obtain ⟨t3, ht3, rfl⟩ := Option.map_eq_some_iff.mp ht1
      obtain ⟨kk, rfl, hkk, _⟩ := trip_w.mp ht2
      have hi' : i < h.2.length := (List.getElem?_eq_some_iff.mp ht3).1
      have hdr : (h.2.drop i).map (·.1) = t3.1 :: (h.2.drop (i + 1)).map (·.1) := by
        rw [List.drop_eq_getElem_cons hi', (List.getElem?_eq_some_iff.mp ht3).2]
        rfl
      rw [hdr] at hasc
      have nWS : ¬ (ah < t3.1 ∧ t3.1 < (En : Int)) → ¬ WS c En (shI h) := fun hn ⟨h', e', h1, _⟩ => by
        cases shI_inj e'
        have := hasc.mp h1
        exact hn ⟨this.1, this.2.1⟩
      refine i_asgT (SqT.of hkk) rfl ?_
      walk_at "run"
      refine ite2 (fun hc1 => ?_) (fun hc1 => ?_)
      · walk_at "run"
        refine ite2 (fun hc2 => ?_) (fun hc2 => ?_)
        · walk_at "run"
          exact q false H6 (no rfl (nWS fun z => by simp at hc2; omega)) s6
        · have hd1 : ah < t3.1 := of_decide_eq_true hc1
          have hd2 : t3.1 < (En : Int) := by simp at hc2; omega
          walk_at "run"
          refine i_tyL (SqL.of hq0) ?_
          walk_at "run"
          intro p7 H7 f7 s7 e7
          walk_at "run"
          refine i_append (s7 _ _ hq0) (by omega) ?_
          have hpo : po ≠ q0 := (ne_of_none e2 f5).symm
          have kq : Keep [] H7 (upd H7 q0 (.lst (ps ++ [.ref p7]))) := Keep.upd (s7 _ _ hq0) (by simp)
          refine ⟨hi', (s6.trans s7).updNew f02, by rw [upd_ne hpo]; exact s7 _ _ e6, (ho6.same s7).mono kq, ⟨_, upd_same, by simp [hpl], ?_⟩, t3.1, _, _, _, ?_, rfl⟩
          · rw [List.take_add_one, ht3]
            simp only [Option.toList_some, List.map_append, List.map_cons, List.map_nil, ← List.cons_append]
            have := Tw.Ats.snoc (gs := []) (hps.same s7) (pair_w.mpr ⟨p7, rfl, e7, rfl⟩)
            simp only [List.map_cons] at this
            exact this.mono kq
          · rw [hasc]
            simp [asc, hd1, hd2]
      · walk_at "run"
        exact q false H6 (no rfl (nWS fun z => hc1 (decide_eq_true z.1))) s6
    · rintro σ H6 ⟨hil, s6, e6, ho6, ⟨ps, hq0, hpl, hps⟩, ah, y1, y2, y3, hasc, rfl⟩
      rw [al, List.take_length] at hps
      rw [al, List.drop_length] at hasc
      rw [al] at hpl
      have hasc' : asc En (-1) (h.2.map (·.1)) := hasc.mpr (by simp [asc])
      change Tw.Ats H6 ((prs h).map pairW) ps [] at hps
      have prl : (prs h).length = h.2.length + 1 := by simp [prs]
      walk_at "run"
      refine ⟨⟨_, SqL.of hq0⟩, cc_pairs (xs := ps) (le_line (by omega)) (fun i acc2 H' => H' = H6 ∧ i ≤ (prs h).length ∧ acc2 = blsV (((prs h).take i).map (cnd c))) ⟨rfl, Nat.zero_le _, rfl⟩ (fun i acc2 H' ⟨e, hi, ea⟩ => ⟨by rw [ea]; simp [blsV]; omega, e ▸ SqL.of hq0⟩) ?_ ?_⟩
      · rintro i x acc2 H' hx ⟨rfl, hi, rfl⟩
        obtain ⟨tx, ht1, ht2⟩ := ats_get0w hps hx
        rw [List.getElem?_map] at ht1
        obtain ⟨y, hy, rfl⟩ := Option.map_eq_some_iff.mp ht1
        obtain ⟨kk, rfl, hkk, _⟩ := pair_w.mp ht2
        have hi' : i < (prs h).length := (List.getElem?_eq_some_iff.mp hy).1
        have fin : ∀ b : Bool, b = cnd c y → H' = H' ∧ i + 1 ≤ (prs h).length ∧ blsV (((prs h).take i).map (cnd c)) ++ [V.bl b] = blsV (((prs h).take (i + 1)).map (cnd c)) := fun b hb => ⟨rfl, hi', by rw [hb]; exact bls_snoc hy⟩
        have ha6 := s6 _ _ ha
        refine ⟨kk, _, _, rfl, SqT.of hkk, ?_⟩
        walk_at "run"
        refine ite2 (fun hc1 => ?_) (fun hc1 => ?_)
        · walk_at "run"
          refine i_ixL (SqL.of ha6) (v := .int (gi c 1)) (atI_nat (iv_at (i := 1) (by omega))) ?_
          walk_at "run"
          refine ite2 (fun hc2 => ?_) (fun hc2 => ?_)
          · walk_at "run"
            refine ite2 (fun hc3 => ?_) (fun hc3 => ?_)
            · walk_at "run"
              refine i_ixL (SqL.of ha6) (v := .int (gi c 0)) (atI_nat (iv_at (i := 0) (by omega))) ?_
              walk_at "run"
              refine fin _ ?_
              simp at hc1 hc2 hc3
              simp [cnd, hc1, hc2, hc3]
            · walk_at "run"
              refine fin _ ?_
              simp at hc3
              simp [cnd]
              omega
          · walk_at "run"
            refine fin _ ?_
            simp at hc2
            simp [cnd]
            omega
        · walk_at "run"
          refine fin _ ?_
          simp at hc1
          simp [cnd]
          omega
      · rintro acc2 H' ⟨rfl, _, rfl⟩ p8 H8 f8 s8 e8
        rw [show ps.length = (prs h).length by omega, List.take_length] at e8
        refine i_all (SqL.of e8) ?_
        refine q _ H8 ?_ (s6.trans s8)
        rw [List.all_map, List.all_eq_true]
        constructor
        · intro hz
          exact ⟨h, rfl, hasc', fun x hx => of_decide_eq_true (hz x hx)⟩
        · rintro ⟨h', e', _, h2⟩ x hx
          cases shI_inj e'
          exact decide_eq_true (h2 x hx)
end Z
namespace Z
theorem drop_mem {l : List Nat} {j : Nat} (h : j + 1 < l.length) : l.getD j 0 ∈ l.dropLast := by
  rw [List.getD_eq_getElem?_getD, List.getElem?_eq_getElem (by omega)]
  have : l.dropLast[j]? = some l[j] := by
    rw [List.dropLast_eq_take, List.getElem?_take_of_lt (by omega), List.getElem?_eq_getElem (by omega)]
  exact List.mem_of_getElem? this
theorem natsV_at {ks : List Nat} {j : Nat} (h : j < ks.length) : (natsV ks)[j]? = some (.int (ks.getD j 0 : Nat)) := by
  simp only [natsV, List.getElem?_map, List.getElem?_eq_getElem h, List.getD_eq_getElem?_getD]
  rfl
def sp_wrooms (K : PySem.W.Frag) : Sp := fun vs H Q _ => ∃ (a s1 s2 : Addr) (c : List Int) (sh sy : List Nat) (E : Nat), vs = [.ref a, .ref s1, .ref s2, .int (E : Nat)] ∧ H a = some (.lst (intsV c)) ∧ c.length ≤ 5000 ∧ 4 ≤ c.length ∧ 1 ≤ gi c 0 ∧ H s1 = some (.lst (natsV sh)) ∧ H s2 = some (.lst (natsV sy)) ∧ bp c (gi c 2).toNat (4 + (gi c 0).toNat) = some sh ∧ bp c (gi c 1).toNat (lastN sh) = some sy ∧ (∀ p ∈ sh.dropLast, WS c E (block c p)) ∧ E ≤ 100 ∧ ∀ b H', (b = true ↔ ∀ i, i < (gi c 0).toNat → RM c sh sy E i) → Same H H' → Q (.bl b) H'
theorem ok_whole_rooms (T : Txt K mg t) : FnOk P w K mg base CX0 3 t.a_whole_rooms t.fd_whole_rooms ["cells", "shapes", "sayings", "count"] (sp_wrooms K) := by
  have G_pairs_in := ok_pairs_in (P := P) (w := w) (base := base) T
  refine T.F_whole_rooms.ok sc_whole_rooms (fun vs H Q E h => ?_) (fun cdv A outer s H vs Q E hr h => ?_)
  · obtain ⟨a, s1, s2, c, sh, sy, E, rfl, _⟩ := h
    rfl
  · obtain ⟨a, s1, s2, c, sh, sy, En, rfl, ha, hcl, h4, h0, hs1, hs2, b1, b2, w1, hE, q⟩ := h
    refine ⟨_, (@pss_cons _ _ _ _ _ (@ps_for _ _ _ _ _ _ _ _ PassesOwn.never rfl (pi_enum K rfl T.z_enumerate (@pa_cons _ _ _ _ _ (@pe_slice _ _ _ _ _ _ _ _ _ _ (ksl_list K) (pv 0) (@po_some _ _ _ (pe_glob (by rfl) T.m_HEAD (by exact T.r_HEAD))) (@po_some _ _ _ (@pe_op _ _ _ _ _ _ _ _ op_plus (pe_glob (by rfl) T.m_HEAD (by exact T.r_HEAD)) (@pe_ix _ _ _ _ _ _ _ (kix_list K) (pv 0) (@pe_int _ _ _ _) (fun _ _ => rfl))))) (@pa_nil _) (by rfl))) (kpg_tup K (n := 2) rfl (pgs_cons (pg_name (i := 4) sc_whole_rooms.nd rfl (by first | exact Or.inl rfl | exact Or.inr rfl)) (pgs_cons (pg_name (i := 5) sc_whole_rooms.nd rfl (by first | exact Or.inl rfl | exact Or.inr rfl)) (@pgs_nil _)))) (@pss_cons _ _ _ _ _ (@ps_if _ _ _ _ _ _ _ _ (@pt_not _ _ _ _ (pt_chain op_le op_lt (@pe_int _ _ _ _) (@pe_op _ _ _ _ _ _ _ _ op_fdiv (pv 5) (@pe_int _ _ _ _)) (@pe_ix _ _ _ _ _ _ _ (kix_list K) (pv 0) (@pe_int _ _ _ _) (fun _ _ => rfl)))) (@pss_one _ _ _ (@ps_ret _ _ _ _ (@pe_bl _ _ _ _))) (@pss_nil _))
        (@pss_one _ _ _ (@ps_if _ _ _ _ _ _ _ _ (@pt_cmpR _ _ _ _ _ _ _ _ op_eq (@pe_op _ _ _ _ _ _ _ _ op_mod (pv 5) (@pe_int _ _ _ _)) (@pe_int _ _ _ _) (nomark _)) (@pss_one _ _ _ (@ps_for _ _ _ _ _ _ _ _ PassesOwn.never rfl (kpi_list K (@pe_call _ _ _ _ _ _ _ _ _ _ _ _ _ _ _ _ G_pairs_in (hr.mono (by omega)) rfl T.m_pairs_in T.F_pairs_in.kp T.b_pairs_in .nil pass0 (@pa_cons _ _ _ _ _ (pv 0) (@pa_cons _ _ _ _ _ (@pe_ix _ _ _ _ _ _ _ (kix_list K) (pv 1) (@pe_op _ _ _ _ _ _ _ _ op_fdiv (pv 5) (@pe_int _ _ _ _)) (fun _ _ => rfl)) (@pa_cons _ _ _ _ _ (pv 3) (@pa_nil _) (by rfl)) (by rfl)) (by rfl)) (by decide) (by rfl) (by rfl))) (kpg_tup K (n := 2) rfl (pgs_cons (pg_name (i := 6) sc_whole_rooms.nd rfl (by first | exact Or.inl rfl | exact Or.inr rfl)) (pgs_cons (pg_name (i := 7) sc_whole_rooms.nd rfl (by first | exact Or.inl rfl | exact Or.inr rfl)) (@pgs_nil _)))) (@pss_one _ _ _ (@ps_if _ _ _ _ _ _ _ _ (@PW.pt _ _ _ (@pw_or _ _ _ _ _ _ _ (@pt_cmpR _ _ _ _ _ _ _ _ op_ne (pv 7) (pv 4) (nomark _)) (@pw_or1 _ _ _ _ (@pt_cmpR _ _ _ _ _ _ _ _ op_ne (@pe_ix _ _ _ _ _ _ _ (kix_list K) (pv 0) (@pe_ix _ _ _ _ _ _ _ (kix_list K) (pv 2) (pv 6) (fun _ _ => rfl)) (fun _ _ => rfl)) (@pe_int _ _ _ _) (nomark _))))) (@pss_one _ _ _ (@ps_ret _ _ _ _ (@pe_bl _ _ _ _))) (@pss_nil _))) (by intro _; rfl))) (@pss_nil _)))) (by intro _; rfl))
      (@pss_one _ _ _ (@ps_ret _ _ _ _ (@pe_bl _ _ _ _)))), ?_⟩
    have l1 := bp_last b1
    have l2 := bp_last b2
    have n1 := bp_len b1
    have n2 := bp_len b2
    walk_at "go"
    refine i_ixL (SqL.of ha) (v := .int (gi c 0)) (atI_nat (iv_at (i := 0) (by omega))) ?_
    walk_at "run"
    refine i_slL (SqL.of ha) ?_
    rw [show cutV (intsV c) (some 4) (some (4 + gi c 0)) = intsV ((c.drop 4).take (gi c 0).toNat) from by
      rw [show (4 : Int) + gi c 0 = ((4 + (gi c 0).toNat : Nat) : Int) by omega, show (some (4 : Int)) = some ((4 : Nat) : Int) from rfl, cut_ints, Nat.add_sub_cancel_left]]
    intro pr H1 f1 t1 e1
    walk_at "run"
    have rl : ((c.drop 4).take (gi c 0).toNat).length = (gi c 0).toNat := by simp; omega
    have rg : ∀ {i : Nat} {z : Int}, ((c.drop 4).take (gi c 0).toNat)[i]? = some z → i < (gi c 0).toNat ∧ z = gi c (4 + i) := fun {i z} e => by
      have hi : i < (gi c 0).toNat := by rw [← rl]; exact (List.getElem?_eq_some_iff.mp e).1
      rw [List.getElem?_take_of_lt hi, List.getElem?_drop, gi_at (by omega)] at e
      exact ⟨hi, (Option.some.inj e).symm⟩
    generalize hrw : (c.drop 4).take (gi c 0).toNat = rw' at e1 rl rg
    refine ⟨⟨_, SqL.of e1⟩, for_enum (K := K) (a := pr) (xs := intsV rw') (fun i σ H' => i ≤ (gi c 0).toNat ∧ Same H1 H' ∧ (∀ i', i' < i → RM c sh sy En i') ∧ ∃ y1 y2 y3 y4, σ = [some (.ref a), some (.ref s1), some (.ref s2), some (.int (En : Nat)), y1, y2, y3, y4]) ⟨Nat.zero_le _, Same.refl _, fun i' h => absurd h (Nat.not_lt_zero _), _, _, _, _, rfl⟩ (fun i σ H' _ ⟨_, s', _⟩ => SqL.of (s' _ _ e1)) ?_ ?_⟩
    · rintro i x σ H2 pt H3 hx ⟨hil, t2, hrm, y1, y2, y3, y4, rfl⟩ t3 e3
      obtain ⟨z, hz, rfl⟩ := intsV_get hx
      obtain ⟨hi, rfl⟩ := rg hz
      have t03 := t1.trans (t2.trans t3)
      have ha3 := t03 _ _ ha
      have no : ¬ RM c sh sy En i → ((false = true) ↔ ∀ i, i < (gi c 0).toNat → RM c sh sy En i) := fun hn => ⟨fun z => (nomatch z), fun z => absurd (z i hi) hn⟩
      refine i_asgT (SqT.of e3) rfl ?_
      walk_at "run"
      refine ite2 (fun hc1 => ?_) (fun hc1 => ?_)
      · walk_at "run"
        refine i_ixL (SqL.of ha3) (v := .int (gi c 2)) (atI_nat (iv_at (i := 2) (by omega))) ?_
        walk_at "run"
        refine ite2 (fun hc2 => ?_) (fun hc2 => ?_)
        · walk_at "run"
          exact q false H3 (no fun hn => by have := hn.2.1; simp at hc2; omega) t03
        have hg1 : 0 ≤ gi c (4 + i) / 2 := by simpa using hc1
        have hg2 : gi c (4 + i) / 2 < gi c 2 := by simp at hc2; omega
        walk_at "run"
        have goOn : RM c sh sy En i → ∀ i', i' < i + 1 → RM c sh sy En i' := fun hr i' hi' => by
          by_cases h : i' = i
          · rw [h]; exact hr
          · exact hrm i' (by omega)
        refine ite2 (fun hc3 => ?_) (fun hc3 => ?_)
        · have hodd : gi c (4 + i) % 2 = 1 := by simpa using hc3
          have hj : (gi c (4 + i) / 2).toNat + 1 < sh.length := by omega
          have hm := drop_mem hj
          obtain ⟨p1, p2, p3⟩ := bp_in b1 _ hm
          obtain ⟨h, hb, hasc, hpr⟩ := w1 _ hm
          walk_at "run"
          rw [show gi c (4 + i) / 2 = (((gi c (4 + i) / 2).toNat : Nat) : Int) by omega]
          refine i_ixL (SqL.of (t03 _ _ hs1)) (atI_nat (natsV_at (by omega))) ?_
          walk_at "run"
          refine ⟨a, c, _, En, h, rfl, ha3, hcl, p1, p2, by omega, hb, hasc, hE, fun q0 acc H4 f4 t4 e4 hat => ?_⟩
          have al : acc.length = (pairsOf En h).length := by rw [hat.len, List.length_map]
          have rmI : RM c sh sy En i ↔ ∀ x ∈ pairsOf En h, x.2 = (i : Int) ∧ gi c (sy.getD x.1.toNat 0) = 0 := by
            constructor
            · rintro ⟨_, _, h3⟩
              obtain ⟨h', e', h4⟩ := h3 hodd
              rw [hb] at e'
              cases shI_inj e'
              exact h4
            · intro h4
              exact ⟨hg1, hg2, fun _ => ⟨h, hb, h4⟩⟩
          refine ⟨q0, rfl, ⟨_, SqL.of e4⟩, for_list (K := K) (a := q0) (xs := acc) (fun j σ H' => H' = H4 ∧ (∀ x ∈ (pairsOf En h).take j, x.2 = (i : Int) ∧ gi c (sy.getD x.1.toNat 0) = 0) ∧ ∃ y3 y4, σ = [some (.ref a), some (.ref s1), some (.ref s2), some (.int (En : Nat)), some (.int (i : Nat)), some (.int (gi c (4 + i))), y3, y4]) ⟨rfl, by simp, _, _, rfl⟩ (fun j σ H' _ ⟨e, _⟩ => e ▸ SqL.of e4) ?_ ?_⟩
          · rintro j x σ H' hx ⟨rfl, hall, y3, y4, rfl⟩
            obtain ⟨tx, ht1, ht2⟩ := ats_get0w hat hx
            rw [List.getElem?_map] at ht1
            obtain ⟨y, hy, rfl⟩ := Option.map_eq_some_iff.mp ht1
            obtain ⟨kk, rfl, hkk, _⟩ := pair_w.mp ht2
            have hym := List.mem_of_getElem? hy
            obtain ⟨z1, z2, z3, z4⟩ := hpr y (pairsOf_mem hym)
            have t04 := t03.trans t4
            refine i_asgT (SqT.of hkk) rfl ?_
            walk_at "run"
            refine ite2 (fun hd => ?_) (fun hd => ?_)
            · walk_at "run"
              exact q false _ (no fun hn => by have := (rmI.mp hn y hym).1; simp [this] at hd) t04
            have hd' : y.2 = (i : Int) := by simpa using hd
            walk_at "run"
            rw [show y.1 = ((y.1.toNat : Nat) : Int) by omega]
            have hk : y.1.toNat + 1 < sy.length := by omega
            obtain ⟨u1, u2, u3⟩ := bp_in b2 _ (drop_mem hk)
            refine i_ixL (SqL.of (t04 _ _ hs2)) (atI_nat (natsV_at (by omega))) ?_
            walk_at "run"
            refine i_ixL (SqL.of (t04 _ _ ha)) (atI_nat (iv_at u1)) ?_
            walk_at "run"
            refine ite2 (fun he => ?_) (fun he => ?_)
            · walk_at "run"
              exact q false _ (no fun hn => by have := (rmI.mp hn y hym).2; simp at he; exact he (by simpa using this)) t04
            walk_at "run"
            refine ⟨rfl, fun x hx => ?_, _, _, rfl⟩
            rw [List.take_add_one, hy] at hx
            rcases List.mem_append.mp hx with hx | hx
            · exact hall x hx
            · have : x = y := by simpa using hx
              rw [this]
              exact ⟨hd', by simpa using he⟩
          · rintro σ H' ⟨rfl, hall, y3, y4, rfl⟩
            rw [al, List.take_length] at hall
            exact ⟨hi, t2.trans (t3.trans t4), goOn (rmI.mpr hall), _, _, _, _, rfl⟩
        · have heven : ¬ gi c (4 + i) % 2 = 1 := by simpa using hc3
          walk_at "run"
          exact ⟨hi, t2.trans t3, goOn ⟨hg1, hg2, fun z => absurd z heven⟩, _, _, _, _, rfl⟩
      · walk_at "run"
        exact q false H3 (no fun hn => by have := hn.1; simp at hc1; omega) t03
    · rintro σ H2 ⟨_, t2, hrm, y1, y2, y3, y4, rfl⟩
      rw [intsV_len, rl] at hrm
      walk_at "run"
      exact q true H2 ⟨fun _ => hrm, fun _ => rfl⟩ (t1.trans t2)
end Z
namespace Z
theorem lastN_at {l : List Nat} (h : 0 < l.length) : atI (natsV l) (-1) = some (.int (lastN l : Nat)) := by
  obtain ⟨r, x, rfl⟩ : ∃ r x, l = r ++ [x] := ⟨l.dropLast, l.getLast (by intro z; rw [z] at h; simp at h), (List.dropLast_concat_getLast _).symm⟩
  rw [← natsV_snoc, atI_last]
  simp [lastN]
theorem cut_dropLast (l : List Nat) (h : 0 < l.length) : cutV (natsV l) none (some (-1)) = natsV l.dropLast := by
  obtain ⟨r, x, rfl⟩ : ∃ r x, l = r ++ [x] := ⟨l.dropLast, l.getLast (by intro z; rw [z] at h; simp at h), (List.dropLast_concat_getLast _).symm⟩
  rw [← natsV_snoc, (cut_init (natsV r) _).1]
  simp
def sp_wpack (K : PySem.W.Frag) : Sp := fun vs H Q _ => ∃ (e t a : Addr) (es ts : List V) (c : List Int), vs = [.ref e, .ref t, .ref a] ∧ H e = some (.lst es) ∧ es.length ≤ 100 ∧ H t = some (.lst ts) ∧ H a = some (.lst (intsV c)) ∧ c.length ≤ 5000 ∧ ∀ b H', (b = true ↔ VV c es.length ts.length) → Same H H' → Q (.bl b) H'
theorem ok_whole_pack (T : Txt K mg t) : FnOk P w K mg base CX0 4 t.a_whole_pack t.fd_whole_pack ["events", "texts", "cells"] (sp_wpack K) := by
  have G_block_places := ok_block_places (P := P) (w := w) (base := base) T
  have G_cells_in := ok_cells_in (P := P) (w := w) (base := base) T
  have G_whole_rooms := ok_whole_rooms (P := P) (w := w) (base := base) T
  have G_whole_shape := ok_whole_shape (P := P) (w := w) (base := base) T
  refine T.F_whole_pack.ok sc_whole_pack (fun vs H Q E h => ?_) (fun cdv A outer s H vs Q E hr h => ?_)
  · obtain ⟨e, t, a, es, ts, c, rfl, _⟩ := h
    rfl
  · obtain ⟨ee, te, a, es, ts, c, rfl, hee, hel, hte, ha, hcl, q⟩ := h
    refine ⟨_, (@pss_cons _ _ _ _ _ (@ps_if _ _ _ _ _ _ _ _ (@PW.pt _ _ _ (@pw_or _ _ _ _ _ _ _ (@pt_cmpR _ _ _ _ _ _ _ _ op_lt (@pe_callB _ _ _ _ _ _ _ _ _ (kcl_len K) (by rfl) T.z_len bb_len (@pa_cons _ _ _ _ _ (pv 2) (@pa_nil _) (by rfl)) (by decide) (by decide) (by rfl) (by rfl)) (pe_glob (by rfl) T.m_HEAD (by exact T.r_HEAD)) (nomark _)) (@pw_or _ _ _ _ _ _ _ (@pt_not _ _ _ _ (pt_chain op_le op_le (@pe_int _ _ _ _) (@pe_ix _ _ _ _ _ _ _ (kix_list K) (pv 2) (@pe_int _ _ _ _) (fun _ _ => rfl)) (pe_glob (by rfl) T.m_MOST_STANDINGS (by exact T.r_MOST_STANDINGS)))) (@pw_or1 _ _ _ _ (@pt_not _ _ _ _ (pt_chain op_le op_lt (@pe_int _ _ _ _) (@pe_ix _ _ _ _ _ _ _ (kix_list K) (pv 2) (@pe_int _ _ _ _) (fun _ _ => rfl)) (@pe_ix _ _ _ _ _ _ _ (kix_list K) (pv 2) (@pe_int _ _ _ _) (fun _ _ => rfl)))))))) (@pss_one _ _ _ (@ps_ret _ _ _ _ (@pe_bl _ _ _ _))) (@pss_nil _))
      (@pss_cons _ _ _ _ _ (@ps_set _ _ 3 _ _ _ _ sc_whole_pack.nd rfl (by first | exact Or.inl rfl | exact Or.inr rfl) (@pe_call _ _ _ _ _ _ _ _ _ _ _ _ _ _ _ _ G_block_places (hr.mono (by omega)) rfl T.m_block_places T.F_block_places.kp T.b_block_places .nil pass0 (@pa_cons _ _ _ _ _ (pv 2) (@pa_cons _ _ _ _ _ (@pe_op _ _ _ _ _ _ _ _ op_plus (pe_glob (by rfl) T.m_HEAD (by exact T.r_HEAD)) (@pe_ix _ _ _ _ _ _ _ (kix_list K) (pv 2) (@pe_int _ _ _ _) (fun _ _ => rfl))) (@pa_cons _ _ _ _ _ (@pe_ix _ _ _ _ _ _ _ (kix_list K) (pv 2) (@pe_int _ _ _ _) (fun _ _ => rfl)) (@pa_nil _) (by rfl)) (by rfl)) (by rfl)) (by decide) (by rfl) (by rfl)) (by rfl) (by first | exact Or.inl rfl | exact Or.inr rfl))
      (@pss_cons _ _ _ _ _ (@ps_if _ _ _ _ _ _ _ _ (@pt_cmpR _ _ _ _ _ _ _ _ kop_isN (pv 3) (@pe_non _ _ _) (nomark _)) (@pss_one _ _ _ (@ps_ret _ _ _ _ (@pe_bl _ _ _ _))) (@pss_nil _))
      (@pss_cons _ _ _ _ _ (@ps_set _ _ 4 _ _ _ _ sc_whole_pack.nd rfl (by first | exact Or.inl rfl | exact Or.inr rfl) (@pe_call _ _ _ _ _ _ _ _ _ _ _ _ _ _ _ _ G_block_places (hr.mono (by omega)) rfl T.m_block_places T.F_block_places.kp T.b_block_places .nil pass0 (@pa_cons _ _ _ _ _ (pv 2) (@pa_cons _ _ _ _ _ (@pe_ix _ _ _ _ _ _ _ (kix_list K) (pv 3) (@pe_un _ _ _ _ _ _ un_neg (@pe_int _ _ _ _)) (fun _ _ => rfl)) (@pa_cons _ _ _ _ _ (@pe_ix _ _ _ _ _ _ _ (kix_list K) (pv 2) (@pe_int _ _ _ _) (fun _ _ => rfl)) (@pa_nil _) (by rfl)) (by rfl)) (by rfl)) (by decide) (by rfl) (by rfl)) (by rfl) (by first | exact Or.inl rfl | exact Or.inr rfl))
      (@pss_cons _ _ _ _ _ (@ps_if _ _ _ _ _ _ _ _ (@PW.pt _ _ _ (@pw_or _ _ _ _ _ _ _ (@pt_cmpR _ _ _ _ _ _ _ _ kop_isN (pv 4) (@pe_non _ _ _) (nomark _)) (@pw_or1 _ _ _ _ (@pt_cmpR _ _ _ _ _ _ _ _ op_ne (@pe_ix _ _ _ _ _ _ _ (kix_list K) (pv 4) (@pe_un _ _ _ _ _ _ un_neg (@pe_int _ _ _ _)) (fun _ _ => rfl)) (@pe_callB _ _ _ _ _ _ _ _ _ (kcl_len K) (by rfl) T.z_len bb_len (@pa_cons _ _ _ _ _ (pv 2) (@pa_nil _) (by rfl)) (by decide) (by decide) (by rfl) (by rfl)) (nomark _))))) (@pss_one _ _ _ (@ps_ret _ _ _ _ (@pe_bl _ _ _ _))) (@pss_nil _))
      (@pss_cons _ _ _ _ _ (@ps_for _ _ _ _ _ _ _ _ PassesOwn.never rfl (kpi_list K (@pe_slice _ _ _ _ _ _ _ _ _ _ (ksl_list K) (pv 3) (@po_none _) (@po_some _ _ _ (@pe_un _ _ _ _ _ _ un_neg (@pe_int _ _ _ _))))) (pg_name (i := 5) sc_whole_pack.nd rfl (by first | exact Or.inl rfl | exact Or.inr rfl)) (@pss_one _ _ _ (@ps_if _ _ _ _ _ _ _ _ (@pt_not _ _ _ _ (kpt_tru K (@pe_call _ _ _ _ _ _ _ _ _ _ _ _ _ _ _ _ G_whole_shape (hr.mono (by omega)) rfl T.m_whole_shape T.F_whole_shape.kp T.b_whole_shape .nil pass0 (@pa_cons _ _ _ _ _ (@pe_call _ _ _ _ _ _ _ _ _ _ _ _ _ _ _ _ G_cells_in (hr.mono (by omega)) rfl T.m_cells_in T.F_cells_in.kp T.b_cells_in .nil pass0 (@pa_cons _ _ _ _ _ (pv 2) (@pa_cons _ _ _ _ _ (pv 5) (@pa_nil _) (by rfl)) (by rfl)) (by decide) (by rfl) (by rfl)) (@pa_cons _ _ _ _ _ (pv 2) (@pa_cons _ _ _ _ _ (@pe_callB _ _ _ _ _ _ _ _ _ (kcl_len K) (by rfl) T.z_len bb_len (@pa_cons _ _ _ _ _ (pv 0) (@pa_nil _) (by rfl)) (by decide) (by decide) (by rfl) (by rfl)) (@pa_nil _) (by rfl)) (by rfl)) (by rfl)) (by decide) (by rfl) (by rfl)) (fun _ => rfl))) (@pss_one _ _ _ (@ps_ret _ _ _ _ (@pe_bl _ _ _ _))) (@pss_nil _))) (by intro _; rfl))
      (@pss_cons _ _ _ _ _ (@ps_for _ _ _ _ _ _ _ _ PassesOwn.never rfl (kpi_list K (@pe_slice _ _ _ _ _ _ _ _ _ _ (ksl_list K) (pv 4) (@po_none _) (@po_some _ _ _ (@pe_un _ _ _ _ _ _ un_neg (@pe_int _ _ _ _))))) (pg_name (i := 5) sc_whole_pack.nd rfl (by first | exact Or.inl rfl | exact Or.inr rfl)) (@pss_one _ _ _ (@ps_if _ _ _ _ _ _ _ _ (@pt_not _ _ _ _ (kpt_tru K (@pe_callB _ _ _ _ _ _ _ _ _ (kcl_all K) (by rfl) T.z_all bb_all (@pa_cons _ _ _ _ _ (pe_lc (Nt := ["number"]) (Nf := ["texts"]) (caps := [1]) rfl (comp_ok (sc := defScope s_whole_pack) rfl rfl (by decide +kernel) (by decide +kernel) (by decide +kernel) rfl (by decide +kernel)) (kpi_list K (@pe_call _ _ _ _ _ _ _ _ _ _ _ _ _ _ _ _ G_cells_in (hr.mono (by omega)) rfl T.m_cells_in T.F_cells_in.kp T.b_cells_in .nil pass0 (@pa_cons _ _ _ _ _ (pv 2) (@pa_cons _ _ _ _ _ (pv 5) (@pa_nil _) (by rfl)) (by rfl)) (by decide) (by rfl) (by rfl))) (fun _ _ _ _ _ => (pg_name (i := 0) (show (["number", "texts"] : List Str).Nodup by decide +kernel) rfl (by first | exact Or.inl rfl | exact Or.inr rfl))) (fun _ _ _ _ _ => (@pts_nil _)) (fun _ _ _ _ _ => (pe_chain op_le op_lt (@pe_int _ _ _ _) (pv 0) (@pe_callB _ _ _ _ _ _ _ _ _ (kcl_len K) (by rfl) T.z_len bb_len (@pa_cons _ _ _ _ _ (pv 1) (@pa_nil _) (by rfl)) (by decide) (by decide) (by rfl) (by rfl))))) (@pa_nil _) (by rfl)) (by decide) (by decide) (by rfl) (by rfl)) (fun _ => rfl))) (@pss_one _ _ _ (@ps_ret _ _ _ _ (@pe_bl _ _ _ _))) (@pss_nil _))) (by intro _; rfl))
      (@pss_one _ _ _ (@ps_ret _ _ _ _ (@pe_call _ _ _ _ _ _ _ _ _ _ _ _ _ _ _ _ G_whole_rooms (hr.mono (by omega)) rfl T.m_whole_rooms T.F_whole_rooms.kp T.b_whole_rooms .nil pass0 (@pa_cons _ _ _ _ _ (pv 2) (@pa_cons _ _ _ _ _ (pv 3) (@pa_cons _ _ _ _ _ (pv 4) (@pa_cons _ _ _ _ _ (@pe_callB _ _ _ _ _ _ _ _ _ (kcl_len K) (by rfl) T.z_len bb_len (@pa_cons _ _ _ _ _ (pv 0) (@pa_nil _) (by rfl)) (by decide) (by decide) (by rfl) (by rfl)) (@pa_nil _) (by rfl)) (by rfl)) (by rfl)) (by rfl)) (by decide) (by rfl) (by rfl))))))))))), ?_⟩
    have no : ∀ {b : Bool}, b = false → ¬ VV c es.length ts.length → (b = true ↔ VV c es.length ts.length) := fun hb hw => ⟨fun z => (by rw [hb] at z; cases z), fun z => absurd z hw⟩
    walk_at "go"
    refine i_lenL (SqL.of ha) ?_
    walk_at "run"
    rw [intsV_len]
    refine ite2 (fun hc => ?_) (fun hc => ?_)
    · walk_at "run"
      exact q false H (no rfl fun z => by have := z.1; simp at hc; omega) (Same.refl _)
    have h4 : 4 ≤ c.length := by simp at hc; omega
    walk_at "run"
    refine i_ixL (SqL.of ha) (v := .int (gi c 0)) (atI_nat (iv_at (i := 0) (by omega))) ?_
    walk_at "run"
    refine ite2 (fun hc1 => ?_) (fun hc1 => ?_)
    · walk_at "run"
      refine ite2 (fun hc2 => ?_) (fun hc2 => ?_)
      · walk_at "run"
        exact q false H (no rfl fun z => by have := z.2.1.2; simp at hc2; omega) (Same.refl _)
      have g1 : 1 ≤ gi c 0 := by simpa using hc1
      have g2 : gi c 0 ≤ 2000 := by simp at hc2; omega
      walk_at "run"
      refine i_ixL (SqL.of ha) (v := .int (gi c 3)) (atI_nat (iv_at (i := 3) (by omega))) ?_
      walk_at "run"
      refine ite2 (fun hc3 => ?_) (fun hc3 => ?_)
      · walk_at "run"
        refine i_ixL (SqL.of ha) (v := .int (gi c 1)) (atI_nat (iv_at (i := 1) (by omega))) ?_
        walk_at "run"
        refine ite2 (fun hc4 => ?_) (fun hc4 => ?_)
        · walk_at "run"
          exact q false H (no rfl fun z => by have := z.2.2.1.2; simp at hc4; omega) (Same.refl _)
        have g3 : 0 ≤ gi c 3 := by simpa using hc3
        have g4 : gi c 3 < gi c 1 := by simp at hc4; omega
        walk_at "run"
        refine i_ixL (SqL.of ha) (v := .int (gi c 0)) (atI_nat (iv_at (i := 0) (by omega))) ?_
        walk_at "run"
        refine i_ixL (SqL.of ha) (v := .int (gi c 2)) (atI_nat (iv_at (i := 2) (by omega))) ?_
        walk_at "run"
        rw [show (4 : Int) + gi c 0 = ((4 + (gi c 0).toNat : Nat) : Int) by omega]
        refine ⟨a, c, _, _, rfl, ha, hcl, fun H1 s1 hb => ?_, fun p1 sh H1 f1 s1 b1 e1 => ?_⟩
        · walk_at "run"
          refine i_itDT rfl ?_
          walk_at "run"
          exact q false H1 (no rfl fun ⟨_, _, _, sh, sy, z, _⟩ => by rw [hb] at z; cases z) s1
        have n1 := bp_len b1
        have l1 := bp_last b1
        walk_at "run"
        refine i_itDF (by simp) ?_
        walk_at "run"
        refine i_ixL (SqL.of e1) (lastN_at (by omega)) ?_
        walk_at "run"
        refine i_ixL (SqL.of (s1 _ _ ha)) (v := .int (gi c 1)) (atI_nat (iv_at (i := 1) (by omega))) ?_
        walk_at "run"
        refine ⟨a, c, _, _, rfl, s1 _ _ ha, hcl, fun H2 s2 hb => ?_, fun p2 sy H2 f2 s2 b2 e2 => ?_⟩
        · walk_at "run"
          refine i_itDT rfl ?_
          walk_at "run"
          refine q false H2 (no rfl fun ⟨_, _, _, sh', sy, z, z2, _⟩ => ?_) (s1.trans s2)
          rw [b1] at z
          cases z
          rw [hb] at z2
          cases z2
        have n2 := bp_len b2
        have l2 := bp_last b2
        have uq : ∀ sh' sy', bp c (gi c 2).toNat (4 + (gi c 0).toNat) = some sh' → bp c (gi c 1).toNat (lastN sh') = some sy' → sh' = sh ∧ sy' = sy := fun sh' sy' x1 x2 => by
          rw [b1] at x1
          cases x1
          rw [b2] at x2
          cases x2
          exact ⟨rfl, rfl⟩
        have s02 := s1.trans s2
        walk_at "run"
        refine i_itDF (by simp) ?_
        walk_at "run"
        refine i_ixL (SqL.of e2) (lastN_at (by omega)) ?_
        walk_at "run"
        refine i_lenL (SqL.of (s02 _ _ ha)) ?_
        walk_at "run"
        rw [intsV_len]
        refine ite2 (fun hc5 => ?_) (fun hc5 => ?_)
        · walk_at "run"
          refine q false H2 (no rfl fun ⟨_, _, _, sh', sy', z, z2, z3, _⟩ => ?_) s02
          obtain ⟨rfl, rfl⟩ := uq _ _ z z2
          simp [z3] at hc5
        have hlast : lastN sy = c.length := by simp at hc5; omega
        walk_at "run"
        refine i_slL (SqL.of (s2 _ _ e1)) ?_
        rw [cut_dropLast sh (by omega)]
        intro p3 H3 f3 s3 e3
        walk_at "run"
        have s03 := s02.trans s3
        refine ⟨⟨_, SqL.of e3⟩, for_list (K := K) (a := p3) (xs := natsV sh.dropLast) (fun i σ H' => Same H3 H' ∧ (∀ p ∈ sh.dropLast.take i, WS c es.length (block c p)) ∧ ∃ y, σ = [some (.ref ee), some (.ref te), some (.ref a), some (.ref p1), some (.ref p2), y]) ⟨Same.refl _, by simp, _, rfl⟩ (fun i σ H' _ ⟨s', _⟩ => SqL.of (s' _ _ e3)) ?_ ?_⟩
        · rintro i x σ H4 hx ⟨s4, hall, y, rfl⟩
          obtain ⟨k, hk, rfl⟩ : ∃ k : Nat, sh.dropLast[i]? = some k ∧ x = .int (k : Nat) := by
            simp only [natsV, List.getElem?_map] at hx
            obtain ⟨k, h1, h2⟩ := Option.map_eq_some_iff.mp hx
            exact ⟨k, h1, h2.symm⟩
          have hkm := List.mem_of_getElem? hk
          obtain ⟨p1', p2', p3'⟩ := bp_in b1 _ hkm
          have s04 := s03.trans s4
          walk_at "run"
          refine ⟨a, c, k, rfl, s04 _ _ ha, p1', p2', fun p5 H5 f5 s5 e5 => ?_⟩
          walk_at "run"
          have s05 := s04.trans s5
          refine i_lenL (SqL.of (s05 _ _ hee)) ?_
          walk_at "run"
          have bl := block_len (c := c) (q := k) (by omega)
          refine ⟨p5, a, block c k, c, es.length, rfl, e5, by omega, s05 _ _ ha, h4, fun b H6 hb s6 => ?_⟩
          walk_at "run"
          cases b with
          | false =>
            refine i_itnF ?_
            walk_at "run"
            refine q false H6 (no rfl fun ⟨_, _, _, sh', sy', z, z2, z3, z4, _⟩ => ?_) (s05.trans s6)
            obtain ⟨rfl, rfl⟩ := uq _ _ z z2
            exact absurd (hb.mpr (z4 k hkm)) (by simp)
          | true =>
            refine i_itnT ?_
            walk_at "run"
            refine ⟨s4.trans (s5.trans s6), fun p hp => ?_, _, rfl⟩
            rw [List.take_add_one, hk] at hp
            rcases List.mem_append.mp hp with hp | hp
            · exact hall p hp
            · have : p = k := by simpa using hp
              rw [this]
              exact hb.mp rfl
        rintro σ H4 ⟨s4, w1, y, rfl⟩
        rw [natsV_len, List.take_length] at w1
        walk_at "run"
        have s24 := s3.trans s4
        refine i_slL (SqL.of (s24 _ _ e2)) ?_
        rw [cut_dropLast sy (by omega)]
        intro p5 H5 f5 s5 e5
        walk_at "run"
        have s25 := s24.trans s5
        have s05 := s02.trans s25
        refine ⟨⟨_, SqL.of e5⟩, for_list (K := K) (a := p5) (xs := natsV sy.dropLast) (fun i σ H' => Same H5 H' ∧ (∀ p ∈ sy.dropLast.take i, WY c ts.length p) ∧ ∃ y, σ = [some (.ref ee), some (.ref te), some (.ref a), some (.ref p1), some (.ref p2), y]) ⟨Same.refl _, by simp, _, rfl⟩ (fun i σ H' _ ⟨s', _⟩ => SqL.of (s' _ _ e5)) ?_ ?_⟩
        · rintro i x σ H6 hx ⟨s6, hall, y, rfl⟩
          obtain ⟨k, hk, rfl⟩ : ∃ k : Nat, sy.dropLast[i]? = some k ∧ x = .int (k : Nat) := by
            simp only [natsV, List.getElem?_map] at hx
            obtain ⟨k, h1, h2⟩ := Option.map_eq_some_iff.mp hx
            exact ⟨k, h1, h2.symm⟩
          have hkm := List.mem_of_getElem? hk
          obtain ⟨p1', p2', p3'⟩ := bp_in b2 _ hkm
          have s06 := s05.trans s6
          walk_at "run"
          refine ⟨a, c, k, rfl, s06 _ _ ha, p1', p2', fun p7 H7 f7 s7 e7 => ?_⟩
          have bl := block_len (c := c) (q := k) (by omega)
          have s07 := s06.trans s7
          refine ⟨p7, rfl, ⟨_, SqL.of e7⟩, cc_list (xs := intsV (block c k)) (le_line (by rw [intsV_len]; omega)) (fun j acc H' => H' = H7 ∧ j ≤ (block c k).length ∧ acc = blsV (((block c k).take j).map fun z => decide (0 ≤ z ∧ z < (ts.length : Int)))) ⟨rfl, Nat.zero_le _, rfl⟩ (fun j acc H' ⟨e, hj, ea⟩ => ⟨by rw [ea]; simp [blsV]; omega, e ▸ SqL.of e7⟩) ?_ ?_⟩
          · rintro j x acc H' hx ⟨rfl, hj, rfl⟩
            obtain ⟨z, hz, rfl⟩ := intsV_get hx
            have fin : ∀ b : Bool, b = decide (0 ≤ z ∧ z < (ts.length : Int)) → H' = H' ∧ j + 1 ≤ (block c k).length ∧ blsV (((block c k).take j).map fun z => decide (0 ≤ z ∧ z < (ts.length : Int))) ++ [V.bl b] = blsV (((block c k).take (j + 1)).map fun z => decide (0 ≤ z ∧ z < (ts.length : Int))) := fun b hb => ⟨rfl, (List.getElem?_eq_some_iff.mp hz).1, by rw [hb, List.take_add_one, hz]; simp [blsV]⟩
            walk_at "run"
            refine ite2 (fun hd1 => ?_) (fun hd1 => ?_)
            · walk_at "run"
              refine i_lenL (SqL.of (s07 _ _ hte)) ?_
              walk_at "run"
              refine fin _ ?_
              simp at hd1
              simp [hd1]
            · walk_at "run"
              refine fin _ ?_
              simp at hd1
              simp
              omega
          · rintro acc H' ⟨rfl, _, rfl⟩ p8 H8 f8 s8 e8
            rw [intsV_len, List.take_length] at e8
            walk_at "run"
            refine i_all (SqL.of e8) ?_
            walk_at "run"
            have hall2 : (((block c k).map fun z => decide (0 ≤ z ∧ z < (ts.length : Int))).all id = true) ↔ WY c ts.length k := by
              rw [List.all_map, List.all_eq_true]
              exact ⟨fun hz z hzm => of_decide_eq_true (hz z hzm), fun hz z hzm => decide_eq_true (hz z hzm)⟩
            cases hb : ((block c k).map fun z => decide (0 ≤ z ∧ z < (ts.length : Int))).all id with
            | false =>
              refine i_itnF ?_
              walk_at "run"
              refine q false H8 (no rfl fun ⟨_, _, _, sh', sy', z, z2, z3, z4, z5, _⟩ => ?_) (s07.trans s8)
              obtain ⟨rfl, rfl⟩ := uq _ _ z z2
              have := hall2.mpr (z5 k hkm)
              rw [hb] at this
              cases this
            | true =>
              refine i_itnT ?_
              walk_at "run"
              refine ⟨s6.trans (s7.trans s8), fun p hp => ?_, _, rfl⟩
              rw [List.take_add_one, hk] at hp
              rcases List.mem_append.mp hp with hp | hp
              · exact hall p hp
              · have : p = k := by simpa using hp
                rw [this]
                exact hall2.mp hb
        rintro σ H6 ⟨s6, w2, y, rfl⟩
        rw [natsV_len, List.take_length] at w2
        have s06 := s05.trans s6
        walk_at "run"
        refine i_lenL (SqL.of (s06 _ _ hee)) ?_
        walk_at "run"
        refine ⟨a, p1, p2, c, sh, sy, es.length, rfl, s06 _ _ ha, hcl, h4, g1, (s2.trans (s25.trans s6)) _ _ e1, (s25.trans s6) _ _ e2, b1, b2, w1, hel, fun b H7 hb s7 => ?_⟩
        refine q b H7 ⟨fun z => ?_, fun ⟨_, _, _, sh', sy', z, z2, z3, z4, z5, z6⟩ => ?_⟩ (s06.trans s7)
        · exact ⟨h4, ⟨g1, g2⟩, ⟨g3, g4⟩, sh, sy, b1, b2, hlast, w1, w2, hb.mp z⟩
        · obtain ⟨rfl, rfl⟩ := uq _ _ z z2
          exact hb.mpr z6
      · walk_at "run"
        exact q false H (no rfl fun z => by have := z.2.2.1.1; simp at hc3; omega) (Same.refl _)
    · walk_at "run"
      exact q false H (no rfl fun z => by have := z.2.1.1; simp at hc1; omega) (Same.refl _)
end Z
def zs (l : List Nat) : List Int := l.map fun n => ((n : Nat) : Int)
theorem zs_len (l : List Nat) : (zs l).length = l.length := by simp [zs]
theorem nats_ints (l : List Nat) : natsV l = Z.intsV (zs l) := by simp [natsV, Z.intsV, zs]
theorem gi_zs {l : List Nat} {i n : Nat} (h : l[i]? = some n) : Z.gi (zs l) i = (n : Nat) := by
  unfold Z.gi zs
  rw [List.getD_eq_getElem?_getD, List.getElem?_map, h]
  rfl
def offR : Nat → List (List Nat) → List Nat
  | p, [] => [p]
  | p, l :: ls => p :: offR (p + (1 + l.length)) ls
theorem blocks_cons (l : List Nat) (ls : List (List Nat)) : blocks (l :: ls) = l.length :: (l ++ blocks ls) := by simp [blocks]
theorem bp_laid : ∀ {ls : List (List Nat)} {c pre post : List Nat}, c = pre ++ (blocks ls ++ post) → Z.bp (zs c) ls.length pre.length = some (offR pre.length ls)
  | [], c, pre, post, h => by
    show (if pre.length ≤ (zs c).length then some [pre.length] else none) = _
    rw [if_pos (by rw [zs_len, h]; simp)]
    rfl
  | l :: ls, c, pre, post, h => by
    have hg : c[pre.length]? = some l.length := by rw [h, List.getElem?_append_right (Nat.le_refl _), Nat.sub_self, blocks_cons]; rfl
    have hlt : pre.length < c.length := (List.getElem?_eq_some_iff.mp hg).1
    have ih := bp_laid (ls := ls) (c := c) (pre := pre ++ (l.length :: l)) (post := post) (by rw [h, blocks_cons]; simp)
    rw [List.length_cons, Z.bp_go (by rw [zs_len, gi_zs hg]; omega), gi_zs hg, Int.toNat_natCast, show pre.length + (1 + l.length) = (pre ++ (l.length :: l)).length by simp; omega, ih]
    rw [show (pre ++ (l.length :: l)).length = pre.length + (1 + l.length) by simp; omega]
    rfl
theorem offR_last : ∀ (ls : List (List Nat)) (p : Nat), Z.lastN (offR p ls) = p + (blocks ls).length
  | [], p => by simp [offR, Z.lastN, blocks]
  | [l], p => by simp [offR, Z.lastN, blocks]; omega
  | l :: m :: ls, p => by
    have ih := offR_last (m :: ls) (p + (1 + l.length))
    show Z.lastN (p :: (p + (1 + l.length)) :: offR (p + (1 + l.length) + (1 + m.length)) ls) = _
    rw [Z.lastN_cons]
    rw [show offR (p + (1 + l.length)) (m :: ls) = (p + (1 + l.length)) :: offR (p + (1 + l.length) + (1 + m.length)) ls from rfl] at ih
    rw [ih, blocks_cons l, List.length_cons, List.length_append]
    omega
theorem offR_len : ∀ (ls : List (List Nat)) (p : Nat), (offR p ls).length = ls.length + 1
  | [], p => rfl
  | l :: ls, p => by simp [offR, offR_len ls]
theorem offR_at : ∀ {ls : List (List Nat)} {c pre post : List Nat} {k : Nat} {l : List Nat}, c = pre ++ (blocks ls ++ post) → ls[k]? = some l → ∃ p, (offR pre.length ls)[k]? = some p ∧ c[p]? = some l.length ∧ Z.block (zs c) p = zs l ∧ p + 1 + l.length ≤ c.length
  | [], c, pre, post, k, l, h, e => by simp at e
  | m :: ls, c, pre, post, 0, l, h, e => by
    obtain rfl : m = l := by simpa using e
    have hg : c[pre.length]? = some m.length := by rw [h, List.getElem?_append_right (Nat.le_refl _), Nat.sub_self, blocks_cons]; rfl
    refine ⟨pre.length, rfl, hg, ?_, by rw [h, blocks_cons]; simp; omega⟩
    unfold Z.block
    rw [gi_zs hg, Int.toNat_natCast, h, blocks_cons, show zs (pre ++ (m.length :: (m ++ blocks ls) ++ post)) = zs (pre ++ [m.length]) ++ (zs m ++ zs (blocks ls ++ post)) by simp [zs], List.drop_left' (by simp [zs]), List.take_left' (by simp [zs])]
  | m :: ls, c, pre, post, k + 1, l, h, e => by
    obtain ⟨p, a1, a2⟩ := offR_at (ls := ls) (c := c) (pre := pre ++ (m.length :: m)) (post := post) (k := k) (l := l) (by rw [h, blocks_cons]; simp) (by simpa using e)
    rw [show (pre ++ (m.length :: m)).length = pre.length + (1 + m.length) by simp; omega] at a1
    exact ⟨p, by simpa [offR] using a1, a2⟩
theorem offR_in {ls : List (List Nat)} {c pre post : List Nat} (h : c = pre ++ (blocks ls ++ post)) {p : Nat} (hp : p ∈ (offR pre.length ls).dropLast) : ∃ l ∈ ls, c[p]? = some l.length ∧ Z.block (zs c) p = zs l := by
  obtain ⟨k, hk, rfl⟩ := List.mem_iff_getElem.mp hp
  have hk2 : k < ls.length := by
    rw [List.length_dropLast, offR_len] at hk
    omega
  obtain ⟨p, a1, a2, a3, _⟩ := offR_at h (List.getElem?_eq_getElem hk2)
  refine ⟨ls[k], List.getElem_mem _, ?_⟩
  rw [List.getElem_dropLast]
  have : (offR pre.length ls)[k]? = some ((offR pre.length ls)[k]'(by rw [List.length_dropLast] at hk; omega)) := List.getElem?_eq_getElem _
  rw [this] at a1
  injection a1 with a1
  rw [a1]
  exact ⟨a2, a3⟩
def triZ (t : Tri) : Z.Tri := (((t.1 : Nat) : Int), ((t.2.1 : Nat) : Int), ((t.2.2 : Nat) : Int))
def hZ (h : Sh) : Z.Sh := ((((h.1.1 : Nat) : Int), ((h.1.2 : Nat) : Int)), h.2.map triZ)
theorem shL_zs (h : Sh) : zs (shL h) = Z.shI (hZ h) := by
  have e : ∀ ts : List Tri, zs (flat3 ts) = Z.flat3 (ts.map triZ) := fun ts => by
    induction ts with
    | nil => rfl
    | cons t ts ih =>
      simp only [zs, flat3, List.flatMap_cons, List.map_append, Z.flat3, List.map_cons] at ih ⊢
      rw [ih]
      rfl
  show ((h.1.1 : Nat) : Int) :: ((h.1.2 : Nat) : Int) :: zs (flat3 h.2) = _
  rw [e]
  rfl
def ris (E : Nat) : Nat → List Tri → Prop
  | _, [] => True
  | a, t :: ts => a ≤ t.1 ∧ t.1 < E ∧ ris E (t.1 + 1) ts
theorem ris_asc {E : Nat} : ∀ {a : Nat} {ts : List Tri}, ris E a ts → Z.asc (E : Nat) ((a : Nat) - 1 : Int) ((ts.map triZ).map (·.1))
  | a, [], _ => trivial
  | a, t :: ts, h => by
    obtain ⟨h1, h2, h3⟩ := h
    have := ris_asc h3
    refine ⟨?_, ?_, ?_⟩
    · show ((a : Nat) : Int) - 1 < ((t.1 : Nat) : Int)
      omega
    · show ((t.1 : Nat) : Int) < _
      omega
    · rw [show ((t.1 + 1 : Nat) : Int) - 1 = ((t.1 : Nat) : Int) by omega] at this
      exact this
theorem ris_low {E : Nat} : ∀ {a : Nat} {ts : List Tri}, ris E a ts → ∀ t ∈ ts, a ≤ t.1 ∧ t.1 < E
  | a, t :: ts, h, u, hu => by
    obtain ⟨h1, h2, h3⟩ := h
    rcases List.mem_cons.mp hu with rfl | hu
    · exact ⟨h1, h2⟩
    · have := ris_low h3 u hu
      omega
theorem exc_ris (c : Nat × Nat) : ∀ (row : List (Nat × Nat)) (n : Nat), ris (n + row.length) n (excF c row n)
  | [], n => trivial
  | x :: row, n => by
    have ih := exc_ris c row (n + 1)
    rw [show n + 1 + row.length = n + (x :: row).length by simp; omega] at ih
    unfold excF
    split
    · have : ∀ {E a : Nat} {ts : List Tri}, ris E (a + 1) ts → ris E a ts := fun {E a ts} h => by
        cases ts with
        | nil => trivial
        | cons t ts => exact ⟨by have := h.1; omega, h.2⟩
      exact this ih
    · exact ⟨Nat.le_refl _, by simp, ih⟩
theorem fold_at {a : Nat} {E : Nat} : ∀ {ts : List Tri} {acc : List (Int × Int)}, ris E a ts → acc.length = E → ∀ j, j < E → ((ts.map triZ).foldl (fun acc t => acc.set t.1.toNat t.2) acc)[j]? = match ts.find? (fun t => t.1 == j) with | some t => some (((t.2.1 : Nat) : Int), ((t.2.2 : Nat) : Int)) | none => acc[j]?
  | [], acc, _, _, j, _ => rfl
  | t :: ts, acc, h, hl, j, hj => by
    obtain ⟨h1, h2, h3⟩ := h
    rw [List.map_cons, List.foldl_cons, fold_at (a := t.1 + 1) h3 (by simp [hl]) j hj, List.find?_cons]
    by_cases e : t.1 = j
    · rw [show (t.1 == j) = true by simpa using e]
      have : ts.find? (fun t => t.1 == j) = none := List.find?_eq_none.mpr fun u hu => by
        have := (ris_low h3 u hu).1
        simp
        omega
      rw [this]
      show (acc.set ((t.1 : Nat) : Int).toNat _)[j]? = _
      rw [Int.toNat_natCast, e, List.getElem?_set_self (by omega)]
      rfl
    · rw [show (t.1 == j) = false by simpa using e]
      cases hf : ts.find? (fun t => t.1 == j) with
      | some u => rfl
      | none =>
        show (acc.set ((t.1 : Nat) : Int).toNat _)[j]? = _
        rw [Int.toNat_natCast, List.getElem?_set_ne e]
theorem fold_len : ∀ {ts : List Z.Tri} {acc : List (Int × Int)}, (ts.foldl (fun acc t => acc.set t.1.toNat t.2) acc).length = acc.length
  | [], acc => rfl
  | t :: ts, acc => by rw [List.foldl_cons, fold_len]; simp
def pairZ (p : Nat × Nat) : Int × Int := (((p.1 : Nat) : Int), ((p.2 : Nat) : Int))
theorem pairs_pick {h : Sh} {E : Nat} (hr : ris E 0 h.2) : Z.pairsOf E (hZ h) = (List.range E).map fun j => pairZ (pick h j) := by
  refine List.ext_getElem? fun j => ?_
  rw [List.getElem?_map]
  have hl : (Z.pairsOf E (hZ h)).length = E := by unfold Z.pairsOf; rw [fold_len]; simp
  by_cases hj : j < E
  · rw [List.getElem?_range hj]
    unfold Z.pairsOf
    rw [show (hZ h).2 = h.2.map triZ from rfl, fold_at hr (by simp) j hj]
    show _ = some (pairZ (pick h j))
    unfold pick
    cases h.2.find? (fun t => t.1 == j) with
    | some t => rfl
    | none =>
      show (List.replicate E (hZ h).1)[j]? = _
      rw [List.getElem?_replicate, if_pos hj]
      rfl
  · rw [List.getElem?_eq_none_iff.mpr (by omega), List.getElem?_eq_none_iff.mpr (by simp; omega)]
    rfl
structure PkV (k : Pk) (E T : Nat) : Prop where
  n0 : 0 < k.told.length
  n1 : k.told.length ≤ 2000
  say : k.say < k.sys.length
  sh : ∀ h ∈ k.shs, ris E 0 h.2 ∧ h.1.1 < k.sys.length ∧ h.1.2 < k.told.length ∧ ∀ t ∈ h.2, t.2.1 < k.sys.length ∧ t.2.2 < k.told.length
  sy : ∀ l ∈ k.sys, ∀ n ∈ l, n < T
  told : ∀ (i t : Nat), k.told[i]? = some t → t / 2 < k.shs.length ∧ (t % 2 = 1 → ∀ h, k.shs[t / 2]? = some h → ∀ j, j < E → (pick h j).2 = i ∧ k.sys[(pick h j).1]? = some [])
theorem pick_in {k : Pk} {E T : Nat} (v : PkV k E T) {h : Sh} (hh : h ∈ k.shs) (j : Nat) : (pick h j).1 < k.sys.length ∧ (pick h j).2 < k.told.length := by
  obtain ⟨_, h1, h2, h3⟩ := v.sh h hh
  unfold pick
  cases e : h.2.find? (fun t => t.1 == j) with
  | some t => exact h3 t (List.mem_of_find?_eq_some e)
  | none => exact ⟨h1, h2⟩
theorem Pk.g (k : Pk) : k.cells[0]? = some k.told.length ∧ k.cells[1]? = some k.sys.length ∧ k.cells[2]? = some k.shs.length ∧ k.cells[3]? = some k.say := ⟨rfl, rfl, rfl, rfl⟩
theorem vv_of {k : Pk} {E T : Nat} (v : PkV k E T) : Z.VV (zs k.cells) E T := by
  obtain ⟨g0, g1, g2, g3⟩ := k.g
  have n0 := v.n0
  have n1 := v.n1
  have n2 := v.say
  have b1 := bp_laid (k.c1)
  have b2 := bp_laid (k.c2)
  rw [List.length_map] at b1
  have l1 : Z.lastN (offR k.pre1.length (k.shs.map shL)) = k.pre2.length := by
    rw [offR_last]
    simp [Pk.pre2]
  have l2 : Z.lastN (offR k.pre2.length k.sys) = k.cells.length := by
    rw [offR_last, k.c2]
    simp
  refine ⟨by rw [zs_len]; unfold Pk.cells; simp, by rw [gi_zs g0]; omega, by rw [gi_zs g3, gi_zs g1]; omega, offR k.pre1.length (k.shs.map shL), offR k.pre2.length k.sys, ?_, ?_, ?_, ?_, ?_, ?_⟩
  · rw [gi_zs g2, gi_zs g0, Int.toNat_natCast, Int.toNat_natCast, ← k.l1]
    exact b1
  · rw [gi_zs g1, Int.toNat_natCast, l1]
    exact b2
  · rw [l2, zs_len]
  · intro p hp
    obtain ⟨l, hl, _, hb⟩ := offR_in k.c1 hp
    obtain ⟨h, hh, rfl⟩ := List.mem_map.mp hl
    obtain ⟨v1, v2, v3, v4⟩ := v.sh h hh
    refine ⟨hZ h, by rw [hb, shL_zs], ?_, fun x hx => ?_⟩
    · exact ris_asc v1
    · rw [gi_zs g1, gi_zs g0]
      rcases List.mem_cons.mp hx with rfl | hx
      · show 0 ≤ ((h.1.1 : Nat) : Int) ∧ _ ∧ 0 ≤ ((h.1.2 : Nat) : Int) ∧ _
        exact ⟨by omega, by show ((h.1.1 : Nat) : Int) < _; omega, by omega, by show ((h.1.2 : Nat) : Int) < _; omega⟩
      · obtain ⟨t, ht, rfl⟩ := List.mem_map.mp hx
        obtain ⟨u, hu, rfl⟩ := List.mem_map.mp ht
        obtain ⟨w1, w2⟩ := v4 u hu
        exact ⟨by show 0 ≤ ((u.2.1 : Nat) : Int); omega, by show ((u.2.1 : Nat) : Int) < _; omega, by show 0 ≤ ((u.2.2 : Nat) : Int); omega, by show ((u.2.2 : Nat) : Int) < _; omega⟩
  · intro p hp z hz
    obtain ⟨l, hl, _, hb⟩ := offR_in k.c2 hp
    rw [hb] at hz
    obtain ⟨n, hn, rfl⟩ := List.mem_map.mp hz
    have := v.sy l hl n hn
    omega
  · intro i hi
    rw [gi_zs g0, Int.toNat_natCast] at hi
    obtain ⟨t, ht⟩ : ∃ t, k.told[i]? = some t := ⟨_, List.getElem?_eq_getElem hi⟩
    have g4 := gi_zs (k.at4 ht)
    obtain ⟨v1, v2⟩ := v.told i t ht
    unfold Z.RM
    rw [g4, gi_zs g2]
    refine ⟨by omega, by omega, fun ho => ?_⟩
    rw [show (((t : Nat) : Int) / 2).toNat = t / 2 by omega]
    obtain ⟨h, hh⟩ : ∃ h, k.shs[t / 2]? = some h := ⟨_, List.getElem?_eq_getElem v1⟩
    obtain ⟨p, a1, a2, a3, _⟩ := offR_at k.c1 (k := t / 2) (l := shL h) (by rw [List.getElem?_map, hh]; rfl)
    refine ⟨hZ h, by rw [List.getD_eq_getElem?_getD, a1]; exact a3.trans (shL_zs h), fun x hx => ?_⟩
    rw [pairs_pick (v.sh h (List.mem_of_getElem? hh)).1] at hx
    obtain ⟨j, hj, rfl⟩ := List.mem_map.mp hx
    obtain ⟨w1, w2⟩ := v2 (by omega) h hh j (by simpa using hj)
    refine ⟨by show (((pick h j).2 : Nat) : Int) = _; rw [w1], ?_⟩
    obtain ⟨q, c1, c2, _, _⟩ := offR_at k.c2 w2
    show Z.gi _ ((offR k.pre2.length k.sys).getD (((pick h j).1 : Nat) : Int).toNat 0) = 0
    rw [Int.toNat_natCast, List.getD_eq_getElem?_getD, c1]
    exact gi_zs c2
open Z (ok_block_places ok_cells_in ok_others_in ok_pairs_in ok_whole_shape ok_whole_rooms ok_whole_pack)
def sp_txat (K : PySem.W.Frag) : Sp := fun vs H Q _ => ∃ (t c : Addr) (txs : List Str) (cells l : List Nat) (pl : Nat), vs = [.ref t, .ref c, .int (pl : Nat)] ∧ H t = some (.lst (strsV txs)) ∧ H c = some (.lst (natsV cells)) ∧ cells[pl]? = some l.length ∧ Z.block (zs cells) pl = zs l ∧ (∀ n ∈ l, n < txs.length) ∧ l.length ≤ 5000 ∧ ∀ p H', H p = none → Same H H' → H' p = some (.lst (strsV (txOf txs l))) → Q (.ref p) H'
theorem ok_texts_at (T : Txt K mg t) : FnOk P w K mg base CX0 2 t.a_texts_at t.fd_texts_at ["texts", "cells", "place"] (sp_txat K) := by
  have G_cells_in := ok_cells_in (P := P) (w := w) (base := base) T
  refine T.F_texts_at.ok sc_texts_at (fun vs H Q E h => ?_) (fun cdv A outer s H vs Q E hr h => ?_)
  · obtain ⟨t, c, txs, cells, l, pl, rfl, _⟩ := h
    rfl
  · obtain ⟨tx, c, txs, cells, l, pl, rfl, ht, hc, h1, h2, hlt, hll, q⟩ := h
    refine ⟨_, (@pss_one _ _ _ (@ps_ret _ _ _ _ (pe_lc (Nt := ["number"]) (Nf := ["texts"]) (caps := [0]) rfl (comp_ok (sc := defScope s_texts_at) rfl rfl (by decide +kernel) (by decide +kernel) (by decide +kernel) rfl (by decide +kernel)) (kpi_list K (@pe_call _ _ _ _ _ _ _ _ _ _ _ _ _ _ _ _ G_cells_in (hr.mono (by omega)) rfl T.m_cells_in T.F_cells_in.kp T.b_cells_in .nil pass0 (@pa_cons _ _ _ _ _ (pv 1) (@pa_cons _ _ _ _ _ (pv 2) (@pa_nil _) (by rfl)) (by rfl)) (by decide) (by rfl) (by rfl))) (fun _ _ _ _ _ => (pg_name (i := 0) (show (["number", "texts"] : List Str).Nodup by decide +kernel) rfl (by first | exact Or.inl rfl | exact Or.inr rfl))) (fun _ _ _ _ _ => (@pts_nil _)) (fun _ _ _ _ _ => (@pe_ix _ _ _ _ _ _ _ (kix_list K) (pv 1) (pv 0) (fun _ _ => rfl)))))), ?_⟩
    walk_at "go"
    have hpl : pl < cells.length := (List.getElem?_eq_some_iff.mp h1).1
    refine ⟨c, zs cells, pl, rfl, by rw [← nats_ints]; exact hc, by rw [zs_len]; exact hpl, by rw [gi_zs h1]; omega, fun p1 H1 f1 s1 e1 => ?_⟩
    rw [h2, ← nats_ints] at e1
    refine ⟨p1, rfl, ⟨_, SqL.of e1⟩, cc_list (xs := natsV l) (le_line (by rw [natsV_len]; omega)) (fun i acc H' => H' = H1 ∧ i ≤ l.length ∧ acc = strsV (txOf txs (l.take i))) ⟨rfl, Nat.zero_le _, rfl⟩ (fun i acc H' ⟨e, hi, ea⟩ => ⟨by rw [ea]; simp [strsV, txOf]; omega, e ▸ SqL.of e1⟩) ?_ ?_⟩
    · rintro i x acc H' hx ⟨rfl, hi, rfl⟩
      obtain ⟨n, hn, rfl⟩ := natsV_get hx
      walk_at "run"
      refine i_ixL (SqL.of (s1 _ _ ht)) (atI_nat (txs_at (hlt n (List.mem_of_getElem? hn)))) ?_
      exact ⟨rfl, (List.getElem?_eq_some_iff.mp hn).1, txOf_snoc hn⟩
    · rintro acc H' ⟨rfl, _, rfl⟩ p2 H2 f2 s2 e2
      rw [natsV_len, List.take_length] at e2
      exact q p2 H2 (s1.free f2) (s1.trans s2) e2
open Z (ok_block_places ok_cells_in ok_others_in ok_pairs_in ok_whole_shape ok_whole_rooms ok_whole_pack)
def rowAt (k : Pk) (txs : List Str) (h : Sh) (j : Nat) : Row := (txOf txs (k.sys.getD (pick h j).1 []), (pick h j).2)
def roomAt (k : Pk) (E : Nat) (txs : List Str) (t : Nat) : Room_ := (decide ((t : Int) % 2 = 1), (List.range E).map (rowAt k txs (k.shs.getD (t / 2) ((0, 0), []))))
def rsOf (k : Pk) (E : Nat) (txs : List Str) : List Room_ := k.told.map (roomAt k E txs)
structure UnpPost (H H' : Hp) (tt a b c : Addr) (us rvs : List V) (gs : List Addr) (es : List Ev) (sy : List Str) (rs : List Room_) : Prop where
  same : Same H H'
  e : H' tt = some (.tup [.ref a, .ref b, .ref c])
  ea : H' a = some (.lst us)
  hu : Tr.Ats H' (es.map Ev.tr) us []
  eb : H' b = some (.lst (strsV sy))
  ec : H' c = some (.lst rvs)
  hr : Tw.Ats H' (rs.map roomW) rvs gs
  fr : ∀ x ∈ a :: b :: c :: gs, H x = none
  nd : (a :: b :: c :: gs).Nodup
def sp_unp (K : PySem.W.Frag) : Sp := fun vs H Q _ => ∃ (tt a b c : Addr) (us : List V) (es : List Ev) (txs : List Str) (k : Pk), vs = [.ref tt] ∧ H tt = some (.tup [.ref a, .ref b, .ref c]) ∧ H a = some (.lst us) ∧ Tr.Ats H (es.map Ev.tr) us [] ∧ es.length ≤ 100 ∧ H b = some (.lst (strsV txs)) ∧ H c = some (.lst (natsV k.cells)) ∧ k.cells.length ≤ 5000 ∧ PkV k es.length txs.length ∧ ∀ tt' a' b' c' us' rvs gs H', UnpPost H H' tt' a' b' c' us' rvs gs es (txOf txs (k.sys.getD k.say [])) (rsOf k es.length txs) → Q (.ref tt') H'
theorem Pk.sub (k : Pk) : k.shs.length ≤ k.cells.length ∧ k.told.length ≤ k.cells.length ∧ ∀ l ∈ k.sys, l.length ≤ k.cells.length := by
  have hb : ∀ ls : List (List Nat), ls.length ≤ (blocks ls).length ∧ ∀ l ∈ ls, l.length ≤ (blocks ls).length := fun ls => by
    induction ls with
    | nil => simp [blocks]
    | cons m ls ih =>
      rw [blocks_cons]
      refine ⟨by simp; omega, fun l hl => ?_⟩
      rcases List.mem_cons.mp hl with rfl | hl
      · simp; omega
      · have := ih.2 l hl
        simp
        omega
  have h1 := (hb (k.shs.map shL)).1
  have h2 := hb k.sys
  rw [List.length_map] at h1
  unfold Pk.cells
  simp only [List.length_cons, List.length_append]
  refine ⟨by omega, by omega, fun l hl => ?_⟩
  have := h2.2 l hl
  omega
theorem ok_unpacked (T : Txt K mg t) : FnOk P w K mg base CX0 3 t.a_unpacked t.fd_unpacked ["pack"] (sp_unp K) := by
  have G_block_places := ok_block_places (P := P) (w := w) (base := base) T
  have G_pairs_in := ok_pairs_in (P := P) (w := w) (base := base) T
  have G_texts_at := ok_texts_at (P := P) (w := w) (base := base) T
  refine T.F_unpacked.ok sc_unpacked (fun vs H Q E h => ?_) (fun cdv A outer s H vs Q E hr h => ?_)
  · obtain ⟨tt, a, b, c, us, es, txs, k, rfl, _⟩ := h
    rfl
  · obtain ⟨tt, a, b, c, us, es, txs, k, rfl, hT, ha, hu, hE, hb, hc, hcl, v, q⟩ := h
    refine ⟨_, (@pss_cons _ _ _ _ _ (@ps_set _ _ 1 _ _ _ _ sc_unpacked.nd rfl (by first | exact Or.inl rfl | exact Or.inr rfl) (@pe_ix _ _ _ _ _ _ _ (kix_tup K) (pv 0) (@pe_int _ _ _ _) (fun _ _ => rfl)) (by rfl) (by first | exact Or.inl rfl | exact Or.inr rfl))
      (@pss_cons _ _ _ _ _ (@ps_set _ _ 2 _ _ _ _ sc_unpacked.nd rfl (by first | exact Or.inl rfl | exact Or.inr rfl) (@pe_call _ _ _ _ _ _ _ _ _ _ _ _ _ _ _ _ G_block_places (hr.mono (by omega)) rfl T.m_block_places T.F_block_places.kp T.b_block_places .nil pass0 (@pa_cons _ _ _ _ _ (pv 1) (@pa_cons _ _ _ _ _ (@pe_op _ _ _ _ _ _ _ _ op_plus (pe_glob (by rfl) T.m_HEAD (by exact T.r_HEAD)) (@pe_ix _ _ _ _ _ _ _ (kix_list K) (pv 1) (@pe_int _ _ _ _) (fun _ _ => rfl))) (@pa_cons _ _ _ _ _ (@pe_ix _ _ _ _ _ _ _ (kix_list K) (pv 1) (@pe_int _ _ _ _) (fun _ _ => rfl)) (@pa_nil _) (by rfl)) (by rfl)) (by rfl)) (by decide) (by rfl) (by rfl)) (by rfl) (by first | exact Or.inl rfl | exact Or.inr rfl))
      (@pss_cons _ _ _ _ _ (@ps_set _ _ 3 _ _ _ _ sc_unpacked.nd rfl (by first | exact Or.inl rfl | exact Or.inr rfl) (@pe_call _ _ _ _ _ _ _ _ _ _ _ _ _ _ _ _ G_block_places (hr.mono (by omega)) rfl T.m_block_places T.F_block_places.kp T.b_block_places .nil pass0 (@pa_cons _ _ _ _ _ (pv 1) (@pa_cons _ _ _ _ _ (@pe_ix _ _ _ _ _ _ _ (kix_list K) (pv 2) (@pe_un _ _ _ _ _ _ un_neg (@pe_int _ _ _ _)) (fun _ _ => rfl)) (@pa_cons _ _ _ _ _ (@pe_ix _ _ _ _ _ _ _ (kix_list K) (pv 1) (@pe_int _ _ _ _) (fun _ _ => rfl)) (@pa_nil _) (by rfl)) (by rfl)) (by rfl)) (by decide) (by rfl) (by rfl)) (by rfl) (by first | exact Or.inl rfl | exact Or.inr rfl))
      (@pss_cons _ _ _ _ _ (@ps_set _ _ 4 _ _ _ _ sc_unpacked.nd rfl (by first | exact Or.inl rfl | exact Or.inr rfl) (@pe_lstN _ _ _ _ (@pa_nil _)) (by rfl) (by first | exact Or.inl rfl | exact Or.inr rfl))
      (@pss_cons _ _ _ _ _ (@ps_for _ _ _ _ _ _ _ _ PassesOwn.never rfl (kpi_list K (@pe_slice _ _ _ _ _ _ _ _ _ _ (ksl_list K) (pv 1) (@po_some _ _ _ (pe_glob (by rfl) T.m_HEAD (by exact T.r_HEAD))) (@po_some _ _ _ (@pe_op _ _ _ _ _ _ _ _ op_plus (pe_glob (by rfl) T.m_HEAD (by exact T.r_HEAD)) (@pe_ix _ _ _ _ _ _ _ (kix_list K) (pv 1) (@pe_int _ _ _ _) (fun _ _ => rfl)))))) (pg_name (i := 5) sc_unpacked.nd rfl (by first | exact Or.inl rfl | exact Or.inr rfl)) (@pss_cons _ _ _ _ _ (@ps_set _ _ 6 _ _ _ _ sc_unpacked.nd rfl (by first | exact Or.inl rfl | exact Or.inr rfl) (@pe_call _ _ _ _ _ _ _ _ _ _ _ _ _ _ _ _ G_pairs_in (hr.mono (by omega)) rfl T.m_pairs_in T.F_pairs_in.kp T.b_pairs_in .nil pass0 (@pa_cons _ _ _ _ _ (pv 1) (@pa_cons _ _ _ _ _ (@pe_ix _ _ _ _ _ _ _ (kix_list K) (pv 2) (@pe_op _ _ _ _ _ _ _ _ op_fdiv (pv 5) (@pe_int _ _ _ _)) (fun _ _ => rfl)) (@pa_cons _ _ _ _ _ (@pe_callB _ _ _ _ _ _ _ _ _ (kcl_len K) (by rfl) T.z_len bb_len (@pa_cons _ _ _ _ _ (@pe_ix _ _ _ _ _ _ _ (kix_tup K) (pv 0) (@pe_int _ _ _ _) (fun _ _ => rfl)) (@pa_nil _) (by rfl)) (by decide) (by decide) (by rfl) (by rfl)) (@pa_nil _) (by rfl)) (by rfl)) (by rfl)) (by decide) (by rfl) (by rfl)) (by rfl) (by first | exact Or.inl rfl | exact Or.inr rfl))
        (@pss_one _ _ _ (@ps_expr _ _ _ _ (@kpe_bm _ K _ _ _ _ _ _ _ _ _ _ _ PySem.F.plainAttrs_list PySem.F.slot_list_append PySem.F.type_list_append mt_append (pv 4) (@pa_cons _ _ _ _ _ (@pe_tupN _ _ _ _ _ (@pa_cons _ _ _ _ _ (@pe_cmpR _ _ _ _ _ _ _ _ op_eq (@pe_op _ _ _ _ _ _ _ _ op_mod (pv 5) (@pe_int _ _ _ _)) (@pe_int _ _ _ _) (nomark _)) (@pa_cons _ _ _ _ _ (pe_lc (Nt := ["saying", "way"]) (Nf := ["pack", "cells", "sayings"]) (caps := [0, 1, 3]) rfl (comp_ok (sc := defScope s_unpacked) rfl rfl (by decide +kernel) (by decide +kernel) (by decide +kernel) rfl (by decide +kernel)) (kpi_list K (pv 6)) (fun _ _ _ _ _ => (kpg_tup K (n := 2) rfl (pgs_cons (pg_name (i := 0) (show (["saying", "way", "pack", "cells", "sayings"] : List Str).Nodup by decide +kernel) rfl (by first | exact Or.inl rfl | exact Or.inr rfl)) (pgs_cons (pg_name (i := 1) (show (["saying", "way", "pack", "cells", "sayings"] : List Str).Nodup by decide +kernel) rfl (by first | exact Or.inl rfl | exact Or.inr rfl)) (@pgs_nil _))))) (fun _ _ _ _ _ => (@pts_nil _)) (fun _ _ _ _ _ => (@pe_tupN _ _ _ _ _ (@pa_cons _ _ _ _ _ (@pe_call _ _ _ _ _ _ _ _ _ _ _ _ _ _ _ _ G_texts_at (hr.mono (by omega)) rfl T.m_texts_at T.F_texts_at.kp T.b_texts_at .nil pass0 (@pa_cons _ _ _ _ _ (@pe_ix _ _ _ _ _ _ _ (kix_tup K) (pv 2) (@pe_int _ _ _ _) (fun _ _ => rfl)) (@pa_cons _ _ _ _ _ (pv 3) (@pa_cons _ _ _ _ _ (@pe_ix _ _ _ _ _ _ _ (kix_list K) (pv 4) (pv 0) (fun _ _ => rfl)) (@pa_nil _) (by rfl)) (by rfl)) (by rfl)) (by decide) (by rfl) (by rfl)) (@pa_cons _ _ _ _ _ (pv 1) (@pa_nil _) (by rfl)) (by rfl))))) (@pa_nil _) (by rfl)) (by rfl))) (@pa_nil _) (by rfl)) (by rfl) (by rfl) (by rfl) (by rfl) (by rfl) (by rfl)) (by rfl)))) (by intro _; rfl))
      (@pss_one _ _ _ (@ps_ret _ _ _ _ (@pe_tupN _ _ _ _ _ (@pa_cons _ _ _ _ _ (@pe_callTy _ _ _ _ _ _ _ _ _ (kcl_list K) (by rfl) T.z_list bb_list (@pa_cons _ _ _ _ _ (@pe_ix _ _ _ _ _ _ _ (kix_tup K) (pv 0) (@pe_int _ _ _ _) (fun _ _ => rfl)) (@pa_nil _) (by rfl)) (by decide) (by decide) (by rfl) (by rfl)) (@pa_cons _ _ _ _ _ (@pe_call _ _ _ _ _ _ _ _ _ _ _ _ _ _ _ _ G_texts_at (hr.mono (by omega)) rfl T.m_texts_at T.F_texts_at.kp T.b_texts_at .nil pass0 (@pa_cons _ _ _ _ _ (@pe_ix _ _ _ _ _ _ _ (kix_tup K) (pv 0) (@pe_int _ _ _ _) (fun _ _ => rfl)) (@pa_cons _ _ _ _ _ (pv 1) (@pa_cons _ _ _ _ _ (@pe_ix _ _ _ _ _ _ _ (kix_list K) (pv 3) (@pe_ix _ _ _ _ _ _ _ (kix_list K) (pv 1) (@pe_int _ _ _ _) (fun _ _ => rfl)) (fun _ _ => rfl)) (@pa_nil _) (by rfl)) (by rfl)) (by rfl)) (by decide) (by rfl) (by rfl)) (@pa_cons _ _ _ _ _ (pv 4) (@pa_nil _) (by rfl)) (by rfl)) (by rfl)))))))))), ?_⟩
    have sl : (1000000 : Nat) ≤ sizeLine := le_line (Nat.le_refl _)
    have ul : us.length = es.length := by rw [hu.len, List.length_map]
    obtain ⟨g0, g1, g2, g3⟩ := k.g
    obtain ⟨kl1, kl2, kl3⟩ := k.sub
    have hci : H c = some (.lst (Z.intsV (zs k.cells))) := by rw [← nats_ints]; exact hc
    have hcl' : (zs k.cells).length ≤ 5000 := by rw [zs_len]; exact hcl
    have b1 := bp_laid k.c1
    have b2 := bp_laid k.c2
    rw [List.length_map] at b1
    have l1 : Z.lastN (offR k.pre1.length (k.shs.map shL)) = k.pre2.length := by
      rw [offR_last]
      simp [Pk.pre2]
    walk_at "go"
    refine i_ixT (SqT.of hT) (atI_nat (j := 2) rfl) ?_
    walk_at "run"
    refine i_ixL (SqL.of hc) (atI_nat (j := 0) (natsV_at g0)) ?_
    walk_at "run"
    refine i_ixL (SqL.of hc) (atI_nat (j := 2) (natsV_at g2)) ?_
    walk_at "run"
    rw [show (4 : Int) + ((k.told.length : Nat) : Int) = ((k.pre1.length : Nat) : Int) by rw [k.l1]; omega]
    refine ⟨c, zs k.cells, k.pre1.length, (k.shs.length : Nat), rfl, hci, hcl', fun H' _ z => ?_, fun pS l H1 f1 s1 z e1 => ?_⟩
    · rw [Int.toNat_natCast, b1] at z
      cases z
    rw [Int.toNat_natCast, b1] at z
    obtain rfl := Option.some.inj z
    walk_at "run"
    refine i_ixL (SqL.of e1) (Z.lastN_at (by rw [offR_len]; omega)) ?_
    rw [l1]
    walk_at "run"
    refine i_ixL (SqL.of (s1 _ _ hc)) (atI_nat (j := 1) (natsV_at g1)) ?_
    walk_at "run"
    refine ⟨c, zs k.cells, k.pre2.length, (k.sys.length : Nat), rfl, s1 _ _ hci, hcl', fun H' _ z => ?_, fun pY l H2 f2 s2 z e2 => ?_⟩
    · rw [Int.toNat_natCast, b2] at z
      cases z
    rw [Int.toNat_natCast, b2] at z
    obtain rfl := Option.some.inj z
    have s02 := s1.trans s2
    walk_at "run"
    intro pR H3 f3 s3 e3
    walk_at "run"
    have s03 := s02.trans s3
    refine i_ixL (SqL.of (s03 _ _ hc)) (atI_nat (j := 0) (natsV_at g0)) ?_
    walk_at "run"
    refine i_slL (SqL.of (s03 _ _ hc)) ?_
    rw [show (4 : Int) + ((k.told.length : Nat) : Int) = ((4 + k.told.length : Nat) : Int) by omega, show (4 : Int) = ((4 : Nat) : Int) from rfl, cut_nats, Nat.add_sub_cancel_left, show (k.cells.drop 4).take k.told.length = k.told by simp [Pk.cells]]
    intro p4 H4 f4 s4 e4
    walk_at "run"
    have s04 := s03.trans s4
    have e14 := (s2.trans (s3.trans s4)) _ _ e1
    have e24 := (s3.trans s4) _ _ e2
    have e34 := s4 _ _ e3
    have fR : H pR = none := s02.free f3
    have np4 : p4 ≠ pR := ne_of_none e3 f4 |>.symm
    have nS : pS ≠ pR := ne_of_none (s2 _ _ e1) f3
    have nY : pY ≠ pR := ne_of_none e2 f3
    obtain ⟨Pv, hPv⟩ : ∃ Pv : Nat → St → Hp → Prop, Pv = (fun i σ H' => i ≤ k.told.length ∧ (∀ x o, x ≠ pR → H4 x = some o → H' x = some o) ∧ (∃ acc fs, H' pR = some (.lst acc) ∧ Tw.Ats H' (((k.told.take i).map (roomAt k es.length txs)).map roomW) acc fs ∧ fs.Nodup ∧ ∀ x ∈ fs, H4 x = none) ∧ ∃ y z, σ = [some (.ref tt), some (.ref c), some (.ref pS), some (.ref pY), some (.ref pR), y, z]) := ⟨_, rfl⟩
    refine ⟨⟨_, SqL.of e4⟩, for_list (K := K) (a := p4) (xs := natsV k.told) Pv (by rw [hPv]; exact ⟨Nat.zero_le _, fun x o _ e => e, ⟨[], [], e34, by simp [Tw.Ats], by simp, by simp⟩, _, _, rfl⟩) (fun i σ H' _ hI => by rw [hPv] at hI; obtain ⟨_, kp, _⟩ := hI; exact SqL.of (kp _ _ np4 e4)) ?_ ?_⟩
    · intro i x σ H5 hx hI
      rw [hPv] at hI
      obtain ⟨hi, kp, ⟨acc, fs, eR, hat, hnd, hfs⟩, y, z, rfl⟩ := hI
      obtain ⟨t, ht, rfl⟩ := natsV_get hx
      have hi' : i < k.told.length := (List.getElem?_eq_some_iff.mp ht).1
      have htk : k.told.take (i + 1) = k.told.take i ++ [t] := by rw [List.take_add_one, ht]; rfl
      have s05 : Same H H5 := fun x o e => kp x o (ne_of_none e fR) (s04 _ _ e)
      have fr5 : ∀ {x : Addr}, H5 x = none → H4 x = none := fun {x} z => by
        cases e : H4 x with
        | none => rfl
        | some o =>
          rw [kp x o (fun q => by rw [q, eR] at z; cases z) e] at z
          cases z
      obtain ⟨v1, _⟩ := v.told i t ht
      obtain ⟨h, hh⟩ : ∃ h, k.shs[t / 2]? = some h := ⟨_, List.getElem?_eq_getElem v1⟩
      have hhm := List.mem_of_getElem? hh
      have hris := (v.sh h hhm).1
      obtain ⟨p, a1, a2, a3, a4⟩ := offR_at k.c1 (k := t / 2) (l := shL h) (by rw [List.getElem?_map, hh]; rfl)
      have al : acc.length = i := by rw [hat.len, List.length_map, List.length_map, List.length_take]; omega
      walk_at "run"
      rw [show ((t : Nat) : Int) / 2 = ((t / 2 : Nat) : Int) by omega]
      refine i_ixL (SqL.of (kp _ _ nS e14)) (atI_nat (natsV_at a1)) ?_
      walk_at "run"
      refine i_ixT (SqT.of (s05 _ _ hT)) (atI_nat (j := 0) rfl) ?_
      walk_at "run"
      refine i_lenL (SqL.of (s05 _ _ ha)) ?_
      walk_at "run"
      rw [ul]
      refine ⟨c, zs k.cells, p, es.length, hZ h, rfl, s05 _ _ hci, hcl', by rw [zs_len]; omega, by rw [gi_zs a2]; omega, by rw [gi_zs a2, zs_len, Int.toNat_natCast]; omega, by rw [a3, shL_zs], ris_asc hris, hE, fun pP ps H6 f6 s6 e6 hps => ?_⟩
      rw [pairs_pick hris, List.map_map] at hps
      have pl : ps.length = es.length := by rw [hps.len, List.length_map, List.length_range]
      have s06 := s05.trans s6
      walk_at "run"
      refine i_tyL (SqL.of (s6 _ _ eR)) ?_
      walk_at "run"
      refine ⟨⟨_, SqL.of e6⟩, cc_pairs (xs := ps) (by omega) (fun j ac H' => j ≤ es.length ∧ ac.length = j ∧ Same H6 H' ∧ ∃ gs, Tw.Ats H' (((List.range j).map (rowAt k txs h)).map rowW) ac gs ∧ gs.Nodup ∧ ∀ x ∈ gs, H6 x = none) ⟨Nat.zero_le _, rfl, Same.refl _, [], by simp [Tw.Ats], by simp, by simp⟩ (fun j ac H' ⟨_, e, s', _⟩ => ⟨by omega, SqL.of (s' _ _ e6)⟩) ?_ ?_⟩
      · rintro j x ac H7 hx ⟨hj, ea, s7, gs, hat7, nd7, fr7⟩
        obtain ⟨tx, hx1, hx2⟩ := Z.ats_get0w (hps.same s7) hx
        have hj' : j < es.length := by
          have := (List.getElem?_eq_some_iff.mp hx).1
          omega
        rw [List.getElem?_map, List.getElem?_range hj'] at hx1
        obtain rfl := Option.some.inj hx1
        obtain ⟨kk, rfl, hkk, _⟩ := Z.pair_w.mp hx2
        obtain ⟨w1, w2⟩ := pick_in v hhm j
        obtain ⟨l, hl⟩ : ∃ l, k.sys[(pick h j).1]? = some l := ⟨_, List.getElem?_eq_getElem w1⟩
        obtain ⟨q2, c1, c2, c3, c4⟩ := offR_at k.c2 hl
        have s07 := s06.trans s7
        refine ⟨kk, _, _, rfl, SqT.of hkk, ?_⟩
        walk_at "run"
        refine i_ixT (SqT.of (s07 _ _ hT)) (atI_nat (j := 1) rfl) ?_
        walk_at "run"
        refine i_ixL (SqL.of ((s6.trans s7) _ _ (kp _ _ nY e24))) (atI_nat (j := (pick h j).1) (natsV_at c1)) ?_
        walk_at "run"
        refine ⟨b, c, txs, k.cells, l, q2, rfl, s07 _ _ hb, s07 _ _ hc, c2, c3, v.sy l (List.mem_of_getElem? hl), by have := kl3 l (List.mem_of_getElem? hl); omega, fun p8 H8 f8 s8 e8 => ?_⟩
        walk_at "run"
        intro p9 H9 f9 s9 e9
        refine ⟨hj', by simp [ea], s7.trans (s8.trans s9), gs ++ [p8], ?_, ?_, ?_⟩
        · rw [List.range_succ, List.map_append, List.map_append]
          refine (hat7.same (s8.trans s9)).snoc (row_w.mpr ⟨p9, p8, rfl, e9, ?_, rfl⟩)
          rw [s9 _ _ e8]
          unfold rowAt
          rw [List.getD_eq_getElem?_getD, hl]
          rfl
        · refine List.nodup_append.mpr ⟨nd7, by simp, fun x hx y hy e => ?_⟩
          rw [List.mem_singleton.mp hy] at e
          obtain ⟨vs, ev⟩ := tws_lst hat7 x hx
          rw [e, f8] at ev
          cases ev
        · intro x hx
          rcases List.mem_append.mp hx with hx | hx
          · exact fr7 x hx
          · rw [List.mem_singleton.mp hx]; exact s7.free f8
      rintro ac H7 ⟨_, ea, s7, gs, hat7, nd7, fr7⟩ p8 H8 f8 s8 e8
      rw [pl] at hat7
      walk_at "run"
      intro p9 H9 f9 s9 e9
      walk_at "run"
      have s59 := s6.trans (s7.trans (s8.trans s9))
      refine i_append (s59 _ _ eR) (by omega) ?_
      have fr8 : ∀ x ∈ p8 :: gs, H5 x = none := fun x hx => by
        rcases List.mem_cons.mp hx with rfl | hx
        · exact (s6.trans s7).free f8
        · exact s6.free (fr7 x hx)
      have nR : ∀ x ∈ p8 :: gs, x ≠ pR := fun x hx z => by have := fr8 x hx; rw [z, eR] at this; cases this
      have nRf : ∀ x ∈ fs, x ≠ pR := fun x hx z => by have := hfs x hx; rw [z, e34] at this; cases this
      rw [hPv]
      refine ⟨hi', fun x o hx e => by rw [upd_ne hx]; exact s59 _ _ (kp x o hx e), ⟨_, fs ++ (p8 :: gs), upd_same, ?_, ?_, ?_⟩, _, _, rfl⟩
      · rw [htk, List.map_append, List.map_append]
        refine Tw.Ats.snoc ((hat.same s59).mono (Keep.upd (s59 _ _ eR) fun z => nRf _ z rfl)) (Tw.At.mono ?_ (Keep.upd (s59 _ _ eR) fun z => nR _ z rfl))
        refine room_w.mpr ⟨p9, p8, ac, gs, rfl, e9, s9 _ _ e8, ?_, rfl⟩
        unfold roomAt
        rw [List.getD_eq_getElem?_getD, hh]
        exact hat7.same (s8.trans s9)
      · refine List.nodup_append.mpr ⟨hnd, List.nodup_cons.mpr ⟨fun hx => ?_, nd7⟩, fun x hx y hy e => ?_⟩
        · obtain ⟨vs, ev⟩ := tws_lst hat7 p8 hx
          rw [f8] at ev
          cases ev
        · obtain ⟨vs, ev⟩ := tws_lst hat x hx
          rw [e, fr8 y hy] at ev
          cases ev
      · intro x hx
        rcases List.mem_append.mp hx with hx | hx
        · exact hfs x hx
        · exact fr5 (fr8 x hx)
    intro σ H5 hI
    rw [hPv] at hI
    obtain ⟨_, kp, ⟨acc, fs, eR, hat, hnd, hfs⟩, y, z, rfl⟩ := hI
    rw [natsV_len, List.take_length] at hat
    have s05 : Same H H5 := fun x o e => kp x o (ne_of_none e fR) (s04 _ _ e)
    walk_at "run"
    refine i_ixT (SqT.of (s05 _ _ hT)) (atI_nat (j := 0) rfl) ?_
    walk_at "run"
    refine i_listL (SqL.of (s05 _ _ ha)) ?_
    intro p6 H6 f6 s6 e6
    walk_at "run"
    have s06 := s05.trans s6
    refine i_ixT (SqT.of (s06 _ _ hT)) (atI_nat (j := 1) rfl) ?_
    walk_at "run"
    refine i_ixL (SqL.of (s06 _ _ hc)) (atI_nat (j := 3) (natsV_at g3)) ?_
    walk_at "run"
    obtain ⟨l, hl⟩ : ∃ l, k.sys[k.say]? = some l := ⟨_, List.getElem?_eq_getElem v.say⟩
    obtain ⟨q2, c1, c2, c3, c4⟩ := offR_at k.c2 hl
    refine i_ixL (SqL.of (s6 _ _ (kp _ _ nY e24))) (atI_nat (j := k.say) (natsV_at c1)) ?_
    walk_at "run"
    refine ⟨b, c, txs, k.cells, l, q2, rfl, s06 _ _ hb, s06 _ _ hc, c2, c3, v.sy l (List.mem_of_getElem? hl), by have := kl3 l (List.mem_of_getElem? hl); omega, fun p7 H7 f7 s7 e7 => ?_⟩
    walk_at "run"
    intro p8 H8 f8 s8 e8
    have s58 := s6.trans (s7.trans s8)
    have hlst := fun x hx => tws_lst hat x hx
    refine q p8 p6 p7 pR us acc fs H8 ⟨s05.trans s58, e8, (s7.trans s8) _ _ e6, hu.same (s05.trans s58), ?_, s58 _ _ eR, hat.same s58, fun x hx => ?_, ?_⟩
    · rw [s8 _ _ e7, List.getD_eq_getElem?_getD, hl]
      rfl
    · rcases List.mem_cons.mp hx with rfl | hx
      · exact s05.free f6
      rcases List.mem_cons.mp hx with rfl | hx
      · exact s06.free f7
      rcases List.mem_cons.mp hx with rfl | hx
      · exact fR
      · exact s04.free (hfs x hx)
    · have n1 : p6 ≠ p7 := ne_of_none e6 f7
      have n2 : p6 ≠ pR := (ne_of_none eR f6).symm
      have n3 : p7 ≠ pR := (ne_of_none (s6 _ _ eR) f7).symm
      have n4 : p6 ∉ fs := fun z => by
        obtain ⟨vs, ev⟩ := hlst _ z
        rw [f6] at ev
        cases ev
      have n5 : p7 ∉ fs := fun z => by
        obtain ⟨vs, ev⟩ := hlst _ z
        rw [s6.free f7] at ev
        cases ev
      have n6 : pR ∉ fs := fun z => by have := hfs _ z; rw [e34] at this; cases this
      simp only [List.nodup_cons, List.mem_cons, not_or]
      exact ⟨⟨n1, n2, n4⟩, ⟨n3, n5⟩, n6, hnd⟩
def Ev.tw : Ev → Tw
  | .quiet => .tup [strW "quiet"]
  | .key k => .tup [strW "key", .sc (.int (k : Nat))]
  | .word w => .tup [strW "word", strW w]
theorem sc_w {H : Hp} {x : V} (h : Scal x) : (Tw.sc x).At H x [] := by rw [Tw.At]; exact ⟨rfl, h, rfl⟩
theorem ev_tw {H : Hp} {e : Ev} {v : V} (h : e.tr.At H v []) : e.tw.At H v [] := by
  cases e with
  | quiet =>
    obtain ⟨a, vs, rfl, e2, q1⟩ := at_tup0.mp h
    obtain ⟨u1, w1, rfl, a1, q2⟩ := ats_cons0.mp q1
    cases at_str0.mp a1
    cases ats_nil0.mp q2
    simp only [Ev.tw, Tw.At, Tw.Ats]
    exact ⟨a, _, rfl, e2, _, _, [], [], rfl, rfl, sc_w trivial, rfl, rfl⟩
  | key k =>
    obtain ⟨a, vs, rfl, e2, q1⟩ := at_tup0.mp h
    obtain ⟨u1, w1, rfl, a1, q2⟩ := ats_cons0.mp q1
    cases at_str0.mp a1
    obtain ⟨u2, w2, rfl, a2, q3⟩ := ats_cons0.mp q2
    cases at_int0.mp a2
    cases ats_nil0.mp q3
    simp only [Ev.tw, Tw.At, Tw.Ats]
    exact ⟨a, _, rfl, e2, _, _, [], [], rfl, rfl, sc_w trivial, _, _, [], [], rfl, rfl, ⟨rfl, trivial, rfl⟩, rfl, rfl⟩
  | word w =>
    obtain ⟨a, vs, rfl, e2, q1⟩ := at_tup0.mp h
    obtain ⟨u1, w1, rfl, a1, q2⟩ := ats_cons0.mp q1
    cases at_str0.mp a1
    obtain ⟨u2, w2, rfl, a2, q3⟩ := ats_cons0.mp q2
    cases at_str0.mp a2
    cases ats_nil0.mp q3
    simp only [Ev.tw, Tw.At, Tw.Ats]
    exact ⟨a, _, rfl, e2, _, _, [], [], rfl, rfl, sc_w trivial, _, _, [], [], rfl, rfl, sc_w trivial, rfl, rfl⟩
theorem evs_tw {H : Hp} : ∀ {es : List Ev} {vs : List V}, Tr.Ats H (es.map Ev.tr) vs [] → Tw.Ats H (es.map Ev.tw) vs []
  | [], vs, h => by
    cases ats_nil0.mp h
    simp [Tw.Ats]
  | e :: es, vs, h => by
    obtain ⟨u, w1, rfl, a1, h⟩ := ats_cons0.mp h
    simp only [List.map_cons, Tw.Ats]
    exact ⟨_, _, [], [], rfl, rfl, ev_tw a1, evs_tw h⟩
def tabL (es : List Ev) (sy : List Str) (rs : List Room_) : List Tw := [.lst (es.map Ev.tw), .lst (sy.map strW), .lst (rs.map roomW)]
theorem TabAt.tw {H : Hp} {v : V} {a b c : Addr} {es : List Ev} {sy : List Str} {rs : List Room_} {gs : List Addr} (m : TabAt H v a b c es sy rs gs) : (Tw.tup (tabL es sy rs)).At H v ([a] ++ ([b] ++ ((c :: gs) ++ []))) := by
  obtain ⟨tt, us, rvs, rfl, h1, h2, h3, h4, h5, h6⟩ := m.ex
  simp only [tabL, Tw.At, Tw.Ats]
  exact ⟨tt, _, rfl, h1, _, _, [a], _, rfl, rfl, ⟨a, us, [], rfl, h2, evs_tw h3, rfl⟩, _, _, [b], _, rfl, rfl, ⟨b, _, [], rfl, h4, strs_w.mpr ⟨rfl, rfl⟩, rfl⟩, _, _, c :: gs, [], rfl, rfl, ⟨c, rvs, gs, rfl, h5, h6, rfl⟩, rfl, rfl⟩
theorem tabL_h (es : List Ev) (sy : List Str) (rs : List Room_) : Tw.hs (tabL es sy rs) ≤ 50 := by
  have h1 : Tw.hs (es.map Ev.tw) ≤ 1 := hsW_all fun x hx => by
    obtain ⟨e, _, rfl⟩ := List.mem_map.mp hx
    cases e <;> simp [Ev.tw, Tw.h, Tw.hs, strW]
  have h2 := strs_hW sy
  have h3 : Tw.hs (rs.map roomW) ≤ 4 := hsW_all fun x hx => by
    obtain ⟨r, _, rfl⟩ := List.mem_map.mp hx
    have : Tw.hs (r.2.map rowW) ≤ 2 := hsW_all fun x hx => by
      obtain ⟨r, _, rfl⟩ := List.mem_map.mp hx
      have := strs_hW r.1
      simp only [rowW, Tw.h, Tw.hs]
      omega
    simp only [roomW, Tw.h, Tw.hs]
    omega
  simp only [tabL, Tw.h, Tw.hs]
  omega
def dueL (es : List Ev) (txs : List Str) (cs : List Nat) : List Tw := [.lst (es.map Ev.tw), .lst (txs.map strW), .lst (cs.map natW)]
theorem due_tw {H : Hp} {tt a b c : Addr} {us : List V} {es : List Ev} {txs : List Str} {cs : List Nat} (h1 : H tt = some (.tup [.ref a, .ref b, .ref c])) (h2 : H a = some (.lst us)) (h3 : Tr.Ats H (es.map Ev.tr) us []) (h4 : H b = some (.lst (strsV txs))) (h5 : H c = some (.lst (natsV cs))) : (Tw.tup (dueL es txs cs)).At H (.ref tt) ([a] ++ ([b] ++ ([c] ++ []))) := by
  simp only [dueL, Tw.At, Tw.Ats]
  exact ⟨tt, _, rfl, h1, _, _, [a], _, rfl, rfl, ⟨a, us, [], rfl, h2, evs_tw h3, rfl⟩, _, _, [b], _, rfl, rfl, ⟨b, _, [], rfl, h4, strs_w.mpr ⟨rfl, rfl⟩, rfl⟩, _, _, [c], [], rfl, rfl, ⟨c, _, [], rfl, h5, nats_w.mpr ⟨rfl, rfl⟩, rfl⟩, rfl, rfl⟩
theorem dueL_h (es : List Ev) (txs : List Str) (cs : List Nat) : Tw.hs (dueL es txs cs) ≤ 50 := by
  have h1 : Tw.hs (es.map Ev.tw) ≤ 1 := hsW_all fun x hx => by
    obtain ⟨e, _, rfl⟩ := List.mem_map.mp hx
    cases e <;> simp [Ev.tw, Tw.h, Tw.hs, strW]
  have h2 := strs_hW txs
  have h3 : Tw.hs (cs.map natW) ≤ 0 := hsW_all fun x hx => by
    obtain ⟨e, _, rfl⟩ := List.mem_map.mp hx
    simp [natW, Tw.h]
  simp only [dueL, Tw.h, Tw.hs]
  omega
theorem pkv {H H' : Hp} {tt a b c : Addr} {us : List V} {txs : List Str} {k : Pk} {es : List Ev} {sy : List Str} {rs : List Room_} (ok : TabOk es sy rs) (h60 : rs.length ≤ 60) (hov : ∀ (j : Nat) (q : Room_), rs[j]? = some q → q.1 = true → q.2 = List.replicate es.length ([], j)) (hL8 : (mets (sayL sy rs)).length ≤ 8) (pp : PackPost H H' tt a b c us txs k es sy rs) : PkV k es.length txs.length ∧ k.cells.length ≤ 5000 ∧ rsOf k es.length txs = rs ∧ txOf txs (k.sys.getD k.say []) = sy := by
  have hok := pp.ok
  have his := pp.is
  have hel := ok.ne
  have hrow : ∀ h ∈ k.shs, ∃ row : List (Nat × Nat), row.length = es.length ∧ h = shOf row := fun h hh => by
    rw [pp.fn] at hh
    obtain ⟨row, hr, rfl⟩ := List.mem_map.mp hh
    obtain ⟨r, hr2, rfl⟩ := List.mem_map.mp ((mets_mem _ _).mp hr)
    exact ⟨_, by simp [prL]; exact (ok.ok r hr2).1, rfl⟩
  refine ⟨⟨hok.n0, by have := hok.nt; omega, hok.say, fun h hh => ?_, fun l hl => (hok.sy l hl).2, fun i t ht => ⟨hok.told t (List.mem_of_getElem? ht), fun ho h hh j hj => ?_⟩⟩, ?_, ?_, ?_⟩
  · obtain ⟨row, hl, rfl⟩ := hrow h hh
    have hx := hok.sh _ hh
    refine ⟨?_, hx.1, hx.2.1, hx.2.2.1⟩
    have := exc_ris (commF row) row 0
    rw [Nat.zero_add, hl] at this
    exact this
  · have hi : i < rs.length := by rw [← his.tl]; exact (List.getElem?_eq_some_iff.mp ht).1
    obtain ⟨t2, h2, a1, a2, a3, a4⟩ := his.room i rs[i] (List.getElem?_eq_getElem hi)
    rw [ht] at a1
    obtain rfl := Option.some.inj a1
    rw [hh] at a3
    obtain rfl := Option.some.inj a3
    have hov := hov i rs[i] (List.getElem?_eq_getElem hi) (by rw [← a2]; exact decide_eq_true (by omega))
    obtain ⟨b1, l, b2, b3⟩ := a4 j ([], i) (by rw [hov, List.getElem?_replicate, if_pos hj])
    refine ⟨b1, ?_⟩
    rw [b2]
    have : l = [] := by
      unfold txOf at b3
      exact List.map_eq_nil_iff.mp b3
    rw [this]
  · have hL := hL8
    have e1 : k.told.length ≤ 60 := by rw [his.tl]; omega
    have e2 : k.shs.length ≤ 60 := by
      rw [pp.fn]
      have := mets_len (rs.map fun r => prL (mets (sayL sy rs)) r.2)
      rw [List.length_map] at this
      simp only [dueK, List.length_map]
      omega
    have e3 : k.sys.length ≤ 8 := by rw [pp.fn]; simp only [dueK, List.length_map]; exact hL
    have hb1 := fm_len (f := fun l : List Nat => l.length :: l) (n := 63) (l := k.shs.map shL) fun l hl => by
      obtain ⟨h, hh, rfl⟩ := List.mem_map.mp hl
      obtain ⟨row, hl, rfl⟩ := hrow h hh
      have := excF_len (commF row) row 0
      simp only [List.length_cons, shL, shOf, flat3_len]
      omega
    have hb2 := fm_len (f := fun l : List Nat => l.length :: l) (n := 101) (l := k.sys) fun l hl => by
      have := (hok.sy l hl).1
      simp only [List.length_cons]
      omega
    have m1 := Nat.mul_le_mul_right 63 (show (k.shs.map shL).length ≤ 60 by rw [List.length_map]; omega)
    have m2 := Nat.mul_le_mul_right 101 e3
    unfold Pk.cells blocks
    simp only [List.length_cons, List.length_append]
    omega
  · refine List.ext_getElem? fun i => ?_
    unfold rsOf
    rw [List.getElem?_map]
    cases e : rs[i]? with
    | none =>
      have h1 := List.getElem?_eq_none_iff.mp e
      have h2 := his.tl
      rw [List.getElem?_eq_none_iff.mpr (by omega)]
      rfl
    | some r =>
      obtain ⟨t, h, a1, a2, a3, a4⟩ := his.room i r e
      rw [a1]
      show some (roomAt k es.length txs t) = some r
      congr 1
      unfold roomAt
      rw [List.getD_eq_getElem?_getD, a3]
      refine Prod.ext a2 ?_
      have hl : r.2.length = es.length := (ok.ok r (List.mem_of_getElem? e)).1
      refine List.ext_getElem? fun j => ?_
      show ((List.range es.length).map (rowAt k txs h))[j]? = _
      rw [List.getElem?_map]
      by_cases hj : j < es.length
      · rw [List.getElem?_range hj]
        obtain ⟨x, hx⟩ : ∃ x, r.2[j]? = some x := ⟨_, List.getElem?_eq_getElem (by omega)⟩
        obtain ⟨b1, l, b2, b3⟩ := a4 j x hx
        rw [hx]
        show some (rowAt k txs h j) = some x
        congr 1
        unfold rowAt
        rw [List.getD_eq_getElem?_getD, b2]
        exact Prod.ext b3 b1
      · rw [List.getElem?_eq_none_iff.mpr (by simp; omega), List.getElem?_eq_none_iff.mpr (by omega)]
        rfl
  · obtain ⟨l, a1, a2⟩ := his.say
    rw [List.getD_eq_getElem?_getD, a1]
    exact a2
theorem ris_mono {E F : Nat} (h : E ≤ F) : ∀ {a : Nat} {ts : List Tri}, ris E a ts → ris F a ts
  | a, [], _ => trivial
  | a, t :: ts, ⟨h1, h2, h3⟩ => ⟨h1, by omega, ris_mono h h3⟩
theorem ris_snoc {i : Nat} {p : Nat × Nat} : ∀ {a : Nat} {ts : List Tri}, ris i a ts → a ≤ i → ris (i + 1) a (ts ++ [(i, p)])
  | a, [], _, ha => ⟨ha, by omega, trivial⟩
  | a, t :: ts, ⟨h1, h2, h3⟩, ha => ⟨h1, by omega, ris_snoc h3 (by omega)⟩
theorem ris_len {E : Nat} : ∀ {a : Nat} {ts : List Tri}, ris E a ts → ts.length ≤ E - a
  | a, [], _ => by simp
  | a, t :: ts, ⟨h1, h2, h3⟩ => by
    have := ris_len h3
    simp only [List.length_cons]
    omega
def ShOk (E S R : Nat) (h : Sh) : Prop := ris E 0 h.2 ∧ h.1.1 < S ∧ h.1.2 < R ∧ ∀ t ∈ h.2, t.2.1 < S ∧ t.2.2 < R
theorem shL_snoc (h : Sh) (a b c : Nat) : natsV (shL h) ++ [V.int (a : Nat), V.int (b : Nat), V.int (c : Nat)] = natsV (shL (h.1, h.2 ++ [(a, b, c)])) := by simp [shL, flat3, natsV]
theorem shL_len (h : Sh) : (shL h).length = h.2.length * 3 + 2 := by simp [shL, flat3_len]
def sp_lsh (K : PySem.W.Frag) : Sp := fun vs H Q _ => ∃ (s : Addr) (z : Int) (m E S R : Nat), vs = [.ref s, .int (m : Nat), .int (E : Nat), .int (S : Nat), .int (R : Nat)] ∧ StA H s z ∧ E ≤ 20 ∧ 0 < S ∧ S ≤ 100 ∧ 0 < R ∧ R ≤ 100 ∧ ∀ p h H', H p = none → H' p = some (.lst (natsV (shL h))) → ShOk E S R h → Oth s H H' → Q (.ref p) H'
theorem ok_law_shape (T : Txt K mg t) : FnOk P w K mg base CX0 2 t.a__law_shape t.fd__law_shape ["state", "many", "events", "says", "rooms"] (sp_lsh K) := by
  have G__law_take := ok_law_take (P := P) (w := w) (base := base) T
  refine T.F__law_shape.ok sc_law_shape (fun vs H Q E h => ?_) (fun cdv A outer s H vs Q E hr h => ?_)
  · obtain ⟨s, z, m, E, S, R, rfl, _⟩ := h
    rfl
  · obtain ⟨s0, z, mn, En, S, R, rfl, k, hE, hS, hS2, hR, hR2, q⟩ := h
    refine ⟨_, (@pss_cons _ _ _ _ _ (@ps_set _ _ 5 _ _ _ _ sc_law_shape.nd rfl (by first | exact Or.inl rfl | exact Or.inr rfl) (@pe_lstN _ _ _ _ (@pa_cons _ _ _ _ _ (@pe_call _ _ _ _ _ _ _ _ _ _ _ _ _ _ _ _ G__law_take (hr.mono (by omega)) rfl T.m__law_take T.F__law_take.kp T.b__law_take .nil pass0 (@pa_cons _ _ _ _ _ (pv 0) (@pa_cons _ _ _ _ _ (pv 3) (@pa_nil _) (by rfl)) (by rfl)) (by decide) (by rfl) (by rfl)) (@pa_cons _ _ _ _ _ (@pe_call _ _ _ _ _ _ _ _ _ _ _ _ _ _ _ _ G__law_take (hr.mono (by omega)) rfl T.m__law_take T.F__law_take.kp T.b__law_take .nil pass0 (@pa_cons _ _ _ _ _ (pv 0) (@pa_cons _ _ _ _ _ (pv 4) (@pa_nil _) (by rfl)) (by rfl)) (by decide) (by rfl) (by rfl)) (@pa_nil _) (by rfl)) (by rfl))) (by rfl) (by first | exact Or.inl rfl | exact Or.inr rfl))
      (@pss_cons _ _ _ _ _ (@ps_set _ _ 6 _ _ _ _ sc_law_shape.nd rfl (by first | exact Or.inl rfl | exact Or.inr rfl) (@pe_callTy _ _ _ _ _ _ _ _ _ (kcl_list K) (by rfl) T.z_list bb_list (@pa_cons _ _ _ _ _ (pv 5) (@pa_nil _) (by rfl)) (by decide) (by decide) (by rfl) (by rfl)) (by rfl) (by first | exact Or.inl rfl | exact Or.inr rfl))
      (@pss_cons _ _ _ _ _ (@ps_for _ _ _ _ _ _ _ _ PassesOwn.never rfl (pi_range1 rfl T.z_range (@pa_cons _ _ _ _ _ (pv 2) (@pa_nil _) (by rfl))) (pg_name (i := 7) sc_law_shape.nd rfl (by first | exact Or.inl rfl | exact Or.inr rfl)) (@pss_cons _ _ _ _ _ (@ps_set _ _ 8 _ _ _ _ sc_law_shape.nd rfl (by first | exact Or.inl rfl | exact Or.inr rfl) (@pe_call _ _ _ _ _ _ _ _ _ _ _ _ _ _ _ _ G__law_take (hr.mono (by omega)) rfl T.m__law_take T.F__law_take.kp T.b__law_take .nil pass0 (@pa_cons _ _ _ _ _ (pv 0) (@pa_cons _ _ _ _ _ (@pe_int _ _ _ _) (@pa_nil _) (by rfl)) (by rfl)) (by decide) (by rfl) (by rfl)) (by rfl) (by first | exact Or.inl rfl | exact Or.inr rfl))
        (@pss_one _ _ _ (@ps_if _ _ _ _ _ _ _ _ (@pt_cmpR _ _ _ _ _ _ _ _ op_eq (pv 8) (@pe_int _ _ _ _) (nomark _)) (@pss_one _ _ _ (@ps_set _ _ 6 _ _ _ _ sc_law_shape.nd rfl (by first | exact Or.inl rfl | exact Or.inr rfl) (@pe_op _ _ _ _ _ _ _ _ op_plus (pv 6) (@pe_lstN _ _ _ _ (@pa_cons _ _ _ _ _ (pv 7) (@pa_cons _ _ _ _ _ (@pe_call _ _ _ _ _ _ _ _ _ _ _ _ _ _ _ _ G__law_take (hr.mono (by omega)) rfl T.m__law_take T.F__law_take.kp T.b__law_take .nil pass0 (@pa_cons _ _ _ _ _ (pv 0) (@pa_cons _ _ _ _ _ (pv 3) (@pa_nil _) (by rfl)) (by rfl)) (by decide) (by rfl) (by rfl)) (@pa_cons _ _ _ _ _ (@pe_call _ _ _ _ _ _ _ _ _ _ _ _ _ _ _ _ G__law_take (hr.mono (by omega)) rfl T.m__law_take T.F__law_take.kp T.b__law_take .nil pass0 (@pa_cons _ _ _ _ _ (pv 0) (@pa_cons _ _ _ _ _ (pv 4) (@pa_nil _) (by rfl)) (by rfl)) (by decide) (by rfl) (by rfl)) (@pa_nil _) (by rfl)) (by rfl)) (by rfl)))) (by rfl) (by first | exact Or.inl rfl | exact Or.inr rfl))) (@pss_one _ _ _ (@ps_if _ _ _ _ _ _ _ _ (@PW.pt _ _ _ (@pw_and _ _ _ _ _ _ _ (@pt_cmpR _ _ _ _ _ _ _ _ op_eq (pv 8) (@pe_int _ _ _ _) (nomark _)) (@pw_and1 _ _ _ _ (@pt_cmpR _ _ _ _ _ _ _ _ op_gt (pv 1) (@pe_int _ _ _ _) (nomark _))))) (@pss_one _ _ _ (@ps_set _ _ 6 _ _ _ _ sc_law_shape.nd rfl (by first | exact Or.inl rfl | exact Or.inr rfl) (@pe_op _ _ _ _ _ _ _ _ op_plus (@pe_op _ _ _ _ _ _ _ _ op_plus (pv 6) (@pe_lstN _ _ _ _ (@pa_cons _ _ _ _ _ (pv 7) (@pa_nil _) (by rfl)))) (pv 5)) (by rfl) (by first | exact Or.inl rfl | exact Or.inr rfl))) (@pss_nil _)))))) (by intro _; rfl))
      (@pss_one _ _ _ (@ps_ret _ _ _ _ (pv 6)))))), ?_⟩
    have sl : (1000000 : Nat) ≤ sizeLine := le_line (Nat.le_refl _)
    walk_at "go"
    refine ⟨s0, z, S, rfl, k, hS, by omega, fun r1 H1 hr1 o1 k1 => ?_⟩
    walk_at "run"
    refine ⟨s0, z, R, rfl, k1, hR, by omega, fun r2 H2 hr2 o2 k2 => ?_⟩
    walk_at "run"
    intro pc H3 f3 s3 e3
    walk_at "run"
    refine i_listL (SqL.of e3) ?_
    intro p4 H4 f4 s4 e4
    walk_at "run"
    rw [Int.toNat_natCast]
    have o02 := o1.trans o2
    have k3 := k2.same s3
    have npc : pc ≠ s0 := k2.ne f3
    obtain ⟨Pv, hPv⟩ : ∃ Pv : Nat → St → Hp → Prop, Pv = (fun i σ H' => i ≤ En ∧ Oth s0 H H' ∧ StA H' s0 z ∧ H' pc = some (.lst [.int (r1 : Nat), .int (r2 : Nat)]) ∧ ∃ (p : Addr) (h : Sh) (y w : Option V), σ = [some (.ref s0), some (.int (mn : Nat)), some (.int (En : Nat)), some (.int (S : Nat)), some (.int (R : Nat)), some (.ref pc), some (.ref p), y, w] ∧ H p = none ∧ H' p = some (.lst (natsV (shL h))) ∧ ShOk i S R h) := ⟨_, rfl⟩
    refine for_range (lo := 0) (n := En) Pv (by rw [hPv]; exact ⟨Nat.zero_le _, o02.trans (oth_same (s3.trans s4)), k3.same s4, s4 _ _ e3, p4, ((r1, r2), []), _, _, rfl, o02.free k2 (s3.free f4), e4, trivial, hr1, hr2, by simp⟩) ?_ ?_
    · intro i σ H5 hi hI
      rw [hPv] at hI
      obtain ⟨_, o5, k5, ec, p, h, y, w', rfl, fp, hp, h1, h2, h3, h4⟩ := hI
      rw [Int.zero_add]
      have hps : p ≠ s0 := k.ne fp
      have hlen := ris_len h1
      walk_at "run"
      refine ⟨s0, z, 3, rfl, k5, by decide, by decide, fun r H6 hr o6 k6 => ?_⟩
      walk_at "run"
      have hp6 := o6 _ _ hps hp
      have ec6 := o6 _ _ npc ec
      refine ite2 (fun hc => ?_) (fun hc => ?_)
      · walk_at "run"
        refine ⟨s0, z, S, rfl, k6, hS, by omega, fun r3 H7 hr3 o7 k7 => ?_⟩
        walk_at "run"
        refine ⟨s0, z, R, rfl, k7, hR, by omega, fun r4 H8 hr4 o8 k8 => ?_⟩
        walk_at "run"
        intro p9 H9 f9 s9 e9
        walk_at "run"
        have o68 := o7.trans o8
        refine i_plusL (s9 _ _ (o68 _ _ hps hp6)) e9 (by rw [natsV_len, shL_len]; simp only [List.length_cons, List.length_nil]; omega) ?_
        intro p10 H10 f10 s10 e10
        walk_at "run"
        have oA : Oth s0 H H8 := o5.trans (o6.trans o68)
        rw [hPv]
        refine ⟨hi, oA.trans (oth_same (s9.trans s10)), k8.same (s9.trans s10), (s9.trans s10) _ _ (o68 _ _ npc ec6), p10, (h.1, h.2 ++ [(i, r3, r4)]), _, _, rfl, oA.free k8 (s9.free f10), by rw [e10, shL_snoc], ris_snoc h1 (Nat.zero_le _), h2, h3, fun t ht => ?_⟩
        rcases List.mem_append.mp ht with ht | ht
        · exact h4 t ht
        · rw [List.mem_singleton.mp ht]
          exact ⟨hr3, hr4⟩
      · walk_at "run"
        refine ite2 (fun hc2 => ?_) (fun hc2 => ?_)
        · walk_at "run"
          refine ite2 (fun hc3 => ?_) (fun hc3 => ?_)
          · walk_at "run"
            intro p9 H9 f9 s9 e9
            walk_at "run"
            refine i_plusL (s9 _ _ hp6) e9 (by rw [natsV_len, shL_len]; simp only [List.length_cons, List.length_nil]; omega) ?_
            intro p10 H10 f10 s10 e10
            walk_at "run"
            have s610 := s9.trans s10
            refine i_plusL e10 (s610 _ _ ec6) (by rw [List.length_append, natsV_len, shL_len]; simp only [List.length_cons, List.length_nil]; omega) ?_
            intro p11 H11 f11 s11 e11
            walk_at "run"
            have oA : Oth s0 H H6 := o5.trans o6
            rw [hPv]
            refine ⟨hi, oA.trans (oth_same (s610.trans s11)), k6.same (s610.trans s11), (s610.trans s11) _ _ ec6, p11, (h.1, h.2 ++ [(i, r1, r2)]), _, _, rfl, oA.free k6 (s610.free f11), by rw [e11, List.append_assoc]; exact congrArg (fun x => some (HO.lst x)) (shL_snoc h i r1 r2), ris_snoc h1 (Nat.zero_le _), h2, h3, fun t ht => ?_⟩
            rcases List.mem_append.mp ht with ht | ht
            · exact h4 t ht
            · rw [List.mem_singleton.mp ht]
              exact ⟨hr1, hr2⟩
          · walk_at "run"
            rw [hPv]
            exact ⟨hi, o5.trans o6, k6, ec6, p, h, _, _, rfl, fp, hp6, ris_mono (by omega) h1, h2, h3, h4⟩
        · walk_at "run"
          rw [hPv]
          exact ⟨hi, o5.trans o6, k6, ec6, p, h, _, _, rfl, fp, hp6, ris_mono (by omega) h1, h2, h3, h4⟩
    · intro σ H5 hI
      rw [hPv] at hI
      obtain ⟨_, o5, k5, ec, p, h, y, w', rfl, fp, hp, hok⟩ := hI
      walk_at "run"
      exact q p h H5 fp hp hok o5
def Still (e r : Nat) (h : Sh) : Prop := h.1 = (e, r) ∧ ∀ t ∈ h.2, t.2 = (e, r)
theorem Still.pick {e r : Nat} {h : Sh} (s : Still e r h) (j : Nat) : pick h j = (e, r) := by
  unfold K70.pick
  cases x : h.2.find? (fun t => t.1 == j) with
  | some t => exact s.2 t (List.mem_of_find?_eq_some x)
  | none => exact s.1
def sp_still (K : PySem.W.Frag) : Sp := fun vs H Q _ => ∃ (s : Addr) (z : Int) (E e r : Nat), vs = [.ref s, .int (E : Nat), .int (e : Nat), .int (r : Nat)] ∧ StA H s z ∧ E ≤ 20 ∧ ∀ p h H', H p = none → H' p = some (.lst (natsV (shL h))) → ris E 0 h.2 → Still e r h → Oth s H H' → Q (.ref p) H'
theorem ok_law_still_shape (T : Txt K mg t) : FnOk P w K mg base CX0 2 t.a__law_still_shape t.fd__law_still_shape ["state", "events", "empty", "room"] (sp_still K) := by
  have G__law_take := ok_law_take (P := P) (w := w) (base := base) T
  refine T.F__law_still_shape.ok sc_law_still_shape (fun vs H Q E h => ?_) (fun cdv A outer s H vs Q E hr h => ?_)
  · obtain ⟨s, z, E, e, r, rfl, _⟩ := h
    rfl
  · obtain ⟨s0, z, En, e, r, rfl, k, hE, q⟩ := h
    refine ⟨_, (@pss_cons _ _ _ _ _ (@ps_set _ _ 4 _ _ _ _ sc_law_still_shape.nd rfl (by first | exact Or.inl rfl | exact Or.inr rfl) (@pe_lstN _ _ _ _ (@pa_cons _ _ _ _ _ (pv 2) (@pa_cons _ _ _ _ _ (pv 3) (@pa_nil _) (by rfl)) (by rfl))) (by rfl) (by first | exact Or.inl rfl | exact Or.inr rfl))
      (@pss_cons _ _ _ _ _ (@ps_for _ _ _ _ _ _ _ _ PassesOwn.never rfl (pi_range1 rfl T.z_range (@pa_cons _ _ _ _ _ (pv 1) (@pa_nil _) (by rfl))) (pg_name (i := 5) sc_law_still_shape.nd rfl (by first | exact Or.inl rfl | exact Or.inr rfl)) (@pss_one _ _ _ (@ps_if _ _ _ _ _ _ _ _ (@pt_cmpR _ _ _ _ _ _ _ _ op_eq (@pe_call _ _ _ _ _ _ _ _ _ _ _ _ _ _ _ _ G__law_take (hr.mono (by omega)) rfl T.m__law_take T.F__law_take.kp T.b__law_take .nil pass0 (@pa_cons _ _ _ _ _ (pv 0) (@pa_cons _ _ _ _ _ (@pe_int _ _ _ _) (@pa_nil _) (by rfl)) (by rfl)) (by decide) (by rfl) (by rfl)) (@pe_int _ _ _ _) (nomark _)) (@pss_one _ _ _ (@ps_set _ _ 4 _ _ _ _ sc_law_still_shape.nd rfl (by first | exact Or.inl rfl | exact Or.inr rfl) (@pe_op _ _ _ _ _ _ _ _ op_plus (pv 4) (@pe_lstN _ _ _ _ (@pa_cons _ _ _ _ _ (pv 5) (@pa_cons _ _ _ _ _ (pv 2) (@pa_cons _ _ _ _ _ (pv 3) (@pa_nil _) (by rfl)) (by rfl)) (by rfl)))) (by rfl) (by first | exact Or.inl rfl | exact Or.inr rfl))) (@pss_nil _))) (by intro _; rfl))
      (@pss_one _ _ _ (@ps_ret _ _ _ _ (pv 4))))), ?_⟩
    have sl : (1000000 : Nat) ≤ sizeLine := le_line (Nat.le_refl _)
    walk_at "go"
    intro p3 H3 f3 s3 e3
    walk_at "run"
    rw [Int.toNat_natCast]
    obtain ⟨Pv, hPv⟩ : ∃ Pv : Nat → St → Hp → Prop, Pv = (fun i σ H' => i ≤ En ∧ Oth s0 H H' ∧ StA H' s0 z ∧ ∃ (p : Addr) (h : Sh) (y : Option V), σ = [some (.ref s0), some (.int (En : Nat)), some (.int (e : Nat)), some (.int (r : Nat)), some (.ref p), y] ∧ H p = none ∧ H' p = some (.lst (natsV (shL h))) ∧ ris i 0 h.2 ∧ Still e r h) := ⟨_, rfl⟩
    refine for_range (lo := 0) (n := En) Pv (by rw [hPv]; exact ⟨Nat.zero_le _, oth_same s3, k.same s3, p3, ((e, r), []), _, rfl, f3, e3, trivial, rfl, by simp⟩) ?_ ?_
    · intro i σ H4 hi hI
      rw [hPv] at hI
      obtain ⟨_, o4, k4, p, h, y, rfl, fp, hp, h1, h2⟩ := hI
      rw [Int.zero_add]
      have hps : p ≠ s0 := k.ne fp
      have hlen := ris_len h1
      walk_at "run"
      refine ⟨s0, z, 4, rfl, k4, by decide, by decide, fun r4 H5 hr o5 k5 => ?_⟩
      walk_at "run"
      have hp5 := o5 _ _ hps hp
      refine ite2 (fun hc => ?_) (fun hc => ?_)
      · walk_at "run"
        intro p6 H6 f6 s6 e6
        walk_at "run"
        refine i_plusL (s6 _ _ hp5) e6 (by rw [natsV_len, shL_len]; simp only [List.length_cons, List.length_nil]; omega) ?_
        intro p7 H7 f7 s7 e7
        walk_at "run"
        have oA : Oth s0 H H5 := o4.trans o5
        rw [hPv]
        refine ⟨hi, oA.trans (oth_same (s6.trans s7)), k5.same (s6.trans s7), p7, (h.1, h.2 ++ [(i, e, r)]), _, rfl, oA.free k5 (s6.free f7), by rw [e7, shL_snoc], ris_snoc h1 (Nat.zero_le _), h2.1, fun t ht => ?_⟩
        rcases List.mem_append.mp ht with ht | ht
        · exact h2.2 t ht
        · rw [List.mem_singleton.mp ht]
      · walk_at "run"
        rw [hPv]
        exact ⟨hi, o4.trans o5, k5, p, h, _, rfl, fp, hp5, ris_mono (by omega) h1, h2⟩
    · intro σ H4 hI
      rw [hPv] at hI
      obtain ⟨_, o4, k4, p, h, y, rfl, fp, hp, h1, h2⟩ := hI
      walk_at "run"
      exact q p h H4 fp hp h1 h2 o4
def Rel (pf : Addr) (z : Int) (H9 H' : Hp) : Prop := Oth pf H9 H' ∧ StA H' pf z
theorem Rel.same {pf : Addr} {z : Int} {H9 H' H'' : Hp} (r : Rel pf z H9 H') (s : Same H' H'') : Rel pf z H9 H'' := ⟨r.1.trans (oth_same s), r.2.same s⟩
theorem Rel.upd {pf x : Addr} {z : Int} {H9 H' : Hp} {o : HO} (r : Rel pf z H9 H') (h : H9 x = none) (hx : x ≠ pf := by assumption) : Rel pf z H9 (L2.upd H' x o) := by
  refine ⟨fun y u hy e => ?_, ?_⟩
  · rw [upd_ne (ne_of_none e h)]
    exact r.1 y u hy e
  · obtain ⟨v, e⟩ := r.2
    exact ⟨v, by rw [upd_ne (Ne.symm hx)]; exact e⟩
def ShsAt (H : Hp) (shs : List Sh) (acc : List V) (fs : List Addr) : Prop := Tw.Ats H (shs.map fun h => lstW (shL h)) acc fs
theorem ShsAt.len {H : Hp} {shs : List Sh} {acc : List V} {fs : List Addr} (h : ShsAt H shs acc fs) : acc.length = (shs.map fun h => lstW (shL h)).length := Tw.Ats.len h
theorem ShsAt.same {H H' : Hp} {shs : List Sh} {acc : List V} {fs : List Addr} (h : ShsAt H shs acc fs) (s : Same H H') : ShsAt H' shs acc fs := Tw.Ats.same h s
theorem ShsAt.mono {H H' : Hp} {shs : List Sh} {acc : List V} {fs : List Addr} (h : ShsAt H shs acc fs) (k : Keep fs H H') : ShsAt H' shs acc fs := Tw.Ats.mono h k
theorem ShsAt.snoc {H : Hp} {shs : List Sh} {acc : List V} {fs : List Addr} {h : Sh} {p : Addr} (x : ShsAt H shs acc fs) (e : H p = some (.lst (natsV (shL h)))) : ShsAt H (shs ++ [h]) (acc ++ [.ref p]) (fs ++ [p]) := by
  unfold ShsAt
  rw [List.map_append]
  exact Tw.Ats.snoc x (lst_w.mpr ⟨p, rfl, e, rfl⟩)
structure PartsAt (H : Hp) (p a b : Addr) (us : List V) (es : List Ev) (txs : List Str) (k : Pk) : Prop where
  ex : ∃ py ps pt ws vs f1 f2, H p = some (.lst [.ref a, .ref b, .ref py, .ref ps, .ref pt, .int (k.say : Nat)]) ∧ H a = some (.lst us) ∧ Tr.Ats H (es.map Ev.tr) us [] ∧ H b = some (.lst (strsV txs)) ∧ H py = some (.lst ws) ∧ Tw.Ats H (k.sys.map lstW) ws f2 ∧ H ps = some (.lst vs) ∧ ShsAt H k.shs vs f1 ∧ H pt = some (.lst (natsV k.told))
theorem PartsAt.same {H H' : Hp} {p a b : Addr} {us : List V} {es : List Ev} {txs : List Str} {k : Pk} (h : PartsAt H p a b us es txs k) (s : Same H H') : PartsAt H' p a b us es txs k := by
  obtain ⟨py, ps, pt, ws, vs, f1, f2, h1, h2, h3, h4, h5, h6, h7, h8, h9⟩ := h.ex
  exact ⟨py, ps, pt, ws, vs, f1, f2, s _ _ h1, s _ _ h2, h3.same s, s _ _ h4, s _ _ h5, h6.same s, s _ _ h7, h8.same s, s _ _ h9⟩
structure Small (k : Pk) (es : List Ev) (txs : List Str) : Prop where
  e0 : 0 < es.length
  e1 : es.length ≤ 15
  t0 : 0 < txs.length
  t1 : txs.length ≤ 4
  nt : k.told.length ≤ 6
  nsh : k.shs.length ≤ 11
  nsy : k.sys.length ≤ 6
  sy : ∀ l ∈ k.sys, l.length ≤ 2
  v : PkV k es.length txs.length
theorem cut_toV {xs : List V} {k : Nat} : cutV xs none (some (k : Int)) = xs.take k := by
  unfold cutV
  rw [HT.sIx_none, HT.sIx_nat, List.drop_zero, Nat.sub_zero]
  by_cases h : k ≤ xs.length
  · rw [Nat.min_eq_left h]
  · rw [Nat.min_eq_right (by omega), List.take_of_length_le (by simp), List.take_of_length_le (by omega)]
def sp_parts (K : PySem.W.Frag) : Sp := fun vs H Q _ => ∃ (a : Addr) (ns : List Int), vs = [.ref a] ∧ SqL K H a (ns.map V.int) ∧ ∀ p pa pb us es txs k H', Same H H' → PartsAt H' p pa pb us es txs k → Small k es txs → Q (.ref p) H'
theorem ok_law_parts (T : Txt K mg t) : FnOk P w K mg base CX0 3 t.a__law_parts t.fd__law_parts ["script"] (sp_parts K) := by
  have G__law_cell := ok_law_cell (P := P) (w := w) (base := base) T
  have G__law_events := ok_law_events (P := P) (w := w) (base := base) T
  have G__law_shape := ok_law_shape (P := P) (w := w) (base := base) T
  have G__law_still_shape := ok_law_still_shape (P := P) (w := w) (base := base) T
  have G__law_take := ok_law_take (P := P) (w := w) (base := base) T
  refine T.F__law_parts.ok sc_law_parts (fun vs H Q E h => ?_) (fun cdv A outer s H vs Q E hr h => ?_)
  · obtain ⟨a, ns, rfl, _⟩ := h
    rfl
  · obtain ⟨a, ns, rfl, hS, q⟩ := h
    refine ⟨_, (@pss_cons _ _ _ _ _ (@ps_set _ _ 1 _ _ _ _ sc_law_parts.nd rfl (by first | exact Or.inl rfl | exact Or.inr rfl) (@pe_op _ _ _ _ _ _ _ _ op_mod (@pe_callB _ _ _ _ _ _ _ _ _ (kcl_sum K) (by rfl) T.z_sum bb_sum (@pa_cons _ _ _ _ _ (pv 0) (@pa_nil _) (by rfl)) (by decide) (by decide) (by rfl) (by rfl)) (@pe_int _ _ _ _)) (by rfl) (by first | exact Or.inl rfl | exact Or.inr rfl))
      (@pss_cons _ _ _ _ _ (@ps_set _ _ 2 _ _ _ _ sc_law_parts.nd rfl (by first | exact Or.inl rfl | exact Or.inr rfl) (@pe_lstN _ _ _ _ (@pa_cons _ _ _ _ _ (@pe_call _ _ _ _ _ _ _ _ _ _ _ _ _ _ _ _ G__law_cell (hr.mono (by omega)) rfl T.m__law_cell T.F__law_cell.kp T.b__law_cell .nil pass0 (@pa_cons _ _ _ _ _ (pv 0) (@pa_cons _ _ _ _ _ (@pe_int _ _ _ _) (@pa_cons _ _ _ _ _ (pv 1) (@pa_nil _) (by rfl)) (by rfl)) (by rfl)) (by decide) (by rfl) (by rfl)) (@pa_cons _ _ _ _ _ (pv 1) (@pa_nil _) (by rfl)) (by rfl))) (by rfl) (by first | exact Or.inl rfl | exact Or.inr rfl))
      (@pss_cons _ _ _ _ _ (@ps_set _ _ 3 _ _ _ _ sc_law_parts.nd rfl (by first | exact Or.inl rfl | exact Or.inr rfl) (@pe_call _ _ _ _ _ _ _ _ _ _ _ _ _ _ _ _ G__law_events (hr.mono (by omega)) rfl T.m__law_events T.F__law_events.kp T.b__law_events .nil pass0 (@pa_cons _ _ _ _ _ (pv 2) (@pa_nil _) (by rfl)) (by decide) (by rfl) (by rfl)) (by rfl) (by first | exact Or.inl rfl | exact Or.inr rfl))
      (@pss_cons _ _ _ _ _ (@ps_set _ _ 4 _ _ _ _ sc_law_parts.nd rfl (by first | exact Or.inl rfl | exact Or.inr rfl) (@pe_slice _ _ _ _ _ _ _ _ _ _ (ksl_list K) (@pe_lstN _ _ _ _ (@pa_cons _ _ _ _ _ (@pe_str _ _ _ _) (@pa_cons _ _ _ _ _ (@pe_str _ _ _ _) (@pa_cons _ _ _ _ _ (@pe_str _ _ _ _) (@pa_cons _ _ _ _ _ (@pe_str _ _ _ _) (@pa_nil _) (by rfl)) (by rfl)) (by rfl)) (by rfl))) (@po_none _) (@po_some _ _ _ (@pe_op _ _ _ _ _ _ _ _ op_plus (@pe_int _ _ _ _) (@pe_call _ _ _ _ _ _ _ _ _ _ _ _ _ _ _ _ G__law_take (hr.mono (by omega)) rfl T.m__law_take T.F__law_take.kp T.b__law_take .nil pass0 (@pa_cons _ _ _ _ _ (pv 2) (@pa_cons _ _ _ _ _ (@pe_int _ _ _ _) (@pa_nil _) (by rfl)) (by rfl)) (by decide) (by rfl) (by rfl))))) (by rfl) (by first | exact Or.inl rfl | exact Or.inr rfl))
      (@pss_cons _ _ _ _ _ (@ps_set _ _ 5 _ _ _ _ sc_law_parts.nd rfl (by first | exact Or.inl rfl | exact Or.inr rfl) (@pe_op _ _ _ _ _ _ _ _ op_plus (@pe_int _ _ _ _) (@pe_call _ _ _ _ _ _ _ _ _ _ _ _ _ _ _ _ G__law_take (hr.mono (by omega)) rfl T.m__law_take T.F__law_take.kp T.b__law_take .nil pass0 (@pa_cons _ _ _ _ _ (pv 2) (@pa_cons _ _ _ _ _ (@pe_int _ _ _ _) (@pa_nil _) (by rfl)) (by rfl)) (by decide) (by rfl) (by rfl))) (by rfl) (by first | exact Or.inl rfl | exact Or.inr rfl))
      (@pss_cons _ _ _ _ _ (@ps_set _ _ 6 _ _ _ _ sc_law_parts.nd rfl (by first | exact Or.inl rfl | exact Or.inr rfl) (@pe_op _ _ _ _ _ _ _ _ op_plus (@pe_int _ _ _ _) (@pe_call _ _ _ _ _ _ _ _ _ _ _ _ _ _ _ _ G__law_take (hr.mono (by omega)) rfl T.m__law_take T.F__law_take.kp T.b__law_take .nil pass0 (@pa_cons _ _ _ _ _ (pv 2) (@pa_cons _ _ _ _ _ (@pe_int _ _ _ _) (@pa_nil _) (by rfl)) (by rfl)) (by decide) (by rfl) (by rfl))) (by rfl) (by first | exact Or.inl rfl | exact Or.inr rfl))
      (@pss_cons _ _ _ _ _ (@ps_set _ _ 7 _ _ _ _ sc_law_parts.nd rfl (by first | exact Or.inl rfl | exact Or.inr rfl) (@pe_lstN _ _ _ _ (@pa_cons _ _ _ _ _ (@pe_call _ _ _ _ _ _ _ _ _ _ _ _ _ _ _ _ G__law_cell (hr.mono (by omega)) rfl T.m__law_cell T.F__law_cell.kp T.b__law_cell .nil pass0 (@pa_cons _ _ _ _ _ (pv 0) (@pa_cons _ _ _ _ _ (@pe_int _ _ _ _) (@pa_cons _ _ _ _ _ (pv 1) (@pa_nil _) (by rfl)) (by rfl)) (by rfl)) (by decide) (by rfl) (by rfl)) (@pa_cons _ _ _ _ _ (pv 1) (@pa_nil _) (by rfl)) (by rfl))) (by rfl) (by first | exact Or.inl rfl | exact Or.inr rfl))
      (@pss_cons _ _ _ _ _ (ps_lc (i := 8) (Nt := ["said"]) (Nf := ["state", "texts"]) (caps := [7, 4]) rfl (comp_ok (sc := defScope s_law_parts) rfl rfl (by decide +kernel) (by decide +kernel) (by decide +kernel) rfl (by decide +kernel)) (pi_range1 rfl T.z_range (@pa_cons _ _ _ _ _ (pv 6) (@pa_nil _) (by rfl))) (fun _ _ _ _ _ => (pg_name (i := 0) (show (["said", "state", "texts"] : List Str).Nodup by decide +kernel) rfl (by first | exact Or.inl rfl | exact Or.inr rfl))) (fun _ _ _ _ _ => (@pts_nil _)) (fun _ _ _ _ _ => (pe_lc (Nt := ["k"]) (Nf := ["state", "texts"]) (caps := [1, 2]) rfl (comp_ok (cxC_scope (sc0 := defScope s_law_parts) rfl) rfl (by decide +kernel) (by decide +kernel) (by decide +kernel) rfl (by decide +kernel)) (pi_range1 rfl T.z_range (@pa_cons _ _ _ _ _ (@pe_call _ _ _ _ _ _ _ _ _ _ _ _ _ _ _ _ G__law_take (hr.mono (by omega)) rfl T.m__law_take T.F__law_take.kp T.b__law_take .nil pass0 (@pa_cons _ _ _ _ _ (pv 1) (@pa_cons _ _ _ _ _ (@pe_int _ _ _ _) (@pa_nil _) (by rfl)) (by rfl)) (by decide) (by rfl) (by rfl)) (@pa_nil _) (by rfl))) (fun _ _ _ _ _ => (pg_name (i := 0) (show (["k", "state", "texts"] : List Str).Nodup by decide +kernel) rfl (by first | exact Or.inl rfl | exact Or.inr rfl))) (fun _ _ _ _ _ => (@pts_nil _)) (fun _ _ _ _ _ => (@pe_call _ _ _ _ _ _ _ _ _ _ _ _ _ _ _ _ G__law_take (hr.mono (by omega)) rfl T.m__law_take T.F__law_take.kp T.b__law_take .nil pass0 (@pa_cons _ _ _ _ _ (pv 1) (@pa_cons _ _ _ _ _ (@pe_callB _ _ _ _ _ _ _ _ _ (kcl_len K) (by rfl) T.z_len bb_len (@pa_cons _ _ _ _ _ (pv 2) (@pa_nil _) (by rfl)) (by decide) (by decide) (by rfl) (by rfl)) (@pa_nil _) (by rfl)) (by rfl)) (by decide) (by rfl) (by rfl))))) sc_law_parts.nd rfl (by first | exact Or.inl rfl | exact Or.inr rfl) rfl)
      (@pss_cons _ _ _ _ _ (@ps_expr _ _ _ _ (@kpe_bm _ K _ _ _ _ _ _ _ _ _ _ _ PySem.F.plainAttrs_list PySem.F.slot_list_append PySem.F.type_list_append mt_append (pv 8) (@pa_cons _ _ _ _ _ (@pe_lstN _ _ _ _ (@pa_nil _)) (@pa_nil _) (by rfl)) (by rfl) (by rfl) (by rfl) (by rfl) (by rfl) (by rfl)) (by rfl))
      (@pss_cons _ _ _ _ _ (@ps_set _ _ 9 _ _ _ _ sc_law_parts.nd rfl (by first | exact Or.inl rfl | exact Or.inr rfl) (@pe_lstN _ _ _ _ (@pa_nil _)) (by rfl) (by first | exact Or.inl rfl | exact Or.inr rfl))
      (@pss_cons _ _ _ _ _ (@ps_for _ _ _ _ _ _ _ _ PassesOwn.never rfl (pi_range1 rfl T.z_range (@pa_cons _ _ _ _ _ (@pe_op _ _ _ _ _ _ _ _ op_plus (@pe_int _ _ _ _) (@pe_call _ _ _ _ _ _ _ _ _ _ _ _ _ _ _ _ G__law_take (hr.mono (by omega)) rfl T.m__law_take T.F__law_take.kp T.b__law_take .nil pass0 (@pa_cons _ _ _ _ _ (pv 2) (@pa_cons _ _ _ _ _ (@pe_int _ _ _ _) (@pa_nil _) (by rfl)) (by rfl)) (by decide) (by rfl) (by rfl))) (@pa_nil _) (by rfl))) (pg_name (i := 10) sc_law_parts.nd rfl (by first | exact Or.inl rfl | exact Or.inr rfl)) (@pss_cons _ _ _ _ _ (@ps_set _ _ 11 _ _ _ _ sc_law_parts.nd rfl (by first | exact Or.inl rfl | exact Or.inr rfl) (@pe_lstN _ _ _ _ (@pa_cons _ _ _ _ _ (@pe_call _ _ _ _ _ _ _ _ _ _ _ _ _ _ _ _ G__law_cell (hr.mono (by omega)) rfl T.m__law_cell T.F__law_cell.kp T.b__law_cell .nil pass0 (@pa_cons _ _ _ _ _ (pv 0) (@pa_cons _ _ _ _ _ (@pe_op _ _ _ _ _ _ _ _ op_plus (@pe_int _ _ _ _) (pv 10)) (@pa_cons _ _ _ _ _ (pv 1) (@pa_nil _) (by rfl)) (by rfl)) (by rfl)) (by decide) (by rfl) (by rfl)) (@pa_cons _ _ _ _ _ (pv 1) (@pa_nil _) (by rfl)) (by rfl))) (by rfl) (by first | exact Or.inl rfl | exact Or.inr rfl))
        (@pss_one _ _ _ (@ps_expr _ _ _ _ (@kpe_bm _ K _ _ _ _ _ _ _ _ _ _ _ PySem.F.plainAttrs_list PySem.F.slot_list_append PySem.F.type_list_append mt_append (pv 9) (@pa_cons _ _ _ _ _ (@pe_call _ _ _ _ _ _ _ _ _ _ _ _ _ _ _ _ G__law_shape (hr.mono (by omega)) rfl T.m__law_shape T.F__law_shape.kp T.b__law_shape .nil pass0 (@pa_cons _ _ _ _ _ (pv 11) (@pa_cons _ _ _ _ _ (pv 10) (@pa_cons _ _ _ _ _ (@pe_callB _ _ _ _ _ _ _ _ _ (kcl_len K) (by rfl) T.z_len bb_len (@pa_cons _ _ _ _ _ (pv 3) (@pa_nil _) (by rfl)) (by decide) (by decide) (by rfl) (by rfl)) (@pa_cons _ _ _ _ _ (@pe_callB _ _ _ _ _ _ _ _ _ (kcl_len K) (by rfl) T.z_len bb_len (@pa_cons _ _ _ _ _ (pv 8) (@pa_nil _) (by rfl)) (by decide) (by decide) (by rfl) (by rfl)) (@pa_cons _ _ _ _ _ (pv 5) (@pa_nil _) (by rfl)) (by rfl)) (by rfl)) (by rfl)) (by rfl)) (by decide) (by rfl) (by rfl)) (@pa_nil _) (by rfl)) (by rfl) (by rfl) (by rfl) (by rfl) (by rfl) (by rfl)) (by rfl)))) (by intro _; rfl))
      (@pss_cons _ _ _ _ _ (@ps_set _ _ 12 _ _ _ _ sc_law_parts.nd rfl (by first | exact Or.inl rfl | exact Or.inr rfl) (@pe_lstN _ _ _ _ (@pa_nil _)) (by rfl) (by first | exact Or.inl rfl | exact Or.inr rfl))
      (@pss_cons _ _ _ _ _ (@ps_for _ _ _ _ _ _ _ _ PassesOwn.never rfl (pi_range1 rfl T.z_range (@pa_cons _ _ _ _ _ (pv 5) (@pa_nil _) (by rfl))) (pg_name (i := 10) sc_law_parts.nd rfl (by first | exact Or.inl rfl | exact Or.inr rfl)) (@pss_cons _ _ _ _ _ (@ps_set _ _ 11 _ _ _ _ sc_law_parts.nd rfl (by first | exact Or.inl rfl | exact Or.inr rfl) (@pe_lstN _ _ _ _ (@pa_cons _ _ _ _ _ (@pe_call _ _ _ _ _ _ _ _ _ _ _ _ _ _ _ _ G__law_cell (hr.mono (by omega)) rfl T.m__law_cell T.F__law_cell.kp T.b__law_cell .nil pass0 (@pa_cons _ _ _ _ _ (pv 0) (@pa_cons _ _ _ _ _ (@pe_op _ _ _ _ _ _ _ _ op_plus (@pe_int _ _ _ _) (pv 10)) (@pa_cons _ _ _ _ _ (pv 1) (@pa_nil _) (by rfl)) (by rfl)) (by rfl)) (by decide) (by rfl) (by rfl)) (@pa_cons _ _ _ _ _ (pv 1) (@pa_nil _) (by rfl)) (by rfl))) (by rfl) (by first | exact Or.inl rfl | exact Or.inr rfl))
        (@pss_one _ _ _ (@ps_if _ _ _ _ _ _ _ _ (@pt_cmpR _ _ _ _ _ _ _ _ op_eq (@pe_call _ _ _ _ _ _ _ _ _ _ _ _ _ _ _ _ G__law_take (hr.mono (by omega)) rfl T.m__law_take T.F__law_take.kp T.b__law_take .nil pass0 (@pa_cons _ _ _ _ _ (pv 11) (@pa_cons _ _ _ _ _ (@pe_int _ _ _ _) (@pa_nil _) (by rfl)) (by rfl)) (by decide) (by rfl) (by rfl)) (@pe_int _ _ _ _) (nomark _)) (@pss_cons _ _ _ _ _ (@ps_expr _ _ _ _ (@kpe_bm _ K _ _ _ _ _ _ _ _ _ _ _ PySem.F.plainAttrs_list PySem.F.slot_list_append PySem.F.type_list_append mt_append (pv 12) (@pa_cons _ _ _ _ _ (@pe_op _ _ _ _ _ _ _ _ op_plus (@pe_op _ _ _ _ _ _ _ _ op_times (@pe_int _ _ _ _) (@pe_callB _ _ _ _ _ _ _ _ _ (kcl_len K) (by rfl) T.z_len bb_len (@pa_cons _ _ _ _ _ (pv 9) (@pa_nil _) (by rfl)) (by decide) (by decide) (by rfl) (by rfl))) (@pe_int _ _ _ _)) (@pa_nil _) (by rfl)) (by rfl) (by rfl) (by rfl) (by rfl) (by rfl) (by rfl)) (by rfl))
          (@pss_one _ _ _ (@ps_expr _ _ _ _ (@kpe_bm _ K _ _ _ _ _ _ _ _ _ _ _ PySem.F.plainAttrs_list PySem.F.slot_list_append PySem.F.type_list_append mt_append (pv 9) (@pa_cons _ _ _ _ _ (@pe_call _ _ _ _ _ _ _ _ _ _ _ _ _ _ _ _ G__law_still_shape (hr.mono (by omega)) rfl T.m__law_still_shape T.F__law_still_shape.kp T.b__law_still_shape .nil pass0 (@pa_cons _ _ _ _ _ (pv 11) (@pa_cons _ _ _ _ _ (@pe_callB _ _ _ _ _ _ _ _ _ (kcl_len K) (by rfl) T.z_len bb_len (@pa_cons _ _ _ _ _ (pv 3) (@pa_nil _) (by rfl)) (by decide) (by decide) (by rfl) (by rfl)) (@pa_cons _ _ _ _ _ (pv 6) (@pa_cons _ _ _ _ _ (pv 10) (@pa_nil _) (by rfl)) (by rfl)) (by rfl)) (by rfl)) (by decide) (by rfl) (by rfl)) (@pa_nil _) (by rfl)) (by rfl) (by rfl) (by rfl) (by rfl) (by rfl) (by rfl)) (by rfl)))) (@pss_one _ _ _ (@ps_expr _ _ _ _ (@kpe_bm _ K _ _ _ _ _ _ _ _ _ _ _ PySem.F.plainAttrs_list PySem.F.slot_list_append PySem.F.type_list_append mt_append (pv 12) (@pa_cons _ _ _ _ _ (@pe_op _ _ _ _ _ _ _ _ op_times (@pe_int _ _ _ _) (@pe_call _ _ _ _ _ _ _ _ _ _ _ _ _ _ _ _ G__law_take (hr.mono (by omega)) rfl T.m__law_take T.F__law_take.kp T.b__law_take .nil pass0 (@pa_cons _ _ _ _ _ (pv 11) (@pa_cons _ _ _ _ _ (@pe_callB _ _ _ _ _ _ _ _ _ (kcl_len K) (by rfl) T.z_len bb_len (@pa_cons _ _ _ _ _ (pv 9) (@pa_nil _) (by rfl)) (by decide) (by decide) (by rfl) (by rfl)) (@pa_nil _) (by rfl)) (by rfl)) (by decide) (by rfl) (by rfl))) (@pa_nil _) (by rfl)) (by rfl) (by rfl) (by rfl) (by rfl) (by rfl) (by rfl)) (by rfl)))))) (by intro _; rfl))
      (@pss_one _ _ _ (@ps_ret _ _ _ _ (@pe_lstN _ _ _ _ (@pa_cons _ _ _ _ _ (pv 3) (@pa_cons _ _ _ _ _ (pv 4) (@pa_cons _ _ _ _ _ (pv 8) (@pa_cons _ _ _ _ _ (pv 9) (@pa_cons _ _ _ _ _ (pv 12) (@pa_cons _ _ _ _ _ (@pe_call _ _ _ _ _ _ _ _ _ _ _ _ _ _ _ _ G__law_take (hr.mono (by omega)) rfl T.m__law_take T.F__law_take.kp T.b__law_take .nil pass0 (@pa_cons _ _ _ _ _ (pv 2) (@pa_cons _ _ _ _ _ (@pe_callB _ _ _ _ _ _ _ _ _ (kcl_len K) (by rfl) T.z_len bb_len (@pa_cons _ _ _ _ _ (pv 8) (@pa_nil _) (by rfl)) (by decide) (by decide) (by rfl) (by rfl)) (@pa_nil _) (by rfl)) (by rfl)) (by decide) (by rfl) (by rfl)) (@pa_nil _) (by rfl)) (by rfl)) (by rfl)) (by rfl)) (by rfl)) (by rfl)))))))))))))))))), ?_⟩
    have sl : (1000000 : Nat) ≤ sizeLine := le_line (Nat.le_refl _)
    generalize hTF2 : (tFor (iRng1 (tCons (tVar 5) tNil)) _ _ : TS) = TF2
    revert hTF2
    revert TF2
    refine keepE ?_
    intro TF2 hTF2
    generalize hTF1 : (tFor _ _ _ : TS) = TF1
    revert hTF1
    revert TF1
    refine keepE ?_
    intro TF1 hTF1
    walk_at "go"
    refine i_sum hS ?_
    walk_at "run"
    have hz0 := Int.emod_nonneg ns.sum (show (2 : Int) ≠ 0 by decide)
    have z1 := Int.emod_lt_of_pos ns.sum (show (0 : Int) < 2 by decide)
    generalize ns.sum % 2 = z at hz0 z1
    have hz1 : z ≤ 1 := by omega
    refine ⟨a, ns, 0, z, rfl, hS, by decide, hz0, hz1, fun zc H1 s1 => ?_⟩
    walk_at "run"
    intro pf H2 f2 s2 e2
    walk_at "run"
    have k2 : StA H2 pf z := ⟨zc, e2⟩
    have fpf : H pf = none := s1.free f2
    refine ⟨pf, z, rfl, k2, fun es pe us H3 f3 e3 hus nd hel hes o3 k3 => ?_⟩
    walk_at "run"
    have npe : pe ≠ pf := k2.ne f3
    intro px H4 f4 s4 e4
    walk_at "run"
    refine ⟨pf, z, 4, rfl, k3.same s4, by decide, by decide, fun r H5 hr o5 k5 => ?_⟩
    walk_at "run"
    have npx : px ≠ pf := k3.ne f4
    refine i_slL (SqL.of (o5 _ _ npx e4)) ?_
    rw [show (1 : Int) + (r : Nat) = ((1 + r : Nat) : Int) by omega, cut_toV]
    intro pb H6 f6 s6 e6
    obtain ⟨txs, eT, htl, htl0⟩ : ∃ txs : List Str, H6 pb = some (.lst (strsV txs)) ∧ txs.length ≤ 4 ∧ 0 < txs.length := ⟨(["1:yes", "a", "b", "no"] : List Str).take (1 + r), by rw [e6]; simp [strsV], by simp; omega, by simp; omega⟩
    have npb : pb ≠ pf := k5.ne f6
    walk_at "run"
    refine ⟨pf, z, 6, rfl, k5.same s6, by decide, by decide, fun r6 H7 hr6 o7 k7 => ?_⟩
    walk_at "run"
    refine ⟨pf, z, 5, rfl, k7, by decide, by decide, fun r5 H8 hr5 o8 k8 => ?_⟩
    walk_at "run"
    have o78 := o7.trans o8
    have s08 : Same H H8 := (o3.trans ((oth_same s4).trans (o5.trans ((oth_same s6).trans o78)))).new (s1.trans s2) fpf
    have e38 : H8 pe = some (.lst us) := o78 _ _ npe (s6 _ _ (o5 _ _ npe (s4 _ _ e3)))
    have h38 : Tr.Ats H8 (es.map Ev.tr) us [] := tr_tups_s ((tr_tups_s (hus.same s4) (o5.tups (k3.same s4))).same s6) (o78.tups (k5.same s6))
    have eT8 : H8 pb = some (.lst (strsV txs)) := o78 _ _ npb eT
    have ul : us.length = es.length := by rw [hus.len, List.length_map]
    clear e6 e4 eT o78 o7 o8 o5 s6 s4 o3 e3 hus f3 f4 f6 k3 k5 k7 npx
    rw [show (1 : Int) + (r5 : Nat) = ((1 + r5 : Nat) : Int) by omega, show (1 : Int) + (r6 : Nat) = ((1 + r6 : Nat) : Int) by omega]
    have hR1 : 0 < 1 + r6 := by omega
    have hR2 : 1 + r6 ≤ 6 := by omega
    have hS1 : 0 < 1 + r5 := by omega
    have hS2 : 1 + r5 ≤ 5 := by omega
    generalize 1 + r6 = R at hR1 hR2
    generalize 1 + r5 = S at hS1 hS2
    refine ⟨a, ns, 1, z, rfl, s08.seq hS, by decide, hz0, hz1, fun zc2 H9 s9 => ?_⟩
    walk_at "run"
    intro st H10 f10 s10 e10
    walk_at "run"
    have s810 := s9.trans s10
    have fst : H8 st = none := s9.free f10
    rw [Int.toNat_natCast]
    have npbs : pb ≠ st := ne_of_none eT8 fst
    refine cc_range (n := S) (le_line (by omega)) (fun i acc H' => i ≤ S ∧ acc.length = i ∧ Same H8 H' ∧ StA H' st z ∧ ∃ (sys : List (List Nat)) (fs : List Addr), sys.length = i ∧ Tw.Ats H' (sys.map lstW) acc fs ∧ (∀ x ∈ fs, H8 x = none ∧ x ≠ st) ∧ ∀ l ∈ sys, l.length ≤ 2 ∧ ∀ n ∈ l, n < txs.length) ⟨Nat.zero_le _, rfl, s810, ⟨zc2, e10⟩, [], [], rfl, by simp [Tw.Ats], by simp, by simp⟩ (fun i acc H' ⟨_, e, _⟩ => by omega) ?_ ?_
    · rintro i acc H5 hi ⟨hil, ea, s5, k5, sys, fs, hsl, hat, hpf, hok⟩
      have hpf' : st ∉ fs := fun hm => (hpf st hm).2 rfl
      walk_at "run"
      refine ⟨st, z, 3, rfl, k5, by decide, by decide, fun r H6 hr o6 k6 => ?_⟩
      walk_at "run"
      rw [Int.toNat_natCast]
      have hat6 := hat.mono (o6.keep k5 hpf')
      have eT6 := o6 _ _ npbs (s5 _ _ eT8)
      refine cc_range (n := r) (le_line (by omega)) (fun j acc2 H' => Oth st H6 H' ∧ StA H' st z ∧ ∃ l : List Nat, acc2 = natsV l ∧ l.length = j ∧ ∀ n ∈ l, n < txs.length) ⟨Oth.refl, k6, [], rfl, rfl, by simp⟩ (fun j acc2 H' ⟨_, _, l, e, e2, _⟩ => by rw [e, natsV_len, e2]; exact Nat.le_refl _) ?_ ?_
      · rintro j acc2 H7 hj ⟨o7, k7, l, rfl, hll, hln⟩
        walk_at "run"
        refine i_lenL (SqL.of (o7 _ _ npbs eT6)) ?_
        rw [show (strsV txs).length = txs.length by simp [strsV]]
        walk_at "run"
        refine ⟨st, z, txs.length, rfl, k7, htl0, by omega, fun r7 H8 hr7 o8 k8 => ?_⟩
        refine ⟨o7.trans o8, k8, l ++ [r7], natsV_snoc _ _, by simp [hll], fun n hn => ?_⟩
        rcases List.mem_append.mp hn with hn | hn
        · exact hln n hn
        · rw [List.mem_singleton.mp hn]; exact hr7
      · rintro acc2 H7 ⟨o7, k7, l, rfl, hll, hln⟩ p8 H8' f8 s8 e8
        have hat8 := (hat6.mono (o7.keep k6 hpf')).same s8
        have sA : Same H8 H7 := (o6.trans o7).new s5 fst
        refine ⟨hi, by simp [ea], sA.trans s8, k7.same s8, sys ++ [l], fs ++ [p8], by simp [hsl], ?_, fun x hx => ?_, fun x hx => ?_⟩
        · rw [List.map_append]
          exact hat8.snoc (lst_w.mpr ⟨p8, rfl, e8, rfl⟩)
        · rcases List.mem_append.mp hx with hm | hm
          · exact hpf x hm
          · rw [List.mem_singleton.mp hm]; exact ⟨sA.free f8, k7.ne f8⟩
        · rcases List.mem_append.mp hx with hx | hx
          · exact hok x hx
          · rw [List.mem_singleton.mp hx]; exact ⟨by omega, hln⟩
    rintro acc H5 ⟨_, ea, s5, k5, sys, fs, hsl, hat, hpf, hok⟩ py H6 f6 s6 e6
    walk_at "run"
    refine i_tyL (SqL.of e6) ?_
    walk_at "run"
    intro p7 H7 f7 s7 e7
    walk_at "run"
    have e67 := s7 _ _ e6
    refine i_append e67 (by omega) ?_
    walk_at "run"
    have fpy : H8 py = none := s5.free f6
    have npy : py ≠ pf := k8.ne fpy
    have n7y : p7 ≠ py := (ne_of_none e6 f7).symm
    have s8b : Same H8 (upd H7 py (.lst (acc ++ [.ref p7]))) := (s5.trans (s6.trans s7)).updNew fpy
    have hYn : py ∉ fs ++ [p7] := fun hm => by
      rcases List.mem_append.mp hm with hm | hm
      · obtain ⟨vs, ev⟩ := tws_lst hat _ hm
        rw [f6] at ev
        cases ev
      · exact n7y (List.mem_singleton.mp hm).symm
    have hY : Tw.Ats (upd H7 py (.lst (acc ++ [.ref p7]))) ((sys ++ [[]]).map lstW) (acc ++ [.ref p7]) (fs ++ [p7]) := by
      rw [List.map_append]
      exact ((hat.same (s6.trans s7)).snoc (lst_w.mpr ⟨p7, rfl, (show H7 p7 = some (.lst (natsV [])) from e7), rfl⟩)).mono (Keep.upd e67 hYn)
    have eY : upd H7 py (.lst (acc ++ [.ref p7])) py = some (.lst (acc ++ [.ref p7])) := upd_same
    have hYf : pf ∉ fs ++ [p7] := fun hm => by
      rcases List.mem_append.mp hm with hm | hm
      · obtain ⟨x, ex⟩ := k8
        have := (hpf _ hm).1
        rw [ex] at this
        cases this
      · exact (k8.same (s5.trans s6)).ne f7 (List.mem_singleton.mp hm).symm
    have hYok : ∀ l ∈ sys ++ [[]], l.length ≤ 2 ∧ ∀ n ∈ l, n < txs.length := fun l hl => by
      rcases List.mem_append.mp hl with hl | hl
      · exact hok l hl
      · rw [List.mem_singleton.mp hl]; simp
    have hYl : (sys ++ [[]]).length = S + 1 := by simp [hsl]
    have hYe : (sys ++ [[]])[S]? = some [] := by rw [List.getElem?_append_right (by omega), hsl, Nat.sub_self]; rfl
    have hwl : (acc ++ [V.ref p7]).length = S + 1 := by simp [ea]
    generalize acc ++ [V.ref p7] = ws at hY eY s8b hwl
    generalize fs ++ [p7] = f2' at hY hYf
    generalize sys ++ [[]] = sy2 at hY hYok hYl hYe
    generalize upd H7 py (.lst ws) = HB at hY eY s8b
    clear hok hpf hat hsl e67 e7 e6 s7 s6 s5 f6 f7 k5 ea n7y hYn f10 s10 e10 s9 s810 npbs fs
    have kB := k8.same s8b
    have s0B := s08.trans s8b
    have eB3 := s8b _ _ e38
    have hB3 := h38.same s8b
    have eBT := s8b _ _ eT8
    intro ps H10 f10 s10 e10
    walk_at "run"
    subst hTF1
    walk_at "run"
    refine ⟨pf, z, 5, rfl, kB.same s10, by decide, by decide, fun r5' H11 hr5' o11 k11 => ?_⟩
    walk_at "run"
    rw [show (1 : Int) + (r5' : Nat) = ((1 + r5' : Nat) : Int) by omega, Int.toNat_natCast]
    have hps : ps ≠ pf := kB.ne f10
    have R11 : Rel pf z HB H11 := ⟨(oth_same s10).trans o11, k11⟩
    obtain ⟨Pv, hPv⟩ : ∃ Pv : Nat → St → Hp → Prop, Pv = (fun i σ H' => i ≤ 1 + r5' ∧ Rel pf z HB H' ∧ (∃ (shs : List Sh) (acc : List V) (fs : List Addr), H' ps = some (.lst acc) ∧ shs.length = i ∧ ShsAt H' shs acc fs ∧ pf ∉ fs ∧ ps ∉ fs ∧ ∀ h ∈ shs, ShOk es.length (S + 1) R h) ∧ ∃ y w, σ = [some (.ref a), some (.int z), some (.ref pf), some (.ref pe), some (.ref pb), some (.int (R : Nat)), some (.int (S : Nat)), some (.ref st), some (.ref py), some (.ref ps), y, w, none]) := ⟨_, rfl⟩
    refine for_range (lo := 0) (n := 1 + r5') Pv (by rw [hPv]; exact ⟨Nat.zero_le _, R11, ⟨[], [], [], o11 _ _ hps e10, rfl, by simp [ShsAt, Tw.Ats], by simp, by simp, by simp⟩, _, _, rfl⟩) ?_ ?_
    · intro i σ H12 hi hI
      rw [hPv] at hI
      obtain ⟨hil, R12, ⟨shs, acc, fs, h1, h2, h3, h4, h5, h6⟩, y, w', rfl⟩ := hI
      rw [Int.zero_add]
      have al : acc.length = i := by rw [h3.len, List.length_map, h2]
      have s012 : Same H H12 := R12.1.new s0B fpf
      walk_at "run"
      rw [show (2 : Int) + (i : Nat) = ((2 + i : Nat) : Int) by omega]
      refine ⟨a, ns, 2 + i, z, rfl, s012.seq hS, by omega, hz0, hz1, fun zc H13 s13 => ?_⟩
      walk_at "run"
      intro so H14 f14 s14 e14
      walk_at "run"
      have s1214 := s13.trans s14
      refine i_tyL (SqL.of (s1214 _ _ h1)) ?_
      walk_at "run"
      refine i_lenL (SqL.of (s1214 _ _ (R12.1 _ _ npe eB3))) ?_
      walk_at "run"
      refine i_lenL (SqL.of (s1214 _ _ (R12.1 _ _ npy eY))) ?_
      walk_at "run"
      rw [ul, hwl]
      refine ⟨so, z, i, es.length, S + 1, R, rfl, ⟨zc, e14⟩, by omega, by omega, by omega, hR1, by omega, fun p h H15 f15 e15 hh o15 => ?_⟩
      walk_at "run"
      have s15 : Same H12 H15 := o15.new s1214 (s13.free f14)
      have h15 := s15 _ _ h1
      have fp12 : H12 p = none := s1214.free f15
      refine i_append h15 (by omega) ?_
      have hpp : p ≠ ps := (ne_of_none h1 fp12).symm
      have hn : ps ∉ fs ++ [p] := fun hm => (List.mem_append.mp hm).elim h5 fun hm => hpp (List.mem_singleton.mp hm).symm
      rw [hPv]
      refine ⟨hi, (R12.same s15).upd f10, ⟨shs ++ [h], acc ++ [.ref p], fs ++ [p], upd_same, by simp [h2], ?_, fun hm => ?_, hn, fun x hx => ?_⟩, _, _, rfl⟩
      · exact ((h3.same s15).snoc e15).mono (Keep.upd h15 hn)
      · rcases List.mem_append.mp hm with hm | hm
        · exact h4 hm
        · exact R12.2.ne fp12 (List.mem_singleton.mp hm).symm
      · rcases List.mem_append.mp hx with hx | hx
        · exact h6 x hx
        · rw [List.mem_singleton.mp hx]; exact hh
    intro σ H12 hI
    rw [hPv] at hI
    obtain ⟨_, R12, ⟨shs, acc, fs, h1, h2, h3, h4, h5, h6⟩, y, w', rfl⟩ := hI
    clear hPv Pv
    walk_at "run"
    intro pt H13 f13 s13 e13
    walk_at "run"
    subst hTF2
    walk_at "run"
    have hpt : pt ≠ pf := R12.2.ne f13
    have hpts : pt ≠ ps := (ne_of_none h1 f13).symm
    have fptB : HB pt = none := R12.1.free R12.2 f13
    rw [Int.toNat_natCast]
    obtain ⟨Pv, hPv⟩ : ∃ Pv : Nat → St → Hp → Prop, Pv = (fun i σ H' => i ≤ R ∧ Rel pf z HB H' ∧ (∃ (told : List Nat) (shs : List Sh) (acc : List V) (fs : List Addr), H' pt = some (.lst (natsV told)) ∧ told.length = i ∧ H' ps = some (.lst acc) ∧ 0 < shs.length ∧ shs.length ≤ 5 + i ∧ ShsAt H' shs acc fs ∧ pf ∉ fs ∧ ps ∉ fs ∧ pt ∉ fs ∧ (∀ (m t : Nat), told[m]? = some t → t / 2 < shs.length ∧ (t % 2 = 1 → ∃ h, shs[t / 2]? = some h ∧ Still S m h)) ∧ ∀ h ∈ shs, ShOk es.length (S + 1) R h) ∧ ∃ y w, σ = [some (.ref a), some (.int z), some (.ref pf), some (.ref pe), some (.ref pb), some (.int (R : Nat)), some (.int (S : Nat)), some (.ref st), some (.ref py), some (.ref ps), y, w, some (.ref pt)]) := ⟨_, rfl⟩
    refine for_range (lo := 0) (n := R) Pv (by rw [hPv]; exact ⟨Nat.zero_le _, R12.same s13, ⟨[], shs, acc, fs, e13, rfl, s13 _ _ h1, by omega, by omega, h3.same s13, h4, h5, tws_new h3 f13, by simp, h6⟩, _, _, rfl⟩) ?_ ?_
    · clear h1 h2 h3 h4 h5 h6 acc fs shs
      intro i σ H14 hi hI
      rw [hPv] at hI
      obtain ⟨hil, R14, ⟨told, shs, acc, fs, h1, h2, h3, h4, h5, h6, h7, h8, h9, h10, h11⟩, y, w', rfl⟩ := hI
      rw [Int.zero_add]
      have al : acc.length = shs.length := by rw [h6.len, List.length_map]
      have s014 : Same H H14 := R14.1.new s0B fpf
      walk_at "run"
      rw [show (8 : Int) + (i : Nat) = ((8 + i : Nat) : Int) by omega]
      refine ⟨a, ns, 8 + i, z, rfl, s014.seq hS, by omega, hz0, hz1, fun zc H15 s15 => ?_⟩
      walk_at "run"
      intro so H16 f16 s16 e16
      walk_at "run"
      have s416 := s15.trans s16
      have fso : H14 so = none := s15.free f16
      refine ⟨so, z, 4, rfl, ⟨zc, e16⟩, by decide, by decide, fun rr H17 hrr o17 k17 => ?_⟩
      walk_at "run"
      have s417 : Same H14 H17 := o17.new s416 fso
      refine ite2 (fun hc => ?_) (fun hc => ?_)
      · walk_at "run"
        refine i_tyL (SqL.of (s417 _ _ h1)) ?_
        walk_at "run"
        refine i_lenL (SqL.of (s417 _ _ h3)) ?_
        walk_at "run"
        rw [al, show (2 : Int) * (shs.length : Nat) + 1 = ((2 * shs.length + 1 : Nat) : Int) by omega]
        refine i_append (s417 _ _ h1) (by rw [natsV_len]; omega) ?_
        rw [natsV_snoc]
        walk_at "run"
        have q1 : upd H17 pt (.lst (natsV (told ++ [2 * shs.length + 1]))) pt = some (.lst (natsV (told ++ [2 * shs.length + 1]))) := upd_same
        have q2 : upd H17 pt (.lst (natsV (told ++ [2 * shs.length + 1]))) ps = some (.lst acc) := by rw [upd_ne (Ne.symm hpts)]; exact s417 _ _ h3
        have q3 : ShsAt (upd H17 pt (.lst (natsV (told ++ [2 * shs.length + 1])))) shs acc fs := (h6.same s417).mono (Keep.upd (s417 _ _ h1) h9)
        have q4 : Rel pf z HB (upd H17 pt (.lst (natsV (told ++ [2 * shs.length + 1])))) := (R14.same s417).upd fptB
        have q5 : StA (upd H17 pt (.lst (natsV (told ++ [2 * shs.length + 1])))) so z := by
          obtain ⟨x, ex⟩ := k17
          exact ⟨x, by rw [upd_ne (ne_of_none h1 fso).symm]; exact ex⟩
        generalize upd H17 pt (.lst (natsV (told ++ [2 * shs.length + 1]))) = H18 at q1 q2 q3 q4 q5
        refine i_tyL (SqL.of q2) ?_
        walk_at "run"
        refine i_lenL (SqL.of (q4.1 _ _ npe eB3)) ?_
        walk_at "run"
        rw [ul]
        refine ⟨so, z, es.length, S, i, rfl, q5, by omega, fun p4 h H23 f23 e23 hris hst o23 => ?_⟩
        walk_at "run"
        have kO : ∀ x o, x ≠ so → H18 x = some o → H23 x = some o := fun x o hx e => o23 x o hx e
        have nps : ps ≠ so := ne_of_none h3 fso
        have npf : pf ≠ so := by
          obtain ⟨x, ex⟩ := R14.2
          exact ne_of_none ex fso
        have npt : pt ≠ so := ne_of_none h1 fso
        have nfs : so ∉ fs := tws_new h6 fso
        have q7 := kO _ _ nps q2
        refine i_append q7 (by omega) ?_
        have np4s : p4 ≠ ps := (ne_of_none q2 f23).symm
        have np4t : p4 ≠ pt := (ne_of_none q1 f23).symm
        have np4f : p4 ≠ pf := q4.2.ne f23
        have hn : ps ∉ fs ++ [p4] := fun hm => (List.mem_append.mp hm).elim h8 fun hm => np4s (List.mem_singleton.mp hm).symm
        have q8 : ShsAt H23 shs acc fs := q3.mono ⟨fun b ys e => kO b _ (ne_of e q5.choose_spec (fun z => nomatch z)) e, fun x hx xs e => kO x _ (fun hz => nfs (hz ▸ hx)) e⟩
        have q9 : Rel pf z HB H23 := by
          refine ⟨fun x o hx e => kO x o (fun hz => ?_) (q4.1 x o hx e), ?_⟩
          · have := R14.1 x o hx e
            rw [hz, fso] at this
            cases this
          · obtain ⟨x, ex⟩ := q4.2
            exact ⟨x, kO _ _ npf ex⟩
        rw [hPv]
        refine ⟨hi, q9.upd f10, ⟨told ++ [2 * shs.length + 1], shs ++ [h], acc ++ [.ref p4], fs ++ [p4], by rw [upd_ne hpts]; exact kO _ _ npt q1, by simp [h2], upd_same, by simp, by simp; omega, (q8.snoc e23).mono (Keep.upd q7 hn), fun hm => ?_, hn, fun hm => ?_, fun m t ht => ?_, fun x hx => ?_⟩, _, _, rfl⟩
        · rcases List.mem_append.mp hm with hm | hm
          · exact h7 hm
          · exact np4f (List.mem_singleton.mp hm).symm
        · rcases List.mem_append.mp hm with hm | hm
          · exact h9 hm
          · exact np4t (List.mem_singleton.mp hm).symm
        · by_cases hm : m < told.length
          · rw [List.getElem?_append_left hm] at ht
            obtain ⟨x1, x2⟩ := h10 m t ht
            refine ⟨by simp; omega, fun ho => ?_⟩
            obtain ⟨h', x3, x4⟩ := x2 ho
            exact ⟨h', by rw [List.getElem?_append_left x1]; exact x3, x4⟩
          · have hm2 := (List.getElem?_eq_some_iff.mp ht).1
            rw [List.length_append, List.length_singleton] at hm2
            have hm3 : m = i := by omega
            rw [List.getElem?_append_right (by omega), show m - told.length = 0 by omega] at ht
            obtain rfl : 2 * shs.length + 1 = t := by simpa using ht
            rw [show (2 * shs.length + 1) / 2 = shs.length by omega, hm3]
            exact ⟨by simp, fun _ => ⟨h, by simp, hst⟩⟩
        · rcases List.mem_append.mp hx with hx | hx
          · exact h11 x hx
          · rw [List.mem_singleton.mp hx]
            refine ⟨hris, by rw [hst.1]; omega, by rw [hst.1]; exact hi, fun t ht => by rw [hst.2 t ht]; exact ⟨by omega, hi⟩⟩
      · walk_at "run"
        refine i_tyL (SqL.of (s417 _ _ h1)) ?_
        walk_at "run"
        refine i_lenL (SqL.of (s417 _ _ h3)) ?_
        walk_at "run"
        rw [al]
        refine ⟨so, z, shs.length, rfl, k17, h4, by omega, fun r2 H18 hr2 o18 k18 => ?_⟩
        walk_at "run"
        have s418 : Same H14 H18 := o18.new s417 fso
        rw [show (2 : Int) * (r2 : Nat) = ((2 * r2 : Nat) : Int) by omega]
        refine i_append (s418 _ _ h1) (by rw [natsV_len]; omega) ?_
        rw [natsV_snoc, hPv]
        refine ⟨hi, (R14.same s418).upd fptB, ⟨told ++ [2 * r2], shs, acc, fs, upd_same, by simp [h2], by rw [upd_ne (Ne.symm hpts)]; exact s418 _ _ h3, h4, by omega, (h6.same s418).mono (Keep.upd (s418 _ _ h1) h9), h7, h8, h9, fun m t ht => ?_, h11⟩, _, _, rfl⟩
        by_cases hm : m < told.length
        · rw [List.getElem?_append_left hm] at ht
          exact h10 m t ht
        · have hm2 := (List.getElem?_eq_some_iff.mp ht).1
          rw [List.length_append, List.length_singleton] at hm2
          rw [List.getElem?_append_right (by omega), show m - told.length = 0 by omega] at ht
          obtain rfl : 2 * r2 = t := by simpa using ht
          exact ⟨by omega, fun ho => by omega⟩
    · clear h1 h2 h3 h4 h5 h6 acc fs shs
      intro σ H14 hI
      rw [hPv] at hI
      obtain ⟨_, R14, ⟨told, shs, acc, fs, h1, h2, h3, h4, h5, h6, h7, h8, h9, h10, h11⟩, y, w', rfl⟩ := hI
      walk_at "run"
      refine i_lenL (SqL.of (R14.1 _ _ npy eY)) ?_
      walk_at "run"
      rw [hwl]
      refine ⟨pf, z, S + 1, rfl, R14.2, by omega, by omega, fun rs H15 hrs o15 k15 => ?_⟩
      walk_at "run"
      intro pp H16 f16 s16 e16
      have oB : Oth pf HB H15 := R14.1.trans o15
      have s015 : Same H H15 := oB.new s0B fpf
      refine q pp pe pb us es txs ⟨told, shs, sy2, rs⟩ H16 (s015.trans s16) ⟨py, ps, pt, ws, acc, fs, f2', e16, s16 _ _ (oB _ _ npe eB3), (tr_tups_s hB3 (oB.tups kB)).same s16, s16 _ _ (oB _ _ npb eBT), s16 _ _ (oB _ _ npy eY), (hY.mono (oB.keep kB hYf)).same s16, s16 _ _ (o15 _ _ hps h3), (h6.mono (o15.keep R14.2 h7)).same s16, s16 _ _ (o15 _ _ hpt h1)⟩ ?_
      refine ⟨hes, hel, htl0, htl, by simp only; omega, by simp only; omega, by simp only; omega, fun l hl => (hYok l hl).1, ⟨by simp only; omega, by simp only; omega, by simp only; omega, fun h hh => ?_, fun l hl => (hYok l hl).2, fun m t ht => ?_⟩⟩
      · obtain ⟨x1, x2, x3, x4⟩ := h11 h hh
        simp only [h2, hYl]
        exact ⟨x1, x2, x3, x4⟩
      · obtain ⟨x1, x2⟩ := h10 m t ht
        refine ⟨x1, fun ho h hh j hj => ?_⟩
        obtain ⟨h', x3, x4⟩ := x2 ho
        simp only at hh
        rw [hh] at x3
        obtain rfl := Option.some.inj x3
        rw [x4.pick]
        exact ⟨rfl, hYe⟩
theorem Small.cells {k : Pk} {es : List Ev} {txs : List Str} (s : Small k es txs) : k.cells.length ≤ 1000 := by
  have h1 := s.nt
  have h2 := s.nsh
  have h3 := s.nsy
  have h4 := s.e1
  have hb1 := fm_len (f := fun l : List Nat => l.length :: l) (n := 48) (l := k.shs.map shL) fun l hl => by
    obtain ⟨h, hh, rfl⟩ := List.mem_map.mp hl
    have := ris_len (s.v.sh h hh).1
    rw [List.length_cons, shL_len]
    omega
  have hb2 := fm_len (f := fun l : List Nat => l.length :: l) (n := 3) (l := k.sys) fun l hl => by
    have := s.sy l hl
    simp only [List.length_cons]
    omega
  have m1 := Nat.mul_le_mul_right 48 (show (k.shs.map shL).length ≤ 11 by rw [List.length_map]; omega)
  have m2 := Nat.mul_le_mul_right 3 h3
  unfold Pk.cells blocks
  simp only [List.length_cons, List.length_append]
  omega
theorem blocks_snoc (ls : List (List Nat)) (l : List Nat) : blocks (ls ++ [l]) = blocks ls ++ (l.length :: l) := by simp [blocks]
theorem blocks_take {ls : List (List Nat)} (i : Nat) : (blocks (ls.take i)).length ≤ (blocks ls).length := by
  have e : blocks ls = blocks (ls.take i) ++ blocks (ls.drop i) := by
    unfold blocks
    rw [← List.flatMap_append, List.take_append_drop]
  rw [e, List.length_append]
  omega
def sp_lcells (K : PySem.W.Frag) : Sp := fun vs H Q _ => ∃ (p a b : Addr) (us : List V) (es : List Ev) (txs : List Str) (k : Pk), vs = [.ref p] ∧ PartsAt H p a b us es txs k ∧ Small k es txs ∧ ∀ pc H', H pc = none → Same H H' → H' pc = some (.lst (natsV k.cells)) → Q (.ref pc) H'
theorem ok_law_cells (T : Txt K mg t) : FnOk P w K mg base CX0 1 t.a__law_cells t.fd__law_cells ["parts"] (sp_lcells K) := by
  refine T.F__law_cells.ok sc_law_cells (fun vs H Q E h => ?_) (fun cdv A outer s H vs Q E hr h => ?_)
  · obtain ⟨p, a, b, us, es, txs, k, rfl, _⟩ := h
    rfl
  · obtain ⟨p, a, b, us, es, txs, k, rfl, hP, ok, q⟩ := h
    refine ⟨_, (@pss_cons _ _ _ _ _ (@ps_asg _ _ _ _ _ _ (pv 0) (kpg_lst K (n := 6) rfl (pgs_cons (pg_name (i := 1) sc_law_cells.nd rfl (by first | exact Or.inl rfl | exact Or.inr rfl)) (pgs_cons (pg_name (i := 2) sc_law_cells.nd rfl (by first | exact Or.inl rfl | exact Or.inr rfl)) (pgs_cons (pg_name (i := 3) sc_law_cells.nd rfl (by first | exact Or.inl rfl | exact Or.inr rfl)) (pgs_cons (pg_name (i := 4) sc_law_cells.nd rfl (by first | exact Or.inl rfl | exact Or.inr rfl)) (pgs_cons (pg_name (i := 5) sc_law_cells.nd rfl (by first | exact Or.inl rfl | exact Or.inr rfl)) (pgs_cons (pg_name (i := 6) sc_law_cells.nd rfl (by first | exact Or.inl rfl | exact Or.inr rfl)) (@pgs_nil _)))))))) (by rfl) (by rfl) (by rfl))
      (@pss_cons _ _ _ _ _ (@ps_set _ _ 7 _ _ _ _ sc_law_cells.nd rfl (by first | exact Or.inl rfl | exact Or.inr rfl) (@pe_op _ _ _ _ _ _ _ _ op_plus (@pe_lstN _ _ _ _ (@pa_cons _ _ _ _ _ (@pe_callB _ _ _ _ _ _ _ _ _ (kcl_len K) (by rfl) T.z_len bb_len (@pa_cons _ _ _ _ _ (pv 5) (@pa_nil _) (by rfl)) (by decide) (by decide) (by rfl) (by rfl)) (@pa_cons _ _ _ _ _ (@pe_callB _ _ _ _ _ _ _ _ _ (kcl_len K) (by rfl) T.z_len bb_len (@pa_cons _ _ _ _ _ (pv 3) (@pa_nil _) (by rfl)) (by decide) (by decide) (by rfl) (by rfl)) (@pa_cons _ _ _ _ _ (@pe_callB _ _ _ _ _ _ _ _ _ (kcl_len K) (by rfl) T.z_len bb_len (@pa_cons _ _ _ _ _ (pv 4) (@pa_nil _) (by rfl)) (by decide) (by decide) (by rfl) (by rfl)) (@pa_cons _ _ _ _ _ (pv 6) (@pa_nil _) (by rfl)) (by rfl)) (by rfl)) (by rfl))) (pv 5)) (by rfl) (by first | exact Or.inl rfl | exact Or.inr rfl))
      (@pss_cons _ _ _ _ _ (@ps_for _ _ _ _ _ _ _ _ PassesOwn.never rfl (kpi_list K (pv 4)) (pg_name (i := 8) sc_law_cells.nd rfl (by first | exact Or.inl rfl | exact Or.inr rfl)) (@pss_one _ _ _ (@ps_set _ _ 7 _ _ _ _ sc_law_cells.nd rfl (by first | exact Or.inl rfl | exact Or.inr rfl) (@pe_op _ _ _ _ _ _ _ _ op_plus (@pe_op _ _ _ _ _ _ _ _ op_plus (pv 7) (@pe_lstN _ _ _ _ (@pa_cons _ _ _ _ _ (@pe_callB _ _ _ _ _ _ _ _ _ (kcl_len K) (by rfl) T.z_len bb_len (@pa_cons _ _ _ _ _ (pv 8) (@pa_nil _) (by rfl)) (by decide) (by decide) (by rfl) (by rfl)) (@pa_nil _) (by rfl)))) (pv 8)) (by rfl) (by first | exact Or.inl rfl | exact Or.inr rfl))) (by intro _; rfl))
      (@pss_cons _ _ _ _ _ (@ps_for _ _ _ _ _ _ _ _ PassesOwn.never rfl (kpi_list K (pv 3)) (pg_name (i := 9) sc_law_cells.nd rfl (by first | exact Or.inl rfl | exact Or.inr rfl)) (@pss_one _ _ _ (@ps_set _ _ 7 _ _ _ _ sc_law_cells.nd rfl (by first | exact Or.inl rfl | exact Or.inr rfl) (@pe_op _ _ _ _ _ _ _ _ op_plus (@pe_op _ _ _ _ _ _ _ _ op_plus (pv 7) (@pe_lstN _ _ _ _ (@pa_cons _ _ _ _ _ (@pe_callB _ _ _ _ _ _ _ _ _ (kcl_len K) (by rfl) T.z_len bb_len (@pa_cons _ _ _ _ _ (pv 9) (@pa_nil _) (by rfl)) (by decide) (by decide) (by rfl) (by rfl)) (@pa_nil _) (by rfl)))) (pv 9)) (by rfl) (by first | exact Or.inl rfl | exact Or.inr rfl))) (by intro _; rfl))
      (@pss_one _ _ _ (@ps_ret _ _ _ _ (pv 7))))))), ?_⟩
    have sl : (1000000 : Nat) ≤ sizeLine := le_line (Nat.le_refl _)
    obtain ⟨py, ps, pt, ws, vs, f1, f2, h1, h2, h3, h4, h5, h6, h7, h8, h9⟩ := hP.ex
    have l1 : vs.length = k.shs.length := by rw [h8.len, List.length_map]
    have l2 : ws.length = k.sys.length := by rw [h6.len, List.length_map]
    have hcl := ok.cells
    have n1 := ok.nt
    obtain ⟨C0, hC0⟩ : ∃ C0 : List Nat, C0 = k.told.length :: k.sys.length :: k.shs.length :: k.say :: k.told := ⟨_, rfl⟩
    have hce : k.cells = C0 ++ (blocks (k.shs.map shL) ++ blocks k.sys) := by rw [hC0]; rfl
    have hcl2 : C0.length + ((blocks (k.shs.map shL)).length + (blocks k.sys).length) ≤ 1000 := by
      rw [hce] at hcl
      simpa using hcl
    walk_at "go"
    refine i_asgL (SqL.of h1) rfl ?_
    walk_at "run"
    refine i_lenL (SqL.of h9) ?_
    walk_at "run"
    refine i_lenL (SqL.of h5) ?_
    walk_at "run"
    refine i_lenL (SqL.of h7) ?_
    walk_at "run"
    intro p1 H1 g1 s1 e1
    walk_at "run"
    refine i_plusL e1 (s1 _ _ h9) (by rw [natsV_len]; simp only [List.length_cons, List.length_nil]; omega) ?_
    intro p2 H2 g2 s2 e2
    replace e2 : H2 p2 = some (.lst (natsV C0)) := by rw [e2, hC0, natsV_len, l1, l2]; rfl
    walk_at "run"
    have s02 := s1.trans s2
    refine ⟨⟨_, SqL.of (s02 _ _ h7)⟩, for_list (K := K) (a := ps) (xs := vs) (fun i σ H' => Same H2 H' ∧ i ≤ k.shs.length ∧ ∃ pc y, σ = [some (.ref p), some (.ref a), some (.ref b), some (.ref py), some (.ref ps), some (.ref pt), some (.int (k.say : Nat)), some (.ref pc), y, none] ∧ H pc = none ∧ H' pc = some (.lst (natsV (C0 ++ blocks ((k.shs.map shL).take i))))) ⟨Same.refl _, Nat.zero_le _, p2, _, rfl, s1.free g2, by rw [e2]; simp [blocks]⟩ (fun i σ H' _ ⟨s', _⟩ => SqL.of (s' _ _ (s02 _ _ h7))) ?_ ?_⟩
    · rintro i x σ H4 hx ⟨s4, hil, pc, y, rfl, fpc, hpc⟩
      obtain ⟨tx, fx, hx1, hx2, _⟩ := Tw.Ats.get (h8.same (s02.trans s4)) i x hx
      rw [List.getElem?_map] at hx1
      obtain ⟨h, hl, rfl⟩ := Option.map_eq_some_iff.mp hx1
      obtain ⟨bb, rfl, hb, _⟩ := lst_w.mp hx2
      have hi' : i < k.shs.length := (List.getElem?_eq_some_iff.mp hl).1
      have hbl := blocks_take (ls := k.shs.map shL) (i + 1)
      have hl' : (k.shs.map shL)[i]? = some (shL h) := by rw [List.getElem?_map, hl]; rfl
      have htk : (k.shs.map shL).take (i + 1) = (k.shs.map shL).take i ++ [shL h] := by rw [List.take_add_one, hl']; rfl
      rw [htk, blocks_snoc, List.length_append, List.length_cons] at hbl
      walk_at "run"
      refine i_lenL (SqL.of hb) ?_
      walk_at "run"
      rw [natsV_len]
      intro p5 H5 g5 s5 e5
      walk_at "run"
      refine i_plusL (s5 _ _ hpc) e5 (by rw [natsV_len]; simp only [List.length_cons, List.length_append, List.length_nil]; omega) ?_
      intro p6 H6 g6 s6 e6
      walk_at "run"
      have s46 := s5.trans s6
      refine i_plusL e6 (s46 _ _ hb) (by rw [List.length_append, natsV_len, natsV_len]; simp only [List.length_cons, List.length_append, List.length_nil]; omega) ?_
      intro p7 H7 g7 s7 e7
      walk_at "run"
      refine ⟨s4.trans (s46.trans s7), hi', p7, _, rfl, s02.free (s4.free (s46.free g7)), ?_⟩
      rw [e7, htk, blocks_snoc]
      simp [natsV]
    rintro σ H4 ⟨s4, _, pc, y, rfl, fpc, hpc⟩
    rw [l1, List.take_of_length_le (by simp)] at hpc
    have s04 := s02.trans s4
    walk_at "run"
    refine ⟨⟨_, SqL.of (s04 _ _ h5)⟩, for_list (K := K) (a := py) (xs := ws) (fun i σ H' => Same H4 H' ∧ i ≤ k.sys.length ∧ ∃ pc y w, σ = [some (.ref p), some (.ref a), some (.ref b), some (.ref py), some (.ref ps), some (.ref pt), some (.int (k.say : Nat)), some (.ref pc), y, w] ∧ H pc = none ∧ H' pc = some (.lst (natsV (C0 ++ (blocks (k.shs.map shL) ++ blocks (k.sys.take i)))))) ⟨Same.refl _, Nat.zero_le _, pc, _, _, rfl, fpc, by rw [hpc]; simp [blocks]⟩ (fun i σ H' _ ⟨s', _⟩ => SqL.of (s' _ _ (s04 _ _ h5))) ?_ ?_⟩
    · rintro i x σ H5 hx ⟨s5, hil, pc, y, w', rfl, fpc, hpc⟩
      obtain ⟨tx, fx, hx1, hx2, _⟩ := (h6.same (s04.trans s5)).get i x hx
      rw [List.getElem?_map] at hx1
      obtain ⟨l, hl, rfl⟩ := Option.map_eq_some_iff.mp hx1
      obtain ⟨bb, rfl, hb, _⟩ := lst_w.mp hx2
      have hi' : i < k.sys.length := (List.getElem?_eq_some_iff.mp hl).1
      have hbl := blocks_take (ls := k.sys) (i + 1)
      have htk : k.sys.take (i + 1) = k.sys.take i ++ [l] := by rw [List.take_add_one, hl]; rfl
      rw [htk, blocks_snoc, List.length_append, List.length_cons] at hbl
      walk_at "run"
      refine i_lenL (SqL.of hb) ?_
      walk_at "run"
      rw [natsV_len]
      intro p6 H6 g6 s6 e6
      walk_at "run"
      refine i_plusL (s6 _ _ hpc) e6 (by rw [natsV_len]; simp only [List.length_cons, List.length_append, List.length_nil]; omega) ?_
      intro p7 H7 g7 s7 e7
      walk_at "run"
      have s57 := s6.trans s7
      refine i_plusL e7 (s57 _ _ hb) (by rw [List.length_append, natsV_len, natsV_len]; simp only [List.length_cons, List.length_append, List.length_nil]; omega) ?_
      intro p8 H8 g8 s8 e8
      walk_at "run"
      refine ⟨s5.trans (s57.trans s8), hi', p8, _, _, rfl, s04.free (s5.free (s57.free g8)), ?_⟩
      rw [e8, htk, blocks_snoc]
      simp [natsV]
    rintro σ H5 ⟨s5, _, pc, y, w', rfl, fpc, hpc⟩
    rw [l2, List.take_length, ← hce] at hpc
    walk_at "run"
    exact q pc H5 fpc (s04.trans s5) hpc
def sp_ltx (K : PySem.W.Frag) : Sp := fun vs H Q _ => ∃ (p a b : Addr) (us : List V) (es : List Ev) (txs : List Str) (k : Pk) (n : Nat) (l : List Nat), vs = [.ref p, .int (n : Nat)] ∧ PartsAt H p a b us es txs k ∧ Small k es txs ∧ k.sys[n]? = some l ∧ ∀ pl H', H pl = none → Same H H' → H' pl = some (.lst (strsV (txOf txs l))) → Q (.ref pl) H'
theorem ok_law_texts (T : Txt K mg t) : FnOk P w K mg base CX0 1 t.a__law_texts t.fd__law_texts ["parts", "saying"] (sp_ltx K) := by
  refine T.F__law_texts.ok sc_law_texts (fun vs H Q E h => ?_) (fun cdv A outer s H vs Q E hr h => ?_)
  · obtain ⟨p, a, b, us, es, txs, k, n, l, rfl, _⟩ := h
    rfl
  · obtain ⟨p, a, b, us, es, txs, k, n, l, rfl, hP, ok, hn, q⟩ := h
    refine ⟨_, (@pss_one _ _ _ (@ps_ret _ _ _ _ (pe_lc (Nt := ["place"]) (Nf := ["parts"]) (caps := [0]) rfl (comp_ok (sc := defScope s_law_texts) rfl rfl (by decide +kernel) (by decide +kernel) (by decide +kernel) rfl (by decide +kernel)) (kpi_list K (@pe_ix _ _ _ _ _ _ _ (kix_list K) (@pe_ix _ _ _ _ _ _ _ (kix_list K) (pv 0) (@pe_int _ _ _ _) (fun _ _ => rfl)) (pv 1) (fun _ _ => rfl))) (fun _ _ _ _ _ => (pg_name (i := 0) (show (["place", "parts"] : List Str).Nodup by decide +kernel) rfl (by first | exact Or.inl rfl | exact Or.inr rfl))) (fun _ _ _ _ _ => (@pts_nil _)) (fun _ _ _ _ _ => (@pe_ix _ _ _ _ _ _ _ (kix_list K) (@pe_ix _ _ _ _ _ _ _ (kix_list K) (pv 1) (@pe_int _ _ _ _) (fun _ _ => rfl)) (pv 0) (fun _ _ => rfl)))))), ?_⟩
    obtain ⟨py, ps, pt, ws, vs, f1, f2, h1, h2, h3, h4, h5, h6, h7, h8, h9⟩ := hP.ex
    have hwl : n < ws.length := by rw [h6.len, List.length_map]; exact (List.getElem?_eq_some_iff.mp hn).1
    obtain ⟨tt, ff, ht1, ht2, _⟩ := h6.get _ ws[n] (List.getElem?_eq_getElem hwl)
    rw [List.getElem?_map, hn] at ht1
    cases ht1
    obtain ⟨ya, hya, hye, _⟩ := lst_w.mp ht2
    have y1 := ok.sy l (List.mem_of_getElem? hn)
    have y2 := ok.v.sy l (List.mem_of_getElem? hn)
    walk_at "go"
    refine i_ixL (SqL.of h1) (atI_nat (j := 2) rfl) ?_
    walk_at "run"
    refine i_ixL (SqL.of h5) (v := .ref ya) (atI_nat (by rw [List.getElem?_eq_getElem hwl, hya])) ?_
    walk_at "run"
    refine ⟨⟨_, SqL.of hye⟩, cc_list (xs := natsV l) (le_line (by rw [natsV_len]; omega)) (fun i acc H' => H' = H ∧ i ≤ l.length ∧ acc = strsV (txOf txs (l.take i))) ⟨rfl, Nat.zero_le _, rfl⟩ (fun i acc H' ⟨e, hi, ea⟩ => ⟨by rw [ea]; simp [strsV, txOf]; omega, e ▸ SqL.of hye⟩) ?_ ?_⟩
    · rintro i x acc H' hx ⟨rfl, hi, rfl⟩
      obtain ⟨m, hm, rfl⟩ := natsV_get hx
      walk_at "run"
      refine i_ixL (SqL.of h1) (atI_nat (j := 1) rfl) ?_
      walk_at "run"
      refine i_ixL (SqL.of h4) (atI_nat (txs_at (y2 m (List.mem_of_getElem? hm)))) ?_
      exact ⟨rfl, (List.getElem?_eq_some_iff.mp hm).1, txOf_snoc hm⟩
    · rintro acc H' ⟨rfl, _, rfl⟩ p3 H3 g3 s3 e3
      rw [natsV_len, List.take_length] at e3
      exact q p3 H3 g3 s3 e3
def sp_lrow (K : PySem.W.Frag) : Sp := fun vs H Q _ => ∃ (p a b sa : Addr) (us : List V) (es : List Ev) (txs : List Str) (k : Pk) (h : Sh) (j : Nat), vs = [.ref p, .ref sa, .int (j : Nat)] ∧ PartsAt H p a b us es txs k ∧ Small k es txs ∧ h ∈ k.shs ∧ H sa = some (.lst (natsV (shL h))) ∧ ∀ kk pl H', H pl = none → Same H H' → H' kk = some (.tup [.ref pl, .int ((rowAt k txs h j).2 : Nat)]) → H' pl = some (.lst (strsV (rowAt k txs h j).1)) → Q (.ref kk) H'
theorem ok_law_row (T : Txt K mg t) : FnOk P w K mg base CX0 2 t.a__law_row t.fd__law_row ["parts", "shape", "place"] (sp_lrow K) := by
  have G__law_texts := ok_law_texts (P := P) (w := w) (base := base) T
  refine T.F__law_row.ok sc_law_row (fun vs H Q E h => ?_) (fun cdv A outer s H vs Q E hr h => ?_)
  · obtain ⟨p, a, b, sa, us, es, txs, k, h, j, rfl, _⟩ := h
    rfl
  · obtain ⟨p, a, b, sa, us, es, txs, k, h, j, rfl, hP, ok, hh, hse, q⟩ := h
    refine ⟨_, (@pss_cons _ _ _ _ _ (@ps_for _ _ _ _ _ _ _ _ PassesOwn.never rfl (pi_range3 rfl T.z_range (@pa_cons _ _ _ _ _ (@pe_int _ _ _ _) (@pa_cons _ _ _ _ _ (@pe_callB _ _ _ _ _ _ _ _ _ (kcl_len K) (by rfl) T.z_len bb_len (@pa_cons _ _ _ _ _ (pv 1) (@pa_nil _) (by rfl)) (by decide) (by decide) (by rfl) (by rfl)) (@pa_cons _ _ _ _ _ (@pe_int _ _ _ _) (@pa_nil _) (by rfl)) (by rfl)) (by rfl))) (pg_name (i := 3) sc_law_row.nd rfl (by first | exact Or.inl rfl | exact Or.inr rfl)) (@pss_one _ _ _ (@ps_if _ _ _ _ _ _ _ _ (@pt_cmpR _ _ _ _ _ _ _ _ op_eq (@pe_ix _ _ _ _ _ _ _ (kix_list K) (pv 1) (pv 3) (fun _ _ => rfl)) (pv 2) (nomark _)) (@pss_one _ _ _ (@ps_ret _ _ _ _ (@pe_tupN _ _ _ _ _ (@pa_cons _ _ _ _ _ (@pe_call _ _ _ _ _ _ _ _ _ _ _ _ _ _ _ _ G__law_texts (hr.mono (by omega)) rfl T.m__law_texts T.F__law_texts.kp T.b__law_texts .nil pass0 (@pa_cons _ _ _ _ _ (pv 0) (@pa_cons _ _ _ _ _ (@pe_ix _ _ _ _ _ _ _ (kix_list K) (pv 1) (@pe_op _ _ _ _ _ _ _ _ op_plus (pv 3) (@pe_int _ _ _ _)) (fun _ _ => rfl)) (@pa_nil _) (by rfl)) (by rfl)) (by decide) (by rfl) (by rfl)) (@pa_cons _ _ _ _ _ (@pe_ix _ _ _ _ _ _ _ (kix_list K) (pv 1) (@pe_op _ _ _ _ _ _ _ _ op_plus (pv 3) (@pe_int _ _ _ _)) (fun _ _ => rfl)) (@pa_nil _) (by rfl)) (by rfl))))) (@pss_nil _))) (by intro _; rfl))
      (@pss_one _ _ _ (@ps_ret _ _ _ _ (@pe_tupN _ _ _ _ _ (@pa_cons _ _ _ _ _ (@pe_call _ _ _ _ _ _ _ _ _ _ _ _ _ _ _ _ G__law_texts (hr.mono (by omega)) rfl T.m__law_texts T.F__law_texts.kp T.b__law_texts .nil pass0 (@pa_cons _ _ _ _ _ (pv 0) (@pa_cons _ _ _ _ _ (@pe_ix _ _ _ _ _ _ _ (kix_list K) (pv 1) (@pe_int _ _ _ _) (fun _ _ => rfl)) (@pa_nil _) (by rfl)) (by rfl)) (by decide) (by rfl) (by rfl)) (@pa_cons _ _ _ _ _ (@pe_ix _ _ _ _ _ _ _ (kix_list K) (pv 1) (@pe_int _ _ _ _) (fun _ _ => rfl)) (@pa_nil _) (by rfl)) (by rfl)))))), ?_⟩
    have hle : (natsV (shL h)).length = h.2.length * 3 + 2 := by rw [natsV_len, shL_len]
    have hr := ris_len (ok.v.sh h hh).1
    have he := ok.e1
    obtain ⟨w1, w2⟩ := pick_in ok.v hh j
    obtain ⟨l, hl⟩ : ∃ l, k.sys[(pick h j).1]? = some l := ⟨_, List.getElem?_eq_getElem w1⟩
    have hrow : rowAt k txs h j = (txOf txs l, (pick h j).2) := by
      unfold rowAt
      rw [List.getD_eq_getElem?_getD, hl]
      rfl
    rw [hrow] at q
    walk_at "go"
    refine i_lenL (SqL.of hse) ?_
    walk_at "run"
    rw [hle]
    refine ⟨2, _, rfl, ⟨by omega, by omega, by omega, by omega⟩, ?_⟩
    rw [many3_sh]
    refine for_range3 (n := h.2.length) (fun i σ H' => H' = H ∧ i ≤ h.2.length ∧ (∀ x ∈ h.2.take i, ¬ x.1 = j) ∧ ∃ y, σ = [some (.ref p), some (.ref sa), some (.int (j : Nat)), y]) ⟨rfl, Nat.zero_le _, by simp, _, rfl⟩ ?_ ?_
    · rintro i σ H2 hi ⟨rfl, hil, hno, y, rfl⟩
      obtain ⟨t, et⟩ : ∃ t, h.2[i]? = some t := ⟨_, List.getElem?_eq_getElem hi⟩
      obtain ⟨_, x2, x3, x4⟩ := shL_at et
      rw [show (2 : Int) + (i : Nat) * 3 = ((2 + i * 3 : Nat) : Int) by omega]
      walk_at "run"
      refine i_ixL (SqL.of hse) (atI_nat (natsV_at x2)) ?_
      walk_at "run"
      refine ite2 (fun hc => ?_) (fun hc => ?_)
      · have hc' : t.1 = j := by have := of_decide_eq_true hc; omega
        have hpk := pick_some et hc' hno
        rw [hpk] at hl q
        walk_at "run"
        rw [show ((2 + i * 3 : Nat) : Int) + 1 = ((2 + i * 3 + 1 : Nat) : Int) by omega]
        refine i_ixL (SqL.of hse) (atI_nat (natsV_at x3)) ?_
        walk_at "run"
        refine ⟨p, a, b, us, es, txs, k, t.2.1, l, rfl, hP, ok, hl, fun pl H3 f3 s3 e3 => ?_⟩
        walk_at "run"
        rw [show ((2 + i * 3 : Nat) : Int) + 2 = ((2 + i * 3 + 2 : Nat) : Int) by omega]
        refine i_ixL (SqL.of (s3 _ _ hse)) (atI_nat (natsV_at x4)) ?_
        walk_at "run"
        intro kk H4 f4 s4 e4
        exact q kk pl H4 f3 (s3.trans s4) e4 (s4 _ _ e3)
      · have hc' : ¬ t.1 = j := fun z => hc (decide_eq_true (by omega))
        walk_at "run"
        refine ⟨rfl, hi, fun x hx => ?_, _, rfl⟩
        rw [List.take_add_one, et] at hx
        rcases List.mem_append.mp hx with hx | hx
        · exact hno x hx
        · rw [show x = t by simpa using hx]; exact hc'
    rintro σ H2 ⟨rfl, _, hno, y, rfl⟩
    rw [List.take_length] at hno
    have hpk := pick_none hno
    rw [hpk] at hl q
    walk_at "run"
    refine i_ixL (SqL.of hse) (v := .int (h.1.1 : Nat)) (atI_nat (j := 0) rfl) ?_
    walk_at "run"
    refine ⟨p, a, b, us, es, txs, k, h.1.1, l, rfl, hP, ok, hl, fun pl H3 f3 s3 e3 => ?_⟩
    walk_at "run"
    refine i_ixL (SqL.of (s3 _ _ hse)) (v := .int (h.1.2 : Nat)) (atI_nat (j := 1) rfl) ?_
    walk_at "run"
    intro kk H4 f4 s4 e4
    exact q kk pl H4 f3 (s3.trans s4) e4 (s4 _ _ e3)
def sp_ltab (K : PySem.W.Frag) : Sp := fun vs H Q _ => ∃ (p a b : Addr) (us : List V) (es : List Ev) (txs : List Str) (k : Pk), vs = [.ref p] ∧ PartsAt H p a b us es txs k ∧ Small k es txs ∧ ∀ v a' b' c' gs H', Same H H' → TabAt H' v a' b' c' es (txOf txs (k.sys.getD k.say [])) (rsOf k es.length txs) gs → Q v H'
theorem ok_law_table (T : Txt K mg t) : FnOk P w K mg base CX0 3 t.a__law_table t.fd__law_table ["parts"] (sp_ltab K) := by
  have G__law_row := ok_law_row (P := P) (w := w) (base := base) T
  have G__law_texts := ok_law_texts (P := P) (w := w) (base := base) T
  refine T.F__law_table.ok sc_law_table (fun vs H Q E h => ?_) (fun cdv A outer s H vs Q E hr h => ?_)
  · obtain ⟨p, a, b, us, es, txs, k, rfl, _⟩ := h
    rfl
  · obtain ⟨p, a, b, us, es, txs, k, rfl, hP, ok, q⟩ := h
    refine ⟨_, (@pss_cons _ _ _ _ _ (@ps_set _ _ 1 _ _ _ _ sc_law_table.nd rfl (by first | exact Or.inl rfl | exact Or.inr rfl) (@pe_lstN _ _ _ _ (@pa_nil _)) (by rfl) (by first | exact Or.inl rfl | exact Or.inr rfl))
      (@pss_cons _ _ _ _ _ (@ps_for _ _ _ _ _ _ _ _ PassesOwn.never rfl (kpi_list K (@pe_ix _ _ _ _ _ _ _ (kix_list K) (pv 0) (@pe_int _ _ _ _) (fun _ _ => rfl))) (pg_name (i := 2) sc_law_table.nd rfl (by first | exact Or.inl rfl | exact Or.inr rfl)) (@pss_cons _ _ _ _ _ (@ps_set _ _ 3 _ _ _ _ sc_law_table.nd rfl (by first | exact Or.inl rfl | exact Or.inr rfl) (@pe_ix _ _ _ _ _ _ _ (kix_list K) (@pe_ix _ _ _ _ _ _ _ (kix_list K) (pv 0) (@pe_int _ _ _ _) (fun _ _ => rfl)) (@pe_op _ _ _ _ _ _ _ _ op_fdiv (pv 2) (@pe_int _ _ _ _)) (fun _ _ => rfl)) (by rfl) (by first | exact Or.inl rfl | exact Or.inr rfl))
        (@pss_one _ _ _ (@ps_expr _ _ _ _ (@kpe_bm _ K _ _ _ _ _ _ _ _ _ _ _ PySem.F.plainAttrs_list PySem.F.slot_list_append PySem.F.type_list_append mt_append (pv 1) (@pa_cons _ _ _ _ _ (@pe_tupN _ _ _ _ _ (@pa_cons _ _ _ _ _ (@pe_cmpR _ _ _ _ _ _ _ _ op_eq (@pe_op _ _ _ _ _ _ _ _ op_mod (pv 2) (@pe_int _ _ _ _)) (@pe_int _ _ _ _) (nomark _)) (@pa_cons _ _ _ _ _ (pe_lc (Nt := ["place"]) (Nf := ["parts", "shape"]) (caps := [0, 3]) rfl (comp_ok (sc := defScope s_law_table) rfl rfl (by decide +kernel) (by decide +kernel) (by decide +kernel) rfl (by decide +kernel)) (pi_range1 rfl T.z_range (@pa_cons _ _ _ _ _ (@pe_callB _ _ _ _ _ _ _ _ _ (kcl_len K) (by rfl) T.z_len bb_len (@pa_cons _ _ _ _ _ (@pe_ix _ _ _ _ _ _ _ (kix_list K) (pv 0) (@pe_int _ _ _ _) (fun _ _ => rfl)) (@pa_nil _) (by rfl)) (by decide) (by decide) (by rfl) (by rfl)) (@pa_nil _) (by rfl))) (fun _ _ _ _ _ => (pg_name (i := 0) (show (["place", "parts", "shape"] : List Str).Nodup by decide +kernel) rfl (by first | exact Or.inl rfl | exact Or.inr rfl))) (fun _ _ _ _ _ => (@pts_nil _)) (fun _ _ _ _ _ => (@pe_call _ _ _ _ _ _ _ _ _ _ _ _ _ _ _ _ G__law_row (hr.mono (by omega)) rfl T.m__law_row T.F__law_row.kp T.b__law_row .nil pass0 (@pa_cons _ _ _ _ _ (pv 1) (@pa_cons _ _ _ _ _ (pv 2) (@pa_cons _ _ _ _ _ (pv 0) (@pa_nil _) (by rfl)) (by rfl)) (by rfl)) (by decide) (by rfl) (by rfl)))) (@pa_nil _) (by rfl)) (by rfl))) (@pa_nil _) (by rfl)) (by rfl) (by rfl) (by rfl) (by rfl) (by rfl) (by rfl)) (by rfl)))) (by intro _; rfl))
      (@pss_one _ _ _ (@ps_ret _ _ _ _ (@pe_tupN _ _ _ _ _ (@pa_cons _ _ _ _ _ (@pe_callTy _ _ _ _ _ _ _ _ _ (kcl_list K) (by rfl) T.z_list bb_list (@pa_cons _ _ _ _ _ (@pe_ix _ _ _ _ _ _ _ (kix_list K) (pv 0) (@pe_int _ _ _ _) (fun _ _ => rfl)) (@pa_nil _) (by rfl)) (by decide) (by decide) (by rfl) (by rfl)) (@pa_cons _ _ _ _ _ (@pe_call _ _ _ _ _ _ _ _ _ _ _ _ _ _ _ _ G__law_texts (hr.mono (by omega)) rfl T.m__law_texts T.F__law_texts.kp T.b__law_texts .nil pass0 (@pa_cons _ _ _ _ _ (pv 0) (@pa_cons _ _ _ _ _ (@pe_ix _ _ _ _ _ _ _ (kix_list K) (pv 0) (@pe_int _ _ _ _) (fun _ _ => rfl)) (@pa_nil _) (by rfl)) (by rfl)) (by decide) (by rfl) (by rfl)) (@pa_cons _ _ _ _ _ (pv 1) (@pa_nil _) (by rfl)) (by rfl)) (by rfl))))))), ?_⟩
    have sl : (1000000 : Nat) ≤ sizeLine := le_line (Nat.le_refl _)
    obtain ⟨py, ps, pt, ws, vs, f1, f2, h1, h2, h3, h4, h5, h6, h7, h8, h9⟩ := hP.ex
    have ul : us.length = es.length := by rw [h3.len, List.length_map]
    have hnt := ok.nt
    have hel := ok.e1
    walk_at "go"
    intro pR H1 g1 s1 e1
    walk_at "run"
    refine i_ixL (SqL.of (s1 _ _ h1)) (atI_nat (j := 4) rfl) ?_
    walk_at "run"
    obtain ⟨Pv, hPv⟩ : ∃ Pv : Nat → St → Hp → Prop, Pv = (fun i σ H' => i ≤ k.told.length ∧ Same H H' ∧ (∃ acc fs, H' pR = some (.lst acc) ∧ Tw.Ats H' (((k.told.take i).map (roomAt k es.length txs)).map roomW) acc fs ∧ pR ∉ fs) ∧ ∃ y z, σ = [some (.ref p), some (.ref pR), y, z]) := ⟨_, rfl⟩
    refine ⟨⟨_, SqL.of (s1 _ _ h9)⟩, for_list (K := K) (a := pt) (xs := natsV k.told) Pv (by rw [hPv]; exact ⟨Nat.zero_le _, s1, ⟨[], [], e1, by simp [Tw.Ats], by simp⟩, _, _, rfl⟩) (fun i σ H' _ hI => by rw [hPv] at hI; obtain ⟨_, s', _⟩ := hI; exact SqL.of (s' _ _ h9)) ?_ ?_⟩
    · intro i x σ H5 hx hI
      rw [hPv] at hI
      obtain ⟨hi, s5, ⟨acc, fs, eR, hat, hnR⟩, y, z, rfl⟩ := hI
      obtain ⟨t, ht, rfl⟩ := natsV_get hx
      have hi' : i < k.told.length := (List.getElem?_eq_some_iff.mp ht).1
      have htk : k.told.take (i + 1) = k.told.take i ++ [t] := by rw [List.take_add_one, ht]; rfl
      obtain ⟨v1, _⟩ := ok.v.told i t ht
      obtain ⟨h, hh⟩ : ∃ h, k.shs[t / 2]? = some h := ⟨_, List.getElem?_eq_getElem v1⟩
      have hhm := List.mem_of_getElem? hh
      have hul : t / 2 < vs.length := by rw [h8.len, List.length_map]; exact v1
      obtain ⟨tt, ff, ht1, ht2, _⟩ := Tw.Ats.get h8 (t / 2) vs[t / 2] (List.getElem?_eq_getElem hul)
      rw [List.getElem?_map, hh] at ht1
      cases ht1
      obtain ⟨sa, hsa, hse, _⟩ := lst_w.mp ht2
      have al : acc.length = i := by rw [hat.len, List.length_map, List.length_map, List.length_take]; omega
      walk_at "run"
      refine i_ixL (SqL.of (s5 _ _ h1)) (atI_nat (j := 3) rfl) ?_
      walk_at "run"
      rw [show ((t : Nat) : Int) / 2 = ((t / 2 : Nat) : Int) by omega]
      refine i_ixL (SqL.of (s5 _ _ h7)) (v := .ref sa) (atI_nat (by rw [List.getElem?_eq_getElem hul, hsa])) ?_
      walk_at "run"
      refine i_tyL (SqL.of eR) ?_
      walk_at "run"
      refine i_ixL (SqL.of (s5 _ _ h1)) (atI_nat (j := 0) rfl) ?_
      walk_at "run"
      refine i_lenL (SqL.of (s5 _ _ h2)) ?_
      walk_at "run"
      rw [Int.toNat_natCast, ul]
      refine cc_range (n := es.length) (le_line (by omega)) (fun j ac H' => j ≤ es.length ∧ ac.length = j ∧ Same H5 H' ∧ ∃ gs, Tw.Ats H' (((List.range j).map (rowAt k txs h)).map rowW) ac gs ∧ ∀ x ∈ gs, H5 x = none) ⟨Nat.zero_le _, rfl, Same.refl _, [], by simp [Tw.Ats], by simp⟩ (fun j ac H' ⟨_, e, _⟩ => by omega) ?_ ?_
      · rintro j ac H7 hj ⟨_, ea, s7, gs, hat7, fr7⟩
        rw [Int.zero_add]
        walk_at "run"
        refine ⟨p, a, b, sa, us, es, txs, k, h, j, rfl, hP.same (s5.trans s7), ok, hhm, (s5.trans s7) _ _ hse, fun kk pl H8 f8 s8 e8 e8' => ?_⟩
        refine ⟨hj, by simp [ea], s7.trans s8, gs ++ [pl], ?_, fun x hx => ?_⟩
        · rw [List.range_succ, List.map_append, List.map_append]
          exact (hat7.same s8).snoc (row_w.mpr ⟨kk, pl, rfl, e8, e8', rfl⟩)
        · rcases List.mem_append.mp hx with hx | hx
          · exact fr7 x hx
          · rw [List.mem_singleton.mp hx]; exact s7.free f8
      rintro ac H7 ⟨_, ea, s7, gs, hat7, fr7⟩ p8 H8 f8 s8 e8
      walk_at "run"
      intro p9 H9 f9 s9 e9
      walk_at "run"
      have s59 := s7.trans (s8.trans s9)
      refine i_append (s59 _ _ eR) (by omega) ?_
      have nR : pR ∉ p8 :: gs := fun hx => by
        rcases List.mem_cons.mp hx with z | hx
        · rw [← z, s7 _ _ eR] at f8; cases f8
        · have := fr7 _ hx; rw [eR] at this; cases this
      rw [hPv]
      refine ⟨hi', (s5.trans s59).updNew g1, ⟨_, fs ++ (p8 :: gs), upd_same, ?_, fun hx => ?_⟩, _, _, rfl⟩
      · rw [htk, List.map_append, List.map_append]
        refine Tw.Ats.snoc ((hat.same s59).mono (Keep.upd (s59 _ _ eR) hnR)) (Tw.At.mono ?_ (Keep.upd (s59 _ _ eR) nR))
        refine room_w.mpr ⟨p9, p8, ac, gs, rfl, e9, s9 _ _ e8, ?_, rfl⟩
        unfold roomAt
        rw [List.getD_eq_getElem?_getD, hh]
        exact hat7.same (s8.trans s9)
      · rcases List.mem_append.mp hx with hx | hx
        · exact hnR hx
        · exact nR hx
    intro σ H5 hI
    rw [hPv] at hI
    obtain ⟨_, s5, ⟨acc, fs, eR, hat, hnR⟩, y, z, rfl⟩ := hI
    rw [natsV_len, List.take_length] at hat
    walk_at "run"
    refine i_ixL (SqL.of (s5 _ _ h1)) (atI_nat (j := 0) rfl) ?_
    walk_at "run"
    refine i_listL (SqL.of (s5 _ _ h2)) ?_
    intro p6 H6 f6 s6 e6
    walk_at "run"
    have s06 := s5.trans s6
    refine i_ixL (SqL.of (s06 _ _ h1)) (v := .int (k.say : Nat)) (atI_nat (j := 5) rfl) ?_
    walk_at "run"
    obtain ⟨l, hl⟩ : ∃ l, k.sys[k.say]? = some l := ⟨_, List.getElem?_eq_getElem ok.v.say⟩
    refine ⟨p, a, b, us, es, txs, k, k.say, l, rfl, hP.same s06, ok, hl, fun p7 H7 f7 s7 e7 => ?_⟩
    walk_at "run"
    intro p8 H8 f8 s8 e8
    have s58 := s6.trans (s7.trans s8)
    refine q _ p6 p7 pR fs H8 (s5.trans s58) ⟨p8, us, acc, rfl, e8, (s7.trans s8) _ _ e6, h3.same (s5.trans s58), ?_, s58 _ _ eR, hat.same s58⟩
    rw [s8 _ _ e7, List.getD_eq_getElem?_getD, hl]
    rfl
theorem txOf_in {txs : List Str} {l : List Nat} (h : ∀ n ∈ l, n < txs.length) : ∀ x ∈ txOf txs l, x ∈ txs := fun x hx => by
  obtain ⟨n, hn, rfl⟩ := List.mem_map.mp hx
  have := h n hn
  rw [List.getD_eq_getElem?_getD, List.getElem?_eq_getElem this]
  exact List.getElem_mem this
theorem small_tab {k : Pk} {es : List Ev} {txs : List Str} (s : Small k es txs) : TabOk es (txOf txs (k.sys.getD k.say [])) (rsOf k es.length txs) ∧ (rsOf k es.length txs).length ≤ 60 ∧ 0 < (rsOf k es.length txs).length ∧ (∀ (j : Nat) (q : Room_), (rsOf k es.length txs)[j]? = some q → q.1 = true → q.2 = List.replicate es.length ([], j)) ∧ (∀ x ∈ sayL (txOf txs (k.sys.getD k.say [])) (rsOf k es.length txs), x ∈ k.sys.map (txOf txs) ∧ ∀ y ∈ x, y ∈ txs) ∧ (mets (sayL (txOf txs (k.sys.getD k.say [])) (rsOf k es.length txs))).length ≤ 8 := by
  have h1 := s.nt
  have h2 := s.e1
  have h3 := s.nsy
  have h0 := s.v.n0
  have rl : (rsOf k es.length txs).length = k.told.length := by simp [rsOf]
  have tl : ∀ l ∈ k.sys, (txOf txs l).length ≤ 20 := fun l hl => by
    have := s.sy l hl
    simp only [txOf, List.length_map]
    omega
  have gt : ∀ {n : Nat}, n < k.sys.length → k.sys.getD n [] ∈ k.sys := fun {n} h => by
    rw [List.getD_eq_getElem?_getD, List.getElem?_eq_getElem h]
    exact List.getElem_mem h
  have rm : ∀ r ∈ rsOf k es.length txs, r.2.length = es.length ∧ ∀ x ∈ r.2, x.2 < k.told.length ∧ ∃ l ∈ k.sys, x.1 = txOf txs l := fun r hr => by
    obtain ⟨t, ht, rfl⟩ := List.mem_map.mp hr
    refine ⟨by simp [roomAt], fun x hx => ?_⟩
    obtain ⟨j, hj, rfl⟩ := List.mem_map.mp hx
    obtain ⟨i, hi, rfl⟩ := List.mem_iff_getElem.mp ht
    obtain ⟨v1, _⟩ := s.v.told i k.told[i] (List.getElem?_eq_getElem hi)
    have hm : k.shs.getD (k.told[i] / 2) ((0, 0), []) ∈ k.shs := by
      rw [List.getD_eq_getElem?_getD, List.getElem?_eq_getElem v1]
      exact List.getElem_mem v1
    obtain ⟨w1, w2⟩ := pick_in s.v hm j
    exact ⟨w2, _, gt w1, rfl⟩
  have sd : ∀ x ∈ sayL (txOf txs (k.sys.getD k.say [])) (rsOf k es.length txs), ∃ l ∈ k.sys, x = txOf txs l := fun x hx => by
    rcases List.mem_cons.mp hx with rfl | hx
    · exact ⟨_, gt s.v.say, rfl⟩
    · obtain ⟨r, hr, hx⟩ := List.mem_flatMap.mp hx
      obtain ⟨y, hy, rfl⟩ := List.mem_map.mp hx
      exact ((rm r hr).2 y hy).2
  have sm : ∀ x ∈ sayL (txOf txs (k.sys.getD k.say [])) (rsOf k es.length txs), x ∈ k.sys.map (txOf txs) := fun x hx => by
    obtain ⟨l, hl, rfl⟩ := sd x hx
    exact List.mem_map_of_mem hl
  refine ⟨⟨by omega, tl _ (gt s.v.say), by omega, fun r hr => ⟨(rm r hr).1, fun x hx => ?_⟩⟩, by omega, by omega, fun j q hq ho => ?_, fun x hx => ⟨sm x hx, ?_⟩, ?_⟩
  · obtain ⟨a1, l, hl, e⟩ := (rm r hr).2 x hx
    rw [rl, e]
    exact ⟨a1, tl l hl⟩
  · unfold rsOf at hq
    rw [List.getElem?_map] at hq
    obtain ⟨t, ht, rfl⟩ := Option.map_eq_some_iff.mp hq
    obtain ⟨v1, v2⟩ := s.v.told j t ht
    have ho' : t % 2 = 1 := by
      have := of_decide_eq_true (show decide ((t : Int) % 2 = 1) = true from ho)
      omega
    obtain ⟨h, hh⟩ : ∃ h, k.shs[t / 2]? = some h := ⟨_, List.getElem?_eq_getElem v1⟩
    unfold roomAt
    show (List.range es.length).map (rowAt k txs (k.shs.getD (t / 2) ((0, 0), []))) = _
    rw [List.getD_eq_getElem?_getD, hh]
    refine List.ext_getElem? fun m => ?_
    rw [List.getElem?_map, List.getElem?_replicate]
    by_cases hm : m < es.length
    · rw [List.getElem?_range hm, if_pos hm]
      obtain ⟨a1, a2⟩ := v2 ho' h hh m hm
      show some (rowAt k txs h m) = _
      unfold rowAt
      rw [List.getD_eq_getElem?_getD, a2, a1]
      rfl
    · rw [if_neg hm, List.getElem?_eq_none_iff.mpr (by simp; omega)]
      rfl
  · obtain ⟨l, hl, rfl⟩ := sd x hx
    exact txOf_in (s.v.sy l hl)
  · have := nd_len (mets_nd (sayL (txOf txs (k.sys.getD k.say [])) (rsOf k es.length txs))) (b := k.sys.map (txOf txs)) fun x hx => sm x ((mets_mem _ _).mp hx)
    rw [List.length_map] at this
    omega
theorem UnpPost.tab {H0 H : Hp} {tt a b c : Addr} {us rvs : List V} {gs : List Addr} {es : List Ev} {sy : List Str} {rs : List Room_} (h : UnpPost H0 H tt a b c us rvs gs es sy rs) : TabAt H (.ref tt) a b c es sy rs gs := ⟨tt, us, rvs, rfl, h.e, h.ea, h.hu, h.eb, h.ec, h.hr⟩
open Z (ok_block_places ok_cells_in ok_others_in ok_pairs_in ok_whole_shape ok_whole_rooms ok_whole_pack)
def sp_law (K : PySem.W.Frag) : Sp := fun vs H Q _ => ∃ (a : Addr) (ns : List Int), vs = [.ref a] ∧ SqL K H a (ns.map V.int) ∧ ns.length ≤ 63 ∧ ∀ H', Q (.bl true) H'
theorem ok_law (T : Txt K mg t) : FnOk P w K mg base CX0 5 t.a_law t.fd_law ["script"] (sp_law K) := by
  have G__law_cells := ok_law_cells (P := P) (w := w) (base := base) T
  have G__law_parts := ok_law_parts (P := P) (w := w) (base := base) T
  have G__law_table := ok_law_table (P := P) (w := w) (base := base) T
  have G_pack := ok_pack (P := P) (w := w) (base := base) T
  have G_unpacked := ok_unpacked (P := P) (w := w) (base := base) T
  have G_whole_pack := ok_whole_pack (P := P) (w := w) (base := base) T
  refine T.F_law.ok sc_law (fun vs H Q E h => ?_) (fun cdv A outer s H vs Q E hr h => ?_)
  · obtain ⟨a, ns, rfl, _⟩ := h
    rfl
  · obtain ⟨a0, ns, rfl, hS, hl, q⟩ := h
    refine ⟨_, (@pss_cons _ _ _ _ _ (@ps_set _ _ 1 _ _ _ _ sc_law.nd rfl (by first | exact Or.inl rfl | exact Or.inr rfl) (@pe_call _ _ _ _ _ _ _ _ _ _ _ _ _ _ _ _ G__law_parts (hr.mono (by omega)) rfl T.m__law_parts T.F__law_parts.kp T.b__law_parts .nil pass0 (@pa_cons _ _ _ _ _ (pv 0) (@pa_nil _) (by rfl)) (by decide) (by rfl) (by rfl)) (by rfl) (by first | exact Or.inl rfl | exact Or.inr rfl))
      (@pss_cons _ _ _ _ _ (@ps_set _ _ 2 _ _ _ _ sc_law.nd rfl (by first | exact Or.inl rfl | exact Or.inr rfl) (@pe_tupN _ _ _ _ _ (@pa_cons _ _ _ _ _ (@pe_callTy _ _ _ _ _ _ _ _ _ (kcl_list K) (by rfl) T.z_list bb_list (@pa_cons _ _ _ _ _ (@pe_ix _ _ _ _ _ _ _ (kix_list K) (pv 1) (@pe_int _ _ _ _) (fun _ _ => rfl)) (@pa_nil _) (by rfl)) (by decide) (by decide) (by rfl) (by rfl)) (@pa_cons _ _ _ _ _ (@pe_callTy _ _ _ _ _ _ _ _ _ (kcl_list K) (by rfl) T.z_list bb_list (@pa_cons _ _ _ _ _ (@pe_ix _ _ _ _ _ _ _ (kix_list K) (pv 1) (@pe_int _ _ _ _) (fun _ _ => rfl)) (@pa_nil _) (by rfl)) (by decide) (by decide) (by rfl) (by rfl)) (@pa_cons _ _ _ _ _ (@pe_call _ _ _ _ _ _ _ _ _ _ _ _ _ _ _ _ G__law_cells (hr.mono (by omega)) rfl T.m__law_cells T.F__law_cells.kp T.b__law_cells .nil pass0 (@pa_cons _ _ _ _ _ (pv 1) (@pa_nil _) (by rfl)) (by decide) (by rfl) (by rfl)) (@pa_nil _) (by rfl)) (by rfl)) (by rfl))) (by rfl) (by first | exact Or.inl rfl | exact Or.inr rfl))
      (@pss_cons _ _ _ _ _ (@ps_set _ _ 3 _ _ _ _ sc_law.nd rfl (by first | exact Or.inl rfl | exact Or.inr rfl) (@pe_call _ _ _ _ _ _ _ _ _ _ _ _ _ _ _ _ G__law_table (hr.mono (by omega)) rfl T.m__law_table T.F__law_table.kp T.b__law_table .nil pass0 (@pa_cons _ _ _ _ _ (pv 1) (@pa_nil _) (by rfl)) (by decide) (by rfl) (by rfl)) (by rfl) (by first | exact Or.inl rfl | exact Or.inr rfl))
      (@pss_cons _ _ _ _ _ (@ps_if _ _ _ _ _ _ _ _ (@PW.pt _ _ _ (@pw_or _ _ _ _ _ _ _ (@pt_cmpR _ _ _ _ _ _ _ _ kop_isntT (@pe_call _ _ _ _ _ _ _ _ _ _ _ _ _ _ _ _ G_whole_pack (hr.mono (by omega)) rfl T.m_whole_pack T.F_whole_pack.kp T.b_whole_pack .nil pass0 (@pa_cons _ _ _ _ _ (@pe_ix _ _ _ _ _ _ _ (kix_tup K) (pv 2) (@pe_int _ _ _ _) (fun _ _ => rfl)) (@pa_cons _ _ _ _ _ (@pe_ix _ _ _ _ _ _ _ (kix_tup K) (pv 2) (@pe_int _ _ _ _) (fun _ _ => rfl)) (@pa_cons _ _ _ _ _ (@pe_ix _ _ _ _ _ _ _ (kix_tup K) (pv 2) (@pe_int _ _ _ _) (fun _ _ => rfl)) (@pa_nil _) (by rfl)) (by rfl)) (by rfl)) (by decide) (by rfl) (by rfl)) (@pe_bl _ _ _ _) (nomark _)) (@pw_or1 _ _ _ _ (@pt_cmpR _ _ _ _ _ _ _ _ (kop_neW (by exact hr.units)) (@pe_call _ _ _ _ _ _ _ _ _ _ _ _ _ _ _ _ G_unpacked (hr.mono (by omega)) rfl T.m_unpacked T.F_unpacked.kp T.b_unpacked .nil pass0 (@pa_cons _ _ _ _ _ (pv 2) (@pa_nil _) (by rfl)) (by decide) (by rfl) (by rfl)) (pv 3) (nomark _))))) (@pss_one _ _ _ (@ps_ret _ _ _ _ (@pe_bl _ _ _ _))) (@pss_nil _))
      (@pss_cons _ _ _ _ _ (@ps_set _ _ 4 _ _ _ _ sc_law.nd rfl (by first | exact Or.inl rfl | exact Or.inr rfl) (@pe_call _ _ _ _ _ _ _ _ _ _ _ _ _ _ _ _ G_pack (hr.mono (by omega)) rfl T.m_pack T.F_pack.kp T.b_pack .nil pass0 (@pa_cons _ _ _ _ _ (@pe_call _ _ _ _ _ _ _ _ _ _ _ _ _ _ _ _ G_unpacked (hr.mono (by omega)) rfl T.m_unpacked T.F_unpacked.kp T.b_unpacked .nil pass0 (@pa_cons _ _ _ _ _ (pv 2) (@pa_nil _) (by rfl)) (by decide) (by rfl) (by rfl)) (@pa_nil _) (by rfl)) (by decide) (by rfl) (by rfl)) (by rfl) (by first | exact Or.inl rfl | exact Or.inr rfl))
      (@pss_cons _ _ _ _ _ (@ps_if _ _ _ _ _ _ _ _ (@PW.pt _ _ _ (@pw_or _ _ _ _ _ _ _ (@pt_cmpR _ _ _ _ _ _ _ _ kop_isntT (@pe_call _ _ _ _ _ _ _ _ _ _ _ _ _ _ _ _ G_whole_pack (hr.mono (by omega)) rfl T.m_whole_pack T.F_whole_pack.kp T.b_whole_pack .nil pass0 (@pa_cons _ _ _ _ _ (@pe_ix _ _ _ _ _ _ _ (kix_tup K) (pv 4) (@pe_int _ _ _ _) (fun _ _ => rfl)) (@pa_cons _ _ _ _ _ (@pe_ix _ _ _ _ _ _ _ (kix_tup K) (pv 4) (@pe_int _ _ _ _) (fun _ _ => rfl)) (@pa_cons _ _ _ _ _ (@pe_ix _ _ _ _ _ _ _ (kix_tup K) (pv 4) (@pe_int _ _ _ _) (fun _ _ => rfl)) (@pa_nil _) (by rfl)) (by rfl)) (by rfl)) (by decide) (by rfl) (by rfl)) (@pe_bl _ _ _ _) (nomark _)) (@pw_or1 _ _ _ _ (@pt_cmpR _ _ _ _ _ _ _ _ (kop_neW (by exact hr.units)) (@pe_call _ _ _ _ _ _ _ _ _ _ _ _ _ _ _ _ G_unpacked (hr.mono (by omega)) rfl T.m_unpacked T.F_unpacked.kp T.b_unpacked .nil pass0 (@pa_cons _ _ _ _ _ (pv 4) (@pa_nil _) (by rfl)) (by decide) (by rfl) (by rfl)) (pv 3) (nomark _))))) (@pss_one _ _ _ (@ps_ret _ _ _ _ (@pe_bl _ _ _ _))) (@pss_nil _))
      (@pss_one _ _ _ (@ps_ret _ _ _ _ (@pe_cmpR _ _ _ _ _ _ _ _ (kop_eqW (by exact hr.units)) (pv 2) (@pe_tupN _ _ _ _ _ (@pa_cons _ _ _ _ _ (@pe_ix _ _ _ _ _ _ _ (kix_list K) (pv 1) (@pe_int _ _ _ _) (fun _ _ => rfl)) (@pa_cons _ _ _ _ _ (@pe_ix _ _ _ _ _ _ _ (kix_list K) (pv 1) (@pe_int _ _ _ _) (fun _ _ => rfl)) (@pa_cons _ _ _ _ _ (@pe_call _ _ _ _ _ _ _ _ _ _ _ _ _ _ _ _ G__law_cells (hr.mono (by omega)) rfl T.m__law_cells T.F__law_cells.kp T.b__law_cells .nil pass0 (@pa_cons _ _ _ _ _ (pv 1) (@pa_nil _) (by rfl)) (by decide) (by rfl) (by rfl)) (@pa_nil _) (by rfl)) (by rfl)) (by rfl))) (nomark _)))))))))), ?_⟩
    have sl : (1000000 : Nat) ≤ sizeLine := le_line (Nat.le_refl _)
    walk_at "go"
    refine ⟨a0, ns, rfl, hS, fun pp ea eb us es txs k H1 s1 hP ok => ?_⟩
    walk_at "run"
    obtain ⟨py, ps, pt, ws, vs, f1, f2, h1, h2, h3, h4, _⟩ := hP.ex
    obtain ⟨tok, t60, t0, tov, tsd, t8⟩ := small_tab ok
    have hcl := ok.cells
    have ul : us.length = es.length := by rw [h3.len, List.length_map]
    have hel := ok.e1
    refine i_ixL (SqL.of h1) (atI_nat (j := 0) rfl) ?_
    walk_at "run"
    refine i_listL (SqL.of h2) ?_
    intro ta H2 g2 s2 e2
    walk_at "run"
    refine i_ixL (SqL.of (s2 _ _ h1)) (atI_nat (j := 1) rfl) ?_
    walk_at "run"
    refine i_listL (SqL.of (s2 _ _ h4)) ?_
    intro tb H3 g3 s3 e3
    walk_at "run"
    have s13 := s2.trans s3
    refine ⟨pp, ea, eb, us, es, txs, k, rfl, hP.same s13, ok, fun tc H4 g4 s4 e4 => ?_⟩
    walk_at "run"
    intro tt H5 g5 s5 e5
    walk_at "run"
    have s15 := s13.trans (s4.trans s5)
    have e25 := (s3.trans (s4.trans s5)) _ _ e2
    have e35 := (s4.trans s5) _ _ e3
    have e45 := s5 _ _ e4
    have h35 := h3.same s15
    refine ⟨pp, ea, eb, us, es, txs, k, rfl, hP.same s15, ok, fun v da db dc dg H6 s6 hT => ?_⟩
    walk_at "run"
    refine i_ixT (SqT.of (s6 _ _ e5)) (atI_nat (j := 0) rfl) ?_
    walk_at "run"
    refine i_ixT (SqT.of (s6 _ _ e5)) (atI_nat (j := 1) rfl) ?_
    walk_at "run"
    refine i_ixT (SqT.of (s6 _ _ e5)) (atI_nat (j := 2) rfl) ?_
    walk_at "run"
    refine ⟨ta, tb, tc, us, strsV txs, zs k.cells, rfl, s6 _ _ e25, by omega, s6 _ _ e35, by rw [← nats_ints]; exact s6 _ _ e45, by rw [zs_len]; omega, fun bb H7 hbb s7 => ?_⟩
    obtain rfl : bb = true := hbb.mpr (by rw [ul, show (strsV txs).length = txs.length by simp [strsV]]; exact vv_of ok.v)
    walk_at "run"
    refine i_isntT ?_
    walk_at "run"
    have s57 := s6.trans s7
    have unp : ∀ {Hx : Hp} {Qx : VK} {Ex : XK}, Same H5 Hx → (∀ t' a' b' c' us' rv gs H', UnpPost Hx H' t' a' b' c' us' rv gs es (txOf txs (k.sys.getD k.say [])) (rsOf k es.length txs) → Qx (.ref t') H') → sp_unp K [.ref tt] Hx Qx Ex := fun s h => ⟨tt, ta, tb, tc, us, es, txs, k, rfl, s _ _ e5, s _ _ e25, h35.same s, by omega, s _ _ e35, s _ _ e45, by omega, ok.v, h⟩
    refine unp s57 fun ut ua ub uc uu ur ug H8 hU => ?_
    walk_at "run"
    refine i_neW hU.tab.tw ((hT.same s7).same hU.same).tw (tabL_h _ _ _) ?_
    walk_at "run"
    have s58 := s57.trans hU.same
    refine unp s58 fun wt wa wb wc wu wr wg H9 hW => ?_
    walk_at "run"
    refine ⟨.ref wt, wa, wb, wc, es, _, _, wg, k.sys.map (txOf txs), txs, rfl, hW.tab, tok, ok.e0, t0, by have := ok.nsy; rw [List.length_map]; omega, by have := ok.t1; omega, tsd, fun at_ pa pb pc us2 txs2 k2 H10 pq => ?_⟩
    walk_at "run"
    obtain ⟨hV2, hcl2, hrs2, hsy2⟩ := pkv tok t60 tov t8 pq
    have ul2 : us2.length = es.length := by rw [pq.hu.len, List.length_map]
    refine i_ixT (SqT.of pq.e) (atI_nat (j := 0) rfl) ?_
    walk_at "run"
    refine i_ixT (SqT.of pq.e) (atI_nat (j := 1) rfl) ?_
    walk_at "run"
    refine i_ixT (SqT.of pq.e) (atI_nat (j := 2) rfl) ?_
    walk_at "run"
    refine ⟨pa, pb, pc, us2, strsV txs2, zs k2.cells, rfl, pq.ea, by omega, pq.eb, by rw [← nats_ints]; exact pq.ec, by rw [zs_len]; exact hcl2, fun bb2 H11 hbb2 s11 => ?_⟩
    obtain rfl : bb2 = true := hbb2.mpr (by rw [ul2, show (strsV txs2).length = txs2.length by simp [strsV]]; exact vv_of hV2)
    walk_at "run"
    refine i_isntT ?_
    walk_at "run"
    refine ⟨at_, pa, pb, pc, us2, es, txs2, k2, rfl, s11 _ _ pq.e, s11 _ _ pq.ea, pq.hu.same s11, by omega, s11 _ _ pq.eb, s11 _ _ pq.ec, hcl2, hV2, fun xt xa xb xc xu xr xg H12 hX => ?_⟩
    rw [hrs2, hsy2] at hX
    walk_at "run"
    have s812 := hW.same.trans (pq.same.trans (s11.trans hX.same))
    refine i_neW hX.tab.tw (((hT.same s7).same hU.same).same s812).tw (tabL_h _ _ _) ?_
    walk_at "run"
    have s512 := s58.trans s812
    have s112 := s15.trans s512
    refine i_ixL (SqL.of (s112 _ _ h1)) (atI_nat (j := 0) rfl) ?_
    walk_at "run"
    refine i_ixL (SqL.of (s112 _ _ h1)) (atI_nat (j := 1) rfl) ?_
    walk_at "run"
    refine ⟨pp, ea, eb, us, es, txs, k, rfl, hP.same s112, ok, fun zc H13 g13 s13' e13 => ?_⟩
    walk_at "run"
    intro zt H14 g14 s14 e14
    have s1214 := s13'.trans s14
    have s514 := s512.trans s1214
    have s114 := s112.trans s1214
    refine i_eqW (due_tw (s514 _ _ e5) (s514 _ _ e25) (h35.same s514) (s514 _ _ e35) (s514 _ _ e45)) (due_tw e14 (s114 _ _ h2) (h3.same s114) (s114 _ _ h4) (s14 _ _ e13)) (dueL_h _ _ _) ?_
    exact q H14
end
theorem all_mk {l : PySem.W.OpenLaw} {w : World} {K : PySem.W.Frag} {h : Heap} {mg : Str → Option Value} {fa : Addr} (X : K.In h) (G : h.Ns mainGlobals mg) (hfa : mg "law" = some (.ref fa))
    {f0 : Addr} {od0 an0 : Option Addr} {sl0 : Array (Option Value)} {oc0 kV0 dc0 pm0 cd0 ct0 : Value}
    {f1 : Addr} {od1 an1 : Option Addr} {sl1 : Array (Option Value)} {oc1 kV1 dc1 pm1 cd1 ct1 : Value}
    {f2 : Addr} {od2 an2 : Option Addr} {sl2 : Array (Option Value)} {oc2 kV2 dc2 pm2 cd2 ct2 : Value}
    {f3 : Addr} {od3 an3 : Option Addr} {sl3 : Array (Option Value)} {oc3 kV3 dc3 pm3 cd3 ct3 : Value}
    {f4 : Addr} {od4 an4 : Option Addr} {sl4 : Array (Option Value)} {oc4 kV4 dc4 pm4 cd4 ct4 : Value}
    {f5 : Addr} {od5 an5 : Option Addr} {sl5 : Array (Option Value)} {oc5 kV5 dc5 pm5 cd5 ct5 : Value}
    {f6 : Addr} {od6 an6 : Option Addr} {sl6 : Array (Option Value)} {oc6 kV6 dc6 pm6 cd6 ct6 : Value}
    {f7 : Addr} {od7 an7 : Option Addr} {sl7 : Array (Option Value)} {oc7 kV7 dc7 pm7 cd7 ct7 : Value}
    {f8 : Addr} {od8 an8 : Option Addr} {sl8 : Array (Option Value)} {oc8 kV8 dc8 pm8 cd8 ct8 : Value}
    {f9 : Addr} {od9 an9 : Option Addr} {sl9 : Array (Option Value)} {oc9 kV9 dc9 pm9 cd9 ct9 : Value}
    {f10 : Addr} {od10 an10 : Option Addr} {sl10 : Array (Option Value)} {oc10 kV10 dc10 pm10 cd10 ct10 : Value}
    {f11 : Addr} {od11 an11 : Option Addr} {sl11 : Array (Option Value)} {oc11 kV11 dc11 pm11 cd11 ct11 : Value}
    {f12 : Addr} {od12 an12 : Option Addr} {sl12 : Array (Option Value)} {oc12 kV12 dc12 pm12 cd12 ct12 : Value}
    {f13 : Addr} {od13 an13 : Option Addr} {sl13 : Array (Option Value)} {oc13 kV13 dc13 pm13 cd13 ct13 : Value}
    {f14 : Addr} {od14 an14 : Option Addr} {sl14 : Array (Option Value)} {oc14 kV14 dc14 pm14 cd14 ct14 : Value}
    {f15 : Addr} {od15 an15 : Option Addr} {sl15 : Array (Option Value)} {oc15 kV15 dc15 pm15 cd15 ct15 : Value}
    {f16 : Addr} {od16 an16 : Option Addr} {sl16 : Array (Option Value)} {oc16 kV16 dc16 pm16 cd16 ct16 : Value}
    {f17 : Addr} {od17 an17 : Option Addr} {sl17 : Array (Option Value)} {oc17 kV17 dc17 pm17 cd17 ct17 : Value}
    {f18 : Addr} {od18 an18 : Option Addr} {sl18 : Array (Option Value)} {oc18 kV18 dc18 pm18 cd18 ct18 : Value}
    {f19 : Addr} {od19 an19 : Option Addr} {sl19 : Array (Option Value)} {oc19 kV19 dc19 pm19 cd19 ct19 : Value}
    {f20 : Addr} {od20 an20 : Option Addr} {sl20 : Array (Option Value)} {oc20 kV20 dc20 pm20 cd20 ct20 : Value}
    {f21 : Addr} {od21 an21 : Option Addr} {sl21 : Array (Option Value)} {oc21 kV21 dc21 pm21 cd21 ct21 : Value}
    {f22 : Addr} {od22 an22 : Option Addr} {sl22 : Array (Option Value)} {oc22 kV22 dc22 pm22 cd22 ct22 : Value}
    {f23 : Addr} {od23 an23 : Option Addr} {sl23 : Array (Option Value)} {oc23 kV23 dc23 pm23 cd23 ct23 : Value}
    {f24 : Addr} {od24 an24 : Option Addr} {sl24 : Array (Option Value)} {oc24 kV24 dc24 pm24 cd24 ct24 : Value}
    {f25 : Addr} {od25 an25 : Option Addr} {sl25 : Array (Option Value)} {oc25 kV25 dc25 pm25 cd25 ct25 : Value}
    {f26 : Addr} {od26 an26 : Option Addr} {sl26 : Array (Option Value)} {oc26 kV26 dc26 pm26 cd26 ct26 : Value}
    {f27 : Addr} {od27 an27 : Option Addr} {sl27 : Array (Option Value)} {oc27 kV27 dc27 pm27 cd27 ct27 : Value}
    (a0 : PySem.W.nsIn K mainGlobals "counted" = some (some (.ref f0))) (l0 : K.lookup f0 = some ⟨oc0, od0, .func (PySem.W.fnOf "counted" "counted" (defArgs s_counted) (defBody s_counted) (defScope s_counted) .none kV0 dc0 pm0 an0 cd0 ct0), sl0⟩) (c0 : PySem.W.codeIn K cd0 "counted" = true) (k0 : PySem.W.keepIn K (.ref f0) = true)
    (a1 : PySem.W.nsIn K mainGlobals "pack" = some (some (.ref f1))) (l1 : K.lookup f1 = some ⟨oc1, od1, .func (PySem.W.fnOf "pack" "pack" (defArgs s_pack) (defBody s_pack) (defScope s_pack) .none kV1 dc1 pm1 an1 cd1 ct1), sl1⟩) (c1 : PySem.W.codeIn K cd1 "pack" = true) (k1 : PySem.W.keepIn K (.ref f1) = true)
    (a2 : PySem.W.nsIn K mainGlobals "sayings_of" = some (some (.ref f2))) (l2 : K.lookup f2 = some ⟨oc2, od2, .func (PySem.W.fnOf "sayings_of" "sayings_of" (defArgs s_sayings_of) (defBody s_sayings_of) (defScope s_sayings_of) .none kV2 dc2 pm2 an2 cd2 ct2), sl2⟩) (c2 : PySem.W.codeIn K cd2 "sayings_of" = true) (k2 : PySem.W.keepIn K (.ref f2) = true)
    (a3 : PySem.W.nsIn K mainGlobals "pairs_of" = some (some (.ref f3))) (l3 : K.lookup f3 = some ⟨oc3, od3, .func (PySem.W.fnOf "pairs_of" "pairs_of" (defArgs s_pairs_of) (defBody s_pairs_of) (defScope s_pairs_of) .none kV3 dc3 pm3 an3 cd3 ct3), sl3⟩) (c3 : PySem.W.codeIn K cd3 "pairs_of" = true) (k3 : PySem.W.keepIn K (.ref f3) = true)
    (a4 : PySem.W.nsIn K mainGlobals "texts_in" = some (some (.ref f4))) (l4 : K.lookup f4 = some ⟨oc4, od4, .func (PySem.W.fnOf "texts_in" "texts_in" (defArgs s_texts_in) (defBody s_texts_in) (defScope s_texts_in) .none kV4 dc4 pm4 an4 cd4 ct4), sl4⟩) (c4 : PySem.W.codeIn K cd4 "texts_in" = true) (k4 : PySem.W.keepIn K (.ref f4) = true)
    (a5 : PySem.W.nsIn K mainGlobals "block" = some (some (.ref f5))) (l5 : K.lookup f5 = some ⟨oc5, od5, .func (PySem.W.fnOf "block" "block" (defArgs s_block) (defBody s_block) (defScope s_block) .none kV5 dc5 pm5 an5 cd5 ct5), sl5⟩) (c5 : PySem.W.codeIn K cd5 "block" = true) (k5 : PySem.W.keepIn K (.ref f5) = true)
    (a6 : PySem.W.nsIn K mainGlobals "shape_cells" = some (some (.ref f6))) (l6 : K.lookup f6 = some ⟨oc6, od6, .func (PySem.W.fnOf "shape_cells" "shape_cells" (defArgs s_shape_cells) (defBody s_shape_cells) (defScope s_shape_cells) .none kV6 dc6 pm6 an6 cd6 ct6), sl6⟩) (c6 : PySem.W.codeIn K cd6 "shape_cells" = true) (k6 : PySem.W.keepIn K (.ref f6) = true)
    (a7 : PySem.W.nsIn K mainGlobals "common_pair" = some (some (.ref f7))) (l7 : K.lookup f7 = some ⟨oc7, od7, .func (PySem.W.fnOf "common_pair" "common_pair" (defArgs s_common_pair) (defBody s_common_pair) (defScope s_common_pair) .none kV7 dc7 pm7 an7 cd7 ct7), sl7⟩) (c7 : PySem.W.codeIn K cd7 "common_pair" = true) (k7 : PySem.W.keepIn K (.ref f7) = true)
    (a8 : PySem.W.nsIn K mainGlobals "unpacked" = some (some (.ref f8))) (l8 : K.lookup f8 = some ⟨oc8, od8, .func (PySem.W.fnOf "unpacked" "unpacked" (defArgs s_unpacked) (defBody s_unpacked) (defScope s_unpacked) .none kV8 dc8 pm8 an8 cd8 ct8), sl8⟩) (c8 : PySem.W.codeIn K cd8 "unpacked" = true) (k8 : PySem.W.keepIn K (.ref f8) = true)
    (a9 : PySem.W.nsIn K mainGlobals "block_places" = some (some (.ref f9))) (l9 : K.lookup f9 = some ⟨oc9, od9, .func (PySem.W.fnOf "block_places" "block_places" (defArgs s_block_places) (defBody s_block_places) (defScope s_block_places) .none kV9 dc9 pm9 an9 cd9 ct9), sl9⟩) (c9 : PySem.W.codeIn K cd9 "block_places" = true) (k9 : PySem.W.keepIn K (.ref f9) = true)
    (a10 : PySem.W.nsIn K mainGlobals "texts_at" = some (some (.ref f10))) (l10 : K.lookup f10 = some ⟨oc10, od10, .func (PySem.W.fnOf "texts_at" "texts_at" (defArgs s_texts_at) (defBody s_texts_at) (defScope s_texts_at) .none kV10 dc10 pm10 an10 cd10 ct10), sl10⟩) (c10 : PySem.W.codeIn K cd10 "texts_at" = true) (k10 : PySem.W.keepIn K (.ref f10) = true)
    (a11 : PySem.W.nsIn K mainGlobals "cells_in" = some (some (.ref f11))) (l11 : K.lookup f11 = some ⟨oc11, od11, .func (PySem.W.fnOf "cells_in" "cells_in" (defArgs s_cells_in) (defBody s_cells_in) (defScope s_cells_in) .none kV11 dc11 pm11 an11 cd11 ct11), sl11⟩) (c11 : PySem.W.codeIn K cd11 "cells_in" = true) (k11 : PySem.W.keepIn K (.ref f11) = true)
    (a12 : PySem.W.nsIn K mainGlobals "pairs_in" = some (some (.ref f12))) (l12 : K.lookup f12 = some ⟨oc12, od12, .func (PySem.W.fnOf "pairs_in" "pairs_in" (defArgs s_pairs_in) (defBody s_pairs_in) (defScope s_pairs_in) .none kV12 dc12 pm12 an12 cd12 ct12), sl12⟩) (c12 : PySem.W.codeIn K cd12 "pairs_in" = true) (k12 : PySem.W.keepIn K (.ref f12) = true)
    (a13 : PySem.W.nsIn K mainGlobals "others_in" = some (some (.ref f13))) (l13 : K.lookup f13 = some ⟨oc13, od13, .func (PySem.W.fnOf "others_in" "others_in" (defArgs s_others_in) (defBody s_others_in) (defScope s_others_in) .none kV13 dc13 pm13 an13 cd13 ct13), sl13⟩) (c13 : PySem.W.codeIn K cd13 "others_in" = true) (k13 : PySem.W.keepIn K (.ref f13) = true)
    (a14 : PySem.W.nsIn K mainGlobals "whole_pack" = some (some (.ref f14))) (l14 : K.lookup f14 = some ⟨oc14, od14, .func (PySem.W.fnOf "whole_pack" "whole_pack" (defArgs s_whole_pack) (defBody s_whole_pack) (defScope s_whole_pack) .none kV14 dc14 pm14 an14 cd14 ct14), sl14⟩) (c14 : PySem.W.codeIn K cd14 "whole_pack" = true) (k14 : PySem.W.keepIn K (.ref f14) = true)
    (a15 : PySem.W.nsIn K mainGlobals "whole_shape" = some (some (.ref f15))) (l15 : K.lookup f15 = some ⟨oc15, od15, .func (PySem.W.fnOf "whole_shape" "whole_shape" (defArgs s_whole_shape) (defBody s_whole_shape) (defScope s_whole_shape) .none kV15 dc15 pm15 an15 cd15 ct15), sl15⟩) (c15 : PySem.W.codeIn K cd15 "whole_shape" = true) (k15 : PySem.W.keepIn K (.ref f15) = true)
    (a16 : PySem.W.nsIn K mainGlobals "whole_rooms" = some (some (.ref f16))) (l16 : K.lookup f16 = some ⟨oc16, od16, .func (PySem.W.fnOf "whole_rooms" "whole_rooms" (defArgs s_whole_rooms) (defBody s_whole_rooms) (defScope s_whole_rooms) .none kV16 dc16 pm16 an16 cd16 ct16), sl16⟩) (c16 : PySem.W.codeIn K cd16 "whole_rooms" = true) (k16 : PySem.W.keepIn K (.ref f16) = true)
    (a17 : PySem.W.nsIn K mainGlobals "_law_take" = some (some (.ref f17))) (l17 : K.lookup f17 = some ⟨oc17, od17, .func (PySem.W.fnOf "_law_take" "_law_take" (defArgs s_law_take) (defBody s_law_take) (defScope s_law_take) .none kV17 dc17 pm17 an17 cd17 ct17), sl17⟩) (c17 : PySem.W.codeIn K cd17 "_law_take" = true) (k17 : PySem.W.keepIn K (.ref f17) = true)
    (a18 : PySem.W.nsIn K mainGlobals "_law_cell" = some (some (.ref f18))) (l18 : K.lookup f18 = some ⟨oc18, od18, .func (PySem.W.fnOf "_law_cell" "_law_cell" (defArgs s_law_cell) (defBody s_law_cell) (defScope s_law_cell) .none kV18 dc18 pm18 an18 cd18 ct18), sl18⟩) (c18 : PySem.W.codeIn K cd18 "_law_cell" = true) (k18 : PySem.W.keepIn K (.ref f18) = true)
    (a19 : PySem.W.nsIn K mainGlobals "_law_events" = some (some (.ref f19))) (l19 : K.lookup f19 = some ⟨oc19, od19, .func (PySem.W.fnOf "_law_events" "_law_events" (defArgs s_law_events) (defBody s_law_events) (defScope s_law_events) .none kV19 dc19 pm19 an19 cd19 ct19), sl19⟩) (c19 : PySem.W.codeIn K cd19 "_law_events" = true) (k19 : PySem.W.keepIn K (.ref f19) = true)
    (a20 : PySem.W.nsIn K mainGlobals "_law_shape" = some (some (.ref f20))) (l20 : K.lookup f20 = some ⟨oc20, od20, .func (PySem.W.fnOf "_law_shape" "_law_shape" (defArgs s_law_shape) (defBody s_law_shape) (defScope s_law_shape) .none kV20 dc20 pm20 an20 cd20 ct20), sl20⟩) (c20 : PySem.W.codeIn K cd20 "_law_shape" = true) (k20 : PySem.W.keepIn K (.ref f20) = true)
    (a21 : PySem.W.nsIn K mainGlobals "_law_still_shape" = some (some (.ref f21))) (l21 : K.lookup f21 = some ⟨oc21, od21, .func (PySem.W.fnOf "_law_still_shape" "_law_still_shape" (defArgs s_law_still_shape) (defBody s_law_still_shape) (defScope s_law_still_shape) .none kV21 dc21 pm21 an21 cd21 ct21), sl21⟩) (c21 : PySem.W.codeIn K cd21 "_law_still_shape" = true) (k21 : PySem.W.keepIn K (.ref f21) = true)
    (a22 : PySem.W.nsIn K mainGlobals "_law_parts" = some (some (.ref f22))) (l22 : K.lookup f22 = some ⟨oc22, od22, .func (PySem.W.fnOf "_law_parts" "_law_parts" (defArgs s_law_parts) (defBody s_law_parts) (defScope s_law_parts) .none kV22 dc22 pm22 an22 cd22 ct22), sl22⟩) (c22 : PySem.W.codeIn K cd22 "_law_parts" = true) (k22 : PySem.W.keepIn K (.ref f22) = true)
    (a23 : PySem.W.nsIn K mainGlobals "_law_cells" = some (some (.ref f23))) (l23 : K.lookup f23 = some ⟨oc23, od23, .func (PySem.W.fnOf "_law_cells" "_law_cells" (defArgs s_law_cells) (defBody s_law_cells) (defScope s_law_cells) .none kV23 dc23 pm23 an23 cd23 ct23), sl23⟩) (c23 : PySem.W.codeIn K cd23 "_law_cells" = true) (k23 : PySem.W.keepIn K (.ref f23) = true)
    (a24 : PySem.W.nsIn K mainGlobals "_law_texts" = some (some (.ref f24))) (l24 : K.lookup f24 = some ⟨oc24, od24, .func (PySem.W.fnOf "_law_texts" "_law_texts" (defArgs s_law_texts) (defBody s_law_texts) (defScope s_law_texts) .none kV24 dc24 pm24 an24 cd24 ct24), sl24⟩) (c24 : PySem.W.codeIn K cd24 "_law_texts" = true) (k24 : PySem.W.keepIn K (.ref f24) = true)
    (a25 : PySem.W.nsIn K mainGlobals "_law_row" = some (some (.ref f25))) (l25 : K.lookup f25 = some ⟨oc25, od25, .func (PySem.W.fnOf "_law_row" "_law_row" (defArgs s_law_row) (defBody s_law_row) (defScope s_law_row) .none kV25 dc25 pm25 an25 cd25 ct25), sl25⟩) (c25 : PySem.W.codeIn K cd25 "_law_row" = true) (k25 : PySem.W.keepIn K (.ref f25) = true)
    (a26 : PySem.W.nsIn K mainGlobals "_law_table" = some (some (.ref f26))) (l26 : K.lookup f26 = some ⟨oc26, od26, .func (PySem.W.fnOf "_law_table" "_law_table" (defArgs s_law_table) (defBody s_law_table) (defScope s_law_table) .none kV26 dc26 pm26 an26 cd26 ct26), sl26⟩) (c26 : PySem.W.codeIn K cd26 "_law_table" = true) (k26 : PySem.W.keepIn K (.ref f26) = true)
    (a27 : PySem.W.nsIn K mainGlobals "law" = some (some (.ref f27))) (l27 : K.lookup f27 = some ⟨oc27, od27, .func (PySem.W.fnOf "law" "law" (defArgs s_law) (defBody s_law) (defScope s_law) .none kV27 dc27 pm27 an27 cd27 ct27), sl27⟩) (c27 : PySem.W.codeIn K cd27 "law" = true) (k27 : PySem.W.keepIn K (.ref f27) = true)
    (z_all : PySem.W.nsIn K mainGlobals "all" = some none)
    (z_enumerate : PySem.W.nsIn K mainGlobals "enumerate" = some none)
    (z_len : PySem.W.nsIn K mainGlobals "len" = some none)
    (z_list : PySem.W.nsIn K mainGlobals "list" = some none)
    (z_max : PySem.W.nsIn K mainGlobals "max" = some none)
    (z_min : PySem.W.nsIn K mainGlobals "min" = some none)
    (z_range : PySem.W.nsIn K mainGlobals "range" = some none)
    (z_set : PySem.W.nsIn K mainGlobals "set" = some none)
    (z_sorted : PySem.W.nsIn K mainGlobals "sorted" = some none)
    (z_sum : PySem.W.nsIn K mainGlobals "sum" = some none)
    (z_tuple : PySem.W.nsIn K mainGlobals "tuple" = some none)
    (z_zip : PySem.W.nsIn K mainGlobals "zip" = some none)
    {u_MOST_STANDINGS : Value} (m_MOST_STANDINGS : PySem.W.nsIn K mainGlobals "MOST_STANDINGS" = some (some u_MOST_STANDINGS))
    (r_MOST_STANDINGS : RelV (.int 2000) u_MOST_STANDINGS)
    {u_HEAD : Value} (m_HEAD : PySem.W.nsIn K mainGlobals "HEAD" = some (some u_HEAD))
    (r_HEAD : RelV (.int 4) u_HEAD)
    : ∃ fd : FuncData, (∀ (s : Shared) (v : Value), BindsTo s fd ⟨[v], []⟩ [("script", v)]) ∧ ∀ base : Heap, K.In base → base.Ns mainGlobals mg → FnOk l.prog w K mg base CX0 5 fa fd ["script"] (sp_law K) := by
  have e := hfa.symm.trans (PySem.W.mg_of X G a27)
  cases e
  have F0 := fun_mk (st := s_counted) l0 c0 k0
  have b0 := F0.binds (ps := ["things"]) fun _ _ _ _ _ _ us hl => match us, hl with | [_], _ => rfl
  have F1 := fun_mk (st := s_pack) l1 c1 k1
  have b1 := F1.binds (ps := ["table"]) fun _ _ _ _ _ _ us hl => match us, hl with | [_], _ => rfl
  have F2 := fun_mk (st := s_sayings_of) l2 c2 k2
  have b2 := F2.binds (ps := ["table"]) fun _ _ _ _ _ _ us hl => match us, hl with | [_], _ => rfl
  have F3 := fun_mk (st := s_pairs_of) l3 c3 k3
  have b3 := F3.binds (ps := ["room", "sayings"]) fun _ _ _ _ _ _ us hl => match us, hl with | [_, _], _ => rfl
  have F4 := fun_mk (st := s_texts_in) l4 c4 k4
  have b4 := F4.binds (ps := ["sayings"]) fun _ _ _ _ _ _ us hl => match us, hl with | [_], _ => rfl
  have F5 := fun_mk (st := s_block) l5 c5 k5
  have b5 := F5.binds (ps := ["cells"]) fun _ _ _ _ _ _ us hl => match us, hl with | [_], _ => rfl
  have F6 := fun_mk (st := s_shape_cells) l6 c6 k6
  have b6 := F6.binds (ps := ["shape"]) fun _ _ _ _ _ _ us hl => match us, hl with | [_], _ => rfl
  have F7 := fun_mk (st := s_common_pair) l7 c7 k7
  have b7 := F7.binds (ps := ["shape"]) fun _ _ _ _ _ _ us hl => match us, hl with | [_], _ => rfl
  have F8 := fun_mk (st := s_unpacked) l8 c8 k8
  have b8 := F8.binds (ps := ["pack"]) fun _ _ _ _ _ _ us hl => match us, hl with | [_], _ => rfl
  have F9 := fun_mk (st := s_block_places) l9 c9 k9
  have b9 := F9.binds (ps := ["cells", "place", "count"]) fun _ _ _ _ _ _ us hl => match us, hl with | [_, _, _], _ => rfl
  have F10 := fun_mk (st := s_texts_at) l10 c10 k10
  have b10 := F10.binds (ps := ["texts", "cells", "place"]) fun _ _ _ _ _ _ us hl => match us, hl with | [_, _, _], _ => rfl
  have F11 := fun_mk (st := s_cells_in) l11 c11 k11
  have b11 := F11.binds (ps := ["cells", "place"]) fun _ _ _ _ _ _ us hl => match us, hl with | [_, _], _ => rfl
  have F12 := fun_mk (st := s_pairs_in) l12 c12 k12
  have b12 := F12.binds (ps := ["cells", "place", "count"]) fun _ _ _ _ _ _ us hl => match us, hl with | [_, _, _], _ => rfl
  have F13 := fun_mk (st := s_others_in) l13 c13 k13
  have b13 := F13.binds (ps := ["shape"]) fun _ _ _ _ _ _ us hl => match us, hl with | [_], _ => rfl
  have F14 := fun_mk (st := s_whole_pack) l14 c14 k14
  have b14 := F14.binds (ps := ["events", "texts", "cells"]) fun _ _ _ _ _ _ us hl => match us, hl with | [_, _, _], _ => rfl
  have F15 := fun_mk (st := s_whole_shape) l15 c15 k15
  have b15 := F15.binds (ps := ["shape", "cells", "count"]) fun _ _ _ _ _ _ us hl => match us, hl with | [_, _, _], _ => rfl
  have F16 := fun_mk (st := s_whole_rooms) l16 c16 k16
  have b16 := F16.binds (ps := ["cells", "shapes", "sayings", "count"]) fun _ _ _ _ _ _ us hl => match us, hl with | [_, _, _, _], _ => rfl
  have F17 := fun_mk (st := s_law_take) l17 c17 k17
  have b17 := F17.binds (ps := ["state", "many"]) fun _ _ _ _ _ _ us hl => match us, hl with | [_, _], _ => rfl
  have F18 := fun_mk (st := s_law_cell) l18 c18 k18
  have b18 := F18.binds (ps := ["script", "k", "mixed"]) fun _ _ _ _ _ _ us hl => match us, hl with | [_, _, _], _ => rfl
  have F19 := fun_mk (st := s_law_events) l19 c19 k19
  have b19 := F19.binds (ps := ["state"]) fun _ _ _ _ _ _ us hl => match us, hl with | [_], _ => rfl
  have F20 := fun_mk (st := s_law_shape) l20 c20 k20
  have b20 := F20.binds (ps := ["state", "many", "events", "says", "rooms"]) fun _ _ _ _ _ _ us hl => match us, hl with | [_, _, _, _, _], _ => rfl
  have F21 := fun_mk (st := s_law_still_shape) l21 c21 k21
  have b21 := F21.binds (ps := ["state", "events", "empty", "room"]) fun _ _ _ _ _ _ us hl => match us, hl with | [_, _, _, _], _ => rfl
  have F22 := fun_mk (st := s_law_parts) l22 c22 k22
  have b22 := F22.binds (ps := ["script"]) fun _ _ _ _ _ _ us hl => match us, hl with | [_], _ => rfl
  have F23 := fun_mk (st := s_law_cells) l23 c23 k23
  have b23 := F23.binds (ps := ["parts"]) fun _ _ _ _ _ _ us hl => match us, hl with | [_], _ => rfl
  have F24 := fun_mk (st := s_law_texts) l24 c24 k24
  have b24 := F24.binds (ps := ["parts", "saying"]) fun _ _ _ _ _ _ us hl => match us, hl with | [_, _], _ => rfl
  have F25 := fun_mk (st := s_law_row) l25 c25 k25
  have b25 := F25.binds (ps := ["parts", "shape", "place"]) fun _ _ _ _ _ _ us hl => match us, hl with | [_, _, _], _ => rfl
  have F26 := fun_mk (st := s_law_table) l26 c26 k26
  have b26 := F26.binds (ps := ["parts"]) fun _ _ _ _ _ _ us hl => match us, hl with | [_], _ => rfl
  have F27 := fun_mk (st := s_law) l27 c27 k27
  have b27 := F27.binds (ps := ["script"]) fun _ _ _ _ _ _ us hl => match us, hl with | [_], _ => rfl
  have TT : Txt K mg ⟨_, _, _, _, _, _, _, _, _, _, _, _, _, _, _, _, _, _, _, _, _, _, _, _, _, _, _, _, _, _, _, _, _, _, _, _, _, _, _, _, _, _, _, _, _, _, _, _, _, _, _, _, _, _, _, _, u_MOST_STANDINGS, u_HEAD⟩ := ⟨F0, PySem.W.mg_of X G a0, b0, F1, PySem.W.mg_of X G a1, b1, F2, PySem.W.mg_of X G a2, b2, F3, PySem.W.mg_of X G a3, b3, F4, PySem.W.mg_of X G a4, b4, F5, PySem.W.mg_of X G a5, b5, F6, PySem.W.mg_of X G a6, b6, F7, PySem.W.mg_of X G a7, b7, F8, PySem.W.mg_of X G a8, b8, F9, PySem.W.mg_of X G a9, b9, F10, PySem.W.mg_of X G a10, b10, F11, PySem.W.mg_of X G a11, b11, F12, PySem.W.mg_of X G a12, b12, F13, PySem.W.mg_of X G a13, b13, F14, PySem.W.mg_of X G a14, b14, F15, PySem.W.mg_of X G a15, b15, F16, PySem.W.mg_of X G a16, b16, F17, PySem.W.mg_of X G a17, b17, F18, PySem.W.mg_of X G a18, b18, F19, PySem.W.mg_of X G a19, b19, F20, PySem.W.mg_of X G a20, b20, F21, PySem.W.mg_of X G a21, b21, F22, PySem.W.mg_of X G a22, b22, F23, PySem.W.mg_of X G a23, b23, F24, PySem.W.mg_of X G a24, b24, F25, PySem.W.mg_of X G a25, b25, F26, PySem.W.mg_of X G a26, b26, F27, PySem.W.mg_of X G a27, b27, PySem.W.mg_none_of X G z_all, PySem.W.mg_none_of X G z_enumerate, PySem.W.mg_none_of X G z_len, PySem.W.mg_none_of X G z_list, PySem.W.mg_none_of X G z_max, PySem.W.mg_none_of X G z_min, PySem.W.mg_none_of X G z_range, PySem.W.mg_none_of X G z_set, PySem.W.mg_none_of X G z_sorted, PySem.W.mg_none_of X G z_sum, PySem.W.mg_none_of X G z_tuple, PySem.W.mg_none_of X G z_zip, PySem.W.mg_of X G m_MOST_STANDINGS, r_MOST_STANDINGS, PySem.W.mg_of X G m_HEAD, r_HEAD⟩
  exact ⟨_, fun s v => .of_eq rfl, fun base _ _ => ok_law TT⟩
theorem walk {l : PySem.W.OpenLaw} {q : Program} {loose : List Str} {XP : (Str → Option Value) → Heap → Prop} {YP : World → Heap → Prop} {d : DefRec} {K : Params → PySem.W.Frag} (hn : l.most = some 63) (hdf : d.params.defaults = [])
    (hY : ∀ (w : World) (h : Heap), YP w h → (K w.params).In h)
    (F : ∀ (w : World) (mg : Str → Option Value) (fa : Addr) (h : Heap), (K w.params).In h → h.Ns mainGlobals mg → mg d.name = some (.ref fa) →
      ∃ fd : FuncData, (∀ (s : Shared) (u : Value), BindsTo s fd ⟨[u], []⟩ [("script", u)]) ∧ ∀ base : Heap, (K w.params).In base → base.Ns mainGlobals mg → FnOk l.prog w (K w.params) mg base CX0 5 fa fd ["script"] (sp_law (K w.params))) :
    PySem.W.WalkO q loose XP YP l.row.toRowW d [] (fun f vs => PySem.call f vs) :=
  L2.walk_of (n := 63) (k := 5) (x := "script") (CX := fun _ => CX0) (sp := fun w => sp_law (K w.params)) hn (by decide) hdf ⟨rfl, by decide, by decide⟩ hY F (fun _ _ a ns hl _ hS => ⟨a, ns, rfl, hS, hl, fun _ => rfl⟩) fun _ _ _ _ _ z => z
end K70
open PySem PySem.W PyProof.Rows
set_option maxRecDepth 100000 in
set_option maxHeartbeats 0 in
theorem PySem.Challenge.cw_callmill_k70_whole_packs_of_other_cells_holds : PySem.Challenge.rw_callmill_k70_whole_packs_of_other_cells.Holds := by
  w_on; o_law; k_head; (case hw => w_witness2)
  k_fill
  refine K70.walk (l := PySem.Challenge.rw_callmill_k70_whole_packs_of_other_cells) rfl rfl (fun w h Y => PySem.W.kIn_of Y) ?F
  case F =>
    intro w mg fa h KX G hmg
    refine' K70.all_mk KX G hmg ?a0 ?l0 ?c0 ?k0 ?a1 ?l1 ?c1 ?k1 ?a2 ?l2 ?c2 ?k2 ?a3 ?l3 ?c3 ?k3 ?a4 ?l4 ?c4 ?k4 ?a5 ?l5 ?c5 ?k5 ?a6 ?l6 ?c6 ?k6 ?a7 ?l7 ?c7 ?k7 ?a8 ?l8 ?c8 ?k8 ?a9 ?l9 ?c9 ?k9 ?a10 ?l10 ?c10 ?k10 ?a11 ?l11 ?c11 ?k11 ?a12 ?l12 ?c12 ?k12 ?a13 ?l13 ?c13 ?k13 ?a14 ?l14 ?c14 ?k14 ?a15 ?l15 ?c15 ?k15 ?a16 ?l16 ?c16 ?k16 ?a17 ?l17 ?c17 ?k17 ?a18 ?l18 ?c18 ?k18 ?a19 ?l19 ?c19 ?k19 ?a20 ?l20 ?c20 ?k20 ?a21 ?l21 ?c21 ?k21 ?a22 ?l22 ?c22 ?k22 ?a23 ?l23 ?c23 ?k23 ?a24 ?l24 ?c24 ?k24 ?a25 ?l25 ?c25 ?k25 ?a26 ?l26 ?c26 ?k26 ?a27 ?l27 ?c27 ?k27 ?z_all ?z_enumerate ?z_len ?z_list ?z_max ?z_min ?z_range ?z_set ?z_sorted ?z_sum ?z_tuple ?z_zip ?m_MOST_STANDINGS ?r_MOST_STANDINGS ?m_HEAD ?r_HEAD
    (case a0 => k_is)
    (case l0 => k_is)
    (case c0 => k_is)
    (case k0 => k_is)
    (case a1 => k_is)
    (case l1 => k_is)
    (case c1 => k_is)
    (case k1 => k_is)
    (case a2 => k_is)
    (case l2 => k_is)
    (case c2 => k_is)
    (case k2 => k_is)
    (case a3 => k_is)
    (case l3 => k_is)
    (case c3 => k_is)
    (case k3 => k_is)
    (case a4 => k_is)
    (case l4 => k_is)
    (case c4 => k_is)
    (case k4 => k_is)
    (case a5 => k_is)
    (case l5 => k_is)
    (case c5 => k_is)
    (case k5 => k_is)
    (case a6 => k_is)
    (case l6 => k_is)
    (case c6 => k_is)
    (case k6 => k_is)
    (case a7 => k_is)
    (case l7 => k_is)
    (case c7 => k_is)
    (case k7 => k_is)
    (case a8 => k_is)
    (case l8 => k_is)
    (case c8 => k_is)
    (case k8 => k_is)
    (case a9 => k_is)
    (case l9 => k_is)
    (case c9 => k_is)
    (case k9 => k_is)
    (case a10 => k_is)
    (case l10 => k_is)
    (case c10 => k_is)
    (case k10 => k_is)
    (case a11 => k_is)
    (case l11 => k_is)
    (case c11 => k_is)
    (case k11 => k_is)
    (case a12 => k_is)
    (case l12 => k_is)
    (case c12 => k_is)
    (case k12 => k_is)
    (case a13 => k_is)
    (case l13 => k_is)
    (case c13 => k_is)
    (case k13 => k_is)
    (case a14 => k_is)
    (case l14 => k_is)
    (case c14 => k_is)
    (case k14 => k_is)
    (case a15 => k_is)
    (case l15 => k_is)
    (case c15 => k_is)
    (case k15 => k_is)
    (case a16 => k_is)
    (case l16 => k_is)
    (case c16 => k_is)
    (case k16 => k_is)
    (case a17 => k_is)
    (case l17 => k_is)
    (case c17 => k_is)
    (case k17 => k_is)
    (case a18 => k_is)
    (case l18 => k_is)
    (case c18 => k_is)
    (case k18 => k_is)
    (case a19 => k_is)
    (case l19 => k_is)
    (case c19 => k_is)
    (case k19 => k_is)
    (case a20 => k_is)
    (case l20 => k_is)
    (case c20 => k_is)
    (case k20 => k_is)
    (case a21 => k_is)
    (case l21 => k_is)
    (case c21 => k_is)
    (case k21 => k_is)
    (case a22 => k_is)
    (case l22 => k_is)
    (case c22 => k_is)
    (case k22 => k_is)
    (case a23 => k_is)
    (case l23 => k_is)
    (case c23 => k_is)
    (case k23 => k_is)
    (case a24 => k_is)
    (case l24 => k_is)
    (case c24 => k_is)
    (case k24 => k_is)
    (case a25 => k_is)
    (case l25 => k_is)
    (case c25 => k_is)
    (case k25 => k_is)
    (case a26 => k_is)
    (case l26 => k_is)
    (case c26 => k_is)
    (case k26 => k_is)
    (case a27 => k_is)
    (case l27 => k_is)
    (case c27 => k_is)
    (case k27 => k_is)
    (case z_all => k_is)
    (case z_enumerate => k_is)
    (case z_len => k_is)
    (case z_list => k_is)
    (case z_max => k_is)
    (case z_min => k_is)
    (case z_range => k_is)
    (case z_set => k_is)
    (case z_sorted => k_is)
    (case z_sum => k_is)
    (case z_tuple => k_is)
    (case z_zip => k_is)
    (case m_MOST_STANDINGS => k_is)
    (case r_MOST_STANDINGS => exact ⟨_, rfl⟩)
    (case m_HEAD => k_is)
    (case r_HEAD => exact ⟨_, rfl⟩)
