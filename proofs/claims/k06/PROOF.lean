import PyProof.Rows.All
import Wide.All
import OpenK.AllK
import Wide.FinOn
import Lean
import PyProof.EqAt
import PyProof.EqKinds
import PyProof.TupleCall
import PyProof.NeKinds
import PySem.Challenge.RW_callmill_k06_written_rows
set_option Elab.async false
set_option linter.all false
set_option maxRecDepth 100000
set_option maxHeartbeats 4000000
namespace L2
open PySem PySem.Spec PyProof.Rows
abbrev Key := Sum Int Str
def keyIs : Key → Value → Bool
  | .inl k, v => Value.isInt k v
  | .inr x, v => Value.isStrOf x v
def keyH (w : World) : Key → Int
  | .inl k => hashInt k
  | .inr x => hashStr w x
theorem keyIs_shape : ∀ {k : Key} {v : Value}, keyIs k v = true → (∃ i t, k = Sum.inl i ∧ v = Value.int i t) ∨ (∃ x t, k = Sum.inr x ∧ v = Value.str x t)
  | .inl i, v, h => by
    obtain ⟨t, e⟩ := Value.isInt_shape (k := i) (v := v) h
    exact .inl ⟨i, t, rfl, e⟩
  | .inr x, v, h => by
    obtain ⟨t, e⟩ := Value.isStrOf_shape (x := x) (v := v) h
    exact .inr ⟨x, t, rfl, e⟩
theorem keyIs_int (i : Int) (t : Tok) : keyIs (.inl i) (.int i t) = true := by simp [keyIs, Value.isInt]
theorem keyIs_str (x : Str) (t : Tok) : keyIs (.inr x) (.str x t) = true := by simp [keyIs, Value.isStrOf]
theorem key_ll (a b : Int) : decide ((Sum.inl a : Key) = Sum.inl b) = (a == b) := by
  by_cases e : a = b
  · subst e; simp
  · have h : ¬ (Sum.inl a : Key) = Sum.inl b := fun q => e (Sum.inl.inj q)
    rw [decide_eq_false h]
    exact (beq_eq_false_iff_ne.mpr e).symm
theorem key_rr (a b : Str) : decide ((Sum.inr a : Key) = Sum.inr b) = decide (a = b) := by
  by_cases e : a = b
  · subst e; simp
  · have h : ¬ (Sum.inr a : Key) = Sum.inr b := fun q => e (Sum.inr.inj q)
    rw [decide_eq_false h, decide_eq_false e]
theorem key_lr (a : Int) (b : Str) : decide ((Sum.inl a : Key) = Sum.inr b) = false := decide_eq_false (fun q => nomatch q)
theorem key_rl (a : Str) (b : Int) : decide ((Sum.inr a : Key) = Sum.inl b) = false := decide_eq_false (fun q => nomatch q)
def mixKind (prog : Program) (w : World) : PySem.KeyKind prog w Key where
  is := keyIs
  hash := keyH w
  inj := fun v a b ha hb => by
    rcases keyIs_shape ha with ⟨i, t, rfl, rfl⟩ | ⟨x, t, rfl, rfl⟩
    · rcases keyIs_shape hb with ⟨j, u, rfl, e⟩ | ⟨y, u, rfl, e⟩
      · injection e with e1 _; rw [e1]
      · exact nomatch e
    · rcases keyIs_shape hb with ⟨j, u, rfl, e⟩ | ⟨y, u, rfl, e⟩
      · exact nomatch e
      · injection e with e1 _; rw [e1]
  byValue := fun k v h => by
    rcases keyIs_shape h with ⟨i, t, rfl, rfl⟩ | ⟨x, t, rfl, rfl⟩ <;> rfl
  pyHash := fun hv h => by
    rcases keyIs_shape hv with ⟨i, t, rfl, rfl⟩ | ⟨x, t, rfl, rfl⟩
    · exact wpAny_pyHash_int h
    · exact wpAny_pyHash_str h
  eqBool := fun hu hv h => by
    rcases keyIs_shape hu with ⟨i, t, rfl, rfl⟩ | ⟨x, t, rfl, rfl⟩
    · rcases keyIs_shape hv with ⟨j, u, rfl, rfl⟩ | ⟨y, u, rfl, rfl⟩
      · rw [key_ll] at h; exact wpAny_eqBool_int h
      · rw [key_lr] at h; exact SeqAt.EqAt.int_str i t y u _ _ _ _ h
    · rcases keyIs_shape hv with ⟨j, u, rfl, rfl⟩ | ⟨y, u, rfl, rfl⟩
      · rw [key_rl] at h; exact SeqAt.EqAt.str_int x t j u _ _ _ _ h
      · rw [key_rr] at h; exact wpAny_eqBool_str h
  «strs» := fun k x t v h => by
    rcases keyIs_shape h with ⟨i, u, rfl, e⟩ | ⟨y, u, rfl, e⟩
    · exact nomatch e
    · injection e with e1 _
      subst e1
      cases v <;> rfl
theorem mixKind_int (prog : Program) (w : World) (i : Int) (t : Tok) : (mixKind prog w).is (.inl i) (.int i t) = true := keyIs_int i t
theorem mixKind_str (prog : Program) (w : World) (x : Str) (t : Tok) : (mixKind prog w).is (.inr x) (.str x t) = true := keyIs_str x t
end L2
namespace L2
open PySem PySem.Spec PyProof.Rows
inductive V where
  | non | bl (b : Bool) | int (i : Int) | str (x : Str) | byt (b : Array UInt8) | flt (b : UInt64) | ref (a : Addr) | ty (n : String)
  deriving DecidableEq
def RelV : V → Value → Prop
  | .non, u => u = Value.none
  | .bl b, u => u = Value.bool b
  | .int i, u => ∃ t, u = Value.int i t
  | .str x, u => ∃ t, u = Value.str x t
  | .byt b, u => ∃ t, u = Value.bytes b t
  | .flt b, u => ∃ t, u = Value.float b t
  | .ref a, u => u = Value.ref a
  | .ty n, u => u = Value.type n
abbrev Vals : List V → List Value → Prop := Paired RelV
theorem Vals.length {xs : List V} {us : List Value} (r : Vals xs us) : xs.length = us.length := Paired.length r
theorem Vals.get : ∀ {xs : List V} {us : List Value} {i : Nat} {x : V}, Vals xs us → xs[i]? = some x → ∃ u, us[i]? = some u ∧ RelV x u
  | _, _, _, _, .nil, e => by simp at e
  | _, _, 0, _, .cons r _, e => by simp at e; subst e; exact ⟨_, rfl, r⟩
  | _, _, i + 1, x, .cons _ t, e => by
    obtain ⟨u, h1, h2⟩ := Vals.get (i := i) (x := x) t (by simpa using e)
    exact ⟨u, by simpa using h1, h2⟩
theorem Vals.set {x : V} {u : Value} (r : RelV x u) : ∀ {xs : List V} {us : List Value} (i : Nat), Vals xs us → Vals (xs.set i x) (us.set i u)
  | _, _, _, .nil => .nil
  | _, _, 0, .cons _ t => .cons r t
  | _, _, i + 1, .cons q t => .cons q (Vals.set r i t)
theorem Vals.append : ∀ {xs ys : List V} {us ws : List Value}, Vals xs us → Vals ys ws → Vals (xs ++ ys) (us ++ ws)
  | _, _, _, _, .nil, s => s
  | _, _, _, _, .cons r t, s => .cons r (Vals.append t s)
theorem Vals.take : ∀ {xs : List V} {us : List Value} (n : Nat), Vals xs us → Vals (xs.take n) (us.take n)
  | _, _, 0, _ => .nil
  | _, _, _ + 1, .nil => .nil
  | _, _, n + 1, .cons r t => .cons r (Vals.take n t)
theorem Vals.drop : ∀ {xs : List V} {us : List Value} (n : Nat), Vals xs us → Vals (xs.drop n) (us.drop n)
  | _, _, 0, r => r
  | _, _, _ + 1, .nil => .nil
  | _, _, n + 1, .cons _ t => Vals.drop n t
def RelO : Option V → Option Value → Prop
  | some v, some u => RelV v u
  | none, none => True
  | _, _ => False
def KV {κ : Type} : List (κ × V) → List (κ × Value) → Prop := Paired fun (p : κ × V) (q : κ × Value) => p.1 = q.1 ∧ RelV p.2 q.2
def kV : Key → V
  | .inl i => .int i
  | .inr x => .str x
inductive HO where
  | lst (xs : List V)
  | tup (xs : List V)
  | dK (kvs : List (Key × V)) | dT (kvs : List (List Key × V))
  | set (S : Int → Bool) (n : Nat)
  | ins (C dx : Addr) (fs : List (Str × V))
  | own (x : Addr)
  | xd (fs : List (Str × V))
  | met (f x : Addr)
  | rng (lo hi : Int)
  | frz (o : Obj) (u : HO)
  | tbl (ps : Array Value)
  | ext (φ : Heap → Prop)
abbrev Hp := Addr → Option HO
def upd (H : Hp) (a : Addr) (o : HO) : Hp := fun b => if b = a then some o else H b
theorem upd_same {H : Hp} {a : Addr} {o : HO} : upd H a o a = some o := by unfold upd; rw [if_pos rfl]
theorem upd_ne {H : Hp} {a b : Addr} {o : HO} (h : b ≠ a) : upd H a o b = H b := by unfold upd; rw [if_neg h]
theorem ne_of {H : Hp} {a b : Addr} {o u : HO} (h : H a = some o) (h' : H b = some u) (d : o ≠ u) : a ≠ b := by
  intro e; subst e; rw [h] at h'; exact d (Option.some.inj h')
theorem ne_of_none {H : Hp} {a b : Addr} {o : HO} (h : H a = some o) (h' : H b = none) : a ≠ b := by
  intro e; subst e; rw [h] at h'; cases h'
section
variable (P : Program) (w : World)
def ObjOk (H : Hp) (h : Heap) (a : Addr) : HO → Prop
  | .lst xs => xs.length ≤ sizeLine ∧ ∃ (its : List Value) (n : Nat), Vals xs its ∧ h.get? a = some { cls := .type "list", data := .seq its.toArray n }
  | .tup xs => xs.length ≤ sizeLine ∧ ∃ its : List Value, Vals xs its ∧ IsTup h a its.toArray
  | .dK kvs => kvs.length ≤ sizeLine ∧ (a == sysModules) = false ∧ ∃ vs, KV kvs vs ∧ h.DictOf (mixKind P w) a vs
  | .dT kvs => kvs.length ≤ sizeLine ∧ (a == sysModules) = false ∧ ∃ xs : List (List Key × Addr × Value),
      Paired (fun (p : List Key × V) (q : List Key × Addr × Value) => p.1 = q.1 ∧ H q.2.1 = some (.tup (p.1.map kV)) ∧ RelV p.2 q.2.2) kvs xs ∧
      ∃ o es ep, h.get? a = some o ∧ o.ExactDict ∧ o.data = .dict es ep ∧ es.toList = xs.map (entryOfKey (tupleKind (mixKind P w))) ∧ (xs.map (·.1)).Nodup
  | .set S n => h.SetOf (intKind P w) a S n
  | .ins C dx fs => H dx = some (.own a) ∧ fs.length ≤ 1000 ∧ dx ≠ a ∧ h.get? a = some (PySem.W.instObj C dx) ∧
      ∃ mA, h.Ns1 dx mA ∧ (∀ f, RelO (fs.lookup f) (mA f)) ∧ PySem.Within mA (fs.map (·.1))
  | .own _ => ∃ o, h.get? a = some o
  | .xd fs => ∃ mA, h.Ns1 a mA ∧ ∀ f, RelO (fs.lookup f) (mA f)
  | .rng lo hi => ∃ t u v, h.get? a = some { cls := .type "range", data := .fields #[.int lo t, .int hi u, .int 1 v] }
  | .frz o u => h.get? a = some o ∧ ObjOk H h a u
  | .tbl ps => h.get? a = some { cls := .none, data := .fields ps }
  | .met f x => h.get? a = some (PySem.W.methodObj (.ref f) (.ref x))
  | .ext φ => φ h ∧ (∃ o, h.get? a = some o) ∧ ∀ h1 h2 : Heap, φ h1 → (∀ o, h1.get? a = some o → h2.get? a = some o) → φ h2
def HOk (H : Hp) (h : Heap) : Prop := ∀ a o, H a = some o → ObjOk P w H h a o
end
section
variable {P : Program} {w : World} {H H' : Hp} {h h' : Heap} {a : Addr} {o : HO}
theorem ObjOk.lt (x : ObjOk P w H h a o) : a < h.objs.size := by
  cases o with
  | lst xs => obtain ⟨_, _, _, _, e⟩ := x; exact Heap.lt_size e
  | tup xs => obtain ⟨_, _, _, p⟩ := x; exact p.lt
  | dK kvs => obtain ⟨_, _, _, _, o, _, _, e, _⟩ := x; exact Heap.lt_size e
  | dT kvs => obtain ⟨_, _, _, _, o, _, _, e, _⟩ := x; exact Heap.lt_size e
  | set S n => obtain ⟨o, _, _, _, e, _⟩ := x; exact Heap.lt_size e
  | ins C dx fs => obtain ⟨_, _, _, e, _⟩ := x; exact Heap.lt_size e
  | own y => obtain ⟨_, e⟩ := x; exact Heap.lt_size e
  | xd fs => obtain ⟨_, ⟨_, _, _, e, _⟩, _⟩ := x; exact Heap.lt_size e
  | rng lo hi => obtain ⟨_, _, _, e⟩ := x; exact Heap.lt_size e
  | frz ob u => obtain ⟨e, _⟩ := x; exact Heap.lt_size e
  | tbl ps => exact Heap.lt_size (show h.get? a = some _ from x)
  | met f y => exact Heap.lt_size (show h.get? a = some _ from x)
  | ext φ => obtain ⟨_, ⟨_, e⟩, _⟩ := x; exact Heap.lt_size e
theorem Paired.mapP {α β : Type} {F G : α → β → Prop} : ∀ {l₁ : List α} {l₂ : List β}, Paired F l₁ l₂ → (∀ a b, F a b → G a b) → Paired G l₁ l₂
  | _, _, .nil, _ => .nil
  | _, _, .cons r t, f => .cons (f _ _ r) (Paired.mapP t f)
theorem ObjOk.stay (x : ObjOk P w H h a o) (k : ∀ b u, (b = a ∨ H b = some (.own a)) → h.get? b = some u → h'.get? b = some u)
    (ho : ∀ b, H b = some (.own a) → H' b = some (.own a)) (ht : ∀ b xs, H b = some (.tup xs) → H' b = some (.tup xs)) : ObjOk P w H' h' a o := by
  induction o with
  | lst xs => obtain ⟨z, its, n, r, e⟩ := x; exact ⟨z, its, n, r, k _ _ (.inl rfl) e⟩
  | tup xs => obtain ⟨z, its, r, ob, e, c⟩ := x; exact ⟨z, its, r, ob, k _ _ (.inl rfl) e, c⟩
  | dK kvs => obtain ⟨z, y, vs, r, ob, es, ep, e, c⟩ := x; exact ⟨z, y, vs, r, ob, es, ep, k _ _ (.inl rfl) e, c⟩
  | dT kvs =>
    obtain ⟨z, y, xs, r, ob, es, ep, e, c⟩ := x
    exact ⟨z, y, xs, Paired.mapP r fun p q z => ⟨z.1, ht _ _ z.2.1, z.2.2⟩, ob, es, ep, k _ _ (.inl rfl) e, c⟩
  | set S n => obtain ⟨ob, es, ep, t, e, c⟩ := x; exact ⟨ob, es, ep, t, k _ _ (.inl rfl) e, c⟩
  | ins C dx fs =>
    obtain ⟨d, z, ne, e, mA, ⟨od, es, ep, e2, c⟩, r⟩ := x
    exact ⟨ho _ d, z, ne, k _ _ (.inl rfl) e, mA, ⟨od, es, ep, k _ _ (.inr d) e2, c⟩, r⟩
  | own y => obtain ⟨ob, e⟩ := x; exact ⟨ob, k _ _ (.inl rfl) e⟩
  | xd fs => obtain ⟨mA, ⟨od, es, ep, e, c⟩, r⟩ := x; exact ⟨mA, ⟨od, es, ep, k _ _ (.inl rfl) e, c⟩, r⟩
  | rng lo hi => obtain ⟨t, u, v, e⟩ := x; exact ⟨t, u, v, k _ _ (.inl rfl) e⟩
  | frz ob u ih => obtain ⟨e, q⟩ := x; exact ⟨k _ _ (.inl rfl) e, ih q⟩
  | tbl ps =>
    have e : h.get? a = some { cls := .none, data := .fields ps } := x
    show h'.get? a = some { cls := .none, data := .fields ps }
    exact k a _ (.inl rfl) e
  | met f y =>
    have e : h.get? a = some (PySem.W.methodObj (.ref f) (.ref y)) := x
    show h'.get? a = some (PySem.W.methodObj (.ref f) (.ref y))
    exact k a _ (.inl rfl) e
  | ext φ => obtain ⟨p, ⟨o, e⟩, st⟩ := x; exact ⟨st _ _ p fun o q => k _ _ (.inl rfl) q, ⟨o, k _ _ (.inl rfl) e⟩, st⟩
theorem HOk.lt (x : HOk P w H h) (e : H a = some o) : a < h.objs.size := (x a o e).lt
theorem HOk.fresh (x : HOk P w H h) (e : h.objs.size ≤ a) : H a = none := by
  cases q : H a with
  | none => rfl
  | some u => exact absurd (Nat.lt_of_lt_of_le (x.lt q) e) (Nat.lt_irrefl _)
theorem HOk.kept (x : HOk P w H h) (k : ∀ b u, h.get? b = some u → h'.get? b = some u) : HOk P w H h' := fun a o e =>
  (x a o e).stay (fun b u _ q => k b u q) (fun _ q => q) fun _ _ q => q
theorem HOk.laid (x : HOk P w H h) (k : ∀ b u, h.get? b = some u → h'.get? b = some u) (hp : h.objs.size ≤ a) (new : ObjOk P w (upd H a o) h' a o) : HOk P w (upd H a o) h' := fun b u e => by
  have hn := x.fresh hp
  by_cases hb : b = a
  · subst hb; rw [upd_same] at e; cases e; exact new
  · rw [upd_ne hb] at e
    exact (x b u e).stay (fun c v _ q => k c v q) (fun c q => by rw [upd_ne (ne_of_none q hn)]; exact q) fun c xs q => by rw [upd_ne (ne_of_none q hn)]; exact q
end
def Rd (H : Hp) (a : Addr) (u : HO) : Prop := H a = some u ∨ ∃ o, H a = some (.frz o u)
theorem Rd.of {H : Hp} {a : Addr} {u : HO} (h : H a = some u) : Rd H a u := .inl h
theorem Rd.ok {P : Program} {w : World} {H : Hp} {h : Heap} {a : Addr} {u : HO} (r : Rd H a u) (x : HOk P w H h) : ObjOk P w H h a u := by
  rcases r with r | ⟨o, r⟩
  · exact x a u r
  · obtain ⟨_, q⟩ := x a _ r
    exact q
def Mut : Option HO → Prop
  | some (.lst _) => True
  | some (.dK _) => True
  | some (.dT _) => True
  | some (.set _ _) => True
  | some (.ins _ _ _) => True
  | some (.ext _) => True
  | _ => False
section
variable {P : Program} {w : World} {H : Hp} {h h' : Heap} {x e : Addr} {o' : HO}
theorem HOk.write (ok : HOk P w H h) (mu : Mut (H x)) (he : e = x ∨ H e = some (.own x)) (k : ∀ b u, b ≠ e → h.get? b = some u → h'.get? b = some u) (heo : ∃ u, h'.get? e = some u)
    (new : ObjOk P w (upd H x o') h' x o') : HOk P w (upd H x o') h' := fun b u q => by
  have nown : ∀ c y, H c = some (.own y) → c ≠ x := fun c y r z => by subst z; rw [r] at mu; exact mu
  have ntup : ∀ c xs, H c = some (.tup xs) → c ≠ x := fun c xs r z => by subst z; rw [r] at mu; exact mu
  by_cases hb : b = x
  · subst hb; rw [upd_same] at q; cases q; exact new
  · rw [upd_ne hb] at q
    by_cases hbe : b = e
    · have q' : H b = some (.own x) := by
        rcases he with z | z
        · exact absurd (hbe.trans z) hb
        · rw [hbe]; exact z
      rw [q] at q'; cases q'
      obtain ⟨v, hv⟩ := heo
      exact ⟨v, by rw [hbe]; exact hv⟩
    · refine (ok b u q).stay (fun c v hc r => k c v ?_ r) (fun c r => by rw [upd_ne (nown c b r)]; exact r) fun c xs r => by rw [upd_ne (ntup c xs r)]; exact r
      rcases hc with rfl | hc
      · exact hbe
      · rintro rfl
        rcases he with z | z
        · exact nown c b hc z
        · rw [hc] at z; cases z; exact hb rfl
end
structure Un (fs ex : List Addr) (H H' : Hp) (h h' : Heap) : Prop where
  keep : ∀ b o, h.get? b = some o → H b = none → b ∉ fs → b ∉ ex → h'.get? b = some o
  slot : ∀ b o, h.get? b = some o → H b = none → b ∈ fs → b ∉ ex → ∃ sl, h'.get? b = some { o with slots := sl }
  free : ∀ b o, h.get? b = some o → H b = none → b ∉ ex → H' b = none
  there : ∀ b o, h.get? b = some o → b ∉ ex → ∃ o', h'.get? b = some o'
  tups : ∀ b xs, H b = some (.tup xs) → H' b = some (.tup xs)
  frzs : ∀ b o u, H b = some (.frz o u) → H' b = some (.frz o u)
  tbls : ∀ b ps, H b = some (.tbl ps) → ∃ more, H' b = some (.tbl (ps ++ more))
section
variable {fs fs' ex ex' : List Addr} {H H1 H2 : Hp} {h h1 h2 h' : Heap} {a x e : Addr} {o : HO}
theorem Un.any (u : Un fs ex H H1 h h1) {b : Addr} {ob : Obj} (q : h.get? b = some ob) (n : H b = none) (hx : b ∉ ex) : ∃ sl, h1.get? b = some { ob with slots := sl } := by
  by_cases hb : b ∈ fs
  · exact u.slot b ob q n hb hx
  · exact ⟨ob.slots, u.keep b ob q n hb hx⟩
theorem Un.trans (a : Un fs ex H H1 h h1) (b : Un fs ex H1 H2 h1 h2) : Un fs ex H H2 h h2 where
  keep := fun c ob q n hc hx => b.keep c ob (a.keep c ob q n hc hx) (a.free c ob q n hx) hc hx
  slot := fun c ob q n hc hx => by
    obtain ⟨sl, e1⟩ := a.slot c ob q n hc hx
    obtain ⟨sl', e2⟩ := b.slot c _ e1 (a.free c ob q n hx) hc hx
    exact ⟨sl', e2⟩
  free := fun c ob q n hx => by
    obtain ⟨o', e1⟩ := a.there c ob q hx
    exact b.free c o' e1 (a.free c ob q n hx) hx
  there := fun c ob q hx => by
    obtain ⟨o', e1⟩ := a.there c ob q hx
    exact b.there c o' e1 hx
  tups := fun c xs q => b.tups c xs (a.tups c xs q)
  frzs := fun c ob xs q => b.frzs c ob xs (a.frzs c ob xs q)
  tbls := fun c ps q => by
    obtain ⟨m1, e1⟩ := a.tbls c ps q
    obtain ⟨m2, e2⟩ := b.tbls c _ e1
    exact ⟨m1 ++ m2, by rw [e2, Array.append_assoc]⟩
theorem Un.kept (k : ∀ b u, h.get? b = some u → h'.get? b = some u) : Un fs ex H H h h' :=
  ⟨fun b ob q _ _ _ => k b ob q, fun b ob q _ _ _ => ⟨ob.slots, k b ob q⟩, fun _ _ _ n _ => n, fun b ob q _ => ⟨ob, k b ob q⟩, fun _ _ q => q, fun _ _ _ q => q, fun _ ps q => ⟨#[], by rw [q]; simp⟩⟩
theorem Un.refl : Un fs ex H H h h := Un.kept fun _ _ q => q
theorem Un.laid (k : ∀ b u, h.get? b = some u → h'.get? b = some u) (hp : h.objs.size ≤ a) (hn : H a = none) : Un fs ex H (upd H a o) h h' where
  keep := fun b u q _ _ _ => k b u q
  slot := fun b u q _ _ _ => ⟨u.slots, k b u q⟩
  free := fun b u q n _ => by rw [upd_ne (Nat.ne_of_lt (Nat.lt_of_lt_of_le (Heap.lt_size q) hp))]; exact n
  there := fun b u q _ => ⟨u, k b u q⟩
  tups := fun b xs q => by rw [upd_ne (ne_of_none q hn)]; exact q
  frzs := fun b u xs q => by rw [upd_ne (ne_of_none q hn)]; exact q
  tbls := fun b ps q => ⟨#[], by rw [upd_ne (ne_of_none q hn), q]; simp⟩
theorem Un.write (mu : Mut (H x)) (he : e = x ∨ H e = some (.own x)) (k : ∀ b u, b ≠ e → h.get? b = some u → h'.get? b = some u) (heo : ∃ u, h'.get? e = some u) : Un fs ex H (upd H x o) h h' := by
  have hx : ∀ b, H b = none → b ≠ x := fun b n z => by subst z; rw [n] at mu; exact mu
  have hb : ∀ b, H b = none → b ≠ e := fun b n z => by
    subst z
    rcases he with r | r
    · exact hx b n r
    · rw [n] at r; cases r
  have hm : ∀ b u, H b = some u → ¬ Mut (some u) → b ≠ x := fun b u q nm z => by subst z; rw [q] at mu; exact nm mu
  refine ⟨fun b u q n _ _ => k b u (hb b n) q, fun b u q n _ _ => ⟨u.slots, k b u (hb b n) q⟩, fun b u q n _ => by rw [upd_ne (hx b n)]; exact n, fun b u q _ => ?_,
    fun b xs q => by rw [upd_ne (hm b _ q fun z => z)]; exact q, fun b u xs q => by rw [upd_ne (hm b _ q fun z => z)]; exact q, fun b ps q => ⟨#[], by rw [upd_ne (hm b _ q fun z => z), q]; simp⟩⟩
  by_cases hbe : b = e
  · subst hbe; exact heo
  · exact ⟨u, k b u hbe q⟩
theorem Un.mono (u : Un fs ex H H1 h h1) (hs : ∀ b ∈ fs, b ∈ fs') (hx : ∀ b ∈ ex, b ∈ ex') : Un fs' ex' H H1 h h1 :=
  ⟨fun b ob q n hb he => u.keep b ob q n (fun z => hb (hs b z)) fun z => he (hx b z), fun _ _ q n _ he => u.any q n fun z => he (hx _ z), fun b ob q n he => u.free b ob q n fun z => he (hx b z), fun b ob q he => u.there b ob q fun z => he (hx b z), u.tups, u.frzs, u.tbls⟩
end
def trk (h : Heap) (H : Hp) : List Addr := (List.range h.objs.size).filter fun a => (H a).isSome
def hidT (h : Heap) (H : Hp) : Heap := PySem.W.hideAll h (trk h H)
theorem hidT_size (h : Heap) (H : Hp) : (hidT h H).objs.size = h.objs.size := PySem.W.hideAll_size _ _
theorem hidT_get {h : Heap} {H : Hp} {b : Addr} {o : Obj} (e : h.get? b = some o) (n : H b = none) : (hidT h H).get? b = some o :=
  PySem.W.hideAll_get _ e fun hm => by
    have q : (H b).isSome = true := (List.mem_filter.mp hm).2
    rw [n] at q; simp at q
theorem of_hidT {h : Heap} {H : Hp} {b : Addr} {o : Obj} (e : (hidT h H).get? b = some o) : h.get? b = some o ∧ H b = none := by
  have e' : h.get? b = some o := PySem.W.of_hideAll (trk h H) e
  refine ⟨e', ?_⟩
  cases q : H b with
  | none => rfl
  | some x =>
    have hm : b ∈ trk h H := List.mem_filter.mpr ⟨List.mem_range.mpr (Heap.lt_size e'), by simp [q]⟩
    have z : (hidT h H).get? b = none := PySem.W.hideAll_none (trk h H) hm
    rw [z] at e; cases e
def allNews (g h : Heap) (L : Addr) : List (Addr × Obj) := (List.range h.objs.size).filterMap fun a => if a = L ∨ (g.get? a).isSome = true then none else (h.get? a).map fun o => (a, o)
def rest (g h : Heap) (L d : Addr) : List (Addr × Obj) := (allNews g h L).filter fun p => decide (p.1 ≠ d)
end L2
namespace L2
open PySem PySem.Spec PyProof.Rows
structure Mod (K : PySem.W.Frag) (mg : Str → Option Value) (base : Heap) : Prop where
  kin : K.In base
  glob : base.Ns mainGlobals mg
  blt : ∃ mb, base.Ns builtinsNs mb ∧ ∀ x : Str, x ≠ "__name__" → mb x = bootBuiltins x
  nolimit : base.NoLimit
structure Cx where
  prog : Program
  w : World
  K : PySem.W.Frag
  mg : Str → Option Value
  base : Heap
  A : Around
  N : List Str
  s₀ : Shared
  H₀ : Hp
  env : Env
  outer : List Env
  stack : List Env
  ex : List Addr
  fn : Str → Bool
  calm : Bool
  pn : List (Addr × Obj)
  xe : Value → Shared → Prop
def frs (l : List Env) : List Addr := l.filterMap (·.frame)
abbrev Cx.fs (X : Cx) : List Addr := frs X.outer
def Vis (sc : Scope) (x : Str) : Prop := sc.names.lookup x = some .local ∨ sc.names.lookup x = some .cell ∨ sc.names.lookup x = some .free
def Loc (sc : Scope) (x : Str) : Prop := sc.names.lookup x = some .local ∨ sc.names.lookup x = some .cell
def Look (env : Env) (h : Heap) (m : Str → Option Value) (x : Str) (u : Value) : Prop :=
  (env.kindOf x = some .local ∧ m x = some u) ∨ ((env.kindOf x = some .cell ∨ env.kindOf x = some .free) ∧ ∃ c, env.cells.lookup x = some c ∧ h.IsCell c (some u))
structure Cx.Ok (X : Cx) : Prop where
  mod : Mod X.K X.mg X.base
  kind : X.env.scope.kind = .function
  glob : X.env.globals = mainGlobals
  blt : X.env.builtins = builtinsNs
  above : X.s₀.heap.objs.size ≤ X.env.locals
  inj : ∀ x y c, X.env.cells.lookup x = some c → X.env.cells.lookup y = some c → x = y
  has : ∀ x, (X.env.kindOf x = some .cell ∨ X.env.kindOf x = some .free) → ∃ c, X.env.cells.lookup x = some c
  cab : ∀ x c, X.fn x = true → X.env.cells.lookup x = some c → X.s₀.heap.objs.size ≤ c
  hd : X.calm = true → X.A.handled = none
  frames : X.A.frames = some X.stack
  stk : X.stack = X.outer ∨ (X.stack = X.env :: X.outer ∧ X.env.frame = some X.env.locals)
  exf : ∀ b ∈ X.ex, b ≠ X.env.locals ∧ ∀ x c, X.env.cells.lookup x = some c → c ≠ b
  bs : ∀ b o, X.base.get? b = some o → X.s₀.heap.get? b = some o ∧ X.H₀ b = none
  bsz : X.base.objs.size ≤ X.s₀.heap.objs.size
  noex : ∀ b o, X.base.get? b = some o → b ∉ X.ex
  exfs : ∀ b ∈ X.ex, b ∉ X.fs
  funs : X.s₀.heap.FunFrames X.base X.outer
  frf : ∀ b ∈ X.fs, X.H₀ b = none
structure Inv (X : Cx) (pins : List (Addr × Obj)) (σ : List (Option V)) (H : Hp) (s : Shared) : Prop where
  ok : X.Ok
  os : s.os = X.s₀.os
  bare : AllBare s.gens
  base : Un X.fs X.ex X.H₀ H X.s₀.heap s.heap
  loc : ∃ m, s.heap.Ns X.env.locals m ∧ ∀ (i : Nat) (x : Str) (v : V), X.N[i]? = some x → σ[i]? = some (some v) → Vis X.env.scope x → ∃ u, RelV v u ∧ Look X.env s.heap m x u
  cell : ∀ x c, X.env.cells.lookup x = some c → ∃ v, s.heap.IsCell c v
  free : H X.env.locals = none
  freeC : ∀ x c, X.env.cells.lookup x = some c → H c = none
  pin : ∀ p ∈ X.pn ++ pins, s.heap.get? p.1 = some p.2 ∧ H p.1 = none ∧ p.1 ≠ X.env.locals ∧ p.1 ∉ X.fs ∧ ∀ v, p.2.data ≠ .cell v
  hok : HOk X.prog X.w H s.heap
  len : σ.length = X.N.length
section
variable {X : Cx} {pins : List (Addr × Obj)} {σ : List (Option V)} {H H' : Hp} {s : Shared} {h' : Heap}
theorem Cx.Ok.nofr (ok : X.Ok) {b : Addr} {o : Obj} (e : X.base.get? b = some o) : b ∉ X.fs := fun hb => by
  have := (ok.funs.mem hb).1
  rw [e] at this; cases this
theorem Inv.bs (I : Inv X pins σ H s) : ∀ b o, X.base.get? b = some o → s.heap.get? b = some o ∧ H b = none := fun b o e =>
  ⟨I.base.keep b o (I.ok.bs b o e).1 (I.ok.bs b o e).2 (I.ok.nofr e) (I.ok.noex b o e), I.base.free b o (I.ok.bs b o e).1 (I.ok.bs b o e).2 (I.ok.noex b o e)⟩
theorem Inv.bk (I : Inv X pins σ H s) : ∀ b o, X.base.get? b = some o → s.heap.get? b = some o := fun b o e => (I.bs b o e).1
theorem Inv.mod (I : Inv X pins σ H s) : Mod X.K X.mg X.base := I.ok.mod
theorem Inv.kIn (I : Inv X pins σ H s) : X.K.In s.heap := I.ok.mod.kin.keeps I.bk
theorem Inv.nolimit (I : Inv X pins σ H s) : s.heap.NoLimit := I.ok.mod.nolimit.keeps I.bk
theorem Inv.fr (I : Inv X pins σ H s) : ∃ m, Fr X.base X.env.locals s.heap m :=
  let ⟨m, hn, _⟩ := I.loc
  ⟨m, hn, I.bk, Nat.le_trans I.ok.bsz I.ok.above⟩
theorem Inv.lt (I : Inv X pins σ H s) : X.env.locals < s.heap.objs.size := let ⟨_, hn, _⟩ := I.loc; hn.lt
theorem Inv.sz (I : Inv X pins σ H s) : X.s₀.heap.objs.size ≤ s.heap.objs.size := Nat.le_trans I.ok.above (Nat.le_of_lt I.lt)
theorem Inv.nofs (I : Inv X pins σ H s) {a : Addr} (h : s.heap.objs.size ≤ a) : a ∉ X.fs := fun hb => by
  obtain ⟨_, o, ho, _⟩ := I.ok.funs.mem hb
  exact absurd (Nat.lt_of_lt_of_le (Heap.lt_size ho) (Nat.le_trans I.sz h)) (Nat.lt_irrefl _)
theorem Inv.cne (I : Inv X pins σ H s) : ∀ x c, X.env.cells.lookup x = some c → c ≠ X.env.locals := fun x c e z => by
  obtain ⟨v, o, ho, hd⟩ := I.cell x c e
  obtain ⟨m, ⟨o', es, ep, ho', hd', _⟩, _⟩ := I.loc
  rw [z, ho'] at ho; cases ho; rw [hd'] at hd; cases hd
theorem Inv.funs (I : Inv X pins σ H s) : s.heap.FunFrames X.base X.outer := by
  have all : ∀ (l : List Env), (∀ b ∈ frs l, b ∈ X.fs) → X.s₀.heap.FunFrames X.base l → s.heap.FunFrames X.base l := by
    intro l
    induction l with
    | nil => intro _ _; trivial
    | cons env r ih =>
      intro hs hl
      obtain ⟨hk, ⟨L, o, hf, hn, ho, hd⟩, hr⟩ := hl
      have hL : L ∈ X.fs := hs L (by unfold frs; rw [List.filterMap_cons, hf]; exact List.mem_cons_self)
      obtain ⟨sl, e⟩ := I.base.slot L o ho (I.ok.frf L hL) hL fun z => I.ok.exfs L z hL
      exact ⟨hk, ⟨L, _, hf, hn, e, hd⟩, ih (fun b hb => hs b (by unfold frs; rw [List.filterMap_cons, hf]; exact List.mem_cons_of_mem _ hb)) hr⟩
  exact all X.outer (fun _ hb => hb) I.ok.funs
theorem Inv.stack (I : Inv X pins σ H s) : s.heap.FunFrames X.base X.stack := by
  rcases I.ok.stk with e | ⟨e, hf⟩
  · rw [e]; exact I.funs
  · rw [e]
    obtain ⟨m, hn, _⟩ := I.loc
    refine .cons (by rw [I.ok.kind]; decide) hf hn ?_ I.funs
    exact Heap.get?_none_of_le (Nat.le_trans I.ok.bsz I.ok.above)
theorem Inv.stkSub (I : Inv X pins σ H s) : ∀ b ∈ frs X.stack, b ∈ X.env.locals :: X.fs := fun b hb => by
  rcases I.ok.stk with e | ⟨e, hf⟩
  · rw [e] at hb; exact List.mem_cons_of_mem _ hb
  · rw [e] at hb
    unfold frs at hb
    rw [List.filterMap_cons, hf] at hb
    exact hb
theorem Inv.stkFree (I : Inv X pins σ H s) : ∀ b ∈ frs X.stack, H b = none := fun b hb => by
  rcases List.mem_cons.mp (I.stkSub b hb) with e | hb
  · rw [e]; exact I.free
  · obtain ⟨_, o, ho, _⟩ := I.ok.funs.mem hb
    exact I.base.free b o ho (I.ok.frf b hb) fun z => I.ok.exfs b z hb
theorem Inv.step {g' : Array GenState} {t' : Nat} {d' : Drawn} {ch : List Addr} (I : Inv X pins σ H s)
    (hch : ∀ b ∈ ch, (b ∈ X.ex ∨ X.s₀.heap.objs.size ≤ b) ∧ b ≠ X.env.locals ∧ (∀ x c, X.env.cells.lookup x = some c → c ≠ b) ∧ ∀ p ∈ X.pn ++ pins, p.1 ≠ b)
    (keep : ∀ b o, b ≠ X.env.locals → b ∉ X.fs → b ∉ ch → s.heap.get? b = some o → H b = none → h'.get? b = some o)
    (slot : ∀ b o, b ≠ X.env.locals → b ∈ X.fs → b ∉ ch → s.heap.get? b = some o → H b = none → ∃ sl, h'.get? b = some { o with slots := sl }) (free : ∀ b o, b ∉ ch → s.heap.get? b = some o → H b = none → H' b = none)
    (there : ∀ b o, b ∉ ch → s.heap.get? b = some o → ∃ o', h'.get? b = some o')
    (tups : ∀ b xs, H b = some (.tup xs) → H' b = some (.tup xs)) (frzs : ∀ b o u, H b = some (.frz o u) → H' b = some (.frz o u)) (tbls : ∀ b ps, H b = some (.tbl ps) → ∃ more, H' b = some (.tbl (ps ++ more)))
    (ns : ∀ m, s.heap.Ns X.env.locals m → h'.Ns X.env.locals m) (hok : HOk X.prog X.w H' h') (hg : AllBare g') :
    Inv X pins σ H' { s with heap := h', gens := g', drawn := d', toks := t' } := by
  have neL : ∀ b o, X.s₀.heap.get? b = some o → b ≠ X.env.locals := fun b o e => Nat.ne_of_lt (Nat.lt_of_lt_of_le (Heap.lt_size e) I.ok.above)
  have neC : ∀ b o, X.s₀.heap.get? b = some o → b ∉ X.ex → b ∉ ch := fun b o e hx hb => by
    rcases (hch b hb).1 with z | z
    · exact hx z
    · exact absurd (Nat.lt_of_lt_of_le (Heap.lt_size e) z) (Nat.lt_irrefl _)
  have cellK : ∀ x c, X.env.cells.lookup x = some c → ∀ v, s.heap.IsCell c v → h'.IsCell c v := fun x c e v ⟨o, ho, hd⟩ => by
    have nch : c ∉ ch := fun z => (hch c z).2.2.1 x c e rfl
    by_cases hc : c ∈ X.fs
    · obtain ⟨sl, q⟩ := slot c o (I.cne x c e) hc nch ho (I.freeC x c e)
      exact ⟨_, q, hd⟩
    · exact ⟨o, keep c o (I.cne x c e) hc nch ho (I.freeC x c e), hd⟩
  refine ⟨I.ok, I.os, hg, ⟨fun b o e n hb hx => ?_, fun b o e n hb hx => ?_, fun b o e n hx => ?_, fun b o e hx => ?_, fun b xs e => tups b xs (I.base.tups b xs e), fun b o xs e => frzs b o xs (I.base.frzs b o xs e), fun b ps e => ?_⟩, ?_, fun x c e => ?_, ?_, fun x c e => ?_, fun p hp => ?_, hok, I.len⟩
  · exact keep b o (neL b o e) hb (neC b o e hx) (I.base.keep b o e n hb hx) (I.base.free b o e n hx)
  · obtain ⟨sl, e1⟩ := I.base.slot b o e n hb hx
    obtain ⟨sl', e2⟩ := slot b _ (neL b o e) hb (neC b o e hx) e1 (I.base.free b o e n hx)
    exact ⟨sl', e2⟩
  · obtain ⟨o', e1⟩ := I.base.there b o e hx
    exact free b o' (neC b o e hx) e1 (I.base.free b o e n hx)
  · obtain ⟨o', e1⟩ := I.base.there b o e hx
    exact there b o' (neC b o e hx) e1
  · obtain ⟨m1, e1⟩ := I.base.tbls b ps e
    obtain ⟨m2, e2⟩ := tbls b _ e1
    exact ⟨m1 ++ m2, by rw [e2, Array.append_assoc]⟩
  · obtain ⟨m, hn, hl⟩ := I.loc
    refine ⟨m, ns m hn, fun i x v e1 e2 e3 => ?_⟩
    obtain ⟨u, r, l⟩ := hl i x v e1 e2 e3
    refine ⟨u, r, ?_⟩
    rcases l with l | ⟨k, c, e, z⟩
    · exact .inl l
    · exact .inr ⟨k, c, e, cellK x c e _ z⟩
  · obtain ⟨v, z⟩ := I.cell x c e
    exact ⟨v, cellK x c e v z⟩
  · obtain ⟨m, ⟨o, _, _, ho, _⟩, _⟩ := I.loc
    exact free _ o (fun z => (hch _ z).2.1 rfl) ho I.free
  · obtain ⟨v, o, ho, hd⟩ := I.cell x c e
    exact free c o (fun z => (hch c z).2.2.1 x c e rfl) ho (I.freeC x c e)
  · obtain ⟨e, n, ne, nf, d⟩ := I.pin p hp
    have nch : p.1 ∉ ch := fun z => (hch p.1 z).2.2.2 p hp rfl
    exact ⟨keep p.1 p.2 ne nf nch e n, free p.1 p.2 nch e n, ne, nf, d⟩
theorem Inv.un {t' : Nat} (I : Inv X pins σ H s) (u : Un X.fs [] H H' s.heap h') (hok : HOk X.prog X.w H' h') : Inv X pins σ H' { s with heap := h', toks := t' } := by
  obtain ⟨m, ⟨o, es, ep, ho, r⟩, _⟩ := id I.loc
  obtain ⟨sl, hL⟩ := u.any ho I.free (by simp)
  exact I.step (g' := s.gens) (d' := s.drawn) (ch := []) (fun _ z => nomatch z) (fun b o _ hb _ e n => u.keep b o e n hb (by simp)) (fun b o _ hb _ e n => u.slot b o e n hb (by simp)) (fun b o _ e n => u.free b o e n (by simp)) (fun b o _ e => u.there b o e (by simp)) u.tups u.frzs u.tbls (fun m' hm => by
    obtain ⟨o', es', ep', ho', r'⟩ := hm
    rw [ho] at ho'; cases ho'
    exact ⟨_, es', ep', hL, r'⟩) hok I.bare
theorem Inv.call {g' : Array GenState} {t' : Nat} {d' : Drawn} {ch : List Addr} (I : Inv X pins σ H s) (u : Un (frs X.stack) ch H H' s.heap h') (hok : HOk X.prog X.w H' h') (hg : AllBare g')
    (hch : ∀ b ∈ ch, (b ∈ X.ex ∨ X.s₀.heap.objs.size ≤ b) ∧ b ≠ X.env.locals ∧ (∀ x c, X.env.cells.lookup x = some c → c ≠ b) ∧ ∀ p ∈ X.pn ++ pins, p.1 ≠ b) :
    Inv X pins σ H' { s with heap := h', gens := g', drawn := d', toks := t' } := by
  obtain ⟨m, ⟨o, es, ep, ho, r⟩, _⟩ := id I.loc
  obtain ⟨sl, hL⟩ := u.any ho I.free fun z => (hch _ z).2.1 rfl
  exact I.step (ch := ch) hch (fun b o hL hb hc e n => u.keep b o e n (fun z => (List.mem_cons.mp (I.stkSub b z)).elim hL hb) hc) (fun b o _ _ hc e n => u.any e n hc) (fun b o hc e n => u.free b o e n hc) (fun b o hc e => u.there b o e hc) u.tups u.frzs u.tbls (fun m' hm => by
    obtain ⟨o', es', ep', ho', r'⟩ := hm
    rw [ho] at ho'; cases ho'
    exact ⟨_, es', ep', hL, r'⟩) hok hg
theorem Inv.turned {t' : Nat} {it : Addr} (I : Inv X pins σ H s) (k : ∀ b o, b ≠ it → s.heap.get? b = some o → h'.get? b = some o) (hn : H it = none) (hL : it ≠ X.env.locals)
    (h1 : it ∈ X.ex ∨ X.s₀.heap.objs.size ≤ it) (h2 : ∀ x c, X.env.cells.lookup x = some c → c ≠ it) (h3 : ∀ p ∈ X.pn ++ pins, p.1 ≠ it) : Inv X pins σ H { s with heap := h', toks := t' } := by
  have nit : ∀ b u, H b = some u → b ≠ it := fun b u e z => by rw [z, hn] at e; cases e
  refine I.step (g' := s.gens) (d' := s.drawn) (ch := [it]) (fun b hb => ?_) (fun b o _ _ hc e _ => k b o (fun z => hc (by simp [z])) e) (fun b o _ _ hc e _ => ⟨o.slots, k b o (fun z => hc (by simp [z])) e⟩) (fun _ _ _ _ n => n)
    (fun b o hc e => ⟨o, k b o (fun z => hc (by simp [z])) e⟩) (fun _ _ e => e) (fun _ _ _ e => e) (fun b ps e => ⟨#[], by rw [e]; simp⟩) (fun m hm => ?_) (fun b u e => ?_) I.bare
  · have e : b = it := by simpa using hb
    subst e
    exact ⟨h1, hL, h2, h3⟩
  · obtain ⟨o, es, ep, ho, r⟩ := hm
    exact ⟨o, es, ep, k _ o (Ne.symm hL) ho, r⟩
  · refine (I.hok b u e).stay (fun c v hc q => k c v ?_ q) (fun _ q => q) fun _ _ q => q
    rcases hc with z | z
    · rw [z]; exact nit b u e
    · exact nit c _ z
theorem Inv.tok (I : Inv X pins σ H s) (t : Nat) : Inv X pins σ H { s with toks := t } := I.un (h' := s.heap) (t' := t) Un.refl I.hok
theorem Inv.kept {t' : Nat} (I : Inv X pins σ H s) (k : ∀ b u, s.heap.get? b = some u → h'.get? b = some u) : Inv X pins σ H { s with heap := h', toks := t' } := I.un (Un.kept k) (I.hok.kept k)
theorem Inv.laid {a : Addr} {o : HO} {t' : Nat} (I : Inv X pins σ H s) (k : ∀ b u, s.heap.get? b = some u → h'.get? b = some u) (hp : s.heap.objs.size ≤ a) (new : ObjOk X.prog X.w (upd H a o) h' a o) :
    Inv X pins σ (upd H a o) { s with heap := h', toks := t' } := I.un (Un.laid k hp (I.hok.fresh hp)) (I.hok.laid k hp new)
theorem Inv.write {x e : Addr} {o : HO} {t' : Nat} (I : Inv X pins σ H s) (mu : Mut (H x)) (he : e = x ∨ H e = some (.own x)) (k : ∀ b u, b ≠ e → s.heap.get? b = some u → h'.get? b = some u) (heo : ∃ u, h'.get? e = some u)
    (new : ObjOk X.prog X.w (upd H x o) h' x o) : Inv X pins σ (upd H x o) { s with heap := h', toks := t' } := I.un (Un.write mu he k heo) (I.hok.write mu he k heo new)
theorem Inv.pins_of {pins' : List (Addr × Obj)} (I : Inv X pins σ H s) (h : ∀ p ∈ pins', s.heap.get? p.1 = some p.2 ∧ H p.1 = none ∧ p.1 ≠ X.env.locals ∧ p.1 ∉ X.fs ∧ ∀ v, p.2.data ≠ .cell v) : Inv X pins' σ H s :=
  ⟨I.ok, I.os, I.bare, I.base, I.loc, I.cell, I.free, I.freeC, fun p hp => (List.mem_append.mp hp).elim (fun z => I.pin p (List.mem_append_left _ z)) (h p), I.hok, I.len⟩
theorem nodup_ix {N : List Str} (hN : N.Nodup) {i j : Nat} {x : Str} (a : N[i]? = some x) (b : N[j]? = some x) : i = j := by
  obtain ⟨h1, e1⟩ := List.getElem?_eq_some_iff.mp a
  obtain ⟨h2, e2⟩ := List.getElem?_eq_some_iff.mp b
  exact (List.getElem_inj hN).mp (e1.trans e2.symm)
theorem store_ok2 {M : Model} {A : Around} {E : Value → Shared → Prop} {i : Nat} {x : Str} {v : V} {u : Value} {Q : Unit → Shared → Prop} (I : Inv X pins σ H s) (hN : X.N.Nodup) (hi : X.N[i]? = some x) (hx : Loc X.env.scope x) (r : RelV v u)
    (h : ∀ s', Inv X pins (σ.set i (some v)) H s' → (∃ a, Heap.SameBut a s.heap s'.heap ∧ (a = X.env.locals ∨ X.env.cells.lookup x = some a)) → Q () s') (hf : X.fn x = true ∨ X.env.scope.names.lookup x = some .local := by first | exact .inl rfl | exact .inr rfl | assumption) : wpAny M A (storeName X.env x u) Q E s := by
  obtain ⟨m, hn, hl⟩ := id I.loc
  have hcls : (X.env.scope.kind == .class || (X.env.scope.kind == .module && X.env.locals != X.env.globals)) = false := by rw [I.ok.kind]; rfl
  have hiσ : i < σ.length := by rw [I.len]; exact (List.getElem?_eq_some_iff.mp hi).1
  have cne := I.cne
  have tracked : ∀ {a : Addr} {h' : Heap}, (∃ o, s.heap.get? a = some o ∧ H a = none) → Heap.SameBut a s.heap h' → HOk X.prog X.w H h' := fun {a h'} ha hs b ob e => by
    obtain ⟨_, _, hfree⟩ := ha
    refine (I.hok b ob e).stay (fun c w' hc q => (hs.2 c ?_).trans q) (fun _ q => q) fun _ _ q => q
    rintro rfl
    rcases hc with rfl | hc
    · rw [hfree] at e; cases e
    · rw [hfree] at hc; cases hc
  rcases hx with hk | hk
  · refine wpAny_storeName_local hk hn (fun h' hn' hs => ?_) hcls
    obtain ⟨oL, _, _, hoL, _⟩ := id hn
    refine h _ ⟨I.ok, I.os, I.bare, ⟨fun b o e n hb hx => ?_, fun b o e n hb hx => ?_, I.base.free, fun b o e hx => ?_, I.base.tups, I.base.frzs, I.base.tbls⟩, ⟨_, hn', fun j y v' e1 e2 e3 => ?_⟩, fun y c e => ?_, I.free, I.freeC, fun p hp => ?_, tracked ⟨oL, hoL, I.free⟩ hs, by simpa using I.len⟩ ⟨_, hs, .inl rfl⟩
    · exact (hs.2 b (Nat.ne_of_lt (Nat.lt_of_lt_of_le (Heap.lt_size e) I.ok.above))).trans (I.base.keep b o e n hb hx)
    · obtain ⟨sl, e1⟩ := I.base.slot b o e n hb hx
      exact ⟨sl, (hs.2 b (Nat.ne_of_lt (Nat.lt_of_lt_of_le (Heap.lt_size e) I.ok.above))).trans e1⟩
    · obtain ⟨o', e1⟩ := I.base.there b o e hx
      exact ⟨o', (hs.2 b (Nat.ne_of_lt (Nat.lt_of_lt_of_le (Heap.lt_size e) I.ok.above))).trans e1⟩
    · by_cases hj : j = i
      · subst hj
        rw [hi] at e1; cases e1
        rw [List.getElem?_set_self hiσ] at e2
        cases e2
        exact ⟨u, r, .inl ⟨hk, by simp⟩⟩
      · rw [List.getElem?_set_ne (Ne.symm hj)] at e2
        obtain ⟨u', r', q⟩ := hl j y v' e1 e2 e3
        refine ⟨u', r', ?_⟩
        rcases q with ⟨k, e⟩ | ⟨k, c, e, z⟩
        · refine .inl ⟨k, ?_⟩
          have : y ≠ x := fun e => hj (nodup_ix hN e1 (e ▸ hi))
          simp [this, e]
        · exact .inr ⟨k, c, e, z.sameBut hs (cne y c e)⟩
    · obtain ⟨w', z⟩ := I.cell y c e
      exact ⟨w', z.sameBut hs (cne y c e)⟩
    · obtain ⟨e, n, ne, nf, d⟩ := I.pin p hp
      exact ⟨(hs.2 p.1 ne).trans e, n, ne, nf, d⟩
  · have hfn : X.fn x = true := by
      rcases hf with z | z
      · exact z
      · rw [z] at hk; cases hk
    obtain ⟨c, hc⟩ := I.ok.has x (.inl hk)
    obtain ⟨w', z⟩ := I.cell x c hc
    refine wpAny_storeName_cell I.ok.kind hk hc z (fun h' hc' hs => ?_)
    obtain ⟨oc, hoc, hocd⟩ := id z
    refine h { s with heap := h' } ⟨I.ok, I.os, I.bare, ⟨fun b o e n hb hx => ?_, fun b o e n hb hx => ?_, I.base.free, fun b o e hx => ?_, I.base.tups, I.base.frzs, I.base.tbls⟩, ⟨m, hn.sameBut hs (Ne.symm (cne x c hc)), fun j y v' e1 e2 e3 => ?_⟩, fun y c' e => ?_, I.free, I.freeC, fun p hp => ?_, tracked ⟨oc, hoc, I.freeC x c hc⟩ hs, by simpa using I.len⟩ ⟨c, hs, .inr hc⟩
    · exact (hs.2 b (Nat.ne_of_lt (Nat.lt_of_lt_of_le (Heap.lt_size e) (I.ok.cab x c hfn hc)))).trans (I.base.keep b o e n hb hx)
    · obtain ⟨sl, e1⟩ := I.base.slot b o e n hb hx
      exact ⟨sl, (hs.2 b (Nat.ne_of_lt (Nat.lt_of_lt_of_le (Heap.lt_size e) (I.ok.cab x c hfn hc)))).trans e1⟩
    · obtain ⟨o', e1⟩ := I.base.there b o e hx
      exact ⟨o', (hs.2 b (Nat.ne_of_lt (Nat.lt_of_lt_of_le (Heap.lt_size e) (I.ok.cab x c hfn hc)))).trans e1⟩
    · by_cases hj : j = i
      · subst hj
        rw [hi] at e1; cases e1
        rw [List.getElem?_set_self hiσ] at e2
        cases e2
        exact ⟨u, r, .inr ⟨.inl hk, c, hc, hc'⟩⟩
      · rw [List.getElem?_set_ne (Ne.symm hj)] at e2
        obtain ⟨u', r', q⟩ := hl j y v' e1 e2 e3
        refine ⟨u', r', ?_⟩
        rcases q with q | ⟨k, c', e, z'⟩
        · exact .inl q
        · refine .inr ⟨k, c', e, z'.sameBut hs ?_⟩
          rintro rfl
          exact hj (nodup_ix hN e1 (I.ok.inj _ _ _ e hc ▸ hi))
    · by_cases hcc : c' = c
      · subst hcc; exact ⟨_, hc'⟩
      · obtain ⟨w2, z2⟩ := I.cell y c' e
        exact ⟨w2, z2.sameBut hs hcc⟩
    · obtain ⟨e, n, ne, nf, d⟩ := I.pin p hp
      refine ⟨(hs.2 p.1 ?_).trans e, n, ne, nf, d⟩
      intro q
      rw [q, hoc] at e
      have q' : oc = p.2 := Option.some.inj e
      exact d w' (by rw [← q']; exact hocd)
theorem store_ok {M : Model} {A : Around} {E : Value → Shared → Prop} {i : Nat} {x : Str} {v : V} {u : Value} {Q : Unit → Shared → Prop} (I : Inv X pins σ H s) (hN : X.N.Nodup) (hi : X.N[i]? = some x) (hx : Loc X.env.scope x) (r : RelV v u)
    (h : ∀ s', Inv X pins (σ.set i (some v)) H s' → Q () s') (hf : X.fn x = true ∨ X.env.scope.names.lookup x = some .local := by first | exact .inl rfl | exact .inr rfl | assumption) : wpAny M A (storeName X.env x u) Q E s :=
  store_ok2 I hN hi hx r (fun s' I' _ => h s' I') hf
theorem Inv.call' {s' : Shared} {ch : List Addr} (I : Inv X pins σ H s) (ho : s'.os = s.os) (u : Un (frs X.stack) ch H H' s.heap s'.heap) (hok : HOk X.prog X.w H' s'.heap) (hg : AllBare s'.gens)
    (hch : ∀ b ∈ ch, (b ∈ X.ex ∨ X.s₀.heap.objs.size ≤ b) ∧ b ≠ X.env.locals ∧ (∀ x c, X.env.cells.lookup x = some c → c ≠ b) ∧ ∀ p ∈ X.pn ++ pins, p.1 ≠ b) : Inv X pins σ H' s' := by
  obtain ⟨h', g', d', t', o'⟩ := s'
  have e : o' = s.os := ho
  subst e
  exact I.call (g' := g') (t' := t') (d' := d') u hok hg hch
end
abbrev XK := Value → Option Addr → Hp → Prop
abbrev St := List (Option V)
abbrev VK := V → Hp → Prop
abbrev TE := St → Hp → VK → Prop
abbrev TT := St → Hp → (Bool → Hp → Prop) → Prop
abbrev TA := St → Hp → (List V → Hp → Prop) → Prop
structure Ends where
  nx : St → Hp → Prop
  rt : VK
  bk : St → Hp → Prop := fun _ _ => False
  ct : St → Hp → Prop := fun _ _ => False
abbrev TS := Ends → St → Hp → Prop
def EP (X : Cx) (pins : List (Addr × Obj)) (σ : St) (Q : VK) (u : Value) (s' : Shared) : Prop := ∃ v H', Inv X pins σ H' s' ∧ RelV v u ∧ Q v H'
def TP (X : Cx) (pins : List (Addr × Obj)) (σ : St) (Q : Bool → Hp → Prop) (b : Bool) (s' : Shared) : Prop := ∃ H', Inv X pins σ H' s' ∧ Q b H'
def AP (X : Cx) (pins : List (Addr × Obj)) (σ : St) (Q : List V → Hp → Prop) (us : List Value) (s' : Shared) : Prop := ∃ vs H', Inv X pins σ H' s' ∧ Vals vs us ∧ Q vs H'
def SP (X : Cx) (pins : List (Addr × Obj)) (D : Ends) (f : Flow) (s' : Shared) : Prop :=
  match f with
  | .next => ∃ σ' H', Inv X pins σ' H' s' ∧ D.nx σ' H'
  | .brk => ∃ σ' H', Inv X pins σ' H' s' ∧ D.bk σ' H'
  | .cont => ∃ σ' H', Inv X pins σ' H' s' ∧ D.ct σ' H'
  | .ret u => ∃ v σ' H', Inv X pins σ' H' s' ∧ RelV v u ∧ D.rt v H'
def PE (X : Cx) (e : Expr) (t : TE) : Prop :=
  ∀ (pins : List (Addr × Obj)) (s : Shared) (σ : St) (H : Hp) (Q : VK), Inv X pins σ H s → t σ H Q → wpAny (model X.prog X.w) X.A (eval e X.env) (EP X pins σ Q) X.xe s
def PT (X : Cx) (e : Expr) (t : TT) : Prop :=
  ∀ (pins : List (Addr × Obj)) (s : Shared) (σ : St) (H : Hp) (Q : Bool → Hp → Prop), Inv X pins σ H s → t σ H Q → wpAny (model X.prog X.w) X.A (isTrue e X.env (eval e X.env)) (TP X pins σ Q) X.xe s
def PW (X : Cx) (e : Expr) (t : TT) : Prop :=
  ∀ (whole : Sem Value) (pins : List (Addr × Obj)) (s : Shared) (σ : St) (H : Hp) (Q : Bool → Hp → Prop), Inv X pins σ H s → t σ H Q → wpAny (model X.prog X.w) X.A (isTrue e X.env whole) (TP X pins σ Q) X.xe s
theorem PW.pt {X : Cx} {e : Expr} {t : TT} (h : PW X e t) : PT X e t := h _
def PA (X : Cx) (es : List Expr) (t : TA) : Prop :=
  ∀ (pos : Pos) (pins : List (Addr × Obj)) (s : Shared) (σ : St) (H : Hp) (Q : List V → Hp → Prop), Inv X pins σ H s → t σ H Q → wpAny (model X.prog X.w) X.A (spliced (backTo pos (starEach es X.env))) (AP X pins σ Q) X.xe s
def PS (X : Cx) (st : Stmt) (t : TS) : Prop :=
  ∀ (pins : List (Addr × Obj)) (s : Shared) (σ : St) (H : Hp) (D : Ends), Inv X pins σ H s → t D σ H → wpAny (model X.prog X.w) X.A (exec st X.env) (SP X pins D) X.xe s
def PSs (X : Cx) (st : List Stmt) (t : TS) : Prop :=
  ∀ (pins : List (Addr × Obj)) (s : Shared) (σ : St) (H : Hp) (D : Ends), Inv X pins σ H s → t D σ H → wpAny (model X.prog X.w) X.A (execs st X.env) (SP X pins D) X.xe s
theorem thn {α : Type} {t : Sem α} {Q Q' : α → Shared → Prop} {M : Model} {A : Around} {E : Value → Shared → Prop} {s : Shared} (h : wpAny M A t Q E s) (hQ : ∀ a s, Q a s → Q' a s) : wpAny M A t Q' E s := wpAny_mono h hQ fun _ _ x => x
end L2
namespace L2
open PySem PySem.Spec PyProof.Rows
section
variable {X : Cx}
def tVar (i : Nat) : TE := fun σ H Q => ∃ v, σ[i]? = some (some v) ∧ Q v H
def tC (v : V) : TE := fun _ H Q => Q v H
theorem pe_var {i : Nat} {x : Str} {pos : Pos} (hN : X.N[i]? = some x) (hv : Vis X.env.scope x) (hd : (x == ("__debug__" : Str)) = false := by decide) (hcd : (x == ("__classdict__" : Str)) = false := by decide) : PE X (.Name x pos) (tVar i) := by
  intro pins s σ H Q I h
  obtain ⟨v, e, h⟩ := h
  obtain ⟨m, hn, hl⟩ := I.loc
  obtain ⟨u, r, l⟩ := hl i x v hN e hv
  have fin : EP X pins σ Q u s := ⟨v, H, I, r, h⟩
  rcases l with ⟨hk, hm⟩ | ⟨hk, c, hc, hcell⟩
  · exact wpAny_Name (wpAny_loadName_local I.ok.kind hk hn hm fin) hd
  · rcases hk with hk | hk
    · exact wpAny_Name (wpAny_loadName_cell I.ok.kind hk hc hcell fin) hd
    · exact wpAny_Name (wpAny_loadName_free I.ok.kind hk hc hcell fin hcd) hd
theorem pe_int {i j pos} : PE X (.Constant (.int i) j pos) (tC (.int i)) := fun _ _ _ H _ I h => wpAny_Constant_int ⟨.int i, H, I.tok _, ⟨_, rfl⟩, h⟩
theorem pe_bl {b j pos} : PE X (.Constant (.bool b) j pos) (tC (.bl b)) := fun _ _ _ H _ I h => Constant_bool ⟨.bl b, H, I, rfl, h⟩
theorem pe_non {j pos} : PE X (.Constant .none j pos) (tC .non) := fun _ _ _ H _ I h => Constant_none ⟨.non, H, I, rfl, h⟩
theorem pe_str {x j pos} : PE X (.Constant (.str x) j pos) (tC (.str x)) := fun _ _ _ H _ I h => Calls.Constant_str ⟨.str x, H, I.tok _, ⟨_, rfl⟩, h⟩
def Gl (X : Cx) (x : Str) : Prop := X.env.kindOf x = some .globalImplicit
theorem ld_glob {E : Value → Shared → Prop} {pins : List (Addr × Obj)} {s : Shared} {σ : St} {H : Hp} {x : Str} {u : Value} {pos : Pos} {Q : Value → Shared → Prop} (I : Inv X pins σ H s) (hg : Gl X x) (hm : X.mg x = some u) (h : Q u s)
    (hd : (x == ("__debug__" : Str)) = false := by decide) : wpAny (model X.prog X.w) X.A (eval (.Name x pos) X.env) Q E s :=
  Calls.Name_function_global I.ok.kind hg (Calls.loadGlobal_global (by rw [I.ok.glob]; exact I.mod.glob.keeps I.bk) hm h) hd
theorem ld_blt {E : Value → Shared → Prop} {pins : List (Addr × Obj)} {s : Shared} {σ : St} {H : Hp} {x : Str} {u : Value} {pos : Pos} {Q : Value → Shared → Prop} (I : Inv X pins σ H s) (hg : Gl X x) (hm : X.mg x = none) (hv : bootBuiltins x = some u) (h : Q u s)
    (hn : x ≠ "__name__" := by decide) (hd : (x == ("__debug__" : Str)) = false := by decide) : wpAny (model X.prog X.w) X.A (eval (.Name x pos) X.env) Q E s := by
  obtain ⟨mb, h1, h2⟩ := I.mod.blt
  exact Calls.Name_function_global I.ok.kind hg (Calls.loadGlobal_builtin (by rw [I.ok.glob]; exact I.mod.glob.keeps I.bk) hm (by rw [I.ok.blt]; exact h1.keeps I.bk) ((h2 x hn).trans hv) h) hd
theorem pe_glob {x : Str} {v : V} {u : Value} {pos : Pos} (hg : Gl X x) (hm : X.mg x = some u) (r : RelV v u) (hd : (x == ("__debug__" : Str)) = false := by decide) : PE X (.Name x pos) (tC v) :=
  fun _ _ _ H _ I h => ld_glob I hg hm ⟨v, H, I, r, h⟩ hd
theorem pe_bltn {x : Str} {v : V} {u : Value} {pos : Pos} (hg : Gl X x) (hm : X.mg x = none) (hv : bootBuiltins x = some u) (r : RelV v u) (hn : x ≠ "__name__" := by decide) (hd : (x == ("__debug__" : Str)) = false := by decide) : PE X (.Name x pos) (tC v) :=
  fun _ _ _ H _ I h => ld_blt I hg hm hv ⟨v, H, I, r, h⟩ hn hd
def t2I (ta tb : TE) (k : Int → Int → Hp → Prop) : St → Hp → Prop := fun σ H => ta σ H fun x H1 => tb σ H1 fun y H2 => ∃ i j, x = .int i ∧ y = .int j ∧ k i j H2
def tAdd (ta tb : TE) : TE := fun σ H Q => t2I ta tb (fun i j H2 => Q (.int (i + j)) H2) σ H
def tSub (ta tb : TE) : TE := fun σ H Q => t2I ta tb (fun i j H2 => Q (.int (i - j)) H2) σ H
def tMul (ta tb : TE) : TE := fun σ H Q => t2I ta tb (fun i j H2 => (-(2 ^ 64) < i ∧ i < 2 ^ 64) ∧ Q (.int (i * j)) H2) σ H
variable {a b : Expr} {ta tb : TE} {pos : Pos}
def PC (X : Cx) (op : CmpOp) (a b : Expr) (t : TE) : Prop :=
  ∀ (pins : List (Addr × Obj)) (s : Shared) (σ : St) (H : Hp) (Q : VK), Inv X pins σ H s → t σ H Q →
    wpAny (model X.prog X.w) X.A (eval a X.env) (fun v s₁ => wpAny (model X.prog X.w) X.A (eval b X.env) (fun u s₂ => wpAny (model X.prog X.w) X.A (compareOp op v u) (EP X pins σ Q) X.xe s₂) X.xe s₁) X.xe s
def tCmp (p : Int → Int → Bool) (ta tb : TE) : TE := fun σ H Q => t2I ta tb (fun i j H2 => Q (.bl (p i j)) H2) σ H
abbrev tLt : TE → TE → TE := tCmp fun i j => decide (i < j)
abbrev tLe : TE → TE → TE := tCmp fun i j => decide (i ≤ j)
abbrev tGt : TE → TE → TE := tCmp fun i j => decide (j < i)
abbrev tGe : TE → TE → TE := tCmp fun i j => decide (j ≤ i)
abbrev tEqI : TE → TE → TE := tCmp fun i j => decide (i = j)
abbrev tNeI : TE → TE → TE := tCmp fun i j => !decide (i = j)
def tIsN (ta : TE) : TE := fun σ H Q => ta σ H fun x H1 => Q (.bl (decide (x = .non))) H1
def tNotN (ta : TE) : TE := fun σ H Q => ta σ H fun x H1 => Q (.bl (!decide (x = .non))) H1
def tB (t : TE) : TT := fun σ H Q => t σ H fun x H1 => ∃ c, x = .bl c ∧ Q c H1
variable {tA tB' : TT} {rest : List Expr}
def tAnd (t u : TT) : TT := fun σ H Q => t σ H fun c H1 => if c = true then u σ H1 Q else Q false H1
def tOr (t u : TT) : TT := fun σ H Q => t σ H fun c H1 => if c = true then Q true H1 else u σ H1 Q
def tNot (t : TT) : TT := fun σ H Q => t σ H fun c H1 => Q (!c) H1
theorem pw_and1 (ha : PT X a tA) : PW X (.BoolOp .And [a] pos) tA := by
  intro wh pins s σ H Q I h
  refine isTrue_and (thn (ha pins s σ H Q I h) fun c s1 e => ?_)
  cases c with
  | true => exact isTrue_and_nil e
  | false => exact e
theorem pw_or1 (ha : PT X a tA) : PW X (.BoolOp .Or [a] pos) tA := by
  intro wh pins s σ H Q I h
  refine isTrue_or (thn (ha pins s σ H Q I h) fun c s1 e => ?_)
  cases c with
  | false => exact isTrue_or_nil e
  | true => exact e
theorem pw_and (ha : PT X a tA) (hb : PW X (.BoolOp .And (b :: rest) pos) tB') : PW X (.BoolOp .And (a :: b :: rest) pos) (tAnd tA tB') := by
  intro wh pins s σ H Q I h
  refine isTrue_and (thn (ha pins s σ H _ I h) fun c s1 ⟨H1, I1, q1⟩ => ?_)
  cases c with
  | true => exact hb wh pins s1 σ H1 Q I1 q1
  | false => exact ⟨H1, I1, q1⟩
theorem pw_or (ha : PT X a tA) (hb : PW X (.BoolOp .Or (b :: rest) pos) tB') : PW X (.BoolOp .Or (a :: b :: rest) pos) (tOr tA tB') := by
  intro wh pins s σ H Q I h
  refine isTrue_or (thn (ha pins s σ H _ I h) fun c s1 ⟨H1, I1, q1⟩ => ?_)
  cases c with
  | true => exact ⟨H1, I1, q1⟩
  | false => exact hb wh pins s1 σ H1 Q I1 q1
theorem pt_not (ha : PT X a tA) : PT X (.UnaryOp .Not a pos) (tNot tA) := by
  intro pins s σ H Q I h
  exact isTrue_not (ha pins s σ H (fun c H1 => Q (!c) H1) I h)
def tAndV (ta tb : TE) : TE := fun σ H Q => ta σ H fun x H1 => ∃ c, x = .bl c ∧ if c = true then tb σ H1 Q else Q (.bl false) H1
def tOrV (ta tb : TE) : TE := fun σ H Q => ta σ H fun x H1 => ∃ c, x = .bl c ∧ if c = true then Q (.bl true) H1 else tb σ H1 Q
def tNotV (ta : TE) : TE := fun σ H Q => ta σ H fun x H1 => ∃ c, x = .bl c ∧ Q (.bl (!c)) H1
theorem pe_one {op} {t : TE} (h : PE X a t) : PE X (.BoolOp op [a] pos) t := fun pins s σ H Q I hw => BoolOp_one (h pins s σ H Q I hw)
theorem pe_and (ha : PE X a ta) (hb : PE X (.BoolOp .And (b :: rest) pos) tb) : PE X (.BoolOp .And (a :: b :: rest) pos) (tAndV ta tb) := by
  intro pins s σ H Q I h
  refine BoolOp_and (thn (ha pins s σ H _ I h) fun v s1 ⟨x, H1, I1, r1, q1⟩ => ?_)
  obtain ⟨c, rfl, q1⟩ := q1
  cases r1
  refine wpAny_truthy_bool ?_
  cases c with
  | true => exact hb pins s1 σ H1 Q I1 q1
  | false => exact ⟨.bl false, H1, I1, rfl, q1⟩
def tIf (t : TT) (ta tb : TE) : TE := fun σ H Q => t σ H fun c H1 => if c = true then ta σ H1 Q else tb σ H1 Q
end
end L2
namespace L2
open PySem PySem.Spec PyProof.Rows
def SqL (K : PySem.W.Frag) (H : Hp) (a : Addr) (xs : List V) : Prop :=
  Rd H a (.lst xs) ∨
    ∃ (o : Obj) (its : Array Value) (n : Nat), K.lookup a = some o ∧ o.cls = .type "list" ∧ o.dict = none ∧ o.data = .seq its n ∧ its.size ≤ sizeLine ∧ Vals xs its.toList
def SqT (K : PySem.W.Frag) (H : Hp) (a : Addr) (xs : List V) : Prop :=
  Rd H a (.tup xs) ∨
    ∃ (o : Obj) (its : Array Value) (n : Nat), K.lookup a = some o ∧ o.cls = .type "tuple" ∧ o.data = .seq its n ∧ its.size ≤ sizeLine ∧ Vals xs its.toList
def absV : Value → Option V
  | .none => some .non
  | .bool b => some (.bl b)
  | .int i _ => some (.int i)
  | .str x _ => some (.str x)
  | .bytes b _ => some (.byt b)
  | .float b _ => some (.flt b)
  | .ref a => some (.ref a)
  | .type n => some (.ty n)
  | _ => none
theorem RelV.abs {x : V} {u : Value} (r : RelV x u) : absV u = some x := by
  cases x with
  | non => cases r; rfl
  | bl _ => cases r; rfl
  | int _ => obtain ⟨t, rfl⟩ := r; rfl
  | str _ => obtain ⟨t, rfl⟩ := r; rfl
  | byt _ => obtain ⟨t, rfl⟩ := r; rfl
  | flt _ => obtain ⟨t, rfl⟩ := r; rfl
  | ref _ => cases r; rfl
  | ty _ => cases r; rfl
theorem RelV.inj {x y : V} {u : Value} (r : RelV x u) (q : RelV y u) : x = y := Option.some.inj (r.abs.symm.trans q.abs)
theorem Vals.inj : ∀ {xs ys : List V} {us : List Value}, Vals xs us → Vals ys us → xs = ys
  | _, _, _, .nil, .nil => rfl
  | _, _, _, .cons r t, .cons r' t' => by rw [r.inj r', Vals.inj t t']
section
variable {X : Cx} {pins : List (Addr × Obj)} {σ : St} {H : Hp} {s : Shared} {a : Addr} {xs ys : List V}
theorem SqL.of {K : PySem.W.Frag} (h : H a = some (.lst xs)) : SqL K H a xs := .inl (.inl h)
theorem SqT.of {K : PySem.W.Frag} (h : H a = some (.tup xs)) : SqT K H a xs := .inl (.inl h)
theorem Inv.list (I : Inv X pins σ H s) (h : SqL X.K H a xs) : ∃ its : List Value, Vals xs its ∧ PlainL s.heap a its.toArray ∧ xs.length ≤ sizeLine := by
  rcases h with h | ⟨o, its, n, hk, hc, hd, hs, hz, r⟩
  · obtain ⟨z, its, n, r, e⟩ := h.ok I.hok
    exact ⟨its, r, ⟨_, n, e, rfl, rfl, rfl⟩, z⟩
  · refine ⟨its.toList, r, ⟨o, n, I.kIn a o hk, hc, hd, by simpa using hs⟩, ?_⟩
    have e := r.length
    simp only [Array.length_toList] at e
    omega
theorem Inv.tuple (I : Inv X pins σ H s) (h : SqT X.K H a xs) : ∃ its : List Value, Vals xs its ∧ IsTup s.heap a its.toArray ∧ xs.length ≤ sizeLine := by
  rcases h with h | ⟨o, its, n, hk, hc, hs, hz, r⟩
  · obtain ⟨z, its, r, p⟩ := h.ok I.hok
    exact ⟨its, r, p, z⟩
  · refine ⟨its.toList, r, ⟨o, I.kIn a o hk, hc, n, by simpa using hs⟩, ?_⟩
    have e := r.length
    simp only [Array.length_toList] at e
    omega
theorem Inv.list_inj (I : Inv X pins σ H s) (h : SqL X.K H a xs) (h' : SqL X.K H a ys) : xs = ys := by
  obtain ⟨its, r, ⟨o, n, e, _, _, d⟩, _⟩ := I.list h
  obtain ⟨its', r', ⟨o', n', e', _, _, d'⟩, _⟩ := I.list h'
  rw [e] at e'; cases e'
  rw [d] at d'
  injection d' with d1 _
  have : its = its' := by simpa using congrArg Array.toList d1
  subst this
  exact r.inj r'
theorem Inv.tuple_inj (I : Inv X pins σ H s) (h : SqT X.K H a xs) (h' : SqT X.K H a ys) : xs = ys := by
  obtain ⟨its, r, ⟨o, e, _, n, d⟩, _⟩ := I.tuple h
  obtain ⟨its', r', ⟨o', e', _, n', d'⟩, _⟩ := I.tuple h'
  rw [e] at e'; cases e'
  rw [d] at d'
  injection d' with d1 _
  have : its = its' := by simpa using congrArg Array.toList d1
  subst this
  exact r.inj r'
end
abbrev Cx.wish (X : Cx) (E : Value → Shared → Prop) : Cx := { X with xe := E }
abbrev Cx.nox (X : Cx) : Cx := X.wish fun _ _ => False
theorem Cx.Ok.wish {X : Cx} (ok : X.Ok) (E : Value → Shared → Prop) : (X.wish E).Ok :=
  ⟨ok.mod, ok.kind, ok.glob, ok.blt, ok.above, ok.inj, ok.has, ok.cab, ok.hd, ok.frames, ok.stk, ok.exf, ok.bs, ok.bsz, ok.noex, ok.exfs, ok.funs, ok.frf⟩
theorem Cx.Ok.unwish {X : Cx} {E : Value → Shared → Prop} (ok : (X.wish E).Ok) : X.Ok :=
  ⟨ok.mod, ok.kind, ok.glob, ok.blt, ok.above, ok.inj, ok.has, ok.cab, ok.hd, ok.frames, ok.stk, ok.exf, ok.bs, ok.bsz, ok.noex, ok.exfs, ok.funs, ok.frf⟩
section
variable {X : Cx} {pins : List (Addr × Obj)} {σ : St} {H : Hp} {s : Shared} {E : Value → Shared → Prop}
theorem Inv.wish (I : Inv X pins σ H s) (E : Value → Shared → Prop) : Inv (X.wish E) pins σ H s := ⟨I.ok.wish E, I.os, I.bare, I.base, I.loc, I.cell, I.free, I.freeC, I.pin, I.hok, I.len⟩
theorem Inv.unwish (I : Inv (X.wish E) pins σ H s) : Inv X pins σ H s := ⟨I.ok.unwish, I.os, I.bare, I.base, I.loc, I.cell, I.free, I.freeC, I.pin, I.hok, I.len⟩
theorem SP.unwish {D : Ends} {f : Flow} {s' : Shared} (h : SP (X.wish E) pins D f s') : SP X pins D f s' := by
  cases f with
  | next => obtain ⟨σ', H', I, q⟩ := h; exact ⟨σ', H', I.unwish, q⟩
  | brk => obtain ⟨σ', H', I, q⟩ := h; exact ⟨σ', H', I.unwish, q⟩
  | cont => obtain ⟨σ', H', I, q⟩ := h; exact ⟨σ', H', I.unwish, q⟩
  | ret u => obtain ⟨v, σ', H', I, r, q⟩ := h; exact ⟨v, σ', H', I.unwish, r, q⟩
theorem PE.nox {e : Expr} {t : TE} (h : PE X.nox e t) : PE X e t := fun pins s σ H Q I hw =>
  wpAny_mono (h pins s σ H Q (I.wish _) hw) (fun _ _ ⟨v, H', I', r, q⟩ => ⟨v, H', I'.unwish, r, q⟩) fun _ _ z => False.elim z
theorem PT.nox {e : Expr} {t : TT} (h : PT X.nox e t) : PT X e t := fun pins s σ H Q I hw =>
  wpAny_mono (h pins s σ H Q (I.wish _) hw) (fun _ _ ⟨H', I', q⟩ => ⟨H', I'.unwish, q⟩) fun _ _ z => False.elim z
theorem PSs.nox {st : List Stmt} {t : TS} (h : PSs X.nox st t) : PSs X st t := fun pins s σ H D I hw =>
  wpAny_mono (h pins s σ H D (I.wish _) hw) (fun _ _ q => q.unwish) fun _ _ z => False.elim z
end
section
variable {X : Cx} {st : Stmt} {rest : List Stmt} {t u : TS} {e : Expr} {te : TE} {pos : Pos}
def tNext : TS := fun D σ H => D.nx σ H
def tSeq (t u : TS) : TS := fun D σ H => t { D with nx := u D } σ H
theorem pss_nil : PSs X [] tNext := fun _ _ σ H _ I h => wpAny_execs_nil ⟨σ, H, I, h⟩
theorem pss_cons (h1 : PS X st t) (h2 : PSs X rest u) : PSs X (st :: rest) (tSeq t u) := by
  intro pins s σ H D I h
  refine wpAny_execs_cons (thn (h1 pins s σ H { D with nx := u D } I h) fun f s1 q => ?_)
  cases f with
  | next =>
    obtain ⟨σ', H', I', q⟩ := q
    exact h2 pins s1 σ' H' D I' q
  | ret v => exact q
  | brk => exact q
  | cont => exact q
theorem pss_one (h1 : PS X st t) : PSs X [st] t := by
  intro pins s σ H D I h
  refine wpAny_execs_cons (thn (h1 pins s σ H D I h) fun f s1 q => ?_)
  cases f with
  | next => exact wpAny_execs_nil q
  | ret v => exact q
  | brk => exact q
  | cont => exact q
def tBreak : TS := fun D σ H => D.bk σ H
def tCont : TS := fun D σ H => D.ct σ H
theorem Inv.quiet {pins : List (Addr × Obj)} {σ : St} {H : Hp} {s : Shared} (I : Inv X pins σ H s) : interactive X.env = false := by simp [interactive, I.ok.kind]
def tDrop (te : TE) : TS := fun D σ H => te σ H fun _ H1 => D.nx σ H1
theorem ps_expr (he : PE X e te) (hs : swapsWith e none pos.line X.env = pure false := by rfl) : PS X (.Expr e pos) (tDrop te) := by
  intro pins s σ H D I h
  exact wpAny_Expr_any (thn (he pins s σ H _ I h) fun v s1 ⟨x, H1, I1, r1, q1⟩ => ⟨σ, H1, I1, q1⟩) I.quiet hs
def tRet (te : TE) : TS := fun D σ H => te σ H D.rt
theorem ps_ret (he : PE X e te) : PS X (.Return (some e) pos) (tRet te) := by
  intro pins s σ H D I h
  exact wpAny_Return_some (thn (he pins s σ H _ I h) fun v s1 ⟨x, H1, I1, r1, q1⟩ => ⟨x, σ, H1, I1, r1, q1⟩)
def tRetN : TS := fun D _ H => D.rt .non H
def tIfS (c : TT) (t u : TS) : TS := fun D σ H => c σ H fun b H1 => if b = true then t D σ H1 else u D σ H1
theorem ps_if {c : Expr} {a b : List Stmt} {tc : TT} (hc : PT X c tc) (ha : PSs X a t) (hb : PSs X b u) : PS X (.If c a b pos) (tIfS tc t u) := by
  intro pins s σ H D I h
  refine wpAny_If (thn (hc pins s σ H _ I h) fun d s1 ⟨H1, I1, q1⟩ => ?_)
  cases d with
  | true => exact ha pins s1 σ H1 D I1 q1
  | false => exact hb pins s1 σ H1 D I1 q1
def tNever : TS := fun _ _ _ => False
end
abbrev TG := V → St → Hp → (St → Hp → Prop) → Prop
abbrev TGs := List V → St → Hp → (St → Hp → Prop) → Prop
def PG (X : Cx) (target : Expr) (t : TG) : Prop :=
  ∀ (pins : List (Addr × Obj)) (s : Shared) (σ : St) (H : Hp) (v : V) (u : Value) (Q : St → Hp → Prop), Inv X pins σ H s → RelV v u → t v σ H Q →
    wpAny (model X.prog X.w) X.A (assign target X.env u) (fun _ s' => ∃ σ' H', Inv X pins σ' H' s' ∧ Q σ' H') X.xe s
def PGs (X : Cx) (ts : List Expr) (t : TGs) : Prop :=
  ∀ (pins : List (Addr × Obj)) (s : Shared) (σ : St) (H : Hp) (vs : List V) (us : List Value) (Q : St → Hp → Prop), Inv X pins σ H s → Vals vs us → t vs σ H Q →
    wpAny (model X.prog X.w) X.A (assignInOrder ((assignEach ts X.env).map (·.2)) us) (fun _ s' => ∃ σ' H', Inv X pins σ' H' s' ∧ Q σ' H') X.xe s
abbrev TSet := V → V → V → Hp → (Hp → Prop) → Prop
def PSet (X : Cx) (t : TSet) : Prop :=
  ∀ (pins : List (Addr × Obj)) (s : Shared) (σ : St) (H : Hp) (o i v : V) (ov iv u : Value) (Q : Hp → Prop), Inv X pins σ H s → RelV o ov → RelV i iv → RelV v u → t o i v H Q →
    wpAny (model X.prog X.w) X.A (setItem ov iv u) (fun _ s' => ∃ H', Inv X pins σ H' s' ∧ Q H') X.xe s
abbrev TIp := V → V → Hp → VK → Prop
def PIp (X : Cx) (op : Operator) (t : TIp) : Prop :=
  ∀ (pins : List (Addr × Obj)) (s : Shared) (σ : St) (H : Hp) (x y : V) (v u : Value) (Q : VK), Inv X pins σ H s → RelV x v → RelV y u → t x y H Q →
    wpAny (model X.prog X.w) X.A (inplaceOp op v u) (EP X pins σ Q) X.xe s
section
variable {X : Cx} {pos : Pos}
def gName (i : Nat) : TG := fun v σ H Q => Q (σ.set i (some v)) H
theorem pg_name {i : Nat} {x : Str} (hN : X.N.Nodup) (hi : X.N[i]? = some x) (hx : Loc X.env.scope x) (hf : X.fn x = true ∨ X.env.scope.names.lookup x = some .local := by first | exact .inl rfl | exact .inr rfl | assumption) : PG X (.Name x pos) (gName i) := by
  intro pins s σ H v u Q I r h
  exact wpAny_assign_Name (store_ok I hN hi hx r (fun s' I' => ⟨_, H, I', h⟩) hf)
def gNil : TGs := fun vs σ H Q => vs = [] ∧ Q σ H
def gCons (t : TG) (u : TGs) : TGs := fun vs σ H Q => ∃ v r, vs = v :: r ∧ t v σ H fun σ' H' => u r σ' H' Q
theorem pgs_nil : PGs X [] gNil := by
  intro pins s σ H vs us Q I r h
  obtain ⟨e, h⟩ := h
  subst e
  cases r
  exact assignInOrder_nil ⟨σ, H, I, h⟩
theorem pgs_cons {e : Expr} {es : List Expr} {t : TG} {u : TGs} (h1 : PG X e t) (h2 : PGs X es u)
    (hs : (assignEach (e :: es) X.env).map (·.2) = assign e X.env :: (assignEach es X.env).map (·.2) := by rfl) : PGs X (e :: es) (gCons t u) := by
  intro pins s σ H vs us Q I r h
  obtain ⟨v, vr, e1, h⟩ := h
  subst e1
  cases r with
  | cons r rr =>
    rw [hs]
    refine assignInOrder_cons (thn (h1 pins s σ H _ _ _ I r h) fun _ s1 ⟨σ1, H1, I1, q1⟩ => ?_)
    exact h2 pins s1 σ1 H1 _ _ Q I1 rr q1
def gTup (K : PySem.W.Frag) (n : Nat) (t : TGs) : TG := fun v σ H Q => ∃ a xs, v = .ref a ∧ SqT K H a xs ∧ xs.length = n ∧ t xs σ H Q
theorem pg_tup {es : List Expr} {k : Nat} {t : TGs} {n : Nat} (hc : X.calm = true) (h : PGs X es t)
    (hn : (assignEach es X.env).length = n := by rfl) (hst : (assignEach es X.env).findIdx? (·.1) = none := by rfl) : PG X (.Tuple es k pos) (gTup X.K n t) := by
  intro pins s σ H v u Q I r hw
  obtain ⟨a, xs, e1, hq, hl, hw⟩ := hw
  subst e1
  cases r
  obtain ⟨its, rv, ht, hz⟩ := I.tuple hq
  refine assign_Tuple_tuple (I.ok.hd hc) ht (by simp [hn, ← hl, rv.length]) hst fun h' hx => ?_
  have I1 : Inv X pins σ H { s with heap := h' } := I.kept (t' := s.toks) fun b o e => hx b o (Nat.ne_of_lt (Heap.lt_size e)) e
  exact h pins _ σ H xs _ Q I1 (by simpa using rv) hw
def gSub (to ti : TE) (t : TSet) : TG := fun v σ H Q => to σ H fun o H1 => ti σ H1 fun i H2 => t o i v H2 fun H3 => Q σ H3
def tAsg (te : TE) (g : TG) : TS := fun D σ H => te σ H fun x H1 => g x σ H1 D.nx
theorem ps_asg {tg e : Expr} {te : TE} {g : TG} (he : PE X e te) (hg : PG X tg g) (hs : swapsWithSole [tg] e pos.line X.env = pure false := by rfl) (hw : swappedStores [tg] e X.env = pure none := by rfl)
    (h1 : (assignEach [tg] X.env).map (·.2) = [assign tg X.env] := by rfl) : PS X (.Assign [tg] e pos) (tAsg te g) := by
  intro pins s σ H D I h
  refine wpAny_Assign_stores (thn (he pins s σ H _ I h) fun v s1 ⟨x, H1, I1, r1, q1⟩ => ?_) hs hw
  rw [h1]
  exact thn (hg pins s1 σ H1 x v _ I1 r1 q1) fun _ s2 q => q
theorem ps_set {i : Nat} {x : Str} {e : Expr} {te : TE} {pos' : Pos} (hN : X.N.Nodup) (hi : X.N[i]? = some x) (hx : Loc X.env.scope x) (he : PE X e te) (hs : swapsWith e (some (.Name x pos')) pos.line X.env = pure false := by rfl) (hf : X.fn x = true ∨ X.env.scope.names.lookup x = some .local := by first | exact .inl rfl | exact .inr rfl | assumption) :
    PS X (.Assign [.Name x pos'] e pos) (tAsg te (gName i)) := by
  intro pins s σ H D I h
  refine wpAny_Assign_Name (thn (he pins s σ H _ I h) fun v s1 ⟨y, H1, I1, r1, q1⟩ => ?_) hs
  exact store_ok I1 hN hi hx r1 (fun s2 I2 => ⟨_, H1, I2, q1⟩) hf
def tPar (i j : Nat) (ta : TA) : TS := fun D σ H => ta σ H fun vs H1 => ∃ v w, vs = [v, w] ∧ D.nx ((σ.set i (some v)).set j (some w)) H1
def tAug (i : Nat) (te : TE) (ti : TIp) : TS := fun D σ H => ∃ x, σ[i]? = some (some x) ∧ te σ H fun y H1 => ti x y H1 fun z H2 => D.nx (σ.set i (some z)) H2
def tAugS (to ti te : TE) (tget : V → V → Hp → VK → Prop) (tip : TIp) (tset : TSet) : TS := fun D σ H => to σ H fun o H1 => ti σ H1 fun i H2 => tget o i H2 fun x H3 => te σ H3 fun y H4 => tip x y H4 fun z H5 => tset o i z H5 fun H6 => D.nx σ H6
def PGet (X : Cx) (t : V → V → Hp → VK → Prop) : Prop :=
  ∀ (pins : List (Addr × Obj)) (s : Shared) (σ : St) (H : Hp) (o i : V) (ov iv : Value) (Q : VK), Inv X pins σ H s → RelV o ov → RelV i iv → t o i H Q →
    wpAny (model X.prog X.w) X.A (getItem ov iv) (EP X pins σ Q) X.xe s
def ipI (f : Int → Int → Int) : TIp := fun x y H Q => ∃ i j, x = .int i ∧ y = .int j ∧ Q (.int (f i j)) H
end
section
variable {X : Cx} {pos : Pos}
def tWhile (c : TT) (tb : TS) : TS := fun D σ H => ∃ W : Nat → St → Hp → Prop, (∃ m, W m σ H) ∧ ∀ m σ H, W m σ H →
  c σ H fun b H1 => if b = true then ∃ N : St → Hp → Prop, (∀ σ' H', N σ' H' → ∃ m', m' < m ∧ W m' σ' H') ∧ tb { D with nx := N, ct := N, bk := D.nx } σ H1 else D.nx σ H1
theorem ps_while {c : Expr} {body : List Stmt} {tc : TT} {tb : TS} (hp : PassesOwn (model X.prog X.w) X.A X.env X.xe) (hc : PT X c tc) (hb : PSs X body tb) : PS X (.While c body [] pos) (tWhile tc tb) := by
  intro pins s σ H D I h
  obtain ⟨W, ⟨m0, w0⟩, turn⟩ := h
  refine wpAny_While (codeAny_whileLoop (fun n s' => ∃ σ' H', Inv X pins σ' H' s' ∧ W n σ' H') ?_ m0 ⟨σ, H, I, w0⟩)
  rintro n s1 ⟨σ1, H1, I1, w1⟩
  refine wpAny_passesOwn hp (thn (hc pins s1 σ1 H1 _ I1 (turn n σ1 H1 w1)) fun b s2 ⟨H2, I2, q2⟩ => ?_)
  cases b with
  | true =>
    obtain ⟨N, hN, q2⟩ := q2
    rw [if_pos rfl]
    refine wpAny_passesOwn hp (thn (hb pins s2 σ1 H2 _ I2 q2) fun f s3 q3 => ?_)
    cases f with
    | next =>
      obtain ⟨σ3, H3, I3, n3⟩ := q3
      obtain ⟨m', hm, w3⟩ := hN σ3 H3 n3
      exact ⟨m', hm, σ3, H3, I3, w3⟩
    | cont =>
      obtain ⟨σ3, H3, I3, n3⟩ := q3
      obtain ⟨m', hm, w3⟩ := hN σ3 H3 n3
      exact ⟨m', hm, σ3, H3, I3, w3⟩
    | brk => exact q3
    | ret v => exact q3
  | false =>
    rw [if_neg Bool.false_ne_true]
    exact wpAny_execs_nil ⟨σ1, H2, I2, q2⟩
end
structure It where
  go : Nat → Hp → Prop
  yld : Nat → Hp → V → Hp → Prop
  stop : Nat → Hp → Prop
def FpOk (X : Cx) (pins : List (Addr × Obj)) (H : Hp) (b : Addr) : Prop :=
  H b = none ∧ b ≠ X.env.locals ∧ b ∉ X.fs ∧ (b ∈ X.ex ∨ X.s₀.heap.objs.size ≤ b) ∧ (∀ x c, X.env.cells.lookup x = some c → c ≠ b) ∧ ∀ p ∈ X.pn ++ pins, p.1 ≠ b
theorem Inv.fpOk {X : Cx} {pins : List (Addr × Obj)} {σ : St} {H H' : Hp} {s : Shared} {b : Addr} (I : Inv X pins σ H s) (hb : s.heap.objs.size ≤ b) (hn : H' b = none) : FpOk X pins H' b := by
  refine ⟨hn, Nat.ne_of_gt (Nat.lt_of_lt_of_le I.lt hb), I.nofs hb, .inr (Nat.le_trans I.sz hb), fun x c e z => ?_, fun p hp z => ?_⟩
  · obtain ⟨v, q⟩ := I.cell x c e
    exact absurd (Nat.lt_of_lt_of_le q.lt (by rw [z]; exact hb)) (Nat.lt_irrefl _)
  · exact absurd (Nat.lt_of_lt_of_le (Heap.lt_size (I.pin p hp).1) (by rw [z]; exact hb)) (Nat.lt_irrefl _)
structure Turn (P : Program) (w : World) (K : PySem.W.Frag) (tg : Expr) (J : It) (fp : List Addr) (it : Addr) (tn : Nat → Heap → Prop) : Prop where
  mem : it ∈ fp
  obj : ∀ i h, tn i h → ∀ b ∈ fp, ∃ o, h.get? b = some o ∧ ∀ v, o.data ≠ .cell v
  keep : ∀ i h h', tn i h → (∀ b ∈ fp, ∀ o, h.get? b = some o → h'.get? b = some o) → tn i h'
  item : ∀ (X : Cx), X.prog = P → X.w = w → X.K = K → X.calm = true → ∀ (i : Nat) (pins : List (Addr × Obj)) (s : Shared) (σ : St) (H : Hp) (E : Value → Shared → Prop), Inv X pins σ H s → (∀ b ∈ fp, FpOk X pins H b) → tn i s.heap → J.go i H →
    wpAny (model P w) X.A (pyNext (.ref it)) (fun r s1 => ∃ u, r = some u ∧
      wpAny (model P w) X.A (letOwnedTupleGo tg (.ref it) u) (fun _ s2 => ∃ x H', Inv X pins σ H' s2 ∧ RelV x u ∧ J.yld i H x H' ∧ tn (i + 1) s2.heap ∧ ∀ b ∈ fp, H' b = none) E s1) E s
  done : ∀ (X : Cx), X.prog = P → X.w = w → X.K = K → X.calm = true → ∀ (i : Nat) (pins : List (Addr × Obj)) (s : Shared) (σ : St) (H : Hp) (E : Value → Shared → Prop), Inv X pins σ H s → (∀ b ∈ fp, FpOk X pins H b) → tn i s.heap → J.stop i H →
    wpAny (model P w) X.A (pyNext (.ref it)) (fun r s1 => r = none ∧ Inv X pins σ H s1) E s
  self : ∀ (A : Around) (i : Nat) (s : Shared) (Q : Value → Shared → Prop) (E : Value → Shared → Prop), tn i s.heap → Q (.ref it) s → wpAny (model P w) A (pyIter (.ref it)) Q E s
abbrev TI := St → Hp → (It → Hp → Prop) → Prop
def PIE (X : Cx) (pins : List (Addr × Obj)) (σ : St) (tg : Expr) (R : It → Hp → Prop) (itv : Value) (s2 : Shared) : Prop :=
  ∃ (it : Addr) (fp : List Addr) (tn : Nat → Heap → Prop) (J : It) (H' : Hp), itv = .ref it ∧ Inv X pins σ H' s2 ∧ Turn X.prog X.w X.K tg J fp it tn ∧ tn 0 s2.heap ∧ (∀ b ∈ fp, FpOk X pins H' b) ∧ R J H'
def PI (X : Cx) (tg iter : Expr) (wi : TI) : Prop :=
  ∀ (pins : List (Addr × Obj)) (s : Shared) (σ : St) (H : Hp) (R : It → Hp → Prop), Inv X pins σ H s → wi σ H R →
    wpAny (model X.prog X.w) X.A (eval iter X.env) (fun v s1 => wpAny (model X.prog X.w) X.A (pyIter v) (PIE X pins σ tg R) X.xe s1) X.xe s
theorem go_of {M : Model} {A : Around} {E : Value → Shared → Prop} {s : Shared} {tg : Expr} {it : Addr} {u : Value} {o : Obj} {n : String} {vs : Array Value} {Q : Unit → Shared → Prop} (ho : s.heap.get? it = some o) (hc : o.cls = .type n) (hd : o.data = .fields vs)
    (hn : ["enumerate", "zip", "dict_itemiterator", "dict_reverseitemiterator", "odict_iterator", "itertools.zip_longest", "itertools.pairwise"].contains n = false) (hQ : Q () s) : wpAny M A (letOwnedTupleGo tg (.ref it) u) Q E s := by
  unfold letOwnedTupleGo
  cases tg <;> first
    | exact wpAny_pure hQ
    | (cases u <;> first
        | exact wpAny_pure hQ
        | (refine wpAny_bind (wpAny_load ho ?_)
           rw [hc, hd]
           show wpAny M A (if (["enumerate", "zip", "dict_itemiterator", "dict_reverseitemiterator", "odict_iterator", "itertools.zip_longest", "itertools.pairwise"].contains n && vs[0]? == some (rawInt _)) = true then _ else _) Q E s
           rw [if_neg (by intro h; rw [hn, Bool.false_and] at h; cases h)]
           exact wpAny_pure hQ))
def Itl (K : PySem.W.Frag) (a : Addr) : It :=
  ⟨fun i H => ∃ xs x, SqL K H a xs ∧ xs[i]? = some x, fun i H x H' => H' = H ∧ ∀ xs, SqL K H a xs → xs[i]? = some x, fun i H => ∃ xs, SqL K H a xs ∧ xs.length ≤ i⟩
def Itt (K : PySem.W.Frag) (a : Addr) : It :=
  ⟨fun i H => ∃ xs x, SqT K H a xs ∧ xs[i]? = some x, fun i H x H' => H' = H ∧ ∀ xs, SqT K H a xs → xs[i]? = some x, fun i H => ∃ xs, SqT K H a xs ∧ xs.length ≤ i⟩
def Itr (lo : Int) (n : Nat) : It := ⟨fun i _ => i < n, fun i H x H' => H' = H ∧ x = .int (lo + i), fun i _ => n ≤ i⟩
theorem turn_list {P : Program} {w : World} {K : PySem.W.Frag} {tg : Expr} (a it : Addr) : Turn P w K tg (Itl K a) [it] it (fun i h => h.IsListIter it a i) where
  mem := by simp
  obj := fun i h st b hb => by
    have e : b = it := by simpa using hb
    subst e
    obtain ⟨o, e, c, d⟩ := st
    exact ⟨o, e, fun v z => by rw [d] at z; cases z⟩
  keep := fun i h h' st k => st.at fun o e => k it (by simp) o e
  item := by
    intro X hP hw hK hc i pins s σ H E I hf st hg
    subst hP hw hK
    obtain ⟨xs, x, hq, hx⟩ := hg
    obtain ⟨its, rv, p, hz⟩ := I.list hq
    obtain ⟨u, hu, ru⟩ := rv.get hx
    obtain ⟨f0, f1, f2, f3, f4, f5⟩ := hf it (by simp)
    refine wpAny_pyNext_list_item st p.isList (x := u) (by simpa using hu) fun h' st' sb => ?_
    have I1 : Inv X pins σ H { s with heap := h' } := I.turned (t' := s.toks) (fun b o hb e => (sb.2 b hb).trans e) f0 f1 f3 f4 f5
    obtain ⟨o, e, c, d⟩ := id st'
    exact ⟨u, rfl, go_of (s := { s with heap := h' }) e c d (by decide) ⟨x, H, I1, ru, ⟨rfl, fun ys hy => by rw [I.list_inj hy hq]; exact hx⟩, st', fun b hb => (hf b hb).1⟩⟩
  done := by
    intro X hP hw hK hc i pins s σ H E I hf st hg
    subst hP hw hK
    obtain ⟨xs, hq, hx⟩ := hg
    obtain ⟨its, rv, p, hz⟩ := I.list hq
    obtain ⟨f0, f1, f2, f3, f4, f5⟩ := hf it (by simp)
    have hl := rv.length
    exact wpAny_pyNext_list_end (I.ok.hd hc) st p.isList (by simp; omega) fun h' eb => ⟨rfl, I.turned (t' := s.toks) (fun b o hb e => eb b o hb e) f0 f1 f3 f4 f5⟩
  self := fun _ _ _ _ _ st h => wpAny_pyIter_listiter st h
theorem turn_tuple {P : Program} {w : World} {K : PySem.W.Frag} {tg : Expr} (a it : Addr) : Turn P w K tg (Itt K a) [it] it (fun i h => h.IsTupleIter it a i) where
  mem := by simp
  obj := fun i h st b hb => by
    have e : b = it := by simpa using hb
    subst e
    obtain ⟨o, e, c, d⟩ := st
    exact ⟨o, e, fun v z => by rw [d] at z; cases z⟩
  keep := fun i h h' st k => st.at fun o e => k it (by simp) o e
  item := by
    intro X hP hw hK hc i pins s σ H E I hf st hg
    subst hP hw hK
    obtain ⟨xs, x, hq, hx⟩ := hg
    obtain ⟨its, rv, p, hz⟩ := I.tuple hq
    obtain ⟨u, hu, ru⟩ := rv.get hx
    obtain ⟨f0, f1, f2, f3, f4, f5⟩ := hf it (by simp)
    refine wpAny_pyNext_tuple_item st (show s.heap.IsTuple a its.toArray from p) (x := u) (by simpa using hu) fun h' st' sb => ?_
    have I1 : Inv X pins σ H { s with heap := h' } := I.turned (t' := s.toks) (fun b o hb e => (sb.2 b hb).trans e) f0 f1 f3 f4 f5
    obtain ⟨o, e, c, d⟩ := id st'
    exact ⟨u, rfl, go_of (s := { s with heap := h' }) e c d (by decide) ⟨x, H, I1, ru, ⟨rfl, fun ys hy => by rw [I.tuple_inj hy hq]; exact hx⟩, st', fun b hb => (hf b hb).1⟩⟩
  done := by
    intro X hP hw hK hc i pins s σ H E I hf st hg
    subst hP hw hK
    obtain ⟨xs, hq, hx⟩ := hg
    obtain ⟨its, rv, p, hz⟩ := I.tuple hq
    obtain ⟨f0, f1, f2, f3, f4, f5⟩ := hf it (by simp)
    have hl := rv.length
    exact wpAny_pyNext_tuple_end (I.ok.hd hc) st (show s.heap.IsTuple a its.toArray from p) (by simp; omega) fun h' eb => ⟨rfl, I.turned (t' := s.toks) (fun b o hb e => eb b o hb e) f0 f1 f3 f4 f5⟩
  self := fun _ _ _ _ _ st h => wpAny_pyIter_tupleiter st h
theorem turn_range {P : Program} {w : World} {K : PySem.W.Frag} {tg : Expr} (it : Addr) (lo : Int) (n : Nat) : Turn P w K tg (Itr lo n) [it] it (fun i h => IsRangeIter h it (lo + (i : Nat) * 1) ((n : Int) - (i : Nat)) 1) where
  mem := by simp
  obj := fun i h st b hb => by
    have e : b = it := by simpa using hb
    subst e
    exact ⟨_, st, fun v z => by
      have z' : Data.fields _ = Data.cell v := z
      cases z'⟩
  keep := fun i h h' st k => k it (by simp) _ st
  item := by
    intro X hP hw hK hc i pins s σ H E I hf st hg
    subst hP hw hK
    obtain ⟨f0, f1, f2, f3, f4, f5⟩ := hf it (by simp)
    have W := Walks.range (prog := X.prog) (w := X.w) (I.ok.hd hc) it lo 1 n
    refine W.item i s _ _ hg st fun v h' tk hv st' kk => ?_
    obtain ⟨t, rfl⟩ := hv
    have I1 : Inv X pins σ H { s with heap := h', toks := tk } := I.turned (fun b o hb e => kk b o (by simpa using hb) e) f0 f1 f3 f4 f5
    refine ⟨_, rfl, go_of (s := { s with heap := h', toks := tk }) (n := "range_iterator") st' rfl rfl (by decide) ⟨.int (lo + i), H, I1, ⟨t, ?_⟩, ⟨rfl, rfl⟩, st', fun b hb => (hf b hb).1⟩⟩
    rw [Int.mul_one]
  done := by
    intro X hP hw hK hc i pins s σ H E I hf st hg
    subst hP hw hK
    obtain ⟨f0, f1, f2, f3, f4, f5⟩ := hf it (by simp)
    exact wpAny_pyNext_range_end (I.ok.hd hc) st (by have : n ≤ i := hg; omega) fun h' eb => ⟨rfl, I.turned (t' := s.toks) (fun b o hb e => eb b o hb e) f0 f1 f3 f4 f5⟩
  self := fun _ _ _ _ _ st h => wpAny_pyIter_rangeiter st h
end L2
namespace L2
open PySem PySem.Spec PyProof.Rows
section
variable {X : Cx} {tg : Expr}
def iList (K : PySem.W.Frag) (tl : TE) : TI := fun σ H R => tl σ H fun x H1 => ∃ a, x = .ref a ∧ (∃ xs, SqL K H1 a xs) ∧ R (Itl K a) H1
def iTup (K : PySem.W.Frag) (tl : TE) : TI := fun σ H R => tl σ H fun x H1 => ∃ a, x = .ref a ∧ (∃ xs, SqT K H1 a xs) ∧ R (Itt K a) H1
theorem pi_list {l : Expr} {tl : TE} (hl : PE X l tl) : PI X tg l (iList X.K tl) := by
  intro pins s σ H R I h
  refine thn (hl pins s σ H _ I h) fun v s1 ⟨x, H1, I1, r1, q1⟩ => ?_
  obtain ⟨a, e, ⟨xs, hq⟩, q⟩ := q1
  subst e
  cases r1
  obtain ⟨its, rv, p, hz⟩ := I1.list hq
  refine wpAny_pyIter_list p.isList ?_
  refine ⟨s1.heap.objs.size, [s1.heap.objs.size], _, _, H1, rfl, I1.kept (t' := s1.toks) fun b o e => Heap.get?_push_of_some _ e, turn_list a _, ⟨_, Heap.get?_push_size _ rfl, rfl, rfl⟩, fun b hb => ?_, q⟩
  have e : b = s1.heap.objs.size := by simpa using hb
  subst e
  exact I1.fpOk (Nat.le_refl _) (I1.hok.fresh (Nat.le_refl _))
theorem pi_tup {l : Expr} {tl : TE} (hl : PE X l tl) : PI X tg l (iTup X.K tl) := by
  intro pins s σ H R I h
  refine thn (hl pins s σ H _ I h) fun v s1 ⟨x, H1, I1, r1, q1⟩ => ?_
  obtain ⟨a, e, ⟨xs, hq⟩, q⟩ := q1
  subst e
  cases r1
  obtain ⟨its, rv, p, hz⟩ := I1.tuple hq
  refine wpAny_pyIter_tuple (show s1.heap.IsTuple a its.toArray from p) ?_
  refine ⟨s1.heap.objs.size, [s1.heap.objs.size], _, _, H1, rfl, I1.kept (t' := s1.toks) fun b o e => Heap.get?_push_of_some _ e, turn_tuple a _, ⟨_, Heap.get?_push_size _ rfl, rfl, rfl⟩, fun b hb => ?_, q⟩
  have e : b = s1.heap.objs.size := by simpa using hb
  subst e
  exact I1.fpOk (Nat.le_refl _) (I1.hok.fresh (Nat.le_refl _))
theorem range_it {pins : List (Addr × Obj)} {σ : St} {H : Hp} {s : Shared} {R : It → Hp → Prop} {E : Value → Shared → Prop} {lo hi : Int} {t u v : Tok} {tk : Nat} (I : Inv X pins σ H s) (h1 : -(2 ^ 62) ≤ lo) (h2 : lo < 2 ^ 62) (h3 : -(2 ^ 62) ≤ hi) (h4 : hi < 2 ^ 62)
    (q : R (Itr lo (hi - lo).toNat) H) : wpAny (model X.prog X.w) X.A (pyIter (.ref s.heap.objs.size)) (PIE X pins σ tg R) E { s with heap := s.heap.push { cls := .type "range", data := .fields #[.int lo t, .int hi u, .int 1 v] }, toks := tk } := by
  refine wpAny_pyIter_range (IsRange.new ..) (small_one h1 h2 h3 h4) ?_
  have I1 : Inv X pins σ H { s with heap := s.heap.push { cls := .type "range", data := .fields #[.int lo t, .int hi u, .int 1 v] }, toks := tk } := I.kept fun b o e => Heap.get?_push_of_some _ e
  refine ⟨(s.heap.push { cls := .type "range", data := .fields #[.int lo t, .int hi u, .int 1 v] }).objs.size, [(s.heap.push { cls := .type "range", data := .fields #[.int lo t, .int hi u, .int 1 v] }).objs.size], _, _, H, rfl,
    I1.kept (t' := tk) fun b o e => Heap.get?_push_of_some _ e, turn_range _ lo (hi - lo).toNat, ?_, fun b hb => ?_, q⟩
  · have e1 : lo + ((0 : Nat) : Int) * 1 = lo := by simp
    have e2 : (((hi - lo).toNat : Nat) : Int) - ((0 : Nat) : Int) = Builtin.Range.rangeSize lo hi 1 := by rw [rangeSize_one]; split <;> omega
    show IsRangeIter _ _ (lo + ((0 : Nat) : Int) * 1) ((((hi - lo).toNat : Nat) : Int) - ((0 : Nat) : Int)) 1
    rw [e1, e2]
    exact Heap.get?_push_size _ rfl
  · have e : b = (s.heap.push { cls := .type "range", data := .fields #[.int lo t, .int hi u, .int 1 v] }).objs.size := by simpa using hb
    subst e
    exact I1.fpOk (Nat.le_refl _) (I1.hok.fresh (Nat.le_refl _))
def iRng1 (ta : TA) : TI := fun σ H R => ta σ H fun vs H1 => ∃ j : Int, vs = [.int j] ∧ -(2 ^ 62) ≤ j ∧ j < 2 ^ 62 ∧ R (Itr 0 j.toNat) H1
def iRng2 (ta : TA) : TI := fun σ H R => ta σ H fun vs H1 => ∃ i j : Int, vs = [.int i, .int j] ∧ (-(2 ^ 62) ≤ i ∧ i < 2 ^ 62 ∧ -(2 ^ 62) ≤ j ∧ j < 2 ^ 62) ∧ R (Itr i (j - i).toNat) H1
theorem pi_range1 {a : Expr} {ta : TA} {p pos : Pos} (hg : Gl X "range") (hm : X.mg "range" = none) (ha : PA X [a] ta) (hs : starEach [a] X.env = [(false, eval a X.env)] := by rfl) : PI X tg (.Call (.Name "range" p) [a] [] pos) (iRng1 ta) := by
  intro pins s σ H R I h
  refine Call_ (ld_blt I hg hm boot_range (PyProof.Rows.callWith_type1 (thn (ha pos pins s σ H _ I h) fun us s1 ⟨vs, H1, I1, r1, q1⟩ => ?_) hs rfl))
  obtain ⟨j, e, q1, q2, q⟩ := q1
  subst e
  cases r1 with
  | cons r rr =>
    cases rr
    obtain ⟨t, rfl⟩ := r
    exact call_range_1 (range_it I1 (by omega) (by omega) q1 q2 (by simpa using q))
def tFor (wi : TI) (g : TG) (tb : TS) : TS := fun D σ H => wi σ H fun J H1 => ∃ W : Nat → Nat → St → Hp → Prop, (∃ m, W 0 m σ H1) ∧ ∀ i m σ H, W i m σ H →
  (J.stop i H ∧ D.nx σ H) ∨ (J.go i H ∧ ∃ N : St → Hp → Prop, (∀ σ' H', N σ' H' → ∃ m', m' < m ∧ W (i + 1) m' σ' H') ∧ ∀ x H', J.yld i H x H' → g x σ H' fun σ2 H2 => tb { D with nx := N, ct := N, bk := D.nx } σ2 H2)
def pinsAt (fp : List Addr) (h : Heap) : List (Addr × Obj) := fp.filterMap fun b => (h.get? b).map fun o => (b, o)
theorem mem_pinsAt {fp : List Addr} {h : Heap} {b : Addr} {o : Obj} (hb : b ∈ fp) (e : h.get? b = some o) : (b, o) ∈ pinsAt fp h := List.mem_filterMap.mpr ⟨b, hb, by rw [e]; rfl⟩
theorem of_pinsAt {fp : List Addr} {h : Heap} {p : Addr × Obj} (hp : p ∈ pinsAt fp h) : p.1 ∈ fp ∧ h.get? p.1 = some p.2 := by
  obtain ⟨b, hb, e⟩ := List.mem_filterMap.mp hp
  cases q : h.get? b with
  | none => rw [q] at e; cases e
  | some o =>
    rw [q] at e
    have e' : (b, o) = p := Option.some.inj e
    subst e'
    exact ⟨hb, q⟩
theorem Inv.pinned {pins : List (Addr × Obj)} {σ : St} {H : Hp} {s : Shared} {fp : List Addr} (I : Inv X pins σ H s) (hf : ∀ b ∈ fp, FpOk X pins H b) (ho : ∀ b ∈ fp, ∃ o, s.heap.get? b = some o ∧ ∀ v, o.data ≠ .cell v) : Inv X (pins ++ pinsAt fp s.heap) σ H s :=
  I.pins_of fun p hp => (List.mem_append.mp hp).elim (fun z => I.pin p (List.mem_append_right _ z)) fun z => by
    obtain ⟨hb, e⟩ := of_pinsAt z
    obtain ⟨f0, f1, f2, _⟩ := hf p.1 hb
    obtain ⟨o, e', d⟩ := ho p.1 hb
    rw [e] at e'; cases e'
    exact ⟨e, f0, f1, f2, d⟩
theorem Inv.unpinned {pins pl : List (Addr × Obj)} {σ : St} {H : Hp} {s : Shared} (I : Inv X (pins ++ pl) σ H s) : Inv X pins σ H s := I.pins_of fun p hp => I.pin p (List.mem_append_right _ (List.mem_append_left _ hp))
theorem ps_for {iter : Expr} {body : List Stmt} {wi : TI} {g : TG} {tb : TS} {pos : Pos} (hp : PassesOwn (model X.prog X.w) X.A X.env X.xe) (hc : X.calm = true) (hi : PI X tg iter wi) (hg : PG X tg g) (hb : PSs X body tb)
    (hs : ∀ x, foldedSetIterable iter X.env x = pure x := by intro _; rfl) : PS X (.For tg iter body [] pos) (tFor wi g tb) := by
  intro pins s σ H D I h
  refine wpAny_For (thn (hi pins s σ H _ I h) fun v s1 h1 => thn h1 fun itv s2 h2 => ?_) hs
  obtain ⟨it, fp, tn, J, H2, e, I2, T, st2, f2, W, ⟨m0, w0⟩, turn⟩ := h2
  subst e
  have stat : ∀ {H' : Hp}, (∀ b ∈ fp, H' b = none) → ∀ b ∈ fp, FpOk X pins H' b := fun hn b hb => ⟨hn b hb, (f2 b hb).2⟩
  refine codeAny_forLoop_any (fun n s' => ∃ i σ' H', Inv X pins σ' H' s' ∧ tn i s'.heap ∧ (∀ b ∈ fp, H' b = none) ∧ W i n σ' H') ?_ m0 ⟨0, σ, H2, I2, st2, fun b hb => (f2 b hb).1, w0⟩
  rintro n s3 ⟨i, σ3, H3, I3, st3, fr3, w3⟩
  rcases turn i n σ3 H3 w3 with ⟨stop, qn⟩ | ⟨go, N, hN, step⟩
  · refine wpAny_passesOwn hp (thn (T.done X rfl rfl rfl hc i pins s3 σ3 H3 X.xe I3 (stat fr3) st3 stop) fun r s4 ⟨hr, I4⟩ => ?_)
    subst hr
    exact wpAny_execs_nil ⟨σ3, H3, I4, qn⟩
  · refine wpAny_passesOwn hp (thn (T.item X rfl rfl rfl hc i pins s3 σ3 H3 X.xe I3 (stat fr3) st3 go) fun r s4 ⟨u, hr, h4⟩ => ?_)
    subst hr
    refine wpAny_passesOwn hp (thn h4 fun _ s5 ⟨x, H5, I5, r5, y5, st5, fr5⟩ => ?_)
    have I5' := I5.pinned (stat fr5) (T.obj _ _ st5)
    refine wpAny_passesOwn hp (thn (hg _ s5 σ3 H5 x u _ I5' r5 (step x H5 y5)) fun _ s6 ⟨σ6, H6, I6, q6⟩ => ?_)
    refine wpAny_passesOwn hp (thn (hb _ s6 σ6 H6 _ I6 q6) fun f s7 q7 => ?_)
    have again : ∀ {σ7 : St} {H7 : Hp}, Inv X (pins ++ pinsAt fp s5.heap) σ7 H7 s7 → N σ7 H7 → ∃ m, m < n ∧ ∃ i σ' H', Inv X pins σ' H' s7 ∧ tn i s7.heap ∧ (∀ b ∈ fp, H' b = none) ∧ W i m σ' H' := fun {σ7 H7} I7 n7 => by
      obtain ⟨m', hm, w7⟩ := hN σ7 H7 n7
      refine ⟨m', hm, i + 1, σ7, H7, I7.unpinned, T.keep _ _ _ st5 fun b hb o e => (I7.pin (b, o) (List.mem_append_right _ (List.mem_append_right _ (mem_pinsAt hb e)))).1, fun b hb => ?_, w7⟩
      obtain ⟨o, e, d⟩ := T.obj _ _ st5 b hb
      exact (I7.pin (b, o) (List.mem_append_right _ (List.mem_append_right _ (mem_pinsAt hb e)))).2.1
    cases f with
    | next => obtain ⟨σ7, H7, I7, n7⟩ := q7; exact again I7 n7
    | cont => obtain ⟨σ7, H7, I7, n7⟩ := q7; exact again I7 n7
    | brk => obtain ⟨σ7, H7, I7, q7⟩ := q7; exact ⟨σ7, H7, I7.unpinned, q7⟩
    | ret v => obtain ⟨x7, σ7, H7, I7, r7, q7⟩ := q7; exact ⟨x7, σ7, H7, I7.unpinned, r7, q7⟩
end
theorem for_list {K : PySem.W.Frag} {a : Addr} {xs : List V} {g : TG} {tb : TS} {D : Ends} {σ : St} {H : Hp} (Pv : Nat → St → Hp → Prop) (h0 : Pv 0 σ H) (hl : ∀ i σ H, i ≤ xs.length → Pv i σ H → SqL K H a xs)
    (hs : ∀ i x σ H, xs[i]? = some x → Pv i σ H → g x σ H fun σ2 H2 => tb { D with nx := Pv (i + 1), ct := Pv (i + 1), bk := D.nx } σ2 H2) (hd : ∀ σ H, Pv xs.length σ H → D.nx σ H) :
    ∃ W : Nat → Nat → St → Hp → Prop, (∃ m, W 0 m σ H) ∧ ∀ i m σ H, W i m σ H →
      ((Itl K a).stop i H ∧ D.nx σ H) ∨ ((Itl K a).go i H ∧ ∃ N : St → Hp → Prop, (∀ σ' H', N σ' H' → ∃ m', m' < m ∧ W (i + 1) m' σ' H') ∧ ∀ x H', (Itl K a).yld i H x H' → g x σ H' fun σ2 H2 => tb { D with nx := N, ct := N, bk := D.nx } σ2 H2) := by
  refine ⟨fun i m σ H => m = xs.length - i ∧ i ≤ xs.length ∧ Pv i σ H, ⟨xs.length, by simp, Nat.zero_le _, h0⟩, ?_⟩
  rintro i m σ H ⟨rfl, hi, p⟩
  have q := hl i σ H hi p
  by_cases hlt : i < xs.length
  · refine .inr ⟨⟨xs, xs[i], q, by simp [hlt]⟩, Pv (i + 1), fun σ' H' p' => ⟨xs.length - (i + 1), by omega, rfl, hlt, p'⟩, fun x H' y => ?_⟩
    obtain ⟨e, y⟩ := y
    subst e
    exact hs i x σ _ (y xs q) p
  · have e : i = xs.length := by omega
    subst e
    exact .inl ⟨⟨xs, q, Nat.le_refl _⟩, hd σ H p⟩
theorem for_range {lo : Int} {n : Nat} {g : TG} {tb : TS} {D : Ends} {σ : St} {H : Hp} (Pv : Nat → St → Hp → Prop) (h0 : Pv 0 σ H)
    (hs : ∀ i σ H, i < n → Pv i σ H → g (.int (lo + i)) σ H fun σ2 H2 => tb { D with nx := Pv (i + 1), ct := Pv (i + 1), bk := D.nx } σ2 H2) (hd : ∀ σ H, Pv n σ H → D.nx σ H) :
    ∃ W : Nat → Nat → St → Hp → Prop, (∃ m, W 0 m σ H) ∧ ∀ i m σ H, W i m σ H →
      ((Itr lo n).stop i H ∧ D.nx σ H) ∨ ((Itr lo n).go i H ∧ ∃ N : St → Hp → Prop, (∀ σ' H', N σ' H' → ∃ m', m' < m ∧ W (i + 1) m' σ' H') ∧ ∀ x H', (Itr lo n).yld i H x H' → g x σ H' fun σ2 H2 => tb { D with nx := N, ct := N, bk := D.nx } σ2 H2) := by
  refine ⟨fun i m σ H => m = n - i ∧ i ≤ n ∧ Pv i σ H, ⟨n, by simp, Nat.zero_le _, h0⟩, ?_⟩
  rintro i m σ H ⟨rfl, hi, p⟩
  by_cases hlt : i < n
  · refine .inr ⟨hlt, Pv (i + 1), fun σ' H' p' => ⟨n - (i + 1), by omega, rfl, hlt, p'⟩, fun x H' y => ?_⟩
    obtain ⟨e, y⟩ := y
    subst e y
    exact hs i σ _ hlt p
  · have e : i = n := by omega
    subst e
    exact .inl ⟨Nat.le_refl _, hd σ H p⟩
end L2
namespace L2
open PySem PySem.Spec PyProof.Rows
abbrev R2 := V → V → Hp → VK → Prop
def OpR (X : Cx) (f : Value → Value → Sem Value) (r : R2) : Prop :=
  ∀ (pins : List (Addr × Obj)) (s : Shared) (σ : St) (H : Hp) (x y : V) (v u : Value) (Q : VK), Inv X pins σ H s → RelV x v → RelV y u → r x y H Q →
    wpAny (model X.prog X.w) X.A (f v u) (EP X pins σ Q) X.xe s
def UnR (X : Cx) (f : Value → Sem Value) (r : V → Hp → VK → Prop) : Prop :=
  ∀ (pins : List (Addr × Obj)) (s : Shared) (σ : St) (H : Hp) (x : V) (v : Value) (Q : VK), Inv X pins σ H s → RelV x v → r x H Q →
    wpAny (model X.prog X.w) X.A (f v) (EP X pins σ Q) X.xe s
def CallR (X : Cx) (f : Value) (r : List V → Hp → VK → Prop) : Prop :=
  ∀ (pins : List (Addr × Obj)) (s : Shared) (σ : St) (H : Hp) (xs : List V) (us : List Value) (Q : VK), Inv X pins σ H s → Vals xs us → r xs H Q →
    wpAny (model X.prog X.w) X.A (call f us) (EP X pins σ Q) X.xe s
def TruR (X : Cx) (r : V → Hp → (Bool → Hp → Prop) → Prop) : Prop :=
  ∀ (pins : List (Addr × Obj)) (s : Shared) (σ : St) (H : Hp) (x : V) (v : Value) (Q : Bool → Hp → Prop), Inv X pins σ H s → RelV x v → r x H Q →
    wpAny (model X.prog X.w) X.A (truthy v) (TP X pins σ Q) X.xe s
def tOp (r : R2) (ta tb : TE) : TE := fun σ H Q => ta σ H fun x H1 => tb σ H1 fun y H2 => r x y H2 Q
def tUn (r : V → Hp → VK → Prop) (ta : TE) : TE := fun σ H Q => ta σ H fun x H1 => r x H1 Q
def rI (C : Int → Int → Prop) (g : Int → Int → V) : R2 := fun x y H Q => ∃ i j, x = .int i ∧ y = .int j ∧ C i j ∧ Q (g i j) H
def rI0 (g : Int → Int → V) : R2 := fun x y H Q => ∃ i j, x = .int i ∧ y = .int j ∧ Q (g i j) H
def rU (g : Int → V) : V → Hp → VK → Prop := fun x H Q => ∃ i, x = .int i ∧ Q (g i) H
section
variable {X : Cx} {a b c : Expr} {ta tb tc : TE} {pos : Pos}
theorem binT (ha : PE X a ta) (hb : PE X b tb) {pins : List (Addr × Obj)} {s : Shared} {σ : St} {H : Hp} {R : V → V → Hp → Prop} (I : Inv X pins σ H s)
    (h : ta σ H fun x H1 => tb σ H1 fun y H2 => R x y H2) {Q : Value → Shared → Prop} {f : Value → Value → Sem Value}
    (hf : ∀ v u s2 x y H2, Inv X pins σ H2 s2 → RelV x v → RelV y u → R x y H2 → wpAny (model X.prog X.w) X.A (f v u) Q X.xe s2) :
    wpAny (model X.prog X.w) X.A (eval a X.env) (fun v s₁ => wpAny (model X.prog X.w) X.A (eval b X.env) (fun u s₂ => wpAny (model X.prog X.w) X.A (f v u) Q X.xe s₂) X.xe s₁) X.xe s := by
  refine thn (ha pins s σ H _ I h) fun v s1 ⟨x, H1, I1, r1, q1⟩ => ?_
  refine thn (hb pins s1 σ H1 _ I1 q1) fun u s2 ⟨y, H2, I2, r2, q2⟩ => ?_
  exact hf v u s2 x y H2 I2 r1 r2 q2
theorem pe_op {op : Operator} {r : R2} (ho : OpR X (binaryOp op) r) (ha : PE X a ta) (hb : PE X b tb) : PE X (.BinOp a op b pos) (tOp r ta tb) := by
  intro pins s σ H Q I h
  exact wpAny_BinOp (binT ha hb I h fun v u s2 x y H2 I2 rx ry q => ho pins s2 σ H2 x y v u Q I2 rx ry q)
theorem pe_un {op : UnaryOp} {r : V → Hp → VK → Prop} (ho : UnR X (unaryOp op) r) (ha : PE X a ta) : PE X (.UnaryOp op a pos) (tUn r ta) := by
  intro pins s σ H Q I h
  exact UnaryOp_ (thn (ha pins s σ H _ I h) fun v s1 ⟨x, H1, I1, r1, q1⟩ => ho pins s1 σ H1 x v Q I1 r1 q1)
theorem opI {f : Value → Value → Sem Value} {C : Int → Int → Prop} {g : Int → Int → Int}
    (rule : ∀ (i j : Int) (t u : Tok) (s : Shared) (Q : Value → Shared → Prop) (E : Value → Shared → Prop), C i j → Q (.int (g i j) s.toks) { s with toks := s.toks + 1 } → wpAny (model X.prog X.w) X.A (f (.int i t) (.int j u)) Q E s) :
    OpR X f (rI C fun i j => .int (g i j)) := by
  intro pins s σ H x y v u Q I rx ry h
  obtain ⟨i, j, rfl, rfl, hc, q⟩ := h
  obtain ⟨t, rfl⟩ := rx
  obtain ⟨t', rfl⟩ := ry
  exact rule i j t t' s _ _ hc ⟨.int (g i j), H, I.tok _, ⟨_, rfl⟩, q⟩
theorem opI0 {f : Value → Value → Sem Value} {g : Int → Int → Int}
    (rule : ∀ (i j : Int) (t u : Tok) (s : Shared) (Q : Value → Shared → Prop) (E : Value → Shared → Prop), Q (.int (g i j) s.toks) { s with toks := s.toks + 1 } → wpAny (model X.prog X.w) X.A (f (.int i t) (.int j u)) Q E s) :
    OpR X f (rI0 fun i j => .int (g i j)) := by
  intro pins s σ H x y v u Q I rx ry h
  obtain ⟨i, j, rfl, rfl, q⟩ := h
  obtain ⟨t, rfl⟩ := rx
  obtain ⟨t', rfl⟩ := ry
  exact rule i j t t' s _ _ ⟨.int (g i j), H, I.tok _, ⟨_, rfl⟩, q⟩
theorem opB0 {f : Value → Value → Sem Value} {g : Int → Int → Bool}
    (rule : ∀ (i j : Int) (t u : Tok) (s : Shared) (Q : Value → Shared → Prop) (E : Value → Shared → Prop), Q (.bool (g i j)) s → wpAny (model X.prog X.w) X.A (f (.int i t) (.int j u)) Q E s) :
    OpR X f (rI0 fun i j => .bl (g i j)) := by
  intro pins s σ H x y v u Q I rx ry h
  obtain ⟨i, j, rfl, rfl, q⟩ := h
  obtain ⟨t, rfl⟩ := rx
  obtain ⟨t', rfl⟩ := ry
  exact rule i j t t' s _ _ ⟨.bl (g i j), H, I, rfl, q⟩
def CDiv (i j : Int) : Prop := 0 < j ∧ j < 1073741824
def CDivN (i j : Int) : Prop := j ≠ 0 ∧ j.natAbs < 1073741824
def CPow (i j : Int) : Prop := 0 ≤ j ∧ j ≤ 1000000 ∧ i.natAbs < 2 ^ 64
def CMul (i j : Int) : Prop := (-(2 ^ 64) < i ∧ i < 2 ^ 64) ∨ (-(2 ^ 64) < j ∧ j < 2 ^ 64)
theorem CMul.ok {i j : Int} (h : CMul i j) : IntMulOk i j := by
  rcases h with ⟨h1, h2⟩ | ⟨h1, h2⟩
  · exact .of_left (intBits_le_64 h1 h2)
  · exact .of_right (intBits_le_64 h1 h2)
theorem op_add : OpR X (binaryOp .Add) (rI0 fun i j => .int (i + j)) := opI0 fun _ _ _ _ _ _ _ q => add_int q
theorem op_sub : OpR X (binaryOp .Sub) (rI0 fun i j => .int (i - j)) := opI0 fun _ _ _ _ _ _ _ q => sub_int q
theorem op_fdiv : OpR X (binaryOp .FloorDiv) (rI CDiv fun i j => .int (i / j)) := opI fun i j _ _ _ _ _ hc q => by
  have h1 : (0 : Int) < j := hc.1
  have h2 : j < 1073741824 := hc.2
  exact floordiv_int (by omega) (by rw [Int.fdiv_eq_ediv_of_nonneg i (by omega)]; exact q) (.inl (PyProof.noPylong_small (by omega)))
theorem op_mod : OpR X (binaryOp .Mod) (rI (fun _ j => 0 < j) fun i j => .int (i % j)) := opI fun i j _ _ _ _ _ hc q => by
  have h1 : (0 : Int) < j := hc
  exact mod_int' (by omega) (by rw [Int.fmod_eq_emod_of_nonneg i (by omega)]; exact q)
theorem op_pow : OpR X (binaryOp .Pow) (rI CPow fun i j => .int (i ^ j.toNat)) := opI fun _ _ _ _ _ _ _ hc q => pow_int_small hc.1 hc.2.1 hc.2.2 q
theorem unI {f : Value → Sem Value} {g : Int → Int}
    (rule : ∀ (i : Int) (t : Tok) (s : Shared) (Q : Value → Shared → Prop) (E : Value → Shared → Prop), Q (.int (g i) s.toks) { s with toks := s.toks + 1 } → wpAny (model X.prog X.w) X.A (f (.int i t)) Q E s) :
    UnR X f (rU fun i => .int (g i)) := by
  intro pins s σ H x v Q I rx h
  obtain ⟨i, rfl, q⟩ := h
  obtain ⟨t, rfl⟩ := rx
  exact rule i t s _ _ ⟨.int (g i), H, I.tok _, ⟨_, rfl⟩, q⟩
theorem un_neg : UnR X (unaryOp .USub) (rU fun i => .int (-i)) := unI fun _ _ _ _ _ q => neg_int q
end
def scal : V → V → Bool
  | .non, .non => true | .non, .int _ => true | .int _, .non => true | .non, .bl _ => true | .bl _, .non => true | .non, .str _ => true | .str _, .non => true
  | .int _, .int _ => true | .bl _, .bl _ => true | .str _, .str _ => true | .byt _, .byt _ => true
  | .int _, .str _ => true | .str _, .int _ => true | .bl _, .str _ => true | .str _, .bl _ => true
  | _, _ => false
def rEq : R2 := fun x y H Q => scal x y = true ∧ Q (.bl (decide (x = y))) H
def rNe : R2 := fun x y H Q => scal x y = true ∧ Q (.bl (!decide (x = y))) H
theorem dec_int {i j : Int} : decide (V.int i = V.int j) = (i == j) := by
  rw [Bool.eq_iff_iff]
  simp
theorem dec_bl {i j : Bool} : decide (V.bl i = V.bl j) = (i == j) := by
  rw [Bool.eq_iff_iff]
  simp
theorem dec_str {i j : Str} : decide (V.str i = V.str j) = (i == j) := by
  rw [Bool.eq_iff_iff]
  simp
theorem dec_byt {i j : Array UInt8} : decide (V.byt i = V.byt j) = (i.toList == j.toList) := by
  rw [Bool.eq_iff_iff]
  cases i
  cases j
  simp
section
variable {X : Cx} {a b c : Expr} {ta tb tc : TE} {pos : Pos}
theorem fin_bl {pins : List (Addr × Obj)} {σ : St} {H : Hp} {s : Shared} {Q : VK} {k k' : Bool} (I : Inv X pins σ H s) (q : Q (.bl k) H) (e : k = k') : EP X pins σ Q (.bool k') s := by
  subst e
  exact ⟨.bl k, H, I, rfl, q⟩
theorem op_eq : OpR X (compareOp .Eq) rEq := by
  intro pins s σ H x y v u Q I rx ry h
  obtain ⟨hs, q⟩ := h
  cases x with
  | non =>
    cases rx
    cases y with
    | non => cases ry; exact PySem.EqNone.eq_none_none (fin_bl I q (by simp))
    | bl j => cases ry; exact PySem.EqNone.eq_none_bool (fin_bl I q (by simp))
    | int j => obtain ⟨t', rfl⟩ := ry; exact PySem.EqNone.eq_none_int (fin_bl I q (by simp))
    | str j => obtain ⟨t', rfl⟩ := ry; exact PySem.EqNone.eq_none_str (fin_bl I q (by simp))
    | _ => exact absurd (show false = true from hs) Bool.false_ne_true
  | bl i =>
    cases rx
    cases y with
    | non => cases ry; exact PySem.EqNone.eq_bool_none (fin_bl I q (by simp))
    | bl j => cases ry; exact eq_bool (fin_bl I q dec_bl)
    | str j => obtain ⟨t', rfl⟩ := ry; exact PySem.EqMixed.eq_bool_str (fin_bl I q (by simp))
    | _ => exact absurd (show false = true from hs) Bool.false_ne_true
  | int i =>
    obtain ⟨t, rfl⟩ := rx
    cases y with
    | non => cases ry; exact PySem.EqNone.eq_int_none (fin_bl I q (by simp))
    | int j => obtain ⟨t', rfl⟩ := ry; exact eq_int (fin_bl I q dec_int)
    | str j => obtain ⟨t', rfl⟩ := ry; exact PySem.EqMixed.eq_int_str (fin_bl I q (by simp))
    | _ => exact absurd (show false = true from hs) Bool.false_ne_true
  | str i =>
    obtain ⟨t, rfl⟩ := rx
    cases y with
    | non => cases ry; exact PySem.EqNone.eq_str_none (fin_bl I q (by simp))
    | bl j => cases ry; exact PySem.EqMixed.eq_str_bool (fin_bl I q (by simp))
    | int j => obtain ⟨t', rfl⟩ := ry; exact PySem.EqMixed.eq_str_int (fin_bl I q (by simp))
    | str j => obtain ⟨t', rfl⟩ := ry; exact eq_str (fin_bl I q dec_str)
    | _ => exact absurd (show false = true from hs) Bool.false_ne_true
  | byt i =>
    obtain ⟨t, rfl⟩ := rx
    cases y with
    | byt j => obtain ⟨t', rfl⟩ := ry; exact PySem.W.eq_bytes (fin_bl I q dec_byt)
    | _ => exact absurd (show false = true from hs) Bool.false_ne_true
  | _ => cases y <;> exact absurd (show false = true from hs) Bool.false_ne_true
theorem op_ne : OpR X (compareOp .NotEq) rNe := by
  intro pins s σ H x y v u Q I rx ry h
  obtain ⟨hs, q⟩ := h
  cases x with
  | non =>
    cases rx
    cases y with
    | non => cases ry; exact PySem.EqNone.ne_none_none (fin_bl I q (by simp))
    | bl j => cases ry; exact PySem.EqNone.ne_none_bool (fin_bl I q (by simp))
    | int j => obtain ⟨t', rfl⟩ := ry; exact PySem.EqNone.ne_none_int (fin_bl I q (by simp))
    | str j => obtain ⟨t', rfl⟩ := ry; exact PySem.EqNone.ne_none_str (fin_bl I q (by simp))
    | _ => exact absurd (show false = true from hs) Bool.false_ne_true
  | bl i =>
    cases rx
    cases y with
    | non => cases ry; exact PySem.EqNone.ne_bool_none (fin_bl I q (by simp))
    | bl j => cases ry; exact ne_bool (fin_bl I q (congrArg not dec_bl))
    | str j => obtain ⟨t', rfl⟩ := ry; exact PySem.EqMixed.ne_bool_str (fin_bl I q (by simp))
    | _ => exact absurd (show false = true from hs) Bool.false_ne_true
  | int i =>
    obtain ⟨t, rfl⟩ := rx
    cases y with
    | non => cases ry; exact PySem.EqNone.ne_int_none (fin_bl I q (by simp))
    | int j => obtain ⟨t', rfl⟩ := ry; exact ne_int (fin_bl I q (congrArg not dec_int))
    | str j => obtain ⟨t', rfl⟩ := ry; exact PySem.EqMixed.ne_int_str (fin_bl I q (by simp))
    | _ => exact absurd (show false = true from hs) Bool.false_ne_true
  | str i =>
    obtain ⟨t, rfl⟩ := rx
    cases y with
    | non => cases ry; exact PySem.EqNone.ne_str_none (fin_bl I q (by simp))
    | bl j => cases ry; exact PySem.EqMixed.ne_str_bool (fin_bl I q (by simp))
    | int j => obtain ⟨t', rfl⟩ := ry; exact PySem.EqMixed.ne_str_int (fin_bl I q (by simp))
    | str j => obtain ⟨t', rfl⟩ := ry; exact ne_str (fin_bl I q (congrArg not dec_str))
    | _ => exact absurd (show false = true from hs) Bool.false_ne_true
  | byt i =>
    obtain ⟨t, rfl⟩ := rx
    cases y with
    | byt j => obtain ⟨t', rfl⟩ := ry; exact PySem.W.ne_bytes (fin_bl I q (congrArg not dec_byt))
    | _ => exact absurd (show false = true from hs) Bool.false_ne_true
  | _ => cases y <;> exact absurd (show false = true from hs) Bool.false_ne_true
theorem op_lt : OpR X (compareOp .Lt) (rI0 fun i j => .bl (decide (i < j))) := opB0 fun _ _ _ _ _ _ _ q => lt_int q
theorem op_gt : OpR X (compareOp .Gt) (rI0 fun i j => .bl (decide (j < i))) := opB0 fun _ _ _ _ _ _ _ q => gt_int q
def isObj : HO → Bool
  | .lst _ => true
  | .ins _ _ _ => true
  | _ => false
theorem OpR.or {f : Value → Value → Sem Value} {r r' : R2} (h : OpR X f r) (h' : OpR X f r') : OpR X f (fun x y H Q => r x y H Q ∨ r' x y H Q) := by
  intro pins s σ H x y v u Q I rx ry q
  rcases q with q | q
  · exact h pins s σ H x y v u Q I rx ry q
  · exact h' pins s σ H x y v u Q I rx ry q
theorem nomark (b : Expr) {op : CmpOp} (h : op ≠ .In := by decide) (h2 : op ≠ .NotIn := by decide) : behindInMarks op b = false := by
  have e1 : (op == CmpOp.In) = false := by cases op <;> first | rfl | exact absurd rfl h
  have e2 : (op == CmpOp.NotIn) = false := by cases op <;> first | rfl | exact absurd rfl h2
  cases b <;> simp [behindInMarks, e1, e2]
theorem pe_cmpR {op : CmpOp} {r : R2} (ho : OpR X (compareOp op) r) (ha : PE X a ta) (hb : PE X b tb) (hm : behindInMarks op b = false) : PE X (.Compare a [op] [b] pos) (tOp r ta tb) := by
  intro pins s σ H Q I h
  exact wpAny_Compare1 (binT ha hb I h fun v u s2 x y H2 I2 rx ry q => ho pins s2 σ H2 x y v u Q I2 rx ry q) hm
def tTest (t : TE) : TT := fun σ H Q => t σ H fun x H' => ∃ k, x = .bl k ∧ Q k H'
theorem pt_cmpR {op : CmpOp} {r : R2} (ho : OpR X (compareOp op) r) (ha : PE X a ta) (hb : PE X b tb) (hm : behindInMarks op b = false) : PT X (.Compare a [op] [b] pos) (tTest (tOp r ta tb)) := by
  intro pins s σ H Q I h
  refine wpAny_isTrue_Compare1 (thn (ha pins s σ H _ I h) fun v s1 ⟨x, H1, I1, r1, q1⟩ => thn (hb pins s1 σ H1 _ I1 q1) fun u s2 ⟨y, H2, I2, r2, q2⟩ =>
    thn (ho pins s2 σ H2 x y v u _ I2 r1 r2 q2) fun c s3 ⟨z, H3, I3, r3, k, e, q3⟩ => ?_) hm
  subst e
  cases r3
  exact wpAny_truthy_bool ⟨H3, I3, q3⟩
def tChain (r r' : R2) (ta tb tc : TE) : TE := fun σ H Q => ta σ H fun x H1 => tb σ H1 fun y H2 => r x y H2 fun z H3 => ∃ k, z = .bl k ∧
  (if k = true then tc σ H3 fun w' H4 => r' y w' H4 Q else Q (.bl false) H3)
def TruV (K : PySem.W.Frag) (x : V) (H : Hp) (k : Bool) : Prop :=
  match x with
  | .non => k = false
  | .bl b => k = b
  | .int i => k = (i != 0)
  | .str y => y.length ≤ sizeLine ∧ k = ((y.length : Int) != 0)
  | .byt y => y.size ≤ sizeLine ∧ k = ((y.size : Int) != 0)
  | .ref p => (∃ xs, SqL K H p xs ∧ k = !xs.isEmpty) ∨ (∃ xs, SqT K H p xs ∧ k = !xs.isEmpty) ∨ ∃ kvs, H p = some (.dK kvs) ∧ k = !kvs.isEmpty
  | _ => False
theorem isEmpty_kv {κ : Type} {kvs : List (κ × V)} {vs : List (κ × Value)} (r : KV kvs vs) : (!vs.isEmpty) = !kvs.isEmpty := by
  cases r <;> rfl
theorem isEmpty_of {xs : List V} {its : List Value} (r : Vals xs its) : (!its.toArray.isEmpty) = !xs.isEmpty := by
  cases r <;> simp
theorem line63 : (sizeLine : Nat) < 2 ^ 63 := by rw [sizeLine_eq]; decide
theorem tru_ok : TruR X (fun x H Q => ∃ k, TruV X.K x H k ∧ Q k H) := by
  intro pins s σ H x v Q I rx h
  obtain ⟨k, e, q⟩ := h
  have hl := line63
  have hs : sizeLine = 16777216 := sizeLine_eq
  cases x with
  | non =>
    cases rx
    have e' : k = false := e
    subst e'
    exact truthy_none ⟨H, I, q⟩
  | bl b =>
    cases rx
    have e' : k = b := e
    subst e'
    exact wpAny_truthy_bool ⟨H, I, q⟩
  | int i =>
    obtain ⟨t, rfl⟩ := rx
    have e' : k = (i != 0) := e
    subst e'
    exact PySem.P.truthy_int ⟨H, I, q⟩
  | str y =>
    obtain ⟨t, rfl⟩ := rx
    obtain ⟨hy, e'⟩ : y.length ≤ sizeLine ∧ k = ((y.length : Int) != 0) := e
    subst e'
    exact PySem.P.truthy_str (by omega) ⟨H, I.tok _, q⟩
  | byt y =>
    obtain ⟨t, rfl⟩ := rx
    obtain ⟨hy, e'⟩ : y.size ≤ sizeLine ∧ k = ((y.size : Int) != 0) := e
    subst e'
    exact PySem.W.truthy_bytes (by omega) ⟨H, I.tok _, q⟩
  | ref p =>
    cases rx
    have e' : (∃ xs, SqL X.K H p xs ∧ k = !xs.isEmpty) ∨ (∃ xs, SqT X.K H p xs ∧ k = !xs.isEmpty) ∨ ∃ kvs, H p = some (.dK kvs) ∧ k = !kvs.isEmpty := e
    rcases e' with ⟨xs, hx, e'⟩ | ⟨xs, hx, e'⟩ | ⟨kvs, hx, e'⟩
    · subst e'
      obtain ⟨its, r, pl, hz⟩ := I.list hx
      have hlen := r.length
      exact wpAny_truthy_list pl.isList (by simp only [List.size_toArray]; omega) ⟨H, I.tok _, by rw [isEmpty_of r]; exact q⟩
    · subst e'
      obtain ⟨its, r, pl, hz⟩ := I.tuple hx
      have hlen := r.length
      exact truthy_tuple pl (by simp only [List.size_toArray]; omega) ⟨H, I.tok _, by rw [isEmpty_of r]; exact q⟩
    · subst e'
      obtain ⟨hz, hS, vs, r, m⟩ : kvs.length ≤ sizeLine ∧ (p == sysModules) = false ∧ ∃ vs, KV kvs vs ∧ s.heap.DictOf (mixKind X.prog X.w) p vs := I.hok p _ hx
      have hlen : kvs.length = vs.length := Paired.length r
      exact wpAny_truthy_dict hS m (by omega) ⟨H, I.tok _, by rw [isEmpty_kv r]; exact q⟩
  | _ => exact (show False from e).elim
theorem pt_truth (ha : PE X a ta) (he : ∀ whole, isTrue a X.env whole = (do let v ← whole; standAt a.pos; holding [v] (truthy v))) :
    PT X a (fun σ H Q => ta σ H fun x H' => ∃ k, TruV X.K x H' k ∧ Q k H') := by
  intro pins s σ H Q I h
  exact isTrue_plain (thn (ha pins s σ H _ I h) fun v s1 ⟨x, H1, I1, r1, q1⟩ => tru_ok pins s1 σ H1 x v Q I1 r1 q1) (he _)
theorem op_add_str : OpR X (binaryOp .Add) (fun x y H Q => ∃ i j, x = .str i ∧ y = .str j ∧ i.length + j.length ≤ sizeLine ∧ Q (.str (i ++ j)) H) := by
  intro pins s σ H x y v u Q I rx ry h
  obtain ⟨i, j, rfl, rfl, hz, q⟩ := h
  obtain ⟨t, rfl⟩ := rx
  obtain ⟨t', rfl⟩ := ry
  exact add_str (fun t' tk => ⟨.str (i ++ j), H, I.tok _, ⟨_, rfl⟩, q⟩) hz
def PlainIxT (b : Expr) : Prop := ∀ o i, subscripted b false o i = operate [o, i] (getItem o i)
theorem vals1 {x : V} {us : List Value} (r : Vals [x] us) : ∃ u, us = [u] ∧ RelV x u := by
  cases r with
  | cons r1 r2 => cases r2; exact ⟨_, rfl, r1⟩
theorem vals2 {x y : V} {us : List Value} (r : Vals [x, y] us) : ∃ u w', us = [u, w'] ∧ RelV x u ∧ RelV y w' := by
  cases r with
  | cons r1 r2 =>
    cases r2 with
    | cons r3 r4 => cases r4; exact ⟨_, _, rfl, r1, r3⟩
theorem call_str_int : CallR X (.type "str") (fun xs H Q => ∃ i, xs = [.int i] ∧ i.natAbs.log2 < 1920 ∧ Q (.str (toString i)) H) := by
  intro pins s σ H xs us Q I r h
  obtain ⟨i, rfl, hz, q⟩ := h
  obtain ⟨u, rfl, t, rfl⟩ := vals1 r
  exact PySem.P.str_of_int hz ⟨.str _, H, I.tok _, ⟨_, rfl⟩, q⟩
def LenV (K : PySem.W.Frag) (x : V) (H : Hp) (n : Nat) : Prop :=
  match x with
  | .str y => y.length ≤ sizeLine ∧ n = y.length
  | .byt y => y.size ≤ sizeLine ∧ n = y.size
  | .ref p => (∃ xs, SqL K H p xs ∧ n = xs.length) ∨ ∃ xs, SqT K H p xs ∧ n = xs.length
  | _ => False
theorem call_len : CallR X (.builtin "len") (fun xs H Q => ∃ x n, xs = [x] ∧ LenV X.K x H n ∧ Q (.int n) H) := by
  intro pins s σ H xs us Q I r h
  obtain ⟨x, n, rfl, e, q⟩ := h
  obtain ⟨u, rfl, rx⟩ := vals1 r
  have hl := line63
  have hs : sizeLine = 16777216 := sizeLine_eq
  cases x with
  | str y =>
    obtain ⟨t, rfl⟩ := rx
    obtain ⟨hy, e'⟩ : y.length ≤ sizeLine ∧ n = y.length := e
    subst e'
    exact len_str (by omega) ⟨.int _, H, I.tok _, ⟨_, rfl⟩, q⟩
  | byt y =>
    obtain ⟨t, rfl⟩ := rx
    obtain ⟨hy, e'⟩ : y.size ≤ sizeLine ∧ n = y.size := e
    subst e'
    exact PySem.W.len_bytes (by omega) ⟨.int _, H, I.tok _, ⟨_, rfl⟩, q⟩
  | ref p =>
    cases rx
    have e' : (∃ xs, SqL X.K H p xs ∧ n = xs.length) ∨ ∃ xs, SqT X.K H p xs ∧ n = xs.length := e
    rcases e' with ⟨xs, hx, e'⟩ | ⟨xs, hx, e'⟩
    · subst e'
      obtain ⟨its, r', pl, hz⟩ := I.list hx
      have hlen := r'.length
      exact Calls.call_len_list pl.isList (by simp only [List.size_toArray]; omega) ⟨.int xs.length, H, I.tok _, ⟨_, by simp only [List.size_toArray]; rw [hlen]⟩, q⟩
    · subst e'
      obtain ⟨its, r', pl, hz⟩ := I.tuple hx
      have hlen := r'.length
      exact len_tuple pl (by simp only [List.size_toArray]; omega) ⟨.int xs.length, H, I.tok _, ⟨_, by simp only [List.size_toArray]; rw [hlen]⟩, q⟩
  | _ => exact (show False from e).elim
end
end L2
namespace L2
open PySem PySem.Spec PyProof.Rows
structure ObjM (h : Heap) (x dx C : Addr) (mA : Str → Option Value) : Prop where
  obj : h.get? x = some (PySem.W.instObj C dx)
  ns : h.Ns1 dx mA
  ne : dx ≠ x
theorem lookIn_ns {h : Heap} {dx : Addr} {mA : Str → Option Value} (n : h.Ns1 dx mA) : ∃ od, h.get? dx = some od ∧ ∀ name, PySem.W.lookIn name od = some (mA name) := by
  obtain ⟨o, es, ep, ho, hd, hk, _, hm⟩ := n
  refine ⟨o, ho, fun name => ?_⟩
  have e := hm name
  unfold nsFind findBy at e
  rw [← Array.find?_toList] at e
  unfold PySem.W.lookIn
  rw [hd]
  dsimp only
  split
  · rename_i y q
    rw [q] at e
    exact congrArg some e
  · rename_i q
    rw [q] at e
    have a : es.toList.any (·.refKey) = false := by
      rw [List.any_eq_false]
      intro y hy
      obtain ⟨z, t, hkey⟩ := hk y (Array.mem_toList_iff.mp hy)
      simp [DictEntry.refKey, hkey]
    have a' : ¬ es.toList.any (·.refKey) = true := by rw [a]; exact Bool.false_ne_true
    rw [if_neg a']
    exact congrArg some e
theorem ObjM.look {h : Heap} {x dx C : Addr} {mA : Str → Option Value} (I : ObjM h x dx C mA) : ∃ od, PySem.W.InstAt h x (PySem.W.instObj C dx) C (some od) ∧ ∀ name, PySem.W.lookIn name od = some (mA name) :=
  let ⟨od, ho, hl⟩ := lookIn_ns I.ns
  ⟨od, ⟨I.obj, rfl, rfl, ho⟩, hl⟩
section
variable {prog : Program} {w : World} {A : Around} {E : Value → Shared → Prop} {s : Shared} {K : PySem.W.Frag} {x dx C f : Addr} {mA : Str → Option Value} {name : Str} {v : Value}
end
def putF (f : Str) (v : V) : List (Str × V) → List (Str × V)
  | [] => [(f, v)]
  | (g, x) :: r => if g = f then (g, v) :: r else (g, x) :: putF f v r
theorem RelO.some_of {v : V} {o : Option Value} (r : RelO (some v) o) : ∃ u, o = some u ∧ RelV v u := by
  cases o with
  | none => exact (show False from r).elim
  | some u => exact ⟨u, rfl, r⟩
section
variable {P : Program} {w : World} {H H' : Hp} {h h' : Heap} {a C dx : Addr} {fs fs' : List (Str × V)}
theorem ins_get (hok : HOk P w H h) (e : H a = some (.ins C dx fs)) : ∃ mA, ObjM h a dx C mA ∧ (∀ f, RelO (fs.lookup f) (mA f)) ∧ PySem.Within mA (fs.map (·.1)) ∧ fs.length ≤ 1000 ∧ H dx = some (.own a) := by
  obtain ⟨d, z, ne, ob, mA, n, r, q⟩ := (show ObjOk P w H h a (.ins C dx fs) from hok a _ e)
  exact ⟨mA, ⟨ob, n, ne⟩, r, q, z, d⟩
end
structure Cls (K : PySem.W.Frag) (C : Addr) : Prop where
  pg : PySem.W.plainGet K C Str.empty = true
  hd : PySem.W.hasDictIn K C = true
  po : PySem.W.plainOver K C = true
  sa : PySem.W.findIn K (.ref C) "__setattr__" = some (some (.builtin "object.__setattr__"))
theorem Cls.get {K : PySem.W.Frag} {C : Addr} (c : Cls K C) (f : Str) : PySem.W.plainGet K C f = true := c.pg
def NoAttr (K : PySem.W.Frag) (C : Addr) (f : Str) : Prop := PySem.W.findIn K (.ref C) f = some none
structure Con (K : PySem.W.Frag) (C : Addr) (f : Str) (v : V) (u : Value) : Prop where
  at_ : PySem.W.findIn K (.ref C) f = some (some u)
  rel : RelV v u
  get : PySem.W.specialIn K u "__get__" = some none
  cp : PySem.W.copiedNames.contains f = false
structure Meth (K : PySem.W.Frag) (C : Addr) (m : Str) (f : Addr) : Prop where
  at_ : PySem.W.findIn K (.ref C) m = some (some (.ref f))
  fn : PySem.W.isFn K (.ref f) = true
  kp : PySem.W.keepIn K (.ref f) = true
section
variable {X : Cx} {pins : List (Addr × Obj)} {σ : St} {H : Hp} {s : Shared} {a C dx : Addr} {fs : List (Str × V)} {f : Str} {v : V} {A : Around} {E : Value → Shared → Prop}
theorem Inv.made (I : Inv X pins σ H s) : Inv X pins σ (upd (upd H s.heap.objs.size (.own (s.heap.objs.size + 1))) (s.heap.objs.size + 1) (.ins C s.heap.objs.size []))
    { s with heap := (s.heap.push PySem.W.emptyDict).push (PySem.W.instObj C s.heap.objs.size) } := by
  have e1 : (s.heap.push PySem.W.emptyDict).get? s.heap.objs.size = some PySem.W.emptyDict := Heap.get?_push_size s.heap rfl
  have e2 : ((s.heap.push PySem.W.emptyDict).push (PySem.W.instObj C s.heap.objs.size)).get? (s.heap.objs.size + 1) = some (PySem.W.instObj C s.heap.objs.size) := by
    have := Heap.get?_push_size (s.heap.push PySem.W.emptyDict) (o := PySem.W.instObj C s.heap.objs.size) rfl
    rwa [Heap.size_push] at this
  have e3 : (s.heap.push PySem.W.emptyDict).Ns s.heap.objs.size (fun _ => none) := ⟨PySem.W.emptyDict, #[], _, e1, rfl, (fun e he => absurd he (by simp)), fun _ => rfl⟩
  have I1 := I.laid (a := s.heap.objs.size) (o := .own (s.heap.objs.size + 1)) (h' := s.heap.push PySem.W.emptyDict) (t' := s.toks) (fun b u q => Heap.get?_push_of_some _ q) (Nat.le_refl _) ⟨_, e1⟩
  refine I1.laid (a := s.heap.objs.size + 1) (o := .ins C s.heap.objs.size []) (t' := s.toks) (fun b u q => Heap.get?_push_of_some _ q) (Nat.le_of_eq (Heap.size_push _ _)) ?_
  have ne : s.heap.objs.size ≠ s.heap.objs.size + 1 := Nat.ne_of_lt (Nat.lt_succ_self _)
  refine ⟨by rw [upd_ne ne, upd_same], Nat.zero_le _, ne, e2, fun _ => none, (Heap.Ns1.of_empty e3).at fun o q => Heap.get?_push_of_some _ q, fun _ => True.intro, fun y hy => absurd rfl hy⟩
end
def tFld (K : PySem.W.Frag) (ta : TE) (f : Str) : TE := fun σ H Q => ta σ H fun x H1 => ∃ a C dx fs v, x = .ref a ∧ H1 a = some (.ins C dx fs) ∧ Cls K C ∧ NoAttr K C f ∧ fs.lookup f = some v ∧ Q v H1
def tCon (K : PySem.W.Frag) (ta : TE) (f : Str) : TE := fun σ H Q => ta σ H fun x H1 => ∃ a C dx fs v u, x = .ref a ∧ H1 a = some (.ins C dx fs) ∧ Cls K C ∧ Con K C f v u ∧ fs.lookup f = none ∧ Q v H1
def sFld (K : PySem.W.Frag) (ta tv : TE) (f : Str) : TS := fun D σ H => tv σ H fun y H1 => ta σ H1 fun x H2 => ∃ a C dx fs, x = .ref a ∧ H2 a = some (.ins C dx fs) ∧ Cls K C ∧ NoAttr K C f ∧ fs.length < 1000 ∧
  D.nx σ (upd H2 a (.ins C dx (putF f y fs)))
def InOp (X : Cx) (op : Operator) (rd : V → V → Hp → VK → Prop) : Prop :=
  ∀ (pins : List (Addr × Obj)) (s : Shared) (σ : St) (H : Hp) (x y : V) (u v : Value) (Q : VK), Inv X pins σ H s → RelV x u → RelV y v → rd x y H Q → wpAny (model X.prog X.w) X.A (inplaceOp op u v) (EP X pins σ Q) X.xe s
def sFldAug (K : PySem.W.Frag) (ta tv : TE) (rd : V → V → Hp → VK → Prop) (f : Str) : TS := fun D σ H => ta σ H fun x H1 => ∃ a C dx fs v, x = .ref a ∧ H1 a = some (.ins C dx fs) ∧ Cls K C ∧ NoAttr K C f ∧ fs.lookup f = some v ∧
  tv σ H1 fun y H2 => rd v y H2 fun z H3 => ∃ dx' fs', H3 a = some (.ins C dx' fs') ∧ fs'.length < 1000 ∧ D.nx σ (upd H3 a (.ins C dx' (putF f z fs')))
section
variable {X : Cx} {o e value : Expr} {f : Str} {pos pos' tpos : Pos} {ta tv : TE}
def rAdd : V → V → Hp → VK → Prop := fun x y H Q => ∃ i j, x = .int i ∧ y = .int j ∧ Q (.int (i + j)) H
def rSub : V → V → Hp → VK → Prop := fun x y H Q => ∃ i j, x = .int i ∧ y = .int j ∧ Q (.int (i - j)) H
end
section
variable {X : Cx} {pins : List (Addr × Obj)} {σ : St} {H : Hp} {s : Shared} {A : Around} {E : Value → Shared → Prop} {Q : Value → Shared → Prop} {c : Value} {b : Bool}
inductive TyOf (K : PySem.W.Frag) (H : Hp) : V → Value → Prop where
  | non : TyOf K H .non (.type "NoneType")
  | bl (x : Bool) : TyOf K H (.bl x) (.type "bool")
  | int (i : Int) : TyOf K H (.int i) (.type "int")
  | str (x : Str) : TyOf K H (.str x) (.type "str")
  | flt (x : UInt64) : TyOf K H (.flt x) (.type "float")
  | lst {a : Addr} {xs : List V} (e : H a = some (.lst xs)) : TyOf K H (.ref a) (.type "list")
  | frz {a : Addr} {o : Obj} {xs : List V} (e : H a = some (.frz o (.lst xs))) : TyOf K H (.ref a) (.type "list")
  | tup {a : Addr} {xs : List V} (e : H a = some (.tup xs)) : TyOf K H (.ref a) (.type "tuple")
  | dK {a : Addr} {kvs : List (Key × V)} (e : H a = some (.dK kvs)) : TyOf K H (.ref a) (.type "dict")
  | dT {a : Addr} {kvs : List (List Key × V)} (e : H a = some (.dT kvs)) : TyOf K H (.ref a) (.type "dict")
  | ins {a C dx : Addr} {fs : List (Str × V)} (e : H a = some (.ins C dx fs)) (cl : Cls K C) (ha : PySem.W.findIn K (.ref C) "__class__" = some (some (.builtin "object.__class__")))
      (hn : PySem.W.specialIn K (.builtin "object.__class__") "__get__" = some (some (.builtin "getset_descriptor.__get__"))) (htk : PySem.W.takesIn K (.builtin "object.__class__") = some true)
      (hm : PySem.W.mroIn K C (.type "object") = some true) : TyOf K H (.ref a) (.ref C)
theorem isinst_ok {x : V} {u t : Value} (I : Inv X pins σ H s) (rx : RelV x u) (ty : TyOf X.K H x t) (e : PySem.W.kitOne X.K t c = some b) (h : ∀ tk, Q (.bool b) { s with toks := tk }) :
    wpAny (model X.prog X.w) A (call (.builtin "isinstance") [u, c]) Q E s := by
  cases ty with
  | non => cases (show u = Value.none from rx); exact PySem.W.kia_one PySem.W.kitx_none I.kIn True.intro e (fun z => nomatch z) h
  | bl y => cases (show u = Value.bool y from rx); exact PySem.W.kia_one PySem.W.kitx_bool I.kIn True.intro e (fun z => nomatch z) h
  | int i => obtain ⟨t, q⟩ := (show ∃ t, u = Value.int i t from rx); cases q; exact PySem.W.kia_one PySem.W.kitx_int I.kIn True.intro e (fun z => nomatch z) h
  | str y => obtain ⟨t, q⟩ := (show ∃ t, u = Value.str y t from rx); cases q; exact PySem.W.kia_one PySem.W.kitx_str I.kIn True.intro e (fun z => nomatch z) h
  | flt y => obtain ⟨t, q⟩ := (show ∃ t, u = Value.float y t from rx); cases q; exact PySem.W.kia_one PySem.W.kitx_float I.kIn True.intro e (fun z => nomatch z) h
  | @lst a xs ea =>
    cases (show u = Value.ref a from rx)
    obtain ⟨_, _, n, _, h1⟩ := (show ObjOk X.prog X.w H s.heap a (.lst xs) from I.hok a _ ea)
    exact PySem.W.kia_one PySem.W.kitx_list I.kIn ⟨_, h1, rfl⟩ e (fun z => nomatch z) h
  | @frz a ob xs ea =>
    cases (show u = Value.ref a from rx)
    obtain ⟨_, _, _, n, _, h1⟩ := (show ObjOk X.prog X.w H s.heap a (.frz ob (.lst xs)) from I.hok a _ ea)
    exact PySem.W.kia_one PySem.W.kitx_list I.kIn ⟨_, h1, rfl⟩ e (fun z => nomatch z) h
  | @tup a xs ea =>
    cases (show u = Value.ref a from rx)
    obtain ⟨_, _, _, p⟩ := (show ObjOk X.prog X.w H s.heap a (.tup xs) from I.hok a _ ea)
    obtain ⟨o, h1, h2, _⟩ := p
    exact PySem.W.kia_one PySem.W.kitx_tuple I.kIn ⟨o, h1, h2⟩ e (fun z => nomatch z) h
  | @dK a kvs ea =>
    cases (show u = Value.ref a from rx)
    obtain ⟨_, _, vs, _, p⟩ := (show ObjOk X.prog X.w H s.heap a (.dK kvs) from I.hok a _ ea)
    obtain ⟨o, es, ep, h1, h2, _⟩ := p
    exact PySem.W.kia_one PySem.W.kitx_dict I.kIn ⟨o, h1, h2.1⟩ e (fun z => nomatch z) h
  | @dT a kvs ea =>
    cases (show u = Value.ref a from rx)
    obtain ⟨_, _, xs, _, o, es, ep, h1, h2, _⟩ := (show ObjOk X.prog X.w H s.heap a (.dT kvs) from I.hok a _ ea)
    exact PySem.W.kia_one PySem.W.kitx_dict I.kIn ⟨o, h1, h2.1⟩ e (fun z => nomatch z) h
  | @ins a C dx fs ea cl ha hn htk hm =>
    cases (show u = Value.ref a from rx)
    obtain ⟨mA, O, _⟩ := ins_get I.hok ea
    obtain ⟨od, J, _⟩ := O.look
    exact PySem.W.kia_one (PySem.W.kitx_own (cl.get _) cl.hd ha hn htk hm) I.kIn J e (fun z => nomatch z) h
end
end L2
namespace L2
open PySem PySem.Spec PyProof.Rows
structure Room (k : Nat) (A : Around) : Prop where
  hd : A.handled = none
  dp : A.depth + 3 * k + 5 < recursionLimit
  un : A.units + 16 * k + 200 < cLine
theorem Room.mono {j k : Nat} {A : Around} (r : Room k A) (h : j ≤ k) : Room j A := ⟨r.hd, by have := r.dp; omega, by have := r.un; omega⟩
theorem Room.deeper {k : Nat} {A : Around} (r : Room (k + 1) A) (env : Env) : Room k (A.deeper env) :=
  ⟨r.hd, by have := r.dp; show A.depth + 1 + 3 * k + 5 < _; omega, by have := r.un; show A.units + 3 + 16 * k + 200 < _; omega⟩
theorem Room.in1 {k : Nat} {A : Around} (r : Room (k + 1) A) : Room k A.in1 :=
  ⟨r.hd, by have := r.dp; show A.depth + 3 * k + 5 < _; omega, by have := r.un; show A.units + 1 + 16 * k + 200 < _; omega⟩
theorem Room.depth {k : Nat} {A : Around} (r : Room k A) : A.depth < recursionLimit := by have := r.dp; omega
theorem Room.units {k : Nat} {A : Around} (r : Room k A) : A.units + 64 < cLine := by have := r.un; omega
theorem Room.units0 {k : Nat} {A : Around} (r : Room k A) : A.units < cLine := by have := r.un; omega
def tNil : TA := fun _ H Q => Q [] H
def tCons (ta : TE) (tr : TA) : TA := fun σ H Q => ta σ H fun x H1 => tr σ H1 fun xs H2 => Q (x :: xs) H2
section
variable {X : Cx} {e : Expr} {es : List Expr} {te : TE} {t : TA} {pos : Pos}
theorem pa_nil : PA X [] tNil := fun _ _ _ _ H Q I h => Calls.spliced_nil ⟨[], H, I, .nil, h⟩
theorem pa_cons (ha : PE X e te) (hr : PA X es t) (hs : starEach (e :: es) X.env = (false, eval e X.env) :: starEach es X.env := by rfl) : PA X (e :: es) (tCons te t) := by
  intro pos pins s σ H Q I h
  rw [hs]
  show wpAny _ _ (spliced ((false, eval e X.env) :: backTo pos (starEach es X.env))) _ _ s
  refine Calls.spliced_cons (thn (ha pins s σ H _ I h) fun u s1 ⟨x, H1, I1, r1, q1⟩ => ?_)
  exact thn (hr pos pins s1 σ H1 _ I1 q1) fun us s2 ⟨xs, H2, I2, r2, q2⟩ => ⟨x :: xs, H2, I2, .cons r1 r2, q2⟩
def tTup (t : TA) : TE := fun σ H Q => t σ H fun xs H1 => xs.length ≤ sizeLine ∧ ∀ p, H1 p = none → Q (.ref p) (upd H1 p (.tup xs))
def tLst (t : TA) : TE := fun σ H Q => t σ H fun xs H1 => xs.length ≤ sizeLine ∧ ∀ p, H1 p = none → Q (.ref p) (upd H1 p (.lst xs))
end
abbrev Sp := List V → Hp → VK → XK → Prop
abbrev CXT := List Env → Hp → Shared → XK → Value → Shared → Prop
structure Env0 (P : Program) (w : World) (K : PySem.W.Frag) (mg : Str → Option Value) (base : Heap) (A : Around) (outer : List Env) (s : Shared) (H : Hp) : Prop where
  frames : A.frames = some outer
  mod : Mod K mg base
  bs : ∀ b o, base.get? b = some o → s.heap.get? b = some o ∧ H b = none
  bsz : base.objs.size ≤ s.heap.objs.size
  funs : s.heap.FunFrames base outer
  frf : ∀ b ∈ frs outer, H b = none
  hok : HOk P w H s.heap
  bare : AllBare s.gens
def CE (outer : List Env) (P : Program) (w : World) (H : Hp) (s : Shared) (Q : VK) (u : Value) (s' : Shared) : Prop :=
  ∃ v H', s'.os = s.os ∧ AllBare s'.gens ∧ Un (frs outer) [] H H' s.heap s'.heap ∧ HOk P w H' s'.heap ∧ RelV v u ∧ Q v H'
def CR (CX : CXT) (outer : List Env) (P : Program) (w : World) (H : Hp) (s : Shared) (Q : VK) (E : XK) (r : Result) (s' : Shared) : Prop :=
  match r with
  | .ok (.ret u) => CE outer P w H s Q u s'
  | .ok _ => False
  | .error e => CX outer H s E e s'
structure FnOk (P : Program) (w : World) (K : PySem.W.Frag) (mg : Str → Option Value) (base : Heap) (CX : CXT) (k : Nat) (f : Addr) (fd : FuncData) (ps : List Str) (sp : Sp) : Prop where
  len : ∀ vs H Q E, sp vs H Q E → vs.length = ps.length
  run : ∀ (A : Around) (outer : List Env) (s : Shared) (H : Hp) (args : Args) (us : List Value) (vs : List V) (Q : VK) (E : XK), Room k A → Env0 P w K mg base A outer s H → BindsTo s fd args (ps.zip us) → Vals vs us → sp vs H Q E →
    codeAny (model P w) A (.call (.ref f) args) (CR CX outer P w H s Q E) s
theorem FnOk.mono {P : Program} {w : World} {K : PySem.W.Frag} {mg : Str → Option Value} {base : Heap} {CX : CXT} {j k : Nat} {f : Addr} {fd : FuncData} {ps : List Str} {sp : Sp} (F : FnOk P w K mg base CX j f fd ps sp) (h : j ≤ k) :
    FnOk P w K mg base CX k f fd ps sp := ⟨F.len, fun A outer s H args us vs Q E hr => F.run A outer s H args us vs Q E (hr.mono h)⟩
theorem Env0.in1 {P : Program} {w : World} {K : PySem.W.Frag} {mg : Str → Option Value} {base : Heap} {A : Around} {outer : List Env} {s : Shared} {H : Hp} (e : Env0 P w K mg base A outer s H) :
    Env0 P w K mg base A.in1 outer s H := ⟨e.frames, e.mod, e.bs, e.bsz, e.funs, e.frf, e.hok, e.bare⟩
section
variable {X : Cx} {pins : List (Addr × Obj)} {σ : St} {H : Hp} {s s' : Shared}
theorem Inv.env0 (I : Inv X pins σ H s) : Env0 X.prog X.w X.K X.mg X.base X.A X.stack s H :=
  ⟨I.ok.frames, I.ok.mod, I.bs, Nat.le_trans I.ok.bsz I.sz, I.stack, I.stkFree, I.hok, I.bare⟩
theorem Inv.after {Q : VK} {u : Value} (I : Inv X pins σ H s) (h : CE X.stack X.prog X.w H s Q u s') : EP X pins σ Q u s' := by
  obtain ⟨v, H', os, bare, un, hok, r, q⟩ := h
  obtain ⟨hh, g, d, t, os'⟩ := s'
  obtain rfl : os' = s.os := os
  exact ⟨v, H', I.call (h' := hh) (g' := g) (d' := d) (t' := t) (ch := []) un hok bare (fun b z => absurd z (by simp)), r, q⟩
end
def tCall (sp : Sp) (dvs : List V) (E : XK) (t : TA) : TE := fun σ H Q => t σ H fun vs H1 => sp (vs ++ dvs) H1 Q E
def tMeth (C : Addr) (m : Str) (sp : Sp) (dvs : List V) (E : XK) (ta : TE) (t : TA) : TE := fun σ H Q => ta σ H fun x H1 => ∃ a dx fs, x = .ref a ∧ H1 a = some (.ins C dx fs) ∧ fs.lookup m = none ∧
  t σ H1 fun vs H2 => sp (x :: (vs ++ dvs)) H2 Q E
def tMake (C : Addr) (sp : Sp) (dvs : List V) (E : XK) (t : TA) : TE := fun σ H Q => t σ H fun vs H1 => ∀ x dx, H1 x = none → H1 dx = none → dx ≠ x →
  sp (.ref x :: (vs ++ dvs)) (upd (upd H1 dx (.own x)) x (.ins C dx [])) (fun v H2 => v = .non ∧ Q (.ref x) H2) E
def Binds (K : PySem.W.Frag) (fd : FuncData) (ps : List Str) (ds : List Value) : Prop :=
  ∀ (s : Shared) (us : List Value), K.In s.heap → (us ++ ds).length = ps.length → BindsTo s fd ⟨us, []⟩ (ps.zip (us ++ ds))
theorem Binds.all {K : PySem.W.Frag} {fd : FuncData} {ps : List Str} (h : ∀ us : List Value, us.length = ps.length → bindArgs fd ⟨us, []⟩ = pure (ps.zip us)) : Binds K fd ps [] := fun s us _ hl => by
  rw [List.append_nil] at hl ⊢
  exact .of_eq (h us hl)
def Passes (CX : CXT) (X : Cx) (E : XK) : Prop := ∀ (pins : List (Addr × Obj)) (σ : St) (H : Hp) (s : Shared) (e : Value) (s' : Shared), Inv X pins σ H s → CX X.stack H s E e s' → X.xe e s'
section
variable {X : Cx} {CX : CXT} {k : Nat} {f C : Addr} {fd : FuncData} {ps : List Str} {sp : Sp} {dvs : List V} {ds : List Value} {E : XK} {x m : Str} {p pos apos : Pos} {e o : Expr} {es : List Expr} {ta : TE} {t : TA}
theorem run_fn {pins : List (Addr × Obj)} {σ : St} {H : Hp} {s : Shared} {Q : VK} {us : List Value} {vs : List V} (F : FnOk X.prog X.w X.K X.mg X.base CX k f fd ps sp) (hr : Room k X.A) (hb : Binds X.K fd ps ds) (hd : Vals dvs ds) (hx : Passes CX X E)
    (I : Inv X pins σ H s) (r : Vals vs us) (h : sp (vs ++ dvs) H Q E) : wpAny (model X.prog X.w) X.A (call (.ref f) us) (EP X pins σ Q) X.xe s := by
  have r2 : Vals (vs ++ dvs) (us ++ ds) := r.append hd
  have hl : (us ++ ds).length = ps.length := by rw [← r2.length]; exact F.len _ _ _ _ h
  refine wpAny_call (codeAny_mono (F.run X.A X.stack s H ⟨us, []⟩ (us ++ ds) (vs ++ dvs) Q E hr I.env0 (hb s us I.kIn hl) r2 h) fun r s' hq => ?_)
  cases r with
  | error e => exact hx pins σ H s e s' I hq
  | ok fl =>
    cases fl with
    | ret u => exact I.after hq
    | next => exact False.elim hq
    | brk => exact False.elim hq
    | cont => exact False.elim hq
theorem pe_call (F : FnOk X.prog X.w X.K X.mg X.base CX k f fd ps sp) (hr : Room k X.A) (hg : Gl X x) (hm : X.mg x = some (.ref f)) (hk : PySem.W.keepIn X.K (.ref f) = true) (hb : Binds X.K fd ps ds) (hd : Vals dvs ds) (hx : Passes CX X E)
    (ha : PA X (e :: es) t) (hdb : (x == ("__debug__" : Str)) = false := by decide) (he : starEach (e :: es) X.env = (false, eval e X.env) :: starEach es X.env := by rfl) (hpl : (backTo pos (starEach es X.env)).any (·.1) = false := by rfl) :
    PE X (.Call (.Name x p) (e :: es) [] pos) (tCall sp dvs E t) := by
  intro pins s σ H Q I h
  refine wpAny_Call_Name_kw (ld_glob I hg hm ?_ hdb)
  refine PySem.W.callWith_K (h₀ := X.base) I.ok.mod.kin hk (thn (ha pos pins s σ H _ I h) fun us s1 ⟨vs, H1, I1, r, q⟩ => ⟨I1.kIn, ?_⟩) he hpl
  exact run_fn F hr hb hd hx I1 r q
structure Mk (K : PySem.W.Frag) (C f : Addr) : Prop where
  makes : PySem.W.makesIn K C = true
  init : PySem.W.findIn K (.ref C) "__init__" = some (some (.ref f))
  fn : PySem.W.isFn K (.ref f) = true
  kp : PySem.W.keepIn K (.ref C) = true
end
def PK (X : Cx) (kws : List Keyword) (t : TA) : Prop :=
  ∀ (pos : Pos) (pins : List (Addr × Obj)) (s : Shared) (σ : St) (H : Hp) (Q : List V → Hp → Prop), Inv X pins σ H s → t σ H Q → wpAny (model X.prog X.w) X.A (evalAll ((backToKw pos (keywordEach kws X.env)).map (·.2))) (AP X pins σ Q) X.xe s
section
variable {X : Cx} {CX : CXT} {k : Nat} {f C : Addr} {fd : FuncData} {ps ks : List Str} {sp : Sp} {E : XK} {x m : Str} {p pos apos kpos : Pos} {e o : Expr} {es : List Expr} {kws : List Keyword} {te ta : TE} {t tk : TA} {nm : Option Str}
structure KBinds (K : PySem.W.Frag) (fd : FuncData) (ps ks : List Str) (g : List Value → List Value → List Value) (gV : List V → List V → List V) : Prop where
  to : ∀ (s : Shared) (us ws : List Value), K.In s.heap → (g us ws).length = ps.length → BindsTo s fd ⟨us, ks.zip ws⟩ (ps.zip (g us ws))
  rel : ∀ {vs : List V} {us : List Value} {zs : List V} {ws : List Value}, Vals vs us → Vals zs ws → Vals (gV vs zs) (g us ws)
def tCallK (sp : Sp) (gV : List V → List V → List V) (E : XK) (t tk : TA) : TE := fun σ H Q => t σ H fun vs H1 => tk σ H1 fun zs H2 => sp (gV vs zs) H2 Q E
variable {g : List Value → List Value → List Value} {gV : List V → List V → List V}
end
structure FnScope (N P : List Str) (sc : Scope) : Prop where
  kind : sc.kind = .function
  co : sc.isCoroutine = false
  gen : sc.isGenerator = false
  nd : N.Nodup
  pre : N.take P.length = P
  par : ∀ x ∈ P, sc.names.lookup x = some .local ∨ sc.names.lookup x = some .cell
  nofree : ∀ y ∈ sc.names, y.2 ≠ .free
theorem bindL_out {kindOf : Str → Option NameKind} {x : Str} : ∀ {binds : List (Str × Value)} {m : Str → Option Value}, (∀ v, (x, v) ∉ binds) → bindL kindOf binds m x = m x
  | [], _, _ => rfl
  | (n, v) :: r, m, h => by
    unfold bindL
    rw [bindL_out fun w hw => h w (List.mem_cons_of_mem _ hw)]
    split
    · have : x ≠ n := by rintro rfl; exact h v List.mem_cons_self
      simp [this]
    · rfl
theorem bindC_out {kindOf : Str → Option NameKind} {x : Str} : ∀ {binds : List (Str × Value)} {m : Str → Option Value}, (∀ v, (x, v) ∉ binds) → bindC kindOf binds m x = m x
  | [], _, _ => rfl
  | (n, v) :: r, m, h => by
    unfold bindC
    rw [bindC_out fun w hw => h w (List.mem_cons_of_mem _ hw)]
    split
    · rfl
    · have : x ≠ n := by rintro rfl; exact h v List.mem_cons_self
      simp [this]
theorem bindL_get {kindOf : Str → Option NameKind} {x : Str} {v : Value} : ∀ {P : List Str} {vs : List Value} {i : Nat} {m : Str → Option Value}, P.Nodup → P[i]? = some x → vs[i]? = some v → kindOf x = some .local →
    bindL kindOf (P.zip vs) m x = some v
  | [], _, _, _, _, h, _, _ => by simp at h
  | _ :: _, [], _, _, _, _, h, _ => by simp at h
  | p :: P, w :: vs, 0, m, nd, h1, h2, hk => by
    simp at h1 h2; subst h1; subst h2
    show bindL kindOf ((p, w) :: P.zip vs) m p = _
    unfold bindL
    rw [bindL_out fun v hv => (List.nodup_cons.mp nd).1 (List.of_mem_zip hv).1, if_pos hk]
    simp
  | p :: P, w :: vs, i + 1, m, nd, h1, h2, hk => by
    show bindL kindOf ((p, w) :: P.zip vs) m x = _
    unfold bindL
    exact bindL_get (i := i) (List.nodup_cons.mp nd).2 (by simpa using h1) (by simpa using h2) hk
theorem bindC_get {kindOf : Str → Option NameKind} {x : Str} {v : Value} : ∀ {P : List Str} {vs : List Value} {i : Nat} {m : Str → Option Value}, P.Nodup → P[i]? = some x → vs[i]? = some v → kindOf x ≠ some .local →
    bindC kindOf (P.zip vs) m x = some v
  | [], _, _, _, _, h, _, _ => by simp at h
  | _ :: _, [], _, _, _, _, h, _ => by simp at h
  | p :: P, w :: vs, 0, m, nd, h1, h2, hk => by
    simp at h1 h2; subst h1; subst h2
    show bindC kindOf ((p, w) :: P.zip vs) m p = _
    unfold bindC
    rw [bindC_out fun v hv => (List.nodup_cons.mp nd).1 (List.of_mem_zip hv).1, if_neg hk]
    simp
  | p :: P, w :: vs, i + 1, m, nd, h1, h2, hk => by
    show bindC kindOf ((p, w) :: P.zip vs) m x = _
    unfold bindC
    exact bindC_get (i := i) (List.nodup_cons.mp nd).2 (by simpa using h1) (by simpa using h2) hk
def start (N : List Str) (vs : List V) : St := vs.map some ++ List.replicate (N.length - vs.length) none
def cxOf (CX : CXT) (P : Program) (w : World) (K : PySem.W.Frag) (mg : Str → Option Value) (base : Heap) (N : List Str) (qual : Str) (scope : Scope) (f : Addr) (cd : Value) (A : Around) (outer : List Env) (s : Shared) (H : Hp) (E : XK) : Cx where
  prog := P
  w := w
  K := K
  mg := mg
  base := base
  A := A.deeper (envOfC qual scope s.heap.objs.size f cd)
  N := N
  s₀ := s
  H₀ := H
  env := envOfC qual scope s.heap.objs.size f cd
  outer := outer
  stack := envOfC qual scope s.heap.objs.size f cd :: outer
  ex := []
  calm := true
  fn := fun _ => true
  pn := []
  xe := fun e s' => wpAny (model P w) (A.deeper (envOfC qual scope s.heap.objs.size f cd)) (leaving (envOfC qual scope s.heap.objs.size f cd) e) (fun _ s'' => CX outer H s E e s'') (fun e' s'' => CX outer H s E e' s'') s'
theorem cell_has {sc : Scope} {n : Nat} {x : Str} (h : sc.names.lookup x = some .cell) : ∃ c, (cellsFrom n sc.names []).lookup x = some c := by
  have q := PySem.W.cellsFrom_some sc.names n [] (.inl h)
  exact Option.isSome_iff_exists.mp q
theorem inv_start {CX : CXT} {P : Program} {w : World} {K : PySem.W.Frag} {mg : Str → Option Value} {base : Heap} {N ps : List Str} {qual : Str} {scope : Scope} {f : Addr} {cd : Value} {A : Around} {outer : List Env} {s s1 : Shared} {H : Hp} {E : XK} {us : List Value} {vs : List V}
    (S : FnScope N ps scope) (hd : A.handled = none) (e0 : Env0 P w K mg base A outer s H) (hl : vs.length = ps.length) (r : Vals vs us)
    (x : InCallC s s.heap.objs.size (bindL (envOfC qual scope s.heap.objs.size f cd).kindOf (ps.zip us) fun _ => none) (cellsFrom (s.heap.objs.size + 1) scope.names []) (bindC (envOfC qual scope s.heap.objs.size f cd).kindOf (ps.zip us) fun _ => none) s1) :
    Inv (cxOf CX P w K mg base N qual scope f cd A outer s H E) [] (start N vs) H s1 := by
  have hpl : ps.length ≤ N.length := by have := congrArg List.length S.pre; rw [List.length_take] at this; omega
  obtain ⟨h1, tk, rfl, hk⟩ := x.done
  have noA : ∀ b : Addr, b ∉ (cxOf CX P w K mg base N qual scope f cd A outer s H E).ex := fun b z => absurd (show b ∈ ([] : List Addr) from z) (by simp)
  refine ⟨⟨e0.mod, S.kind, rfl, rfl, Nat.le_refl _, fun y z c h1 h2 => ?_, fun y hy => ?_, fun y c _ h => ?_, fun _ => hd, Around.frames_deeper e0.frames, .inr ⟨rfl, rfl⟩, fun b z => absurd z (noA b), e0.bs, e0.bsz, fun b _ _ => noA b, fun b z => absurd z (noA b), e0.funs, e0.frf⟩,
    rfl, e0.bare, Un.kept hk, ⟨_, x.toInCall.ns, fun i y v h1 h2 h3 => ?_⟩, fun y c h => ⟨_, x.cell y c h⟩, e0.hok.fresh (Nat.le_refl _), fun y c h => ?_, fun p hp => absurd (show p ∈ ([] : List (Addr × Obj)) from hp) (by simp), e0.hok.kept hk, ?_⟩
  · exact name_of_addr x.apart (PySem.mem_of_lookup h1) (PySem.mem_of_lookup h2)
  · have hy : scope.names.lookup y = some .cell ∨ scope.names.lookup y = some .free := hy
    rcases hy with hy | hy
    · exact cell_has hy
    · exact absurd rfl (S.nofree _ (PySem.mem_of_lookup hy))
  · exact Nat.le_of_lt (x.above y c (PySem.mem_of_lookup h))
  · have hi : i < vs.length := by
      unfold start at h2
      by_cases hi : i < vs.length
      · exact hi
      · rw [List.getElem?_append_right (by simpa using hi)] at h2
        rw [List.getElem?_replicate] at h2
        split at h2 <;> cases h2
    have ha : vs[i]? = some v := by
      unfold start at h2
      rw [List.getElem?_append_left (by simpa using hi), List.getElem?_map] at h2
      cases e : vs[i]? with
      | none => rw [e] at h2; cases h2
      | some a => rw [e] at h2; cases h2; rfl
    obtain ⟨u, hu, rv⟩ := r.get ha
    have hp : ps[i]? = some y := by
      rw [← S.pre, List.getElem?_take_of_lt (by omega)]; exact h1
    have ndP : ps.Nodup := by rw [← S.pre]; exact S.nd.sublist (List.take_sublist _ _)
    refine ⟨u, rv, ?_⟩
    rcases S.par y (List.mem_of_getElem? hp) with k | k
    · exact .inl ⟨k, bindL_get ndP hp hu k⟩
    · obtain ⟨c, e⟩ := cell_has (n := s.heap.objs.size + 1) k
      refine .inr ⟨.inl k, c, e, ?_⟩
      have q := x.cell y c e
      rw [bindC_get ndP hp hu (by show scope.names.lookup y ≠ _; rw [k]; decide)] at q
      exact q
  · exact e0.hok.fresh (Nat.le_of_lt (x.above y c (PySem.mem_of_lookup h)))
  · unfold start
    show _ = N.length
    rw [List.length_append, List.length_map, List.length_replicate]
    omega
theorem fn_of {CX : CXT} {P : Program} {w : World} {K : PySem.W.Frag} {mg : Str → Option Value} {base : Heap} {k : Nat} {f : Addr} {name qual : Str} {params : Arguments} {body : List Stmt} {scope : Scope} {dV kV doc pm cdv ct oc : Value} {an od : Option Addr}
    {osl : Array (Option Value)} {N ps : List Str} {sp : Sp} (lk : K.lookup f = some ⟨oc, od, .func (PySem.W.fnOf name qual params body scope dV kV doc pm an cdv ct), osl⟩) (hcd : PySem.W.codeIn K cdv qual = true) (S : FnScope N ps scope)
    (len : ∀ vs H Q E, sp vs H Q E → vs.length = ps.length)
    (hbody : ∀ (A : Around) (outer : List Env) (s : Shared) (H : Hp) (vs : List V) (Q : VK) (E : XK), Room k (A.deeper (envOfC qual scope s.heap.objs.size f cdv)) → sp vs H Q E →
      ∃ t, PSs (cxOf CX P w K mg base N qual scope f cdv A outer s H E) body t ∧ t { nx := fun _ H' => Q .non H', rt := Q } (start N vs) H) :
    FnOk P w K mg base CX (k + 1) f (PySem.W.fnOf name qual params body scope dV kV doc pm an cdv ct) ps sp := by
  refine ⟨len, fun A outer s H args us vs Q E hr e0 hb r hsp => ?_⟩
  have hl := len _ _ _ _ hsp
  have KX : K.In s.heap := e0.mod.kin.keeps fun b o e => (e0.bs b o e).1
  have lim : s.heap.NoLimit := e0.mod.nolimit.keeps fun b o e => (e0.bs b o e).1
  have hkind : ∀ y ∈ ps.zip us, scope.names.lookup y.1 = some .local ∨ (scope.names.lookup y.1 = some .cell ∧ ((cellsFrom (s.heap.objs.size + 1) scope.names []).lookup y.1).isSome = true) := fun ⟨n, v⟩ hy => by
    rcases S.par n (List.of_mem_zip hy).1 with q | q
    · exact .inl q
    · exact .inr ⟨q, PySem.W.cellsFrom_some _ _ _ (.inl q)⟩
  refine codeAny_call_function hr.depth (KX _ _ lk) rfl S.co S.gen rfl (PySem.W.codeRec_of KX hcd) (hb _ _ _ _ ?_)
  refine wpAny_newFunctionEnv_cells S.kind hkind fun env he s1 x => ?_
  subst he
  refine ⟨lim.keeps x.toInCall.keep, codeAny_func ?_⟩
  obtain ⟨t, ht, hq⟩ := hbody A outer s H vs Q E (hr.deeper _) hsp
  have I : Inv (cxOf CX P w K mg base N qual scope f cdv A outer s H E) [] (start N vs) H s1 := inv_start S hr.hd e0 hl r x
  refine wpAny_mono (ht [] s1 (start N vs) H _ I hq) (fun fl s' hs => ?_) fun e s' hs => hs
  have fin : ∀ {σ' : St} {H' : Hp} {v : V} {u : Value}, Inv (cxOf CX P w K mg base N qual scope f cdv A outer s H E) [] σ' H' s' → RelV v u → Q v H' → CE outer P w H s Q u s' :=
    fun {σ' H' v u} J rv q => ⟨v, H', J.os, J.bare, J.base, J.hok, rv, q⟩
  cases fl with
  | ret u =>
    obtain ⟨v, σ', H', J, rv, q⟩ := hs
    exact fin J rv q
  | next =>
    obtain ⟨σ', H', J, q⟩ := hs
    exact fin (v := V.non) (u := Value.none) J rfl q
  | brk =>
    obtain ⟨_, _, _, q⟩ := hs
    exact False.elim q
  | cont =>
    obtain ⟨_, _, _, q⟩ := hs
    exact False.elim q
end L2
namespace L2
open PySem PySem.Spec PyProof.Rows
section
variable {X : Cx} {x : Str} {p pos : Pos} {e : Expr} {es : List Expr} {t : TA} {id T : String} {r : List V → Hp → VK → Prop}
def tCB (r : List V → Hp → VK → Prop) (t : TA) : TE := fun σ H Q => t σ H fun vs H1 => r vs H1 Q
theorem pe_callB (hc : CallR X (.builtin id) r) (hg : Gl X x) (hm : X.mg x = none) (hv : bootBuiltins x = some (.builtin id)) (ha : PA X (e :: es) t) (hn : x ≠ "__name__" := by decide) (hdb : (x == ("__debug__" : Str)) = false := by decide)
    (he : starEach (e :: es) X.env = (false, eval e X.env) :: starEach es X.env := by rfl) (hpl : (backTo pos (starEach es X.env)).any (·.1) = false := by rfl) : PE X (.Call (.Name x p) (e :: es) [] pos) (tCB r t) := by
  intro pins s σ H Q I h
  refine wpAny_Call_Name_kw (ld_blt I hg hm hv ?_ hn hdb)
  exact PyProof.Rows.callWith_builtin1 (thn (ha pos pins s σ H _ I h) fun us s1 ⟨vs, H1, I1, r1, q1⟩ => hc pins s1 σ H1 vs us Q I1 r1 q1) he hpl
theorem pe_callTy (hc : CallR X (.type T) r) (hg : Gl X x) (hm : X.mg x = none) (hv : bootBuiltins x = some (.type T)) (ha : PA X (e :: es) t) (hn : x ≠ "__name__" := by decide) (hdb : (x == ("__debug__" : Str)) = false := by decide)
    (he : starEach (e :: es) X.env = (false, eval e X.env) :: starEach es X.env := by rfl) (hpl : (backTo pos (starEach es X.env)).any (·.1) = false := by rfl) : PE X (.Call (.Name x p) (e :: es) [] pos) (tCB r t) := by
  intro pins s σ H Q I h
  refine wpAny_Call_Name_kw (ld_blt I hg hm hv ?_ hn hdb)
  exact PyProof.Rows.callWith_type1 (thn (ha pos pins s σ H _ I h) fun us s1 ⟨vs, H1, I1, r1, q1⟩ => hc pins s1 σ H1 vs us Q I1 r1 q1) he hpl
end
end L2
namespace HT
open PySem PyProof.Rows
def lexLt : List Int → List Int → Bool
  | [], [] => false
  | [], _ :: _ => true
  | _ :: _, [] => false
  | x :: xs, y :: ys => if x = y then lexLt xs ys else decide (x < y)
section
open PySem.SeqAt
open PySem.AutoSeq1 (wpAny_loadPart')
open PySem.MeetsSeq PySem.MeetsSeq2 PySem.MeetsSeq3
end
section
variable {prog : Program} {w : World} {A : Around} {E : Value → Shared → Prop} {s : Shared}
def sIx (n d : Nat) : Option Int → Nat
  | none => d
  | some v => if v < 0 then (v + (n : Int)).toNat else min v.toNat n
theorem sIx_nat (n d k : Nat) : sIx n d (some (k : Int)) = min k n := by
  show (if (k : Int) < 0 then ((k : Int) + (n : Int)).toNat else min (k : Int).toNat n) = min k n
  rw [if_neg (by omega), Int.toNat_natCast]
end
end HT
namespace L2
open PySem PySem.Spec PyProof.Rows
abbrev TO := St → Hp → (Option Int → Hp → Prop) → Prop
def PO (X : Cx) (e : Option Expr) (t : TO) : Prop :=
  ∀ (pins : List (Addr × Obj)) (s : Shared) (σ : St) (H : Hp) (Q : Option Int → Hp → Prop), Inv X pins σ H s → t σ H Q →
    wpAny (model X.prog X.w) X.A (evalPart e X.env) (fun u s' => ∃ o H', Inv X pins σ H' s' ∧ IsPart u o ∧ Q o H') X.xe s
def tNoPart : TO := fun _ H Q => Q none H
def tPart (t : TE) : TO := fun σ H Q => t σ H fun x H1 => ∃ i, x = .int i ∧ Q (some i) H1
section
variable {X : Cx} {e : Expr} {te : TE} {lo hi : Option Expr} {tl th : TO} {pos p2 : Pos}
theorem po_some (h : PE X e te) : PO X (some e) (tPart te) := by
  intro pins s σ H Q I hw
  rw [evalPart_some]
  refine thn (h pins s σ H _ I hw) fun u s1 ⟨x, H1, I1, r1, q1⟩ => ?_
  obtain ⟨i, rfl, q⟩ := q1
  obtain ⟨t, rfl⟩ := r1
  exact ⟨some i, H1, I1, .int i t, q⟩
def SlR (X : Cx) (r : V → Option Int → Option Int → Hp → VK → Prop) : Prop :=
  ∀ (pins : List (Addr × Obj)) (s : Shared) (σ : St) (H : Hp) (x : V) (v vl vu : Value) (lo hi : Option Int) (sl : Addr) (Q : VK), Inv X pins σ H s → RelV x v → s.heap.IsSliceOf sl vl vu .none → IsPart vl lo → IsPart vu hi → r x lo hi H Q →
    ∃ T id, typeLookup (.type T) "__getitem__" = pure (some (.builtin id)) ∧ s.TypeIs v T ∧ wpAny (model X.prog X.w) X.A (getItem v (.ref sl)) (EP X pins σ Q) X.xe s
theorem SlR.or {r r' : V → Option Int → Option Int → Hp → VK → Prop} (h : SlR X r) (h' : SlR X r') : SlR X (fun x lo hi H Q => r x lo hi H Q ∨ r' x lo hi H Q) := by
  intro pins s σ H x v vl vu lo hi sl Q I rx hs pl pu q
  rcases q with q | q
  · exact h pins s σ H x v vl vu lo hi sl Q I rx hs pl pu q
  · exact h' pins s σ H x v vl vu lo hi sl Q I rx hs pl pu q
def tSl (r : V → Option Int → Option Int → Hp → VK → Prop) (te : TE) (tl th : TO) : TE := fun σ H Q => te σ H fun x H1 => tl σ H1 fun l H2 => th σ H2 fun u H3 => r x l u H3 Q
theorem pe_slice {r : V → Option Int → Option Int → Hp → VK → Prop} (hr : SlR X r) (he : PE X e te) (hl : PO X lo tl) (hu : PO X hi th) : PE X (.Subscript e (.Slice lo hi none p2) pos) (tSl r te tl th) := by
  intro pins s σ H Q I h
  refine Subscript_ (thn (he pins s σ H _ I h) fun v s1 ⟨x, H1, I1, r1, q1⟩ => ?_)
  refine wpAny_Slice (thn (hl pins s1 σ H1 _ I1 q1) fun vl s2 ⟨l, H2, I2, pl, q2⟩ => thn (hu pins s2 σ H2 _ I2 q2) fun vu s3 ⟨u, H3, I3, pu, q3⟩ => ?_)
  rw [evalPart_none]
  refine wpAny_pure ?_
  have I4 : Inv X pins σ H3 { s3 with heap := s3.heap.push { cls := .type "slice", data := .fields #[vl, vu, .none] } } := I3.kept (t' := s3.toks) fun b ob q => Heap.get?_push_of_some _ q
  obtain ⟨T, id, hT, ht, hg⟩ := hr pins { s3 with heap := s3.heap.push { cls := .type "slice", data := .fields #[vl, vu, .none] } } σ H3 x v vl vu l u s3.heap.objs.size Q I4 r1 (Heap.IsSliceOf.new ..) pl pu q3
  show wpAny (model X.prog X.w) X.A (subscriptTail e (.Slice lo hi none p2) v (.ref s3.heap.objs.size)) (EP X pins σ Q) X.xe { s3 with heap := s3.heap.push { cls := .type "slice", data := .fields #[vl, vu, .none] } }
  exact tail_any (ops := [.ref s3.heap.objs.size, v]) ht hT hg (by with_unfolding_all rfl)
def cutV (xs : List V) (lo hi : Option Int) : List V := (xs.drop (HT.sIx xs.length 0 lo)).take (HT.sIx xs.length xs.length hi - HT.sIx xs.length 0 lo)
theorem cutV_length (xs : List V) (lo hi : Option Int) : (cutV xs lo hi).length ≤ xs.length := by
  unfold cutV
  rw [List.length_take, List.length_drop]
  omega
def rSlT (K : PySem.W.Frag) : V → Option Int → Option Int → Hp → VK → Prop := fun x lo hi H Q => ∃ a xs, x = .ref a ∧ SqT K H a xs ∧
  ¬ (HT.sIx xs.length 0 lo = 0 ∧ HT.sIx xs.length xs.length hi = xs.length) ∧ ∀ p, H p = none → Q (.ref p) (upd H p (.tup (cutV xs lo hi)))
def rLtT (K : PySem.W.Frag) : R2 := fun x y H Q => ∃ a b ns ms, x = .ref a ∧ y = .ref b ∧ SqT K H a (ns.map V.int) ∧ SqT K H b (ms.map V.int) ∧ Q (.bl (HT.lexLt ns ms)) H
def rCatT (K : PySem.W.Frag) : R2 := fun x y H Q => ∃ a b xs ys, x = .ref a ∧ y = .ref b ∧ SqT K H a xs ∧ SqT K H b ys ∧ xs ≠ [] ∧ xs.length + ys.length ≤ sizeLine ∧
  (ys = [] → Q (.ref a) H) ∧ (ys ≠ [] → ∀ p, H p = none → Q (.ref p) (upd H p (.tup (xs ++ ys))))
end
end L2
namespace L2
open PySem PySem.Spec PyProof.Rows
def ixN (n : Nat) (i : Int) : Option Nat := if 0 ≤ i then (if i < n then some i.toNat else none) else if -(n : Int) ≤ i then some (i + n).toNat else none
def atI {α : Type} (xs : List α) (i : Int) : Option α := (ixN xs.length i).bind fun j => xs[j]?
theorem ixN_seq {n : Nat} {i : Int} {j : Nat} (h : ixN n i = some j) : seqIndex? i n = some j ∧ j < n ∧ -(n : Int) ≤ i ∧ i < n := by
  unfold ixN at h
  by_cases h0 : 0 ≤ i
  · rw [if_pos h0] at h
    by_cases h1 : i < n
    · rw [if_pos h1] at h
      have e : i.toNat = j := Option.some.inj h
      exact ⟨by rw [seqIndex_of h0 h1, e], by omega, by omega, h1⟩
    · rw [if_neg h1] at h; cases h
  · rw [if_neg h0] at h
    by_cases h1 : -(n : Int) ≤ i
    · rw [if_pos h1] at h
      have e : (i + n).toNat = j := Option.some.inj h
      exact ⟨by rw [seqIndex_neg (by omega) h1, e], by omega, h1, by omega⟩
    · rw [if_neg h1] at h; cases h
theorem atI_get {α : Type} {xs : List α} {i : Int} {v : α} (h : atI xs i = some v) : ∃ j, seqIndex? i xs.length = some j ∧ xs[j]? = some v ∧ j < xs.length ∧ -(xs.length : Int) ≤ i ∧ i < xs.length := by
  unfold atI at h
  cases e : ixN xs.length i with
  | none => rw [e] at h; cases h
  | some j =>
    rw [e] at h
    obtain ⟨h1, h2, h3, h4⟩ := ixN_seq e
    exact ⟨j, h1, h, h2, h3, h4⟩
theorem atI_nat {α : Type} {xs : List α} {j : Nat} {v : α} (h : xs[j]? = some v) : atI xs (j : Int) = some v := by
  have hj : j < xs.length := (List.getElem?_eq_some_iff.mp h).1
  have e : ixN xs.length (j : Int) = some j := by
    unfold ixN
    rw [if_pos (by omega), if_pos (by omega)]; simp
  unfold atI; rw [e]; exact h
theorem atI_last {α : Type} (xs : List α) (v : α) : atI (xs ++ [v]) (-1) = some v := by
  have hl : (xs ++ [v]).length = xs.length + 1 := by simp
  have e : ixN (xs ++ [v]).length (-1) = some xs.length := by
    unfold ixN
    rw [hl, if_neg (by decide), if_pos (by omega)]
    congr 1
    omega
  unfold atI
  rw [e]
  show (xs ++ [v])[xs.length]? = some v
  simp
def PlainIx (b : Expr) : Prop := ∀ o i, subscripted b false o i = operate [o, i] (getItem o i)
def IxR (X : Cx) (r : R2) : Prop :=
  ∀ (value slice : Expr) (pins : List (Addr × Obj)) (s : Shared) (σ : St) (H : Hp) (x y : V) (v u : Value) (Q : VK), Inv X pins σ H s → RelV x v → RelV y u → r x y H Q →
    subscripted slice false v u = operate [v, u] (getItem v u) → wpAny (model X.prog X.w) X.A (subscriptTail value slice v u) (EP X pins σ Q) X.xe s
def MtR (X : Cx) (id : String) (r : V → List V → Hp → VK → Prop) : Prop :=
  ∀ (pins : List (Addr × Obj)) (s : Shared) (σ : St) (H : Hp) (x : V) (xs : List V) (v : Value) (us : List Value) (Q : VK), Inv X pins σ H s → RelV x v → Vals xs us → r x xs H Q →
    wpAny (model X.prog X.w) X.A (call (.builtin id) (v :: us)) (EP X pins σ Q) X.xe s
section
variable {X : Cx} {a b : Expr} {ta tb : TE} {pos : Pos}
theorem IxR.or {r r' : R2} (h : IxR X r) (h' : IxR X r') : IxR X (fun x y H Q => r x y H Q ∨ r' x y H Q) := by
  intro value slice pins s σ H x y v u Q I rx ry q hs
  rcases q with q | q
  · exact h value slice pins s σ H x y v u Q I rx ry q hs
  · exact h' value slice pins s σ H x y v u Q I rx ry q hs
theorem MtR.or {id : String} {r r' : V → List V → Hp → VK → Prop} (h : MtR X id r) (h' : MtR X id r') : MtR X id (fun x xs H Q => r x xs H Q ∨ r' x xs H Q) := by
  intro pins s σ H x xs v us Q I rx rs q
  rcases q with q | q
  · exact h pins s σ H x xs v us Q I rx rs q
  · exact h' pins s σ H x xs v us Q I rx rs q
theorem pe_ix {r : R2} (hr : IxR X r) (ha : PE X a ta) (hb : PE X b tb) (hs : PlainIx b) : PE X (.Subscript a b pos) (tOp r ta tb) := by
  intro pins s σ H Q I h
  exact Subscript_ (binT ha hb I h fun v u s2 x y H2 I2 rx ry q => hr a b pins s2 σ H2 x y v u Q I2 rx ry q (hs _ _))
def rIxL (K : PySem.W.Frag) : R2 := fun x y H Q => ∃ p xs i v, x = .ref p ∧ y = .int i ∧ SqL K H p xs ∧ atI xs i = some v ∧ Q v H
def rIxT (K : PySem.W.Frag) : R2 := fun x y H Q => ∃ p xs i v, x = .ref p ∧ y = .int i ∧ SqT K H p xs ∧ atI xs i = some v ∧ Q v H
def rIxS : R2 := fun x y H Q => ∃ z i c, x = .str z ∧ y = .int i ∧ z.length ≤ sizeLine ∧ atI z.cps.toList i = some c ∧ Q (.str ⟨#[c]⟩) H
theorem ix_list : IxR X (rIxL X.K) := by
  intro value slice pins s σ H x y v u Q I rx ry h hs
  obtain ⟨p, xs, i, z, rfl, rfl, hq, he, q⟩ := h
  cases rx
  obtain ⟨t, rfl⟩ := ry
  obtain ⟨its, r, pl, hz⟩ := I.list hq
  obtain ⟨j, h1, h2, h3, h4, h5⟩ := atI_get he
  obtain ⟨w, ew, rw'⟩ := r.get h2
  have hl := r.length
  have hn := line63
  have fin : EP X pins σ Q w s := ⟨z, H, I, rw', q⟩
  by_cases h0 : 0 ≤ i
  · have hj : i.toNat = j := by
      rw [seqIndex_of h0 h5] at h1
      exact Option.some.inj h1
    exact item_listR pl.isList h0 (by omega) (by rw [hj]; simpa using ew) fin hs
  · have hj : (i + (its.toArray.size : Int)).toNat = j := by
      rw [seqIndex_neg (by omega) h4] at h1
      rw [List.size_toArray, ← hl]
      exact Option.some.inj h1
    exact subscriptTail_builtinR (x := w) pl.isList.typeIs slot_list_getitem.lookup
      (wpAny_getItem_list_neg (Q := fun r s' => r = w ∧ EP X pins σ Q r s') pl.isList (by omega) (by rw [List.size_toArray] <;> omega) (by omega) (by rw [hj]; simpa using ew) ⟨rfl, fin⟩) hs
theorem ix_tup : IxR X (rIxT X.K) := by
  intro value slice pins s σ H x y v u Q I rx ry h hs
  obtain ⟨p, xs, i, z, rfl, rfl, hq, he, q⟩ := h
  cases rx
  obtain ⟨t, rfl⟩ := ry
  obtain ⟨its, r, pl, hz⟩ := I.tuple hq
  obtain ⟨j, h1, h2, h3, h4, h5⟩ := atI_get he
  obtain ⟨w, ew, rw'⟩ := r.get h2
  have hl := r.length
  have hn := line63
  have fin : EP X pins σ Q w s := ⟨z, H, I, rw', q⟩
  exact subscriptTail_builtinR (x := w) pl.typeIs slot_tuple_getitem.lookup
    (getItem_tuple (j := j) (Q := fun r s' => r = w ∧ EP X pins σ Q r s') pl (by omega) (by omega) (by rw [List.size_toArray, ← hl]; exact h1) (by simpa using ew) ⟨rfl, fin⟩) hs
theorem ix_str : IxR X rIxS := by
  intro value slice pins s σ H x y v u Q I rx ry h hs
  obtain ⟨z, i, c, rfl, rfl, hz, he, q⟩ := h
  obtain ⟨t, rfl⟩ := rx
  obtain ⟨t', rfl⟩ := ry
  obtain ⟨j, h1, h2, h3, h4, h5⟩ := atI_get he
  have hl : z.cps.toList.length = z.length := by simp [Str.length]
  rw [hl] at h1 h4 h5
  have hn := line63
  exact tail_any (typeIs_str s z t) slot_str_getitem.lookup (getItem_str (c := c) (by
    have e1 : decide (i < -(2 ^ 63 : Int)) = false := decide_eq_false (by omega)
    have e2 : decide (i ≥ 2 ^ 63) = false := decide_eq_false (by omega)
    rw [e1, e2, Bool.or_false]) (by rw [h1]; simpa using h2) ⟨.str ⟨#[c]⟩, H, I.tok _, ⟨_, rfl⟩, q⟩) hs
def rIx (K : PySem.W.Frag) : R2 := fun x y H Q => rIxL K x y H Q ∨ rIxT K x y H Q ∨ rIxS x y H Q
theorem ix_seq : IxR X (rIx X.K) := ix_list.or (ix_tup.or ix_str)
theorem Inv.lst {pins : List (Addr × Obj)} {σ : St} {H : Hp} {s : Shared} {p : Addr} {xs : List V} (I : Inv X pins σ H s) (h : H p = some (.lst xs)) :
    ∃ (its : List Value) (n : Nat), Vals xs its ∧ s.heap.get? p = some { cls := .type "list", data := .seq its.toArray n } ∧ xs.length ≤ sizeLine := by
  obtain ⟨z, its, n, r, e⟩ := I.hok p _ h
  exact ⟨its, n, r, e, z⟩
def rSetL : V → V → V → Hp → (Hp → Prop) → Prop := fun o i v H Q => ∃ p xs k j, o = .ref p ∧ i = .int k ∧ H p = some (.lst xs) ∧ ixN xs.length k = some j ∧ Q (upd H p (.lst (xs.set j v)))
theorem slice_bounds (lo hi : Option Int) (n : Nat) : (sliceBounds lo hi none n).1 = ((HT.sIx n 0 lo : Nat) : Int) ∧ (sliceBounds lo hi none n).2.1 = ((HT.sIx n n hi : Nat) : Int) ∧ (sliceBounds lo hi none n).2.2 = 1 := by
  refine ⟨?_, ?_, rfl⟩
  · cases lo with
    | none => simp [sliceBounds, HT.sIx]
    | some i =>
      simp only [sliceBounds, HT.sIx, Option.getD_none, show (1 : Int) > 0 by decide, if_true]
      by_cases h : i < 0
      · simp only [h, if_true] <;> omega
      · simp only [h, if_false] <;> omega
  · cases hi with
    | none => simp [sliceBounds, HT.sIx]
    | some i =>
      simp only [sliceBounds, HT.sIx, Option.getD_none, show (1 : Int) > 0 by decide, if_true]
      by_cases h : i < 0
      · simp only [h, if_true] <;> omega
      · simp only [h, if_false] <;> omega
theorem slicePick_cut (its : List Value) (lo hi : Option Int) : slicePick its.toArray lo hi none = ((its.drop (HT.sIx its.length 0 lo)).take (HT.sIx its.length its.length hi - HT.sIx its.length 0 lo)).toArray := by
  obtain ⟨h1, h2, h3⟩ := slice_bounds lo hi its.toArray.size
  unfold slicePick
  rw [h1, h2, h3]
  simp only [sliceRange_one, pick_run, List.size_toArray] <;> rfl
def rSlL (K : PySem.W.Frag) : V → Option Int → Option Int → Hp → VK → Prop := fun x lo hi H Q => ∃ a xs, x = .ref a ∧ SqL K H a xs ∧ ∀ p, H p = none → Q (.ref p) (upd H p (.lst (cutV xs lo hi)))
theorem sl_list : SlR X (rSlL X.K) := by
  intro pins s σ H x v vl vu lo hi sl Q I rx hs pl pu h
  obtain ⟨a, xs, rfl, hx, q⟩ := h
  cases rx
  obtain ⟨its, r, ht, hz⟩ := I.list hx
  have hlen := r.length
  refine ⟨"list", _, slot_list_getitem.lookup, ht.isList.typeIs, ?_⟩
  refine wpAny_getItem_list_slice ht.isList hs pl pu .none (by simp) ?_ (by rw [List.size_toArray] <;> omega)
  rw [slicePick_cut, ← hlen]
  refine ⟨.ref s.heap.objs.size, _, I.laid (t' := s.toks) (o := .lst (cutV xs lo hi)) (fun b ob q => Heap.get?_push_of_some _ q) (Nat.le_refl _) ?_, rfl, q _ (I.hok.fresh (Nat.le_refl _))⟩
  exact ⟨Nat.le_trans (cutV_length xs lo hi) hz, _, 0, (r.drop (HT.sIx xs.length 0 lo)).take (HT.sIx xs.length xs.length hi - HT.sIx xs.length 0 lo), Heap.get?_push_size _ rfl⟩
def flatV : V → Bool
  | .non => true
  | .bl _ => true
  | .int _ => true
  | .str _ => true
  | _ => false
def eqV : V → V → Bool
  | .non, .non => true
  | .bl a, .bl b => a == b
  | .bl a, .int b => (if a then 1 else 0) == b
  | .int a, .bl b => a == (if b then 1 else 0)
  | .int a, .int b => a == b
  | .str a, .str b => a == b
  | _, _ => false
theorem eqAt_V {A : Around} {s : Shared} {y x : V} {u v : Value} (ry : RelV y u) (rx : RelV x v) (fy : flatV y = true) (fx : flatV x = true) : SeqAt.EqAt A s u v (eqV y x) := by
  cases y with
  | non =>
    cases ry
    cases x with
    | non => cases rx; exact SeqAt.EqAt.same _
    | bl b => cases rx; exact SeqAt.EqAt.none_bool b
    | int b => obtain ⟨t, rfl⟩ := rx; exact SeqAt.EqAt.none_int b t
    | str b => obtain ⟨t, rfl⟩ := rx; exact SeqAt.EqAt.none_str b t
    | _ => exact absurd (show false = true from fx) Bool.false_ne_true
  | bl a =>
    cases ry
    cases x with
    | non => cases rx; exact SeqAt.EqAt.bool_none a
    | bl b => cases rx; exact SeqAt.EqAt.bool_bool a b
    | int b => obtain ⟨t, rfl⟩ := rx; exact SeqAt.EqAt.bool_int a b t
    | str b => obtain ⟨t, rfl⟩ := rx; exact SeqAt.EqAt.bool_str a b t
    | _ => exact absurd (show false = true from fx) Bool.false_ne_true
  | int a =>
    obtain ⟨t', rfl⟩ := ry
    cases x with
    | non => cases rx; exact SeqAt.EqAt.int_none a t'
    | bl b => cases rx; exact SeqAt.EqAt.int_bool a t' b
    | int b => obtain ⟨t, rfl⟩ := rx; exact SeqAt.EqAt.int_int a t' b t
    | str b => obtain ⟨t, rfl⟩ := rx; exact SeqAt.EqAt.int_str a t' b t
    | _ => exact absurd (show false = true from fx) Bool.false_ne_true
  | str a =>
    obtain ⟨t', rfl⟩ := ry
    cases x with
    | non => cases rx; exact SeqAt.EqAt.str_none a t'
    | bl b => cases rx; exact SeqAt.EqAt.str_bool a t' b
    | int b => obtain ⟨t, rfl⟩ := rx; exact SeqAt.EqAt.str_int a t' b t
    | str b => obtain ⟨t, rfl⟩ := rx; exact SeqAt.EqAt.str_str a t' b t
    | _ => exact absurd (show false = true from fx) Bool.false_ne_true
  | _ => exact absurd (show false = true from fy) Bool.false_ne_true
def eqU (x : V) (u : Value) : Bool := match u with
  | .none => eqV .non x
  | .bool b => eqV (.bl b) x
  | .int i _ => eqV (.int i) x
  | .str z _ => eqV (.str z) x
  | _ => false
theorem eqU_of {x y : V} {u : Value} (r : RelV y u) (f : flatV y = true) : eqU x u = eqV y x := by
  cases y with
  | non => cases r; rfl
  | bl b => cases r; rfl
  | int i => obtain ⟨t, rfl⟩ := r; rfl
  | str z => obtain ⟨t, rfl⟩ := r; rfl
  | _ => exact absurd (show false = true from f) Bool.false_ne_true
theorem any_eqU {x : V} : ∀ {xs : List V} {us : List Value}, Vals xs us → xs.all flatV = true → us.any (eqU x) = xs.any fun y => eqV y x
  | _, _, .nil, _ => rfl
  | y :: xs, u :: us, .cons r t, f => by
    rw [List.all_cons, Bool.and_eq_true] at f
    rw [List.any_cons, List.any_cons, eqU_of r f.1, any_eqU t f.2]
theorem mem_eqAt {A : Around} {s : Shared} {x : V} {v : Value} (rx : RelV x v) (fx : flatV x = true) : ∀ {xs : List V} {us : List Value}, Vals xs us → xs.all flatV = true → ∀ u ∈ us, SeqAt.EqAt A s u v (eqU x u)
  | _, _, .nil, _ => fun u hu => by cases hu
  | y :: xs, u :: us, .cons r t, f => fun u' hu => by
    rw [List.all_cons, Bool.and_eq_true] at f
    rcases List.mem_cons.mp hu with rfl | hu
    · rw [eqU_of r f.1]; exact eqAt_V r rx f.1 fx
    · exact mem_eqAt rx fx t f.2 u' hu
def inV (x : V) (xs : List V) : Bool := xs.any fun y => eqV y x
def rIn (K : PySem.W.Frag) (neg : Bool) : R2 := fun x y H Q => ∃ p xs, y = .ref p ∧ (SqL K H p xs ∨ SqT K H p xs) ∧ flatV x = true ∧ xs.all flatV = true ∧ Q (.bl (if neg then !inV x xs else inV x xs)) H
theorem op_in_seq : OpR X (compareOp .In) (rIn X.K false) := by
  intro pins s σ H x y v u Q I rx ry h
  obtain ⟨p, xs, rfl, hq, fx, fs, q⟩ := h
  cases ry
  rcases hq with hq | hq
  · obtain ⟨its, r, pl, hz⟩ := I.list hq
    refine SeqAt.in_listAt (eqU x) pl.isList (fun w hw => mem_eqAt rx fx r fs w (by simpa using hw)) ⟨.bl _, H, I, rfl, ?_⟩
    rw [show its.toArray.any (eqU x) = its.any (eqU x) by simp, any_eqU r fs]
    exact q
  · obtain ⟨its, r, pl, hz⟩ := I.tuple hq
    refine SeqAt.in_tupleAt (eqU x) pl (fun w hw => mem_eqAt rx fx r fs w (by simpa using hw)) ⟨.bl _, H, I, rfl, ?_⟩
    rw [show its.toArray.any (eqU x) = its.any (eqU x) by simp, any_eqU r fs]
    exact q
theorem CallR.or {f : Value} {r r' : List V → Hp → VK → Prop} (h : CallR X f r) (h' : CallR X f r') : CallR X f (fun xs H Q => r xs H Q ∨ r' xs H Q) := by
  intro pins s σ H xs us Q I rs q
  rcases q with q | q
  · exact h pins s σ H xs us Q I rs q
  · exact h' pins s σ H xs us Q I rs q
def tyV (K : PySem.W.Frag) (T : String) (x : V) (H : Hp) : Prop := match x with
  | .str _ => T = "str"
  | .int _ => T = "int"
  | .ref p => (T = "list" ∧ ∃ xs, SqL K H p xs) ∨ (T = "tuple" ∧ ∃ o, K.lookup p = some o ∧ o.cls = .type "tuple" ∧ o.dict = none) ∨
      (T = "dict" ∧ ((∃ kvs, H p = some (.dK kvs)) ∨ ∃ kvs, H p = some (.dT kvs))) ∨ (T = "set" ∧ ∃ S n, H p = some (.set S n))
  | _ => False
theorem tyV_is {pins : List (Addr × Obj)} {σ : St} {H : Hp} {s : Shared} {T : String} {x : V} {v : Value} (I : Inv X pins σ H s) (r : RelV x v) (ty : tyV X.K T x H) :
    s.TypeIs v T ∧ ∀ a, v = .ref a → ∃ ob, s.heap.get? a = some ob ∧ ob.dict = none := by
  cases x with
  | str z =>
    obtain ⟨t, rfl⟩ := r
    cases (show T = "str" from ty)
    exact ⟨typeIs_str s z t, fun _ e => nomatch e⟩
  | int i =>
    obtain ⟨t, rfl⟩ := r
    cases (show T = "int" from ty)
    exact ⟨typeIs_int s i t, fun _ e => nomatch e⟩
  | ref p =>
    cases r
    rcases ty with ⟨rfl, xs, hq⟩ | ⟨rfl, o, hk, hc, hd⟩ | ⟨rfl, hk⟩ | ⟨rfl, S, n, hk⟩
    · obtain ⟨its, _, pl, _⟩ := I.list hq
      refine ⟨pl.isList.typeIs, fun a e => ?_⟩
      cases e
      obtain ⟨o, n, e, c, hd, _⟩ := pl
      exact ⟨o, e, hd⟩
    · refine ⟨⟨o, I.kIn p o hk, hc⟩, fun a e => ?_⟩
      cases e
      exact ⟨o, I.kIn _ o hk, hd⟩
    · have z : ∃ o, s.heap.get? p = some o ∧ o.ExactDict := by
        rcases hk with ⟨kvs, hk⟩ | ⟨kvs, hk⟩
        · obtain ⟨_, _, _, _, o, _, _, e, ex, _⟩ := I.hok p _ hk
          exact ⟨o, e, ex⟩
        · obtain ⟨_, _, _, _, o, _, _, e, ex, _⟩ := I.hok p _ hk
          exact ⟨o, e, ex⟩
      obtain ⟨o, e, ex⟩ := z
      refine ⟨⟨o, e, ex.1⟩, fun a e2 => ?_⟩
      cases e2
      exact ⟨o, e, ex.2.1⟩
    · obtain ⟨o, _, _, _, e, ex, _⟩ := I.hok p _ hk
      refine ⟨⟨o, e, ex.1⟩, fun a e2 => ?_⟩
      cases e2
      exact ⟨o, e, ex.2.1⟩
  | _ => exact False.elim ty
def tBM0 (K : PySem.W.Frag) (T : String) (r : V → List V → Hp → VK → Prop) (to : TE) : TE := fun σ H Q => to σ H fun x H1 => tyV K T x H1 ∧ r x [] H1 Q
def tBM (K : PySem.W.Frag) (T : String) (r : V → List V → Hp → VK → Prop) (to : TE) (t : TA) : TE := fun σ H Q => to σ H fun x H1 => tyV K T x H1 ∧ t σ H1 fun xs H2 => r x xs H2 Q
variable {o e : Expr} {es : List Expr} {to : TE} {t : TA} {name : Str} {apos cpos : Pos} {T id : String} {r : V → List V → Hp → VK → Prop}
theorem pe_bm0 (pa : PlainAttrs T) (slot : Slot T name id) (hty : typeOf (.builtin id) = pure (.type "method_descriptor")) (hm : MtR X id r) (ho : PE X o to)
    (hbase : attributeBase o name X.env (eval o X.env) = eval o X.env := by rfl) (hline : (apos.endLine == cpos.line) = true := by rfl) : PE X (.Call (.Attribute o name apos) [] [] cpos) (tBM0 X.K T r to) := by
  intro pins s σ H Q I h
  refine wpAny_Call_method0_late hbase hline (thn (ho pins s σ H _ I h) fun v s1 ⟨x, H1, I1, r1, ty, q1⟩ => ?_)
  obtain ⟨h1, h2⟩ := tyV_is I1 r1 ty
  exact ⟨T, id, pa, slot, hty, h1, h2, Calls.callWith_builtin rfl (PySem.evalArgs_none (hm pins s1 σ H1 x [] v [] Q I1 r1 .nil q1))⟩
theorem pe_bm (pa : PlainAttrs T) (slot : Slot T name id) (hty : typeOf (.builtin id) = pure (.type "method_descriptor")) (hm : MtR X id r) (ho : PE X o to) (ha : PA X (e :: es) t)
    (hbase : attributeBase o name X.env (eval o X.env) = eval o X.env := by rfl)
    (hfew : ((backTo cpos (starEach (e :: es) X.env)).all (fun x => !x.1) && (backToKw cpos (keywordEach [] X.env)).all (fun x => x.1.isSome)
      && decide ((e :: es).length + ([] : List Keyword).length + (if ([] : List Keyword).isEmpty then 0 else 1) < 30)) = true := by rfl)
    (hline : (apos.endLine == cpos.line) = true := by rfl) (hs : starEach (e :: es) X.env = (false, eval e X.env) :: starEach es X.env := by rfl) (hplain : (backTo cpos (starEach es X.env)).any (·.1) = false := by rfl) :
    PE X (.Call (.Attribute o name apos) (e :: es) [] cpos) (tBM X.K T r to t) := by
  intro pins s σ H Q I h
  refine wpAny_Call_method_late hbase hfew hline rfl (thn (ho pins s σ H _ I h) fun v s1 ⟨x, H1, I1, r1, ty, q1⟩ => ?_)
  obtain ⟨h1, h2⟩ := tyV_is I1 r1 ty
  refine ⟨T, id, pa, slot, hty, h1, h2, ?_⟩
  have hA := ha cpos pins s1 σ H1 _ I1 q1
  rw [hs] at hA ⊢
  refine Calls.callWith_builtin (by show (false || (backTo cpos (starEach es X.env)).any (·.1)) = false; rw [hplain] <;> rfl) (Calls.evalArgs_plain ?_)
  exact thn hA fun us s2 ⟨vs, H2, I2, r2, q2⟩ => hm pins s2 σ H2 x vs v us Q I2 r1 r2 q2
/- xs.append(e), list.index on a module's tuple .. are MtR facts of 06m -/
end
end L2
namespace L2
open PySem PySem.Spec PyProof.Rows
def MtM (X : Cx) (id : String) (r : V → List V → Hp → VK → Prop) : Prop :=
  ∀ (pins : List (Addr × Obj)) (s : Shared) (σ : St) (H : Hp) (x : V) (xs : List V) (v : Value) (us : List Value) (Q : VK), Inv X pins σ H s → RelV x v → Vals xs us → r x xs H Q →
    wpAny (model X.prog X.w) X.A (call (.builtin id) (v :: us)) (EP X pins σ Q) X.xe s
theorem Vals.one : ∀ {x : V} {us : List Value}, Vals [x] us → ∃ u, us = [u] ∧ RelV x u
  | _, _, .cons r .nil => ⟨_, rfl, r⟩
theorem Vals.two : ∀ {x y : V} {us : List Value}, Vals [x, y] us → ∃ u v, us = [u, v] ∧ RelV x u ∧ RelV y v
  | _, _, _, .cons r (.cons q .nil) => ⟨_, _, rfl, r, q⟩
theorem Vals.zero : ∀ {us : List Value}, Vals [] us → us = []
  | _, .nil => rfl
theorem Vals.dropLast {xs : List V} {us : List Value} (h : Vals xs us) : Vals xs.dropLast us.dropLast := by
  induction h with
  | nil => exact .nil
  | cons r t ih =>
    cases t with
    | nil => exact .nil
    | cons q t' => exact .cons r ih
theorem Vals.eraseIdx : ∀ {xs : List V} {us : List Value} (i : Nat), Vals xs us → Vals (xs.eraseIdx i) (us.eraseIdx i)
  | _, _, _, .nil => .nil
  | _, _, 0, .cons _ t => t
  | _, _, i + 1, .cons r t => .cons r (Vals.eraseIdx i t)
theorem Vals.reverse {xs : List V} {us : List Value} (h : Vals xs us) : Vals xs.reverse us.reverse := by
  induction h with
  | nil => exact .nil
  | cons r t ih => rw [List.reverse_cons, List.reverse_cons]; exact Vals.append ih (.cons r .nil)
theorem erase_last {α : Type} (l : List α) : l.eraseIdx (l.length - 1) = l.dropLast := by
  induction l with
  | nil => rfl
  | cons a r ih =>
    cases r with
    | nil => rfl
    | cons b r =>
      have e : (a :: b :: r).length - 1 = ((b :: r).length - 1) + 1 := by
        have h1 : (a :: b :: r).length = r.length + 2 := rfl
        have h2 : (b :: r).length = r.length + 1 := rfl
        omega
      rw [e, List.eraseIdx_cons_succ, ih]
      all_goals rfl
section
variable {X : Cx} {pins : List (Addr × Obj)} {σ : St} {H : Hp} {s : Shared} {l b : Addr} {xs ys zs : List V}
theorem Inv.lset {its its' : List Value} {n : Nat} {f : Array Value → Array Value} {t' : Nat} (I : Inv X pins σ H s) (hH : H l = some (.lst xs))
    (e : s.heap.get? l = some { cls := .type "list", data := .seq its.toArray n }) (hf : f its.toArray = its'.toArray) (hv : Vals ys its') (hz : ys.length ≤ sizeLine) :
    Inv X pins σ (upd H l (.lst ys)) { s with heap := s.heap.update l (Obj.mapSeq f), toks := t' } := by
  have q := PySem.IsL.update e f
  rw [hf] at q
  refine I.write (x := l) (e := l) (by rw [hH]; exact trivial) (.inl rfl) (fun b' u hb hu => (Heap.get?_update_other s.heap (Obj.mapSeq f) (Ne.symm hb)).trans hu) ⟨_, q⟩ ?_
  exact ⟨hz, its', _, hv, q⟩
theorem Inv.lnew {its : List Value} {t' : Nat} (I : Inv X pins σ H s) (hv : Vals ys its) (hz : ys.length ≤ sizeLine) :
    Inv X pins σ (upd H s.heap.objs.size (.lst ys)) { s with heap := s.heap.push { cls := .type "list", data := .seq its.toArray }, toks := t' } :=
  I.laid (fun _ _ q => Heap.get?_push_of_some _ q) (Nat.le_refl _) ⟨hz, its, 0, hv, Heap.get?_push_size _ rfl⟩
theorem Inv.fresh (I : Inv X pins σ H s) : H s.heap.objs.size = none := I.hok.fresh (Nat.le_refl _)
theorem Inv.lstM (I : Inv X pins σ H s) (hH : H l = some (.lst xs)) : xs.length ≤ sizeLine ∧ ∃ (its : List Value) (n : Nat), Vals xs its ∧ xs.length = its.length ∧ s.heap.get? l = some { cls := .type "list", data := .seq its.toArray n } := by
  obtain ⟨z, its, n, r, e⟩ := I.hok l _ hH
  exact ⟨z, its, n, r, r.length, e⟩
theorem notLongL {n : Nat} (h : n ≤ sizeLine) : Builtin.List.listTooLong n = false := by
  unfold Builtin.List.listTooLong
  exact decide_eq_false (by omega)
end
section
variable {X : Cx}
def rAppend : V → List V → Hp → VK → Prop := fun x vs H Q => ∃ l xs y, x = .ref l ∧ vs = [y] ∧ H l = some (.lst xs) ∧ xs.length < sizeLine ∧ Q .non (upd H l (.lst (xs ++ [y])))
theorem mt_append : MtM X "list.append" rAppend := by
  intro pins s σ H x vs v us Q I rx rv h
  obtain ⟨l, xs, y, rfl, rfl, hH, hz, q⟩ := h
  cases rx
  obtain ⟨u, rfl, ru⟩ := rv.one
  obtain ⟨z, its, n, r, hl, e⟩ := I.lstM hH
  refine call_meets F.slot_list_append ⟨_, e, rfl⟩ F.entry_list_append (F.args_list_append_2 _ _) (PySem.list_append l its.toArray n u (by rw [List.size_toArray]; omega)) ⟨e, ?_⟩
  refine ⟨.non, _, I.lset (its' := its ++ [u]) hH e (by simp) (r.append (.cons ru .nil)) ?_, rfl, q⟩
  rw [List.length_append, List.length_singleton]
  omega
def rExtend : V → List V → Hp → VK → Prop := fun x vs H Q => ∃ l b xs zs, x = .ref l ∧ vs = [.ref b] ∧ H l = some (.lst xs) ∧ H b = some (.lst zs) ∧ xs.length + zs.length ≤ sizeLine ∧ Q .non (upd H l (.lst (xs ++ zs)))
theorem mt_extend : MtM X "list.extend" rExtend := by
  intro pins s σ H x vs v us Q I rx rv h
  obtain ⟨l, b, xs, zs, rfl, rfl, hH, hB, hz, q⟩ := h
  cases rx
  obtain ⟨u, rfl, ru⟩ := rv.one
  cases ru
  obtain ⟨z, its, n, r, hl, e⟩ := I.lstM hH
  obtain ⟨z2, its2, n2, r2, hl2, e2⟩ := I.lstM hB
  have hsz : its.toArray.size + its2.toArray.size ≤ sizeLine := by rw [List.size_toArray, List.size_toArray]; omega
  have hlong : ¬ (!its.toArray.isEmpty && Builtin.List.listTooLong (its.toArray.size + its2.toArray.size)) = true := by
    rw [notLongL hsz, Bool.and_false]
    exact Bool.false_ne_true
  refine call_meets F.slot_list_extend ⟨_, e, rfl⟩ F.entry_list_extend (F.args_list_extend_2 _ _)
    (AutoSeq1.list_extend_list_list_0 l its.toArray n b its2.toArray n2 hlong (by rw [List.size_toArray]; omega) (by omega)) ⟨e, e2, ?_⟩
  refine ⟨.non, _, I.lset (its' := its ++ its2) hH e (by simp) (r.append r2) ?_, rfl, q⟩
  rw [List.length_append]
  omega
def rPop : V → List V → Hp → VK → Prop := fun x vs H Q => ∃ l xs y, x = .ref l ∧ vs = [] ∧ H l = some (.lst xs) ∧ xs[xs.length - 1]? = some y ∧ Q y (upd H l (.lst xs.dropLast))
theorem mt_pop : MtM X "list.pop" rPop := by
  intro pins s σ H x vs v us Q I rx rv h
  obtain ⟨l, xs, y, rfl, rfl, hH, hy, q⟩ := h
  cases rx
  have hus := rv.zero
  subst hus
  obtain ⟨z, its, n, r, hl, e⟩ := I.lstM hH
  obtain ⟨u, hu, ru⟩ := r.get hy
  have hy' : its.toArray[its.toArray.size - 1]? = some u := by
    show its.toArray[its.length - 1]? = some u
    rw [← Array.getElem?_toList, ← hl]
    exact hu
  refine call_meets F.slot_list_pop ⟨_, e, rfl⟩ F.entry_list_pop (F.args_list_pop_1 _) (MeetsSeq.list_pop_last l its.toArray n u hy' (by rw [List.size_toArray]; omega)) ⟨e, ?_⟩
  refine ⟨y, _, I.lset (its' := its.dropLast) hH e ?_ r.dropLast ?_, ru, q⟩
  · show its.toArray.eraseIdxIfInBounds (its.toArray.size - 1) = its.dropLast.toArray
    rw [List.size_toArray, List.eraseIdxIfInBounds_toArray, erase_last]
  · rw [List.length_dropLast]
    omega
def rPopAt : V → List V → Hp → VK → Prop := fun x vs H Q => ∃ l xs i k y, x = .ref l ∧ vs = [.int i] ∧ H l = some (.lst xs) ∧ -(2 ^ 63) ≤ i ∧ i < 2 ^ 63 ∧ seqIndex? i xs.length = some k ∧ xs[k]? = some y ∧ Q y (upd H l (.lst (xs.eraseIdx k)))
def rReverse : V → List V → Hp → VK → Prop := fun x vs H Q => ∃ l xs, x = .ref l ∧ vs = [] ∧ H l = some (.lst xs) ∧ Q .non (upd H l (.lst xs.reverse))
def rClear : V → List V → Hp → VK → Prop := fun x vs H Q => ∃ l xs, x = .ref l ∧ vs = [] ∧ H l = some (.lst xs) ∧ Q .non (upd H l (.lst []))
def rCat : R2 := fun x y H Q => ∃ l b xs zs, x = .ref l ∧ y = .ref b ∧ H l = some (.lst xs) ∧ H b = some (.lst zs) ∧ xs.length + zs.length ≤ sizeLine ∧ ∀ p, H p = none → Q (.ref p) (upd H p (.lst (xs ++ zs)))
theorem op_cat : OpR X (binaryOp .Add) rCat := by
  intro pins s σ H x y v u Q I rx ry h
  obtain ⟨l, b, xs, zs, rfl, rfl, hH, hB, hz, q⟩ := h
  cases rx
  cases ry
  obtain ⟨z, its, n, r, hl, e⟩ := I.lstM hH
  obtain ⟨z2, its2, n2, r2, hl2, e2⟩ := I.lstM hB
  refine PySem.P.add_list e e2 ?_ (by rw [List.size_toArray, List.size_toArray]; omega)
  have ea : its.toArray ++ its2.toArray = (its ++ its2).toArray := by simp
  rw [ea]
  exact ⟨.ref _, _, I.lnew (t' := s.toks) (r.append r2) (by rw [List.length_append]; omega), rfl, q _ I.fresh⟩
def rRep : R2 := fun x y H Q => ∃ l k xs, x = .ref l ∧ y = .int k ∧ H l = some (.lst xs) ∧ -(2 ^ 63) ≤ k ∧ k < 2 ^ 63 ∧ xs.length * k.toNat ≤ sizeLine ∧
  ∀ p, H p = none → Q (.ref p) (upd H p (.lst (List.replicate k.toNat xs).flatten))
end
section
variable {prog : Program} {w : World} {A : Around} {E : Value → Shared → Prop} {s : Shared}
set_option maxRecDepth 100000 in
end
section
variable {X : Cx}
end
end L2
namespace Att
open PySem PySem.W PySem.Calls PyProof.Rows
theorem ints_of_wellAll {P : Params} {h : Heap} : ∀ (ns : List Int) (vs : List Value), WellAll P h vs (ns.map WData.int) → IntsAre vs ns := by
  intro ns
  induction ns with
  | nil =>
    intro vs w
    rw [List.map_nil] at w
    cases w
    exact .nil
  | cons n ns ih =>
    intro vs w
    rw [List.map_cons] at w
    cases w with
    | cons a b =>
      cases a
      exact .cons _ _ (ih _ b)
theorem script_of {l : OpenLaw} {n : Nat} (hn : l.most = some n) {P : Params} {h : Heap} {args : List WData} {vals : List Value}
    (hpre : l.row.toRowW.claim.pre args = true) (hwl : WellAll P h vals args) :
    ∃ a vs ns, vals = [Value.ref a] ∧ args = [WData.list (ns.map WData.int)] ∧ h.get? a = some { cls := .type "list", data := .seq vs.toArray } ∧ IntsAre vs ns ∧ ns.length ≤ n := by
  have hsh : WShape.hasAll [] args [.list .int] = true := (pre_splitW hpre).1
  have hc : l.pre.holds [] { args := args } = true := (pre_splitW hpre).2
  obtain ⟨d, r, rfl, h1, h2⟩ := hasAllW_cons hsh
  obtain rfl := hasAllW_nil h2
  obtain ⟨xs, rfl, h3⟩ := hasW_list h1
  obtain ⟨ns, rfl⟩ := items_int h3
  have hlen : ns.length ≤ n := by
    unfold OpenLaw.pre at hc
    have h4 : (WTm.not (.lt (.lit (.int (n : Int))) (.len (.arg 0)))).holds [] { args := [.list (ns.map .int)] } = true := by
      have h4 := (holds_andW hc).1
      rw [hn] at h4
      exact h4
    have h5 := condW_of h4 (w_not (w_lt w_lit (w_len_list (w_arg rfl))))
    rw [List.length_map] at h5
    refine Nat.le_of_not_lt fun q => ?_
    have q' : (n : Int) < ((ns.length : Nat) : Int) := by omega
    first
      | (rw [decide_eq_true q'] at h5; exact absurd h5 (by decide))
      | (simp at h5; omega)
  cases hwl with
  | cons w1 w2 =>
    cases w2
    cases w1 with
    | list ho hall => exact ⟨_, _, ns, rfl, rfl, ho, ints_of_wellAll ns _ hall, hlen⟩
theorem post_true (l : OpenLaw) (args : List WData) : l.row.toRowW.claim.post args (.bool true) args = true :=
  postW_of (r := l.row.toRowW) (X := (true == true))
    (show WShape.has [] (.bool true) .bool = true by first | rfl | decide | simp [WShape.has, WShape.arms, WShape.armsAll])
    (show (WTm.eq .res (.lit (.bool true))).value [] { args := args, res := some (.bool true), after := args } = some (.bool (true == true)) from w_eq_bool (w_res rfl) w_lit) rfl
theorem attach_call {l : OpenLaw} {n : Nat} {q : Program} {loose : List Str} {XP : (Str → Option Value) → Heap → Prop} {YP : World → Heap → Prop} {d : DefRec}
    (hn : l.most = some n) (hdf : d.params.defaults = [])
    (call : ∀ (w : World) (s₀ s₁ : Shared) (mg mb : Str → Option Value) (fa : Addr) (o : Obj) (pm cd doc : Value) (a : Addr) (vs : List Value) (ns : List Int),
      Ground q loose [] XP w s₀ mg mb s₁.heap → YP w s₁.heap →
      s₁.heap.get? fa = some o → o.data = .func (docDef d.name d.params d.body d.scope pm cd doc) → s₁.heap.CodeRec cd d.name → mg d.name = some (.ref fa) →
      s₁.heap.get? a = some { cls := .type "list", data := .seq vs.toArray } → IntsAre vs ns → ns.length ≤ n → s₁.gens = #[] →
      codeAny (model l.prog w) callerA (.call (.ref fa) ⟨[.ref a], []⟩) (fun r s' => r = .ok (.ret (.bool true)) ∧ OldK s₁.heap s'.heap ∧ s'.os = s₁.os ∧ AllBare s'.gens) s₁) :
    WalkO q loose XP YP l.row.toRowW d [] (fun f vs => PySem.call f vs) := by
  intro w s₀ s₁ mg mb G Y fa o pm cd doc dV kV ho hd hcd hD hmg hg args vals as hpre hlay hrd hwl hlo
  obtain rfl : dV = .none := Dflts.none hD hdf
  obtain rfl : kV = .none := Dflts.noKw hD
  obtain ⟨a, vs, ns, rfl, rfl, hobj, hints, hlen⟩ := script_of hn hpre hwl
  refine enter_call (codeAny_mono (call w s₀ s₁ mg mb fa o pm cd doc a vs ns G Y ho (fd_plain hd) hcd hmg hobj hints hlen hg) fun r s' hq => ?_)
  obtain ⟨rfl, h2, h3, h4⟩ := hq
  exact ⟨.inl ⟨.bool true, .bool true, [], rfl, fun _ => rfl, .bool true, post_true l _, fun _ => ⟨List.Pairwise.nil, fun _ hm => (nomatch hm)⟩⟩, h2, h3, h4⟩
section
variable {prog : Program} {w : World} {A : Around} {E : Value → Shared → Prop} {s : Shared} {K : Frag}
def noObjs (h : Heap) : Heap := { h with objs := #[] }
def ledger (h : Heap) (L d : Addr) : List (Addr × Obj) := (List.range h.objs.size).filterMap fun a => if a = L ∨ a = d then none else (h.get? a).map fun o => (a, o)
end
end Att
namespace L2
open PySem PySem.Spec PyProof.Rows
theorem vals_ints : ∀ {vs : List Value} {ns : List Int}, IntsAre vs ns → Vals (ns.map V.int) vs
  | _, _, .nil => .nil
  | _, _, .cons n t h => .cons ⟨t, rfl⟩ (vals_ints h)
def Only (H : Hp) : Prop := ∀ b, H b = none ∨ ∃ o xs, H b = some (.frz o (.lst xs))
theorem law_call {P : Program} {w : World} {K : PySem.W.Frag} {mg mb : Str → Option Value} {CX : CXT} {k : Nat} {fa a : Addr} {fd : FuncData} {x : Str} {sp : Sp} {s₁ : Shared} {vs : List Value} {ns : List Int}
    (KX : K.In s₁.heap) (hns : s₁.heap.Ns mainGlobals mg) (hb : s₁.heap.Ns builtinsNs mb) (hbb : ∀ x : Str, x ≠ "__name__" → mb x = bootBuiltins x) (hlim : s₁.heap.NoLimit) (hg : s₁.gens = #[])
    (ha : s₁.heap.get? a = some { cls := .type "list", data := .seq vs.toArray }) (hi : IntsAre vs ns) (hl : ns.length ≤ sizeLine) (hr : Room k callerA)
    (F : ∀ base : Heap, K.In base → base.Ns mainGlobals mg → FnOk P w K mg base CX k fa fd [x] sp) (hbind : ∀ (s : Shared) (u : Value), BindsTo s fd ⟨[u], []⟩ [(x, u)])
    (hsp : ∀ H : Hp, Only H → SqL K H a (ns.map V.int) → sp [.ref a] H (fun v _ => v = .bl true) fun _ _ _ => False)
    (hCX : ∀ H e s', CX [] H s₁ (fun _ _ _ => False) e s' → False) :
    codeAny (model P w) callerA (.call (.ref fa) ⟨[.ref a], []⟩) (fun r s' => r = .ok (.ret (.bool true)) ∧ OldK s₁.heap s'.heap ∧ s'.os = s₁.os ∧ AllBare s'.gens) s₁ := by
  have rv := vals_ints hi
  have lenV := hi.length
  have core : ∀ H : Hp, Only H → SqL K H a (ns.map V.int) → HOk P w H s₁.heap → (∀ b, H b ≠ none → b = a) → (H a ≠ none → K.lookup a = none) →
      codeAny (model P w) callerA (.call (.ref fa) ⟨[.ref a], []⟩) (fun r s' => r = .ok (.ret (.bool true)) ∧ OldK s₁.heap s'.heap ∧ s'.os = s₁.os ∧ AllBare s'.gens) s₁ := by
    intro H hO hS hok hA hK
    have base_of : ∀ {b : Addr} {o : Obj}, s₁.heap.get? b = some o → H b = none → (hidT s₁.heap H).get? b = some o := fun e n => hidT_get e n
    have noA : ∀ {b : Addr} {o : Obj} {es : Array DictEntry} {ep : Nat}, s₁.heap.get? b = some o → o.data = .dict es ep → H b = none := fun {b o es ep} e d => by
      cases q : H b with
      | none => rfl
      | some u =>
        have e' : b = a := hA b (by rw [q]; simp)
        subst e'
        rw [ha] at e; cases e
        have d' : Data.seq vs.toArray _ = Data.dict es ep := d
        cases d'
    have nsK : ∀ {b : Addr} {m : Str → Option Value}, s₁.heap.Ns b m → (hidT s₁.heap H).Ns b m := fun {b m} ⟨o, es, ep, e, d, r⟩ => ⟨o, es, ep, base_of e (noA e d), d, r⟩
    have hKb : K.In (hidT s₁.heap H) := fun b o e => base_of (KX b o e) (by
      cases q : H b with
      | none => rfl
      | some u =>
        have e' : b = a := hA b (by rw [q]; simp)
        subst e'
        rw [hK (by rw [q]; simp)] at e; cases e)
    have hM : Mod K mg (hidT s₁.heap H) := ⟨hKb, nsK hns, ⟨mb, nsK hb, hbb⟩, let ⟨mc, h1, h2⟩ := hlim; ⟨mc, nsK h1, h2⟩⟩
    have e0 : Env0 P w K mg (hidT s₁.heap H) callerA [] s₁ H := ⟨rfl, hM, fun b o e => of_hidT e, Nat.le_of_eq (hidT_size _ _), trivial, fun b hb => absurd (show b ∈ ([] : List Addr) from hb) (by simp), hok, .of_eq hg⟩
    refine codeAny_mono ((F _ hKb (nsK hns)).run callerA [] s₁ H ⟨[.ref a], []⟩ [.ref a] [.ref a] _ _ hr e0 (hbind s₁ (.ref a)) (.cons rfl .nil) (hsp H hO hS)) fun r s' h => ?_
    cases r with
    | error e => exact (hCX H e s' h).elim
    | ok fl =>
      cases fl with
      | next => exact False.elim h
      | brk => exact False.elim h
      | cont => exact False.elim h
      | ret u =>
        obtain ⟨v, H', os, bare, un, hok', r', q⟩ := h
        have q' : v = .bl true := q
        subst q'
        obtain rfl : u = Value.bool true := r'
        refine ⟨rfl, OldK.of_keep fun b o e => ?_, os, bare⟩
        cases q : H b with
        | none => exact un.keep b o e q (by intro z; exact absurd (show b ∈ ([] : List Addr) from z) (by simp)) (by simp)
        | some u =>
          rcases hO b with z | ⟨ob, xs, z⟩
          · rw [q] at z; cases z
          · have z2 := un.frzs b ob _ z
            obtain ⟨e1, _⟩ := hok b _ z
            obtain ⟨e2, _⟩ := hok' b _ z2
            rw [e] at e1; cases e1
            exact e2
  cases hk : K.lookup a with
  | some o =>
    have e := KX a o hk
    rw [ha] at e
    cases e
    refine core (fun _ => none) (fun _ => .inl rfl) (.inr ⟨_, vs.toArray, _, hk, rfl, rfl, rfl, by rw [List.size_toArray, lenV]; exact hl, by simpa using rv⟩) (fun b u z => by have z' : (none : Option HO) = some u := z; cases z') (fun b z => absurd rfl z) fun z => absurd rfl z
  | none =>
    refine core (fun b => if b = a then some (.frz { cls := .type "list", data := .seq vs.toArray } (.lst (ns.map V.int))) else none) (fun b => ?_) (.inl (.inr ⟨{ cls := .type "list", data := .seq vs.toArray }, if_pos rfl⟩)) (fun b u z => ?_) (fun b z => ?_) fun _ => hk
    · by_cases hb : b = a
      · exact .inr ⟨_, _, if_pos hb⟩
      · exact .inl (if_neg hb)
    · by_cases hb : b = a
      · have z' := (if_pos hb).symm.trans z
        cases z'
        subst hb
        exact ⟨ha, by rw [List.length_map]; exact hl, vs, _, rv, ha⟩
      · have z' := (if_neg hb).symm.trans z
        cases z'
    · by_cases hb : b = a
      · exact hb
      · exact absurd (if_neg hb) z
end L2
namespace L2
open PySem PySem.Spec PyProof.Rows
abbrev KOf {K : PySem.W.Frag} {h : Heap} (_ : K.In h) : PySem.W.Frag := K
theorem walk_of {l : PySem.W.OpenLaw} {n k : Nat} {q : Program} {loose : List Str} {XP : (Str → Option Value) → Heap → Prop} {YP : World → Heap → Prop} {d : DefRec} {K : Params → PySem.W.Frag} {CX : World → CXT} {sp : World → Sp} {x : Str}
    (hn : l.most = some n) (hn2 : n ≤ sizeLine) (hdf : d.params.defaults = []) (hr : Room k callerA)
    (hY : ∀ (w : World) (h : Heap), YP w h → (K w.params).In h)
    (F : ∀ (w : World) (mg : Str → Option Value) (fa : Addr) (h : Heap), (K w.params).In h → h.Ns mainGlobals mg → mg d.name = some (.ref fa) →
      ∃ fd : FuncData, (∀ (s : Shared) (u : Value), BindsTo s fd ⟨[u], []⟩ [(x, u)]) ∧
        ∀ base : Heap, (K w.params).In base → base.Ns mainGlobals mg → FnOk l.prog w (K w.params) mg base (CX w) k fa fd [x] (sp w))
    (hsp : ∀ (w : World) (H : Hp) (a : Addr) (ns : List Int), ns.length ≤ n → Only H → SqL (K w.params) H a (ns.map V.int) → sp w [.ref a] H (fun v _ => v = .bl true) fun _ _ _ => False)
    (hCX : ∀ (w : World) (H : Hp) (s : Shared) (e : Value) (s' : Shared), CX w [] H s (fun _ _ _ => False) e s' → False) :
    PySem.W.WalkO q loose XP YP l.row.toRowW d [] (fun f vs => PySem.call f vs) := by
  refine Att.attach_call hn hdf fun w s₀ s₁ mg mb fa o pm cd doc a vs ns G Y ho hd hcd hmg hobj hints hlen hg => ?_
  have KX := hY w _ Y
  obtain ⟨fd, hb, hF⟩ := F w mg fa _ KX G.T.g hmg
  exact law_call KX G.T.g G.T.b G.T.builtins G.T.nolimit hg hobj hints (Nat.le_trans hlen hn2) hr hF hb (fun H hO hS => hsp w H a ns hlen hO hS) fun H e s' => hCX w H s₁ e s'
end L2
namespace L2
open PySem PySem.Spec PyProof.Rows
def inClass (s : Stmt) (j : Nat) : Stmt := match s with
  | .ClassDef _ _ _ body _ _ _ _ _ _ _ => body.getD j (.Pass ⟨0, 0, 0, 0⟩)
  | _ => .Pass ⟨0, 0, 0, 0⟩
def defArgs (s : Stmt) : Arguments := match s with
  | .FunctionDef _ a _ _ _ _ _ _ _ _ => a
  | _ => { posonlyargs := [], args := [], vararg := none, kwonlyargs := [], kw_defaults := [], kwarg := none, defaults := [] }
def defBody (s : Stmt) : List Stmt := match s with
  | .FunctionDef _ _ b _ _ _ _ _ _ _ => b
  | _ => []
def defScope (s : Stmt) : Scope := match s with
  | .FunctionDef _ _ _ _ _ _ sc _ _ _ => sc
  | _ => { kind := .function, names := [], isGenerator := false, isCoroutine := false }
abbrev CX0 : CXT := fun _ _ _ _ _ _ => False
abbrev E0 : XK := fun _ _ _ => False
theorem pass0 {X : Cx} : Passes CX0 X E0 := fun _ _ _ _ _ _ _ h => h.elim
structure Fun (K : PySem.W.Frag) (x qual : Str) (st : Stmt) (f : Addr) (fd : FuncData) : Prop where
  ex : ∃ (oc : Value) (od : Option Addr) (kV doc pm : Value) (an : Option Addr) (cdv ct : Value) (osl : Array (Option Value)),
    fd = PySem.W.fnOf x qual (defArgs st) (defBody st) (defScope st) .none kV doc pm an cdv ct ∧ K.lookup f = some ⟨oc, od, .func fd, osl⟩ ∧ PySem.W.codeIn K cdv qual = true
  kp : PySem.W.keepIn K (.ref f) = true
section
variable {P : Program} {w : World} {K : PySem.W.Frag} {mg : Str → Option Value} {base : Heap}
theorem Fun.ok {x qual : Str} {st : Stmt} {f : Addr} {fd : FuncData} {N ps : List Str} {k : Nat} {sp : Sp} (F : Fun K x qual st f fd) (S : FnScope N ps (defScope st)) (len : ∀ vs H Q E, sp vs H Q E → vs.length = ps.length)
    (hbody : ∀ (cdv : Value) (A : Around) (outer : List Env) (s : Shared) (H : Hp) (vs : List V) (Q : VK) (E : XK), Room k (A.deeper (envOfC qual (defScope st) s.heap.objs.size f cdv)) → sp vs H Q E →
      ∃ t, PSs (cxOf CX0 P w K mg base N qual (defScope st) f cdv A outer s H E).nox (defBody st) t ∧ t { nx := fun _ H' => Q .non H', rt := Q } (start N vs) H) : FnOk P w K mg base CX0 (k + 1) f fd ps sp := by
  obtain ⟨oc, od, kV, doc, pm, an, cdv, ct, osl, rfl, lk, hcd⟩ := F.ex
  refine fn_of lk hcd S len fun A outer s H vs Q E hr hsp => ?_
  obtain ⟨t, h, q⟩ := hbody cdv A outer s H vs Q E hr hsp
  exact ⟨t, h.nox, q⟩
theorem Fun.binds {x qual : Str} {st : Stmt} {f : Addr} {fd : FuncData} {ps : List Str} (F : Fun K x qual st f fd)
    (h : ∀ (kV doc pm : Value) (an : Option Addr) (cdv ct : Value) (us : List Value), us.length = ps.length → bindArgs (PySem.W.fnOf x qual (defArgs st) (defBody st) (defScope st) .none kV doc pm an cdv ct) ⟨us, []⟩ = pure (ps.zip us)) : Binds K fd ps [] := by
  obtain ⟨oc, od, kV, doc, pm, an, cdv, ct, osl, rfl, lk, hcd⟩ := F.ex
  exact .all (h kV doc pm an cdv ct)
theorem fun_mk {x qual : Str} {st : Stmt} {f : Addr} {oc : Value} {od an : Option Addr} {osl : Array (Option Value)} {kV doc pm cdv ct : Value} (l : K.lookup f = some ⟨oc, od, .func (PySem.W.fnOf x qual (defArgs st) (defBody st) (defScope st) .none kV doc pm an cdv ct), osl⟩)
    (c : PySem.W.codeIn K cdv qual = true) (k : PySem.W.keepIn K (.ref f) = true) : Fun K x qual st f (PySem.W.fnOf x qual (defArgs st) (defBody st) (defScope st) .none kV doc pm an cdv ct) := ⟨⟨oc, od, kV, doc, pm, an, cdv, ct, osl, rfl, l, c⟩, k⟩
end
theorem hu_of {A : Around} {k : Nat} (hr : Room k A) : A.units + 1 < cLine := Nat.lt_of_le_of_lt (Nat.add_le_add_left (by decide : 1 ≤ 64) _) hr.units
section
variable {X : Cx}
theorem pv (i : Nat) {x : Str} {pos : Pos} (hN : X.N[i]? = some x := by rfl) (hv : Vis X.env.scope x := by first | exact Or.inl rfl | exact Or.inr (Or.inl rfl) | exact Or.inr (Or.inr rfl)) (hd : (x == ("__debug__" : Str)) = false := by decide)
    (hcd : (x == ("__classdict__" : Str)) = false := by decide) : PE X (.Name x pos) (tVar i) := pe_var hN hv hd hcd
end
theorem iteF {A B : Prop} (h : B) : if false = true then A else B := by
  rw [if_neg Bool.false_ne_true]
  exact h
theorem iteT {A B : Prop} (h : A) : if true = true then A else B := by
  rw [if_pos rfl]
  exact h
theorem ite2 {c A B : Prop} [Decidable c] (h1 : c → A) (h2 : ¬ c → B) : if c then A else B := by
  by_cases h : c
  · rw [if_pos h]
    exact h1 h
  · rw [if_neg h]
    exact h2 h
def Same (H H' : Hp) : Prop := ∀ b o, H b = some o → H' b = some o
theorem Same.refl (H : Hp) : Same H H := fun _ _ h => h
theorem Same.trans {H H1 H2 : Hp} (a : Same H H1) (b : Same H1 H2) : Same H H2 := fun c o h => b c o (a c o h)
theorem Same.free {H H' : Hp} (e : Same H H') {l : Addr} (h : H' l = Option.none) : H l = Option.none := by
  cases q : H l with
  | none => rfl
  | some o =>
    rw [e l o q] at h
    cases h
theorem Same.seq {K : PySem.W.Frag} {H H' : Hp} {a : Addr} {xs : List V} (e : Same H H') (h : SqL K H a xs) : SqL K H' a xs := by
  rcases h with (h | ⟨o, h⟩) | h
  · exact .inl (.inl (e _ _ h))
  · exact .inl (.inr ⟨o, e _ _ h⟩)
  · exact .inr h
end L2
namespace L2
open PySem PySem.Spec PyProof.Rows
section
variable {κ : Type} [DecidableEq κ]
def valV (kvs : List (κ × V)) (k : κ) : Option V := (kvs.find? fun kv => decide (kv.1 = k)).map (·.2)
def putK (kvs : List (κ × V)) (k : κ) (v : V) : List (κ × V) :=
  if (kvs.any fun kv => decide (kv.1 = k)) = true then kvs.map (fun kv => if kv.1 = k then (kv.1, v) else kv) else kvs ++ [(k, v)]
def dropK (kvs : List (κ × V)) (k : κ) : List (κ × V) := kvs.filter fun kv => decide (kv.1 ≠ k)
theorem valV_pos {p : κ × V} {r : List (κ × V)} {k : κ} (e : p.1 = k) : valV (p :: r) k = some p.2 := by simp [valV, List.find?_cons, e]
theorem valV_neg {p : κ × V} {r : List (κ × V)} {k : κ} (e : ¬ p.1 = k) : valV (p :: r) k = valV r k := by simp [valV, List.find?_cons, e]
theorem valV_any (k : κ) : ∀ kvs : List (κ × V), (kvs.any fun kv => decide (kv.1 = k)) = (valV kvs k).isSome
  | [] => rfl
  | p :: r => by
    rw [List.any_cons]
    by_cases e : p.1 = k
    · simp only [valV_pos e, decide_eq_true e, Bool.true_or, Option.isSome_some]
    · rw [valV_neg e, decide_eq_false e, Bool.false_or]; exact valV_any k r
theorem length_putK (kvs : List (κ × V)) (k : κ) (v : V) : (putK kvs k v).length ≤ kvs.length + 1 := by
  unfold putK
  split
  · rw [List.length_map]; omega
  · rw [List.length_append, List.length_cons, List.length_nil]; omega
theorem RelO.isSome_eq {o : Option V} {u : Option Value} (r : RelO o u) : o.isSome = u.isSome := by
  cases o with
  | none => cases u with
    | none => rfl
    | some _ => exact (show False from r).elim
  | some _ => cases u with
    | none => exact (show False from r).elim
    | some _ => rfl
theorem RelO.getD {o : Option V} {u : Option Value} {d : V} {d' : Value} (r : RelO o u) (rd : RelV d d') : RelV (o.getD d) (u.getD d') := by
  cases o with
  | none => cases u with
    | none => exact rd
    | some _ => exact (show False from r).elim
  | some _ => cases u with
    | none => exact (show False from r).elim
    | some _ => exact r
theorem KV.val {kvs : List (κ × V)} {vs : List (κ × Value)} (r : KV kvs vs) (k : κ) : RelO (valV kvs k) (valueAt vs k) := by
  unfold KV at r
  induction r with
  | nil => exact True.intro
  | @cons p q ps qs h t ih =>
    obtain ⟨h1, h2⟩ := h
    by_cases e : p.1 = k
    · have e' : q.1 = k := h1.symm.trans e
      have b : valueAt (q :: qs) k = some q.2 := by simp [valueAt, List.find?_cons, e']
      rw [valV_pos e, b]; exact h2
    · have e' : ¬ q.1 = k := fun z => e (h1.trans z)
      have b : valueAt (q :: qs) k = valueAt qs k := by simp [valueAt, List.find?_cons, e']
      rw [valV_neg e, b]; exact ih
theorem KV.any {kvs : List (κ × V)} {vs : List (κ × Value)} (r : KV kvs vs) (k : κ) : (kvs.any fun kv => decide (kv.1 = k)) = vs.any fun kv => decide (kv.1 = k) := by
  unfold KV at r
  induction r with
  | nil => rfl
  | cons h t ih => rw [List.any_cons, List.any_cons, ih, h.1]
theorem KV.repl {kvs : List (κ × V)} {vs : List (κ × Value)} (r : KV kvs vs) (k : κ) {y : V} {u : Value} (ry : RelV y u) :
    KV (kvs.map fun kv => if kv.1 = k then (kv.1, y) else kv) (vs.map fun kv => if kv.1 = k then (kv.1, u) else kv) := by
  unfold KV at r ⊢
  induction r with
  | nil => exact .nil
  | @cons p q ps qs h t ih =>
    rw [List.map_cons, List.map_cons]
    refine .cons ?_ ih
    obtain ⟨h1, h2⟩ := h
    by_cases e : p.1 = k
    · rw [if_pos e, if_pos (h1.symm.trans e)]; exact ⟨h1, ry⟩
    · rw [if_neg e, if_neg (fun z => e (h1.trans z))]; exact ⟨h1, h2⟩
theorem KV.put {kvs : List (κ × V)} {vs : List (κ × Value)} (r : KV kvs vs) (k : κ) {y : V} {u : Value} (ry : RelV y u) : KV (putK kvs k y) (stored vs k u) := by
  unfold putK stored
  rw [r.any k]
  by_cases e : (vs.any fun kv => decide (kv.1 = k)) = true
  · rw [if_pos e, if_pos e]; exact r.repl k ry
  · rw [if_neg e, if_neg e]; exact Paired.snoc r ⟨rfl, ry⟩
theorem KV.drop {kvs : List (κ × V)} {vs : List (κ × Value)} (r : KV kvs vs) (k : κ) : KV (dropK kvs k) (without vs k) := by
  unfold KV at r ⊢
  unfold dropK without
  induction r with
  | nil => exact .nil
  | @cons p q ps qs h t ih =>
    obtain ⟨h1, h2⟩ := h
    rw [List.filter_cons, List.filter_cons]
    by_cases e : p.1 = k
    · have a : ¬ decide (p.1 ≠ k) = true := by simp [e]
      have b : ¬ decide (q.1 ≠ k) = true := by simp [h1.symm.trans e]
      rw [if_neg a, if_neg b]; exact ih
    · have e' : ¬ q.1 = k := fun z => e (h1.trans z)
      have a : decide (p.1 ≠ k) = true := by simp [e]
      have b : decide (q.1 ≠ k) = true := by simp [e']
      rw [if_pos a, if_pos b]; exact .cons ⟨h1, h2⟩ ih
theorem KV.keys {kvs : List (κ × V)} {vs : List (κ × Value)} (r : KV kvs vs) : kvs.map (·.1) = vs.map (·.1) := by
  unfold KV at r
  induction r with
  | nil => rfl
  | cons h t ih => rw [List.map_cons, List.map_cons, ih, h.1]
theorem KV.length {kvs : List (κ × V)} {vs : List (κ × Value)} (r : KV kvs vs) : kvs.length = vs.length := Paired.length r
end
theorem kV_is {P : Program} {w : World} {k : Key} {u : Value} (r : RelV (kV k) u) : (mixKind P w).is k u = true := by
  cases k with
  | inl i => obtain ⟨t, e⟩ := (show ∃ t, u = Value.int i t from r); subst e; exact mixKind_int P w i t
  | inr x => obtain ⟨t, e⟩ := (show ∃ t, u = Value.str x t from r); subst e; exact mixKind_str P w x t
theorem items_are {P : Program} {w : World} : ∀ {ks : List Key} {us : List Value}, Vals (ks.map kV) us → ItemsAre (mixKind P w) ks us
  | [], _, r => by rw [List.map_nil] at r; cases r; exact .nil
  | k :: ks, _, r => by
    rw [List.map_cons] at r
    cases r with
    | cons h t => exact .cons (kV_is h) (items_are t)
abbrev KT (H : Hp) : List (List Key × V) → List (List Key × Addr × Value) → Prop := Paired fun p q => p.1 = q.1 ∧ H q.2.1 = some (.tup (p.1.map kV)) ∧ RelV p.2 q.2.2
theorem KT.val {H : Hp} {kvs : List (List Key × V)} {xs : List (List Key × Addr × Value)} (r : KT H kvs xs) (k : List Key) : RelO (valV kvs k) ((atKey xs k).map (·.2)) := by
  induction r with
  | nil => exact True.intro
  | @cons p q ps qs h t ih =>
    obtain ⟨h1, _, h2⟩ := h
    by_cases e : p.1 = k
    · have e' : q.1 = k := h1.symm.trans e
      have b : atKey (q :: qs) k = some q.2 := by simp [atKey, List.find?_cons, e']
      rw [valV_pos e, b]; exact h2
    · have e' : ¬ q.1 = k := fun z => e (h1.trans z)
      have b : atKey (q :: qs) k = atKey qs k := by simp [atKey, List.find?_cons, e']
      rw [valV_neg e, b]; exact ih
theorem KT.repl {H : Hp} {kvs : List (List Key × V)} {xs : List (List Key × Addr × Value)} (r : KT H kvs xs) (k : List Key) {y : V} {u : Value} (ry : RelV y u) :
    KT H (kvs.map fun kv => if kv.1 = k then (kv.1, y) else kv) (xs.map (putAt k u)) := by
  induction r with
  | nil => exact .nil
  | @cons p q ps qs h t ih =>
    rw [List.map_cons, List.map_cons]
    refine .cons ?_ ih
    obtain ⟨h1, h2, h3⟩ := h
    unfold putAt
    by_cases e : p.1 = k
    · rw [if_pos e, if_pos (h1.symm.trans e)]; exact ⟨h1, h2, ry⟩
    · rw [if_neg e, if_neg (fun z => e (h1.trans z))]; exact ⟨h1, h2, h3⟩
theorem KT.put {H : Hp} {kvs : List (List Key × V)} {xs : List (List Key × Addr × Value)} (r : KT H kvs xs) (k : List Key) {b : Addr} {y : V} {u : Value} (hb : H b = some (.tup (k.map kV))) (ry : RelV y u) :
    KT H (putK kvs k y) (storedH xs k b u) := by
  have e : (kvs.any fun kv => decide (kv.1 = k)) = (atKey xs k).isSome := by
    rw [valV_any, (r.val k).isSome_eq, Option.isSome_map]
  unfold putK storedH
  rw [e]
  by_cases q : (atKey xs k).isSome = true
  · rw [if_pos q, if_pos q]; exact r.repl k ry
  · rw [if_neg q, if_neg q]; exact Paired.snoc r ⟨rfl, hb, ry⟩
theorem KT.keeps {H H' : Hp} {kvs : List (List Key × V)} {xs : List (List Key × Addr × Value)} (r : KT H kvs xs) (ht : ∀ b ys, H b = some (.tup ys) → H' b = some (.tup ys)) : KT H' kvs xs :=
  Paired.mapP r fun _ _ z => ⟨z.1, ht _ _ z.2.1, z.2.2⟩
section
variable {P : Program} {w : World} {H : Hp} {h : Heap} {a : Addr}
theorem rd_of {u : HO} (ok : HOk P w H h) (e : Rd H a u) : ObjOk P w H h a u := e.ok ok
theorem dk_rd {kvs : List (Key × V)} (ok : HOk P w H h) (e : Rd H a (.dK kvs)) : kvs.length ≤ sizeLine ∧ (a == sysModules) = false ∧ ∃ vs, KV kvs vs ∧ h.DictOf (mixKind P w) a vs :=
  show ObjOk P w H h a (.dK kvs) from rd_of ok e
theorem dk_of {kvs : List (Key × V)} (ok : HOk P w H h) (e : H a = some (.dK kvs)) : kvs.length ≤ sizeLine ∧ (a == sysModules) = false ∧ ∃ vs, KV kvs vs ∧ h.DictOf (mixKind P w) a vs := dk_rd ok (.inl e)
theorem key_of {ks : List Key} (ok : HOk P w H h) (e : H a = some (.tup (ks.map kV))) : (tupleKind (mixKind P w)).is h ks a := by
  obtain ⟨_, its, r, o, h1, h2, n, h3⟩ := (show ObjOk P w H h a (.tup (ks.map kV)) from ok a _ e)
  exact ⟨o, its.toArray, n, h1, h2, h3, by simpa using items_are r⟩
theorem dt_rd {kvs : List (List Key × V)} (ok : HOk P w H h) (e : Rd H a (.dT kvs)) : kvs.length ≤ sizeLine ∧ (a == sysModules) = false ∧
    ∃ xs, KT H kvs xs ∧ h.DictOfH (tupleKind (mixKind P w)) a xs := by
  obtain ⟨z, y, xs, r, o, es, ep, h1, h2, h3, h4, h5⟩ := (show ObjOk P w H h a (.dT kvs) from rd_of ok e)
  refine ⟨z, y, xs, r, o, es, ep, h1, h2, h3, h4, fun x hx => ?_, h5⟩
  have all : ∀ {l : List (List Key × V)} {m : List (List Key × Addr × Value)}, KT H l m → ∀ x ∈ m, (tupleKind (mixKind P w)).is h x.1 x.2.1 := by
    intro l m q
    induction q with
    | nil => intro x hx; exact nomatch hx
    | @cons p q ps qs hq t ih =>
      intro x hx
      rcases List.mem_cons.mp hx with e | hx
      · subst e
        exact key_of ok (by rw [← hq.1]; exact hq.2.1)
      · exact ih x hx
  exact all r x hx
end
def DGet (H : Hp) (a : Addr) (y : V) (r : Option V) : Prop :=
  (∃ kvs k, Rd H a (.dK kvs) ∧ y = kV k ∧ r = valV kvs k) ∨ ∃ kvs k b, Rd H a (.dT kvs) ∧ y = .ref b ∧ H b = some (.tup (k.map kV)) ∧ r = valV kvs k
def DPut (H : Hp) (a : Addr) (y v : V) (H' : Hp) : Prop :=
  (∃ kvs k, H a = some (.dK kvs) ∧ y = kV k ∧ kvs.length < sizeLine ∧ H' = upd H a (.dK (putK kvs k v))) ∨
  ∃ kvs k b, H a = some (.dT kvs) ∧ y = .ref b ∧ H b = some (.tup (k.map kV)) ∧ kvs.length < sizeLine ∧ H' = upd H a (.dT (putK kvs k v))
theorem DGet.k {H : Hp} {a : Addr} {kvs : List (Key × V)} {k : Key} (e : H a = some (.dK kvs)) : DGet H a (kV k) (valV kvs k) := .inl ⟨kvs, k, .inl e, rfl, rfl⟩
theorem DGet.t {H : Hp} {a b : Addr} {kvs : List (List Key × V)} {k : List Key} (e : H a = some (.dT kvs)) (eb : H b = some (.tup (k.map kV))) : DGet H a (.ref b) (valV kvs k) := .inr ⟨kvs, k, b, .inl e, rfl, eb, rfl⟩
theorem DPut.k {H : Hp} {a : Addr} {kvs : List (Key × V)} {k : Key} {v : V} (e : H a = some (.dK kvs)) (hl : kvs.length < sizeLine) : DPut H a (kV k) v (upd H a (.dK (putK kvs k v))) := .inl ⟨kvs, k, e, rfl, hl, rfl⟩
theorem DPut.t {H : Hp} {a b : Addr} {kvs : List (List Key × V)} {k : List Key} {v : V} (e : H a = some (.dT kvs)) (eb : H b = some (.tup (k.map kV))) (hl : kvs.length < sizeLine) :
    DPut H a (.ref b) v (upd H a (.dT (putK kvs k v))) := .inr ⟨kvs, k, b, e, rfl, eb, hl, rfl⟩
section
variable {X : Cx} {pins : List (Addr × Obj)} {σ : St} {H : Hp} {s : Shared} {a : Addr} {y v : V} {u r : Value} {o : Option V} {A : Around} {E : Value → Shared → Prop}
theorem Inv.big (I : Inv X pins σ H s) : sysModules < s.heap.objs.size := by
  have h : mainGlobals < s.heap.objs.size := (I.mod.glob.keeps I.bk).lt
  exact Nat.lt_trans (by decide) h
theorem d_getItem {Q : Value → Shared → Prop} (hu : A.units + 1 < cLine) (I : Inv X pins σ H s) (g : DGet H a y (some v)) (ry : RelV y u) (h : ∀ w' s', Inv X pins σ H s' → RelV v w' → Q w' s') :
    wpAny (model X.prog X.w) A (getItem (.ref a) u) Q E s := by
  rcases g with ⟨kvs, k, e, ey, l⟩ | ⟨kvs, k, b, e, ey, eb, l⟩
  · subst ey
    obtain ⟨z, hd, vs, rel, dd⟩ := dk_rd I.hok e
    obtain ⟨w', hw, rw'⟩ := RelO.some_of (v := v) (o := valueAt vs k) (by rw [l]; exact rel.val k)
    exact wpAny_getItem_of (kV_is ry) dd.mapOf hw (h w' _ (I.tok _) rw')
  · subst ey
    cases (show u = Value.ref b from ry)
    obtain ⟨z, hd, xs, rel, dd⟩ := dt_rd I.hok e
    obtain ⟨w', hw, rw'⟩ := RelO.some_of (v := v) (o := (atKey xs k).map (·.2)) (by rw [l]; exact rel.val k)
    obtain ⟨p, hp, hp2⟩ := Option.map_eq_some_iff.mp hw
    refine wpAny_getItem_heap (tupleKind_room_in1 hu) (key_of I.hok eb) dd hp ?_
    rw [hp2]
    exact h w' _ (I.tok _) rw'
theorem d_write {h' : Heap} {t' : Nat} {ob : HO} (I : Inv X pins σ H s) (mu : Mut (H a)) (hs : Heap.SameBut a s.heap h') (he : ∃ q, h'.get? a = some q) (new : ObjOk X.prog X.w (upd H a ob) h' a ob) :
    Inv X pins σ (upd H a ob) { s with heap := h', toks := t' } :=
  I.write (x := a) (e := a) mu (.inl rfl) (fun b q hb z => (hs.2 b hb).trans z) he new
theorem dk_new {P : Program} {w : World} {H' : Hp} {h' : Heap} {kvs : List (Key × V)} {vs : List (Key × Value)} (z : kvs.length ≤ sizeLine) (hd : (a == sysModules) = false) (rel : KV kvs vs) (dd : h'.DictOf (mixKind P w) a vs) :
    ObjOk P w H' h' a (.dK kvs) := ⟨z, hd, vs, rel, dd⟩
end
section
variable {X : Cx} {pins : List (Addr × Obj)} {σ : St} {H : Hp} {s : Shared} {a : Addr} {kvs : List (Key × V)} {k : Key} {u : Value} {A : Around} {E : Value → Shared → Prop}
end
def NoSl (i : Expr) : Prop := ∀ ov iv, subscripted i false ov iv = operate [ov, iv] (getItem ov iv)
theorem subD_of {prog : Program} {w : World} {A : Around} {E : Value → Shared → Prop} {s : Shared} {env : Env} {value slice : Expr} {pos : Pos} {T id : String} {Q : Value → Shared → Prop}
    (hl : typeLookup (.type T) "__getitem__" = pure (some (.builtin id))) (hs : NoSl slice)
    (h : wpAny (model prog w) A (eval value env) (fun o s₁ => wpAny (model prog w) A (eval slice env) (fun i s₂ => s₂.TypeIs o T ∧ wpAny (model prog w) A (getItem o i) Q E s₂) E s₁) E s) :
    wpAny (model prog w) A (eval (.Subscript value slice pos) env) Q E s := by
  refine Subscript_ (wpAny_mono h (fun o s₁ h₁ => wpAny_mono h₁ (fun i s₂ h₂ => ?_) fun _ _ x => x) fun _ _ x => x)
  obtain ⟨hT, h₂⟩ := h₂
  unfold subscriptTail
  refine wpAny_bind ?_
  rw [getitemInPython_of_ne hT.not_modules]
  refine wpAny_bind (wpAny_specialOf hT hl ?_)
  have fin : wpAny (model prog w) A (subscripted slice false o i) (fun r s₃ => wpAny (model prog w) A (letTemporaryGo value o r >>= fun _ => pure r) Q E s₃) E s₂ := by
    rw [hs o i]
    exact wpAny_operating (wpAny_mono h₂ (fun r s₃ h₃ => wpAny_bind (wpAny_letTemporaryGo (wpAny_pure h₃))) fun _ _ x => x)
  first
    | exact wpAny_pure (wpAny_bind fin)
    | exact wpAny_bind (wpAny_pure (wpAny_bind fin))
    | exact wpAny_bind fin
theorem dict_typeIs {X : Cx} {pins : List (Addr × Obj)} {σ : St} {H : Hp} {s : Shared} {a : Addr} {y : V} {o : Option V} (I : Inv X pins σ H s) (g : DGet H a y o) : s.TypeIs (.ref a) "dict" := by
  rcases g with ⟨kvs, k, e, _, _⟩ | ⟨kvs, k, b, e, _, _, _⟩
  · obtain ⟨_, _, vs, _, dd⟩ := dk_rd I.hok e
    exact dd.typeIs
  · obtain ⟨_, _, xs, _, dd⟩ := dt_rd I.hok e
    exact dd.typeIs
def tDGet (td ty : TE) : TE := fun σ H Q => td σ H fun x H1 => ty σ H1 fun y H2 => ∃ a v, x = .ref a ∧ DGet H2 a y (some v) ∧ Q v H2
def tDIn (ty td : TE) : TE := fun σ H Q => ty σ H fun y H1 => td σ H1 fun x H2 => ∃ a o, x = .ref a ∧ DGet H2 a y o ∧ Q (.bl o.isSome) H2
def tDNotIn (ty td : TE) : TE := fun σ H Q => ty σ H fun y H1 => td σ H1 fun x H2 => ∃ a o, x = .ref a ∧ DGet H2 a y o ∧ Q (.bl (!o.isSome)) H2
def sDPut (td ty tv : TE) : TS := fun D σ H => tv σ H fun v H1 => td σ H1 fun x H2 => ty σ H2 fun y H3 => ∃ a H4, x = .ref a ∧ DPut H3 a y v H4 ∧ D.nx σ H4
def sDAug (td ty tv : TE) (rd : V → V → Hp → VK → Prop) : TS := fun D σ H => td σ H fun x H1 => ty σ H1 fun y H2 => ∃ a v, x = .ref a ∧ DGet H2 a y (some v) ∧
  tv σ H2 fun y2 H3 => rd v y2 H3 fun z H4 => ∃ H5, DPut H4 a y z H5 ∧ D.nx σ H5
def sDDel (td ty : TE) : TS := fun D σ H => td σ H fun x H1 => ty σ H1 fun y H2 => ∃ a kvs k, x = .ref a ∧ H2 a = some (.dK kvs) ∧ y = kV k ∧ (valV kvs k).isSome = true ∧ D.nx σ (upd H2 a (.dK (dropK kvs k)))
section
variable {X : Cx} {o i e value : Expr} {pos pos' tpos : Pos} {td ty tv : TE}
theorem pe_dget (hu : X.A.units + 1 < cLine) (ho : PE X o td) (hi : PE X i ty) (hs : NoSl i) : PE X (.Subscript o i pos) (tDGet td ty) := by
  intro pins s σ H Q I h
  refine subD_of PySem.F.slot_dict_getitem.lookup hs (thn (ho pins s σ H _ I h) fun u s1 ⟨x, H1, I1, rx, q1⟩ => thn (hi pins s1 σ H1 _ I1 q1) fun iv s2 ⟨y, H2, I2, ry, a, v, ex, g, q2⟩ => ?_)
  subst ex
  obtain rfl : u = Value.ref a := rx
  exact ⟨dict_typeIs I2 g, d_getItem hu I2 g ry fun w' s3 I3 rw' => ⟨v, H2, I3, rw', q2⟩⟩
end
theorem dk_empty {P : Program} {w : World} {H : Hp} (h : Heap) (hb : sysModules < h.objs.size) : ObjOk P w H (h.push { cls := .type "dict", data := .dict #[] }) h.objs.size (.dK []) :=
  ⟨Nat.zero_le _, beq_eq_false_iff_ne.mpr (Ne.symm (Nat.ne_of_lt hb)), [], .nil, Heap.DictOf.new h⟩
def tDNewK : TE := fun _ H Q => ∀ p, H p = none → Q (.ref p) (upd H p (.dK []))
def tDNewT : TE := fun _ H Q => ∀ p, H p = none → Q (.ref p) (upd H p (.dT []))
section
variable {X : Cx} {pos : Pos}
end
def tPairs : List (TE × TE) → St → Hp → (List (V × V) → Hp → Prop) → Prop
  | [], _, H, Q => Q [] H
  | (tk, tv) :: r, σ, H, Q => tk σ H fun x H1 => tv σ H1 fun y H2 => tPairs r σ H2 fun ps H3 => Q ((x, y) :: ps) H3
abbrev VV : List (V × V) → List (Value × Value) → Prop := Paired fun p q => RelV p.1 q.1 ∧ RelV p.2 q.2
def PPs (X : Cx) (pos : Pos) (keys : List (Option Expr)) (values : List Expr) (trs : List (TE × TE)) : Prop :=
  ∀ (pins : List (Addr × Obj)) (s : Shared) (σ : St) (H : Hp) (Q : List (V × V) → Hp → Prop), Inv X pins σ H s → tPairs trs σ H Q →
    wpAny (model X.prog X.w) X.A (evalPairs (pairTrees keys values X.env pos)) (fun vs s' => ∃ ps H', Inv X pins σ H' s' ∧ VV ps vs ∧ Q ps H') X.xe s
theorem pps_nil {X : Cx} {pos : Pos} : PPs X pos [] [] [] := fun pins s σ H Q I h => pairTrees_nil_walk ⟨[], H, I, .nil, h⟩
theorem pps_cons {X : Cx} {pos : Pos} {k v : Expr} {ks : List (Option Expr)} {vs : List Expr} {tk tv : TE} {trs : List (TE × TE)} (hk : PE X k tk) (hv : PE X v tv) (hr : PPs X pos ks vs trs) :
    PPs X pos (some k :: ks) (v :: vs) ((tk, tv) :: trs) := fun pins s σ H Q I h =>
  pairTrees_cons_walk (thn (hk pins s σ H _ I h) fun u s1 ⟨x, H1, I1, rx, q1⟩ => thn (hv pins s1 σ H1 _ I1 q1) fun w2 s2 ⟨y, H2, I2, ry, q2⟩ =>
    thn (hr pins s2 σ H2 _ I2 q2) fun ws s3 ⟨ps, H3, I3, rel, q3⟩ => ⟨(x, y) :: ps, H3, I3, .cons ⟨rx, ry⟩ rel, q3⟩)
def mergeK (kvs more : List (Key × V)) : List (Key × V) := more.foldl (fun acc kv => putK acc kv.1 kv.2) kvs
theorem KV.merge : ∀ {more : List (Key × V)} {rs : List (Key × Value)} {kvs : List (Key × V)} {vs : List (Key × Value)}, KV more rs → KV kvs vs → KV (mergeK kvs more) (merged vs rs) := by
  intro more rs kvs vs r
  unfold KV at r
  induction r generalizing kvs vs with
  | nil => intro q; exact q
  | @cons p q ps qs h t ih =>
    intro r0
    have e : KV (putK kvs p.1 p.2) (stored vs q.1 q.2) := by
      have := r0.put p.1 h.2
      rw [← h.1]; exact this
    exact ih e
theorem length_mergeK : ∀ (more kvs : List (Key × V)), (mergeK kvs more).length ≤ kvs.length + more.length
  | [], kvs => by show kvs.length ≤ kvs.length + 0; omega
  | p :: r, kvs => by
    have h1 := length_mergeK r (putK kvs p.1 p.2)
    have h2 := length_putK kvs p.1 p.2
    show (mergeK (putK kvs p.1 p.2) r).length ≤ _
    rw [List.length_cons]; omega
theorem carries_of {P : Program} {w : World} : ∀ {kvs : List (Key × V)} {ws : List (Value × Value)}, VV (kvs.map fun kv => (kV kv.1, kv.2)) ws → ∃ rs, Carries (mixKind P w) ws rs ∧ KV kvs rs
  | [], _, r => by rw [List.map_nil] at r; cases r; exact ⟨[], True.intro, .nil⟩
  | p :: kvs, _, r => by
    rw [List.map_cons] at r
    cases r with
    | @cons a b as bs h t =>
      obtain ⟨rs, c, q⟩ := carries_of (P := P) (w := w) t
      obtain ⟨b1, b2⟩ := b
      exact ⟨(p.1, b2) :: rs, ⟨kV_is h.1, rfl, c⟩, .cons ⟨rfl, h.2⟩ q⟩
def tDisp (trs : List (TE × TE)) : TE := fun σ H Q => ∀ p, H p = none → tPairs trs σ (upd H p (.dK [])) fun ps H2 => H2 p = some (.dK []) ∧ ∃ kvs : List (Key × V), ps = kvs.map (fun kv => (kV kv.1, kv.2)) ∧ kvs.length ≤ 15 ∧ Q (.ref p) (upd H2 p (.dK (mergeK [] kvs)))
theorem pe_disp {X : Cx} {pos : Pos} {keys : List (Option Expr)} {values : List Expr} {trs : List (TE × TE)} (h : PPs X pos keys values trs) (hall : keys.all (·.isSome) = true) (hl : keys.length = values.length) (h0 : keys ≠ [])
    (h15 : keys.length ≤ 15) : PE X (.Dict keys values pos) (tDisp trs) := by
  intro pins s σ H Q I q
  have hn := I.hok.fresh (Nat.le_refl s.heap.objs.size)
  have I1 := I.laid (a := s.heap.objs.size) (o := .dK []) (h' := s.heap.push { cls := .type "dict", data := .dict #[] }) (t' := s.toks) (fun _ _ q => Heap.get?_push_of_some _ q) (Nat.le_refl _) (dk_empty s.heap I.big)
  refine wpAny_Dict_walk (knd := mixKind X.prog X.w) hall hl h0 h15 (thn (h pins _ σ _ _ I1 (q _ hn)) fun ws s2 ⟨ps, H2, I2, rel, e, kvs, ep, lk, q2⟩ => ?_)
  subst ep
  obtain ⟨rs, c, rk⟩ := carries_of (P := X.prog) (w := X.w) rel
  obtain ⟨z, hd, vs0, r0, dd⟩ := dk_of I2.hok e
  cases r0
  refine ⟨rs, c, dd, fun h' dd' hs => ⟨.ref s.heap.objs.size, _, ?_, rfl, q2⟩⟩
  have hz : (mergeK [] kvs).length ≤ sizeLine := by
    have h1 := length_mergeK kvs []
    rw [List.length_nil] at h1
    rw [sizeLine_eq]; omega
  have he : ∃ q, h'.get? s.heap.objs.size = some q := let ⟨q, _, _, hq, _⟩ := dd'; ⟨q, hq⟩
  exact d_write I2 (by rw [e]; exact True.intro) hs he (dk_new hz hd (rk.merge .nil) dd')
structure M1 (X : Cx) (o : Expr) (m : Str) (apos : Pos) (e : Expr) (cpos : Pos) : Prop where
  base : attributeBase o m X.env (eval o X.env) = eval o X.env
  few : ((backTo cpos (starEach [e] X.env)).all (fun x => !x.1) && (backToKw cpos (keywordEach [] X.env)).all (fun x => x.1.isSome)
    && decide (([e] : List Expr).length + ([] : List Keyword).length + (if ([] : List Keyword).isEmpty then 0 else 1) < 30)) = true
  line : (apos.endLine == cpos.line) = true
  trees : backTo cpos (starEach [e] X.env) = [(false, eval e X.env)]
structure M2 (X : Cx) (o : Expr) (m : Str) (apos : Pos) (e f : Expr) (cpos : Pos) : Prop where
  base : attributeBase o m X.env (eval o X.env) = eval o X.env
  few : ((backTo cpos (starEach [e, f] X.env)).all (fun x => !x.1) && (backToKw cpos (keywordEach [] X.env)).all (fun x => x.1.isSome)
    && decide (([e, f] : List Expr).length + ([] : List Keyword).length + (if ([] : List Keyword).isEmpty then 0 else 1) < 30)) = true
  line : (apos.endLine == cpos.line) = true
  trees : backTo cpos (starEach [e, f] X.env) = [(false, eval e X.env), (false, eval f X.env)]
def IsD (H : Hp) (a : Addr) : Prop := (∃ kvs, Rd H a (.dK kvs)) ∨ ∃ kvs, Rd H a (.dT kvs)
section
variable {X : Cx} {pins : List (Addr × Obj)} {σ : St} {H : Hp} {s : Shared} {a : Addr} {y d : V} {u r : Value} {o : Option V} {A : Around} {E : Value → Shared → Prop}
end
def tDGet1 (td ty : TE) : TE := fun σ H Q => td σ H fun x H1 => ∃ a, x = .ref a ∧ IsD H1 a ∧ ty σ H1 fun y H2 => ∃ o, DGet H2 a y o ∧ Q (o.getD .non) H2
def tDGet2 (td ty tx : TE) : TE := fun σ H Q => td σ H fun x H1 => ∃ a, x = .ref a ∧ IsD H1 a ∧ ty σ H1 fun y H2 => tx σ H2 fun z H3 => ∃ o, DGet H3 a y o ∧ Q (o.getD z) H3
def tDPop1 (td ty : TE) : TE := fun σ H Q => td σ H fun x H1 => ∃ a, x = .ref a ∧ IsD H1 a ∧ ty σ H1 fun y H2 => ∃ kvs k v, H2 a = some (.dK kvs) ∧ y = kV k ∧ valV kvs k = some v ∧ Q v (upd H2 a (.dK (dropK kvs k)))
def tDPop2 (td ty tx : TE) : TE := fun σ H Q => td σ H fun x H1 => ∃ a, x = .ref a ∧ IsD H1 a ∧ ty σ H1 fun y H2 => tx σ H2 fun z H3 => ∃ kvs k, H3 a = some (.dK kvs) ∧ y = kV k ∧
  (∀ v, valV kvs k = some v → Q v (upd H3 a (.dK (dropK kvs k)))) ∧ (valV kvs k = none → Q z H3)
section
variable {X : Cx} {o e f : Expr} {apos cpos : Pos} {td ty tx : TE}
end
section
variable {X : Cx} {pins : List (Addr × Obj)} {σ : St} {H : Hp} {s : Shared} {a : Addr} {kvs : List (Key × V)} {A : Around} {E : Value → Shared → Prop}
end
section
variable {X : Cx} {pins : List (Addr × Obj)} {σ : St} {H : Hp} {s : Shared} {a : Addr} {y : V} {u : Value} {A : Around} {E : Value → Shared → Prop}
end
end L2
namespace L2
open PySem PySem.Spec PyProof.Rows
section
variable {κ : Type} [DecidableEq κ]
end
end L2
namespace L2
open PySem PySem.Spec PyProof.Rows
def cxC (X : Cx) (N : List Str) (scope : Scope) (cl : List (Str × Addr)) (C : Addr) (s0 : Shared) (H0 : Hp) (ex : List Addr) : Cx :=
  { X with N := N, s₀ := s0, H₀ := H0, env := compEnvC scope cl C X.env, outer := X.stack, stack := X.stack, ex := ex, fn := fun _ => false, pn := [], xe := fun _ _ => False }
theorem closure_ok {env : Env} (has : ∀ x, (env.kindOf x = some .cell ∨ env.kindOf x = some .free) → ∃ c, env.cells.lookup x = some c) {scope : Scope}
    (hf : ∀ y ∈ scope.names, y.2 = .free → env.kindOf y.1 = some .cell ∨ env.kindOf y.1 = some .free) :
    ∃ cl, closureFor scope env = pure cl ∧ (∀ x c, cl.lookup x = some c → env.cells.lookup x = some c) ∧ (∀ y ∈ scope.names, y.2 = .free → ∃ c, cl.lookup y.1 = some c) := by
  have gen : ∀ (names : List (Str × NameKind)) (cs : List (Str × Addr)), (∀ y ∈ names, y.2 = .free → env.kindOf y.1 = some .cell ∨ env.kindOf y.1 = some .free) →
      (∀ x c, cs.lookup x = some c → env.cells.lookup x = some c) →
      ∃ cl, (forIn (m := Sem) names cs fun p r => do
          match p with
          | (name, kind) => if kind == .free then do let c ← cellOf env name; pure (ForInStep.yield ((name, c) :: r)) else pure (ForInStep.yield r)) = pure cl ∧
        (∀ x c, cl.lookup x = some c → env.cells.lookup x = some c) ∧ (∀ x c, cs.lookup x = some c → ∃ c, cl.lookup x = some c) ∧ (∀ y ∈ names, y.2 = .free → ∃ c, cl.lookup y.1 = some c) := by
    intro names
    induction names with
    | nil => intro cs _ h; exact ⟨cs, rfl, h, fun x c e => ⟨c, e⟩, fun y hy => nomatch hy⟩
    | cons p r ih =>
      intro cs hp h
      obtain ⟨n, k⟩ := p
      by_cases hk : k = .free
      · subst hk
        obtain ⟨c, hc⟩ := has n (hp (n, .free) List.mem_cons_self rfl)
        have h' : ∀ x d, ((n, c) :: cs).lookup x = some d → env.cells.lookup x = some d := by
          intro x d e
          rw [List.lookup_cons] at e
          cases hx : x == n with
          | true =>
            rw [hx] at e
            have : x = n := by simpa using hx
            cases e; rw [this]; exact hc
          | false => rw [hx] at e; exact h x d e
        obtain ⟨cl, e1, e2, e3, e4⟩ := ih ((n, c) :: cs) (fun y hy => hp y (List.mem_cons_of_mem _ hy)) h'
        have hn : ∃ d, cl.lookup n = some d := e3 n c (by simp [List.lookup_cons])
        refine ⟨cl, ?_, e2, fun x d e => ?_, fun y hy hyk => ?_⟩
        · rw [List.forIn_cons]
          have : cellOf env n = pure c := by unfold cellOf; rw [hc]
          simp only [beq_self_eq_true, if_true, this]
          exact e1
        · by_cases hx : x = n
          · subst hx; exact hn
          · exact e3 x d (by rw [List.lookup_cons]; have : (x == n) = false := by simpa using hx
                             rw [this]; exact e)
        · rcases List.mem_cons.mp hy with rfl | hy
          · exact hn
          · exact e4 y hy hyk
      · obtain ⟨cl, e1, e2, e3, e4⟩ := ih cs (fun y hy => hp y (List.mem_cons_of_mem _ hy)) h
        refine ⟨cl, ?_, e2, e3, fun y hy hyk => ?_⟩
        · rw [List.forIn_cons]
          have : (k == NameKind.free) = false := by simpa using hk
          simp only [this]
          exact e1
        · rcases List.mem_cons.mp hy with rfl | hy
          · exact absurd hyk hk
          · exact e4 y hy hyk
  obtain ⟨cl, e1, e2, _, e4⟩ := gen scope.names [] hf (fun x c e => nomatch e)
  refine ⟨cl, ?_, e2, e4⟩
  unfold closureFor
  simp only []
  exact congrArg (· >>= fun cs => pure cs) e1 |>.trans rfl
end L2
namespace L2
open PySem PySem.Spec PyProof.Rows
theorem relabel_kind {scope : Scope} {env : Env} {x : Str} {k : NameKind} (h : (relabel scope env).names.lookup x = some k) (hk : k = .cell ∨ k = .free) (nc : ∀ y ∈ scope.names, y.2 ≠ .cell) : ∃ y ∈ scope.names, y.1 = x ∧ y.2 = .free := by
  have gen : ∀ names : List (Str × NameKind), (names.map fun (n, k) => if (k == NameKind.free && env.scope.kind == .function && env.kindOf n == some .cell) then (n, NameKind.cell) else (n, k)).lookup x = some k → (∀ y ∈ names, y.2 ≠ .cell) →
      ∃ y ∈ names, y.1 = x ∧ y.2 = .free := by
    intro names
    induction names with
    | nil => intro h _; cases h
    | cons p r ih =>
      obtain ⟨n, j⟩ := p
      intro h nc
      rw [List.map_cons, List.lookup_cons] at h
      have e1 : (if (j == NameKind.free && env.scope.kind == .function && env.kindOf n == some .cell) = true then (n, NameKind.cell) else (n, j)).1 = n := by split <;> rfl
      dsimp only at h
      rw [e1] at h
      cases hx : x == n with
      | false =>
        rw [hx] at h
        obtain ⟨y, hy, q⟩ := ih h fun y hy => nc y (List.mem_cons_of_mem _ hy)
        exact ⟨y, List.mem_cons_of_mem _ hy, q⟩
      | true =>
        rw [hx] at h
        have ex : x = n := by simpa using hx
        have hj : j = .free := by
          by_cases hc : (j == NameKind.free && env.scope.kind == .function && env.kindOf n == some .cell) = true
          · have := (Bool.and_eq_true _ _).mp ((Bool.and_eq_true _ _).mp hc).1
            simpa using this.1
          · rw [if_neg hc] at h
            cases h
            rcases hk with z | z
            · exact absurd z (nc (n, j) List.mem_cons_self)
            · exact z
        exact ⟨(n, j), List.mem_cons_self, ex.symm, hj⟩
  exact gen scope.names h nc
section
variable {X : Cx} {pins : List (Addr × Obj)} {σ : St} {H : Hp} {s : Shared} {N : List Str} {scope : Scope} {cl : List (Str × Addr)} {C : Addr} {ex : List Addr}
theorem cxC_ok (I : Inv X pins σ H s) (hC : s.heap.objs.size ≤ C) (hkind : scope.kind = .function) (nc : ∀ y ∈ scope.names, y.2 ≠ .cell)
    (hcl : ∀ x c, cl.lookup x = some c → X.env.cells.lookup x = some c) (hcf : ∀ y ∈ scope.names, y.2 = .free → ∃ c, cl.lookup y.1 = some c)
    (hex : ∀ b ∈ ex, FpOk X pins H b) (hexl : ∀ b ∈ ex, b < s.heap.objs.size) : (cxC X N scope cl C s H ex).Ok where
  mod := I.ok.mod
  kind := hkind
  glob := I.ok.glob
  blt := I.ok.blt
  above := hC
  inj := fun x y c h1 h2 => I.ok.inj x y c (hcl x c h1) (hcl y c h2)
  has := fun x hx => by
    have hx' : ∃ k, (relabel scope X.env).names.lookup x = some k ∧ (k = .cell ∨ k = .free) := by
      rcases hx with h | h
      · exact ⟨_, h, .inl rfl⟩
      · exact ⟨_, h, .inr rfl⟩
    obtain ⟨k, h, hk⟩ := hx'
    obtain ⟨y, hy, e1, e2⟩ := relabel_kind h hk nc
    rw [← e1]
    exact hcf y hy e2
  cab := fun x c h => by cases h
  hd := I.ok.hd
  frames := I.ok.frames
  stk := .inl rfl
  exf := fun b hb => ⟨Nat.ne_of_lt (Nat.lt_of_lt_of_le (hexl b hb) hC), fun x c e => (hex b hb).2.2.2.2.1 x c (hcl x c e)⟩
  bs := I.bs
  bsz := Nat.le_trans I.ok.bsz I.sz
  noex := fun b o e hb => by
    rcases (hex b hb).2.2.2.1 with z | z
    · exact I.ok.noex b o e z
    · have h1 := Heap.lt_size e
      have h2 := I.ok.bsz
      exact absurd (Nat.lt_of_lt_of_le h1 (Nat.le_trans h2 z)) (Nat.lt_irrefl _)
  exfs := fun b hb z => by
    have h1 := I.stkSub b z
    rcases List.mem_cons.mp h1 with z | z
    · exact (hex b hb).2.1 z
    · exact (hex b hb).2.2.1 z
  funs := I.stack
  frf := I.stkFree
def capV (caps : List Nat) (σ : St) : St := caps.map fun j => (σ[j]?).join
def cSt (n : Nat) (caps : List Nat) (σ : St) : St := List.replicate n none ++ capV caps σ
theorem cxC_inv {caps : List Nat} {Nt Nf : List Str} {s1 : Shared} {m : Str → Option Value} (I : Inv X pins σ H s) (ok : (cxC X (Nt ++ Nf) scope cl C s H ex).Ok)
    (hcl : ∀ x c, cl.lookup x = some c → X.env.cells.lookup x = some c)
    (hcap : caps.map (fun j => X.N[j]?) = Nf.map some)
    (hvis : ∀ x ∈ Nf, scope.names.lookup x = some .free) (hXv : ∀ x ∈ Nf, X.env.kindOf x = some .cell ∨ X.env.kindOf x = some .free) (hcf : ∀ x ∈ Nf, ∃ c, cl.lookup x = some c)
    (hos : s1.os = s.os) (hgens : s1.gens = s.gens) (hk : ∀ b o, s.heap.get? b = some o → s1.heap.get? b = some o) (hns : s1.heap.Ns C m) (hC : s.heap.objs.size ≤ C) :
    Inv (cxC X (Nt ++ Nf) scope cl C s H ex) [] (cSt Nt.length caps σ) H s1 := by
  have hlen : caps.length = Nf.length := by
    have := congrArg List.length hcap
    simpa using this
  refine ⟨ok, hos, by rw [hgens]; exact I.bare, Un.kept hk, ⟨m, hns, fun i x v h1 h2 h3 => ?_⟩, fun x c e => ?_, I.hok.fresh hC, fun x c e => I.freeC x c (hcl x c e), fun p hp => absurd (show p ∈ ([] : List (Addr × Obj)) from hp) (by simp), I.hok.kept hk, ?_⟩
  · -- a captured name
    have hi : Nt.length ≤ i := by
      refine Nat.le_of_not_lt fun q => ?_
      unfold cSt at h2
      rw [List.getElem?_append_left (by simpa using q), List.getElem?_replicate] at h2
      split at h2 <;> cases h2
    have h1' : Nf[i - Nt.length]? = some x := by
      have : (Nt ++ Nf)[i]? = some x := h1
      rwa [List.getElem?_append_right hi] at this
    unfold cSt at h2
    rw [List.getElem?_append_right (by simpa using hi)] at h2
    have e0 : i - (List.replicate Nt.length (none : Option V)).length = i - Nt.length := by simp
    rw [e0] at h2
    generalize hj : i - Nt.length = j at h1' h2
    unfold capV at h2
    rw [List.getElem?_map] at h2
    cases hc : caps[j]? with
    | none => rw [hc] at h2; cases h2
    | some jj =>
      rw [hc] at h2
      have h2' : (σ[jj]?).join = some v := Option.some.inj h2
      have h2'' : σ[jj]? = some (some v) := by
        cases q : σ[jj]? with
        | none => rw [q] at h2'; cases h2'
        | some z => rw [q] at h2'; cases z with
          | none => cases h2'
          | some z' => cases h2'; rfl
      have hN : X.N[jj]? = some x := by
        have q := congrArg (fun l => l[j]?) hcap
        simp only [List.getElem?_map, hc, h1', Option.map_some] at q
        exact Option.some.inj q
      have hx : x ∈ Nf := List.mem_of_getElem? h1'
      have hXk := hXv x hx
      obtain ⟨mX, _, hl⟩ := I.loc
      obtain ⟨u, ru, lk⟩ := hl jj x v hN h2'' (by
        rcases hXk with z | z
        · exact .inr (.inl z)
        · exact .inr (.inr z))
      refine ⟨u, ru, .inr ?_⟩
      rcases lk with ⟨z, _⟩ | ⟨_, c, hc1, hcell⟩
      · rcases hXk with y | y <;> (rw [z] at y; cases y)
      · obtain ⟨c', hc'⟩ := hcf x hx
        have e := hcl x c' hc'
        rw [hc1] at e; cases e
        refine ⟨?_, c, hc', ?_⟩
        · rcases h3 with z | z | z
          · -- not a local of the block
            exfalso
            have hfree := hvis x hx
            have z' : (relabel scope X.env).names.lookup x = some .local := z
            have gen : ∀ names : List (Str × NameKind), names.lookup x = some .free → (names.map fun (n, k) => if (k == NameKind.free && X.env.scope.kind == .function && X.env.kindOf n == some .cell) then (n, NameKind.cell) else (n, k)).lookup x ≠ some .local := by
              intro names
              induction names with
              | nil => intro h; cases h
              | cons p r ih =>
                obtain ⟨n, k⟩ := p
                intro h
                rw [List.map_cons, List.lookup_cons]
                rw [List.lookup_cons] at h
                have e1 : (if (k == NameKind.free && X.env.scope.kind == .function && X.env.kindOf n == some .cell) = true then (n, NameKind.cell) else (n, k)).1 = n := by split <;> rfl
                dsimp only
                rw [e1]
                cases hx : x == n with
                | false => rw [hx] at h; exact ih h
                | true =>
                  rw [hx] at h
                  cases h
                  show some (if _ then (n, NameKind.cell) else (n, NameKind.free)).2 ≠ some .local
                  split <;> (intro q; cases q)
            exact gen scope.names hfree z'
          · exact .inl z
          · exact .inr z
        · obtain ⟨o, eo, d⟩ := hcell
          exact ⟨o, hk _ _ eo, d⟩
  · obtain ⟨v, q⟩ := I.cell x c (hcl x c e)
    obtain ⟨o, eo, d⟩ := q
    exact ⟨v, o, hk _ _ eo, d⟩
  · show (cSt Nt.length caps σ).length = (Nt ++ Nf).length
    unfold cSt capV
    simp [hlen]
end
end L2
namespace L2
open PySem PySem.Spec PyProof.Rows
abbrev askIfs (ifs : List Expr) (env : Env) : Sem Bool := forIn ifs true fun c r => if r = true then do let ok ← isTrue c env (eval c env); pure (ForInStep.yield ok) else pure (ForInStep.yield r)
abbrev NoX : Value → Shared → Prop := fun _ _ => False
theorem compLoop_any {P : Program} {w : World} {B : Around} {R : Result → Shared → Prop} {s : Shared} {y tg l : Expr} {cs : List Expr} {sc : Scope} {ps : Pos} {iv av : Value} {en : Env} (G : Nat → Shared → Prop)
    (one : ∀ n s, G n s → wpAny (model P w) B (pyNext iv) (fun r s1 => match r with
      | none => R (.ok .next) s1
      | some v => wpAny (model P w) B (letOwnedTupleGo tg iv v) (fun _ s1 => wpAny (model P w) B (assign tg en v) (fun _ s2 => wpAny (model P w) B (askIfs cs en) (fun k s3 =>
            if k = true then wpAny (model P w) B (eval y en) (fun x s4 => wpAny (model P w) B (call (.builtin "list.append") [av, x]) (fun _ s5 => ∃ m, m < n ∧ G m s5) NoX s4) NoX s3
            else ∃ m, m < n ∧ G m s3) NoX s2) NoX s1) NoX s1) NoX s) (n : Nat) (h : G n s) :
    codeAny (model P w) B (.compLoop (.ListComp y [⟨tg, l, cs, 0⟩] sc ps) 0 iv av en) R s := by
  refine codeAny_loop rfl G (fun n s hG => ?_) n h
  show wpAny _ B ((compTurn (.ListComp y [⟨tg, l, cs, 0⟩] sc ps) 0 iv av en).onRaise (fun x => do noteFrame x en; theTreesLotGoes x)) _ _ s
  refine wpAny_noted ?_
  rw [compTurn_list]
  refine wpAny_bind (wpAny_standAt (wpAny_bind (wpAny_mono (one n s hG) (fun r s1 h1 => ?_) fun _ _ z => z.elim)))
  cases r with
  | none => exact wpAny_pure h1
  | some v =>
    refine wpAny_bind (wpAny_mono h1 (fun _ s1' h1' => ?_) fun _ _ z => z.elim)
    refine wpAny_bind (wpAny_mono h1' (fun _ s2 h2 => wpAny_bind (wpAny_mono h2 (fun k s3 h3 => ?_) fun _ _ z => z.elim)) fun _ _ z => z.elim)
    cases k with
    | false => exact wpAny_pure ⟨rfl, h3⟩
    | true => exact wpAny_bind (wpAny_bind (wpAny_mono h3 (fun x s4 h4 => wpAny_bind (wpAny_mono h4 (fun _ s5 h5 => wpAny_pure (wpAny_pure ⟨rfl, h5⟩)) fun _ _ z => z.elim)) fun _ _ z => z.elim))
def PTs (X : Cx) (ifs : List Expr) (t : TT) : Prop :=
  ∀ (pins : List (Addr × Obj)) (s : Shared) (σ : St) (H : Hp) (Q : Bool → Hp → Prop), Inv X pins σ H s → t σ H Q →
    wpAny (model X.prog X.w) X.A (askIfs ifs X.env) (TP X pins σ Q) X.xe s
def tNoIf : TT := fun _ H Q => Q true H
theorem pts_nil {X : Cx} : PTs X [] tNoIf := fun pins s σ H Q I h => wpAny_tests_nil ⟨H, I, h⟩
section
variable {X : Cx} {pins : List (Addr × Obj)} {σ : St} {H : Hp} {s : Shared}
theorem Inv.adopt {D : Addr} {o : HO} (I : Inv X pins σ H s) (hD : H D = none) (h1 : X.s₀.heap.objs.size ≤ D) (h2 : D ≠ X.env.locals) (h3 : ∀ x c, X.env.cells.lookup x = some c → c ≠ D) (h4 : ∀ p ∈ X.pn ++ pins, p.1 ≠ D)
    (new : ObjOk X.prog X.w (upd H D o) s.heap D o) : Inv X pins σ (upd H D o) s := by
  have old : ∀ {b : Addr} {q : Obj}, X.s₀.heap.get? b = some q → b ≠ D := fun e => Nat.ne_of_lt (Nat.lt_of_lt_of_le (Heap.lt_size e) h1)
  refine ⟨I.ok, I.os, I.bare, ⟨I.base.keep, I.base.slot, fun b q e n hx => by rw [upd_ne (old e)]; exact I.base.free b q e n hx, I.base.there, fun b xs e => ?_, fun b q u e => ?_, fun b ps e => ?_⟩, I.loc, I.cell, by rw [upd_ne (Ne.symm h2)]; exact I.free, fun x c e => by rw [upd_ne (h3 x c e)]; exact I.freeC x c e, fun p hp => ?_, fun b u e => ?_, I.len⟩
  · have e' := I.base.tups b xs e
    rw [upd_ne (ne_of_none e' hD)]; exact e'
  · have e' := I.base.frzs b q u e
    rw [upd_ne (ne_of_none e' hD)]; exact e'
  · obtain ⟨more, e'⟩ := I.base.tbls b ps e
    exact ⟨more, by rw [upd_ne (ne_of_none e' hD)]; exact e'⟩
  · obtain ⟨a1, a2, a3, a4, a5⟩ := I.pin p hp
    exact ⟨a1, by rw [upd_ne (h4 p hp)]; exact a2, a3, a4, a5⟩
  · by_cases hb : b = D
    · subst hb; rw [upd_same] at e; cases e; exact new
    · rw [upd_ne hb] at e
      exact (I.hok b u e).stay (fun c v _ q => q) (fun c q => by rw [upd_ne (ne_of_none q hD)]; exact q) fun c xs q => by rw [upd_ne (ne_of_none q hD)]; exact q
def tLC (wi : TI) (g : TG) (tt : TT) (te : TE) (n : Nat) (caps : List Nat) : TE := fun σ H Q => wi σ H fun J H1 => ∃ W : Nat → Nat → List V → St → Hp → Prop, (∃ m, W 0 m [] (cSt n caps σ) H1) ∧ ∀ i m acc σ' H', W i m acc σ' H' →
  (J.stop i H' ∧ ∀ l, H' l = none → Q (.ref l) (upd H' l (.lst acc))) ∨
  (J.go i H' ∧ acc.length < sizeLine ∧ ∃ N : List V → St → Hp → Prop, (∀ ac σ2 H2, N ac σ2 H2 → ∃ m', m' < m ∧ W (i + 1) m' ac σ2 H2) ∧ ∀ x H2, J.yld i H' x H2 → g x σ' H2 fun σ3 H3 => tt σ3 H3 fun b H4 => if b = true then te σ3 H4 fun y H5 => N (acc ++ [y]) σ3 H5 else N acc σ3 H4)
structure CompOk (X : Cx) (scope : Scope) (Nt Nf : List Str) (caps : List Nat) : Prop where
  kind : scope.kind = .function
  nc : ∀ y ∈ scope.names, y.2 ≠ .cell
  nm : ∀ y ∈ scope.names, y.2 = .local → scope.names.lookup y.1 = some .local
  fr : ∀ y ∈ scope.names, y.2 = .free → X.env.kindOf y.1 = some .cell ∨ X.env.kindOf y.1 = some .free
  cap : caps.map (fun j => X.N[j]?) = Nf.map some
  vis : ∀ x ∈ Nf, scope.names.lookup x = some .free
theorem comp_block {tg iter elt : Expr} {ifs : List Expr} {scope : Scope} {pos : Pos} {g : TG} {tt : TT} {te : TE} {Nt Nf : List Str} {caps : List Nat} {cl : List (Str × Addr)} {it : Addr} {fp : List Addr} {tn : Nat → Heap → Prop} {J : It} {Q : VK} {E : Value → Shared → Prop}
    {RR : Value → Addr → Result → Shared → Prop}
    (hc : X.calm = true) (S : CompOk X scope Nt Nf caps)
    (hg : ∀ cl C s0 H0 ex, PG (cxC X (Nt ++ Nf) scope cl C s0 H0 ex) tg g)
    (ht : ∀ cl C s0 H0 ex, PTs (cxC X (Nt ++ Nf) scope cl C s0 H0 ex) ifs tt)
    (he : ∀ cl C s0 H0 ex, PE (cxC X (Nt ++ Nf) scope cl C s0 H0 ex) elt te)
    (hcl : ∀ x c, cl.lookup x = some c → X.env.cells.lookup x = some c) (hcf : ∀ y ∈ scope.names, y.2 = .free → ∃ c, cl.lookup y.1 = some c)
    (I : Inv X pins σ H s) (T : Turn X.prog X.w X.K tg J fp it tn) (st : tn 0 s.heap) (hfp : ∀ b ∈ fp, FpOk X pins H b)
    (hW : ∃ W : Nat → Nat → List V → St → Hp → Prop, (∃ m, W 0 m [] (cSt Nt.length caps σ) H) ∧ ∀ i m acc σ' H', W i m acc σ' H' →
      (J.stop i H' ∧ ∀ l, H' l = none → Q (.ref l) (upd H' l (.lst acc))) ∨
      (J.go i H' ∧ acc.length < sizeLine ∧ ∃ N : List V → St → Hp → Prop, (∀ ac σ2 H2, N ac σ2 H2 → ∃ m', m' < m ∧ W (i + 1) m' ac σ2 H2) ∧ ∀ x H2, J.yld i H' x H2 → g x σ' H2 fun σ3 H3 => tt σ3 H3 fun b H4 => if b = true then te σ3 H4 fun y H5 => N (acc ++ [y]) σ3 H5 else N acc σ3 H4))
    (fin : ∀ D C m s' H', Inv X pins σ H' s' → Q (.ref D) H' → s'.heap.Ns C m → H' C = none → C ≠ X.env.locals → X.s₀.heap.objs.size ≤ C → (∀ x c, X.env.cells.lookup x = some c → c ≠ C) → (∀ p ∈ X.pn ++ pins, p.1 ≠ C) → RR (.ref D) C (.ok .next) s') :
    wpAny (model X.prog X.w) X.A (newList []) (fun acc s₃ => wpAny (model X.prog X.w) X.A (newFunctionEnv scope X.env.globals cl [] X.env.qual none .none (some X.env)) (fun cenv s₄ =>
      codeAny (model X.prog X.w) X.A (.compStart (.ListComp elt [⟨tg, iter, ifs, 0⟩] scope pos) 0 (.ref it) acc { cenv with scope := relabel scope X.env }) (RR acc cenv.locals) s₄) E s₃) E s := by
  obtain ⟨W, ⟨m0, w0⟩, turn⟩ := hW
  refine wpAny_newObj_type (wpAny_newFunctionEnv S.nc (by intro y hy; simp at hy) (fun h₁ hns₁ hsb₁ => ?_) S.kind)
  dsimp only at hns₁ hsb₁ ⊢
  generalize hH2 : s.heap.push { cls := .type "list", dict := none, data := .seq ([] : List Value).toArray } = P2 at hns₁ hsb₁ ⊢
  have hCs : P2.objs.size = s.heap.objs.size + 1 := by rw [← hH2, Heap.size_push]
  have hDC : s.heap.objs.size ≠ P2.objs.size := by rw [hCs]; exact Nat.ne_of_lt (Nat.lt_succ_self _)
  have hCle : s.heap.objs.size ≤ P2.objs.size := by rw [hCs]; exact Nat.le_succ _
  have below : ∀ b, b < s.heap.objs.size → b ≠ P2.objs.size := fun b hb => by rw [hCs]; exact Nat.ne_of_lt (Nat.lt_succ_of_lt hb)
  have old : ∀ b o, s.heap.get? b = some o → h₁.get? b = some o := fun b o e => hsb₁.extBut b o (below b (Heap.lt_size e)) (Heap.get?_push_of_some _ (hH2 ▸ Heap.get?_push_of_some _ e))
  have hacc : h₁.PlainList s.heap.objs.size #[] := ⟨_, hsb₁.extBut _ _ hDC (Heap.get?_push_of_some _ (hH2 ▸ Heap.get?_push_size _ rfl))⟩
  have fpl : ∀ b ∈ fp, b < s.heap.objs.size := fun b hb => by
    obtain ⟨o, e, _⟩ := T.obj _ _ st b hb
    exact Heap.lt_size e
  have st₁ : tn 0 h₁ := T.keep _ _ _ st fun b _ o e => old b o e
  generalize hCe : P2.objs.size = C at hns₁ hsb₁ hDC hCle below ⊢
  generalize hDe : s.heap.objs.size = D at hacc hDC hCle ⊢
  have hDl : X.env.locals < D := by rw [← hDe]; exact I.lt
  have hDs : X.s₀.heap.objs.size ≤ D := by rw [← hDe]; exact I.sz
  have hcD : ∀ x c, X.env.cells.lookup x = some c → c < D := fun x c e => by
    obtain ⟨v, q⟩ := I.cell x c e
    rw [← hDe]; exact q.lt
  have hpD : ∀ p ∈ X.pn ++ pins, p.1 < D := fun p hp => by rw [← hDe]; exact Heap.lt_size (I.pin p hp).1
  let Y : Cx := cxC X (Nt ++ Nf) scope cl C s H fp
  have okY : Y.Ok := cxC_ok I (by rw [hDe]; exact hCle) S.kind S.nc hcl hcf hfp fpl
  have hfsY : ∀ b, b ∈ Y.fs → b < D := fun b hb => by
    rcases List.mem_cons.mp (I.stkSub b hb) with z | z
    · rw [z]; exact hDl
    · refine Nat.lt_of_lt_of_le ?_ hDs
      have := (I.ok.funs.mem z)
      refine Nat.lt_of_not_le fun q => ?_
      exact absurd z (fun z => by
        have := I.nofs (a := b)
        by_cases hb2 : s.heap.objs.size ≤ b
        · exact this hb2 z
        · obtain ⟨_, o, e, _⟩ := I.ok.funs.mem z
          exact absurd (Heap.lt_size e) (Nat.not_lt.mpr q))
  have loop : ∀ s₃ : Shared, s₃ = { s with heap := h₁, toks := s.toks + ([] : List (Str × Value)).length } →
      codeAny (model X.prog X.w) X.A (.compLoop (.ListComp elt [⟨tg, iter, ifs, 0⟩] scope pos) 0 (.ref it) (.ref D) Y.env) (RR (.ref D) C) s₃ := by
    rintro s₃ rfl
    have I0 : Inv Y [] (cSt Nt.length caps σ) H { s with heap := h₁, toks := s.toks + ([] : List (Str × Value)).length } :=
      cxC_inv I okY hcl S.cap S.vis (fun x hx => S.fr (x, .free) (PySem.mem_of_lookup (S.vis x hx)) rfl) (fun x hx => hcf (x, .free) (PySem.mem_of_lookup (S.vis x hx)) rfl) rfl rfl old hns₁ (by rw [hDe]; exact hCle)
    have fpY : ∀ {H' : Hp}, (∀ b ∈ fp, H' b = none) → ∀ b ∈ fp, FpOk Y [] H' b := fun hn b hb =>
      ⟨hn b hb, Nat.ne_of_lt (Nat.lt_of_lt_of_le (fpl b hb) (by rw [hDe]; exact hCle)), okY.exfs b hb, .inl hb, fun x c e => (hfp b hb).2.2.2.2.1 x c (hcl x c e), fun p hp => absurd (show p ∈ ([] : List (Addr × Obj)) from hp) (by simp)⟩
    have fpD : ∀ b ∈ fp, b ≠ D := fun b hb => Nat.ne_of_lt (by rw [← hDe]; exact fpl b hb)
    refine compLoop_any (fun n s' => ∃ i acc its σ' H', Inv Y [] σ' H' s' ∧ tn i s'.heap ∧ (∀ b ∈ fp, H' b = none) ∧ s'.heap.PlainList D its ∧ H' D = none ∧ Vals acc its.toList ∧ acc.length ≤ sizeLine ∧ W i n acc σ' H') ?_ m0
      ⟨0, [], #[], cSt Nt.length caps σ, H, I0, st₁, fun b hb => (hfp b hb).1, hacc, by rw [← hDe]; exact I.hok.fresh (Nat.le_refl _), .nil, Nat.zero_le _, w0⟩
    rintro n s3 ⟨i, acc, its, σ3, H3, I3, st3, fr3, ⟨nd, e3⟩, hD3, rv3, hl3, w3⟩
    have cD : C ≠ D := Ne.symm hDC
    have pinOk : ∀ {H' : Hp} {s' : Shared} {o : Obj}, s'.heap.get? D = some o → H' D = none → (∀ v, o.data ≠ .cell v) → s'.heap.get? D = some o ∧ H' D = none ∧ D ≠ Y.env.locals ∧ D ∉ Y.fs ∧ ∀ v, o.data ≠ .cell v := fun e n d =>
      ⟨e, n, hDC, fun z => absurd (hfsY D z) (Nat.lt_irrefl _), d⟩
    have I3' : Inv Y [(D, { cls := .type "list", data := .seq its nd })] σ3 H3 s3 := I3.pins_of fun p hp => by
      obtain rfl : p = (D, ({ cls := .type "list", data := .seq its nd } : Obj)) := List.mem_singleton.mp hp
      exact pinOk e3 hD3 (fun v z => by cases z)
    have fpY' : ∀ {H' : Hp}, (∀ b ∈ fp, H' b = none) → ∀ b ∈ fp, FpOk Y [(D, { cls := .type "list", data := .seq its nd })] H' b := fun hn b hb => by
      obtain ⟨a1, a2, a3, a4, a5, _⟩ := fpY hn b hb
      refine ⟨a1, a2, a3, a4, a5, fun p hp => ?_⟩
      obtain rfl : p = (D, ({ cls := .type "list", data := .seq its nd } : Obj)) := List.mem_singleton.mp hp
      exact Ne.symm (fpD b hb)
    rcases turn i n acc σ3 H3 w3 with ⟨stop, qn⟩ | ⟨go, hlt, N, hN, step⟩
    · refine thn (T.done Y rfl rfl rfl hc i _ s3 σ3 H3 _ I3' (fpY' fr3) st3 stop) fun r s4 ⟨hr, I4⟩ => ?_
      subst hr
      have e4 := (I4.pin (D, { cls := .type "list", data := .seq its nd }) (List.mem_append_right _ List.mem_cons_self)).1
      have IX : Inv X pins σ H3 s4 := I.call' (ch := fp) I4.os I4.base I4.hok I4.bare fun b hb => by
        obtain ⟨_, a2, _, a4, a5, a6⟩ := hfp b hb
        exact ⟨a4, a2, a5, a6⟩
      have IA := IX.adopt (o := .lst acc) hD3 hDs (Nat.ne_of_gt hDl) (fun x c e => Nat.ne_of_lt (hcD x c e)) (fun p hp => Nat.ne_of_lt (hpD p hp)) ⟨hl3, its.toList, nd, rv3, e4⟩
      obtain ⟨m, nsC, _⟩ := I4.loc
      refine fin D C m s4 _ IA (qn D hD3) nsC (by rw [upd_ne cD]; exact I4.free) ?_ ?_ ?_ ?_
      · exact Nat.ne_of_gt (Nat.lt_of_lt_of_le hDl hCle)
      · exact Nat.le_trans hDs hCle
      · exact fun x c e => Nat.ne_of_lt (Nat.lt_of_lt_of_le (hcD x c e) hCle)
      · exact fun p hp => Nat.ne_of_lt (Nat.lt_of_lt_of_le (hpD p hp) hCle)
    · refine thn (T.item Y rfl rfl rfl hc i _ s3 σ3 H3 _ I3' (fpY' fr3) st3 go) fun r s4 ⟨u, hr, h4⟩ => ?_
      subst hr
      refine thn h4 fun _ s5 ⟨x, H5, I5, r5, y5, st5, fr5⟩ => ?_
      have I5' := I5.pinned (fpY' fr5) (T.obj _ _ st5)
      refine thn (hg cl C s H fp _ s5 σ3 H5 x u _ I5' r5 (step x H5 y5)) fun _ s6 ⟨σ6, H6, I6, q6⟩ => ?_
      refine thn (ht cl C s H fp _ s6 σ6 H6 _ I6 q6) fun b s7 ⟨H7, I7, q7⟩ => ?_
      have back : ∀ {σ' : St} {H' : Hp} {s' : Shared}, Inv Y ([(D, { cls := .type "list", data := .seq its nd })] ++ pinsAt fp s5.heap) σ' H' s' →
          s'.heap.get? D = some { cls := .type "list", data := .seq its nd } ∧ H' D = none ∧ tn (i + 1) s'.heap ∧ ∀ b ∈ fp, H' b = none := fun {σ' H' s'} J7 => by
        have hd := J7.pin (D, { cls := .type "list", data := .seq its nd }) (List.mem_append_right _ (List.mem_append_left _ List.mem_cons_self))
        refine ⟨hd.1, hd.2.1, T.keep _ _ _ st5 fun b hb o e => (J7.pin (b, o) (List.mem_append_right _ (List.mem_append_right _ (mem_pinsAt hb e)))).1, fun b hb => ?_⟩
        obtain ⟨o, e, d⟩ := T.obj _ _ st5 b hb
        exact (J7.pin (b, o) (List.mem_append_right _ (List.mem_append_right _ (mem_pinsAt hb e)))).2.1
      cases b with
      | false =>
        rw [if_neg Bool.false_ne_true]
        rw [if_neg Bool.false_ne_true] at q7
        obtain ⟨m', hm, w7⟩ := hN _ _ _ q7
        obtain ⟨b1, b2, b3, b4⟩ := back I7
        exact ⟨m', hm, i + 1, acc, its, σ6, H7, I7.pins_of (fun p hp => nomatch hp), b3, b4, ⟨nd, b1⟩, b2, rv3, hl3, w7⟩
      | true =>
        rw [if_pos rfl]
        rw [if_pos rfl] at q7
        refine thn (he cl C s H fp _ s7 σ6 H7 _ I7 q7) fun u8 s8 ⟨y, H8, I8, r8, n8⟩ => ?_
        obtain ⟨m', hm, w8⟩ := hN _ _ _ n8
        obtain ⟨b1, b2, b3, b4⟩ := back I8
        have hsz : its.size ≤ sizeLine := by
          have h1 := rv3.length
          have h2 : its.toList.length = its.size := by simp
          omega
        refine wpAny_list_append_plain (hsz := hsz) ⟨nd, b1⟩ fun h' pl' sb' => ?_
        have I8' : Inv Y [] σ6 H8 s8 := I8.pins_of (fun p hp => nomatch hp)
        refine ⟨m', hm, i + 1, acc ++ [y], its.push u8, σ6, H8, I8'.turned (t' := s8.toks) (fun b o hb e => (sb'.2 b hb).trans e) b2 hDC (.inr (by show s.heap.objs.size ≤ D; rw [hDe]; exact Nat.le_refl _)) (fun x c e => Nat.ne_of_lt (hcD x c (hcl x c e))) (fun p hp => absurd (show p ∈ ([] : List (Addr × Obj)) from hp) (by simp)), ?_, b4, pl', b2, ?_, ?_, w8⟩
        · exact T.keep _ _ _ b3 fun b hb o e => (sb'.2 b (fpD b hb)).trans e
        · rw [Array.toList_push]
          exact rv3.append (.cons r8 .nil)
        · rw [List.length_append, List.length_singleton]
          omega
  exact codeAny_compStart_list (loop _ rfl) (T.self _ _ _ _ _ st₁ (loop _ rfl))
theorem pe_lc {tg iter elt : Expr} {ifs : List Expr} {scope : Scope} {pos : Pos} {wi : TI} {g : TG} {tt : TT} {te : TE} {Nt Nf : List Str} {caps : List Nat} (hc : X.calm = true) (S : CompOk X scope Nt Nf caps) (hi : PI X tg iter wi)
    (hg : ∀ cl C s0 H0 ex, PG (cxC X (Nt ++ Nf) scope cl C s0 H0 ex) tg g)
    (ht : ∀ cl C s0 H0 ex, PTs (cxC X (Nt ++ Nf) scope cl C s0 H0 ex) ifs tt)
    (he : ∀ cl C s0 H0 ex, PE (cxC X (Nt ++ Nf) scope cl C s0 H0 ex) elt te)
    (hs : ∀ x, foldedSetIterable iter X.env x = pure x := by intro _; rfl) : PE X (.ListComp elt [⟨tg, iter, ifs, 0⟩] scope pos) (tLC wi g tt te Nt.length caps) := by
  intro pins s σ H Q I h
  obtain ⟨cl, hclos, hcl, hcf⟩ := closure_ok I.ok.has S.fr
  rw [eval_ListComp]
  refine wpAny_comprehension_free (use := none) rfl hs hclos S.kind S.nm (thn (hi pins s σ H _ I h) fun v s1 h1 => thn h1 fun itv s2 h2 => ?_)
  obtain ⟨it, fp, tn, J, H2, e, I2, T, st2, f2, hW⟩ := h2
  subst e
  refine comp_block (RR := fun acc C => compPost (model X.prog X.w) X.A X.xe none (EP X pins σ Q) acc C) (Q := Q) hc S hg ht he hcl hcf I2 T st2 f2 hW ?_
  intro D C m s' H' I' q nsC hCn hCl hCs hCc hCp
  exact ⟨m, nsC, fun h' sb => ⟨.ref D, H', I'.turned (t' := s'.toks) (fun b o hb e => (sb.2 b hb).trans e) hCn hCl (.inr hCs) hCc hCp, rfl, q⟩⟩
theorem ps_lc {tg iter elt : Expr} {ifs : List Expr} {scope : Scope} {pos spos py : Pos} {y : Str} {i : Nat} {wi : TI} {g : TG} {tt : TT} {te : TE} {Nt Nf : List Str} {caps : List Nat} (hc : X.calm = true) (S : CompOk X scope Nt Nf caps) (hi : PI X tg iter wi)
    (hg : ∀ cl C s0 H0 ex, PG (cxC X (Nt ++ Nf) scope cl C s0 H0 ex) tg g)
    (ht : ∀ cl C s0 H0 ex, PTs (cxC X (Nt ++ Nf) scope cl C s0 H0 ex) ifs tt)
    (he : ∀ cl C s0 H0 ex, PE (cxC X (Nt ++ Nf) scope cl C s0 H0 ex) elt te)
    (hN : X.N.Nodup) (hy : X.N[i]? = some y) (hx : Loc X.env.scope y)
    (hsw : swapsWith (.ListComp elt [⟨tg, iter, ifs, 0⟩] scope pos) (some (.Name y py)) spos.line X.env = pure true)
    (hf : X.fn y = true ∨ X.env.scope.names.lookup y = some .local := by first | exact .inl rfl | exact .inr rfl | assumption)
    (hs : ∀ x, foldedSetIterable iter X.env x = pure x := by intro _; rfl) : PS X (.Assign [.Name y py] (.ListComp elt [⟨tg, iter, ifs, 0⟩] scope pos) spos) (tAsg (tLC wi g tt te Nt.length caps) (gName i)) := by
  intro pins s σ H D I h
  obtain ⟨cl, hclos, hcl, hcf⟩ := closure_ok I.ok.has S.fr
  rw [exec_Assign_Name_used _ _ _ _ hsw]
  refine wpAny_bind (wpAny_standAt (wpAny_bind ?_))
  show wpAny _ X.A (do let _ ← comprehension (.ListComp elt [⟨tg, iter, ifs, 0⟩] scope pos) scope X.env _ (newList []) false (eval iter X.env) (some (assign (.Name y py) X.env))) _ _ s
  refine wpAny_bind (wpAny_mono (wpAny_comprehension_free (use := some (assign (.Name y py) X.env)) (Q := fun _ s' => SP X pins D .next s') rfl hs hclos S.kind S.nm
    (thn (hi pins s σ H _ I h) fun v s1 h1 => thn h1 fun itv s2 h2 => ?_)) (fun _ s' hq => wpAny_pure (wpAny_pure hq)) fun _ _ e => e)
  obtain ⟨it, fp, tn, J, H2, e, I2, T, st2, f2, hW⟩ := h2
  subst e
  refine comp_block (RR := fun acc C => compPost (model X.prog X.w) X.A X.xe (some (assign (.Name y py) X.env)) (fun _ s' => SP X pins D .next s') acc C) (Q := fun x H1 => gName i x σ H1 D.nx) hc S hg ht he hcl hcf I2 T st2 f2 hW ?_
  intro l C m s' H' I' q nsC hCn hCl hCs hCc hCp
  show wpAny _ X.A (assign (.Name y py) X.env (.ref l)) _ _ _
  refine wpAny_assign_Name (store_ok2 (v := .ref l) I' hN hy hx rfl (fun s'' I'' ⟨a, sb, ha⟩ => ?_) hf)
  have haC : C ≠ a := by
    rcases ha with z | z
    · rw [z]; exact hCl
    · exact fun e => hCc y a z e.symm
  refine ⟨m, nsC.sameBut sb haC, fun h' sb' => ⟨_, H', I''.turned (t' := s''.toks) (fun b o hb e => (sb'.2 b hb).trans e) hCn hCl (.inr hCs) hCc hCp, q⟩⟩
end
end L2
namespace L2
open PySem PySem.Spec PyProof.Rows
def Its (z : Str) : It := ⟨fun i _ => i < z.cps.size, fun i H x H' => H' = H ∧ ∃ c, z.cps[i]? = some c ∧ x = .str ⟨#[c]⟩, fun i _ => z.cps.size ≤ i⟩
section
variable {X : Cx} {tg : Expr}
def iStr (tl : TE) : TI := fun σ H R => tl σ H fun x H1 => ∃ z, x = .str z ∧ R (Its z) H1
theorem PI.or {it : Expr} {wi wj : TI} (h1 : PI X tg it wi) (h2 : PI X tg it wj) : PI X tg it (fun σ H R => wi σ H R ∨ wj σ H R) := by
  intro pins s σ H R I h
  rcases h with h | h
  · exact h1 pins s σ H R I h
  · exact h2 pins s σ H R I h
end
section
variable {X : Cx}
def strsV (ys : List Str) : List V := ys.map V.str
theorem strsAre_of : ∀ {ys : List Str} {us : List Value}, Vals (strsV ys) us → StrsAre us ys
  | [], _, r => by cases r; exact .nil
  | y :: ys, _, r => by
    cases r with
    | cons r1 r2 =>
      obtain ⟨t, rfl⟩ := r1
      exact .cons _ _ (strsAre_of r2)
def rJoin (K : PySem.W.Frag) : V → List V → Hp → VK → Prop := fun x vs H Q => ∃ z l ys, x = .str z ∧ vs = [.ref l] ∧ SqL K H l (strsV ys) ∧ (ys.map (·.length)).sum + ys.length * z.length ≤ 16777216 ∧ Q (.str (Txt.join z ys)) H
theorem mt_join : MtR X "str.join" (rJoin X.K) := by
  intro pins s σ H x vs v us Q I rx rv h
  obtain ⟨z, l, ys, rfl, rfl, hq, hz, q⟩ := h
  obtain ⟨t, rfl⟩ := rx
  obtain ⟨u, rfl, ru⟩ := rv.one
  cases ru
  obtain ⟨its, r, pl, _⟩ := I.list hq
  exact join_list pl.isList (by simpa using strsAre_of r) hz fun t' k => ⟨.str _, H, I.tok _, ⟨_, rfl⟩, q⟩
def rFind : V → List V → Hp → VK → Prop := fun x vs H Q => ∃ z y, x = .str z ∧ vs = [.str y] ∧ Q (.int (Txt.find z y)) H
def rUpper : V → List V → Hp → VK → Prop := fun x vs H Q => ∃ z, x = .str z ∧ vs = [] ∧ Builtin.Str.tooLong (Txt.upper z).length = false ∧ Q (.str (Txt.upper z)) H
def CBig (i j : Int) : Prop := (i.natAbs < 2 ^ 4096 ∧ j.natAbs < 2 ^ 4096) ∨ CMul i j
theorem bits_le {i : Int} {n : Nat} (h : i.natAbs < 2 ^ n) : Builtin.Int.intBits i ≤ n := by
  unfold Builtin.Int.intBits
  split
  · exact Nat.zero_le _
  · rename_i h0
    have h1 : i.natAbs ≠ 0 := by simpa using h0
    have := (Nat.log2_lt h1).mpr h
    omega
theorem CBig.ok {i j : Int} (h : CBig i j) : IntMulOk i j := by
  rcases h with ⟨h1, h2⟩ | h
  · exact IntMulOk.of_bits (Nat.le_trans (bits_le h1) (by decide)) (Nat.le_trans (bits_le h2) (by decide))
  · exact h.ok
theorem op_big : OpR X (binaryOp .Mult) (rI CBig fun i j => .int (i * j)) := opI fun _ _ _ _ _ _ _ hc q => mul_int q hc.ok
theorem call_str_str : CallR X (.type "str") (fun xs H Q => ∃ z, xs = [.str z] ∧ Q (.str z) H) := by
  intro pins s σ H xs us Q I r h
  obtain ⟨z, rfl, q⟩ := h
  obtain ⟨u, rfl, t, rfl⟩ := vals1 r
  exact PySem.P.str_of_str ⟨.str _, H, I, ⟨_, rfl⟩, q⟩
theorem call_isi : CallR X (.builtin "isinstance") (fun xs H Q => ∃ x n t b, xs = [x, .ty n] ∧ TyOf X.K H x t ∧ PySem.W.kitOne X.K t (.type n) = some b ∧ Q (.bl b) H) := by
  intro pins s σ H xs us Q I r h
  obtain ⟨x, n, t, b, rfl, ty, e, q⟩ := h
  obtain ⟨u, w', rfl, rx, ry⟩ := vals2 r
  cases (show w' = Value.type n from ry)
  exact isinst_ok I rx ty e fun tk => ⟨.bl b, H, I.tok _, rfl, q⟩
def blsV (bs : List Bool) : List V := bs.map V.bl
def rEqS (K : PySem.W.Frag) (neg : Bool) : R2 := fun x y H Q => ∃ l b ys zs, x = .ref l ∧ y = .ref b ∧ SqL K H l (strsV ys) ∧ SqL K H b (strsV zs) ∧ Q (.bl (if neg then !decide (ys = zs) else decide (ys = zs))) H
end
section
variable {X : Cx} {e : Expr} {te : TE} {pos : Pos}
def tFmt (te : TE) : TE := fun σ H Q => te σ H fun x H1 => (∃ z, x = .str z ∧ z.length ≤ sizeLine ∧ Q (.str z) H1) ∨ ∃ i : Int, x = .int i ∧ i.natAbs.log2 < 1920 ∧ Q (.str (toString i)) H1
theorem pe_fmt (he : PE X e te) : PE X (.FormattedValue e (-1) none pos) (tFmt te) := by
  intro pins s σ H Q I h
  refine wpAny_FormattedValue_plain (thn (he pins s σ H _ I h) fun v s1 ⟨x, H1, I1, r1, q1⟩ => ?_)
  rcases q1 with ⟨z, rfl, hz, q⟩ | ⟨i, rfl, hi, q⟩
  · obtain ⟨t, rfl⟩ := r1
    exact wpAny_formatField_str ⟨.str z, H1, I1, ⟨_, rfl⟩, q⟩ ⟨.str z, H1, I1.tok _, ⟨_, rfl⟩, q⟩ hz
  · obtain ⟨t, rfl⟩ := r1
    exact wpAny_formatField_int hi ⟨.str _, H1, I1.tok _, ⟨_, rfl⟩, q⟩
inductive PEs (X : Cx) : List Expr → List TE → Prop
  | nil : PEs X [] []
  | cons {e es t ts} : PE X e t → PEs X es ts → PEs X (e :: es) (t :: ts)
def tJoin : List TE → Str → TE
  | [], out => fun _ H Q => out.length ≤ sizeLine ∧ Q (.str out) H
  | t :: r, out => fun σ H Q => t σ H fun x H1 => ∃ y, x = .str y ∧ (out ++ y).length ≤ sizeLine ∧ tJoin r (out ++ y) σ H1 Q
theorem joinParts_ok : ∀ {es : List Expr} {ts : List TE}, PEs X es ts → ∀ (out : Str) (pins : List (Addr × Obj)) (s : Shared) (σ : St) (H : Hp) (Q : VK), Inv X pins σ H s → tJoin ts out σ H Q →
    wpAny (model X.prog X.w) X.A (joinParts out (evalEach es X.env)) (EP X pins σ Q) X.xe s := by
  intro es ts P
  induction P with
  | nil =>
    intro out pins s σ H Q I h
    exact joinParts_nil ⟨.str out, H, I.tok _, ⟨_, rfl⟩, h.2⟩ h.1
  | cons p _ ih =>
    intro out pins s σ H Q I h
    refine joinParts_cons (thn (p pins s σ H _ I h) fun v s1 ⟨x, H1, I1, r1, y, e, hz, q⟩ => ?_)
    subst e
    obtain ⟨t, rfl⟩ := r1
    exact ⟨hz, ih _ pins s1 σ H1 Q I1 q⟩
theorem pe_fstr {a b : Expr} {rest : List Expr} {ts : List TE} (h : PEs X (a :: b :: rest) ts) : PE X (.JoinedStr (a :: b :: rest) pos) (tJoin ts Str.empty) := by
  intro pins s σ H Q I hq
  exact JoinedStr_many (joinParts_ok h Str.empty pins s σ H Q I hq)
end
end L2
namespace L2
open PySem PySem.Spec PyProof.Rows
abbrev New (H : Hp) (o : HO) (Q : VK) : Prop := ∀ p H', H p = none → Same H H' → H' p = some o → Q (.ref p) H'
theorem Same.new {H : Hp} {p : Addr} {o : HO} (h : H p = none) : Same H (upd H p o) := fun b u e => by rw [upd_ne (ne_of_none e h)]; exact e
theorem New.to {H : Hp} {Q : VK} {o : HO} (h : New H o Q) : ∀ p, H p = none → Q (.ref p) (upd H p o) := fun p hp => h p _ hp (Same.new hp) upd_same
section
variable {X : Cx} {es : List Expr} {t : TA} {pos : Pos}
def tLstN (t : TA) : TE := fun σ H Q => t σ H fun xs H1 => xs.length ≤ sizeLine ∧ New H1 (.lst xs) Q
def tTupN (t : TA) : TE := fun σ H Q => t σ H fun xs H1 => xs.length ≤ sizeLine ∧ New H1 (.tup xs) Q
theorem pe_tupN {x1} (h : PA X es t) : PE X (.Tuple es x1 pos) (tTupN t) := by
  intro pins s σ H Q I hq
  refine wpAny_Tuple_spliced (thn (h pos pins s σ H _ I hq) fun us s1 ⟨xs, H1, I1, r, z, q⟩ => ⟨by rw [← r.length]; exact z, ?_⟩)
  refine ⟨.ref s1.heap.objs.size, upd H1 s1.heap.objs.size (.tup xs), I1.laid (t' := s1.toks) (fun b u e => Heap.get?_push_of_some _ e) (Nat.le_refl _) ?_, rfl, New.to q _ (I1.hok.fresh (Nat.le_refl _))⟩
  exact ⟨z, us, r, ⟨_, Heap.get?_push_size _ rfl, rfl, _, rfl⟩⟩
theorem pe_lstN (h : PA X es t) : PE X (.List es pos) (tLstN t) := by
  intro pins s σ H Q I hq
  refine wpAny_List_spliced (thn (h pos pins s σ H _ I hq) fun us s1 ⟨xs, H1, I1, r, z, q⟩ => ⟨by rw [← r.length]; exact z, ?_⟩)
  refine ⟨.ref s1.heap.objs.size, upd H1 s1.heap.objs.size (.lst xs), I1.laid (t' := s1.toks) (fun b u e => Heap.get?_push_of_some _ e) (Nat.le_refl _) ?_, rfl, New.to q _ (I1.hok.fresh (Nat.le_refl _))⟩
  exact ⟨z, us, 0, r, Heap.get?_push_size _ rfl⟩
def rSlN (K : PySem.W.Frag) : V → Option Int → Option Int → Hp → VK → Prop := fun x lo hi H Q => ∃ a xs, x = .ref a ∧ SqL K H a xs ∧ New H (.lst (cutV xs lo hi)) Q
theorem sl_listN : SlR X (rSlN X.K) := by
  intro pins s σ H x v vl vu lo hi sl Q I rx hs pl pu h
  obtain ⟨a, xs, e, h1, h2⟩ := h
  exact sl_list pins s σ H x v vl vu lo hi sl Q I rx hs pl pu ⟨a, xs, e, h1, New.to h2⟩
end
def rIsi (K : PySem.W.Frag) : List V → Hp → VK → Prop := fun xs H Q => ∃ x n t b, xs = [x, .ty n] ∧ TyOf K H x t ∧ PySem.W.kitOne K t (.type n) = some b ∧ Q (.bl b) H
def tTru (K : PySem.W.Frag) (ta : TE) : TT := fun σ H Q => ta σ H fun x H' => ∃ k, TruV K x H' k ∧ Q k H'
def rLen (K : PySem.W.Frag) : List V → Hp → VK → Prop := fun xs H Q => ∃ x n, xs = [x] ∧ LenV K x H n ∧ Q (.int n) H
def rToInt : List V → Hp → VK → Prop := fun xs H Q => (∃ i, xs = [.int i] ∧ Q (.int i) H) ∨ ∃ k, xs = [.bl k] ∧ Q (.int (if k then 1 else 0)) H
def rIsB : R2 := fun x y H Q => ∃ a b, x = .bl a ∧ y = .bl b ∧ Q (.bl (a == b)) H
def rAll (K : PySem.W.Frag) : List V → Hp → VK → Prop := fun xs H Q => ∃ l bs, xs = [.ref l] ∧ SqL K H l (blsV bs) ∧ Q (.bl (bs.all id)) H
def rInS : R2 := fun x y H Q => ∃ i j, x = .str i ∧ y = .str j ∧ Q (.bl (!(Builtin.Str.occurrences j i 0 j.length 1).isEmpty)) H
def rListN (K : PySem.W.Frag) : List V → Hp → VK → Prop := fun xs H Q => ∃ p ys, xs = [.ref p] ∧ (SqL K H p ys ∨ SqT K H p ys) ∧ New H (.lst ys) Q
def rTupleN (K : PySem.W.Frag) : List V → Hp → VK → Prop := fun xs H Q => ∃ p ys, xs = [.ref p] ∧ SqL K H p ys ∧ New H (.tup ys) Q
section
variable {X : Cx} {a : Expr} {ta : TE}
theorem cl_isi : CallR X (.builtin "isinstance") (rIsi X.K) := call_isi
theorem pt_tru (ha : PE X a ta) (he : ∀ whole, isTrue a X.env whole = (do let v ← whole; standAt a.pos; holding [v] (truthy v))) : PT X a (tTru X.K ta) := pt_truth ha he
theorem cl_len : CallR X (.builtin "len") (rLen X.K) := call_len
end
def rPlus : R2 := fun x y H Q => match x, y with
  | .int i, .int j => Q (.int (i + j)) H
  | .str i, .str j => i.length + j.length ≤ sizeLine ∧ Q (.str (i ++ j)) H
  | .ref l, .ref b => ∃ xs zs, H l = some (.lst xs) ∧ H b = some (.lst zs) ∧ xs.length + zs.length ≤ sizeLine ∧ New H (.lst (xs ++ zs)) Q
  | _, _ => False
def rTimes : R2 := fun x y H Q => match x, y with
  | .int i, .int j => CBig i j ∧ Q (.int (i * j)) H
  | .str z, .int n => MulOk z n ∧ Q (.str (Txt.mul z n)) H
  | _, _ => False
def rStr : List V → Hp → VK → Prop := fun xs H Q => match xs with
  | [.int i] => i.natAbs.log2 < 1920 ∧ Q (.str (toString i)) H
  | [.str z] => Q (.str z) H
  | _ => False
section
variable {X : Cx}
theorem op_plus : OpR X (binaryOp .Add) rPlus := by
  intro pins s σ H x y v u Q I rx ry h
  cases x with
  | int i => cases y with
    | int j => exact op_add pins s σ H _ _ v u Q I rx ry ⟨i, j, rfl, rfl, h⟩
    | _ => exact (show False from h).elim
  | str i => cases y with
    | str j => exact op_add_str pins s σ H _ _ v u Q I rx ry ⟨i, j, rfl, rfl, h⟩
    | _ => exact (show False from h).elim
  | ref l => cases y with
    | ref b =>
      obtain ⟨xs, zs, h1, h2, h3, h4⟩ := h
      exact op_cat pins s σ H _ _ v u Q I rx ry ⟨l, b, xs, zs, rfl, rfl, h1, h2, h3, New.to h4⟩
    | _ => exact (show False from h).elim
  | _ => exact (show False from h).elim
theorem op_times : OpR X (binaryOp .Mult) rTimes := by
  intro pins s σ H x y v u Q I rx ry h
  cases x with
  | int i => cases y with
    | int j => exact op_big pins s σ H _ _ v u Q I rx ry ⟨i, j, rfl, rfl, h⟩
    | _ => exact (show False from h).elim
  | str z => cases y with
    | int n =>
      obtain ⟨t, rfl⟩ := rx
      obtain ⟨t', rfl⟩ := ry
      exact SB.mul h.1 fun t2 k => ⟨.str _, H, I.tok _, ⟨_, rfl⟩, h.2⟩
    | _ => exact (show False from h).elim
  | _ => exact (show False from h).elim
theorem call_str : CallR X (.type "str") rStr := by
  intro pins s σ H xs us Q I r h
  match xs, h with
  | [.int i], h => exact call_str_int pins s σ H _ us Q I r ⟨i, rfl, h⟩
  | [.str z], h => exact call_str_str pins s σ H _ us Q I r ⟨z, rfl, h⟩
theorem comp_ok {scope sc : Scope} {Nt Nf : List Str} {caps : List Nat} (hsc : X.env.scope = sc) (kind : scope.kind = .function) (nc : ∀ y ∈ scope.names, y.2 ≠ .cell) (nm : ∀ y ∈ scope.names, y.2 = .local → scope.names.lookup y.1 = some .local)
    (fr : ∀ y ∈ scope.names, y.2 = .free → sc.names.lookup y.1 = some .cell ∨ sc.names.lookup y.1 = some .free) (cap : caps.map (fun j => X.N[j]?) = Nf.map some) (vis : ∀ x ∈ Nf, scope.names.lookup x = some .free) : CompOk X scope Nt Nf caps :=
  ⟨kind, nc, nm, fun y hy h => by show X.env.scope.names.lookup y.1 = _ ∨ X.env.scope.names.lookup y.1 = _; rw [hsc]; exact fr y hy h, cap, vis⟩
abbrev LcEnd (J : It) (te : TE) (tt : TT) (caps : List Nat) (σ : St) (H : Hp) (Q : VK) : Prop := ∃ W : Nat → Nat → List V → St → Hp → Prop, (∃ m, W 0 m [] (cSt 1 caps σ) H) ∧ ∀ i m acc σ' H', W i m acc σ' H' →
  (J.stop i H' ∧ ∀ l, H' l = none → Q (.ref l) (upd H' l (.lst acc))) ∨
  (J.go i H' ∧ acc.length < sizeLine ∧ ∃ N : List V → St → Hp → Prop, (∀ ac σ2 H2, N ac σ2 H2 → ∃ m', m' < m ∧ W (i + 1) m' ac σ2 H2) ∧ ∀ x H2, J.yld i H' x H2 → gName 0 x σ' H2 fun σ3 H3 => tt σ3 H3 fun b H4 => if b = true then te σ3 H4 fun y H5 => N (acc ++ [y]) σ3 H5 else N acc σ3 H4)
theorem lc_any {J : It} {te : TE} {tt : TT} {caps : List Nat} {σ : St} {H : Hp} {Q : VK} (n : Nat) (hz : n ≤ sizeLine) (Pv : Nat → List V → Hp → Prop) (h0 : Pv 0 [] H) (hl : ∀ i acc H, Pv i acc H → acc.length ≤ i)
    (hgo : ∀ i acc H, i < n → Pv i acc H → J.go i H) (hst : ∀ acc H, Pv n acc H → J.stop n H)
    (hs : ∀ i x acc H H2, i < n → Pv i acc H → J.yld i H x H2 → tt (some x :: capV caps σ) H2 fun b H4 => if b = true then te (some x :: capV caps σ) H4 fun y H5 => Pv (i + 1) (acc ++ [y]) H5 else Pv (i + 1) acc H4)
    (hd : ∀ acc H, Pv n acc H → New H (.lst acc) Q) : LcEnd J te tt caps σ H Q := by
  refine ⟨fun i m acc σ' H => m = n - i ∧ i ≤ n ∧ (∃ v, σ' = v :: capV caps σ) ∧ Pv i acc H, ⟨n, by simp, Nat.zero_le _, ⟨none, rfl⟩, h0⟩, ?_⟩
  rintro i m acc σ' H' ⟨rfl, hi, ⟨v, rfl⟩, p⟩
  by_cases hlt : i < n
  · refine .inr ⟨hgo i acc H' hlt p, ?_, fun ac σ2 H2 => (∃ v, σ2 = v :: capV caps σ) ∧ Pv (i + 1) ac H2, fun ac σ2 H2 ⟨e, p'⟩ => ⟨n - (i + 1), by omega, rfl, hlt, e, p'⟩, fun x H2 y => ?_⟩
    · have := hl i acc H' p
      omega
    · have eN : ∀ ac H5, ((∃ u, some x :: capV caps σ = u :: capV caps σ) ∧ Pv (i + 1) ac H5) = Pv (i + 1) ac H5 := fun ac H5 => propext ⟨And.right, fun p => ⟨⟨_, rfl⟩, p⟩⟩
      show tt (some x :: capV caps σ) H2 fun b H4 => if b = true then te (some x :: capV caps σ) H4 fun y H5 => ((∃ u, some x :: capV caps σ = u :: capV caps σ) ∧ Pv (i + 1) (acc ++ [y]) H5) else ((∃ u, some x :: capV caps σ = u :: capV caps σ) ∧ Pv (i + 1) acc H4)
      simp only [eN]
      exact hs i x acc H' H2 hlt p y
  · have e : i = n := by omega
    subst e
    exact .inl ⟨hst acc H' p, New.to (hd acc H' p)⟩
theorem lc_list {K : PySem.W.Frag} {a : Addr} {xs : List V} {te : TE} {tt : TT} {caps : List Nat} {σ : St} {H : Hp} {Q : VK} (hz : xs.length ≤ sizeLine) (Pv : Nat → List V → Hp → Prop) (h0 : Pv 0 [] H) (hl : ∀ i acc H, Pv i acc H → acc.length ≤ i ∧ SqL K H a xs)
    (hs : ∀ i x acc H, xs[i]? = some x → Pv i acc H → tt (some x :: capV caps σ) H fun b H4 => if b = true then te (some x :: capV caps σ) H4 fun y H5 => Pv (i + 1) (acc ++ [y]) H5 else Pv (i + 1) acc H4)
    (hd : ∀ acc H, Pv xs.length acc H → New H (.lst acc) Q) : LcEnd (Itl K a) te tt caps σ H Q := by
  refine lc_any xs.length hz Pv h0 (fun i acc H p => (hl i acc H p).1) (fun i acc H hi p => ⟨xs, xs[i], (hl i acc H p).2, by simp [hi]⟩) (fun acc H p => ⟨xs, (hl _ acc H p).2, Nat.le_refl _⟩) ?_ hd
  rintro i x acc H1 H2 hi p ⟨rfl, y⟩
  exact hs i x acc _ (y xs (hl i acc _ p).2) p
theorem lc_tup {K : PySem.W.Frag} {a : Addr} {xs : List V} {te : TE} {tt : TT} {caps : List Nat} {σ : St} {H : Hp} {Q : VK} (hz : xs.length ≤ sizeLine) (Pv : Nat → List V → Hp → Prop) (h0 : Pv 0 [] H) (hl : ∀ i acc H, Pv i acc H → acc.length ≤ i ∧ SqT K H a xs)
    (hs : ∀ i x acc H, xs[i]? = some x → Pv i acc H → tt (some x :: capV caps σ) H fun b H4 => if b = true then te (some x :: capV caps σ) H4 fun y H5 => Pv (i + 1) (acc ++ [y]) H5 else Pv (i + 1) acc H4)
    (hd : ∀ acc H, Pv xs.length acc H → New H (.lst acc) Q) : LcEnd (Itt K a) te tt caps σ H Q := by
  refine lc_any xs.length hz Pv h0 (fun i acc H p => (hl i acc H p).1) (fun i acc H hi p => ⟨xs, xs[i], (hl i acc H p).2, by simp [hi]⟩) (fun acc H p => ⟨xs, (hl _ acc H p).2, Nat.le_refl _⟩) ?_ hd
  rintro i x acc H1 H2 hi p ⟨rfl, y⟩
  exact hs i x acc _ (y xs (hl i acc _ p).2) p
theorem lc_range {lo : Int} {n : Nat} {te : TE} {tt : TT} {caps : List Nat} {σ : St} {H : Hp} {Q : VK} (hz : n ≤ sizeLine) (Pv : Nat → List V → Hp → Prop) (h0 : Pv 0 [] H) (hl : ∀ i acc H, Pv i acc H → acc.length ≤ i)
    (hs : ∀ i acc H, i < n → Pv i acc H → tt (some (.int (lo + i)) :: capV caps σ) H fun b H4 => if b = true then te (some (.int (lo + i)) :: capV caps σ) H4 fun y H5 => Pv (i + 1) (acc ++ [y]) H5 else Pv (i + 1) acc H4)
    (hd : ∀ acc H, Pv n acc H → New H (.lst acc) Q) : LcEnd (Itr lo n) te tt caps σ H Q := by
  refine lc_any n hz Pv h0 hl (fun i acc H hi p => hi) (fun acc H p => Nat.le_refl _) ?_ hd
  rintro i x acc H1 H2 hi p ⟨rfl, rfl⟩
  exact hs i acc _ hi p
end
end L2
namespace L2
open PySem
theorem ex_self_and {α : Sort _} {a : α} {p : α → Prop} : (∃ x, x = a ∧ p x) ↔ p a := ⟨fun ⟨_, e, h⟩ => e ▸ h, fun h => ⟨a, rfl, h⟩⟩
theorem ex_some_and {α : Type} {a : α} {p : α → Prop} : (∃ v, some (some a) = some (some v) ∧ p v) ↔ p a := ⟨fun ⟨_, e, h⟩ => by cases e; exact h, fun h => ⟨a, rfl, h⟩⟩
theorem ex_int {i : Int} {p : Int → Prop} : (∃ j, V.int i = V.int j ∧ p j) ↔ p i := ⟨fun ⟨_, e, h⟩ => by cases e; exact h, fun h => ⟨i, rfl, h⟩⟩
theorem ex_str {i : Str} {p : Str → Prop} : (∃ j, V.str i = V.str j ∧ p j) ↔ p i := ⟨fun ⟨_, e, h⟩ => by cases e; exact h, fun h => ⟨i, rfl, h⟩⟩
theorem ex_bl {i : Bool} {p : Bool → Prop} : (∃ j, V.bl i = V.bl j ∧ p j) ↔ p i := ⟨fun ⟨_, e, h⟩ => by cases e; exact h, fun h => ⟨i, rfl, h⟩⟩
theorem ex_ref {i : Addr} {p : Addr → Prop} : (∃ j, V.ref i = V.ref j ∧ p j) ↔ p i := ⟨fun ⟨_, e, h⟩ => by cases e; exact h, fun h => ⟨i, rfl, h⟩⟩
def ForEnd (J : It) (g : TG) (tb : TS) (D : Ends) (σ : St) (H1 : Hp) : Prop := ∃ W : Nat → Nat → St → Hp → Prop, (∃ m, W 0 m σ H1) ∧ ∀ i m σ H, W i m σ H →
  (J.stop i H ∧ D.nx σ H) ∨ (J.go i H ∧ ∃ N : St → Hp → Prop, (∀ σ' H', N σ' H' → ∃ m', m' < m ∧ W (i + 1) m' σ' H') ∧ ∀ x H', J.yld i H x H' → g x σ H' fun σ2 H2 => tb { D with nx := N, ct := N, bk := D.nx } σ2 H2)
theorem tFor_def (wi : TI) (g : TG) (tb : TS) (D : Ends) (σ : St) (H : Hp) : tFor wi g tb D σ H = wi σ H fun J H1 => ForEnd J g tb D σ H1 := rfl
def CompEnd (J : It) (g : TG) (tt : TT) (te : TE) (n : Nat) (caps : List Nat) (σ : St) (H : Hp) (Q : VK) : Prop := ∃ W : Nat → Nat → List V → St → Hp → Prop, (∃ m, W 0 m [] (cSt n caps σ) H) ∧ ∀ i m acc σ' H', W i m acc σ' H' →
  (J.stop i H' ∧ ∀ l, H' l = none → Q (.ref l) (upd H' l (.lst acc))) ∨
  (J.go i H' ∧ acc.length < sizeLine ∧ ∃ N : List V → St → Hp → Prop, (∀ ac σ2 H2, N ac σ2 H2 → ∃ m', m' < m ∧ W (i + 1) m' ac σ2 H2) ∧ ∀ x H2, J.yld i H' x H2 → g x σ' H2 fun σ3 H3 => tt σ3 H3 fun b H4 => if b = true then te σ3 H4 fun y H5 => N (acc ++ [y]) σ3 H5 else N acc σ3 H4)
theorem tLC_def (wi : TI) (g : TG) (tt : TT) (te : TE) (n : Nat) (caps : List Nat) (σ : St) (H : Hp) (Q : VK) : tLC wi g tt te n caps σ H Q = wi σ H fun J H1 => CompEnd J g tt te n caps σ H1 Q := rfl
section
variable {K : PySem.W.Frag} {a : Addr} {xs : List V} {te : TE} {tt : TT} {caps : List Nat} {σ : St} {H : Hp} {Q : VK} {z : Str} {lo : Int} {n : Nat}
theorem cc_list (hz : xs.length ≤ sizeLine) (Pv : Nat → List V → Hp → Prop) (h0 : Pv 0 [] H) (hl : ∀ i acc H, Pv i acc H → acc.length ≤ i ∧ SqL K H a xs)
    (hs : ∀ i x acc H, xs[i]? = some x → Pv i acc H → tt (some x :: capV caps σ) H fun b H4 => if b = true then te (some x :: capV caps σ) H4 fun y H5 => Pv (i + 1) (acc ++ [y]) H5 else Pv (i + 1) acc H4)
    (hd : ∀ acc H, Pv xs.length acc H → New H (.lst acc) Q) : CompEnd (Itl K a) (gName 0) tt te 1 caps σ H Q := lc_list hz Pv h0 hl hs hd
theorem cc_tup (hz : xs.length ≤ sizeLine) (Pv : Nat → List V → Hp → Prop) (h0 : Pv 0 [] H) (hl : ∀ i acc H, Pv i acc H → acc.length ≤ i ∧ SqT K H a xs)
    (hs : ∀ i x acc H, xs[i]? = some x → Pv i acc H → tt (some x :: capV caps σ) H fun b H4 => if b = true then te (some x :: capV caps σ) H4 fun y H5 => Pv (i + 1) (acc ++ [y]) H5 else Pv (i + 1) acc H4)
    (hd : ∀ acc H, Pv xs.length acc H → New H (.lst acc) Q) : CompEnd (Itt K a) (gName 0) tt te 1 caps σ H Q := lc_tup hz Pv h0 hl hs hd
theorem cc_range (hz : n ≤ sizeLine) (Pv : Nat → List V → Hp → Prop) (h0 : Pv 0 [] H) (hl : ∀ i acc H, Pv i acc H → acc.length ≤ i)
    (hs : ∀ i acc H, i < n → Pv i acc H → tt (some (.int (lo + i)) :: capV caps σ) H fun b H4 => if b = true then te (some (.int (lo + i)) :: capV caps σ) H4 fun y H5 => Pv (i + 1) (acc ++ [y]) H5 else Pv (i + 1) acc H4)
    (hd : ∀ acc H, Pv n acc H → New H (.lst acc) Q) : CompEnd (Itr lo n) (gName 0) tt te 1 caps σ H Q := lc_range hz Pv h0 hl hs hd
end
theorem cxOf_K {CX : CXT} {P : Program} {w : World} {K : PySem.W.Frag} {mg : Str → Option Value} {base : Heap} {N : List Str} {qual : Str} {scope : Scope} {f : Addr} {cd : Value} {A : Around} {outer : List Env} {s : Shared} {H : Hp} {E : XK} :
    (cxOf CX P w K mg base N qual scope f cd A outer s H E).K = K := rfl
theorem cxC_K {X : Cx} {N : List Str} {scope : Scope} {cl : List (Str × Addr)} {C : Addr} {s0 : Shared} {H0 : Hp} {ex : List Addr} : (cxC X N scope cl C s0 H0 ex).K = X.K := rfl
theorem Same.seqT {K : PySem.W.Frag} {H H' : Hp} {a : Addr} {xs : List V} (e : Same H H') (h : SqT K H a xs) : SqT K H' a xs := by
  rcases h with (h | ⟨o, h⟩) | h
  · exact .inl (.inl (e _ _ h))
  · exact .inl (.inr ⟨o, e _ _ h⟩)
  · exact .inr h
theorem Same.after {H H1 : Hp} {p : Addr} {o : HO} (s : Same H H1) (h : H1 p = none) : Same H (upd H1 p o) := s.trans (Same.new h)
section
variable {X : Cx}
theorem kix_list (K : PySem.W.Frag) (hK : X.K = K := by rfl) : IxR X (rIxL K) := hK ▸ ix_list
theorem kix_tup (K : PySem.W.Frag) (hK : X.K = K := by rfl) : IxR X (rIxT K) := hK ▸ ix_tup
theorem kix_seq (K : PySem.W.Frag) (hK : X.K = K := by rfl) : IxR X (rIx K) := hK ▸ ix_seq
theorem ksl_list (K : PySem.W.Frag) (hK : X.K = K := by rfl) : SlR X (rSlN K) := hK ▸ sl_listN
theorem kcl_isi (K : PySem.W.Frag) (hK : X.K = K := by rfl) : CallR X (.builtin "isinstance") (rIsi K) := hK ▸ cl_isi
theorem kcl_len (K : PySem.W.Frag) (hK : X.K = K := by rfl) : CallR X (.builtin "len") (rLen K) := hK ▸ cl_len
theorem kmt_join (K : PySem.W.Frag) (hK : X.K = K := by rfl) : MtR X "str.join" (rJoin K) := hK ▸ mt_join
theorem kop_in (K : PySem.W.Frag) (hK : X.K = K := by rfl) : OpR X (compareOp .In) (rIn K false) := hK ▸ op_in_seq
theorem kpt_tru (K : PySem.W.Frag) {a : Expr} {ta : TE} (ha : PE X a ta) (he : ∀ whole, isTrue a X.env whole = (do let v ← whole; standAt a.pos; holding [v] (truthy v))) (hK : X.K = K := by rfl) : PT X a (tTru K ta) := hK ▸ pt_tru ha he
theorem kpi_list (K : PySem.W.Frag) {tg l : Expr} {tl : TE} (hl : PE X l tl) (hK : X.K = K := by rfl) : PI X tg l (iList K tl) := hK ▸ pi_list hl
theorem kpi_tup (K : PySem.W.Frag) {tg l : Expr} {tl : TE} (hl : PE X l tl) (hK : X.K = K := by rfl) : PI X tg l (iTup K tl) := hK ▸ pi_tup hl
theorem kpg_tup (K : PySem.W.Frag) {pos : Pos} {es : List Expr} {k : Nat} {t : TGs} {n : Nat} (hc : X.calm = true) (h : PGs X es t) (hn : (assignEach es X.env).length = n := by rfl) (hst : (assignEach es X.env).findIdx? (·.1) = none := by rfl) (hK : X.K = K := by rfl) :
    PG X (.Tuple es k pos) (gTup K n t) := hK ▸ pg_tup hc h hn hst
theorem kpe_bm0 (K : PySem.W.Frag) {o : Expr} {to : TE} {name : Str} {apos cpos : Pos} {T id : String} {r : V → List V → Hp → VK → Prop} (pa : PlainAttrs T) (slot : Slot T name id) (hty : typeOf (.builtin id) = pure (.type "method_descriptor")) (hm : MtR X id r) (ho : PE X o to)
    (hbase : attributeBase o name X.env (eval o X.env) = eval o X.env := by rfl) (hline : (apos.endLine == cpos.line) = true := by rfl) (hK : X.K = K := by rfl) : PE X (.Call (.Attribute o name apos) [] [] cpos) (tBM0 K T r to) := hK ▸ pe_bm0 pa slot hty hm ho hbase hline
theorem kpe_bm (K : PySem.W.Frag) {o e : Expr} {es : List Expr} {to : TE} {t : TA} {name : Str} {apos cpos : Pos} {T id : String} {r : V → List V → Hp → VK → Prop} (pa : PlainAttrs T) (slot : Slot T name id) (hty : typeOf (.builtin id) = pure (.type "method_descriptor")) (hm : MtR X id r) (ho : PE X o to) (ha : PA X (e :: es) t)
    (hbase : attributeBase o name X.env (eval o X.env) = eval o X.env := by rfl)
    (hfew : ((backTo cpos (starEach (e :: es) X.env)).all (fun x => !x.1) && (backToKw cpos (keywordEach [] X.env)).all (fun x => x.1.isSome) && decide ((e :: es).length + ([] : List Keyword).length + (if ([] : List Keyword).isEmpty then 0 else 1) < 30)) = true := by rfl)
    (hline : (apos.endLine == cpos.line) = true := by rfl) (hs : starEach (e :: es) X.env = (false, eval e X.env) :: starEach es X.env := by rfl) (hplain : (backTo cpos (starEach es X.env)).any (·.1) = false := by rfl) (hK : X.K = K := by rfl) :
    PE X (.Call (.Attribute o name apos) (e :: es) [] cpos) (tBM K T r to t) := hK ▸ pe_bm pa slot hty hm ho ha hbase hfew hline hs hplain
end
theorem bb_len : bootBuiltins "len" = some (.builtin "len") := by decide +kernel
theorem bb_isinstance : bootBuiltins "isinstance" = some (.builtin "isinstance") := by decide +kernel
theorem bb_str : bootBuiltins "str" = some (.type "str") := by decide +kernel
end L2
namespace L2
open PySem
def Bd (p : Nat) (x : Int) : Prop := x.natAbs < 2 ^ p
theorem Bd.mono {p q : Nat} {x : Int} (h : Bd p x) (l : p ≤ q) : Bd q x := Nat.lt_of_lt_of_le h (Nat.pow_le_pow_right (by decide) l)
theorem Bd.mul {p q : Nat} {x y : Int} (h : Bd p x) (h' : Bd q y) : Bd (p + q) (x * y) := by
  unfold Bd at *
  rw [Int.natAbs_mul, Nat.pow_add]
  exact Nat.mul_lt_mul'' h h'
theorem Bd.add {p : Nat} {x y : Int} (h : Bd p x) (h' : Bd p y) : Bd (p + 1) (x + y) := by
  unfold Bd at *
  have : (x + y).natAbs ≤ x.natAbs + y.natAbs := Int.natAbs_add_le x y
  rw [Nat.pow_succ]
  omega
theorem Bd.big {p q : Nat} {x y : Int} (h : Bd p x) (h' : Bd q y) (hp : p ≤ 4096 := by decide) (hq : q ≤ 4096 := by decide) : CBig x y := .inl ⟨h.mono hp, h'.mono hq⟩
theorem Bd.of {p : Nat} {x : Int} (h0 : 0 ≤ x) (h1 : x < 2 ^ p) : Bd p x := by
  unfold Bd
  have e : ((2 ^ p : Nat) : Int) = (2 : Int) ^ p := by norm_cast
  omega
def stirA (c k : Int) : Int := c % 10 ^ Int.toNat 40 * 48271 + 3 ^ Int.toNat 60 * (k + 1) * (k + 1) + k
def stirB (n : Int) : Int := n * n + 69621 * n
def stirF (c k : Int) : Int := stirB (stirA c k) * stirB (stirA c k) % (10 ^ Int.toNat 61 + 7) / 8
theorem stirA_bd (c k : Int) (h0 : 0 ≤ k) (h1 : k ≤ 2) : Bd 160 (stirA c k) := by
  have e40 : (10 : Int) ^ Int.toNat 40 = 10000000000000000000000000000000000000000 := by decide
  have e60 : (3 : Int) ^ Int.toNat 60 = 42391158275216203514294433201 := by decide
  unfold stirA
  rw [e40, e60]
  have a1 := Int.emod_nonneg c (show (10000000000000000000000000000000000000000 : Int) ≠ 0 by decide)
  have a2 := Int.emod_lt_of_pos c (show (0 : Int) < 10000000000000000000000000000000000000000 by decide)
  generalize c % 10000000000000000000000000000000000000000 = m at a1 a2
  have hk : k = 0 ∨ k = 1 ∨ k = 2 := by omega
  refine Bd.of ?_ ?_
  · rcases hk with rfl | rfl | rfl <;> omega
  · have e : (2 : Int) ^ 160 = 1461501637330902918203684832716283019655932542976 := by decide
    rw [e]
    rcases hk with rfl | rfl | rfl <;> omega
theorem stirB_bd {n : Int} (h : Bd 160 n) : Bd 321 (stirB n) := (h.mul h).add ((show Bd 17 69621 by unfold Bd; decide).mul h |>.mono (by decide))
theorem stirF_nonneg (c k : Int) : 0 ≤ stirF c k := by
  have e : (10 : Int) ^ Int.toNat 61 + 7 = 10000000000000000000000000000000000000000000000000000000000007 := by decide
  unfold stirF
  rw [e]
  have := Int.emod_nonneg (stirB (stirA c k) * stirB (stirA c k)) (show (10000000000000000000000000000000000000000000000000000000000007 : Int) ≠ 0 by decide)
  omega
theorem stirF_bd (c k : Int) : Bd 210 (stirF c k) := by
  have e : (10 : Int) ^ Int.toNat 61 + 7 = 10000000000000000000000000000000000000000000000000000000000007 := by decide
  have h0 := stirF_nonneg c k
  refine Bd.of h0 ?_
  unfold stirF
  rw [e]
  have := Int.emod_lt_of_pos (stirB (stirA c k) * stirB (stirA c k)) (show (0 : Int) < 10000000000000000000000000000000000000000000000000000000000007 by decide)
  have e2 : (2 : Int) ^ 210 = 1645504557321206042154969182557350504982735865633579863348609024 := by decide
  rw [e2]
  omega
end L2
local macro_rules | `(tactic| walk_at "rd") => `(tactic| simp only [L2.tCB, L2.tCons, L2.tNil, L2.tVar, L2.rStr, L2.tNoIf, L2.capV, List.map_nil, List.getElem?_cons_zero, L2.ex_some_and, if_true])
namespace L2
open PySem
theorem le_line {n : Nat} (h : n ≤ 1000000) : n ≤ sizeLine := Nat.le_trans h (by decide)
def PartS (x : V) (y : Str) : Prop := (∃ i : Int, x = .int i ∧ i.natAbs < 2 ^ 64 ∧ y = Str.ofString (toString i)) ∨ x = .str y
inductive PartsS : List V → List Str → Prop
  | nil : PartsS [] []
  | cons {x y xs ys} : PartS x y → PartsS xs ys → PartsS (x :: xs) (y :: ys)
theorem PartsS.get : ∀ {xs : List V} {ys : List Str}, PartsS xs ys → ∀ (i : Nat) (x : V), xs[i]? = some x → ∃ y, ys[i]? = some y ∧ PartS x y
  | _, _, .nil, i, x, e => by simp at e
  | _, _, .cons p r, 0, x, e => by simp at e; subst e; exact ⟨_, rfl, p⟩
  | _, _, .cons p r, i + 1, x, e => r.get i x (by simpa using e)
theorem PartsS.len {xs : List V} {ys : List Str} (p : PartsS xs ys) : xs.length = ys.length := by
  induction p with
  | nil => rfl
  | cons _ _ ih => simp [ih]
theorem strsV_snoc {ys : List Str} {i : Nat} {y : Str} (e : ys[i]? = some y) : strsV (ys.take i) ++ [V.str y] = strsV (ys.take (i + 1)) := by
  unfold strsV
  rw [List.take_add_one, e]
  simp
theorem log_small {i : Int} (h : i.natAbs < 2 ^ 64) : i.natAbs.log2 < 1920 := by
  by_cases h0 : i.natAbs = 0
  · rw [h0]; decide
  · exact Nat.lt_of_lt_of_le ((Nat.log2_lt h0).mpr h) (by decide)
theorem comp_parts {K : PySem.W.Frag} {a : Addr} {xs : List V} {ys : List Str} {σ : St} {H : Hp} {Q : VK} (ha : SqT K H a xs) (hp : PartsS xs ys) (hz : xs.length ≤ 1000000)
    (q : ∀ H', Same H H' → New H' (.lst (strsV ys)) Q) : CompEnd (Itt K a) (gName 0) tNoIf (tCB rStr (tCons (tVar 0) tNil)) 1 [] σ H Q := by
  refine cc_tup (xs := xs) (le_line hz) (fun i acc H2 => Same H H2 ∧ i ≤ xs.length ∧ acc = strsV (ys.take i)) ⟨Same.refl _, Nat.zero_le _, rfl⟩ (fun i acc H2 ⟨s, hi, e⟩ => ⟨?_, s.seqT ha⟩) ?_ ?_
  · subst e
    simp only [strsV, List.length_map, List.length_take]
    omega
  · rintro i x acc H2 hx ⟨s, hi, rfl⟩
    obtain ⟨y, hy, p⟩ := hp.get i x hx
    have hi' : i < xs.length := (List.getElem?_eq_some_iff.mp hx).1
    walk_at "rd"
    rcases p with ⟨n, rfl, hn, rfl⟩ | rfl
    · exact ⟨log_small hn, s, hi', strsV_snoc hy⟩
    · exact ⟨s, hi', strsV_snoc hy⟩
  · rintro acc H2 ⟨s, _, rfl⟩
    have : ys.take xs.length = ys := by rw [hp.len, List.take_length]
    rw [this]
    exact q H2 s
theorem comp_partsL {K : PySem.W.Frag} {a : Addr} {xs : List V} {ys : List Str} {σ : St} {H : Hp} {Q : VK} (ha : SqL K H a xs) (hp : PartsS xs ys) (hz : xs.length ≤ 1000000)
    (q : ∀ H', Same H H' → New H' (.lst (strsV ys)) Q) : CompEnd (Itl K a) (gName 0) tNoIf (tCB rStr (tCons (tVar 0) tNil)) 1 [] σ H Q := by
  refine cc_list (xs := xs) (le_line hz) (fun i acc H2 => Same H H2 ∧ i ≤ xs.length ∧ acc = strsV (ys.take i)) ⟨Same.refl _, Nat.zero_le _, rfl⟩ (fun i acc H2 ⟨s, hi, e⟩ => ⟨?_, s.seq ha⟩) ?_ ?_
  · subst e
    simp only [strsV, List.length_map, List.length_take]
    omega
  · rintro i x acc H2 hx ⟨s, hi, rfl⟩
    obtain ⟨y, hy, p⟩ := hp.get i x hx
    have hi' : i < xs.length := (List.getElem?_eq_some_iff.mp hx).1
    walk_at "rd"
    rcases p with ⟨n, rfl, hn, rfl⟩ | rfl
    · exact ⟨log_small hn, s, hi', strsV_snoc hy⟩
    · exact ⟨s, hi', strsV_snoc hy⟩
  · rintro acc H2 ⟨s, _, rfl⟩
    have : ys.take xs.length = ys := by rw [hp.len, List.take_length]
    rw [this]
    exact q H2 s
theorem sx_ext {x y : Str} (h : x.cps.toList = y.cps.toList) : x = y := by
  cases x; cases y
  simp at h
  simp [h]
theorem sx_app (x y : Str) : (x ++ y).cps.toList = x.cps.toList ++ y.cps.toList := by
  show (x.cps ++ y.cps).toList = _
  simp
theorem sx_empty (x : Str) : Str.empty ++ x = x := sx_ext (by rw [sx_app]; rfl)
theorem sx_assoc (x y z : Str) : x ++ y ++ z = x ++ (y ++ z) := sx_ext (by simp only [sx_app, List.append_assoc])
theorem sx_len (x y : Str) : (x ++ y).length = x.length + y.length := strLen_append x y
theorem sx_one (c : Nat) : (⟨#[c]⟩ : Str).length = 1 := rfl
theorem dig_cases {k : Int} (h0 : 0 ≤ k) (h1 : k < 10) : k = 0 ∨ k = 1 ∨ k = 2 ∨ k = 3 ∨ k = 4 ∨ k = 5 ∨ k = 6 ∨ k = 7 ∨ k = 8 ∨ k = 9 := by omega
theorem dig_len {k : Int} (h0 : 0 ≤ k) (h1 : k < 10) : (Str.ofString (toString k)).length = 1 := by
  rcases dig_cases h0 h1 with rfl | rfl | rfl | rfl | rfl | rfl | rfl | rfl | rfl | rfl <;> decide +kernel
theorem cut_from {ns : List Int} {j k : Nat} : cutV (ns.map V.int) (some (j : Int)) (some (k : Int)) = ((ns.drop j).take (k - j)).map V.int := by
  unfold cutV
  rw [HT.sIx_nat, HT.sIx_nat, List.length_map, List.map_take, List.map_drop]
  by_cases hj : j ≤ ns.length
  · rw [Nat.min_eq_left hj]
    by_cases h : k ≤ ns.length
    · rw [Nat.min_eq_left h]
    · rw [Nat.min_eq_right (by omega), List.take_of_length_le (by simp), List.take_of_length_le (by simp; omega)]
  · have hj' : min j ns.length = ns.length := by omega
    rw [hj', List.drop_of_length_le (by simp), List.drop_of_length_le (l := ns.map V.int) (i := j) (by simp; omega)]
    simp
end L2
namespace L2
open PySem
theorem nox_K {X : Cx} : X.nox.K = X.K := rfl
theorem wish_K {X : Cx} {E : Value → Shared → Prop} : (X.wish E).K = X.K := rfl
section
variable {σ : St} {H : Hp} {Q : VK} {D : Ends} {nn bb cc : St → Hp → Prop} {rr : VK} {t u : TS} {ta tb tc te : TE} {tA tB : TT} {g : TG} {QT : Bool → Hp → Prop} {QA : List V → Hp → Prop} {QS : St → Hp → Prop}
theorem i_seq (h : t ⟨u ⟨nn, rr, bb, cc⟩, rr, bb, cc⟩ σ H) : tSeq t u ⟨nn, rr, bb, cc⟩ σ H := h
theorem i_asg (h : te σ H fun x H1 => g x σ H1 nn) : tAsg te g ⟨nn, rr, bb, cc⟩ σ H := h
theorem i_name {i : Nat} {v : V} (h : QS (σ.set i (some v)) H) : gName i v σ H QS := h
theorem i_var {i : Nat} {v : V} (e : σ[i]? = some (some v)) (h : Q v H) : tVar i σ H Q := ⟨v, e, h⟩
theorem i_c {v : V} (h : Q v H) : tC v σ H Q := h
theorem i_op {r : R2} (h : ta σ H fun x H1 => tb σ H1 fun y H2 => r x y H2 Q) : tOp r ta tb σ H Q := h
theorem i_un {r : V → Hp → VK → Prop} (h : ta σ H fun x H1 => r x H1 Q) : tUn r ta σ H Q := h
theorem i_rU {f : Int → V} {i : Int} (h : Q (f i) H) : rU f (.int i) H Q := ⟨i, rfl, h⟩
theorem i_rI {C : Int → Int → Prop} {f : Int → Int → V} {i j : Int} (c : C i j) (h : Q (f i j) H) : rI C f (.int i) (.int j) H Q := ⟨i, j, rfl, rfl, c, h⟩
theorem i_rI0 {f : Int → Int → V} {i j : Int} (h : Q (f i j) H) : rI0 f (.int i) (.int j) H Q := ⟨i, j, rfl, rfl, h⟩
theorem i_plusI {i j : Int} (h : Q (.int (i + j)) H) : rPlus (.int i) (.int j) H Q := h
theorem i_plusS {x y : Str} (z : x.length + y.length ≤ sizeLine) (h : Q (.str (x ++ y)) H) : rPlus (.str x) (.str y) H Q := ⟨z, h⟩
theorem i_plusL {l b : Addr} {xs zs : List V} (h1 : H l = some (.lst xs)) (h2 : H b = some (.lst zs)) (z : xs.length + zs.length ≤ sizeLine) (h : New H (.lst (xs ++ zs)) Q) : rPlus (.ref l) (.ref b) H Q := ⟨xs, zs, h1, h2, z, h⟩
theorem i_timesI {i j : Int} (c : CBig i j) (h : Q (.int (i * j)) H) : rTimes (.int i) (.int j) H Q := ⟨c, h⟩
theorem i_timesS {x : Str} {j : Int} (c : MulOk x j) (h : Q (.str (Txt.mul x j)) H) : rTimes (.str x) (.int j) H Q := ⟨c, h⟩
theorem decI (i j : Int) : decide (V.int i = V.int j) = decide (i = j) := by rw [Bool.eq_iff_iff]; simp
theorem decS (i j : Str) : decide (V.str i = V.str j) = decide (i = j) := by rw [Bool.eq_iff_iff]; simp
theorem decB (i j : Bool) : decide (V.bl i = V.bl j) = decide (i = j) := by rw [Bool.eq_iff_iff]; simp
theorem i_eqI {i j : Int} (h : Q (.bl (decide (i = j))) H) : rEq (.int i) (.int j) H Q := ⟨rfl, by rw [decI]; exact h⟩
theorem i_eqS {i j : Str} (h : Q (.bl (decide (i = j))) H) : rEq (.str i) (.str j) H Q := ⟨rfl, by rw [decS]; exact h⟩
theorem i_eqB {i j : Bool} (h : Q (.bl (decide (i = j))) H) : rEq (.bl i) (.bl j) H Q := ⟨rfl, by rw [decB]; exact h⟩
theorem i_neI {i j : Int} (h : Q (.bl (!decide (i = j))) H) : rNe (.int i) (.int j) H Q := ⟨rfl, by rw [decI]; exact h⟩
theorem i_neS {i j : Str} (h : Q (.bl (!decide (i = j))) H) : rNe (.str i) (.str j) H Q := ⟨rfl, by rw [decS]; exact h⟩
theorem i_neB {i j : Bool} (h : Q (.bl (!decide (i = j))) H) : rNe (.bl i) (.bl j) H Q := ⟨rfl, by rw [decB]; exact h⟩
theorem i_test (h : te σ H fun x H' => ∃ k, x = .bl k ∧ QT k H') : tTest te σ H QT := h
theorem i_bl {k : Bool} {p : Bool → Prop} (h : p k) : ∃ j, V.bl k = V.bl j ∧ p j := ⟨k, rfl, h⟩
theorem i_ifS (h : tA σ H fun b H1 => if b = true then t D σ H1 else u D σ H1) : tIfS tA t u D σ H := h
theorem i_if (h : tA σ H fun b H1 => if b = true then ta σ H1 Q else tb σ H1 Q) : tIf tA ta tb σ H Q := h
theorem i_ret (h : te σ H rr) : tRet te ⟨nn, rr, bb, cc⟩ σ H := h
theorem i_retN (h : rr .non H) : tRetN ⟨nn, rr, bb, cc⟩ σ H := h
theorem i_next (h : nn σ H) : tNext ⟨nn, rr, bb, cc⟩ σ H := h
theorem i_drop (h : te σ H fun _ H1 => nn σ H1) : tDrop te ⟨nn, rr, bb, cc⟩ σ H := h
theorem i_break (h : bb σ H) : tBreak ⟨nn, rr, bb, cc⟩ σ H := h
theorem i_cont (h : cc σ H) : tCont ⟨nn, rr, bb, cc⟩ σ H := h
theorem i_cons {tr : TA} (h : te σ H fun x H1 => tr σ H1 fun xs H2 => QA (x :: xs) H2) : tCons te tr σ H QA := h
theorem i_nil (h : QA [] H) : tNil σ H QA := h
theorem i_cb {r : List V → Hp → VK → Prop} {ts : TA} (h : ts σ H fun vs H1 => r vs H1 Q) : tCB r ts σ H Q := h
theorem i_call {sp : Sp} {dvs : List V} {E : XK} {ts : TA} (h : ts σ H fun vs H1 => sp (vs ++ dvs) H1 Q E) : tCall sp dvs E ts σ H Q := h
theorem i_lst {ts : TA} (h : ts σ H fun xs H1 => xs.length ≤ sizeLine ∧ New H1 (.lst xs) Q) : tLstN ts σ H Q := h
theorem i_tup {ts : TA} (h : ts σ H fun xs H1 => xs.length ≤ sizeLine ∧ New H1 (.tup xs) Q) : tTupN ts σ H Q := h
theorem i_szA {n : Nat} {P : Prop} (h : n ≤ sizeLine) (p : P) : n ≤ sizeLine ∧ P := ⟨h, p⟩
theorem i_rgA {j : Int} {P : Prop} (h : -(2 ^ 62) ≤ j) (h' : j < 2 ^ 62) (p : P) : -(2 ^ 62) ≤ j ∧ j < 2 ^ 62 ∧ P := ⟨h, h', p⟩
theorem i_noIf (h : QT true H) : tNoIf σ H QT := h
theorem i_not (h : tA σ H fun c H1 => QT (!c) H1) : tNot tA σ H QT := h
theorem i_and (h : tA σ H fun c H1 => if c = true then tB σ H1 QT else QT false H1) : tAnd tA tB σ H QT := h
theorem i_or (h : tA σ H fun c H1 => if c = true then QT true H1 else tB σ H1 QT) : tOr tA tB σ H QT := h
theorem i_andV (h : ta σ H fun x H1 => ∃ c, x = .bl c ∧ if c = true then tb σ H1 Q else Q (.bl false) H1) : tAndV ta tb σ H Q := h
theorem i_orV (h : ta σ H fun x H1 => ∃ c, x = .bl c ∧ if c = true then Q (.bl true) H1 else tb σ H1 Q) : tOrV ta tb σ H Q := h
theorem i_notV (h : ta σ H fun x H1 => ∃ c, x = .bl c ∧ Q (.bl (!c)) H1) : tNotV ta σ H Q := h
theorem i_strI {i : Int} (z : i.natAbs.log2 < 1920) (h : Q (.str (Str.ofString (toString i))) H) : rStr [.int i] H Q := ⟨z, h⟩
theorem i_strS {z : Str} (h : Q (.str z) H) : rStr [.str z] H Q := h
theorem i_for {wi : TI} (h : wi σ H fun J H1 => ForEnd J g t D σ H1) : tFor wi g t D σ H := h
theorem i_lc {wi : TI} {n : Nat} {caps : List Nat} (h : wi σ H fun J H1 => CompEnd J g tA te n caps σ H1 Q) : tLC wi g tA te n caps σ H Q := h
theorem i_rng1 {R : It → Hp → Prop} {ts : TA} (h : ts σ H fun vs H1 => ∃ j : Int, vs = [.int j] ∧ -(2 ^ 62) ≤ j ∧ j < 2 ^ 62 ∧ R (Itr 0 j.toNat) H1) : iRng1 ts σ H R := h
theorem i_iList {K : PySem.W.Frag} {R : It → Hp → Prop} (h : te σ H fun x H1 => ∃ a, x = .ref a ∧ (∃ xs, SqL K H1 a xs) ∧ R (Itl K a) H1) : iList K te σ H R := h
theorem i_iTup {K : PySem.W.Frag} {R : It → Hp → Prop} (h : te σ H fun x H1 => ∃ a, x = .ref a ∧ (∃ xs, SqT K H1 a xs) ∧ R (Itt K a) H1) : iTup K te σ H R := h
theorem i_iStr {R : It → Hp → Prop} (h : te σ H fun x H1 => ∃ z, x = .str z ∧ R (Its z) H1) : iStr te σ H R := h
theorem i_rng {j : Int} {p : Int → Prop} (h : p j) : ∃ i : Int, [V.int j] = [V.int i] ∧ p i := ⟨j, rfl, h⟩
theorem i_ref {a : Addr} {p : Addr → Prop} (h : p a) : ∃ b, V.ref a = V.ref b ∧ p b := ⟨a, rfl, h⟩
theorem i_sx {z : Str} {p : Str → Prop} (h : p z) : ∃ b, V.str z = V.str b ∧ p b := ⟨z, rfl, h⟩
theorem i_bm {K : PySem.W.Frag} {T : String} {r : V → List V → Hp → VK → Prop} {to : TE} {ts : TA} (h : to σ H fun x H1 => tyV K T x H1 ∧ ts σ H1 fun xs H2 => r x xs H2 Q) : tBM K T r to ts σ H Q := h
theorem i_bm0 {K : PySem.W.Frag} {T : String} {r : V → List V → Hp → VK → Prop} {to : TE} (h : to σ H fun x H1 => tyV K T x H1 ∧ r x [] H1 Q) : tBM0 K T r to σ H Q := h
theorem i_tyS {K : PySem.W.Frag} {z : Str} {P : Prop} (h : P) : tyV K "str" (.str z) H ∧ P := ⟨rfl, h⟩
theorem i_ixL {K : PySem.W.Frag} {p : Addr} {xs : List V} {i : Int} {v : V} (h1 : SqL K H p xs) (h2 : atI xs i = some v) (h : Q v H) : rIxL K (.ref p) (.int i) H Q := ⟨p, xs, i, v, rfl, rfl, h1, h2, h⟩
theorem i_ixT {K : PySem.W.Frag} {p : Addr} {xs : List V} {i : Int} {v : V} (h1 : SqT K H p xs) (h2 : atI xs i = some v) (h : Q v H) : rIxT K (.ref p) (.int i) H Q := ⟨p, xs, i, v, rfl, rfl, h1, h2, h⟩
theorem i_ixS {K : PySem.W.Frag} {z : Str} {i : Int} {c : Nat} (hz : z.length ≤ sizeLine) (h2 : atI z.cps.toList i = some c) (h : Q (.str ⟨#[c]⟩) H) : rIx K (.str z) (.int i) H Q := .inr (.inr ⟨z, i, c, rfl, rfl, hz, h2, h⟩)
theorem i_sl {r : V → Option Int → Option Int → Hp → VK → Prop} {tl th : TO} (h : te σ H fun x H1 => tl σ H1 fun l H2 => th σ H2 fun u H3 => r x l u H3 Q) : tSl r te tl th σ H Q := h
theorem i_nopart {QO : Option Int → Hp → Prop} (h : QO none H) : tNoPart σ H QO := h
theorem i_part {QO : Option Int → Hp → Prop} (h : te σ H fun x H1 => ∃ i, x = .int i ∧ QO (some i) H1) : tPart te σ H QO := h
theorem i_ix1 {i : Int} {p : Int → Prop} (h : p i) : ∃ j, V.int i = V.int j ∧ p j := ⟨i, rfl, h⟩
theorem i_slL {K : PySem.W.Frag} {a : Addr} {xs : List V} {lo hi : Option Int} (h1 : SqL K H a xs) (h : New H (.lst (cutV xs lo hi)) Q) : rSlN K (.ref a) lo hi H Q := ⟨a, xs, rfl, h1, h⟩
theorem i_itT {A B : Prop} (h : A) : if true = true then A else B := iteT h
theorem i_itF {A B : Prop} (h : B) : if false = true then A else B := iteF h
theorem i_itnT {A B : Prop} (h : B) : if (!true) = true then A else B := iteF h
theorem i_itnF {A B : Prop} (h : A) : if (!false) = true then A else B := iteT h
theorem i_itDT {c A B : Prop} [Decidable c] (hc : c) (h : A) : if decide c = true then A else B := by rw [decide_eq_true hc]; exact iteT h
theorem i_itDF {c A B : Prop} [Decidable c] (hc : ¬ c) (h : B) : if decide c = true then A else B := by rw [decide_eq_false hc]; exact iteF h
theorem i_itNF {c A B : Prop} [Decidable c] (hc : c) (h : B) : if (!decide c) = true then A else B := by rw [decide_eq_true hc]; exact iteF h
theorem i_chain {r r' : R2} (h : ta σ H fun x H1 => tb σ H1 fun y H2 => r x y H2 fun z H3 => ∃ k, z = .bl k ∧ (if k = true then tc σ H3 fun w' H4 => r' y w' H4 Q else Q (.bl false) H3)) : tChain r r' ta tb tc σ H Q := h
theorem i_asgT {K : PySem.W.Frag} {n : Nat} {ts : TGs} {a : Addr} {xs : List V} (h1 : SqT K H a xs) (h2 : xs.length = n) (h : ts xs σ H QS) : gTup K n ts (.ref a) σ H QS := ⟨a, xs, rfl, h1, h2, h⟩
theorem i_gnil (h : QS σ H) : gNil [] σ H QS := ⟨rfl, h⟩
theorem i_gcons {gt : TG} {us : TGs} {v : V} {r : List V} (h : gt v σ H fun σ' H' => us r σ' H' QS) : gCons gt us (v :: r) σ H QS := ⟨v, r, rfl, h⟩
theorem i_find {z y : Str} (h : Q (.int (Txt.find z y)) H) : rFind (.str z) [.str y] H Q := ⟨z, y, rfl, rfl, h⟩
theorem i_isiS {K : PySem.W.Frag} {z : Str} (h : Q (.bl true) H) : rIsi K [V.str z, V.ty "str"] H Q := ⟨_, _, _, true, rfl, .str z, rfl, h⟩
theorem i_isiB {K : PySem.W.Frag} {z : Bool} (h : Q (.bl true) H) : rIsi K [V.bl z, V.ty "bool"] H Q := ⟨_, _, _, true, rfl, .bl z, rfl, h⟩
theorem i_isiI {K : PySem.W.Frag} {z : Int} (h : Q (.bl true) H) : rIsi K [V.int z, V.ty "int"] H Q := ⟨_, _, _, true, rfl, .int z, rfl, h⟩
theorem i_isiIB {K : PySem.W.Frag} {z : Int} (h : Q (.bl false) H) : rIsi K [V.int z, V.ty "bool"] H Q := ⟨_, _, _, false, rfl, .int z, by rfl, h⟩
theorem i_tru {K : PySem.W.Frag} (h : te σ H fun x H' => ∃ k, TruV K x H' k ∧ QT k H') : tTru K te σ H QT := h
theorem i_truB {K : PySem.W.Frag} {k : Bool} {p : Bool → Prop} (h : p k) : ∃ j, TruV K (.bl k) H j ∧ p j := ⟨k, rfl, h⟩
theorem i_lenL {K : PySem.W.Frag} {p : Addr} {xs : List V} (h1 : SqL K H p xs) (h : Q (.int xs.length) H) : rLen K [V.ref p] H Q := ⟨_, _, rfl, .inl ⟨xs, h1, rfl⟩, h⟩
theorem i_intB {k : Bool} (h : Q (.int (if k then 1 else 0)) H) : rToInt [V.bl k] H Q := .inr ⟨k, rfl, h⟩
theorem i_intI {k : Int} (h : Q (.int k) H) : rToInt [V.int k] H Q := .inl ⟨k, rfl, h⟩
theorem i_isB {a b : Bool} (h : Q (.bl (a == b)) H) : rIsB (.bl a) (.bl b) H Q := ⟨a, b, rfl, rfl, h⟩
theorem i_inS {x y : Str} (h : Q (.bl (!(Builtin.Str.occurrences y x 0 y.length 1).isEmpty)) H) : rInS (.str x) (.str y) H Q := ⟨x, y, rfl, rfl, h⟩
end
end L2
namespace L2
open PySem PySem.Spec PyProof.Rows
def rIndex (K : PySem.W.Frag) : V → List V → Hp → VK → Prop := fun x vs H Q => ∃ l ys y j, x = .ref l ∧ vs = [.str y] ∧ SqL K H l (strsV ys) ∧ ys[j]? = some y ∧ (∀ m, m < j → ys[m]? ≠ some y) ∧ Q (.int (j : Nat)) H
section
variable {X : Cx}
def rNeE (K : PySem.W.Frag) (neg : Bool) : R2 := fun x y H Q => ∃ l b xs, x = .ref l ∧ y = .ref b ∧ SqL K H l xs ∧ SqL K H b [] ∧ Q (.bl (if neg then !xs.isEmpty else xs.isEmpty)) H
theorem kop_neE (K : PySem.W.Frag) (hu : X.A.units < cLine) (hK : X.K = K := by rfl) : OpR X (compareOp .NotEq) (rNeE K true) := by
  subst hK
  intro pins s σ H x y v u Q I rx ry h
  obtain ⟨l, b, xs, rfl, rfl, h1, h2, q⟩ := h
  cases rx
  cases ry
  obtain ⟨is1, r1, p1, _⟩ := I.list h1
  obtain ⟨is2, r2, p2, _⟩ := I.list h2
  cases r2
  cases r1 with
  | nil =>
    have := SeqAt.RcNeAt.lists (A := X.A) (s := s) (e := fun _ => true) p1.isList p2.isList rfl hu (fun j h1 _ => absurd h1 (by simp)) X.prog X.w X.xe (EP X pins σ Q)
    exact this ⟨.bl _, H, I, rfl, q⟩
  | cons ra rb =>
    have := SeqAt.RcNeAt.lists_lengths (A := X.A) (s := s) p1.isList p2.isList (by simp) hu X.prog X.w X.xe (EP X pins σ Q)
    exact this ⟨.bl _, H, I, rfl, q⟩
def refsV : List V → Bool := fun xs => xs.all fun x => match x with | .ref _ => true | _ => false
def rEqR (K : PySem.W.Frag) : R2 := fun x y H Q => ∃ l b xs, x = .ref l ∧ y = .ref b ∧ SqL K H l xs ∧ SqL K H b xs ∧ refsV xs = true ∧ Q (.bl true) H
end
theorem cc_pairs {K : PySem.W.Frag} {a : Addr} {xs : List V} {te : TE} {tt : TT} {caps : List Nat} {σ : St} {H : Hp} {Q : VK} (hz : xs.length ≤ sizeLine) (Pv : Nat → List V → Hp → Prop) (h0 : Pv 0 [] H) (hl : ∀ i acc H, Pv i acc H → acc.length ≤ i ∧ SqL K H a xs)
    (hs : ∀ i x acc H, xs[i]? = some x → Pv i acc H → ∃ p u v, x = .ref p ∧ SqT K H p [u, v] ∧ tt (some u :: some v :: capV caps σ) H fun b H4 => if b = true then te (some u :: some v :: capV caps σ) H4 fun y H5 => Pv (i + 1) (acc ++ [y]) H5 else Pv (i + 1) acc H4)
    (hd : ∀ acc H, Pv xs.length acc H → New H (.lst acc) Q) : CompEnd (Itl K a) (gTup K 2 (gCons (gName 0) (gCons (gName 1) gNil))) tt te 2 caps σ H Q := by
  refine ⟨fun i m acc σ' H => m = xs.length - i ∧ i ≤ xs.length ∧ (∃ u v, σ' = u :: v :: capV caps σ) ∧ Pv i acc H, ⟨xs.length, by simp, Nat.zero_le _, ⟨none, none, rfl⟩, h0⟩, ?_⟩
  rintro i m acc σ' H' ⟨rfl, hi, ⟨u0, v0, rfl⟩, p⟩
  obtain ⟨hl1, hq⟩ := hl i acc H' p
  by_cases hlt : i < xs.length
  · refine .inr ⟨⟨xs, xs[i], hq, by simp [hlt]⟩, by omega, fun ac σ2 H2 => (∃ u v, σ2 = u :: v :: capV caps σ) ∧ Pv (i + 1) ac H2, fun ac σ2 H2 ⟨e, p'⟩ => ⟨xs.length - (i + 1), by omega, rfl, hlt, e, p'⟩, fun x H2 y => ?_⟩
    obtain ⟨e, y⟩ := y
    subst e
    obtain ⟨q, u, v, rfl, hT, hst⟩ := hs i x acc _ (y xs hq) p
    have eN : ∀ ac H5, ((∃ u1 v1, some u :: some v :: capV caps σ = u1 :: v1 :: capV caps σ) ∧ Pv (i + 1) ac H5) = Pv (i + 1) ac H5 := fun ac H5 => propext ⟨And.right, fun p => ⟨⟨_, _, rfl⟩, p⟩⟩
    refine ⟨q, [u, v], rfl, hT, rfl, u, [v], rfl, v, [], rfl, rfl, ?_⟩
    show tt (some u :: some v :: capV caps σ) _ fun b H4 => if b = true then te (some u :: some v :: capV caps σ) H4 fun y H5 => ((∃ u1 v1, some u :: some v :: capV caps σ = u1 :: v1 :: capV caps σ) ∧ Pv (i + 1) (acc ++ [y]) H5) else ((∃ u1 v1, some u :: some v :: capV caps σ = u1 :: v1 :: capV caps σ) ∧ Pv (i + 1) acc H4)
    simp only [eN]
    exact hst
  · have e : i = xs.length := by omega
    subst e
    exact .inl ⟨⟨xs, hq, Nat.le_refl _⟩, New.to (hd acc H' p)⟩
section
variable {σ : St} {H : Hp} {Q : VK}
theorem i_neE {K : PySem.W.Frag} {l b : Addr} {xs : List V} (h1 : SqL K H l xs) (h2 : SqL K H b []) (h : Q (.bl (!xs.isEmpty)) H) : rNeE K true (.ref l) (.ref b) H Q := ⟨l, b, xs, rfl, rfl, h1, h2, h⟩
theorem i_append {l : Addr} {xs : List V} {y : V} (h1 : H l = some (.lst xs)) (hz : xs.length < sizeLine) (h : Q .non (upd H l (.lst (xs ++ [y])))) : rAppend (.ref l) [y] H Q := ⟨l, xs, y, rfl, rfl, h1, hz, h⟩
theorem i_pop {l : Addr} {xs : List V} {y : V} (h1 : H l = some (.lst (xs ++ [y]))) (h : Q y (upd H l (.lst xs))) : rPop (.ref l) [] H Q := ⟨l, xs ++ [y], y, rfl, rfl, h1, by simp, by simpa using h⟩
theorem i_tyL {K : PySem.W.Frag} {l : Addr} {xs : List V} {P : Prop} (h1 : SqL K H l xs) (h : P) : tyV K "list" (.ref l) H ∧ P := ⟨.inl ⟨rfl, xs, h1⟩, h⟩
end
def Tups (H H' : Hp) : Prop := ∀ b xs, H b = some (.tup xs) → H' b = some (.tup xs)
theorem Same.tups {H H' : Hp} (s : Same H H') : Tups H H' := fun b xs h => s b _ h
theorem Tups.trans {H H1 H2 : Hp} (a : Tups H H1) (b : Tups H1 H2) : Tups H H2 := fun c xs h => b c xs (a c xs h)
theorem Tups.refl (H : Hp) : Tups H H := fun _ _ h => h
theorem Tups.upd {H : Hp} {l : Addr} {xs : List V} {o : HO} (h : H l = some (.lst xs)) : Tups H (upd H l o) := fun b ys e => by rw [upd_ne (ne_of e h (fun z => nomatch z))]; exact e
theorem vac {P : Program} {w : World} {K : PySem.W.Frag} {mg : Str → Option Value} {base : Heap} {CX : CXT} {k : Nat} {f : Addr} {fd : FuncData} {ps : List Str} {sp : Sp} (h : ∀ vs H Q E, ¬ sp vs H Q E) : FnOk P w K mg base CX k f fd ps sp :=
  ⟨fun vs H Q E q => (h _ _ _ _ q).elim, fun A outer s H args us vs Q E _ _ _ _ q => (h _ _ _ _ q).elim⟩
end L2
namespace L2
open PySem
theorem Same.updNew {H H1 : Hp} {l : Addr} {o : HO} (s : Same H H1) (h : H l = none) : Same H (upd H1 l o) := fun b u e => by rw [upd_ne (ne_of_none e h)]; exact s b u e
inductive Ex where
  | num (i : Int)
  | box (n : Str)
  | two (k : Bool) (a b : Ex)
def Ex.h : Ex → Nat
  | .num _ => 0
  | .box _ => 0
  | .two _ a b => max a.h b.h + 1
def Ex.sz : Ex → Nat
  | .num _ => 1
  | .box _ => 1
  | .two _ a b => a.sz + b.sz + 1
def Ex.ok (ns : List Str) : Ex → Prop
  | .num i => 0 ≤ i ∧ i < 10
  | .box n => n ∈ ns
  | .two _ a b => a.ok ns ∧ b.ok ns
def markS (k : Bool) : Str := if k then "plus" else "less"
def Ex.At (H : Hp) : Ex → V → Prop
  | .num i, v => ∃ a, v = .ref a ∧ H a = some (.tup [.str "number", .int i])
  | .box n, v => ∃ a, v = .ref a ∧ H a = some (.tup [.str "box", .str n])
  | .two k e f, v => ∃ a x y, v = .ref a ∧ H a = some (.tup [.str (markS k), x, y]) ∧ e.At H x ∧ f.At H y
theorem Ex.At.mono {H H' : Hp} (t : Tups H H') : ∀ {e : Ex} {v : V}, e.At H v → e.At H' v
  | .num _, _, ⟨a, h1, h2⟩ => ⟨a, h1, t _ _ h2⟩
  | .box _, _, ⟨a, h1, h2⟩ => ⟨a, h1, t _ _ h2⟩
  | .two _ e f, _, ⟨a, x, y, h1, h2, h3, h4⟩ => ⟨a, x, y, h1, t _ _ h2, Ex.At.mono t h3, Ex.At.mono t h4⟩
def bval : List Str → List Int → Str → Int
  | m :: ns, v :: vs, n => if m = n then v else bval ns vs n
  | _, _, _ => 0
def Ex.ev (ns : List Str) (vs : List Int) : Ex → Int
  | .num i => i
  | .box n => bval ns vs n
  | .two k a b => if k then a.ev ns vs + b.ev ns vs else a.ev ns vs - b.ev ns vs
def fsum : List Str → List Int → Str → Int
  | m :: ns, v :: vs, n => (if m = n then v else 0) + fsum ns vs n
  | _, _, _ => 0
inductive Boxes (H : Hp) : List V → List Str → Prop
  | nil : Boxes H [] []
  | cons {p : Addr} {n : Str} {z : Int} {xs ns} : H p = some (.tup [.str n, .int z]) → Boxes H xs ns → Boxes H (.ref p :: xs) (n :: ns)
theorem Boxes.mono {H H' : Hp} (t : Tups H H') {xs : List V} {ns : List Str} (b : Boxes H xs ns) : Boxes H' xs ns := by
  induction b with
  | nil => exact .nil
  | cons h _ ih => exact .cons (t _ _ h) ih
theorem Boxes.len {H : Hp} {xs : List V} {ns : List Str} (b : Boxes H xs ns) : xs.length = ns.length := by
  induction b with
  | nil => rfl
  | cons _ _ ih => simp [ih]
theorem Boxes.get {H : Hp} : ∀ {xs : List V} {ns : List Str}, Boxes H xs ns → ∀ (i : Nat) (x : V), xs[i]? = some x → ∃ (p : Addr) (n : Str) (z : Int), x = .ref p ∧ ns[i]? = some n ∧ H p = some (.tup [.str n, .int z])
  | _, _, .nil, i, x, e => by simp at e
  | _, _, .cons h r, 0, x, e => by simp at e; subst e; exact ⟨_, _, _, rfl, rfl, h⟩
  | _, _, .cons h r, i + 1, x, e => r.get i x (by simpa using e)
theorem Boxes.snoc {H : Hp} {xs : List V} {ns : List Str} (b : Boxes H xs ns) {p : Addr} {n : Str} {z : Int} (h : H p = some (.tup [.str n, .int z])) : Boxes H (xs ++ [.ref p]) (ns ++ [n]) := by
  induction b with
  | nil => exact .cons h .nil
  | cons h' _ ih => exact .cons h' ih
inductive Pile (H : Hp) : List V → List (Ex × Int) → Prop
  | nil : Pile H [] []
  | snoc {p : Addr} {x : V} {e : Ex} {s : Int} {xs ps} : Pile H xs ps → H p = some (.tup [x, .int s]) → e.At H x → (s = 1 ∨ s = -1) → Pile H (xs ++ [.ref p]) ((e, s) :: ps)
theorem Pile.mono {H H' : Hp} (t : Tups H H') {xs : List V} {ps : List (Ex × Int)} (b : Pile H xs ps) : Pile H' xs ps := by
  induction b with
  | nil => exact .nil
  | snoc _ h1 h2 h3 ih => exact .snoc ih (t _ _ h1) (h2.mono t) h3
def psum (ns : List Str) (vs : List Int) : List (Ex × Int) → Int
  | [] => 0
  | (e, s) :: r => s * e.ev ns vs + psum ns vs r
def psz : List (Ex × Int) → Nat
  | [] => 0
  | (e, _) :: r => e.sz + psz r
def pok (ns : List Str) : List (Ex × Int) → Prop
  | [] => True
  | (e, _) :: r => e.ok ns ∧ pok ns r
theorem Ex.sz_le : ∀ (e : Ex), e.sz < 2 ^ (e.h + 1)
  | .num _ => by simp [Ex.sz, Ex.h]
  | .box _ => by simp [Ex.sz, Ex.h]
  | .two _ a b => by
    have h1 := Ex.sz_le a
    have h2 := Ex.sz_le b
    have h3 : 2 ^ (a.h + 1) ≤ 2 ^ (max a.h b.h + 1) := Nat.pow_le_pow_right (by decide) (by omega)
    have h4 : 2 ^ (b.h + 1) ≤ 2 ^ (max a.h b.h + 1) := Nat.pow_le_pow_right (by decide) (by omega)
    simp only [Ex.sz, Ex.h]
    rw [Nat.pow_succ 2 (max a.h b.h + 1)]
    omega
end L2
namespace L2
open PySem PySem.Spec PyProof.Rows
def rEqB (K : PySem.W.Frag) : R2 := fun x y H Q => ∃ l b ys zs, x = .ref l ∧ y = .ref b ∧ SqL K H l (blsV ys) ∧ SqL K H b (blsV zs) ∧ ys.length = zs.length ∧ Q (.bl (decide (ys = zs))) H
inductive Cd where
  | cmp (k : Bool) (a b : Ex)
  | nt (c : Cd)
  | both (c d : Cd)
def Cd.h : Cd → Nat
  | .cmp _ _ _ => 0
  | .nt c => c.h + 1
  | .both c d => max c.h d.h + 1
def Cd.ok (ns : List Str) (n : Nat) : Cd → Prop
  | .cmp _ a b => (a.ok ns ∧ a.h ≤ n) ∧ b.ok ns ∧ b.h ≤ n
  | .nt c => c.ok ns n
  | .both c d => c.ok ns n ∧ d.ok ns n
def markC (k : Bool) : Str := if k then "same" else "under"
def Cd.At (H : Hp) : Cd → V → Prop
  | .cmp k e f, v => ∃ a x y, v = .ref a ∧ H a = some (.tup [.str (markC k), x, y]) ∧ e.At H x ∧ f.At H y
  | .nt c, v => ∃ a x, v = .ref a ∧ H a = some (.tup [.str "not", x]) ∧ c.At H x
  | .both c d, v => ∃ a x y, v = .ref a ∧ H a = some (.tup [.str "both", x, y]) ∧ c.At H x ∧ d.At H y
theorem Cd.At.mono {H H' : Hp} (t : Tups H H') : ∀ {c : Cd} {v : V}, c.At H v → c.At H' v
  | .cmp _ e f, _, ⟨a, x, y, h1, h2, h3, h4⟩ => ⟨a, x, y, h1, t _ _ h2, h3.mono t, h4.mono t⟩
  | .nt c, _, ⟨a, x, h1, h2, h3⟩ => ⟨a, x, h1, t _ _ h2, Cd.At.mono t h3⟩
  | .both c d, _, ⟨a, x, y, h1, h2, h3, h4⟩ => ⟨a, x, y, h1, t _ _ h2, Cd.At.mono t h3, Cd.At.mono t h4⟩
def Cd.ev (ns : List Str) (vs : List Int) : Cd → Bool
  | .cmp k a b => if k then decide (a.ev ns vs = b.ev ns vs) else decide (a.ev ns vs < b.ev ns vs)
  | .nt c => !c.ev ns vs
  | .both c d => c.ev ns vs && d.ev ns vs
end L2
namespace L2
open PySem PySem.Spec PyProof.Rows
def rSplit : V → List V → Hp → VK → Prop := fun x vs H Q => ∃ z y, x = .str z ∧ vs = [.str y] ∧ (y.length == 0) = false ∧ z.length + 2 ≤ sizeLine ∧ New H (.lst (strsV (Txt.split z y))) Q
def jl (c : Nat) : List (List Nat) → List Nat
  | [] => []
  | [x] => x
  | x :: y :: r => x ++ c :: jl c (y :: r)
theorem jl_inj {c : Nat} : ∀ {xs ys : List (List Nat)}, xs ≠ [] → ys ≠ [] → (∀ x ∈ xs, c ∉ x) → (∀ y ∈ ys, c ∉ y) → jl c xs = jl c ys → xs = ys
  | [], _, h, _, _, _, _ => absurd rfl h
  | _, [], _, h, _, _, _ => absurd rfl h
  | [x], [y], _, _, _, _, e => by simp only [jl] at e; rw [e]
  | [x], y :: z :: r, _, _, hx, _, e => by
    simp only [jl] at e
    exact absurd (show c ∈ x by rw [e]; simp) (hx x (by simp))
  | x :: z :: r, [y], _, _, _, hy, e => by
    simp only [jl] at e
    exact absurd (show c ∈ y by rw [← e]; simp) (hy y (by simp))
  | x :: z :: r, y :: w :: r', _, _, hx, hy, e => by
    simp only [jl] at e
    have cut : ∀ (a b : List Nat) (s t : List Nat), c ∉ a → c ∉ b → a ++ c :: s = b ++ c :: t → a = b ∧ s = t := by
      intro a
      induction a with
      | nil =>
        intro b s t _ hb e
        cases b with
        | nil => simpa using e
        | cons d b =>
          simp only [List.nil_append, List.cons_append, List.cons.injEq] at e
          exact absurd (show c ∈ d :: b by rw [e.1]; simp) hb
      | cons d a ih =>
        intro b s t ha hb e
        cases b with
        | nil =>
          simp only [List.nil_append, List.cons_append, List.cons.injEq] at e
          exact absurd (show c ∈ d :: a by rw [← e.1]; simp) ha
        | cons d' b =>
          simp only [List.cons_append, List.cons.injEq] at e
          obtain ⟨h1, h2⟩ := ih b s t (fun h => ha (List.mem_cons_of_mem _ h)) (fun h => hb (List.mem_cons_of_mem _ h)) e.2
          exact ⟨by rw [e.1, h1], h2⟩
    obtain ⟨h1, h2⟩ := cut _ _ _ _ (hx x (by simp)) (hy y (by simp)) e
    have := jl_inj (by simp) (by simp) (fun a h => hx a (List.mem_cons_of_mem _ h)) (fun a h => hy a (List.mem_cons_of_mem _ h)) h2
    rw [h1, this]
theorem join_jl (c : Nat) : ∀ ws : List Str, (Str.join ⟨#[c]⟩ ws).cps.toList = jl c (ws.map fun w => w.cps.toList)
  | [] => rfl
  | [x] => rfl
  | x :: y :: r => by
    show (x ++ (⟨#[c]⟩ : Str) ++ Str.join ⟨#[c]⟩ (y :: r)).cps.toList = _
    rw [sx_app, sx_app, join_jl c (y :: r)]
    simp [jl]
theorem split_join {c : Nat} {ws : List Str} (hne : ws ≠ []) (hf : ∀ w ∈ ws, c ∉ w.cps.toList) : Txt.split (Str.join ⟨#[c]⟩ ws) ⟨#[c]⟩ = ws := by
  have h1 := StrLaws.join_split (Str.join ⟨#[c]⟩ ws) ⟨#[c]⟩
  have h2 := congrArg (fun z : Str => z.cps.toList) h1
  simp only [join_jl] at h2
  have hp := split_pos (Str.join ⟨#[c]⟩ ws) ⟨#[c]⟩
  have h3 := jl_inj (xs := (Txt.split (Str.join ⟨#[c]⟩ ws) ⟨#[c]⟩).map fun w => w.cps.toList) (ys := ws.map fun w => w.cps.toList)
    (fun e => by have := congrArg List.length e; simp only [List.length_map, List.length_nil] at this; omega) (fun e => hne (by simpa using e))
    (fun x hx => by
      obtain ⟨w, hw, rfl⟩ := List.mem_map.mp hx
      exact StrLaws.split_free _ c w hw)
    (fun x hx => by
      obtain ⟨w, hw, rfl⟩ := List.mem_map.mp hx
      exact hf w hw) h2
  have inj : ∀ {a b : List Str}, (a.map fun w => w.cps.toList) = (b.map fun w => w.cps.toList) → a = b := by
    intro a
    induction a with
    | nil => intro b h; cases b with
      | nil => rfl
      | cons y b => simp at h
    | cons x a ih => intro b h; cases b with
      | nil => simp at h
      | cons y b =>
        simp only [List.map_cons, List.cons.injEq] at h
        rw [sx_ext h.1, ih h.2]
  exact inj h3
theorem join_app (s : Str) : ∀ {a b : List Str}, a ≠ [] → b ≠ [] → Str.join s (a ++ b) = Str.join s a ++ s ++ Str.join s b
  | [], _, h, _ => absurd rfl h
  | _, [], _, h => absurd rfl h
  | [x], y :: b, _, _ => rfl
  | x :: z :: a, y :: b, _, _ => by
    show x ++ s ++ Str.join s ((z :: a) ++ (y :: b)) = x ++ s ++ Str.join s (z :: a) ++ s ++ Str.join s (y :: b)
    rw [join_app s (by simp) (by simp), sx_assoc, sx_assoc, sx_assoc, sx_assoc, sx_assoc]
end L2
namespace L2
open PySem
abbrev bl1 : Str := ⟨#[32]⟩
theorem bl1_eq : Str.ofString " " = bl1 := by decide +kernel
def Tx (ws : List Str) : Str := Str.join bl1 ws
def sgnE (k : Bool) : Str := if k then "+" else "-"
def sgnC (k : Bool) : Str := if k then "=" else "<"
def Ex.words : Ex → List Str
  | .num i => [Str.ofString (toString i)]
  | .box n => [n]
  | .two k a b => Str.ofString "(" :: ((a.words ++ sgnE k :: b.words) ++ [Str.ofString ")"])
def Cd.words : Cd → List Str
  | .cmp k a b => a.words ++ sgnC k :: b.words
  | .nt c => Str.ofString "not" :: c.words
  | .both c d => Str.ofString "(" :: ((c.words ++ Str.ofString "and" :: d.words) ++ [Str.ofString ")"])
def Ex.names : Ex → List Str
  | .num _ => []
  | .box n => [n]
  | .two _ a b => a.names ++ b.names
def Cd.names : Cd → List Str
  | .cmp _ a b => a.names ++ b.names
  | .nt c => c.names
  | .both c d => c.names ++ d.names
theorem Ex.words_ne : ∀ e : Ex, e.words ≠ []
  | .num _ => by simp [Ex.words]
  | .box _ => by simp [Ex.words]
  | .two _ _ _ => by simp [Ex.words]
theorem Cd.words_ne : ∀ c : Cd, c.words ≠ []
  | .cmp _ a _ => by simp [Cd.words]
  | .nt _ => by simp [Cd.words]
  | .both _ _ => by simp [Cd.words]
theorem tx_mid {a b : List Str} (m : Str) (ha : a ≠ []) (hb : b ≠ []) : Tx (a ++ m :: b) = Tx a ++ (bl1 ++ m ++ bl1) ++ Tx b := by
  unfold Tx
  rw [show a ++ m :: b = a ++ ([m] ++ b) from rfl, join_app bl1 ha (by simp), join_app bl1 (a := [m]) (by simp) hb]
  show Str.join bl1 a ++ bl1 ++ (m ++ bl1 ++ Str.join bl1 b) = _
  simp only [sx_assoc]
theorem tx_cons (m : Str) {a : List Str} (ha : a ≠ []) : Tx (m :: a) = m ++ bl1 ++ Tx a := by
  unfold Tx
  rw [show m :: a = [m] ++ a from rfl, join_app bl1 (a := [m]) (by simp) ha]
  rfl
theorem tx_snoc (m : Str) {a : List Str} (ha : a ≠ []) : Tx (a ++ [m]) = Tx a ++ (bl1 ++ m) := by
  unfold Tx
  rw [join_app bl1 ha (by simp)]
  show Str.join bl1 a ++ bl1 ++ m = _
  rw [sx_assoc]
def isLow (y : Str) : Bool := !y.cps.toList.isEmpty && y.cps.toList.all fun c => decide (97 ≤ c) && decide (c ≤ 122)
structure Good (ys : List Str) : Prop where
  low : ∀ y ∈ ys, isLow y = true
  nt : (Str.ofString "not") ∉ ys
  an : (Str.ofString "and") ∉ ys
  ln : ∀ y ∈ ys, y.length ≤ 8
theorem Good.no {ys : List Str} (g : Good ys) {y : Str} (h : isLow y = false) : y ∉ ys := fun m => by
  have := g.low y m
  rw [h] at this
  cases this
theorem low_noblank {y : Str} (h : isLow y = true) : 32 ∉ y.cps.toList := fun m => by
  unfold isLow at h
  rw [Bool.and_eq_true, List.all_eq_true] at h
  have := h.2 32 m
  simp at this
theorem dig_facts {i : Int} (h0 : 0 ≤ i) (h1 : i < 10) : isLow (Str.ofString (toString i)) = false ∧ 32 ∉ (Str.ofString (toString i)).cps.toList := by
  rcases dig_cases h0 h1 with rfl | rfl | rfl | rfl | rfl | rfl | rfl | rfl | rfl | rfl <;> decide +kernel
theorem mark_facts : ∀ m ∈ ([Str.ofString "(", Str.ofString ")", Str.ofString "+", Str.ofString "-", Str.ofString "=", Str.ofString "<"] : List Str), isLow m = false ∧ 32 ∉ m.cps.toList ∧ m.length = 1 := by decide +kernel
theorem sgnE_in (k : Bool) : sgnE k ∈ ([Str.ofString "(", Str.ofString ")", Str.ofString "+", Str.ofString "-", Str.ofString "=", Str.ofString "<"] : List Str) := by cases k <;> decide +kernel
theorem sgnC_in (k : Bool) : sgnC k ∈ ([Str.ofString "(", Str.ofString ")", Str.ofString "+", Str.ofString "-", Str.ofString "=", Str.ofString "<"] : List Str) := by cases k <;> decide +kernel
theorem brL_in : Str.ofString "(" ∈ ([Str.ofString "(", Str.ofString ")", Str.ofString "+", Str.ofString "-", Str.ofString "=", Str.ofString "<"] : List Str) := by decide +kernel
theorem brR_in : Str.ofString ")" ∈ ([Str.ofString "(", Str.ofString ")", Str.ofString "+", Str.ofString "-", Str.ofString "=", Str.ofString "<"] : List Str) := by decide +kernel
def pick (ys ws : List Str) : List Str := ws.filter fun w => decide (w ∈ ys)
theorem pick_app (ys a b : List Str) : pick ys (a ++ b) = pick ys a ++ pick ys b := List.filter_append ..
theorem pick_no {ys : List Str} {w : Str} (r : List Str) (h : w ∉ ys) : pick ys (w :: r) = pick ys r := by unfold pick; rw [List.filter_cons, if_neg (by simpa using h)]
theorem pick_nil (ys : List Str) : pick ys [] = [] := rfl
theorem Ex.pick {ys : List Str} (g : Good ys) : ∀ e : Ex, e.ok ys → L2.pick ys e.words = e.names
  | .num i, h => by
    have hi := (dig_facts h.1 h.2).1
    simp only [Ex.words, Ex.names]
    rw [pick_no _ (g.no hi), pick_nil]
  | .box n, h => by
    have h' : n ∈ ys := h
    simp [Ex.words, Ex.names, L2.pick, h']
  | .two k a b, h => by
    simp only [Ex.words, Ex.names]
    rw [pick_no _ (g.no (mark_facts _ brL_in).1), pick_app, pick_app, pick_no _ (g.no (mark_facts _ (sgnE_in k)).1), pick_no _ (g.no (mark_facts _ brR_in).1), pick_nil, Ex.pick g a h.1, Ex.pick g b h.2, List.append_nil]
theorem Cd.pick {ys : List Str} {n : Nat} (g : Good ys) : ∀ c : Cd, c.ok ys n → L2.pick ys c.words = c.names
  | .cmp k a b, h => by
    simp only [Cd.words, Cd.names]
    rw [pick_app, pick_no _ (g.no (mark_facts _ (sgnC_in k)).1), Ex.pick g a h.1.1, Ex.pick g b h.2.1]
  | .nt c, h => by
    simp only [Cd.words, Cd.names]
    rw [pick_no _ g.nt, Cd.pick g c h]
  | .both c d, h => by
    simp only [Cd.words, Cd.names]
    rw [pick_no _ (g.no (mark_facts _ brL_in).1), pick_app, pick_app, pick_no _ g.an, pick_no _ (g.no (mark_facts _ brR_in).1), pick_nil, Cd.pick g c h.1, Cd.pick g d h.2, List.append_nil]
theorem Ex.noblank {ys : List Str} (g : Good ys) : ∀ e : Ex, e.ok ys → ∀ w ∈ e.words, 32 ∉ w.cps.toList
  | .num i, h, w, hw => by
    simp only [Ex.words, List.mem_singleton] at hw
    subst hw
    exact (dig_facts h.1 h.2).2
  | .box n, h, w, hw => by
    simp only [Ex.words, List.mem_singleton] at hw
    subst hw
    exact low_noblank (g.low _ h)
  | .two k a b, h, w, hw => by
    simp only [Ex.words, List.mem_cons, List.mem_append, List.mem_singleton, List.not_mem_nil, or_false] at hw
    rcases hw with rfl | (hw | rfl | hw) | rfl
    · exact (mark_facts _ brL_in).2.1
    · exact Ex.noblank g a h.1 w hw
    · exact (mark_facts _ (sgnE_in k)).2.1
    · exact Ex.noblank g b h.2 w hw
    · exact (mark_facts _ brR_in).2.1
theorem Cd.noblank {ys : List Str} {n : Nat} (g : Good ys) : ∀ c : Cd, c.ok ys n → ∀ w ∈ c.words, 32 ∉ w.cps.toList
  | .cmp k a b, h, w, hw => by
    simp only [Cd.words, List.mem_cons, List.mem_append] at hw
    rcases hw with hw | rfl | hw
    · exact Ex.noblank g a h.1.1 w hw
    · exact (mark_facts _ (sgnC_in k)).2.1
    · exact Ex.noblank g b h.2.1 w hw
  | .nt c, h, w, hw => by
    simp only [Cd.words, List.mem_cons] at hw
    rcases hw with rfl | hw
    · decide +kernel
    · exact Cd.noblank g c h w hw
  | .both c d, h, w, hw => by
    simp only [Cd.words, List.mem_cons, List.mem_append, List.mem_singleton, List.not_mem_nil, or_false] at hw
    rcases hw with rfl | (hw | rfl | hw) | rfl
    · exact (mark_facts _ brL_in).2.1
    · exact Cd.noblank g c h.1 w hw
    · decide +kernel
    · exact Cd.noblank g d h.2 w hw
    · exact (mark_facts _ brR_in).2.1
inductive Th where
  | ex (e : Ex)
  | cd (c : Cd)
def Cd.hh : Cd → Nat
  | .cmp _ a b => max a.h b.h + 1
  | .nt c => c.hh + 1
  | .both c d => max c.hh d.hh + 1
def Cd.sz : Cd → Nat
  | .cmp _ a b => a.sz + b.sz + 1
  | .nt c => c.sz + 1
  | .both c d => c.sz + d.sz + 1
def Th.hh : Th → Nat
  | .ex e => e.h
  | .cd c => c.hh
def Th.ok (ys : List Str) : Th → Prop
  | .ex e => e.ok ys
  | .cd c => c.ok ys 5
def Th.At (H : Hp) : Th → V → Prop
  | .ex e, v => e.At H v
  | .cd c, v => c.At H v
def Th.words : Th → List Str
  | .ex e => e.words
  | .cd c => c.words
def Th.names : Th → List Str
  | .ex e => e.names
  | .cd c => c.names
def Th.sz : Th → Nat
  | .ex e => e.sz
  | .cd c => c.sz
theorem Th.At.mono {H H' : Hp} (t : Tups H H') {x : Th} {v : V} (h : x.At H v) : x.At H' v := by
  cases x with
  | ex e => exact Ex.At.mono t h
  | cd c => exact Cd.At.mono t h
theorem tx_len1 (w : Str) : (Tx [w]).length = w.length := rfl
theorem bl1_len : bl1.length = 1 := rfl
theorem Ex.len {ys : List Str} (g : Good ys) : ∀ e : Ex, e.ok ys → (Tx e.words).length ≤ 12 * e.sz
  | .num i, h => by
    have := dig_len h.1 h.2
    simp only [Ex.words, tx_len1, Ex.sz]
    omega
  | .box n, h => by
    have := g.ln n h
    simp only [Ex.words, tx_len1, Ex.sz]
    omega
  | .two k a b, h => by
    have h1 := Ex.len g a h.1
    have h2 := Ex.len g b h.2
    have e1 := (mark_facts _ brL_in).2.2
    have e2 := (mark_facts _ brR_in).2.2
    have e3 := (mark_facts _ (sgnE_in k)).2.2
    simp only [Ex.words, Ex.sz]
    rw [tx_cons _ (by simp), tx_snoc _ (by simp), tx_mid _ a.words_ne b.words_ne]
    simp only [sx_len, bl1_len, e1, e2, e3]
    omega
theorem Cd.len {ys : List Str} {n : Nat} (g : Good ys) : ∀ c : Cd, c.ok ys n → (Tx c.words).length ≤ 12 * c.sz
  | .cmp k a b, h => by
    have h1 := Ex.len g a h.1.1
    have h2 := Ex.len g b h.2.1
    have e3 := (mark_facts _ (sgnC_in k)).2.2
    simp only [Cd.words, Cd.sz]
    rw [tx_mid _ a.words_ne b.words_ne]
    simp only [sx_len, bl1_len, e3]
    omega
  | .nt c, h => by
    have h1 := Cd.len g c h
    have e1 : (Str.ofString "not").length = 3 := by decide +kernel
    simp only [Cd.words, Cd.sz]
    rw [tx_cons _ c.words_ne]
    simp only [sx_len, bl1_len, e1]
    omega
  | .both c d, h => by
    have h1 := Cd.len g c h.1
    have h2 := Cd.len g d h.2
    have e1 := (mark_facts _ brL_in).2.2
    have e2 := (mark_facts _ brR_in).2.2
    have e3 : (Str.ofString "and").length = 3 := by decide +kernel
    simp only [Cd.words, Cd.sz]
    rw [tx_cons _ (by simp), tx_snoc _ (by simp), tx_mid _ c.words_ne d.words_ne]
    simp only [sx_len, bl1_len, e1, e2, e3]
    omega
theorem Th.len {ys : List Str} (g : Good ys) (x : Th) (h : x.ok ys) : (Tx x.words).length ≤ 12 * x.sz := by
  cases x with
  | ex e => exact Ex.len g e h
  | cd c => exact Cd.len g c h
theorem Cd.sz_le : ∀ c : Cd, c.sz < 2 ^ (c.hh + 1)
  | .cmp _ a b => by
    have h1 := a.sz_le
    have h2 := b.sz_le
    have h3 : 2 ^ (a.h + 1) ≤ 2 ^ (max a.h b.h + 1) := Nat.pow_le_pow_right (by decide) (by omega)
    have h4 : 2 ^ (b.h + 1) ≤ 2 ^ (max a.h b.h + 1) := Nat.pow_le_pow_right (by decide) (by omega)
    simp only [Cd.sz, Cd.hh]
    rw [Nat.pow_succ 2 (max a.h b.h + 1)]
    omega
  | .nt c => by
    have h1 := Cd.sz_le c
    simp only [Cd.sz, Cd.hh]
    rw [Nat.pow_succ 2 (c.hh + 1)]
    omega
  | .both a b => by
    have h1 := Cd.sz_le a
    have h2 := Cd.sz_le b
    have h3 : 2 ^ (a.hh + 1) ≤ 2 ^ (max a.hh b.hh + 1) := Nat.pow_le_pow_right (by decide) (by omega)
    have h4 : 2 ^ (b.hh + 1) ≤ 2 ^ (max a.hh b.hh + 1) := Nat.pow_le_pow_right (by decide) (by omega)
    simp only [Cd.sz, Cd.hh]
    rw [Nat.pow_succ 2 (max a.hh b.hh + 1)]
    omega
theorem Th.sz_le (x : Th) (h : x.hh ≤ 12) : x.sz ≤ 10000 := by
  have h2 : 2 ^ (x.hh + 1) ≤ 2 ^ 13 := Nat.pow_le_pow_right (by decide) (by omega)
  cases x with
  | ex e => have := e.sz_le; simp only [Th.sz, Th.hh] at *; omega
  | cd c => have := c.sz_le; simp only [Th.sz, Th.hh] at *; omega
theorem inV_strs (w : Str) (ys : List Str) : inV (.str w) (strsV ys) = decide (w ∈ ys) := by
  unfold inV strsV
  rw [List.any_map, Bool.eq_iff_iff, List.any_eq_true, decide_eq_true_iff]
  constructor
  · rintro ⟨y, hy, e⟩
    have : (y == w) = true := e
    have : y = w := by simpa using this
    exact this ▸ hy
  · intro h
    exact ⟨w, h, by show (w == w) = true; simp⟩
theorem strs_flat (ys : List Str) : (strsV ys).all flatV = true := by simp [strsV, flatV]
theorem i_inT {K : PySem.W.Frag} {H : Hp} {Q : VK} {p : Addr} {ys : List Str} {w : Str} (h1 : SqT K H p (strsV ys)) (h : Q (.bl (decide (w ∈ ys))) H) : rIn K false (.str w) (.ref p) H Q := ⟨p, strsV ys, rfl, .inr h1, rfl, strs_flat ys, by rw [inV_strs]; exact h⟩
end L2
namespace L2
open PySem
abbrev markKv : List (Key × V) := [(Sum.inr (Str.ofString "plus"), .str (Str.ofString " + ")), (Sum.inr (Str.ofString "less"), .str (Str.ofString " - ")), (Sum.inr (Str.ofString "same"), .str (Str.ofString " = ")), (Sum.inr (Str.ofString "under"), .str (Str.ofString " < ")), (Sum.inr (Str.ofString "both"), .str (Str.ofString " and "))]
structure Two (H : Hp) (x : Th) (v : V) (m sg : Str) (x1 x2 : Th) (a : Addr) (v1 v2 : V) : Prop where
  v : v = .ref a
  at_ : H a = some (.tup [.str m, v1, v2])
  a1 : x1.At H v1
  a2 : x2.At H v2
  n1 : ¬ m = Str.ofString "number"
  n2 : ¬ m = Str.ofString "box"
  n3 : ¬ m = Str.ofString "not"
  names : x.names = x1.names ++ x2.names
  h1 : x1.hh < x.hh
  h2 : x2.hh < x.hh
  sz : x1.sz + x2.sz + 1 = x.sz
  ok : ∀ ys, x.ok ys → x1.ok ys ∧ x2.ok ys
  mv : valV (mergeK [] markKv) (Sum.inr m) = some (.str (bl1 ++ sg ++ bl1))
  sl : sg.length ≤ 3
  ws : (m ∈ [Str.ofString "same", Str.ofString "under"] ∧ x.words = x1.words ++ sg :: x2.words) ∨ (m ∉ [Str.ofString "same", Str.ofString "under"] ∧ x.words = Str.ofString "(" :: ((x1.words ++ sg :: x2.words) ++ [Str.ofString ")"]))
theorem Th.view {H : Hp} {x : Th} {v : V} (h : x.At H v) : (∃ i a, x = .ex (.num i) ∧ v = .ref a ∧ H a = some (.tup [.str "number", .int i])) ∨ (∃ n a, x = .ex (.box n) ∧ v = .ref a ∧ H a = some (.tup [.str "box", .str n])) ∨
    (∃ c a v1, x = .cd (.nt c) ∧ v = .ref a ∧ H a = some (.tup [.str "not", v1]) ∧ (Th.cd c).At H v1) ∨ ∃ m sg x1 x2 a v1 v2, Two H x v m sg x1 x2 a v1 v2 := by
  cases x with
  | ex e => cases e with
    | num i =>
      obtain ⟨a, h1, h2⟩ := h
      exact .inl ⟨i, a, rfl, h1, h2⟩
    | box n =>
      obtain ⟨a, h1, h2⟩ := h
      exact .inr (.inl ⟨n, a, rfl, h1, h2⟩)
    | two k e f =>
      obtain ⟨a, v1, v2, h1, h2, h3, h4⟩ := h
      refine .inr (.inr (.inr ⟨markS k, sgnE k, .ex e, .ex f, a, v1, v2, h1, h2, h3, h4, by cases k <;> decide +kernel, by cases k <;> decide +kernel, by cases k <;> decide +kernel, rfl, ?_, ?_, rfl, fun ys h => h, by cases k <;> decide +kernel, by cases k <;> decide +kernel, .inr ⟨by cases k <;> decide +kernel, rfl⟩⟩))
      · simp only [Th.hh, Ex.h]; omega
      · simp only [Th.hh, Ex.h]; omega
  | cd c => cases c with
    | nt c =>
      obtain ⟨a, v1, h1, h2, h3⟩ := h
      exact .inr (.inr (.inl ⟨c, a, v1, rfl, h1, h2, h3⟩))
    | cmp k e f =>
      obtain ⟨a, v1, v2, h1, h2, h3, h4⟩ := h
      refine .inr (.inr (.inr ⟨markC k, sgnC k, .ex e, .ex f, a, v1, v2, h1, h2, h3, h4, by cases k <;> decide +kernel, by cases k <;> decide +kernel, by cases k <;> decide +kernel, rfl, ?_, ?_, rfl, fun ys h => ⟨h.1.1, h.2.1⟩, by cases k <;> decide +kernel, by cases k <;> decide +kernel, .inl ⟨by cases k <;> decide +kernel, rfl⟩⟩))
      · simp only [Th.hh, Cd.hh]; omega
      · simp only [Th.hh, Cd.hh]; omega
    | both c d =>
      obtain ⟨a, v1, v2, h1, h2, h3, h4⟩ := h
      refine .inr (.inr (.inr ⟨Str.ofString "both", Str.ofString "and", .cd c, .cd d, a, v1, v2, h1, h2, h3, h4, by decide +kernel, by decide +kernel, by decide +kernel, rfl, ?_, ?_, rfl, fun ys h => h, by decide +kernel, by decide +kernel, .inr ⟨by decide +kernel, rfl⟩⟩))
      · simp only [Th.hh, Cd.hh]; omega
      · simp only [Th.hh, Cd.hh]; omega
theorem Th.pick {ys : List Str} (g : Good ys) (x : Th) (h : x.ok ys) : L2.pick ys x.words = x.names := by
  cases x with
  | ex e => exact Ex.pick g e h
  | cd c => exact Cd.pick g c h
theorem Th.noblank {ys : List Str} (g : Good ys) (x : Th) (h : x.ok ys) : ∀ w ∈ x.words, 32 ∉ w.cps.toList := by
  cases x with
  | ex e => exact Ex.noblank g e h
  | cd c => exact Cd.noblank g c h
theorem Th.words_ne (x : Th) : x.words ≠ [] := by
  cases x with
  | ex e => exact e.words_ne
  | cd c => exact c.words_ne
theorem Th.split {ys : List Str} (g : Good ys) (x : Th) (h : x.ok ys) : Txt.split (Tx x.words) bl1 = x.words := split_join x.words_ne (x.noblank g h)
theorem strsV_app (a b : List Str) : strsV a ++ strsV b = strsV (a ++ b) := by simp [strsV]
theorem i_dget {σ : St} {H : Hp} {Q : VK} {td ty : TE} (h : td σ H fun x H1 => ty σ H1 fun y H2 => ∃ a v, x = .ref a ∧ DGet H2 a y (some v) ∧ Q v H2) : tDGet td ty σ H Q := h
end L2
namespace L2
open PySem PySem.Spec PyProof.Rows
def fixN (y : Str) : Str := if y ∈ [Str.ofString "not", Str.ofString "and"] then Str.ofString "nota" else y
theorem good_of {ys : List Str} (h : ∀ y ∈ ys, isLow y = true ∧ y.length ≤ 8) : Good (ys.map fixN) := by
  have hn : isLow (Str.ofString "nota") = true ∧ (Str.ofString "nota").length ≤ 8 ∧ Str.ofString "nota" ≠ Str.ofString "not" ∧ Str.ofString "nota" ≠ Str.ofString "and" := by decide +kernel
  refine ⟨fun y hy => ?_, fun hy => ?_, fun hy => ?_, fun y hy => ?_⟩
  · obtain ⟨z, hz, rfl⟩ := List.mem_map.mp hy
    unfold fixN
    split
    · exact hn.1
    · exact (h z hz).1
  · obtain ⟨z, hz, e⟩ := List.mem_map.mp hy
    unfold fixN at e
    split at e
    · exact hn.2.2.1 e
    · rename_i hz'
      exact hz' (by rw [e]; simp)
  · obtain ⟨z, hz, e⟩ := List.mem_map.mp hy
    unfold fixN at e
    split at e
    · exact hn.2.2.2 e
    · rename_i hz'
      exact hz' (by rw [e]; simp)
  · obtain ⟨z, hz, rfl⟩ := List.mem_map.mp hy
    unfold fixN
    split
    · exact hn.2.1
    · exact (h z hz).2
end L2
namespace L2
open PySem
inductive Tr where
  | non
  | int (i : Int)
  | str (s : Str)
  | tup (xs : List Tr)
  | lst (xs : List Tr)
mutual
def Tr.At (H : Hp) : Tr → V → List Addr → Prop
  | .non, v, fs => v = .non ∧ fs = []
  | .int i, v, fs => v = .int i ∧ fs = []
  | .str s, v, fs => v = .str s ∧ fs = []
  | .tup xs, v, fs => ∃ a vs, v = .ref a ∧ H a = some (.tup vs) ∧ Tr.Ats H xs vs fs
  | .lst xs, v, fs => ∃ a vs gs, v = .ref a ∧ H a = some (.lst vs) ∧ Tr.Ats H xs vs gs ∧ fs = a :: gs
def Tr.Ats (H : Hp) : List Tr → List V → List Addr → Prop
  | [], vs, fs => vs = [] ∧ fs = []
  | x :: xs, vs, fs => ∃ v ws f g, vs = v :: ws ∧ fs = f ++ g ∧ Tr.At H x v f ∧ Tr.Ats H xs ws g
end
def Keep (fs : List Addr) (H H' : Hp) : Prop := Tups H H' ∧ ∀ a ∈ fs, ∀ xs, H a = some (.lst xs) → H' a = some (.lst xs)
theorem Same.keep {H H' : Hp} (s : Same H H') (fs : List Addr) : Keep fs H H' := ⟨s.tups, fun a _ xs h => s a _ h⟩
theorem Keep.upd {fs : List Addr} {H : Hp} {l : Addr} {xs : List V} {o : HO} (h : H l = some (.lst xs)) (n : l ∉ fs) : Keep fs H (upd H l o) := ⟨Tups.upd h, fun a m ys e => by
  have hne : a ≠ l := fun z => n (z ▸ m)
  rw [upd_ne hne]
  exact e⟩
theorem Keep.trans {fs : List Addr} {H H1 H2 : Hp} (a : Keep fs H H1) (b : Keep fs H1 H2) : Keep fs H H2 := ⟨a.1.trans b.1, fun c m xs h => b.2 c m xs (a.2 c m xs h)⟩
theorem Keep.sub {fs gs : List Addr} {H H' : Hp} (k : Keep fs H H') (h : ∀ a ∈ gs, a ∈ fs) : Keep gs H H' := ⟨k.1, fun a m => k.2 a (h a m)⟩
mutual
theorem Tr.At.mono {H H' : Hp} : ∀ {x : Tr} {v : V} {fs : List Addr}, x.At H v fs → Keep fs H H' → x.At H' v fs
  | .non, _, _, h, _ => by simpa only [Tr.At] using h
  | .int _, _, _, h, _ => by simpa only [Tr.At] using h
  | .str _, _, _, h, _ => by simpa only [Tr.At] using h
  | .tup xs, v, fs, h, k => by
    simp only [Tr.At] at h ⊢
    obtain ⟨a, vs, e, g, r⟩ := h
    exact ⟨a, vs, e, k.1 _ _ g, Tr.Ats.mono r k⟩
  | .lst xs, v, fs, h, k => by
    simp only [Tr.At] at h ⊢
    obtain ⟨a, vs, gs, e, g, r, rfl⟩ := h
    exact ⟨a, vs, gs, e, k.2 _ (by simp) _ g, Tr.Ats.mono r (k.sub fun b m => by simp [m]), rfl⟩
theorem Tr.Ats.mono {H H' : Hp} : ∀ {xs : List Tr} {vs : List V} {fs : List Addr}, Tr.Ats H xs vs fs → Keep fs H H' → Tr.Ats H' xs vs fs
  | [], _, _, h, _ => by simpa only [Tr.Ats] using h
  | x :: xs, vs, fs, h, k => by
    simp only [Tr.Ats] at h ⊢
    obtain ⟨v, ws, f, g, e, rfl, a, b⟩ := h
    exact ⟨v, ws, f, g, e, rfl, Tr.At.mono a (k.sub fun c m => by simp [m]), Tr.Ats.mono b (k.sub fun c m => by simp [m])⟩
end
theorem Tr.Ats.snoc {H : Hp} : ∀ {xs : List Tr} {vs : List V} {fs gs : List Addr} {x : Tr} {v : V}, Tr.Ats H xs vs fs → x.At H v gs → Tr.Ats H (xs ++ [x]) (vs ++ [v]) (fs ++ gs)
  | [], vs, fs, gs, x, v, h, a => by
    simp only [Tr.Ats] at h
    obtain ⟨rfl, rfl⟩ := h
    simp only [List.nil_append, Tr.Ats]
    exact ⟨v, [], gs, [], rfl, by simp, a, rfl, rfl⟩
  | y :: xs, vs, fs, gs, x, v, h, a => by
    simp only [Tr.Ats] at h
    obtain ⟨w, ws, f, g, rfl, rfl, b, c⟩ := h
    simp only [List.cons_append, Tr.Ats]
    exact ⟨w, ws ++ [v], f, g ++ gs, rfl, by simp, b, c.snoc a⟩
theorem Tr.Ats.len {H : Hp} : ∀ {xs : List Tr} {vs : List V} {fs : List Addr}, Tr.Ats H xs vs fs → vs.length = xs.length
  | [], vs, fs, h => by
    simp only [Tr.Ats] at h
    obtain ⟨rfl, rfl⟩ := h
    rfl
  | y :: xs, vs, fs, h => by
    simp only [Tr.Ats] at h
    obtain ⟨w, ws, f, g, rfl, rfl, b, c⟩ := h
    simp [c.len]
theorem Tr.Ats.get {H : Hp} : ∀ {xs : List Tr} {vs : List V} {fs : List Addr}, Tr.Ats H xs vs fs → ∀ (i : Nat) (v : V), vs[i]? = some v → ∃ x f, xs[i]? = some x ∧ x.At H v f ∧ ∀ a ∈ f, a ∈ fs
  | [], vs, fs, h, i, v, e => by
    simp only [Tr.Ats] at h
    obtain ⟨rfl, rfl⟩ := h
    simp at e
  | y :: xs, vs, fs, h, i, v, e => by
    simp only [Tr.Ats] at h
    obtain ⟨w, ws, f, g, rfl, rfl, b, c⟩ := h
    cases i with
    | zero =>
      simp at e
      subst e
      exact ⟨y, f, rfl, b, fun a m => by simp [m]⟩
    | succ i =>
      obtain ⟨x, f', h1, h2, h3⟩ := c.get i v (by simpa using e)
      exact ⟨x, f', by simpa using h1, h2, fun a m => by simp [h3 a m]⟩
end L2
namespace L2
open PySem PySem.Spec PyProof.Rows
mutual
def Tr.h : Tr → Nat
  | .non => 0
  | .int _ => 0
  | .str _ => 0
  | .tup xs => Tr.hs xs + 1
  | .lst xs => Tr.hs xs + 1
def Tr.hs : List Tr → Nat
  | [] => 0
  | x :: xs => max x.h (Tr.hs xs)
end
theorem all_tt (n : Nat) : ((List.range n).all fun _ => true) = true := by simp
theorem in1_units (A : Around) : A.in1.units = A.units + 1 := rfl
section
variable {X : Cx} {pins : List (Addr × Obj)} {σ : St} {H : Hp} {s : Shared}
mutual
theorem Tr.eqAt (I : Inv X pins σ H s) : ∀ {t : Tr} {A : Around} {v w : V} {fs gs : List Addr} {u z : Value}, t.At H v fs → t.At H w gs → RelV v u → RelV w z → A.units + t.h < cLine → SeqAt.EqAt A s u z true
  | .non, A, v, w, fs, gs, u, z, h1, h2, r1, r2, hu => by
    simp only [Tr.At] at h1 h2
    obtain ⟨rfl, -⟩ := h1
    obtain ⟨rfl, -⟩ := h2
    cases r1
    cases r2
    exact SeqAt.EqAt.same _
  | .int i, A, v, w, fs, gs, u, z, h1, h2, r1, r2, hu => by
    simp only [Tr.At] at h1 h2
    obtain ⟨rfl, -⟩ := h1
    obtain ⟨rfl, -⟩ := h2
    obtain ⟨t1, rfl⟩ := r1
    obtain ⟨t2, rfl⟩ := r2
    have := SeqAt.EqAt.int_int (A := A) (s := s) i t1 i t2
    simpa using this
  | .str i, A, v, w, fs, gs, u, z, h1, h2, r1, r2, hu => by
    simp only [Tr.At] at h1 h2
    obtain ⟨rfl, -⟩ := h1
    obtain ⟨rfl, -⟩ := h2
    obtain ⟨t1, rfl⟩ := r1
    obtain ⟨t2, rfl⟩ := r2
    have := SeqAt.EqAt.str_str (A := A) (s := s) i t1 i t2
    simpa using this
  | .tup xs, A, v, w, fs, gs, u, z, h1, h2, r1, r2, hu => by
    simp only [Tr.At] at h1 h2
    obtain ⟨a, vs, rfl, e1, c1⟩ := h1
    obtain ⟨b, ws, rfl, e2, c2⟩ := h2
    cases r1
    cases r2
    by_cases hab : a = b
    · subst hab
      exact SeqAt.EqAt.same _
    refine SeqAt.EqAt.of_refs hab ?_
    obtain ⟨is1, q1, p1, _⟩ := I.tuple (SqT.of e1)
    obtain ⟨is2, q2, p2, _⟩ := I.tuple (SqT.of e2)
    simp only [Tr.h] at hu
    have hl : is1.length = is2.length := by rw [← q1.length, ← q2.length, c1.len, c2.len]
    have := SeqAt.RcAt.tuples (A := A) (s := s) (e := fun _ => true) p1 p2 (by omega) (fun j h1 h2 => by
      have := Tr.eqAts I (A := A.in1) c1 c2 q1 q2 (by rw [in1_units]; omega) j (by simpa using h1) (by simpa using h2)
      simpa using this)
    simpa [hl, all_tt] using this
  | .lst xs, A, v, w, fs, gs, u, z, h1, h2, r1, r2, hu => by
    simp only [Tr.At] at h1 h2
    obtain ⟨a, vs, _, rfl, e1, c1, _⟩ := h1
    obtain ⟨b, ws, _, rfl, e2, c2, _⟩ := h2
    cases r1
    cases r2
    by_cases hab : a = b
    · subst hab
      exact SeqAt.EqAt.same _
    refine SeqAt.EqAt.of_refs hab ?_
    obtain ⟨is1, q1, p1, _⟩ := I.list (SqL.of e1)
    obtain ⟨is2, q2, p2, _⟩ := I.list (SqL.of e2)
    simp only [Tr.h] at hu
    have hl : is1.length = is2.length := by rw [← q1.length, ← q2.length, c1.len, c2.len]
    have := SeqAt.RcAt.lists (A := A) (s := s) (e := fun _ => true) p1.isList p2.isList (by simpa using hl) (by omega) (fun j h1 h2 => by
      have := Tr.eqAts I (A := A.in1) c1 c2 q1 q2 (by rw [in1_units]; omega) j (by simpa using h1) (by simpa using h2)
      simpa using this)
    simpa [all_tt] using this
theorem Tr.eqAts (I : Inv X pins σ H s) : ∀ {ts : List Tr} {A : Around} {vs ws : List V} {fs gs : List Addr} {us zs : List Value}, Tr.Ats H ts vs fs → Tr.Ats H ts ws gs → Vals vs us → Vals ws zs → A.units + Tr.hs ts < cLine →
    ∀ (j : Nat) (h1 : j < us.length) (h2 : j < zs.length), SeqAt.EqAt A s us[j] zs[j] true
  | [], A, vs, ws, fs, gs, us, zs, c1, c2, q1, q2, hu, j, h1, h2 => by
    simp only [Tr.Ats] at c1
    obtain ⟨rfl, -⟩ := c1
    cases q1
    exact absurd h1 (by simp)
  | t :: ts, A, vs, ws, fs, gs, us, zs, c1, c2, q1, q2, hu, j, h1, h2 => by
    simp only [Tr.Ats] at c1 c2
    obtain ⟨v, vs, f, g, rfl, rfl, a1, b1⟩ := c1
    obtain ⟨w, ws, f', g', rfl, rfl, a2, b2⟩ := c2
    cases q1 with
    | cons r1 q1 =>
    cases q2 with
    | cons r2 q2 =>
    simp only [Tr.hs] at hu
    cases j with
    | zero => exact Tr.eqAt I a1 a2 r1 r2 (by omega)
    | succ j => exact Tr.eqAts I b1 b2 q1 q2 (by omega) j (by simpa using h1) (by simpa using h2)
end
def rEqT : R2 := fun x y H Q => ∃ t fs gs, (Tr.tup t).At H x fs ∧ (Tr.tup t).At H y gs ∧ Tr.hs t ≤ 60 ∧ Q (.bl true) H
end
end L2
namespace L2
open PySem PySem.Spec PyProof.Rows
theorem isList_but {it l : Addr} {items : Array Value} {h h' : Heap} (hl : h.IsList l items) (e : Heap.ExtBut it h h') (hne : l ≠ it) : h'.IsList l items := by
  obtain ⟨o, ho, r⟩ := hl
  exact ⟨o, e l o hne ho, r⟩
section
variable {prog : Program} {w : World} {A : Around} {E : Value → Shared → Prop}
theorem draw_list {it l : Addr} {items : Array Value} (hne : l ≠ it) : ∀ (n i : Nat) (s : Shared) (Q : List Value → Shared → Prop), s.heap.IsListIter it l i → s.heap.IsList l items → i + n ≤ items.size →
    (∀ h', h'.IsListIter it l (i + n) → Heap.SameBut it s.heap h' → Q ((items.toList.drop i).take n) { s with heap := h' }) → wpAny (model prog w) A (draw (.ref it) n) Q E s
  | 0, i, s, Q, hit, _, _, hQ => by
    show wpAny _ _ (pure []) Q E s
    exact wpAny_pure (by simpa using hQ s.heap hit (Heap.SameBut.refl ..))
  | n + 1, i, s, Q, hit, ht, hle, hQ => by
    have hlt : i < items.size := by omega
    show wpAny _ _ (pyNext (.ref it) >>= _) Q E s
    refine wpAny_bind (wpAny_pyNext_list_item hit ht (x := items[i]) (by simp [hlt]) fun h1 hit1 hs1 => ?_)
    refine wpAny_bind (wpAny_holding (draw_list hne n (i + 1) _ _ hit1 (isList_but ht hs1.extBut hne) (by omega) fun h2 hit2 hs2 => wpAny_pure ?_))
    have hd : items.toList.drop i = items[i] :: items.toList.drop (i + 1) := by simp [List.drop_eq_getElem_cons, hlt]
    have := hQ h2 (by rw [show i + (n + 1) = i + 1 + n by omega]; exact hit2) (hs1.trans hs2)
    rw [hd, List.take_succ_cons] at this
    exact this
theorem unpackItems_list {s : Shared} {l : Addr} {items : Array Value} {Q : List Value → Shared → Prop} (hh : A.handled = none) (ht : s.heap.IsList l items)
    (hQ : ∀ h', Heap.ExtBut s.heap.objs.size s.heap h' → Q items.toList { s with heap := h' }) : wpAny (model prog w) A (unpackItems (.ref l) items.size none) Q E s := by
  have hlt : l ≠ s.heap.objs.size := by obtain ⟨o, ho, _⟩ := ht; exact Nat.ne_of_lt (Heap.lt_size ho)
  unfold unpackItems
  refine wpAny_bind ?_
  unfold notIterableAtAll
  refine wpAny_bind (wpAny_specialOf ht.typeIs slot_list_iter.lookup ?_)
  refine wpAny_pure ?_
  simp only [Bool.false_eq_true, if_false]
  refine wpAny_bind (wpAny_holding (wpAny_pyIter_list ht ?_))
  have hp : (s.heap.push { cls := .type "list_iterator", data := .fields #[.ref l, .int 0 0] }).IsList l items := by
    obtain ⟨o, ho, r⟩ := ht
    exact ⟨o, Heap.get?_push_of_some _ ho, r⟩
  refine wpAny_bind (wpAny_holding (draw_list hlt items.size 0 _ _ ⟨_, Heap.get?_push_size _ rfl, rfl, rfl⟩ hp (by omega) fun h1 hit1 hs1 => ?_))
  have hall : List.take items.size (List.drop 0 items.toList) = items.toList := by
    rw [List.drop_zero]; exact List.take_of_length_le (by simp)
  rw [hall, if_neg (by simp)]
  refine wpAny_bind (wpAny_holding (wpAny_pyNext_list_end hh hit1 (isList_but hp hs1.extBut hlt) (by simp) fun h2 he2 => ?_))
  simp only [Option.isSome_none, Bool.false_eq_true, if_false]
  exact wpAny_pure (hQ h2 fun b o hb e => he2 b o hb (hs1.extBut b o hb (Heap.get?_push_of_some _ e)))
end
section
variable {X : Cx} {pos : Pos}
def gLst (K : PySem.W.Frag) (n : Nat) (t : TGs) : TG := fun v σ H Q => ∃ a xs, v = .ref a ∧ SqL K H a xs ∧ xs.length = n ∧ t xs σ H Q
theorem kpg_lst (K : PySem.W.Frag) {es : List Expr} {k : Nat} {t : TGs} {n : Nat} (hc : X.calm = true) (h : PGs X es t) (hn : (assignEach es X.env).length = n := by rfl) (hst : (assignEach es X.env).findIdx? (·.1) = none := by rfl) (hK : X.K = K := by rfl) :
    PG X (.Tuple es k pos) (gLst K n t) := by
  subst hK
  intro pins s σ H v u Q I r hw
  obtain ⟨a, xs, e1, hq, hl, hw⟩ := hw
  subst e1
  cases r
  obtain ⟨its, rv, ht, hz⟩ := I.list hq
  rw [PySem.arm_assign_Tuple]
  refine wpAny_bind (wpAny_standAt ?_)
  unfold unpack
  rw [hst, show (assignEach es X.env).length = its.toArray.size by simp [hn, ← hl, rv.length]]
  refine wpAny_bind (wpAny_holding (unpackItems_list (I.ok.hd hc) ht.isList fun h' hx => ?_))
  have I1 : Inv X pins σ H { s with heap := h' } := I.kept (t' := s.toks) fun b o e => hx b o (Nat.ne_of_lt (Heap.lt_size e)) e
  exact h pins _ σ H xs _ Q I1 (by simpa using rv) hw
theorem i_asgL {K : PySem.W.Frag} {σ : St} {H : Hp} {QS : St → Hp → Prop} {n : Nat} {ts : TGs} {a : Addr} {xs : List V} (h1 : SqL K H a xs) (h2 : xs.length = n) (h : ts xs σ H QS) : gLst K n ts (.ref a) σ H QS := ⟨a, xs, rfl, h1, h2, h⟩
end
end L2
namespace L2
open PySem PySem.Spec PyProof.Rows
structure DicK (K : PySem.W.Frag) (P : Params) (a : Addr) (f : List (Str × Str)) : Prop where
  lk : ∃ es n, K.lookup a = some ⟨.type "dict", none, .dict es n, #[]⟩ ∧ PySem.W.KeysLit P es.toList
  at_ : ∀ k z, (k, z) ∈ f → ∃ t, PySem.W.nsIn K a k = some (some (.str z t))
def rIxD (K : PySem.W.Frag) (P : Params) : R2 := fun x y H Q => ∃ a f k z, x = .ref a ∧ y = .str k ∧ DicK K P a f ∧ (k, z) ∈ f ∧ Q (.str z) H
theorem kix_dic {X : Cx} (K : PySem.W.Frag) (P : Params) (hK : X.K = K := by rfl) (hP : X.w.params = P := by rfl) : IxR X (rIxD K P) := by
  subst hK hP
  intro value slice pins s σ H x y v u Q I rx ry h hs
  obtain ⟨a, f, k, z, rfl, rfl, d, m, q⟩ := h
  cases rx
  obtain ⟨t, rfl⟩ := ry
  obtain ⟨es, n, hl, hk⟩ := d.lk
  obtain ⟨t', e⟩ := d.at_ k z m
  have hm := PySem.W.mapOf_K (prog := X.prog) (w := X.w) I.kIn hl hk
  exact tail_any hm.typeIs slot_dict_getitem.lookup (wpAny_getItem_of (strKind_is X.prog X.w k t) hm (PySem.W.find_K hl e) ⟨.str z, H, I.tok _, ⟨_, rfl⟩, q⟩) hs
theorem i_ixD {K : PySem.W.Frag} {P : Params} {H : Hp} {Q : VK} {a : Addr} {f : List (Str × Str)} {k z : Str} (d : DicK K P a f) (m : (k, z) ∈ f) (h : Q (.str z) H) : rIxD K P (.ref a) (.str k) H Q := ⟨a, f, k, z, rfl, rfl, d, m, h⟩
inductive DicAt (K : PySem.W.Frag) (a : Addr) : List (Str × Str) → Prop
  | nil : DicAt K a []
  | cons {k z : Str} {v : Value} {r : List (Str × Str)} : PySem.W.nsIn K a k = some (some v) → RelV (.str z) v → DicAt K a r → DicAt K a ((k, z) :: r)
theorem DicAt.all {K : PySem.W.Frag} {a : Addr} {f : List (Str × Str)} (d : DicAt K a f) : ∀ k z, (k, z) ∈ f → ∃ t, PySem.W.nsIn K a k = some (some (.str z t)) := by
  induction d with
  | nil => intro k z m; exact nomatch m
  | cons e r _ ih =>
    intro k z m
    rcases List.mem_cons.mp m with h | h
    · cases h
      obtain ⟨t, rfl⟩ := r
      exact ⟨t, e⟩
    · exact ih k z h
def iSeq (K : PySem.W.Frag) (te : TE) : TI := fun σ H R => te σ H fun x H1 => ∃ a, x = .ref a ∧ (((∃ xs, SqL K H1 a xs) ∧ R (Itl K a) H1) ∨ ((∃ xs, SqT K H1 a xs) ∧ R (Itt K a) H1))
theorem kpi_seq {X : Cx} (K : PySem.W.Frag) {tg l : Expr} {tl : TE} (hl : PE X l tl) (hK : X.K = K := by rfl) : PI X tg l (iSeq K tl) := by
  subst hK
  intro pins s σ H R I h
  refine thn (hl pins s σ H _ I h) fun v s1 ⟨x, H1, I1, r1, q1⟩ => ?_
  obtain ⟨a, e, q1⟩ := q1
  subst e
  cases r1
  rcases q1 with ⟨⟨xs, hq⟩, q⟩ | ⟨⟨xs, hq⟩, q⟩
  · obtain ⟨its, rv, p, hz⟩ := I1.list hq
    refine wpAny_pyIter_list p.isList ?_
    refine ⟨s1.heap.objs.size, [s1.heap.objs.size], _, _, H1, rfl, I1.kept (t' := s1.toks) fun b o e => Heap.get?_push_of_some _ e, turn_list a _, ⟨_, Heap.get?_push_size _ rfl, rfl, rfl⟩, fun b hb => ?_, q⟩
    have e : b = s1.heap.objs.size := by simpa using hb
    subst e
    exact I1.fpOk (Nat.le_refl _) (I1.hok.fresh (Nat.le_refl _))
  · obtain ⟨its, rv, p, hz⟩ := I1.tuple hq
    refine wpAny_pyIter_tuple (show s1.heap.IsTuple a its.toArray from p) ?_
    refine ⟨s1.heap.objs.size, [s1.heap.objs.size], _, _, H1, rfl, I1.kept (t' := s1.toks) fun b o e => Heap.get?_push_of_some _ e, turn_tuple a _, ⟨_, Heap.get?_push_size _ rfl, rfl, rfl⟩, fun b hb => ?_, q⟩
    have e : b = s1.heap.objs.size := by simpa using hb
    subst e
    exact I1.fpOk (Nat.le_refl _) (I1.hok.fresh (Nat.le_refl _))
theorem i_iSeq {K : PySem.W.Frag} {σ : St} {H : Hp} {te : TE} {R : It → Hp → Prop} (h : te σ H fun x H1 => ∃ a, x = .ref a ∧ (((∃ xs, SqL K H1 a xs) ∧ R (Itl K a) H1) ∨ ((∃ xs, SqT K H1 a xs) ∧ R (Itt K a) H1))) : iSeq K te σ H R := h
inductive Pt where
  | s (z : Str)
  | i (n : Int)
def Pt.v : Pt → V
  | .s z => .str z
  | .i n => .int n
def Pt.tx : Pt → Str
  | .s z => z
  | .i n => Str.ofString (toString n)
def rowT (ps : List Pt) : Str := Tx (ps.map Pt.tx)
theorem i_extend {H : Hp} {Q : VK} {l b : Addr} {xs zs : List V} (h1 : H l = some (.lst xs)) (h2 : H b = some (.lst zs)) (hz : xs.length + zs.length ≤ sizeLine) (h : Q .non (upd H l (.lst (xs ++ zs)))) : rExtend (.ref l) [.ref b] H Q := ⟨l, b, xs, zs, rfl, rfl, h1, h2, hz, h⟩
theorem i_joinN {out : Str} {σ : St} {H : Hp} {Q : VK} (hz : out.length ≤ sizeLine) (h : Q (.str out) H) : tJoin [] out σ H Q := ⟨hz, h⟩
theorem i_joinC {t : TE} {r : List TE} {out : Str} {σ : St} {H : Hp} {Q : VK} (h : t σ H fun x H1 => ∃ y, x = .str y ∧ (out ++ y).length ≤ sizeLine ∧ tJoin r (out ++ y) σ H1 Q) : tJoin (t :: r) out σ H Q := h
theorem i_fmt {te : TE} {σ : St} {H : Hp} {Q : VK} (h : te σ H fun x H1 => (∃ z, x = .str z ∧ z.length ≤ sizeLine ∧ Q (.str z) H1) ∨ ∃ i : Int, x = .int i ∧ i.natAbs.log2 < 1920 ∧ Q (.str (toString i)) H1) : tFmt te σ H Q := h
theorem i_fmS {z : Str} {A : Str → Prop} {B : Int → Prop} (h : A z) : (∃ y, V.str z = .str y ∧ A y) ∨ ∃ i : Int, V.str z = .int i ∧ B i := .inl ⟨z, rfl, h⟩
theorem i_fmI {i : Int} {A : Str → Prop} {B : Int → Prop} (h : B i) : (∃ y, V.int i = .str y ∧ A y) ∨ ∃ j : Int, V.int i = .int j ∧ B j := .inr ⟨i, rfl, h⟩
theorem tx_br {l r s : Str} {A B : List Str} (hA : A ≠ []) (hB : B ≠ []) : Tx [l, Tx A, s, Tx B, r] = Tx (l :: ((A ++ s :: B) ++ [r])) := by
  rw [tx_cons l (by simp), tx_cons (Tx A) (by simp), tx_cons s (by simp), tx_cons (Tx B) (by simp), tx_cons l (by simp), tx_snoc r (by simp), tx_mid s hA hB, show Tx [r] = r from rfl]
  simp only [sx_assoc]
theorem tx_3 {s : Str} {A B : List Str} (hA : A ≠ []) (hB : B ≠ []) : Tx [Tx A, s, Tx B] = Tx (A ++ s :: B) := by
  rw [tx_cons (Tx A) (by simp), tx_cons s (by simp), tx_mid s hA hB, show Tx [Tx B] = Tx B from rfl]
  simp only [sx_assoc]
end L2
namespace L2
open PySem
def Pt.tr : Pt → Tr
  | .s z => .str z
  | .i n => .int n
def Ex.tr : Ex → Tr
  | .num i => .tup [.str "number", .int i]
  | .box n => .tup [.str "box", .str n]
  | .two k a b => .tup [.str (markS k), a.tr, b.tr]
def Cd.tr : Cd → Tr
  | .cmp k a b => .tup [.str (markC k), a.tr, b.tr]
  | .nt c => .tup [.str "not", c.tr]
  | .both c d => .tup [.str "both", c.tr, d.tr]
mutual
inductive Stm where
  | plain (ps : List Pt)
  | put (n : Str) (e : Ex)
  | loop (b : List Stm)
  | wait (n : Int) (bs : List Br)
  | test (c : Cd) (a b : List Stm)
inductive Br where
  | mk (p : List Pt) (b : List Stm)
end
def bodyT (x : Tr) : Tr := x
mutual
def Stm.tr : Stm → Tr
  | .plain ps => .tup (ps.map Pt.tr)
  | .put n e => .tup [.str "put", .str n, e.tr]
  | .loop b => .tup [.str "loop", .lst (Stm.trs b)]
  | .wait n bs => .tup [.str "wait", .int n, .lst (Br.trs bs)]
  | .test c a b => .tup [.str "test", c.tr, .lst (Stm.trs a), .lst (Stm.trs b)]
def Br.tr : Br → Tr
  | .mk p b => .tup [.tup (p.map Pt.tr), .lst (Stm.trs b)]
def Stm.trs : List Stm → List Tr
  | [] => []
  | s :: r => s.tr :: Stm.trs r
def Br.trs : List Br → List Tr
  | [] => []
  | s :: r => s.tr :: Br.trs r
end
abbrev blk : Str := Str.ofString "  "
def inn (ys : List Str) : List Str := ys.map fun y => blk ++ y
def blockR (head : Str) (ys : List Str) : List Str := head :: inn ys ++ [Str.ofString "end"]
def elseR : List Str → List Str → List Str
  | [], _ => []
  | _ :: _, r => Str.ofString "else" :: r
mutual
def Stm.rows : Stm → List Str
  | .plain ps => [Tx (ps.map Pt.tx)]
  | .put n e => [Tx [Str.ofString "put", n, Tx e.words]]
  | .loop b => blockR (Str.ofString "loop") (Stm.rowsL b)
  | .wait n bs => blockR (Str.ofString "wait " ++ Str.ofString (toString n)) (Br.rowsL bs)
  | .test c a b => (Str.ofString "if " ++ Tx c.words) :: inn (Stm.rowsL a) ++ (if b.isEmpty then [] else Str.ofString "else" :: inn (Stm.rowsL b)) ++ [Str.ofString "end"]
def Br.rows : Br → List Str
  | .mk p b => (Str.ofString "on " ++ Tx (p.map Pt.tx)) :: inn (Stm.rowsL b)
def Stm.rowsL : List Stm → List Str
  | [] => []
  | s :: r => s.rows ++ Stm.rowsL r
def Br.rowsL : List Br → List Str
  | [] => []
  | s :: r => s.rows ++ Br.rowsL r
end
def Pt.ok : Pt → Prop
  | .s z => z.length ≤ 8
  | .i n => 0 ≤ n ∧ n < 10
mutual
def Stm.ok (ys : List Str) : Nat → Stm → Prop
  | _, .plain ps => ps.length ≤ 3 ∧ (∀ p ∈ ps, p.ok) ∧ ∃ k r, ps = .s k :: r ∧ k ∉ [Str.ofString "test", Str.ofString "wait", Str.ofString "loop", Str.ofString "put"]
  | _, .put n e => n ∈ ys ∧ e.ok ys ∧ e.h ≤ 5
  | 0, .loop b => False
  | d + 1, .loop b => Stm.oks ys d b
  | 0, .wait n bs => False
  | d + 1, .wait n bs => (0 ≤ n ∧ n < 10) ∧ Br.oks ys d bs
  | 0, .test c a b => False
  | d + 1, .test c a b => c.ok ys 5 ∧ c.h ≤ 3 ∧ Stm.oks ys d a ∧ Stm.oks ys d b
def Br.ok (ys : List Str) : Nat → Br → Prop
  | d, .mk p b => p.length ≤ 3 ∧ (∀ x ∈ p, x.ok) ∧ Stm.oks ys d b
def Stm.oks (ys : List Str) : Nat → List Stm → Prop
  | _, [] => True
  | d, s :: r => s.ok ys d ∧ Stm.oks ys d r
def Br.oks (ys : List Str) : Nat → List Br → Prop
  | _, [] => True
  | d, s :: r => s.ok ys d ∧ Br.oks ys d r
end
end L2
namespace L2
open PySem
theorem Ex.of_tr {H : Hp} : ∀ {e : Ex} {v : V} {fs : List Addr}, e.tr.At H v fs → e.At H v
  | .num i, v, fs, h => by
    simp only [Ex.tr, Tr.At, Tr.Ats] at h
    obtain ⟨a, vs, rfl, e, _, _, _, _, rfl, _, ⟨rfl, _⟩, _, _, _, _, rfl, _, ⟨rfl, _⟩, rfl, _⟩ := h
    exact ⟨a, rfl, e⟩
  | .box i, v, fs, h => by
    simp only [Ex.tr, Tr.At, Tr.Ats] at h
    obtain ⟨a, vs, rfl, e, _, _, _, _, rfl, _, ⟨rfl, _⟩, _, _, _, _, rfl, _, ⟨rfl, _⟩, rfl, _⟩ := h
    exact ⟨a, rfl, e⟩
  | .two k x y, v, fs, h => by
    simp only [Ex.tr, Tr.At, Tr.Ats] at h
    obtain ⟨a, vs, rfl, e, _, _, _, _, rfl, _, ⟨rfl, _⟩, w1, _, _, _, rfl, _, h1, w2, _, _, _, rfl, _, h2, rfl, _⟩ := h
    exact ⟨a, w1, w2, rfl, e, Ex.of_tr h1, Ex.of_tr h2⟩
theorem Ex.to_tr {H : Hp} : ∀ {e : Ex} {v : V}, e.At H v → e.tr.At H v []
  | .num i, v, h => by
    obtain ⟨a, rfl, e⟩ := h
    simp only [Ex.tr, Tr.At, Tr.Ats]
    exact ⟨a, _, rfl, e, _, _, [], [], rfl, rfl, ⟨rfl, rfl⟩, _, _, [], [], rfl, rfl, ⟨rfl, rfl⟩, rfl, rfl⟩
  | .box i, v, h => by
    obtain ⟨a, rfl, e⟩ := h
    simp only [Ex.tr, Tr.At, Tr.Ats]
    exact ⟨a, _, rfl, e, _, _, [], [], rfl, rfl, ⟨rfl, rfl⟩, _, _, [], [], rfl, rfl, ⟨rfl, rfl⟩, rfl, rfl⟩
  | .two k x y, v, h => by
    obtain ⟨a, w1, w2, rfl, e, h1, h2⟩ := h
    simp only [Ex.tr, Tr.At, Tr.Ats]
    exact ⟨a, _, rfl, e, _, _, [], [], rfl, rfl, ⟨rfl, rfl⟩, _, _, [], [], rfl, rfl, Ex.to_tr h1, _, _, [], [], rfl, rfl, Ex.to_tr h2, rfl, rfl⟩
theorem Cd.of_tr {H : Hp} : ∀ {c : Cd} {v : V} {fs : List Addr}, c.tr.At H v fs → c.At H v
  | .cmp k x y, v, fs, h => by
    simp only [Cd.tr, Tr.At, Tr.Ats] at h
    obtain ⟨a, vs, rfl, e, _, _, _, _, rfl, _, ⟨rfl, _⟩, w1, _, _, _, rfl, _, h1, w2, _, _, _, rfl, _, h2, rfl, _⟩ := h
    exact ⟨a, w1, w2, rfl, e, Ex.of_tr h1, Ex.of_tr h2⟩
  | .nt c, v, fs, h => by
    simp only [Cd.tr, Tr.At, Tr.Ats] at h
    obtain ⟨a, vs, rfl, e, _, _, _, _, rfl, _, ⟨rfl, _⟩, w1, _, _, _, rfl, _, h1, rfl, _⟩ := h
    exact ⟨a, w1, rfl, e, Cd.of_tr h1⟩
  | .both x y, v, fs, h => by
    simp only [Cd.tr, Tr.At, Tr.Ats] at h
    obtain ⟨a, vs, rfl, e, _, _, _, _, rfl, _, ⟨rfl, _⟩, w1, _, _, _, rfl, _, h1, w2, _, _, _, rfl, _, h2, rfl, _⟩ := h
    exact ⟨a, w1, w2, rfl, e, Cd.of_tr h1, Cd.of_tr h2⟩
theorem Cd.to_tr {H : Hp} : ∀ {c : Cd} {v : V}, c.At H v → c.tr.At H v []
  | .cmp k x y, v, h => by
    obtain ⟨a, w1, w2, rfl, e, h1, h2⟩ := h
    simp only [Cd.tr, Tr.At, Tr.Ats]
    exact ⟨a, _, rfl, e, _, _, [], [], rfl, rfl, ⟨rfl, rfl⟩, _, _, [], [], rfl, rfl, Ex.to_tr h1, _, _, [], [], rfl, rfl, Ex.to_tr h2, rfl, rfl⟩
  | .nt c, v, h => by
    obtain ⟨a, w1, rfl, e, h1⟩ := h
    simp only [Cd.tr, Tr.At, Tr.Ats]
    exact ⟨a, _, rfl, e, _, _, [], [], rfl, rfl, ⟨rfl, rfl⟩, _, _, [], [], rfl, rfl, Cd.to_tr h1, rfl, rfl⟩
  | .both x y, v, h => by
    obtain ⟨a, w1, w2, rfl, e, h1, h2⟩ := h
    simp only [Cd.tr, Tr.At, Tr.Ats]
    exact ⟨a, _, rfl, e, _, _, [], [], rfl, rfl, ⟨rfl, rfl⟩, _, _, [], [], rfl, rfl, Cd.to_tr h1, _, _, [], [], rfl, rfl, Cd.to_tr h2, rfl, rfl⟩
theorem Pt.at {H : Hp} : ∀ {p : Pt} {v : V} {fs : List Addr}, p.tr.At H v fs → v = p.v
  | .s _, _, _, h => by simp only [Pt.tr, Tr.At] at h; exact h.1
  | .i _, _, _, h => by simp only [Pt.tr, Tr.At] at h; exact h.1
theorem Pt.ats {H : Hp} : ∀ {ps : List Pt} {vs : List V} {fs : List Addr}, Tr.Ats H (ps.map Pt.tr) vs fs → vs = ps.map Pt.v
  | [], _, _, h => by simp only [List.map_nil, Tr.Ats] at h; exact h.1
  | p :: ps, _, _, h => by
    simp only [List.map_cons, Tr.Ats] at h
    obtain ⟨v, ws, _, _, rfl, _, h1, h2⟩ := h
    rw [Pt.at h1, Pt.ats h2]
    rfl
theorem Pt.parts : ∀ {ps : List Pt}, (∀ p ∈ ps, p.ok) → PartsS (ps.map Pt.v) (ps.map Pt.tx)
  | [], _ => .nil
  | p :: ps, h => by
    refine .cons ?_ (Pt.parts fun q m => h q (List.mem_cons_of_mem _ m))
    have := h p (by simp)
    cases p with
    | s z => exact .inr rfl
    | i n =>
      have h' : 0 ≤ n ∧ n < 10 := this
      exact .inl ⟨n, rfl, by omega, rfl⟩
theorem Pt.len {p : Pt} (h : p.ok) : p.tx.length ≤ 8 := by
  cases p with
  | s z => exact h
  | i n =>
    have := dig_len h.1 h.2
    simp only [Pt.tx]
    omega
theorem Pt.sum : ∀ {ps : List Pt}, (∀ p ∈ ps, p.ok) → ((ps.map Pt.tx).map (·.length)).sum ≤ 8 * ps.length
  | [], _ => by simp
  | p :: ps, h => by
    have h1 := Pt.len (h p (by simp))
    have h2 := Pt.sum (ps := ps) fun q m => h q (List.mem_cons_of_mem _ m)
    simp only [List.map_cons, List.sum_cons, List.length_cons]
    omega
theorem Stm.oks_get {ys : List Str} {d : Nat} : ∀ {b : List Stm} {i : Nat} {s : Stm}, Stm.oks ys d b → b[i]? = some s → s.ok ys d
  | [], _, _, _, e => by simp at e
  | x :: b, 0, s, h, e => by
    simp only [Stm.oks] at h
    simp at e
    exact e ▸ h.1
  | x :: b, i + 1, s, h, e => by
    simp only [Stm.oks] at h
    exact Stm.oks_get h.2 (by simpa using e)
theorem Br.oks_get {ys : List Str} {d : Nat} : ∀ {b : List Br} {i : Nat} {s : Br}, Br.oks ys d b → b[i]? = some s → s.ok ys d
  | [], _, _, _, e => by simp at e
  | x :: b, 0, s, h, e => by
    simp only [Br.oks] at h
    simp at e
    exact e ▸ h.1
  | x :: b, i + 1, s, h, e => by
    simp only [Br.oks] at h
    exact Br.oks_get h.2 (by simpa using e)
theorem Stm.rowsL_app : ∀ (a b : List Stm), Stm.rowsL (a ++ b) = Stm.rowsL a ++ Stm.rowsL b
  | [], b => by simp [Stm.rowsL]
  | x :: a, b => by simp [Stm.rowsL, Stm.rowsL_app a b]
theorem Br.rowsL_app : ∀ (a b : List Br), Br.rowsL (a ++ b) = Br.rowsL a ++ Br.rowsL b
  | [], b => by simp [Br.rowsL]
  | x :: a, b => by simp [Br.rowsL, Br.rowsL_app a b]
theorem Stm.rowsL_snoc {b : List Stm} {i : Nat} {s : Stm} (e : b[i]? = some s) : Stm.rowsL (b.take (i + 1)) = Stm.rowsL (b.take i) ++ s.rows := by
  rw [List.take_add_one, e, Stm.rowsL_app]
  simp [Stm.rowsL]
theorem Br.rowsL_snoc {b : List Br} {i : Nat} {s : Br} (e : b[i]? = some s) : Br.rowsL (b.take (i + 1)) = Br.rowsL (b.take i) ++ s.rows := by
  rw [List.take_add_one, e, Br.rowsL_app]
  simp [Br.rowsL]
theorem Stm.trs_eq : ∀ (b : List Stm), Stm.trs b = b.map Stm.tr
  | [] => by simp [Stm.trs]
  | x :: b => by simp [Stm.trs, Stm.trs_eq b]
theorem Br.trs_eq : ∀ (b : List Br), Br.trs b = b.map Br.tr
  | [] => by simp [Br.trs]
  | x :: b => by simp [Br.trs, Br.trs_eq b]
def Fit (ys : List Str) : Prop := ys.length ≤ 50000 ∧ ∀ y ∈ ys, y.length ≤ 50000
theorem Fit.app {a b : List Str} (h : Fit (a ++ b)) : Fit a ∧ Fit b := by
  obtain ⟨h1, h2⟩ := h
  rw [List.length_append] at h1
  exact ⟨⟨by omega, fun y m => h2 y (by simp [m])⟩, ⟨by omega, fun y m => h2 y (by simp [m])⟩⟩
theorem Fit.cons {x : Str} {b : List Str} (h : Fit (x :: b)) : x.length ≤ 50000 ∧ Fit b := ⟨h.2 x (by simp), ⟨by have := h.1; simp only [List.length_cons] at this; omega, fun y m => h.2 y (by simp [m])⟩⟩
theorem Fit.inn {b : List Str} (h : Fit (inn b)) : Fit b := by
  refine ⟨by have := h.1; simpa [L2.inn] using this, fun y m => ?_⟩
  have := h.2 (blk ++ y) (List.mem_map.mpr ⟨y, m, rfl⟩)
  rw [sx_len] at this
  omega
theorem Fit.block {head : Str} {b : List Str} (h : Fit (blockR head b)) : head.length ≤ 50000 ∧ Fit b := by
  unfold blockR at h
  rw [List.cons_append] at h
  exact ⟨h.cons.1, h.cons.2.app.1.inn⟩
theorem Fit.take {b : List Stm} {i : Nat} {s : Stm} (h : Fit (Stm.rowsL b)) (e : b[i]? = some s) : Fit s.rows ∧ (Stm.rowsL (b.take i)).length + s.rows.length ≤ 50000 := by
  have e2 : Stm.rowsL b = Stm.rowsL (b.take (i + 1)) ++ Stm.rowsL (b.drop (i + 1)) := by rw [← Stm.rowsL_app, List.take_append_drop]
  rw [e2, Stm.rowsL_snoc e] at h
  have := h.app.1
  refine ⟨this.app.2, ?_⟩
  have := this.1
  rwa [List.length_append] at this
theorem Fit.takeB {b : List Br} {i : Nat} {s : Br} (h : Fit (Br.rowsL b)) (e : b[i]? = some s) : Fit s.rows ∧ (Br.rowsL (b.take i)).length + s.rows.length ≤ 50000 := by
  have e2 : Br.rowsL b = Br.rowsL (b.take (i + 1)) ++ Br.rowsL (b.drop (i + 1)) := by rw [← Br.rowsL_app, List.take_append_drop]
  rw [e2, Br.rowsL_snoc e] at h
  have := h.app.1
  refine ⟨this.app.2, ?_⟩
  have := this.1
  rwa [List.length_append] at this
end L2
namespace L2
open PySem
section
variable {H : Hp} {v : V} {fs : List Addr}
theorem plain_view {ps : List Pt} (h : (Stm.plain ps).tr.At H v fs) : ∃ a, v = .ref a ∧ H a = some (.tup (ps.map Pt.v)) := by
  simp only [Stm.tr, Tr.At] at h
  obtain ⟨a, vs, rfl, e, h⟩ := h
  rw [Pt.ats h] at e
  exact ⟨a, rfl, e⟩
theorem put_view {n : Str} {x : Ex} (h : (Stm.put n x).tr.At H v fs) : ∃ a u, v = .ref a ∧ H a = some (.tup [.str "put", .str n, u]) ∧ x.At H u := by
  simp only [Stm.tr, Tr.At, Tr.Ats] at h
  obtain ⟨a, vs, rfl, e, _, _, _, _, rfl, _, ⟨rfl, _⟩, _, _, _, _, rfl, _, ⟨rfl, _⟩, u, _, _, _, rfl, _, h, rfl, _⟩ := h
  exact ⟨a, u, rfl, e, Ex.of_tr h⟩
theorem loop_view {b : List Stm} (h : (Stm.loop b).tr.At H v fs) : ∃ a l vs gs, v = .ref a ∧ H a = some (.tup [.str "loop", .ref l]) ∧ H l = some (.lst vs) ∧ Tr.Ats H (Stm.trs b) vs gs := by
  simp only [Stm.tr, Tr.At, Tr.Ats] at h
  obtain ⟨a, vs, rfl, e, _, _, _, _, rfl, _, ⟨rfl, _⟩, _, _, _, _, rfl, _, ⟨l, ws, gs, rfl, hl, h, _⟩, rfl, _⟩ := h
  exact ⟨a, l, ws, gs, rfl, e, hl, h⟩
theorem wait_view {n : Int} {bs : List Br} (h : (Stm.wait n bs).tr.At H v fs) : ∃ a l vs gs, v = .ref a ∧ H a = some (.tup [.str "wait", .int n, .ref l]) ∧ H l = some (.lst vs) ∧ Tr.Ats H (Br.trs bs) vs gs := by
  simp only [Stm.tr, Tr.At, Tr.Ats] at h
  obtain ⟨a, vs, rfl, e, _, _, _, _, rfl, _, ⟨rfl, _⟩, _, _, _, _, rfl, _, ⟨rfl, _⟩, _, _, _, _, rfl, _, ⟨l, ws, gs, rfl, hl, h, _⟩, rfl, _⟩ := h
  exact ⟨a, l, ws, gs, rfl, e, hl, h⟩
theorem test_view {c : Cd} {x y : List Stm} (h : (Stm.test c x y).tr.At H v fs) : ∃ a u l m vs ws fs gs, v = .ref a ∧ H a = some (.tup [.str "test", u, .ref l, .ref m]) ∧ c.At H u ∧ H l = some (.lst vs) ∧ Tr.Ats H (Stm.trs x) vs fs ∧ H m = some (.lst ws) ∧ Tr.Ats H (Stm.trs y) ws gs := by
  simp only [Stm.tr, Tr.At, Tr.Ats] at h
  obtain ⟨a, vs, rfl, e, _, _, _, _, rfl, _, ⟨rfl, _⟩, u, _, _, _, rfl, _, hc, _, _, _, _, rfl, _, ⟨l, ws, gs, rfl, hl, h, _⟩, _, _, _, _, rfl, _, ⟨m, ws2, gs2, rfl, hm, h2, _⟩, rfl, _⟩ := h
  exact ⟨a, u, l, m, ws, ws2, gs, gs2, rfl, e, Cd.of_tr hc, hl, h, hm, h2⟩
theorem br_view {p : List Pt} {b : List Stm} (h : (Br.mk p b).tr.At H v fs) : ∃ a c l vs gs, v = .ref a ∧ H a = some (.tup [.ref c, .ref l]) ∧ H c = some (.tup (p.map Pt.v)) ∧ H l = some (.lst vs) ∧ Tr.Ats H (Stm.trs b) vs gs := by
  simp only [Br.tr, Tr.At, Tr.Ats] at h
  obtain ⟨a, vs, rfl, e, _, _, _, _, rfl, _, ⟨c, ws, rfl, hc, hp⟩, _, _, _, _, rfl, _, ⟨l, us, gs, rfl, hl, h, _⟩, rfl, _⟩ := h
  rw [Pt.ats hp] at hc
  exact ⟨a, c, l, us, gs, rfl, e, hc, hl, h⟩
theorem stm_get {b : List Stm} {vs : List V} (h : Tr.Ats H (Stm.trs b) vs fs) {i : Nat} {x : V} (e : vs[i]? = some x) : ∃ s f, b[i]? = some s ∧ s.tr.At H x f ∧ ∀ a ∈ f, a ∈ fs := by
  obtain ⟨t, f, h1, h2, h3⟩ := h.get i x e
  rw [Stm.trs_eq, List.getElem?_map] at h1
  cases hb : b[i]? with
  | none => rw [hb] at h1; cases h1
  | some s =>
    rw [hb] at h1
    cases h1
    exact ⟨s, f, rfl, h2, h3⟩
theorem br_get {b : List Br} {vs : List V} (h : Tr.Ats H (Br.trs b) vs fs) {i : Nat} {x : V} (e : vs[i]? = some x) : ∃ s f, b[i]? = some s ∧ s.tr.At H x f ∧ ∀ a ∈ f, a ∈ fs := by
  obtain ⟨t, f, h1, h2, h3⟩ := h.get i x e
  rw [Br.trs_eq, List.getElem?_map] at h1
  cases hb : b[i]? with
  | none => rw [hb] at h1; cases h1
  | some s =>
    rw [hb] at h1
    cases h1
    exact ⟨s, f, rfl, h2, h3⟩
theorem trs_len {b : List Stm} {vs : List V} (h : Tr.Ats H (Stm.trs b) vs fs) : vs.length = b.length := by rw [h.len, Stm.trs_eq, List.length_map]
theorem btrs_len {b : List Br} {vs : List V} (h : Tr.Ats H (Br.trs b) vs fs) : vs.length = b.length := by rw [h.len, Br.trs_eq, List.length_map]
end
end L2
namespace L2
open PySem
def boxT (x : Str × Int) : Tr := .tup [.str x.1, .int x.2]
def talkT (x : Str × List Stm) : Tr := .tup [.str x.1, .lst (Stm.trs x.2)]
def scrT (bs : List (Str × Int)) (ts : List (Str × List Stm)) : Tr := .tup [.lst (bs.map boxT), .lst (ts.map talkT)]
def boxR (x : Str × Int) : Str := Str.ofString "box " ++ x.1 ++ Str.ofString " " ++ Str.ofString (toString x.2)
def talkR (x : Str × List Stm) : List Str := blockR (Str.ofString "talk " ++ x.1) (Stm.rowsL x.2)
def talksR (ts : List (Str × List Stm)) : List Str := ts.flatMap talkR
def scrR (bs : List (Str × Int)) (ts : List (Str × List Stm)) : List Str := bs.map boxR ++ talksR ts
section
variable {H : Hp} {v : V} {fs : List Addr}
theorem scr_view {bs : List (Str × Int)} {ts : List (Str × List Stm)} (h : (scrT bs ts).At H v fs) : ∃ a l m us ws f g, v = .ref a ∧ H a = some (.tup [.ref l, .ref m]) ∧ H l = some (.lst us) ∧ Tr.Ats H (bs.map boxT) us f ∧ H m = some (.lst ws) ∧ Tr.Ats H (ts.map talkT) ws g := by
  simp only [scrT, Tr.At, Tr.Ats] at h
  obtain ⟨a, vs, rfl, e, _, _, _, _, rfl, _, ⟨l, us, f, rfl, hl, h1, _⟩, _, _, _, _, rfl, _, ⟨m, ws, g, rfl, hm, h2, _⟩, rfl, _⟩ := h
  exact ⟨a, l, m, us, ws, f, g, rfl, e, hl, h1, hm, h2⟩
theorem box_get {bs : List (Str × Int)} {us : List V} (h : Tr.Ats H (bs.map boxT) us fs) {i : Nat} {x : V} (e : us[i]? = some x) : ∃ b a, bs[i]? = some b ∧ x = .ref a ∧ H a = some (.tup [.str b.1, .int b.2]) := by
  obtain ⟨t, f, h1, h2, h3⟩ := h.get i x e
  rw [List.getElem?_map] at h1
  cases hb : bs[i]? with
  | none => rw [hb] at h1; cases h1
  | some s =>
    rw [hb] at h1
    cases h1
    simp only [boxT, Tr.At, Tr.Ats] at h2
    obtain ⟨a, vs, rfl, e, _, _, _, _, rfl, _, ⟨rfl, _⟩, _, _, _, _, rfl, _, ⟨rfl, _⟩, rfl, _⟩ := h2
    exact ⟨s, a, rfl, rfl, e⟩
theorem talk_get {ts : List (Str × List Stm)} {us : List V} (h : Tr.Ats H (ts.map talkT) us fs) {i : Nat} {x : V} (e : us[i]? = some x) : ∃ b a l vs gs, ts[i]? = some b ∧ x = .ref a ∧ H a = some (.tup [.str b.1, .ref l]) ∧ H l = some (.lst vs) ∧ Tr.Ats H (Stm.trs b.2) vs gs := by
  obtain ⟨t, f, h1, h2, h3⟩ := h.get i x e
  rw [List.getElem?_map] at h1
  cases hb : ts[i]? with
  | none => rw [hb] at h1; cases h1
  | some s =>
    rw [hb] at h1
    cases h1
    simp only [talkT, Tr.At, Tr.Ats] at h2
    obtain ⟨a, vs, rfl, e, _, _, _, _, rfl, _, ⟨rfl, _⟩, _, _, _, _, rfl, _, ⟨l, ws, gs, rfl, hl, h, _⟩, rfl, _⟩ := h2
    exact ⟨s, a, l, ws, gs, rfl, rfl, e, hl, h⟩
end
theorem talksR_snoc {b : List (Str × List Stm)} {i : Nat} {s : Str × List Stm} (e : b[i]? = some s) : talksR (b.take (i + 1)) = talksR (b.take i) ++ talkR s := by
  unfold talksR
  rw [List.take_add_one, e]
  simp
theorem Fit.talk {b : List (Str × List Stm)} {i : Nat} {s : Str × List Stm} (h : Fit (talksR b)) (e : b[i]? = some s) : Fit (talkR s) ∧ (talksR (b.take i)).length + (talkR s).length ≤ 50000 := by
  have e2 : talksR b = talksR (b.take (i + 1)) ++ talksR (b.drop (i + 1)) := by
    unfold talksR
    rw [← List.flatMap_append, List.take_append_drop]
  rw [e2, talksR_snoc e] at h
  have := h.app.1
  refine ⟨this.app.2, ?_⟩
  have := this.1
  rwa [List.length_append] at this
end L2
namespace L2
open PySem PySem.Spec PyProof.Rows
section
variable {X : Cx}
def rNeT : R2 := fun x y H Q => ∃ t fs gs, (Tr.lst t).At H x fs ∧ (Tr.lst t).At H y gs ∧ Tr.hs t ≤ 60 ∧ Q (.bl false) H
end
inductive Prs (H : Hp) : List V → List Int → Prop
  | nil : Prs H [] []
  | cons {p : Addr} {u : V} {n : Int} {vs : List V} {ns : List Int} : H p = some (.tup [u, .int n]) → Prs H vs ns → Prs H (.ref p :: vs) (n :: ns)
theorem Prs.mono {H H' : Hp} (t : Tups H H') {vs : List V} {ns : List Int} (h : Prs H vs ns) : Prs H' vs ns := by
  induction h with
  | nil => exact .nil
  | cons e _ ih => exact .cons (t _ _ e) ih
theorem Prs.len {H : Hp} {vs : List V} {ns : List Int} (h : Prs H vs ns) : vs.length = ns.length := by
  induction h with
  | nil => rfl
  | cons e _ ih => simp [ih]
theorem Prs.snoc {H : Hp} {vs : List V} {ns : List Int} {p : Addr} {u : V} {n : Int} (h : Prs H vs ns) (e : H p = some (.tup [u, .int n])) : Prs H (vs ++ [.ref p]) (ns ++ [n]) := by
  induction h with
  | nil => exact .cons e .nil
  | cons e' _ ih => exact .cons e' ih
theorem Prs.get {H : Hp} {vs : List V} {ns : List Int} (h : Prs H vs ns) : ∀ (i : Nat) (x : V), vs[i]? = some x → ∃ p u n, x = .ref p ∧ H p = some (.tup [u, .int n]) ∧ ns[i]? = some n := by
  induction h with
  | nil => intro i x e; simp at e
  | cons e' _ ih =>
    intro i x e
    cases i with
    | zero =>
      simp at e
      exact ⟨_, _, _, e.symm, e', rfl⟩
    | succ i => exact ih i x (by simpa using e)
end L2
namespace L2
open PySem
def wlet (k : Int) : Str := ⟨#[97 + k.toNat]⟩
def wordIt (n : Int) : Nat → Str × Int
  | 0 => (wlet (n / 8 % 26), n / 208)
  | i + 1 => ((wordIt n i).1 ++ wlet ((wordIt n i).2 % 26), (wordIt n i).2 / 26)
def wordF (n : Int) : Str := (wordIt n (n % 8).toNat).1
theorem wlet_low {k : Int} (h0 : 0 ≤ k) (h1 : k < 26) : isLow (wlet k) = true ∧ (wlet k).length = 1 := by
  refine ⟨?_, rfl⟩
  simp [isLow, wlet]
  omega
theorem low_app2 {x y : Str} (hx : isLow x = true) (hy : isLow y = true) : isLow (x ++ y) = true := by
  unfold isLow at *
  rw [sx_app]
  simp only [Bool.and_eq_true, List.all_append] at *
  refine ⟨?_, hx.2, hy.2⟩
  cases h : x.cps.toList with
  | nil => rw [h] at hx; exact absurd hx.1 (by decide)
  | cons a r => rfl
theorem wordIt_low (n : Int) : ∀ i, isLow (wordIt n i).1 = true ∧ (wordIt n i).1.length = i + 1
  | 0 => wlet_low (by omega) (by omega)
  | i + 1 => by
    have h1 := wordIt_low n i
    have h2 := wlet_low (k := (wordIt n i).2 % 26) (by omega) (by omega)
    refine ⟨low_app2 h1.1 h2.1, ?_⟩
    show ((wordIt n i).1 ++ wlet ((wordIt n i).2 % 26)).length = _
    rw [sx_len, h1.2, h2.2]
theorem wordF_low (n : Int) : isLow (wordF n) = true ∧ (wordF n).length ≤ 8 := by
  have h := wordIt_low n (n % 8).toNat
  exact ⟨h.1, by unfold wordF; rw [h.2]; omega⟩
def namesF (n : Int) : List Str := [4, 3001, 700001, 90000007].map fun few => fixN (wordF (n / few))
theorem namesF_good (n : Int) : Good (namesF n) := by
  have := good_of (ys := [4, 3001, 700001, 90000007].map fun few : Int => wordF (n / few)) (fun y hy => by
    obtain ⟨few, _, rfl⟩ := List.mem_map.mp hy
    exact wordF_low _)
  simpa [namesF] using this
theorem namesF_len (n : Int) : (namesF n).length = 4 := rfl
def atN (ys : List Str) (k : Int) : Str := (ys[k.toNat]?).getD Str.empty
theorem atN_get {ys : List Str} {k : Int} (h0 : 0 ≤ k) (h1 : k < ys.length) : ys[k.toNat]? = some (atN ys k) := by
  unfold atN
  rw [List.getElem?_eq_getElem (by omega)]
  rfl
theorem atN_mem {ys : List Str} {k : Int} (h0 : 0 ≤ k) (h1 : k < ys.length) : atN ys k ∈ ys := List.mem_of_getElem? (atN_get h0 h1)
theorem mod_lt {ys : List Str} (h : ys ≠ []) (n : Int) : 0 ≤ n % ys.length ∧ n % ys.length < ys.length := by
  have : 0 < ys.length := List.length_pos_iff.mpr h
  exact ⟨Int.emod_nonneg _ (by omega), Int.emod_lt_of_pos _ (by omega)⟩
def leafF (ys : List Str) (n : Int) : Ex × Int :=
  if n % 2 = 0 then (.num (n / 2 % 10), n / 20) else (.box (atN ys (n / 2 % ys.length)), n / 2 / ys.length)
def exprF (ys : List Str) : Nat → Int → Ex × Int
  | 0, n => leafF ys (n / 4)
  | d + 1, n => if n % 4 < 2 then leafF ys (n / 4) else
      (.two (decide (n % 4 = 2)) (exprF ys d (n / 4)).1 (exprF ys d (exprF ys d (n / 4)).2).1, (exprF ys d (exprF ys d (n / 4)).2).2)
theorem leafF_ok {ys : List Str} (h : ys ≠ []) (n : Int) : (leafF ys n).1.ok ys ∧ (leafF ys n).1.h = 0 := by
  unfold leafF
  split
  · exact ⟨⟨by omega, by omega⟩, rfl⟩
  · exact ⟨atN_mem (mod_lt h _).1 (mod_lt h _).2, rfl⟩
theorem exprF_ok {ys : List Str} (h : ys ≠ []) : ∀ (d : Nat) (n : Int), (exprF ys d n).1.ok ys ∧ (exprF ys d n).1.h ≤ d
  | 0, n => ⟨(leafF_ok h _).1, by rw [exprF, (leafF_ok h _).2]; exact Nat.zero_le _⟩
  | d + 1, n => by
    rw [exprF]
    split
    · exact ⟨(leafF_ok h _).1, by rw [(leafF_ok h _).2]; omega⟩
    · have h1 := exprF_ok h d (n / 4)
      have h2 := exprF_ok h d (exprF ys d (n / 4)).2
      exact ⟨⟨h1.1, h2.1⟩, by simp only [Ex.h]; omega⟩
def cmpF (ys : List Str) (n : Int) : Cd × Int :=
  (.cmp (decide (n % 4 % 2 = 0)) (exprF ys 3 (n / 4)).1 (exprF ys 3 (exprF ys 3 (n / 4)).2).1, (exprF ys 3 (exprF ys 3 (n / 4)).2).2)
def condF (ys : List Str) : Nat → Int → Cd × Int
  | 0, n => cmpF ys n
  | d + 1, n => if 1 < n % 4 then
      (if n % 4 = 2 then (.nt (condF ys d (n / 4)).1, (condF ys d (n / 4)).2) else
        (.both (condF ys d (n / 4)).1 (condF ys d (condF ys d (n / 4)).2).1, (condF ys d (condF ys d (n / 4)).2).2))
      else cmpF ys n
theorem cmpF_ok {ys : List Str} (h : ys ≠ []) (n : Int) : (cmpF ys n).1.ok ys 5 ∧ (cmpF ys n).1.h = 0 := by
  have h1 := exprF_ok h 3 (n / 4)
  have h2 := exprF_ok h 3 (exprF ys 3 (n / 4)).2
  exact ⟨⟨⟨h1.1, by omega⟩, h2.1, by omega⟩, rfl⟩
theorem condF_ok {ys : List Str} (h : ys ≠ []) : ∀ (d : Nat) (n : Int), (condF ys d n).1.ok ys 5 ∧ (condF ys d n).1.h ≤ d
  | 0, n => ⟨(cmpF_ok h n).1, by rw [condF, (cmpF_ok h n).2]; exact Nat.zero_le _⟩
  | d + 1, n => by
    rw [condF]
    have h1 := condF_ok h d (n / 4)
    have h2 := condF_ok h d (condF ys d (n / 4)).2
    split
    · split
      · exact ⟨h1.1, by simp only [Cd.h]; omega⟩
      · exact ⟨⟨h1.1, h2.1⟩, by simp only [Cd.h]; omega⟩
    · exact ⟨(cmpF_ok h n).1, by rw [(cmpF_ok h n).2]; omega⟩
def patF (n : Int) : List Pt :=
  if n % 4 = 0 then [.s "key", .i (n / 4 % 10)] else if n % 4 = 1 then [.s "word", .s (wordF (n / 40))] else if n % 4 = 2 then [.s "other"] else [.s "none"]
def plainF (ys : List Str) (way n : Int) : Stm :=
  if way = 0 then .plain [.s "say", .s (wordF n)] else if way = 1 then .plain [.s "hand", .i (n % 10), .s (wordF (n / 10))]
  else if way = 2 then .put (atN ys (n % ys.length)) (exprF ys 4 (n / ys.length)).1 else if way = 3 then .plain [.s "call", .s (wordF n)]
  else if way = 4 then .plain [.s "again"] else if way = 5 then .plain [.s "leave"] else if way = 6 then .plain [.s "back"] else .plain [.s "stop"]
theorem patF_ok (n : Int) : (patF n).length ≤ 3 ∧ ∀ x ∈ patF n, x.ok := by
  have h := wordF_low (n / 40)
  unfold patF
  split
  · exact ⟨by simp, by simp [Pt.ok]; exact ⟨by decide +kernel, by omega, by omega⟩⟩
  split
  · exact ⟨by simp, by simp [Pt.ok]; exact ⟨by decide +kernel, h.2⟩⟩
  split
  · exact ⟨by simp, by simp [Pt.ok]; decide +kernel⟩
  · exact ⟨by simp, by simp [Pt.ok]; decide +kernel⟩
theorem plainF_ok {ys : List Str} (h : ys ≠ []) (way n : Int) (d : Nat) : (plainF ys way n).ok ys d ∧ (plainF ys way n).rows.length = 1 := by
  have h1 := wordF_low n
  have h2 := wordF_low (n / 10)
  have h3 := exprF_ok h 4 (n / ys.length)
  have h4 := mod_lt h n
  have key : ∀ ps : List Pt, ps.length ≤ 3 → (∀ p ∈ ps, p.ok) → (∃ k r, ps = .s k :: r ∧ k ∉ [Str.ofString "test", Str.ofString "wait", Str.ofString "loop", Str.ofString "put"]) → (Stm.plain ps).ok ys d ∧ (Stm.plain ps).rows.length = 1 := by
    intro ps a b c
    refine ⟨?_, by simp [Stm.rows]⟩
    cases d <;> (simp only [Stm.ok]; exact ⟨a, b, c⟩)
  unfold plainF
  split
  · exact key _ (by simp) (by simp [Pt.ok]; exact ⟨by decide +kernel, h1.2⟩) ⟨_, _, rfl, by decide +kernel⟩
  split
  · exact key _ (by simp) (by simp [Pt.ok]; exact ⟨by decide +kernel, by omega, h2.2⟩) ⟨_, _, rfl, by decide +kernel⟩
  split
  · refine ⟨?_, by simp [Stm.rows]⟩
    cases d <;> (simp only [Stm.ok]; exact ⟨atN_mem h4.1 h4.2, h3.1, by omega⟩)
  split
  · exact key _ (by simp) (by simp [Pt.ok]; exact ⟨by decide +kernel, h1.2⟩) ⟨_, _, rfl, by decide +kernel⟩
  split
  · exact key _ (by simp) (by simp [Pt.ok]; decide +kernel) ⟨_, _, rfl, by decide +kernel⟩
  split
  · exact key _ (by simp) (by simp [Pt.ok]; decide +kernel) ⟨_, _, rfl, by decide +kernel⟩
  split
  · exact key _ (by simp) (by simp [Pt.ok]; decide +kernel) ⟨_, _, rfl, by decide +kernel⟩
  · exact key _ (by simp) (by simp [Pt.ok]; decide +kernel) ⟨_, _, rfl, by decide +kernel⟩
end L2
namespace L2
open PySem
structure Frame where
  kind : Str
  what : Tr
  body : List Tr
  first : List Tr
def addU (t : Tr) : List Frame → List Frame
  | [] => []
  | f :: r => ⟨f.kind, f.what, f.body ++ [t], f.first⟩ :: r
def toldK (k : Str) (w : Tr) (b f : List Tr) : Tr :=
  if k = "talk" then .tup [w, .lst b]
  else if k = "wait" then .tup [.str "wait", w, .lst b]
  else if k = "else" then .tup [.str "test", w, .lst f, .lst b]
  else if k = "if" then .tup [.str "test", w, .lst b, .lst []]
  else .tup [.str "loop", .lst b]
theorem told_talk (w : Tr) (b f : List Tr) : toldK "talk" w b f = .tup [w, .lst b] := if_pos rfl
theorem told_wait (w : Tr) (b f : List Tr) : toldK "wait" w b f = .tup [.str "wait", w, .lst b] := by
  unfold toldK
  rw [if_neg (by decide +kernel), if_pos rfl]
theorem told_else (w : Tr) (b f : List Tr) : toldK "else" w b f = .tup [.str "test", w, .lst f, .lst b] := by
  unfold toldK
  rw [if_neg (by decide +kernel), if_neg (by decide +kernel), if_pos rfl]
theorem told_if (w : Tr) (b f : List Tr) : toldK "if" w b f = .tup [.str "test", w, .lst b, .lst []] := by
  unfold toldK
  rw [if_neg (by decide +kernel), if_neg (by decide +kernel), if_neg (by decide +kernel), if_pos rfl]
theorem told_loop (w : Tr) (b f : List Tr) : toldK "loop" w b f = .tup [.str "loop", .lst b] := by
  unfold toldK
  rw [if_neg (by decide +kernel), if_neg (by decide +kernel), if_neg (by decide +kernel), if_neg (by decide +kernel)]
def toldU (f : Frame) : Tr := toldK f.kind f.what f.body f.first
def shutU : List Frame → List Frame
  | [] => []
  | f :: r => addU (.tup [f.what, .lst f.body]) r
def closeN : List Frame → List Frame
  | [] => []
  | f :: r => addU (toldU f) r
def kindU : List Frame → Str
  | [] => Str.empty
  | f :: _ => f.kind
def closeU (p : List Frame) : List Frame := if kindU p = "on" then closeN (shutU p) else closeN p
def elseU : List Frame → List Frame
  | [] => []
  | f :: r => ⟨"else", f.what, [], f.body⟩ :: r
def botN (p : List Frame) : Nat := match p.getLast? with
  | some f => f.body.length
  | none => 0
def stepU (ys : List Str) (p : List Frame) (n : Int) : List Frame :=
  if (kindU p = "wait" ∧ n % 16 % 4 > 0) ∨ (kindU p = "on" ∧ n % 16 = 15) then ⟨"on", .tup ((patF (n / 16)).map Pt.tr), [], []⟩ :: (if kindU p = "on" then shutU p else p)
  else if n % 16 = 14 ∧ kindU p = "if" then elseU p
  else if kindU p = "wait" ∨ (n % 16 > 12 ∧ p.length > 2) then closeU p
  else if (n % 16 = 12 ∧ kindU p = "talk" ∧ botN p < 7) ∨ kindU p = "all" then ⟨"talk", .str (wordF (n / 16)), [], []⟩ :: (if kindU p = "talk" then closeU p else p)
  else if n % 16 < 8 ∨ n % 16 > 11 ∨ p.length > 10 then addU (plainF ys (n % 16 % 8) (n / 16)).tr p
  else if n % 16 = 8 then ⟨"loop", .non, [], []⟩ :: p
  else if n % 16 = 9 then ⟨"wait", .int (n / 16 % 10), [], []⟩ :: p
  else ⟨"if", (condF ys 2 (n / 16)).1.tr, [], []⟩ :: p
inductive Fr where
  | all (ts : List (Str × List Stm))
  | talk (w : Str) (b : List Stm)
  | loop (b : List Stm)
  | wait (n : Int) (bs : List Br)
  | on (p : List Pt) (b : List Stm)
  | iff (c : Cd) (b : List Stm)
  | els (c : Cd) (a b : List Stm)
def Fr.fr : Fr → Frame
  | .all ts => ⟨"all", .non, ts.map talkT, []⟩
  | .talk w b => ⟨"talk", .str w, Stm.trs b, []⟩
  | .loop b => ⟨"loop", .non, Stm.trs b, []⟩
  | .wait n bs => ⟨"wait", .int n, Br.trs bs, []⟩
  | .on p b => ⟨"on", .tup (p.map Pt.tr), Stm.trs b, []⟩
  | .iff c b => ⟨"if", c.tr, Stm.trs b, []⟩
  | .els c a b => ⟨"else", c.tr, Stm.trs b, Stm.trs a⟩
def Fr.isBody : Fr → Bool
  | .all _ => false
  | .wait _ _ => false
  | _ => true
def Fr.cnt : Fr → Nat
  | .all ts => (talksR ts).length
  | .talk _ b => (Stm.rowsL b).length + 2
  | .loop b => (Stm.rowsL b).length + 2
  | .wait _ bs => (Br.rowsL bs).length + 2
  | .on _ b => (Stm.rowsL b).length + 1
  | .iff _ b => (Stm.rowsL b).length + 3
  | .els _ a b => (Stm.rowsL a).length + (Stm.rowsL b).length + 3
def cntP : List Fr → Nat
  | [] => 0
  | f :: r => f.cnt + cntP r
mutual
theorem Stm.ok_up {ys : List Str} : ∀ {s : Stm} {d : Nat}, s.ok ys d → s.ok ys (d + 1)
  | .plain ps, d, h => by cases d <;> simpa only [Stm.ok] using h
  | .put n e, d, h => by cases d <;> simpa only [Stm.ok] using h
  | .loop b, 0, h => by simp only [Stm.ok] at h
  | .loop b, d + 1, h => by
    simp only [Stm.ok] at h ⊢
    exact Stm.oks_up h
  | .wait n bs, 0, h => by simp only [Stm.ok] at h
  | .wait n bs, d + 1, h => by
    simp only [Stm.ok] at h ⊢
    exact ⟨h.1, Br.oks_up h.2⟩
  | .test c a b, 0, h => by simp only [Stm.ok] at h
  | .test c a b, d + 1, h => by
    simp only [Stm.ok] at h ⊢
    exact ⟨h.1, h.2.1, Stm.oks_up h.2.2.1, Stm.oks_up h.2.2.2⟩
theorem Br.ok_up {ys : List Str} : ∀ {s : Br} {d : Nat}, s.ok ys d → s.ok ys (d + 1)
  | .mk p b, d, h => by
    simp only [Br.ok] at h ⊢
    exact ⟨h.1, h.2.1, Stm.oks_up h.2.2⟩
theorem Stm.oks_up {ys : List Str} : ∀ {b : List Stm} {d : Nat}, Stm.oks ys d b → Stm.oks ys (d + 1) b
  | [], d, _ => by simp only [Stm.oks]
  | s :: r, d, h => by
    simp only [Stm.oks] at h ⊢
    exact ⟨Stm.ok_up h.1, Stm.oks_up h.2⟩
theorem Br.oks_up {ys : List Str} : ∀ {b : List Br} {d : Nat}, Br.oks ys d b → Br.oks ys (d + 1) b
  | [], d, _ => by simp only [Br.oks]
  | s :: r, d, h => by
    simp only [Br.oks] at h ⊢
    exact ⟨Br.ok_up h.1, Br.oks_up h.2⟩
end
theorem Stm.oks_snoc {ys : List Str} {d : Nat} : ∀ {b : List Stm} {s : Stm}, Stm.oks ys d b → s.ok ys d → Stm.oks ys d (b ++ [s])
  | [], s, _, h => by simp only [List.nil_append, Stm.oks, and_true]; exact h
  | x :: b, s, h, h' => by
    simp only [List.cons_append, Stm.oks] at h ⊢
    exact ⟨h.1, Stm.oks_snoc h.2 h'⟩
theorem Br.oks_snoc {ys : List Str} {d : Nat} : ∀ {b : List Br} {s : Br}, Br.oks ys d b → s.ok ys d → Br.oks ys d (b ++ [s])
  | [], s, _, h => by simp only [List.nil_append, Br.oks, and_true]; exact h
  | x :: b, s, h, h' => by
    simp only [List.cons_append, Br.oks] at h ⊢
    exact ⟨h.1, Br.oks_snoc h.2 h'⟩
theorem oks_nil {ys : List Str} {d : Nat} : Stm.oks ys d [] := by simp only [Stm.oks]
theorem boks_nil {ys : List Str} {d : Nat} : Br.oks ys d [] := by simp only [Br.oks]
inductive PilOk (ys : List Str) : Nat → List Fr → Prop
  | all {d : Nat} {ts : List (Str × List Stm)} : (∀ t ∈ ts, t.1.length ≤ 8 ∧ Stm.oks ys d t.2) → PilOk ys (d + 1) [.all ts]
  | talk {d : Nat} {w : Str} {b : List Stm} {ts : List (Str × List Stm)} : w.length ≤ 8 → Stm.oks ys d b → PilOk ys (d + 1) [.all ts] → PilOk ys d [.talk w b, .all ts]
  | loop {d : Nat} {b : List Stm} {f : Fr} {r : List Fr} : Stm.oks ys d b → f.isBody = true → PilOk ys (d + 1) (f :: r) → PilOk ys d (.loop b :: f :: r)
  | wait {d : Nat} {n : Int} {bs : List Br} {f : Fr} {r : List Fr} : 0 ≤ n → n < 10 → Br.oks ys d bs → f.isBody = true → PilOk ys (d + 1) (f :: r) → PilOk ys d (.wait n bs :: f :: r)
  | on {d : Nat} {p : List Pt} {b : List Stm} {n : Int} {bs : List Br} {r : List Fr} : p.length ≤ 3 → (∀ x ∈ p, x.ok) → Stm.oks ys d b → PilOk ys (d + 1) (.wait n bs :: r) → PilOk ys d (.on p b :: .wait n bs :: r)
  | iff {d : Nat} {c : Cd} {b : List Stm} {f : Fr} {r : List Fr} : c.ok ys 5 → c.h ≤ 3 → Stm.oks ys d b → f.isBody = true → PilOk ys (d + 1) (f :: r) → PilOk ys d (.iff c b :: f :: r)
  | els {d : Nat} {c : Cd} {a b : List Stm} {f : Fr} {r : List Fr} : c.ok ys 5 → c.h ≤ 3 → Stm.oks ys d a → Stm.oks ys d b → f.isBody = true → PilOk ys (d + 1) (f :: r) → PilOk ys d (.els c a b :: f :: r)
theorem trs_snoc (b : List Stm) (s : Stm) : Stm.trs (b ++ [s]) = Stm.trs b ++ [s.tr] := by simp [Stm.trs_eq]
theorem btrs_snoc (b : List Br) (s : Br) : Br.trs (b ++ [s]) = Br.trs b ++ [s.tr] := by simp [Br.trs_eq]
theorem rowsL_snoc1 (b : List Stm) (s : Stm) : (Stm.rowsL (b ++ [s])).length = (Stm.rowsL b).length + s.rows.length := by rw [Stm.rowsL_app]; simp [Stm.rowsL]
theorem browsL_snoc1 (b : List Br) (s : Br) : (Br.rowsL (b ++ [s])).length = (Br.rowsL b).length + s.rows.length := by rw [Br.rowsL_app]; simp [Br.rowsL]
theorem PilOk.add {ys : List Str} {d : Nat} {f : Fr} {r : List Fr} {s : Stm} (h : PilOk ys d (f :: r)) (hb : f.isBody = true) (hs : s.ok ys d) :
    ∃ g, addU s.tr ((f :: r).map Fr.fr) = (g :: r).map Fr.fr ∧ g.isBody = true ∧ PilOk ys d (g :: r) ∧ g.cnt = f.cnt + s.rows.length := by
  cases h with
  | all _ => simp [Fr.isBody] at hb
  | @talk _ w b ts h1 h2 h3 => exact ⟨.talk w (b ++ [s]), by simp [addU, Fr.fr, trs_snoc], rfl, .talk h1 (Stm.oks_snoc h2 hs) h3, by simp only [Fr.cnt, rowsL_snoc1]; omega⟩
  | @loop _ b _ _ h1 h2 h3 => exact ⟨.loop (b ++ [s]), by simp [addU, Fr.fr, trs_snoc], rfl, .loop (Stm.oks_snoc h1 hs) h2 h3, by simp only [Fr.cnt, rowsL_snoc1]; omega⟩
  | wait _ _ _ _ _ => simp [Fr.isBody] at hb
  | @on _ p b n bs _ h1 h2 h3 h4 => exact ⟨.on p (b ++ [s]), by simp [addU, Fr.fr, trs_snoc], rfl, .on h1 h2 (Stm.oks_snoc h3 hs) h4, by simp only [Fr.cnt, rowsL_snoc1]; omega⟩
  | @iff _ c b _ _ h1 h2 h3 h4 h5 => exact ⟨.iff c (b ++ [s]), by simp [addU, Fr.fr, trs_snoc], rfl, .iff h1 h2 (Stm.oks_snoc h3 hs) h4 h5, by simp only [Fr.cnt, rowsL_snoc1]; omega⟩
  | @els _ c a b _ _ h1 h2 h3 h4 h5 h6 => exact ⟨.els c a (b ++ [s]), by simp [addU, Fr.fr, trs_snoc], rfl, .els h1 h2 h3 (Stm.oks_snoc h4 hs) h5 h6, by simp only [Fr.cnt, rowsL_snoc1]; omega⟩
theorem talksR_snoc1 (ts : List (Str × List Stm)) (t : Str × List Stm) : (talksR (ts ++ [t])).length = (talksR ts).length + (talkR t).length := by simp [talksR]
theorem PilOk.closeN {ys : List Str} {d : Nat} {f g : Fr} {r : List Fr} (h : PilOk ys d (f :: g :: r)) (ho : f.fr.kind ≠ "on") :
    ∃ g', L2.closeN ((f :: g :: r).map Fr.fr) = (g' :: r).map Fr.fr ∧ PilOk ys (d + 1) (g' :: r) ∧ cntP (g' :: r) ≤ cntP (f :: g :: r) ∧ (g.isBody = true → g'.isBody = true) := by
  have body : ∀ s : Stm, g.isBody = true → PilOk ys (d + 1) (g :: r) → s.ok ys (d + 1) → toldU f.fr = s.tr → s.rows.length ≤ f.cnt →
      ∃ g', L2.closeN ((f :: g :: r).map Fr.fr) = (g' :: r).map Fr.fr ∧ PilOk ys (d + 1) (g' :: r) ∧ cntP (g' :: r) ≤ cntP (f :: g :: r) ∧ (g.isBody = true → g'.isBody = true) := by
    intro s hb hp hs ht hc
    obtain ⟨g', e1, e2, e3, e4⟩ := hp.add hb hs
    refine ⟨g', ?_, e3, by simp only [cntP]; omega, fun _ => e2⟩
    rw [← e1, ← ht]
    simp [L2.closeN]
  cases h with
  | @talk _ w b ts h1 h2 h3 =>
    cases h3 with
    | all h4 =>
      refine ⟨.all (ts ++ [(w, b)]), ?_, .all fun t m => ?_, ?_, fun h => by simp [Fr.isBody] at h⟩
      · simp only [List.map_cons, List.map_nil, L2.closeN, addU, toldU, Fr.fr, List.map_append, talkT]
        rw [told_talk]
      · rcases List.mem_append.mp m with m | m
        · exact h4 t m
        · simp only [List.mem_singleton] at m
          subst m
          exact ⟨h1, h2⟩
      · simp only [cntP, Fr.cnt, talksR_snoc1]
        simp [talkR, blockR, inn]
        omega
  | @loop _ b _ _ h1 h2 h3 => exact body (.loop b) h2 h3 (by simp only [Stm.ok]; exact h1) (by simp only [Stm.tr]; exact told_loop _ _ _) (by simp [Stm.rows, blockR, inn, Fr.cnt])
  | @wait _ n bs _ _ h1 h2 h3 h4 h5 => exact body (.wait n bs) h4 h5 (by simp only [Stm.ok]; exact ⟨⟨h1, h2⟩, h3⟩) (by simp only [Stm.tr]; exact told_wait _ _ _) (by simp [Stm.rows, blockR, inn, Fr.cnt])
  | on _ _ _ _ => exact absurd rfl ho
  | @iff _ c b _ _ h1 h2 h3 h4 h5 => exact body (.test c b []) h4 h5 (by simp only [Stm.ok]; exact ⟨h1, h2, h3, oks_nil⟩) (by simp only [Stm.tr, Stm.trs]; exact told_if _ _ _) (by simp [Stm.rows, inn, Fr.cnt])
  | @els _ c a b _ _ h1 h2 h3 h4 h5 h6 => exact body (.test c a b) h5 h6 (by simp only [Stm.ok]; exact ⟨h1, h2, h3, h4⟩) (by simp only [Stm.tr]; exact told_else _ _ _) (by simp only [Stm.rows, inn, Fr.cnt]; split <;> simp <;> omega)
theorem PilOk.shut {ys : List Str} {d : Nat} {p : List Pt} {b : List Stm} {n : Int} {bs : List Br} {r : List Fr} (h : PilOk ys d (.on p b :: .wait n bs :: r)) :
    shutU ((Fr.on p b :: .wait n bs :: r).map Fr.fr) = (Fr.wait n (bs ++ [.mk p b]) :: r).map Fr.fr ∧ PilOk ys (d + 1) (.wait n (bs ++ [.mk p b]) :: r) ∧ cntP (.wait n (bs ++ [.mk p b]) :: r) ≤ cntP (.on p b :: .wait n bs :: r) := by
  cases h with
  | on h1 h2 h3 h4 =>
    refine ⟨by simp [shutU, addU, Fr.fr, btrs_snoc, Br.tr], ?_, by simp only [cntP, Fr.cnt, browsL_snoc1]; simp [Br.rows, inn]; omega⟩
    cases h4 with
    | wait a1 a2 a3 a4 a5 => exact .wait a1 a2 (Br.oks_snoc a3 (by simp only [Br.ok]; exact ⟨h1, h2, Stm.oks_up h3⟩)) a4 a5
end L2
namespace L2
open PySem
section
variable {ys : List Str} {d : Nat} {p : List Fr}
theorem PilOk.ne (h : PilOk ys d p) : ∃ f r, p = f :: r := by cases h <;> exact ⟨_, _, rfl⟩
theorem PilOk.kwait (h : PilOk ys d p) (k : kindU (p.map Fr.fr) = "wait") : ∃ n bs f r, p = .wait n bs :: f :: r := by
  cases h with
  | wait _ _ _ _ _ => exact ⟨_, _, _, _, rfl⟩
  | all _ => exact absurd k (by show ¬ Str.ofString "all" = "wait"; decide +kernel)
  | talk _ _ _ => exact absurd k (by show ¬ Str.ofString "talk" = "wait"; decide +kernel)
  | loop _ _ _ => exact absurd k (by show ¬ Str.ofString "loop" = "wait"; decide +kernel)
  | on _ _ _ _ => exact absurd k (by show ¬ Str.ofString "on" = "wait"; decide +kernel)
  | iff _ _ _ _ _ => exact absurd k (by show ¬ Str.ofString "if" = "wait"; decide +kernel)
  | els _ _ _ _ _ _ => exact absurd k (by show ¬ Str.ofString "else" = "wait"; decide +kernel)
theorem PilOk.kon (h : PilOk ys d p) (k : kindU (p.map Fr.fr) = "on") : ∃ q b n bs f r, p = .on q b :: .wait n bs :: f :: r := by
  cases h with
  | wait _ _ _ _ _ => exact absurd k (by show ¬ Str.ofString "wait" = "on"; decide +kernel)
  | all _ => exact absurd k (by show ¬ Str.ofString "all" = "on"; decide +kernel)
  | talk _ _ _ => exact absurd k (by show ¬ Str.ofString "talk" = "on"; decide +kernel)
  | loop _ _ _ => exact absurd k (by show ¬ Str.ofString "loop" = "on"; decide +kernel)
  | on _ _ _ h => cases h with | wait _ _ _ _ _ => exact ⟨_, _, _, _, _, _, rfl⟩
  | iff _ _ _ _ _ => exact absurd k (by show ¬ Str.ofString "if" = "on"; decide +kernel)
  | els _ _ _ _ _ _ => exact absurd k (by show ¬ Str.ofString "else" = "on"; decide +kernel)
theorem PilOk.kif (h : PilOk ys d p) (k : kindU (p.map Fr.fr) = "if") : ∃ c b f r, p = .iff c b :: f :: r := by
  cases h with
  | wait _ _ _ _ _ => exact absurd k (by show ¬ Str.ofString "wait" = "if"; decide +kernel)
  | all _ => exact absurd k (by show ¬ Str.ofString "all" = "if"; decide +kernel)
  | talk _ _ _ => exact absurd k (by show ¬ Str.ofString "talk" = "if"; decide +kernel)
  | loop _ _ _ => exact absurd k (by show ¬ Str.ofString "loop" = "if"; decide +kernel)
  | on _ _ _ _ => exact absurd k (by show ¬ Str.ofString "on" = "if"; decide +kernel)
  | iff _ _ _ _ _ => exact ⟨_, _, _, _, rfl⟩
  | els _ _ _ _ _ _ => exact absurd k (by show ¬ Str.ofString "else" = "if"; decide +kernel)
theorem PilOk.ktalk (h : PilOk ys d p) (k : kindU (p.map Fr.fr) = "talk") : ∃ w b ts, p = [.talk w b, .all ts] := by
  cases h with
  | wait _ _ _ _ _ => exact absurd k (by show ¬ Str.ofString "wait" = "talk"; decide +kernel)
  | all _ => exact absurd k (by show ¬ Str.ofString "all" = "talk"; decide +kernel)
  | talk _ _ _ => exact ⟨_, _, _, rfl⟩
  | loop _ _ _ => exact absurd k (by show ¬ Str.ofString "loop" = "talk"; decide +kernel)
  | on _ _ _ _ => exact absurd k (by show ¬ Str.ofString "on" = "talk"; decide +kernel)
  | iff _ _ _ _ _ => exact absurd k (by show ¬ Str.ofString "if" = "talk"; decide +kernel)
  | els _ _ _ _ _ _ => exact absurd k (by show ¬ Str.ofString "else" = "talk"; decide +kernel)
theorem PilOk.kall (h : PilOk ys d p) (k : kindU (p.map Fr.fr) = "all") : ∃ ts, p = [.all ts] := by
  cases h with
  | wait _ _ _ _ _ => exact absurd k (by show ¬ Str.ofString "wait" = "all"; decide +kernel)
  | all _ => exact ⟨_, rfl⟩
  | talk _ _ _ => exact absurd k (by show ¬ Str.ofString "talk" = "all"; decide +kernel)
  | loop _ _ _ => exact absurd k (by show ¬ Str.ofString "loop" = "all"; decide +kernel)
  | on _ _ _ _ => exact absurd k (by show ¬ Str.ofString "on" = "all"; decide +kernel)
  | iff _ _ _ _ _ => exact absurd k (by show ¬ Str.ofString "if" = "all"; decide +kernel)
  | els _ _ _ _ _ _ => exact absurd k (by show ¬ Str.ofString "else" = "all"; decide +kernel)
theorem PilOk.kbody (h : PilOk ys d p) (k1 : kindU (p.map Fr.fr) ≠ "wait") (k2 : kindU (p.map Fr.fr) ≠ "all") : ∃ f r, p = f :: r ∧ f.isBody = true := by
  cases h with
  | wait _ _ _ _ _ => exact absurd rfl k1
  | all _ => exact absurd rfl k2
  | talk _ _ _ => exact ⟨_, _, rfl, rfl⟩
  | loop _ _ _ => exact ⟨_, _, rfl, rfl⟩
  | on _ _ _ _ => exact ⟨_, _, rfl, rfl⟩
  | iff _ _ _ _ _ => exact ⟨_, _, rfl, rfl⟩
  | els _ _ _ _ _ _ => exact ⟨_, _, rfl, rfl⟩
def lenOk (p : List Fr) : Prop := p.length ≤ 11 ∨ (kindU (p.map Fr.fr) = "on" ∧ p.length ≤ 12)
theorem PilOk.close (h : PilOk ys d p) (hl : 2 ≤ p.length) (ho : lenOk p) : ∃ d' p', closeU (p.map Fr.fr) = p'.map Fr.fr ∧ PilOk ys d' p' ∧ d' + p'.length = d + p.length ∧ p'.length < p.length ∧ p'.length ≤ 10 ∧ 1 ≤ p'.length ∧ cntP p' ≤ cntP p := by
  unfold closeU
  split
  · rename_i k
    obtain ⟨q, b, n, bs, f, r, rfl⟩ := h.kon k
    obtain ⟨e1, e2, e3⟩ := h.shut
    obtain ⟨g, e4, e5, e6, _⟩ := e2.closeN (by show Str.ofString "wait" ≠ "on"; decide +kernel)
    have hl' : (Fr.on q b :: Fr.wait n bs :: f :: r).length ≤ 12 := by rcases ho with h | h <;> omega
    refine ⟨_, _, by rw [e1, e4], e5, ?_, ?_, ?_, ?_, by omega⟩ <;> simp only [List.length_cons] at hl' ⊢ <;> omega
  · rename_i k
    obtain ⟨f, r, rfl⟩ := h.ne
    cases r with
    | nil => simp at hl
    | cons g r =>
      obtain ⟨g', e1, e2, e3, _⟩ := h.closeN k
      have hl' : (f :: g :: r).length ≤ 11 := by
        rcases ho with h | h
        · exact h
        · exact absurd h.1 k
      refine ⟨_, _, e1, e2, ?_, ?_, ?_, ?_, e3⟩ <;> simp only [List.length_cons] at hl' ⊢ <;> omega
theorem PilOk.step (hy : ys ≠ []) (h : PilOk ys d p) (hd : d + p.length = 14) (ho : lenOk p) (n : Int) : ∃ d' p', stepU ys (p.map Fr.fr) n = p'.map Fr.fr ∧ PilOk ys d' p' ∧ d' + p'.length = 14 ∧ lenOk p' ∧ cntP p' ≤ cntP p + 3 := by
  have hon : Str.ofString "wait" ≠ "on" := by decide +kernel
  unfold stepU
  split
  · rename_i k
    obtain ⟨q1, q2⟩ := patF_ok (n / 16)
    rcases k with ⟨k, _⟩ | ⟨k, _⟩
    · obtain ⟨m, bs, f, r, rfl⟩ := h.kwait k
      have hl : (Fr.wait m bs :: f :: r).length ≤ 11 := by
        rcases ho with h | h
        · exact h
        · exact absurd h.1 hon
      obtain ⟨e, rfl⟩ : ∃ e, d = e + 1 := ⟨d - 1, by omega⟩
      rw [if_neg (by rw [k]; exact hon)]
      refine ⟨e, .on (patF (n / 16)) [] :: .wait m bs :: f :: r, by simp [Fr.fr, Stm.trs], .on q1 q2 oks_nil h, by simp only [List.length_cons] at hd ⊢; omega, .inr ⟨rfl, by simp only [List.length_cons] at hl ⊢; omega⟩, ?_⟩
      show (Stm.rowsL []).length + 1 + cntP _ ≤ _
      simp only [Stm.rowsL, List.length_nil]
      omega
    · obtain ⟨q, b, m, bs, f, r, rfl⟩ := h.kon k
      obtain ⟨e1, e2, e3⟩ := h.shut
      rw [if_pos k, e1]
      have hl' : (Fr.on q b :: Fr.wait m bs :: f :: r).length ≤ 12 := by rcases ho with h | h <;> omega
      refine ⟨d, .on (patF (n / 16)) [] :: .wait m (bs ++ [.mk q b]) :: f :: r, by simp [Fr.fr, Stm.trs], .on q1 q2 oks_nil e2, by simp only [List.length_cons] at hd ⊢; omega, .inr ⟨rfl, by simp only [List.length_cons] at hl' ⊢; omega⟩, ?_⟩
      show (Stm.rowsL []).length + 1 + cntP _ ≤ _
      simp only [Stm.rowsL, List.length_nil]
      omega
  · split
    · rename_i k
      obtain ⟨c, b, f, r, rfl⟩ := h.kif k.2
      have hl : (Fr.iff c b :: f :: r).length ≤ 11 := by
        rcases ho with h | h
        · exact h
        · exact absurd h.1 (by show Str.ofString "if" ≠ "on"; decide +kernel)
      refine ⟨d, .els c b [] :: f :: r, by simp [elseU, Fr.fr, Stm.trs], ?_, hd, .inl hl, ?_⟩
      · cases h with
        | iff h1 h2 h3 h4 h5 => exact .els h1 h2 h3 oks_nil h4 h5
      · simp only [cntP, Fr.cnt, Stm.rowsL, List.length_nil]
        omega
    · split
      · rename_i k
        have hl : 2 ≤ p.length := by
          rcases k with k | k
          · obtain ⟨m, bs, f, r, rfl⟩ := h.kwait k
            simp only [List.length_cons]
            omega
          · have := k.2
            rw [List.length_map] at this
            omega
        obtain ⟨d', p', e1, e2, e3, e4, e5, e6, e7⟩ := h.close hl ho
        exact ⟨d', p', e1, e2, by omega, .inl (by omega), by omega⟩
      · rename_i kw
        split
        · rename_i k
          have wl := (wordF_low (n / 16)).2
          rcases k with ⟨_, k, _⟩ | k
          · obtain ⟨w, b, ts, rfl⟩ := h.ktalk k
            obtain ⟨d', p', e1, e2, e3, e4, e5, e6, e7⟩ := h.close (by simp) ho
            rw [if_pos k, e1]
            obtain ⟨f, r, rfl⟩ := e2.ne
            have hr : r = [] := by
              simp only [List.length_cons, List.length_nil] at e4
              cases r with
              | nil => rfl
              | cons _ _ =>
                simp only [List.length_cons] at e4
                omega
            subst hr
            cases e2 with
            | @all d' ts' e2 =>
              simp only [List.length_cons, List.length_nil] at e3 hd
              refine ⟨d', [.talk (wordF (n / 16)) [], .all ts'], by simp [Fr.fr, Stm.trs], .talk wl oks_nil (.all e2), by simp only [List.length_cons, List.length_nil]; omega, .inl (by simp), ?_⟩
              simp only [cntP, Fr.cnt, Stm.rowsL, List.length_nil] at e7 ⊢
              omega
          · obtain ⟨ts, rfl⟩ := h.kall k
            rw [if_neg (by rw [k]; decide +kernel)]
            cases h with
            | @all e _ h =>
              refine ⟨e, [.talk (wordF (n / 16)) [], .all ts], by simp [Fr.fr, Stm.trs], .talk wl oks_nil (.all h), by simp only [List.length_cons, List.length_nil] at hd ⊢; omega, .inl (by simp), ?_⟩
              simp only [cntP, Fr.cnt, Stm.rowsL, List.length_nil]
              omega
        · rename_i ka
          obtain ⟨f, r, rfl, hb⟩ := h.kbody (fun z => kw (.inl z)) (fun z => ka (.inr z))
          split
          · obtain ⟨g, e1, e2, e3, e4⟩ := h.add hb (plainF_ok hy (n % 16 % 8) (n / 16) d).1
            refine ⟨d, g :: r, e1, e3, hd, ?_, ?_⟩
            · rcases ho with h' | h'
              · exact .inl h'
              · refine .inr ⟨?_, h'.2⟩
                have : kindU ((g :: r).map Fr.fr) = kindU ((f :: r).map Fr.fr) := by rw [← e1]; rfl
                rw [this]
                exact h'.1
            · have := (plainF_ok hy (n % 16 % 8) (n / 16) d).2
              simp only [cntP]
              omega
          · rename_i kl
            have hl : (f :: r).length ≤ 10 := by
              simp only [not_or, List.length_map] at kl
              omega
            obtain ⟨e, rfl⟩ : ∃ e, d = e + 1 := ⟨d - 1, by omega⟩
            simp only [List.length_cons] at hl hd
            split
            · exact ⟨e, .loop [] :: f :: r, by simp [Fr.fr, Stm.trs], .loop oks_nil hb h, by simp only [List.length_cons]; omega, .inl (by simp only [List.length_cons]; omega), by simp only [cntP, Fr.cnt, Stm.rowsL, List.length_nil]; omega⟩
            · split
              · exact ⟨e, .wait (n / 16 % 10) [] :: f :: r, by simp [Fr.fr, Br.trs], .wait (by omega) (by omega) boks_nil hb h, by simp only [List.length_cons]; omega, .inl (by simp only [List.length_cons]; omega), by simp only [cntP, Fr.cnt, Br.rowsL, List.length_nil]; omega⟩
              · obtain ⟨c1, c2⟩ := condF_ok hy 2 (n / 16)
                exact ⟨e, .iff (condF ys 2 (n / 16)).1 [] :: f :: r, by simp [Fr.fr, Stm.trs], .iff c1 (by omega) oks_nil hb h, by simp only [List.length_cons]; omega, .inl (by simp only [List.length_cons]; omega), by simp only [cntP, Fr.cnt, Stm.rowsL, List.length_nil]; omega⟩
end
end L2
namespace L2
open PySem
theorem Cd.hh_le {ys : List Str} : ∀ {c : Cd}, c.ok ys 5 → c.hh ≤ c.h + 6
  | .cmp _ a b, h => by
    have h1 := h.1.2
    have h2 := h.2.2
    simp only [Cd.hh, Cd.h]
    omega
  | .nt c, h => by
    have h1 := Cd.hh_le (c := c) h
    simp only [Cd.hh, Cd.h]
    omega
  | .both c d, h => by
    have h1 := Cd.hh_le (c := c) h.1
    have h2 := Cd.hh_le (c := d) h.2
    simp only [Cd.hh, Cd.h]
    omega
theorem tx_len_le : ∀ ws : List Str, (Tx ws).length ≤ (ws.map (·.length)).sum + ws.length
  | [] => Nat.zero_le _
  | [w] => by rw [tx_len1]; simp
  | w :: v :: r => by
    have h := tx_len_le (v :: r)
    rw [tx_cons w (by simp), sx_len, sx_len]
    have e : bl1.length = 1 := rfl
    rw [e]
    simp only [List.map_cons, List.sum_cons, List.length_cons] at h ⊢
    omega
theorem pts_len {ps : List Pt} (h3 : ps.length ≤ 3) (h : ∀ p ∈ ps, p.ok) : (Tx (ps.map Pt.tx)).length ≤ 27 := by
  have h1 := tx_len_le (ps.map Pt.tx)
  have h2 := Pt.sum h
  rw [List.length_map] at h1
  omega
theorem inn_len {b : List Str} {k : Nat} (h : ∀ y ∈ b, y.length ≤ k) : ∀ y ∈ inn b, y.length ≤ k + 2 := by
  intro y m
  obtain ⟨z, hz, rfl⟩ := List.mem_map.mp m
  have := h z hz
  have e : blk.length = 2 := by decide +kernel
  rw [sx_len, e]
  omega
theorem block_len {head : Str} {b : List Str} {k : Nat} (hh : head.length ≤ k) (h : ∀ y ∈ b, y.length ≤ k) : ∀ y ∈ blockR head b, y.length ≤ k + 3 := by
  intro y m
  have e : (Str.ofString "end").length = 3 := by decide +kernel
  simp only [blockR, List.cons_append, List.mem_cons, List.mem_append, List.not_mem_nil, or_false] at m
  rcases m with rfl | m | rfl
  · omega
  · have := inn_len h y m
    omega
  · omega
mutual
theorem Stm.rows_len {ys : List Str} (g : Good ys) : ∀ {s : Stm} {d : Nat}, s.ok ys d → ∀ y ∈ s.rows, y.length ≤ 13000 + 6 * d
  | .plain ps, d, h => by
    have h' : ps.length ≤ 3 ∧ (∀ p ∈ ps, p.ok) := by cases d <;> (simp only [Stm.ok] at h; exact ⟨h.1, h.2.1⟩)
    have := pts_len h'.1 h'.2
    intro y m
    simp only [Stm.rows, List.mem_singleton] at m
    subst m
    omega
  | .put n e, d, h => by
    have h' : n ∈ ys ∧ e.ok ys ∧ e.h ≤ 5 := by cases d <;> simpa only [Stm.ok] using h
    intro y m
    simp only [Stm.rows, List.mem_singleton] at m
    subst m
    have h1 := tx_len_le [Str.ofString "put", n, Tx e.words]
    have h2 := e.len g h'.2.1
    have h3 := e.sz_le
    have h4 := g.ln n h'.1
    have h5 : 2 ^ (e.h + 1) ≤ 2 ^ 6 := Nat.pow_le_pow_right (by decide) (by omega)
    have e1 : (Str.ofString "put").length = 3 := by decide +kernel
    simp only [List.map_cons, List.map_nil, List.sum_cons, List.sum_nil, List.length_cons, List.length_nil, e1] at h1
    have h6 : (2 : Nat) ^ 6 = 64 := rfl
    omega
  | .loop b, 0, h => by simp only [Stm.ok] at h
  | .loop b, d + 1, h => by
    simp only [Stm.ok] at h
    intro y m
    simp only [Stm.rows] at m
    have e1 : (Str.ofString "loop").length = 4 := by decide +kernel
    have := block_len (k := 13000 + 6 * d) (by omega) (Stm.rowsL_len g h) y m
    omega
  | .wait n bs, 0, h => by simp only [Stm.ok] at h
  | .wait n bs, d + 1, h => by
    simp only [Stm.ok] at h
    intro y m
    simp only [Stm.rows] at m
    have e1 : (Str.ofString "wait " ++ Str.ofString (toString n)).length = 6 := by
      rw [sx_len, dig_len h.1.1 h.1.2]
      decide +kernel
    have := block_len (k := 13000 + 6 * d + 2) (by omega) (Br.rowsL_len g h.2) y m
    omega
  | .test c a b, 0, h => by simp only [Stm.ok] at h
  | .test c a b, d + 1, h => by
    simp only [Stm.ok] at h
    obtain ⟨h1, h2, h3, h4⟩ := h
    intro y m
    have e1 : (Str.ofString "end").length = 3 := by decide +kernel
    have e2 : (Str.ofString "else").length = 4 := by decide +kernel
    have e3 : (Str.ofString "if ").length = 3 := by decide +kernel
    simp only [Stm.rows, List.cons_append, List.mem_cons, List.mem_append, List.not_mem_nil, or_false] at m
    rcases m with rfl | (m | m) | rfl
    · have q1 := c.len g h1
      have q2 := c.sz_le
      have q3 := Cd.hh_le h1
      have q4 : 2 ^ (c.hh + 1) ≤ 2 ^ 10 := Nat.pow_le_pow_right (by decide) (by omega)
      have q5 : (2 : Nat) ^ 10 = 1024 := rfl
      rw [sx_len, e3]
      omega
    · have := inn_len (Stm.rowsL_len g h3) y m
      omega
    · split at m
      · simp at m
      · rcases List.mem_cons.mp m with rfl | m
        · omega
        · have := inn_len (Stm.rowsL_len g h4) y m
          omega
    · omega
theorem Br.rows_len {ys : List Str} (g : Good ys) : ∀ {s : Br} {d : Nat}, s.ok ys d → ∀ y ∈ s.rows, y.length ≤ 13000 + 6 * d + 2
  | .mk p b, d, h => by
    simp only [Br.ok] at h
    intro y m
    simp only [Br.rows, List.mem_cons] at m
    have e1 : (Str.ofString "on ").length = 3 := by decide +kernel
    rcases m with rfl | m
    · have := pts_len h.1 h.2.1
      rw [sx_len, e1]
      omega
    · exact inn_len (Stm.rowsL_len g h.2.2) y m
theorem Stm.rowsL_len {ys : List Str} (g : Good ys) : ∀ {b : List Stm} {d : Nat}, Stm.oks ys d b → ∀ y ∈ Stm.rowsL b, y.length ≤ 13000 + 6 * d
  | [], d, _ => by intro y m; simp [Stm.rowsL] at m
  | s :: r, d, h => by
    simp only [Stm.oks] at h
    intro y m
    simp only [Stm.rowsL, List.mem_append] at m
    rcases m with m | m
    · exact Stm.rows_len g h.1 y m
    · exact Stm.rowsL_len g h.2 y m
theorem Br.rowsL_len {ys : List Str} (g : Good ys) : ∀ {b : List Br} {d : Nat}, Br.oks ys d b → ∀ y ∈ Br.rowsL b, y.length ≤ 13000 + 6 * d + 2
  | [], d, _ => by intro y m; simp [Br.rowsL] at m
  | s :: r, d, h => by
    simp only [Br.oks] at h
    intro y m
    simp only [Br.rowsL, List.mem_append] at m
    rcases m with m | m
    · exact Br.rows_len g h.1 y m
    · exact Br.rowsL_len g h.2 y m
end
theorem sum_len {k : Nat} : ∀ {l : List Str}, (∀ y ∈ l, y.length ≤ k) → (l.map (·.length)).sum ≤ l.length * k
  | [], _ => by simp
  | x :: l, h => by
    have h1 := h x (by simp)
    have h2 := sum_len (l := l) fun y m => h y (by simp [m])
    simp only [List.map_cons, List.sum_cons, List.length_cons, Nat.add_mul, Nat.one_mul]
    omega
def pile0 : List Frame := [⟨"all", .non, [], []⟩]
def buildU (ys : List Str) (ns : List Int) : List Frame := ns.foldl (stepU ys) pile0
theorem build_ok {ys : List Str} (hy : ys ≠ []) (ns : List Int) : ∃ d p, buildU ys ns = p.map Fr.fr ∧ PilOk ys d p ∧ d + p.length = 14 ∧ lenOk p ∧ cntP p ≤ 3 * ns.length := by
  have key : ∀ (ns : List Int) (q : List Frame) (d : Nat) (p : List Fr), q = p.map Fr.fr → PilOk ys d p → d + p.length = 14 → lenOk p → ∃ d' p', ns.foldl (stepU ys) q = p'.map Fr.fr ∧ PilOk ys d' p' ∧ d' + p'.length = 14 ∧ lenOk p' ∧ cntP p' ≤ cntP p + 3 * ns.length := by
    intro ns
    induction ns with
    | nil => exact fun q d p e h1 h2 h3 => ⟨d, p, e, h1, h2, h3, by simp⟩
    | cons n ns ih =>
      intro q d p e h1 h2 h3
      obtain ⟨d', p', e1, e2, e3, e4, e5⟩ := h1.step hy h2 h3 n
      obtain ⟨d2, p2, g1, g2, g3, g4, g5⟩ := ih (stepU ys q n) d' p' (by rw [e, e1]) e2 e3 e4
      exact ⟨d2, p2, g1, g2, g3, g4, by simp only [List.length_cons]; omega⟩
  obtain ⟨d, p, h1, h2, h3, h4, h5⟩ := key ns pile0 13 [.all []] rfl (.all (d := 12) (by simp)) rfl (.inl (by simp))
  exact ⟨d, p, h1, h2, h3, h4, by simpa [cntP, Fr.cnt, talksR] using h5⟩
def closeK : Nat → List Frame → List Frame
  | 0, p => p
  | k + 1, p => if p.length > 1 then closeK k (closeU p) else p
theorem closeK_ok {ys : List Str} : ∀ (k d : Nat) (p : List Fr), PilOk ys d p → d + p.length = 14 → lenOk p → p.length ≤ k + 1 → ∃ ts, closeK k (p.map Fr.fr) = [Fr.fr (.all ts)] ∧ PilOk ys 13 [.all ts] ∧ (talksR ts).length ≤ cntP p := by
  intro k
  induction k with
  | zero =>
    intro d p h1 h2 h3 h4
    obtain ⟨f, r, rfl⟩ := h1.ne
    simp only [List.length_cons] at h2 h4
    have hr : r = [] := List.eq_nil_of_length_eq_zero (by omega)
    subst hr
    have hd : d = 13 := by simp only [List.length_nil] at h2; omega
    subst hd
    cases h1 with
    | @all d ts h => exact ⟨ts, rfl, .all h, by simp [cntP, Fr.cnt]⟩
  | succ k ih =>
    intro d p h1 h2 h3 h4
    rw [closeK]
    split
    · rename_i hl
      rw [List.length_map] at hl
      obtain ⟨d', p', e1, e2, e3, e4, e5, e6, e7⟩ := h1.close (by omega) h3
      obtain ⟨ts, g1, g2, g3⟩ := ih d' p' e2 (by omega) (.inl (by omega)) (by omega)
      exact ⟨ts, by rw [e1, g1], g2, by omega⟩
    · rename_i hl
      rw [List.length_map] at hl
      obtain ⟨f, r, rfl⟩ := h1.ne
      simp only [List.length_cons] at h2 hl
      have hr : r = [] := List.eq_nil_of_length_eq_zero (by omega)
      subst hr
      have hd : d = 13 := by simp only [List.length_nil] at h2; omega
      subst hd
      cases h1 with
      | @all d ts h => exact ⟨ts, rfl, .all h, by simp [cntP, Fr.cnt]⟩
theorem talks_len {ys : List Str} (g : Good ys) {ts : List (Str × List Stm)} (h : PilOk ys 13 [.all ts]) : (∀ t ∈ ts, t.1.length ≤ 8 ∧ Stm.oks ys 12 t.2) ∧ ∀ y ∈ talksR ts, y.length ≤ 13100 := by
  cases h with
  | all h =>
    refine ⟨h, fun y m => ?_⟩
    obtain ⟨t, ht, hy⟩ := List.mem_flatMap.mp m
    have h1 := Stm.rowsL_len g (h t ht).2
    have e1 : (Str.ofString "talk ").length = 5 := by decide +kernel
    have := block_len (k := 13072) (head := Str.ofString "talk " ++ t.1) (by rw [sx_len, e1]; have := (h t ht).1; omega) h1 y hy
    omega
end L2
namespace L2
open PySem
mutual
theorem Tr.At.live {H : Hp} : ∀ {x : Tr} {v : V} {fs : List Addr}, x.At H v fs → ∀ a ∈ fs, H a ≠ none
  | .non, v, fs, h => by simp only [Tr.At] at h; obtain ⟨_, rfl⟩ := h; simp
  | .int _, v, fs, h => by simp only [Tr.At] at h; obtain ⟨_, rfl⟩ := h; simp
  | .str _, v, fs, h => by simp only [Tr.At] at h; obtain ⟨_, rfl⟩ := h; simp
  | .tup xs, v, fs, h => by
    simp only [Tr.At] at h
    obtain ⟨a, vs, _, _, r⟩ := h
    exact Tr.Ats.live r
  | .lst xs, v, fs, h => by
    simp only [Tr.At] at h
    obtain ⟨a, vs, gs, _, e, r, rfl⟩ := h
    intro b m
    rcases List.mem_cons.mp m with rfl | m
    · rw [e]; simp
    · exact Tr.Ats.live r b m
theorem Tr.Ats.live {H : Hp} : ∀ {xs : List Tr} {vs : List V} {fs : List Addr}, Tr.Ats H xs vs fs → ∀ a ∈ fs, H a ≠ none
  | [], vs, fs, h => by simp only [Tr.Ats] at h; obtain ⟨_, rfl⟩ := h; simp
  | x :: xs, vs, fs, h => by
    simp only [Tr.Ats] at h
    obtain ⟨v, ws, f, g, _, rfl, a, b⟩ := h
    intro c m
    rcases List.mem_append.mp m with m | m
    · exact Tr.At.live a c m
    · exact Tr.Ats.live b c m
end
section
variable {H0 H H' : Hp} {P : Addr} {f : Frame} {p r : List Frame} {v x : V} {vs : List V} {fs ex g : List Addr} {t : Tr}
def FrAt (H : Hp) (f : Frame) (v : V) (fs : List Addr) : Prop :=
  ∃ a l m us ms vw fw gs hs, v = .ref a ∧ H a = some (.lst [.str f.kind, vw, .ref l, .ref m]) ∧ f.what.At H vw fw ∧ H l = some (.lst us) ∧ Tr.Ats H f.body us gs ∧ H m = some (.lst ms) ∧ Tr.Ats H f.first ms hs ∧ fs = a :: (fw ++ (l :: gs ++ m :: hs))
theorem FrAt.keep (h : FrAt H f v fs) (k : Keep fs H H') : FrAt H' f v fs := by
  obtain ⟨a, l, m, us, ms, vw, fw, gs, hs, e, h1, h2, h3, h4, h5, h6, rfl⟩ := h
  refine ⟨a, l, m, us, ms, vw, fw, gs, hs, e, k.2 _ (by simp) _ h1, h2.mono (k.sub ?_), k.2 _ (by simp) _ h3, h4.mono (k.sub ?_), k.2 _ (by simp) _ h5, h6.mono (k.sub ?_), rfl⟩ <;>
  · intro b m
    simp [m]
theorem FrAt.live (h : FrAt H f v fs) : ∀ a ∈ fs, H a ≠ none := by
  obtain ⟨a, l, m, us, ms, vw, fw, gs, hs, e, h1, h2, h3, h4, h5, h6, rfl⟩ := h
  intro b mb
  simp only [List.mem_cons, List.mem_append] at mb
  rcases mb with rfl | mb | (rfl | mb) | rfl | mb
  · rw [h1]; simp
  · exact h2.live b mb
  · rw [h3]; simp
  · exact h4.live b mb
  · rw [h5]; simp
  · exact h6.live b mb
def PilAt (H : Hp) : List Frame → List V → List Addr → Prop
  | [], vs, fs => vs = [] ∧ fs = []
  | f :: r, vs, fs => ∃ v ws f1 f2, vs = v :: ws ∧ fs = f1 ++ f2 ∧ FrAt H f v f1 ∧ PilAt H r ws f2
theorem PilAt.keep : ∀ {p : List Frame} {vs : List V} {fs : List Addr}, PilAt H p vs fs → Keep fs H H' → PilAt H' p vs fs
  | [], _, _, h, _ => h
  | f :: r, _, _, ⟨v, ws, f1, f2, e, e', h1, h2⟩, k => by
    subst e'
    exact ⟨v, ws, f1, f2, e, rfl, h1.keep (k.sub fun b m => by simp [m]), PilAt.keep h2 (k.sub fun b m => by simp [m])⟩
theorem PilAt.live : ∀ {p : List Frame} {vs : List V} {fs : List Addr}, PilAt H p vs fs → ∀ a ∈ fs, H a ≠ none
  | [], _, _, h => by obtain ⟨_, rfl⟩ := h; simp
  | f :: r, _, _, ⟨v, ws, f1, f2, e, e', h1, h2⟩ => by
    subst e'
    intro b m
    rcases List.mem_append.mp m with m | m
    · exact h1.live b m
    · exact PilAt.live h2 b m
theorem PilAt.len : ∀ {p : List Frame} {vs : List V} {fs : List Addr}, PilAt H p vs fs → vs.length = p.length
  | [], _, _, h => by obtain ⟨rfl, rfl⟩ := h; rfl
  | f :: r, _, _, ⟨v, ws, f1, f2, e, e', h1, h2⟩ => by
    subst e
    simp [PilAt.len h2]
structure PSX (H0 H : Hp) (P : Addr) (p : List Frame) (ex : List Addr) : Prop where
  same : Same H0 H
  live : ∀ a ∈ ex, H a ≠ none
  at' : ∃ vs fs, H P = some (.lst vs.reverse) ∧ PilAt H p vs fs ∧ (P :: (fs ++ ex)).Nodup ∧ ∀ a ∈ P :: (fs ++ ex), H0 a = none
theorem live_same (s : Same H H') {a : Addr} (h : H a ≠ none) : H' a ≠ none := fun z => h (s.free z)
theorem PSX.mono (h : PSX H0 H P p ex) (s : Same H H') : PSX H0 H' P p ex := by
  obtain ⟨vs, fs, h1, h2, h3, h4⟩ := h.at'
  exact ⟨h.same.trans s, fun a m => live_same s (h.live a m), vs, fs, s _ _ h1, h2.keep (s.keep _), h3, h4⟩
theorem PSX.new (h : PSX H0 H P p ex) {q : Addr} (hq : H q = none) (s : Same H H') (hl : H' q ≠ none) : PSX H0 H' P p (q :: ex) := by
  have h' := h.mono s
  obtain ⟨vs, fs, h1, h2, h3, h4⟩ := h.at'
  have nq : q ∉ P :: (fs ++ ex) := by
    intro m
    simp only [List.mem_cons, List.mem_append] at m
    rcases m with rfl | m | m
    · rw [h1] at hq; cases hq
    · exact h2.live q m hq
    · exact h.live q m hq
  refine ⟨h.same.trans s, fun a m => ?_, vs, fs, s _ _ h1, h2.keep (s.keep _), ?_, fun a m => ?_⟩
  · rcases List.mem_cons.mp m with rfl | m
    · exact hl
    · exact h'.live a m
  · grind
  · simp only [List.mem_cons, List.mem_append] at m
    rcases m with rfl | m | rfl | m
    · exact h4 _ (by simp)
    · exact h4 _ (by simp [m])
    · exact h.same.free hq
    · exact h4 _ (by simp [m])
theorem PSX.sub {ex' : List Addr} (h : PSX H0 H P p ex) (hn : ∀ L : List Addr, (L ++ ex).Nodup → (L ++ ex').Nodup) (hs : ∀ a ∈ ex', a ∈ ex) : PSX H0 H P p ex' := by
  obtain ⟨vs, fs, h1, h2, h3, h4⟩ := h.at'
  refine ⟨h.same, fun a m => h.live a (hs a m), vs, fs, h1, h2, ?_, fun a m => ?_⟩
  · exact hn (P :: fs) h3
  · simp only [List.mem_cons, List.mem_append] at m
    rcases m with rfl | m | m
    · exact h4 _ (by simp)
    · exact h4 _ (by simp [m])
    · exact h4 _ (by simp [hs a m])
theorem PSX.top (h : PSX H0 H P (f :: r) ex) : ∃ vs a l m us vw fw gs, H P = some (.lst vs) ∧ atI vs (-1) = some (.ref a) ∧ vs.length = r.length + 1 ∧ H a = some (.lst [.str f.kind, vw, .ref l, .ref m]) ∧ f.what.At H vw fw ∧ H l = some (.lst us) ∧ Tr.Ats H f.body us gs := by
  obtain ⟨vs, fs, h1, h2, h3, h4⟩ := h.at'
  have hl := h2.len
  obtain ⟨v, ws, f1, f2, rfl, rfl, hf, hr⟩ := h2
  obtain ⟨a, l, m, us, ms, vw, fw, gs, hs, rfl, g1, g2, g3, g4, g5, g6, rfl⟩ := hf
  refine ⟨_, a, l, m, us, vw, fw, gs, h1, ?_, by simpa using hl, g1, g2, g3, g4⟩
  rw [List.reverse_cons]
  exact atI_last _ _
theorem PSX.bot (h : PSX H0 H P p ex) (hp : p.getLast? = some f) : ∃ vs a l m us vw gs, H P = some (.lst vs) ∧ atI vs ((0 : Nat) : Int) = some (.ref a) ∧ H a = some (.lst [.str f.kind, vw, .ref l, .ref m]) ∧ H l = some (.lst us) ∧ Tr.Ats H f.body us gs := by
  obtain ⟨vs, fs, h1, h2, h3, h4⟩ := h.at'
  have key : ∀ (p : List Frame) (vs : List V) (fs : List Addr), PilAt H p vs fs → p.getLast? = some f → ∃ v f1, vs.getLast? = some v ∧ FrAt H f v f1 := by
    intro p
    induction p with
    | nil => intro vs fs _ e; simp at e
    | cons f' r ih =>
      rintro vs fs ⟨v, ws, f1, f2, rfl, rfl, hf, hr⟩ e
      cases r with
      | nil =>
        obtain ⟨rfl, rfl⟩ := hr
        simp only [List.getLast?_singleton, Option.some.injEq] at e
        subst e
        exact ⟨v, f1, rfl, hf⟩
      | cons g r =>
        rw [List.getLast?_cons_cons] at e
        obtain ⟨v', f', e1, e2⟩ := ih ws f2 hr e
        refine ⟨v', f', ?_, e2⟩
        cases ws with
        | nil => simp at e1
        | cons w ws => rw [List.getLast?_cons_cons]; exact e1
  obtain ⟨v, f1, e1, hf⟩ := key p vs fs h2 hp
  obtain ⟨a, l, m, us, ms, vw, fw, gs, hs, rfl, g1, g2, g3, g4, g5, g6, rfl⟩ := hf
  refine ⟨_, a, l, m, us, vw, gs, h1, atI_nat ?_, g1, g3, g4⟩
  rw [← List.head?_eq_getElem?, List.head?_reverse]
  exact e1
theorem PSX.pop (h : PSX H0 H P (f :: r) ex) : ∃ vs v f1, H P = some (.lst (vs ++ [v])) ∧ FrAt (upd H P (.lst vs)) f v f1 ∧ PSX H0 (upd H P (.lst vs)) P r (f1 ++ ex) := by
  obtain ⟨vs, fs, h1, h2, h3, h4⟩ := h.at'
  obtain ⟨v, ws, f1, f2, rfl, rfl, hf, hr⟩ := h2
  rw [List.reverse_cons] at h1
  have n1 : P ∉ f1 := by grind
  have n2 : P ∉ f2 := by grind
  have n3 : P ∉ ex := by grind
  have hf' := hf.keep (Keep.upd (o := .lst ws.reverse) h1 n1)
  refine ⟨ws.reverse, v, f1, h1, hf', h.same.updNew (h4 P (by simp)), fun a m => ?_, ws, f2, upd_same, hr.keep (Keep.upd h1 n2), ?_, fun a m => h4 a ?_⟩
  · rcases List.mem_append.mp m with m | m
    · exact hf'.live a m
    · rw [upd_ne (show a ≠ P from fun z => n3 (by rw [← z]; exact m))]
      exact h.live a m
  · grind
  · simp only [List.mem_cons, List.mem_append] at m ⊢
    grind
theorem PSX.push (h : PSX H0 H P p (g ++ ex)) (hf : FrAt H f v g) (hP : H P = some (.lst vs)) : PSX H0 (upd H P (.lst (vs ++ [v]))) P (f :: p) ex := by
  obtain ⟨vs', fs, h1, h2, h3, h4⟩ := h.at'
  rw [hP] at h1
  have e : vs = vs'.reverse := by cases h1; rfl
  subst e
  have n1 : P ∉ g := by grind
  have n2 : P ∉ fs := by grind
  have n3 : P ∉ ex := by grind
  refine ⟨h.same.updNew (h4 P (by simp)), fun a m => ?_, v :: vs', g ++ fs, by rw [upd_same, List.reverse_cons], ⟨v, vs', g, fs, rfl, rfl, hf.keep (Keep.upd hP n1), h2.keep (Keep.upd hP n2)⟩, ?_, fun a m => h4 a ?_⟩
  · rw [upd_ne (show a ≠ P from fun z => n3 (by rw [← z]; exact m))]
    exact h.live a (by simp [m])
  · grind
  · simp only [List.mem_cons, List.mem_append] at m ⊢
    grind
theorem PSX.add {a l : Addr} {z0 z1 z3 : V} (h : PSX H0 H P (f :: r) (g ++ ex)) (ht : t.At H x g) (hP : H P = some (.lst vs)) (hv : atI vs (-1) = some (.ref a)) (ha : H a = some (.lst [z0, z1, .ref l, z3])) :
    ∃ us, H l = some (.lst us) ∧ us.length = f.body.length ∧ PSX H0 (upd H l (.lst (us ++ [x]))) P (addU t (f :: r)) ex := by
  obtain ⟨vs', fs, h1, h2, h3, h4⟩ := h.at'
  rw [hP] at h1
  have e : vs = vs'.reverse := by cases h1; rfl
  subst e
  obtain ⟨v, ws, f1, f2, rfl, rfl, hf, hr⟩ := h2
  obtain ⟨a', l', m, us, ms, vw, fw, gs, hs, rfl, g1, g2, g3, g4, g5, g6, rfl⟩ := hf
  rw [List.reverse_cons, atI_last] at hv
  cases hv
  rw [ha] at g1
  cases g1
  have h3' := h3
  simp only [List.nodup_cons, List.nodup_append, List.mem_cons, List.mem_append, not_or, List.append_assoc, List.cons_append] at h3'
  have nP : P ≠ l := by grind
  have na : a ≠ l := by grind
  have nm : m ≠ l := by
    rintro rfl
    simp at h3'
  have nw : l ∉ fw := by grind
  have ngs : l ∉ gs := by grind
  have nhs : l ∉ hs := by grind
  have n2 : l ∉ f2 := by grind
  have ng : l ∉ g := by grind
  have nex : l ∉ ex := by grind
  have up : ∀ {b : Addr}, b ≠ l → upd H l (.lst (us ++ [x])) b = H b := fun hb => upd_ne hb
  refine ⟨us, g3, g4.len, h.same.updNew (h4 l (by simp)), fun b mb => ?_, .ref a :: ws, _, by rw [up nP]; exact hP, ⟨.ref a, ws, a :: (fw ++ (l :: (gs ++ g) ++ m :: hs)), f2, rfl, rfl, ⟨a, l, m, us ++ [x], ms, z1, fw, gs ++ g, hs, rfl, by rw [up na]; exact ha, g2.mono (Keep.upd g3 nw), upd_same, (g4.mono (Keep.upd g3 ngs)).snoc (ht.mono (Keep.upd g3 ng)), by rw [up nm]; exact g5, g6.mono (Keep.upd g3 nhs), rfl⟩, hr.keep (Keep.upd g3 n2)⟩, ?_, fun b mb => h4 b ?_⟩
  · rw [up (show b ≠ l from fun z => nex (by rw [← z]; exact mb))]
    exact h.live b (by simp [mb])
  · refine (List.Perm.nodup_iff (List.perm_iff_count.mpr fun c => ?_)).mp h3
    simp only [List.count_cons, List.count_append]
    omega
  · simp only [List.mem_cons, List.mem_append] at mb ⊢
    grind
end
end L2
namespace L2
open PySem PySem.Spec PyProof.Rows
section
variable {X : Cx}
def rEqU : R2 := fun x y H Q => ∃ t fs gs, (Tr.tup t).At H x fs ∧ (Tr.tup t).At H y gs ∧ Tr.hs t ≤ 180 ∧ Q (.bl true) H
theorem kop_eqU (hu : X.A.units + 190 < cLine) : OpR X (compareOp .Eq) rEqU := by
  intro pins s σ H x y v u Q I rx ry h
  obtain ⟨t, fs, gs, h1, h2, hh, q⟩ := h
  simp only [Tr.At] at h1 h2
  obtain ⟨a, vs, rfl, e1, c1⟩ := h1
  obtain ⟨b, ws, rfl, e2, c2⟩ := h2
  cases rx
  cases ry
  obtain ⟨is1, q1, p1, _⟩ := I.tuple (SqT.of e1)
  obtain ⟨is2, q2, p2, _⟩ := I.tuple (SqT.of e2)
  have hl : is1.length = is2.length := by rw [← q1.length, ← q2.length, c1.len, c2.len]
  have := SeqAt.RcAt.tuples (A := X.A) (s := s) (e := fun _ => true) p1 p2 (by omega) (fun j h1 h2 => by
    have := Tr.eqAts I (A := X.A.in1) c1 c2 q1 q2 (by rw [in1_units]; omega) j (by simpa using h1) (by simpa using h2)
    simpa using this)
  refine this X.prog X.w X.xe (EP X pins σ Q) ⟨.bl true, H, I, ?_, q⟩
  rw [show ((List.range (min is1.toArray.size is2.toArray.size)).all (fun _ => true) && is1.toArray.size == is2.toArray.size) = true by simp [hl]]
  rfl
theorem i_eqU {H : Hp} {Q : VK} {x y : V} {t : List Tr} {fs gs : List Addr} (h1 : (Tr.tup t).At H x fs) (h2 : (Tr.tup t).At H y gs) (hh : Tr.hs t ≤ 180) (h : Q (.bl true) H) : rEqU x y H Q := ⟨t, fs, gs, h1, h2, hh, h⟩
theorem units190 {k : Nat} {A : Around} (r : Room k A) : A.units + 190 < cLine := by have := r.un; omega
end
theorem hs_pts : ∀ ps : List Pt, Tr.hs (ps.map Pt.tr) = 0
  | [] => by simp [Tr.hs]
  | p :: ps => by
    have : p.tr.h = 0 := by cases p <;> simp [Pt.tr, Tr.h]
    simp [Tr.hs, hs_pts ps, this]
theorem Ex.tr_h : ∀ e : Ex, e.tr.h = e.h + 1
  | .num _ => by simp [Ex.tr, Tr.h, Tr.hs, Ex.h]
  | .box _ => by simp [Ex.tr, Tr.h, Tr.hs, Ex.h]
  | .two k a b => by
    have h1 := Ex.tr_h a
    have h2 := Ex.tr_h b
    simp only [Ex.tr, Tr.h, Tr.hs, Ex.h, h1, h2]
    omega
theorem Cd.tr_h {ys : List Str} : ∀ {c : Cd}, c.ok ys 5 → c.tr.h ≤ c.h + 7
  | .cmp k a b, h => by
    have h1 := Ex.tr_h a
    have h2 := Ex.tr_h b
    have h3 := h.1.2
    have h4 := h.2.2
    simp only [Cd.tr, Tr.h, Tr.hs, Cd.h, h1, h2]
    omega
  | .nt c, h => by
    have h1 := Cd.tr_h (c := c) h
    simp only [Cd.tr, Tr.h, Tr.hs, Cd.h]
    omega
  | .both c d, h => by
    have h1 := Cd.tr_h (c := c) h.1
    have h2 := Cd.tr_h (c := d) h.2
    simp only [Cd.tr, Tr.h, Tr.hs, Cd.h]
    omega
mutual
theorem Stm.tr_h {ys : List Str} : ∀ {s : Stm} {d : Nat}, s.ok ys d → s.tr.h ≤ 4 * d + 12
  | .plain ps, d, h => by simp only [Stm.tr, Tr.h, hs_pts]; omega
  | .put n e, d, h => by
    have h' : n ∈ ys ∧ e.ok ys ∧ e.h ≤ 5 := by cases d <;> simpa only [Stm.ok] using h
    have h1 := Ex.tr_h e
    have h2 := h'.2.2
    simp only [Stm.tr, Tr.h, Tr.hs, h1]
    omega
  | .loop b, 0, h => by simp only [Stm.ok] at h
  | .loop b, d + 1, h => by
    simp only [Stm.ok] at h
    have := Stm.trs_h h
    simp only [Stm.tr, Tr.h, Tr.hs]
    omega
  | .wait n bs, 0, h => by simp only [Stm.ok] at h
  | .wait n bs, d + 1, h => by
    simp only [Stm.ok] at h
    have := Br.trs_h h.2
    simp only [Stm.tr, Tr.h, Tr.hs]
    omega
  | .test c a b, 0, h => by simp only [Stm.ok] at h
  | .test c a b, d + 1, h => by
    simp only [Stm.ok] at h
    have h1 := Cd.tr_h h.1
    have h2 := h.2.1
    have h3 := Stm.trs_h h.2.2.1
    have h4 := Stm.trs_h h.2.2.2
    simp only [Stm.tr, Tr.h, Tr.hs]
    omega
theorem Br.tr_h {ys : List Str} : ∀ {s : Br} {d : Nat}, s.ok ys d → s.tr.h ≤ 4 * d + 14
  | .mk p b, d, h => by
    simp only [Br.ok] at h
    have := Stm.trs_h h.2.2
    simp only [Br.tr, Tr.h, Tr.hs, hs_pts]
    omega
theorem Stm.trs_h {ys : List Str} : ∀ {b : List Stm} {d : Nat}, Stm.oks ys d b → Tr.hs (Stm.trs b) ≤ 4 * d + 12
  | [], d, _ => by simp [Stm.trs, Tr.hs]
  | s :: r, d, h => by
    simp only [Stm.oks] at h
    have h1 := Stm.tr_h h.1
    have h2 := Stm.trs_h h.2
    simp only [Stm.trs, Tr.hs]
    omega
theorem Br.trs_h {ys : List Str} : ∀ {b : List Br} {d : Nat}, Br.oks ys d b → Tr.hs (Br.trs b) ≤ 4 * d + 14
  | [], d, _ => by simp [Br.trs, Tr.hs]
  | s :: r, d, h => by
    simp only [Br.oks] at h
    have h1 := Br.tr_h h.1
    have h2 := Br.trs_h h.2
    simp only [Br.trs, Tr.hs]
    omega
end
theorem talks_h {ys : List Str} : ∀ {ts : List (Str × List Stm)}, (∀ t ∈ ts, t.1.length ≤ 8 ∧ Stm.oks ys 12 t.2) → Tr.hs (ts.map talkT) ≤ 62
  | [], _ => by simp [Tr.hs]
  | t :: ts, h => by
    have h1 := Stm.trs_h (h t (by simp)).2
    have h2 := talks_h (ts := ts) fun x m => h x (by simp [m])
    simp only [List.map_cons, Tr.hs, talkT, Tr.h]
    omega
theorem boxes_h : ∀ bs : List (Str × Int), Tr.hs (bs.map boxT) ≤ 1
  | [] => by simp [Tr.hs]
  | b :: bs => by
    have := boxes_h bs
    simp only [List.map_cons, Tr.hs, boxT, Tr.h]
    omega
end L2
local macro_rules | `(tactic| walk_at "read") => `(tactic| simp only [L2.tSeq, L2.tAsg, L2.tOp, L2.tUn, L2.rU, L2.tVar, L2.tC, L2.rPlus, L2.rTimes, L2.rI, L2.rI0, L2.tRet, L2.tRetN, L2.gName, L2.tIfS, L2.tTest, L2.rEq, L2.rNe, L2.scal, L2.tNot, L2.tAnd, L2.tOr, L2.tAndV, L2.tOrV, L2.tNotV, L2.tIf, L2.tNext, L2.tDrop,
  L2.tCons, L2.tNil, L2.tCall, L2.tCB, L2.tChain, L2.rStr, L2.tFmt, L2.tJoin, L2.iRng1, L2.iRng2, L2.tFor_def, L2.iList, L2.iTup, L2.iStr, L2.tLst, L2.tTup, L2.tBM, L2.tBM0, L2.tyV, L2.rJoin, L2.rFind, L2.rUpper, L2.rIx, L2.rIxL, L2.rIxT, L2.rIxS, L2.tSl, L2.tNoPart, L2.tPart, L2.rSlL, L2.TruV, L2.LenV, L2.tLC_def, L2.cxOf_K, L2.cxC_K, L2.tNoIf, L2.cSt, L2.capV,
  L2.start, List.map_cons, List.map_nil, List.length_cons, List.length_nil, List.replicate, List.cons_append, List.nil_append, List.append_nil, List.getElem?_cons_zero, List.getElem?_cons_succ, List.set_cons_zero, List.set_cons_succ, Option.some.injEq, Nat.reduceSub, Nat.reduceAdd,
  L2.ex_self_and, L2.ex_some_and, L2.ex_int, L2.ex_str, L2.ex_bl, L2.ex_ref, exists_and_left, exists_eq_left', exists_eq_left, L2.V.int.injEq, L2.V.str.injEq, L2.V.bl.injEq, L2.V.ref.injEq, L2.V.ty.injEq, List.cons.injEq, and_true, true_and, reduceCtorEq, false_and, and_false, exists_false, or_false, false_or, exists_const, Bool.not_true, Bool.not_false, if_true, if_false, ite_true, ite_false, Bool.false_eq_true])
local macro_rules | `(tactic| walk_at "side") => `(tactic| first | exact ⟨by decide, by decide, by decide⟩ | exact ⟨by decide, by decide⟩ | exact .inr (.inr ⟨by decide, by decide⟩) | exact .inr (.inl ⟨by decide, by decide⟩) | decide | omega | exact L2.le_line (by simp only [List.length_cons, List.length_nil]; omega))
local macro_rules | `(tactic| walk_at "step") => `(tactic| first
  | with_reducible refine L2.i_seq ?_ | with_reducible refine L2.i_asg ?_ | ((with_reducible refine L2.i_name ?_); dsimp only [List.set_cons_zero, List.set_cons_succ]) | ((with_reducible refine' L2.i_var ?k ?_); (case k => rfl)) | with_reducible refine L2.i_c ?_ | with_reducible refine L2.i_op ?_
  | with_reducible refine L2.i_un ?_ | with_reducible refine L2.i_rU ?_ | with_reducible refine L2.i_rI0 ?_ | ((with_reducible refine L2.i_rI ?k ?_); (case k => walk_at "side")) | with_reducible refine L2.i_plusI ?_ | ((with_reducible refine L2.i_timesI ?k ?_); (case k => walk_at "side"))
  | with_reducible refine L2.i_eqI ?_ | with_reducible refine L2.i_eqS ?_ | with_reducible refine L2.i_eqB ?_ | with_reducible refine L2.i_neI ?_ | with_reducible refine L2.i_neS ?_ | with_reducible refine L2.i_neB ?_
  | with_reducible refine L2.i_test ?_ | with_reducible refine L2.i_bl ?_ | with_reducible refine L2.i_ifS ?_ | with_reducible refine L2.i_if ?_ | with_reducible refine L2.i_ret ?_ | with_reducible refine L2.i_retN ?_ | with_reducible refine L2.i_next ?_ | with_reducible refine L2.i_drop ?_ | with_reducible refine L2.i_break ?_ | with_reducible refine L2.i_cont ?_
  | with_reducible refine L2.i_cons ?_ | with_reducible refine L2.i_nil ?_ | with_reducible refine L2.i_cb ?_ | (with_reducible refine L2.i_call ?_) | with_reducible refine L2.i_lst ?_ | with_reducible refine L2.i_tup ?_ | with_reducible refine L2.i_not ?_ | with_reducible refine L2.i_noIf ?_ | with_reducible refine L2.i_and ?_ | with_reducible refine L2.i_or ?_
  | with_reducible refine L2.i_andV ?_ | with_reducible refine L2.i_orV ?_ | with_reducible refine L2.i_notV ?_ | with_reducible refine L2.i_strS ?_ | with_reducible refine L2.i_for ?_ | with_reducible refine L2.i_lc ?_ | with_reducible refine L2.i_rng1 ?_ | with_reducible refine L2.i_iList ?_ | with_reducible refine L2.i_iTup ?_ | with_reducible refine L2.i_iStr ?_ | with_reducible refine L2.i_iSeq ?_ | with_reducible refine L2.i_joinC ?_ | with_reducible refine L2.i_fmt ?_ | with_reducible refine L2.i_fmS ?_ | with_reducible refine L2.i_fmI ?_
  | with_reducible refine L2.i_rng ?_ | with_reducible refine L2.i_ref ?_ | with_reducible refine L2.i_sx ?_ | with_reducible refine L2.i_bm ?_ | with_reducible refine L2.i_bm0 ?_ | with_reducible refine L2.i_tyS ?_ | with_reducible refine L2.i_sl ?_ | with_reducible refine L2.i_nopart ?_ | with_reducible refine L2.i_part ?_ | with_reducible refine L2.i_ix1 ?_
  | with_reducible refine L2.i_itT ?_ | with_reducible refine L2.i_itF ?_ | with_reducible refine L2.i_itnT ?_ | with_reducible refine L2.i_itnF ?_ | with_reducible refine L2.i_truB ?_ | with_reducible refine L2.i_chain ?_ | with_reducible refine L2.i_intB ?_ | with_reducible refine L2.i_isB ?_ | with_reducible refine L2.i_gnil ?_ | with_reducible refine L2.i_gcons ?_ | with_reducible refine L2.i_find ?_ | with_reducible refine L2.i_isiS ?_ | with_reducible refine L2.i_isiB ?_ | with_reducible refine L2.i_isiI ?_ | with_reducible refine L2.i_isiIB ?_ | with_reducible refine L2.i_tru ?_ | with_reducible refine L2.i_intI ?_ | with_reducible refine L2.i_inS ?_
  | ((with_reducible refine L2.i_szA ?k ?_); (case k => walk_at "side")) | ((with_reducible refine L2.i_rgA ?k ?l ?_); (case k => walk_at "side"); (case l => walk_at "side")))
local macro_rules | `(tactic| walk_at "run") => `(tactic| (repeat walk_at "step"))
local macro_rules | `(tactic| walk_at "go") => `(tactic| (simp only [L2.start, List.map_cons, List.map_nil, List.length_cons, List.length_nil, List.replicate, List.cons_append, List.nil_append, Nat.reduceSub, Nat.reduceAdd, L2.nox_K, L2.wish_K, L2.cxOf_K, L2.cxC_K]; walk_at "run"))
namespace K06
open PySem L2
def top (i : Nat) : Stmt := PySem.Challenge.pw_callmill_k06_written_rows.main.body.getD i (.Pass ⟨0, 0, 0, 0⟩)
abbrev s_shown_pattern : Stmt := top 1
abbrev s_shown : Stmt := top 5
abbrev s_inward : Stmt := top 6
abbrev s_block_rows : Stmt := top 7
abbrev s_body_rows : Stmt := top 8
abbrev s_statement_rows : Stmt := top 9
abbrev s_joined_parts : Stmt := top 10
abbrev s_put_row : Stmt := top 11
abbrev s_if_rows : Stmt := top 12
abbrev s_wait_rows : Stmt := top 13
abbrev s_shown_expression : Stmt := top 14
abbrev s_shown_condition : Stmt := top 15
abbrev s_law_cell_at : Stmt := top 17
abbrev s_law_stir : Stmt := top 18
abbrev s_law_word : Stmt := top 19
abbrev s_law_name : Stmt := top 20
abbrev s_law_expr : Stmt := top 21
abbrev s_law_cond : Stmt := top 22
abbrev s_law_number : Stmt := top 23
abbrev s_law_pattern : Stmt := top 24
abbrev s_law_plain : Stmt := top 25
abbrev s_law_close : Stmt := top 26
abbrev s_law_step : Stmt := top 27
abbrev s_law_script : Stmt := top 28
abbrev s_law_part : Stmt := top 29
abbrev s_law_rows : Stmt := top 30
abbrev s_law_all_rows : Stmt := top 31
abbrev s_law : Stmt := top 32
theorem sc_shown_pattern : FnScope ["pattern"] ["pattern"] (defScope s_shown_pattern) := ⟨rfl, rfl, rfl, by decide +kernel, rfl, by decide +kernel, by decide +kernel⟩
theorem sc_shown : FnScope ["script", "rows", "name", "body"] ["script"] (defScope s_shown) := ⟨rfl, rfl, rfl, by decide +kernel, rfl, by decide +kernel, by decide +kernel⟩
theorem sc_inward : FnScope ["rows"] ["rows"] (defScope s_inward) := ⟨rfl, rfl, rfl, by decide +kernel, rfl, by decide +kernel, by decide +kernel⟩
theorem sc_block_rows : FnScope ["head", "rows"] ["head", "rows"] (defScope s_block_rows) := ⟨rfl, rfl, rfl, by decide +kernel, rfl, by decide +kernel, by decide +kernel⟩
theorem sc_body_rows : FnScope ["body", "rows", "statement"] ["body"] (defScope s_body_rows) := ⟨rfl, rfl, rfl, by decide +kernel, rfl, by decide +kernel, by decide +kernel⟩
theorem sc_statement_rows : FnScope ["statement", "kind"] ["statement"] (defScope s_statement_rows) := ⟨rfl, rfl, rfl, by decide +kernel, rfl, by decide +kernel, by decide +kernel⟩
theorem sc_joined_parts : FnScope ["parts"] ["parts"] (defScope s_joined_parts) := ⟨rfl, rfl, rfl, by decide +kernel, rfl, by decide +kernel, by decide +kernel⟩
theorem sc_put_row : FnScope ["statement"] ["statement"] (defScope s_put_row) := ⟨rfl, rfl, rfl, by decide +kernel, rfl, by decide +kernel, by decide +kernel⟩
theorem sc_if_rows : FnScope ["statement", "condition", "rows"] ["statement"] (defScope s_if_rows) := ⟨rfl, rfl, rfl, by decide +kernel, rfl, by decide +kernel, by decide +kernel⟩
theorem sc_wait_rows : FnScope ["statement", "limit", "rows", "pattern", "body"] ["statement"] (defScope s_wait_rows) := ⟨rfl, rfl, rfl, by decide +kernel, rfl, by decide +kernel, by decide +kernel⟩
theorem sc_shown_expression : FnScope ["expression", "kind", "one", "other"] ["expression"] (defScope s_shown_expression) := ⟨rfl, rfl, rfl, by decide +kernel, rfl, by decide +kernel, by decide +kernel⟩
theorem sc_shown_condition : FnScope ["condition", "kind", "one", "other"] ["condition"] (defScope s_shown_condition) := ⟨rfl, rfl, rfl, by decide +kernel, rfl, by decide +kernel, by decide +kernel⟩
theorem sc_law_cell_at : FnScope ["script", "k"] ["script", "k"] (defScope s_law_cell_at) := ⟨rfl, rfl, rfl, by decide +kernel, rfl, by decide +kernel, by decide +kernel⟩
theorem sc_law_stir : FnScope ["cell", "k", "number"] ["cell", "k"] (defScope s_law_stir) := ⟨rfl, rfl, rfl, by decide +kernel, rfl, by decide +kernel, by decide +kernel⟩
theorem sc_law_word : FnScope ["number", "word", "rest", "k"] ["number"] (defScope s_law_word) := ⟨rfl, rfl, rfl, by decide +kernel, rfl, by decide +kernel, by decide +kernel⟩
theorem sc_law_name : FnScope ["number", "word"] ["number"] (defScope s_law_name) := ⟨rfl, rfl, rfl, by decide +kernel, rfl, by decide +kernel, by decide +kernel⟩
theorem sc_law_expr : FnScope ["number", "deep", "names", "kind", "one", "other"] ["number", "deep", "names"] (defScope s_law_expr) := ⟨rfl, rfl, rfl, by decide +kernel, rfl, by decide +kernel, by decide +kernel⟩
theorem sc_law_cond : FnScope ["number", "deep", "names", "kind", "one", "other"] ["number", "deep", "names"] (defScope s_law_cond) := ⟨rfl, rfl, rfl, by decide +kernel, rfl, by decide +kernel, by decide +kernel⟩
theorem sc_law_number : FnScope ["cell"] ["cell"] (defScope s_law_number) := ⟨rfl, rfl, rfl, by decide +kernel, rfl, by decide +kernel, by decide +kernel⟩
theorem sc_law_pattern : FnScope ["number", "some"] ["number"] (defScope s_law_pattern) := ⟨rfl, rfl, rfl, by decide +kernel, rfl, by decide +kernel, by decide +kernel⟩
theorem sc_law_plain : FnScope ["way", "number", "names"] ["way", "number", "names"] (defScope s_law_plain) := ⟨rfl, rfl, rfl, by decide +kernel, rfl, by decide +kernel, by decide +kernel⟩
theorem sc_law_close : FnScope ["pile", "kind", "what", "body", "first", "told"] ["pile"] (defScope s_law_close) := ⟨rfl, rfl, rfl, by decide +kernel, rfl, by decide +kernel, by decide +kernel⟩
theorem sc_law_step : FnScope ["pile", "number", "names", "kind", "way", "what", "body"] ["pile", "number", "names"] (defScope s_law_step) := ⟨rfl, rfl, rfl, by decide +kernel, rfl, by decide +kernel, by decide +kernel⟩
theorem sc_law_script : FnScope ["script", "many", "number", "names", "boxes", "pile", "cell"] ["script", "many"] (defScope s_law_script) := ⟨rfl, rfl, rfl, by decide +kernel, rfl, by decide +kernel, by decide +kernel⟩
theorem sc_law_part : FnScope ["thing", "mark", "both"] ["thing"] (defScope s_law_part) := ⟨rfl, rfl, rfl, by decide +kernel, rfl, by decide +kernel, by decide +kernel⟩
theorem sc_law_rows : FnScope ["body", "deep", "rows", "ahead", "some", "pattern", "inner"] ["body", "deep"] (defScope s_law_rows) := ⟨rfl, rfl, rfl, by decide +kernel, rfl, by decide +kernel, by decide +kernel⟩
theorem sc_law_all_rows : FnScope ["script", "boxes", "talks", "rows", "name", "body"] ["script"] (defScope s_law_all_rows) := ⟨rfl, rfl, rfl, by decide +kernel, rfl, by decide +kernel, by decide +kernel⟩
theorem sc_law : FnScope ["script", "made", "due", "found"] ["script"] (defScope s_law) := ⟨rfl, rfl, rfl, by decide +kernel, rfl, by decide +kernel, by decide +kernel⟩
structure Adr where
  a_shown_pattern : Addr
  fd_shown_pattern : FuncData
  a_shown : Addr
  fd_shown : FuncData
  a_inward : Addr
  fd_inward : FuncData
  a_block_rows : Addr
  fd_block_rows : FuncData
  a_body_rows : Addr
  fd_body_rows : FuncData
  a_statement_rows : Addr
  fd_statement_rows : FuncData
  a_joined_parts : Addr
  fd_joined_parts : FuncData
  a_put_row : Addr
  fd_put_row : FuncData
  a_if_rows : Addr
  fd_if_rows : FuncData
  a_wait_rows : Addr
  fd_wait_rows : FuncData
  a_shown_expression : Addr
  fd_shown_expression : FuncData
  a_shown_condition : Addr
  fd_shown_condition : FuncData
  a__law_cell_at : Addr
  fd__law_cell_at : FuncData
  a__law_stir : Addr
  fd__law_stir : FuncData
  a__law_word : Addr
  fd__law_word : FuncData
  a__law_name : Addr
  fd__law_name : FuncData
  a__law_expr : Addr
  fd__law_expr : FuncData
  a__law_cond : Addr
  fd__law_cond : FuncData
  a__law_number : Addr
  fd__law_number : FuncData
  a__law_pattern : Addr
  fd__law_pattern : FuncData
  a__law_plain : Addr
  fd__law_plain : FuncData
  a__law_close : Addr
  fd__law_close : FuncData
  a__law_step : Addr
  fd__law_step : FuncData
  a__law_script : Addr
  fd__law_script : FuncData
  a__law_part : Addr
  fd__law_part : FuncData
  a__law_rows : Addr
  fd__law_rows : FuncData
  a__law_all_rows : Addr
  fd__law_all_rows : FuncData
  a_law : Addr
  fd_law : FuncData
  u_SIGNS : Value
  ad_SIGNS : Addr
  u_BLOCK : Value
structure Txt (K : PySem.W.Frag) (mg : Str → Option Value) (pr : Params) (t : Adr) : Prop where
  F_shown_pattern : Fun K "shown_pattern" "shown_pattern" s_shown_pattern t.a_shown_pattern t.fd_shown_pattern
  m_shown_pattern : mg "shown_pattern" = some (.ref t.a_shown_pattern)
  b_shown_pattern : Binds K t.fd_shown_pattern ["pattern"] []
  F_shown : Fun K "shown" "shown" s_shown t.a_shown t.fd_shown
  m_shown : mg "shown" = some (.ref t.a_shown)
  b_shown : Binds K t.fd_shown ["script"] []
  F_inward : Fun K "inward" "inward" s_inward t.a_inward t.fd_inward
  m_inward : mg "inward" = some (.ref t.a_inward)
  b_inward : Binds K t.fd_inward ["rows"] []
  F_block_rows : Fun K "block_rows" "block_rows" s_block_rows t.a_block_rows t.fd_block_rows
  m_block_rows : mg "block_rows" = some (.ref t.a_block_rows)
  b_block_rows : Binds K t.fd_block_rows ["head", "rows"] []
  F_body_rows : Fun K "body_rows" "body_rows" s_body_rows t.a_body_rows t.fd_body_rows
  m_body_rows : mg "body_rows" = some (.ref t.a_body_rows)
  b_body_rows : Binds K t.fd_body_rows ["body"] []
  F_statement_rows : Fun K "statement_rows" "statement_rows" s_statement_rows t.a_statement_rows t.fd_statement_rows
  m_statement_rows : mg "statement_rows" = some (.ref t.a_statement_rows)
  b_statement_rows : Binds K t.fd_statement_rows ["statement"] []
  F_joined_parts : Fun K "joined_parts" "joined_parts" s_joined_parts t.a_joined_parts t.fd_joined_parts
  m_joined_parts : mg "joined_parts" = some (.ref t.a_joined_parts)
  b_joined_parts : Binds K t.fd_joined_parts ["parts"] []
  F_put_row : Fun K "put_row" "put_row" s_put_row t.a_put_row t.fd_put_row
  m_put_row : mg "put_row" = some (.ref t.a_put_row)
  b_put_row : Binds K t.fd_put_row ["statement"] []
  F_if_rows : Fun K "if_rows" "if_rows" s_if_rows t.a_if_rows t.fd_if_rows
  m_if_rows : mg "if_rows" = some (.ref t.a_if_rows)
  b_if_rows : Binds K t.fd_if_rows ["statement"] []
  F_wait_rows : Fun K "wait_rows" "wait_rows" s_wait_rows t.a_wait_rows t.fd_wait_rows
  m_wait_rows : mg "wait_rows" = some (.ref t.a_wait_rows)
  b_wait_rows : Binds K t.fd_wait_rows ["statement"] []
  F_shown_expression : Fun K "shown_expression" "shown_expression" s_shown_expression t.a_shown_expression t.fd_shown_expression
  m_shown_expression : mg "shown_expression" = some (.ref t.a_shown_expression)
  b_shown_expression : Binds K t.fd_shown_expression ["expression"] []
  F_shown_condition : Fun K "shown_condition" "shown_condition" s_shown_condition t.a_shown_condition t.fd_shown_condition
  m_shown_condition : mg "shown_condition" = some (.ref t.a_shown_condition)
  b_shown_condition : Binds K t.fd_shown_condition ["condition"] []
  F__law_cell_at : Fun K "_law_cell_at" "_law_cell_at" s_law_cell_at t.a__law_cell_at t.fd__law_cell_at
  m__law_cell_at : mg "_law_cell_at" = some (.ref t.a__law_cell_at)
  b__law_cell_at : Binds K t.fd__law_cell_at ["script", "k"] []
  F__law_stir : Fun K "_law_stir" "_law_stir" s_law_stir t.a__law_stir t.fd__law_stir
  m__law_stir : mg "_law_stir" = some (.ref t.a__law_stir)
  b__law_stir : Binds K t.fd__law_stir ["cell", "k"] []
  F__law_word : Fun K "_law_word" "_law_word" s_law_word t.a__law_word t.fd__law_word
  m__law_word : mg "_law_word" = some (.ref t.a__law_word)
  b__law_word : Binds K t.fd__law_word ["number"] []
  F__law_name : Fun K "_law_name" "_law_name" s_law_name t.a__law_name t.fd__law_name
  m__law_name : mg "_law_name" = some (.ref t.a__law_name)
  b__law_name : Binds K t.fd__law_name ["number"] []
  F__law_expr : Fun K "_law_expr" "_law_expr" s_law_expr t.a__law_expr t.fd__law_expr
  m__law_expr : mg "_law_expr" = some (.ref t.a__law_expr)
  b__law_expr : Binds K t.fd__law_expr ["number", "deep", "names"] []
  F__law_cond : Fun K "_law_cond" "_law_cond" s_law_cond t.a__law_cond t.fd__law_cond
  m__law_cond : mg "_law_cond" = some (.ref t.a__law_cond)
  b__law_cond : Binds K t.fd__law_cond ["number", "deep", "names"] []
  F__law_number : Fun K "_law_number" "_law_number" s_law_number t.a__law_number t.fd__law_number
  m__law_number : mg "_law_number" = some (.ref t.a__law_number)
  b__law_number : Binds K t.fd__law_number ["cell"] []
  F__law_pattern : Fun K "_law_pattern" "_law_pattern" s_law_pattern t.a__law_pattern t.fd__law_pattern
  m__law_pattern : mg "_law_pattern" = some (.ref t.a__law_pattern)
  b__law_pattern : Binds K t.fd__law_pattern ["number"] []
  F__law_plain : Fun K "_law_plain" "_law_plain" s_law_plain t.a__law_plain t.fd__law_plain
  m__law_plain : mg "_law_plain" = some (.ref t.a__law_plain)
  b__law_plain : Binds K t.fd__law_plain ["way", "number", "names"] []
  F__law_close : Fun K "_law_close" "_law_close" s_law_close t.a__law_close t.fd__law_close
  m__law_close : mg "_law_close" = some (.ref t.a__law_close)
  b__law_close : Binds K t.fd__law_close ["pile"] []
  F__law_step : Fun K "_law_step" "_law_step" s_law_step t.a__law_step t.fd__law_step
  m__law_step : mg "_law_step" = some (.ref t.a__law_step)
  b__law_step : Binds K t.fd__law_step ["pile", "number", "names"] []
  F__law_script : Fun K "_law_script" "_law_script" s_law_script t.a__law_script t.fd__law_script
  m__law_script : mg "_law_script" = some (.ref t.a__law_script)
  b__law_script : Binds K t.fd__law_script ["script", "many"] []
  F__law_part : Fun K "_law_part" "_law_part" s_law_part t.a__law_part t.fd__law_part
  m__law_part : mg "_law_part" = some (.ref t.a__law_part)
  b__law_part : Binds K t.fd__law_part ["thing"] []
  F__law_rows : Fun K "_law_rows" "_law_rows" s_law_rows t.a__law_rows t.fd__law_rows
  m__law_rows : mg "_law_rows" = some (.ref t.a__law_rows)
  b__law_rows : Binds K t.fd__law_rows ["body", "deep"] []
  F__law_all_rows : Fun K "_law_all_rows" "_law_all_rows" s_law_all_rows t.a__law_all_rows t.fd__law_all_rows
  m__law_all_rows : mg "_law_all_rows" = some (.ref t.a__law_all_rows)
  b__law_all_rows : Binds K t.fd__law_all_rows ["script"] []
  F_law : Fun K "law" "law" s_law t.a_law t.fd_law
  m_law : mg "law" = some (.ref t.a_law)
  b_law : Binds K t.fd_law ["script"] []
  z_isinstance : mg "isinstance" = none
  z_len : mg "len" = none
  z_range : mg "range" = none
  z_str : mg "str" = none
  m_SIGNS : mg "SIGNS" = some t.u_SIGNS
  r_SIGNS : RelV (.ref t.ad_SIGNS) t.u_SIGNS
  d_SIGNS : DicK K pr t.ad_SIGNS [(Str.ofString "plus", Str.ofString "+"), (Str.ofString "less", Str.ofString "-"), (Str.ofString "same", Str.ofString "="), (Str.ofString "under", Str.ofString "<")]
  m_BLOCK : mg "BLOCK" = some t.u_BLOCK
  r_BLOCK : RelV (.str "  ") t.u_BLOCK
section
variable {P : Program} {w : World} {K : PySem.W.Frag} {mg : Str → Option Value} {base : Heap} {t : Adr}
def sp_pattern (K : PySem.W.Frag) : Sp := fun vs H Q _ => ∃ (a : Addr) (xs : List V) (ys : List Str), vs = [.ref a] ∧ SqT K H a xs ∧ PartsS xs ys ∧ ys.length ≤ 1000 ∧ (ys.map (·.length)).sum ≤ 1000000 ∧ ∀ H', Same H H' → Q (.str (Txt.join " " ys)) H'
theorem ok_shown_pattern (T : Txt K mg w.params t) : FnOk P w K mg base CX0 1 t.a_shown_pattern t.fd_shown_pattern ["pattern"] (sp_pattern K) := by
  refine T.F_shown_pattern.ok sc_shown_pattern (fun vs H Q E h => ?_) (fun cdv A outer s H vs Q E hr h => ?_)
  · obtain ⟨a, xs, ys, rfl, _⟩ := h
    rfl
  · obtain ⟨a, xs, ys, rfl, ha, hp, hl, hz, q⟩ := h
    refine ⟨_, (@pss_one _ _ _ (@ps_ret _ _ _ _ (@kpe_bm _ K _ _ _ _ _ _ _ _ _ _ _ PySem.F.plainAttrs_str PySem.F.slot_str_join PySem.F.type_str_join (kmt_join K) (@pe_str _ _ _ _) (@pa_cons _ _ _ _ _ (pe_lc (Nt := ["part"]) (Nf := []) (caps := []) rfl (comp_ok (sc := defScope s_shown_pattern) rfl rfl (by decide +kernel) (by decide +kernel) (by decide +kernel) rfl (by decide +kernel)) (kpi_tup K (pv 0)) (fun _ _ _ _ _ => (pg_name (i := 0) (show (["part"] : List Str).Nodup by decide +kernel) rfl (by first | exact Or.inl rfl | exact Or.inr rfl))) (fun _ _ _ _ _ => (@pts_nil _)) (fun _ _ _ _ _ => (@pe_callTy _ _ _ _ _ _ _ _ _ call_str (by rfl) T.z_str bb_str (@pa_cons _ _ _ _ _ (pv 0) (@pa_nil _) (by rfl)) (by decide) (by decide) (by rfl) (by rfl)))) (@pa_nil _) (by rfl)) (by rfl) (by rfl) (by rfl) (by rfl) (by rfl) (by rfl)))), ?_⟩
    walk_at "read"
    refine ⟨⟨xs, ha⟩, comp_parts ha hp (by rw [hp.len]; omega) fun H' s l H2 f s2 e2 => ⟨l, rfl, ys, SqL.of e2, ?_, q _ (s.trans s2)⟩⟩
    have e1 : (Str.ofString " ").length = 1 := by decide +kernel
    rw [e1]
    omega
theorem join_tx (ys : List Str) : Txt.join (Str.ofString " ") ys = Tx ys := by
  unfold Tx
  rw [← bl1_eq]
  exact PySem.StrLaws.glued_eq_join _ _
def sp_joined (K : PySem.W.Frag) : Sp := fun vs H Q _ => ∃ (a : Addr) (xs : List V) (ys : List Str), vs = [.ref a] ∧ (SqL K H a xs ∨ SqT K H a xs) ∧ PartsS xs ys ∧ ys.length ≤ 1000 ∧ (ys.map (·.length)).sum ≤ 1000000 ∧ ∀ H', Same H H' → Q (.str (Tx ys)) H'
theorem ok_joined_parts (T : Txt K mg w.params t) : FnOk P w K mg base CX0 1 t.a_joined_parts t.fd_joined_parts ["parts"] (sp_joined K) := by
  refine T.F_joined_parts.ok sc_joined_parts (fun vs H Q E h => ?_) (fun cdv A outer s H vs Q E hr h => ?_)
  · obtain ⟨a, xs, ys, rfl, _⟩ := h
    rfl
  · obtain ⟨a, xs, ys, rfl, ha, hp, hl, hz, q⟩ := h
    refine ⟨_, (@pss_one _ _ _ (@ps_ret _ _ _ _ (@kpe_bm _ K _ _ _ _ _ _ _ _ _ _ _ PySem.F.plainAttrs_str PySem.F.slot_str_join PySem.F.type_str_join (kmt_join K) (@pe_str _ _ _ _) (@pa_cons _ _ _ _ _ (pe_lc (Nt := ["part"]) (Nf := []) (caps := []) rfl (comp_ok (sc := defScope s_joined_parts) rfl rfl (by decide +kernel) (by decide +kernel) (by decide +kernel) rfl (by decide +kernel)) (kpi_seq K (pv 0)) (fun _ _ _ _ _ => (pg_name (i := 0) (show (["part"] : List Str).Nodup by decide +kernel) rfl (by first | exact Or.inl rfl | exact Or.inr rfl))) (fun _ _ _ _ _ => (@pts_nil _)) (fun _ _ _ _ _ => (@pe_callTy _ _ _ _ _ _ _ _ _ call_str (by rfl) T.z_str bb_str (@pa_cons _ _ _ _ _ (pv 0) (@pa_nil _) (by rfl)) (by decide) (by decide) (by rfl) (by rfl)))) (@pa_nil _) (by rfl)) (by rfl) (by rfl) (by rfl) (by rfl) (by rfl) (by rfl)))), ?_⟩
    have e1 : (Str.ofString " ").length = 1 := by decide +kernel
    walk_at "go"
    rcases ha with ha | ha
    · refine .inl ⟨⟨xs, ha⟩, comp_partsL ha hp (by rw [hp.len]; omega) fun H' s l H2 f s2 e2 => ⟨_, l, ys, rfl, rfl, SqL.of e2, ?_, ?_⟩⟩
      · rw [e1]
        omega
      · rw [join_tx]
        exact q _ (s.trans s2)
    · refine .inr ⟨⟨xs, ha⟩, comp_parts ha hp (by rw [hp.len]; omega) fun H' s l H2 f s2 e2 => ⟨_, l, ys, rfl, rfl, SqL.of e2, ?_, ?_⟩⟩
      · rw [e1]
        omega
      · rw [join_tx]
        exact q _ (s.trans s2)
def sp_inward (K : PySem.W.Frag) : Sp := fun vs H Q _ => ∃ (a : Addr) (ys : List Str), vs = [.ref a] ∧ SqL K H a (strsV ys) ∧ ys.length ≤ 100000 ∧ (∀ y ∈ ys, y.length ≤ 100000) ∧ New H (.lst (strsV (inn ys))) Q
theorem ok_inward (T : Txt K mg w.params t) : FnOk P w K mg base CX0 1 t.a_inward t.fd_inward ["rows"] (sp_inward K) := by
  refine T.F_inward.ok sc_inward (fun vs H Q E h => ?_) (fun cdv A outer s H vs Q E hr h => ?_)
  · obtain ⟨a, ys, rfl, _⟩ := h
    rfl
  · obtain ⟨a, ys, rfl, ha, hl, hz, q⟩ := h
    refine ⟨_, (@pss_one _ _ _ (@ps_ret _ _ _ _ (pe_lc (Nt := ["row"]) (Nf := []) (caps := []) rfl (comp_ok (sc := defScope s_inward) rfl rfl (by decide +kernel) (by decide +kernel) (by decide +kernel) rfl (by decide +kernel)) (kpi_list K (pv 0)) (fun _ _ _ _ _ => (pg_name (i := 0) (show (["row"] : List Str).Nodup by decide +kernel) rfl (by first | exact Or.inl rfl | exact Or.inr rfl))) (fun _ _ _ _ _ => (@pts_nil _)) (fun _ _ _ _ _ => (@pe_op _ _ _ _ _ _ _ _ op_plus (pe_glob (by rfl) T.m_BLOCK (by exact T.r_BLOCK)) (pv 0)))))), ?_⟩
    have e1 : blk.length = 2 := by decide +kernel
    walk_at "go"
    refine ⟨⟨_, ha⟩, cc_list (xs := strsV ys) (le_line (by simp only [strsV, List.length_map]; omega)) (fun i acc H' => H' = H ∧ i ≤ ys.length ∧ acc = strsV ((ys.map fun y => blk ++ y).take i)) ⟨rfl, Nat.zero_le _, rfl⟩ (fun i acc H' ⟨e0, hi, e⟩ => ⟨?_, e0 ▸ ha⟩) ?_ ?_⟩
    · subst e
      simp only [strsV, List.length_map, List.length_take]
      omega
    · rintro i y acc H' hy ⟨rfl, hi, rfl⟩
      have hy' : ∃ w, ys[i]? = some w ∧ y = .str w := by
        simp only [strsV, List.getElem?_map] at hy
        cases h : ys[i]? with
        | none => rw [h] at hy; cases hy
        | some w => rw [h] at hy; exact ⟨w, rfl, (Option.some.inj hy).symm⟩
      obtain ⟨w, hw, rfl⟩ := hy'
      have hi' : i < ys.length := (List.getElem?_eq_some_iff.mp hw).1
      walk_at "run"
      refine i_plusS (le_line (by have := hz w (List.mem_of_getElem? hw); rw [e1]; omega)) ?_
      exact ⟨rfl, hi', strsV_snoc (by rw [List.getElem?_map, hw]; rfl)⟩
    · rintro acc H' ⟨rfl, _, rfl⟩
      rw [show (strsV ys).length = (ys.map fun y => blk ++ y).length by simp [strsV], List.take_length]
      exact q
def sp_block (K : PySem.W.Frag) : Sp := fun vs H Q _ => ∃ (head : Str) (a : Addr) (ys : List Str), vs = [.str head, .ref a] ∧ SqL K H a (strsV ys) ∧ ys.length ≤ 100000 ∧ (∀ y ∈ ys, y.length ≤ 100000) ∧ New H (.lst (strsV (blockR head ys))) Q
theorem ok_block_rows (T : Txt K mg w.params t) : FnOk P w K mg base CX0 2 t.a_block_rows t.fd_block_rows ["head", "rows"] (sp_block K) := by
  have G_inward := ok_inward (P := P) (w := w) (base := base) T
  refine T.F_block_rows.ok sc_block_rows (fun vs H Q E h => ?_) (fun cdv A outer s H vs Q E hr h => ?_)
  · obtain ⟨head, a, ys, rfl, _⟩ := h
    rfl
  · obtain ⟨head, a, ys, rfl, ha, hl, hz, q⟩ := h
    refine ⟨_, (@pss_one _ _ _ (@ps_ret _ _ _ _ (@pe_op _ _ _ _ _ _ _ _ op_plus (@pe_op _ _ _ _ _ _ _ _ op_plus (@pe_lstN _ _ _ _ (@pa_cons _ _ _ _ _ (pv 0) (@pa_nil _) (by rfl))) (@pe_call _ _ _ _ _ _ _ _ _ _ _ _ _ _ _ _ G_inward (hr.mono (by omega)) rfl T.m_inward T.F_inward.kp T.b_inward .nil pass0 (@pa_cons _ _ _ _ _ (pv 1) (@pa_nil _) (by rfl)) (by decide) (by rfl) (by rfl))) (@pe_lstN _ _ _ _ (@pa_cons _ _ _ _ _ (@pe_str _ _ _ _) (@pa_nil _) (by rfl)))))), ?_⟩
    walk_at "go"
    intro p1 H1 f1 s1 e1
    walk_at "run"
    refine ⟨a, ys, rfl, s1.seq ha, hl, hz, fun p2 H2 f2 s2 e2 => ?_⟩
    walk_at "run"
    refine i_plusL (s2 _ _ e1) e2 (le_line (by simp only [strsV, inn, List.length_map, List.length_cons, List.length_nil]; omega)) ?_
    intro p3 H3 f3 s3 e3
    walk_at "run"
    intro p4 H4 f4 s4 e4
    walk_at "run"
    refine i_plusL (s4 _ _ e3) e4 (le_line (by simp only [strsV, inn, List.length_map, List.length_cons, List.length_nil, List.length_append]; omega)) ?_
    intro p5 H5 f5 s5 e5
    refine q p5 H5 ?_ (s1.trans (s2.trans (s3.trans (s4.trans s5)))) ?_
    · exact (s1.trans (s2.trans (s3.trans s4))).free f5
    · rw [e5]
      simp [blockR, inn, strsV]
def sp_shex (K : PySem.W.Frag) (d : Nat) : Sp := fun vs H Q _ => ∃ (v : V) (e : Ex) (ys : List Str), vs = [v] ∧ e.At H v ∧ e.h < d ∧ e.sz ≤ 10000 ∧ e.ok ys ∧ Good ys ∧ ∀ H', Same H H' → Q (.str (Tx e.words)) H'
theorem ok_shown_expression (T : Txt K mg w.params t) : ∀ d : Nat, FnOk P w K mg base CX0 (d + 1) t.a_shown_expression t.fd_shown_expression ["expression"] (sp_shex K d) := by
  intro d
  induction d with
  | zero => exact vac (fun vs H Q E ⟨_, _, _, _, _, h, _⟩ => Nat.not_lt_zero _ h)
  | succ d G_shown_expression =>
    have G_joined_parts := ok_joined_parts (P := P) (w := w) (base := base) T
    refine T.F_shown_expression.ok sc_shown_expression (fun vs H Q E h => ?_) (fun cdv A outer s H vs Q E hr h => ?_)
    · obtain ⟨v, e, ys, rfl, _⟩ := h
      rfl
    · obtain ⟨v, e, ys, rfl, hx, hh, hz, ho, hg, q⟩ := h
      refine ⟨_, (@pss_cons _ _ _ _ _ (@ps_set _ _ 1 _ _ _ _ sc_shown_expression.nd rfl (by first | exact Or.inl rfl | exact Or.inr rfl) (@pe_ix _ _ _ _ _ _ _ (kix_tup K) (pv 0) (@pe_int _ _ _ _) (fun _ _ => rfl)) (by rfl) (by first | exact Or.inl rfl | exact Or.inr rfl))
      (@pss_cons _ _ _ _ _ (@ps_if _ _ _ _ _ _ _ _ (@PW.pt _ _ _ (@pw_or _ _ _ _ _ _ _ (@pt_cmpR _ _ _ _ _ _ _ _ op_eq (pv 1) (@pe_str _ _ _ _) (nomark _)) (@pw_or1 _ _ _ _ (@pt_cmpR _ _ _ _ _ _ _ _ op_eq (pv 1) (@pe_str _ _ _ _) (nomark _))))) (@pss_one _ _ _ (@ps_ret _ _ _ _ (@pe_callTy _ _ _ _ _ _ _ _ _ call_str (by rfl) T.z_str bb_str (@pa_cons _ _ _ _ _ (@pe_ix _ _ _ _ _ _ _ (kix_tup K) (pv 0) (@pe_int _ _ _ _) (fun _ _ => rfl)) (@pa_nil _) (by rfl)) (by decide) (by decide) (by rfl) (by rfl)))) (@pss_nil _))
      (@pss_cons _ _ _ _ _ (@ps_set _ _ 2 _ _ _ _ sc_shown_expression.nd rfl (by first | exact Or.inl rfl | exact Or.inr rfl) (@pe_call _ _ _ _ _ _ _ _ _ _ _ _ _ _ _ _ G_shown_expression (hr.mono (by omega)) rfl T.m_shown_expression T.F_shown_expression.kp T.b_shown_expression .nil pass0 (@pa_cons _ _ _ _ _ (@pe_ix _ _ _ _ _ _ _ (kix_tup K) (pv 0) (@pe_int _ _ _ _) (fun _ _ => rfl)) (@pa_nil _) (by rfl)) (by decide) (by rfl) (by rfl)) (by rfl) (by first | exact Or.inl rfl | exact Or.inr rfl))
      (@pss_cons _ _ _ _ _ (@ps_set _ _ 3 _ _ _ _ sc_shown_expression.nd rfl (by first | exact Or.inl rfl | exact Or.inr rfl) (@pe_call _ _ _ _ _ _ _ _ _ _ _ _ _ _ _ _ G_shown_expression (hr.mono (by omega)) rfl T.m_shown_expression T.F_shown_expression.kp T.b_shown_expression .nil pass0 (@pa_cons _ _ _ _ _ (@pe_ix _ _ _ _ _ _ _ (kix_tup K) (pv 0) (@pe_int _ _ _ _) (fun _ _ => rfl)) (@pa_nil _) (by rfl)) (by decide) (by rfl) (by rfl)) (by rfl) (by first | exact Or.inl rfl | exact Or.inr rfl))
      (@pss_one _ _ _ (@ps_ret _ _ _ _ (@pe_call _ _ _ _ _ _ _ _ _ _ _ _ _ _ _ _ G_joined_parts (hr.mono (by omega)) rfl T.m_joined_parts T.F_joined_parts.kp T.b_joined_parts .nil pass0 (@pa_cons _ _ _ _ _ (@pe_lstN _ _ _ _ (@pa_cons _ _ _ _ _ (@pe_str _ _ _ _) (@pa_cons _ _ _ _ _ (pv 2) (@pa_cons _ _ _ _ _ (@pe_ix _ _ _ _ _ _ _ (kix_dic K w.params) (pe_glob (by rfl) T.m_SIGNS (by exact T.r_SIGNS)) (pv 1) (fun _ _ => rfl)) (@pa_cons _ _ _ _ _ (pv 3) (@pa_cons _ _ _ _ _ (@pe_str _ _ _ _) (@pa_nil _) (by rfl)) (by rfl)) (by rfl)) (by rfl)) (by rfl))) (@pa_nil _) (by rfl)) (by decide) (by rfl) (by rfl)))))))), ?_⟩
      walk_at "go"
      cases e with
      | num i =>
        obtain ⟨a, rfl, ha⟩ := hx
        refine i_ixT (SqT.of ha) (atI_nat (j := 0) rfl) ?_
        walk_at "run"
        refine i_itDT rfl ?_
        walk_at "run"
        refine i_ixT (SqT.of ha) (atI_nat (j := 1) rfl) ?_
        have ho' : 0 ≤ i ∧ i < 10 := ho
        refine i_strI (log_small (by omega)) ?_
        exact q H (Same.refl H)
      | box n =>
        obtain ⟨a, rfl, ha⟩ := hx
        refine i_ixT (SqT.of ha) (atI_nat (j := 0) rfl) ?_
        walk_at "run"
        refine i_itDF (by decide +kernel) ?_
        walk_at "run"
        refine i_itDT rfl ?_
        walk_at "run"
        refine i_ixT (SqT.of ha) (atI_nat (j := 1) rfl) ?_
        walk_at "run"
        exact q H (Same.refl H)
      | two k e1 e2 =>
        obtain ⟨a, v1, v2, rfl, ha, a1, a2⟩ := hx
        refine i_ixT (SqT.of ha) (atI_nat (j := 0) rfl) ?_
        walk_at "run"
        refine i_itDF (by cases k <;> decide +kernel) ?_
        walk_at "run"
        refine i_itDF (by cases k <;> decide +kernel) ?_
        walk_at "run"
        simp only [Ex.h, Ex.sz] at hh hz
        have l1 := e1.len hg ho.1
        have l2 := e2.len hg ho.2
        refine i_ixT (SqT.of ha) (atI_nat (j := 1) rfl) ?_
        walk_at "run"
        refine ⟨v1, e1, ys, rfl, a1, by omega, by omega, ho.1, hg, fun H1 s1 => ?_⟩
        walk_at "run"
        refine i_ixT (SqT.of (s1 _ _ ha)) (atI_nat (j := 2) rfl) ?_
        walk_at "run"
        refine ⟨v2, e2, ys, rfl, a2.mono s1.tups, by omega, by omega, ho.2, hg, fun H2 s2 => ?_⟩
        walk_at "run"
        refine i_ixD T.d_SIGNS (z := sgnE k) (by cases k <;> decide +kernel) ?_
        walk_at "run"
        intro p3 H3 f3 s3 g3
        walk_at "run"
        refine ⟨p3, _, [Str.ofString "(", Tx e1.words, sgnE k, Tx e2.words, Str.ofString ")"], rfl, .inl (SqL.of g3), .cons (.inr rfl) (.cons (.inr rfl) (.cons (.inr rfl) (.cons (.inr rfl) (.cons (.inr rfl) .nil)))), by simp, ?_, fun H4 s4 => ?_⟩
        · have b1 := (mark_facts _ brL_in).2.2
          have b2 := (mark_facts _ brR_in).2.2
          have b3 := (mark_facts _ (sgnE_in k)).2.2
          simp only [List.map_cons, List.map_nil, List.sum_cons, List.sum_nil, b1, b2, b3]
          omega
        · have := q H4 (s1.trans (s2.trans (s3.trans s4)))
          rw [tx_br e1.words_ne e2.words_ne]
          exact this
def sp_shcd (K : PySem.W.Frag) (d : Nat) : Sp := fun vs H Q _ => ∃ (v : V) (c : Cd) (ys : List Str), vs = [v] ∧ c.At H v ∧ c.h < d ∧ c.sz ≤ 10000 ∧ c.ok ys 5 ∧ Good ys ∧ ∀ H', Same H H' → Q (.str (Tx c.words)) H'
theorem ok_shown_condition (T : Txt K mg w.params t) : ∀ d : Nat, FnOk P w K mg base CX0 (d + 7) t.a_shown_condition t.fd_shown_condition ["condition"] (sp_shcd K d) := by
  intro d
  induction d with
  | zero => exact vac (fun vs H Q E ⟨_, _, _, _, _, h, _⟩ => Nat.not_lt_zero _ h)
  | succ d G_shown_condition =>
    have G_joined_parts := ok_joined_parts (P := P) (w := w) (base := base) T
    have G_shown_expression := ok_shown_expression (P := P) (w := w) (base := base) T
    refine T.F_shown_condition.ok sc_shown_condition (fun vs H Q E h => ?_) (fun cdv A outer s H vs Q E hr h => ?_)
    · obtain ⟨v, e, ys, rfl, _⟩ := h
      rfl
    · obtain ⟨v, c, ys, rfl, hx, hh, hz, ho, hg, q⟩ := h
      have G_shown_expression := G_shown_expression 6
      refine ⟨_, (@pss_cons _ _ _ _ _ (@ps_set _ _ 1 _ _ _ _ sc_shown_condition.nd rfl (by first | exact Or.inl rfl | exact Or.inr rfl) (@pe_ix _ _ _ _ _ _ _ (kix_tup K) (pv 0) (@pe_int _ _ _ _) (fun _ _ => rfl)) (by rfl) (by first | exact Or.inl rfl | exact Or.inr rfl))
      (@pss_cons _ _ _ _ _ (@ps_if _ _ _ _ _ _ _ _ (@pt_cmpR _ _ _ _ _ _ _ _ op_eq (pv 1) (@pe_str _ _ _ _) (nomark _)) (@pss_one _ _ _ (@ps_ret _ _ _ _ (@pe_op _ _ _ _ _ _ _ _ op_plus (@pe_str _ _ _ _) (@pe_call _ _ _ _ _ _ _ _ _ _ _ _ _ _ _ _ G_shown_condition (hr.mono (by omega)) rfl T.m_shown_condition T.F_shown_condition.kp T.b_shown_condition .nil pass0 (@pa_cons _ _ _ _ _ (@pe_ix _ _ _ _ _ _ _ (kix_tup K) (pv 0) (@pe_int _ _ _ _) (fun _ _ => rfl)) (@pa_nil _) (by rfl)) (by decide) (by rfl) (by rfl))))) (@pss_nil _))
      (@pss_cons _ _ _ _ _ (@ps_if _ _ _ _ _ _ _ _ (@pt_cmpR _ _ _ _ _ _ _ _ op_eq (pv 1) (@pe_str _ _ _ _) (nomark _)) (@pss_cons _ _ _ _ _ (@ps_set _ _ 2 _ _ _ _ sc_shown_condition.nd rfl (by first | exact Or.inl rfl | exact Or.inr rfl) (@pe_call _ _ _ _ _ _ _ _ _ _ _ _ _ _ _ _ G_shown_condition (hr.mono (by omega)) rfl T.m_shown_condition T.F_shown_condition.kp T.b_shown_condition .nil pass0 (@pa_cons _ _ _ _ _ (@pe_ix _ _ _ _ _ _ _ (kix_tup K) (pv 0) (@pe_int _ _ _ _) (fun _ _ => rfl)) (@pa_nil _) (by rfl)) (by decide) (by rfl) (by rfl)) (by rfl) (by first | exact Or.inl rfl | exact Or.inr rfl))
        (@pss_cons _ _ _ _ _ (@ps_set _ _ 3 _ _ _ _ sc_shown_condition.nd rfl (by first | exact Or.inl rfl | exact Or.inr rfl) (@pe_call _ _ _ _ _ _ _ _ _ _ _ _ _ _ _ _ G_shown_condition (hr.mono (by omega)) rfl T.m_shown_condition T.F_shown_condition.kp T.b_shown_condition .nil pass0 (@pa_cons _ _ _ _ _ (@pe_ix _ _ _ _ _ _ _ (kix_tup K) (pv 0) (@pe_int _ _ _ _) (fun _ _ => rfl)) (@pa_nil _) (by rfl)) (by decide) (by rfl) (by rfl)) (by rfl) (by first | exact Or.inl rfl | exact Or.inr rfl))
        (@pss_one _ _ _ (@ps_ret _ _ _ _ (@pe_fstr _ _ _ _ _ _ (.cons (@pe_str _ _ _ _) (.cons (@pe_fmt _ _ _ _ (pv 2)) (.cons (@pe_str _ _ _ _) (.cons (@pe_fmt _ _ _ _ (pv 3)) (.cons (@pe_str _ _ _ _) .nil)))))))))) (@pss_nil _))
      (@pss_cons _ _ _ _ _ (@ps_set _ _ 2 _ _ _ _ sc_shown_condition.nd rfl (by first | exact Or.inl rfl | exact Or.inr rfl) (@pe_call _ _ _ _ _ _ _ _ _ _ _ _ _ _ _ _ G_shown_expression (hr.mono (by omega)) rfl T.m_shown_expression T.F_shown_expression.kp T.b_shown_expression .nil pass0 (@pa_cons _ _ _ _ _ (@pe_ix _ _ _ _ _ _ _ (kix_tup K) (pv 0) (@pe_int _ _ _ _) (fun _ _ => rfl)) (@pa_nil _) (by rfl)) (by decide) (by rfl) (by rfl)) (by rfl) (by first | exact Or.inl rfl | exact Or.inr rfl))
      (@pss_cons _ _ _ _ _ (@ps_set _ _ 3 _ _ _ _ sc_shown_condition.nd rfl (by first | exact Or.inl rfl | exact Or.inr rfl) (@pe_call _ _ _ _ _ _ _ _ _ _ _ _ _ _ _ _ G_shown_expression (hr.mono (by omega)) rfl T.m_shown_expression T.F_shown_expression.kp T.b_shown_expression .nil pass0 (@pa_cons _ _ _ _ _ (@pe_ix _ _ _ _ _ _ _ (kix_tup K) (pv 0) (@pe_int _ _ _ _) (fun _ _ => rfl)) (@pa_nil _) (by rfl)) (by decide) (by rfl) (by rfl)) (by rfl) (by first | exact Or.inl rfl | exact Or.inr rfl))
      (@pss_one _ _ _ (@ps_ret _ _ _ _ (@pe_call _ _ _ _ _ _ _ _ _ _ _ _ _ _ _ _ G_joined_parts (hr.mono (by omega)) rfl T.m_joined_parts T.F_joined_parts.kp T.b_joined_parts .nil pass0 (@pa_cons _ _ _ _ _ (@pe_lstN _ _ _ _ (@pa_cons _ _ _ _ _ (pv 2) (@pa_cons _ _ _ _ _ (@pe_ix _ _ _ _ _ _ _ (kix_dic K w.params) (pe_glob (by rfl) T.m_SIGNS (by exact T.r_SIGNS)) (pv 1) (fun _ _ => rfl)) (@pa_cons _ _ _ _ _ (pv 3) (@pa_nil _) (by rfl)) (by rfl)) (by rfl))) (@pa_nil _) (by rfl)) (by decide) (by rfl) (by rfl))))))))), ?_⟩
      walk_at "go"
      cases c with
      | nt c =>
        obtain ⟨a, v1, rfl, ha, a1⟩ := hx
        refine i_ixT (SqT.of ha) (atI_nat (j := 0) rfl) ?_
        walk_at "run"
        refine i_itDT rfl ?_
        walk_at "run"
        refine i_ixT (SqT.of ha) (atI_nat (j := 1) rfl) ?_
        walk_at "run"
        simp only [Cd.h, Cd.sz] at hh hz
        have ho' : c.ok ys 5 := ho
        refine ⟨v1, c, ys, rfl, a1, by omega, by omega, ho', hg, fun H1 s1 => ?_⟩
        have ln := c.len hg ho'
        have e4 : (Str.ofString "not ").length = 4 := by decide +kernel
        refine i_plusS (le_line (by rw [e4]; omega)) ?_
        have := q H1 s1
        simp only [Cd.words] at this
        rw [tx_cons _ c.words_ne, show Str.ofString "not" ++ bl1 = Str.ofString "not " by decide +kernel] at this
        exact this
      | both c1 c2 =>
        obtain ⟨a, v1, v2, rfl, ha, a1, a2⟩ := hx
        refine i_ixT (SqT.of ha) (atI_nat (j := 0) rfl) ?_
        walk_at "run"
        refine i_itDF (by decide +kernel) ?_
        walk_at "run"
        refine i_itDT rfl ?_
        walk_at "run"
        simp only [Cd.h, Cd.sz] at hh hz
        refine i_ixT (SqT.of ha) (atI_nat (j := 1) rfl) ?_
        walk_at "run"
        refine ⟨v1, c1, ys, rfl, a1, by omega, by omega, ho.1, hg, fun H1 s1 => ?_⟩
        walk_at "run"
        refine i_ixT (SqT.of (s1 _ _ ha)) (atI_nat (j := 2) rfl) ?_
        walk_at "run"
        refine ⟨v2, c2, ys, rfl, a2.mono s1.tups, by omega, by omega, ho.2, hg, fun H2 s2 => ?_⟩
        walk_at "run"
        have l1 := c1.len hg ho.1
        have l2 := c2.len hg ho.2
        have e1 : (Str.ofString "( ").length = 2 := by decide +kernel
        have e2 : (Str.ofString " and ").length = 5 := by decide +kernel
        have e3 : (Str.ofString " )").length = 2 := by decide +kernel
        refine ⟨le_line (by omega), ?_⟩
        walk_at "run"
        refine ⟨le_line (by simp only [sx_empty, sx_len, e1]; omega), ?_⟩
        walk_at "run"
        refine ⟨le_line (by simp only [sx_empty, sx_len, e1, e2]; omega), ?_⟩
        walk_at "run"
        refine ⟨le_line (by omega), ?_⟩
        walk_at "run"
        refine ⟨le_line (by simp only [sx_empty, sx_len, e1, e2]; omega), ?_⟩
        walk_at "run"
        refine ⟨le_line (by simp only [sx_empty, sx_len, e1, e2, e3]; omega), ?_⟩
        refine i_joinN (le_line (by simp only [sx_empty, sx_len, e1, e2, e3]; omega)) ?_
        have := q H2 (s1.trans s2)
        simp only [Cd.words] at this
        rw [tx_cons _ (by simp), tx_snoc _ (by simp), tx_mid _ c1.words_ne c2.words_ne, show bl1 ++ Str.ofString "and" ++ bl1 = Str.ofString " and " by decide +kernel, show Str.ofString "(" ++ bl1 = Str.ofString "( " by decide +kernel, show bl1 ++ Str.ofString ")" = Str.ofString " )" by decide +kernel] at this
        simp only [sx_empty, sx_assoc] at this ⊢
        exact this
      | cmp k e1 e2 =>
        obtain ⟨a, v1, v2, rfl, ha, a1, a2⟩ := hx
        refine i_ixT (SqT.of ha) (atI_nat (j := 0) rfl) ?_
        walk_at "run"
        refine i_itDF (by cases k <;> decide +kernel) ?_
        walk_at "run"
        refine i_itDF (by cases k <;> decide +kernel) ?_
        walk_at "run"
        simp only [Cd.h, Cd.sz] at hh hz
        have l1 := e1.len hg ho.1.1
        have l2 := e2.len hg ho.2.1
        have b1 := ho.1.2
        have b2 := ho.2.2
        refine i_ixT (SqT.of ha) (atI_nat (j := 1) rfl) ?_
        walk_at "run"
        refine ⟨v1, e1, ys, rfl, a1, by omega, by omega, ho.1.1, hg, fun H1 s1 => ?_⟩
        walk_at "run"
        refine i_ixT (SqT.of (s1 _ _ ha)) (atI_nat (j := 2) rfl) ?_
        walk_at "run"
        refine ⟨v2, e2, ys, rfl, a2.mono s1.tups, by omega, by omega, ho.2.1, hg, fun H2 s2 => ?_⟩
        walk_at "run"
        refine i_ixD T.d_SIGNS (z := sgnC k) (by cases k <;> decide +kernel) ?_
        walk_at "run"
        intro p3 H3 f3 s3 g3
        walk_at "run"
        refine ⟨p3, _, [Tx e1.words, sgnC k, Tx e2.words], rfl, .inl (SqL.of g3), .cons (.inr rfl) (.cons (.inr rfl) (.cons (.inr rfl) .nil)), by simp, ?_, fun H4 s4 => ?_⟩
        · have b3 := (mark_facts _ (sgnC_in k)).2.2
          simp only [List.map_cons, List.map_nil, List.sum_cons, List.sum_nil, b3]
          omega
        · have := q H4 (s1.trans (s2.trans (s3.trans s4)))
          rw [tx_3 e1.words_ne e2.words_ne]
          exact this
def sp_put (K : PySem.W.Frag) : Sp := fun vs H Q _ => ∃ (v : V) (n : Str) (e : Ex) (fs : List Addr) (ys : List Str), vs = [v] ∧ (Stm.put n e).tr.At H v fs ∧ e.ok ys ∧ e.h ≤ 5 ∧ n.length ≤ 8 ∧ Good ys ∧ ∀ H', Same H H' → Q (.str (Tx [Str.ofString "put", n, Tx e.words])) H'
theorem ok_put_row (T : Txt K mg w.params t) : FnOk P w K mg base CX0 8 t.a_put_row t.fd_put_row ["statement"] (sp_put K) := by
  have G_joined_parts := ok_joined_parts (P := P) (w := w) (base := base) T
  have G_shown_expression := ok_shown_expression (P := P) (w := w) (base := base) T
  refine T.F_put_row.ok sc_put_row (fun vs H Q E h => ?_) (fun cdv A outer s H vs Q E hr h => ?_)
  · obtain ⟨v, n, e, fs, ys, rfl, _⟩ := h
    rfl
  · obtain ⟨v, n, e, fs, ys, rfl, hx, ho, hh, hn, hg, q⟩ := h
    have G_shown_expression := G_shown_expression 6
    refine ⟨_, (@pss_one _ _ _ (@ps_ret _ _ _ _ (@pe_call _ _ _ _ _ _ _ _ _ _ _ _ _ _ _ _ G_joined_parts (hr.mono (by omega)) rfl T.m_joined_parts T.F_joined_parts.kp T.b_joined_parts .nil pass0 (@pa_cons _ _ _ _ _ (@pe_lstN _ _ _ _ (@pa_cons _ _ _ _ _ (@pe_str _ _ _ _) (@pa_cons _ _ _ _ _ (@pe_ix _ _ _ _ _ _ _ (kix_tup K) (pv 0) (@pe_int _ _ _ _) (fun _ _ => rfl)) (@pa_cons _ _ _ _ _ (@pe_call _ _ _ _ _ _ _ _ _ _ _ _ _ _ _ _ G_shown_expression (hr.mono (by omega)) rfl T.m_shown_expression T.F_shown_expression.kp T.b_shown_expression .nil pass0 (@pa_cons _ _ _ _ _ (@pe_ix _ _ _ _ _ _ _ (kix_tup K) (pv 0) (@pe_int _ _ _ _) (fun _ _ => rfl)) (@pa_nil _) (by rfl)) (by decide) (by rfl) (by rfl)) (@pa_nil _) (by rfl)) (by rfl)) (by rfl))) (@pa_nil _) (by rfl)) (by decide) (by rfl) (by rfl)))), ?_⟩
    walk_at "go"
    obtain ⟨a, u, rfl, ha, hu⟩ := put_view hx
    have hs : e.sz ≤ 10000 := Th.sz_le (.ex e) (by simp only [Th.hh]; omega)
    have l1 := e.len hg ho
    refine i_ixT (SqT.of ha) (atI_nat (j := 1) rfl) ?_
    walk_at "run"
    refine i_ixT (SqT.of ha) (atI_nat (j := 2) rfl) ?_
    walk_at "run"
    refine ⟨u, e, ys, rfl, hu, by omega, hs, ho, hg, fun H1 s1 => ?_⟩
    walk_at "run"
    intro p2 H2 f2 s2 g2
    walk_at "run"
    refine ⟨p2, _, [Str.ofString "put", n, Tx e.words], rfl, .inl (SqL.of g2), .cons (.inr rfl) (.cons (.inr rfl) (.cons (.inr rfl) .nil)), by simp, ?_, fun H3 s3 => q H3 (s1.trans (s2.trans s3))⟩
    have e1 : (Str.ofString "put").length = 3 := by decide +kernel
    simp only [List.map_cons, List.map_nil, List.sum_cons, List.sum_nil, e1]
    omega
def sp_body (K : PySem.W.Frag) (d : Nat) : Sp := fun vs H Q _ => ∃ (l : Addr) (us : List V) (b : List Stm) (gs : List Addr) (ys : List Str) (e : Nat), vs = [.ref l] ∧ e < d ∧ H l = some (.lst us) ∧ Tr.Ats H (Stm.trs b) us gs ∧ Stm.oks ys e b ∧ Good ys ∧ Fit (Stm.rowsL b) ∧ New H (.lst (strsV (Stm.rowsL b))) Q
def sp_stm (K : PySem.W.Frag) (d : Nat) : Sp := fun vs H Q _ => ∃ (v : V) (s : Stm) (gs : List Addr) (ys : List Str) (e : Nat), vs = [v] ∧ e < d ∧ s.tr.At H v gs ∧ s.ok ys e ∧ Good ys ∧ Fit s.rows ∧ New H (.lst (strsV s.rows)) Q
theorem ok_if_rows (T : Txt K mg w.params t) (d : Nat) (G_body_rows : FnOk P w K mg base CX0 (3 * d + 20) t.a_body_rows t.fd_body_rows ["body"] (sp_body K d)) : FnOk P w K mg base CX0 (3 * d + 21) t.a_if_rows t.fd_if_rows ["statement"] (fun vs H Q E => (∃ c x y, ∃ (v : V) (gs : List Addr) (ys : List Str) (e : Nat), vs = [v] ∧ e < d + 1 ∧ (Stm.test c x y).tr.At H v gs ∧ (Stm.test c x y).ok ys e ∧ Good ys ∧ Fit (Stm.test c x y).rows ∧ New H (.lst (strsV (Stm.test c x y).rows)) Q)) := by
  have G_inward := ok_inward (P := P) (w := w) (base := base) T
  have G_shown_condition := ok_shown_condition (P := P) (w := w) (base := base) T 4
  refine T.F_if_rows.ok sc_if_rows (fun vs H Q E h => ?_) (fun cdv A outer s H vs Q E hr h => ?_)
  · obtain ⟨c, x, y, v, gs, ys, e, rfl, _⟩ := h
    rfl
  · obtain ⟨c, x, y, v, gs, ys, e, rfl, he, hx, ho, hg, hf, q⟩ := h
    cases e with
    | zero => simp only [Stm.ok] at ho
    | succ e =>
    simp only [Stm.ok] at ho
    obtain ⟨oc, hc, ox, oy⟩ := ho
    simp only [Stm.rows] at hf q
    rw [List.cons_append, List.cons_append] at hf
    have fx : Fit (Stm.rowsL x) := hf.cons.2.app.1.app.1.inn
    have fe := hf.cons.2.app.1.app.2
    have lx := fx.1
    have hs : c.sz ≤ 10000 := Th.sz_le (.cd c) (by have := Cd.hh_le oc; simp only [Th.hh]; omega)
    have l1 := c.len hg oc
    refine ⟨_, (@pss_cons _ _ _ _ _ (@ps_set _ _ 1 _ _ _ _ sc_if_rows.nd rfl (by first | exact Or.inl rfl | exact Or.inr rfl) (@pe_call _ _ _ _ _ _ _ _ _ _ _ _ _ _ _ _ G_shown_condition (hr.mono (by omega)) rfl T.m_shown_condition T.F_shown_condition.kp T.b_shown_condition .nil pass0 (@pa_cons _ _ _ _ _ (@pe_ix _ _ _ _ _ _ _ (kix_tup K) (pv 0) (@pe_int _ _ _ _) (fun _ _ => rfl)) (@pa_nil _) (by rfl)) (by decide) (by rfl) (by rfl)) (by rfl) (by first | exact Or.inl rfl | exact Or.inr rfl))
      (@pss_cons _ _ _ _ _ (@ps_set _ _ 2 _ _ _ _ sc_if_rows.nd rfl (by first | exact Or.inl rfl | exact Or.inr rfl) (@pe_op _ _ _ _ _ _ _ _ op_plus (@pe_lstN _ _ _ _ (@pa_cons _ _ _ _ _ (@pe_fstr _ _ _ _ _ _ (.cons (@pe_str _ _ _ _) (.cons (@pe_fmt _ _ _ _ (pv 1)) .nil))) (@pa_nil _) (by rfl))) (@pe_call _ _ _ _ _ _ _ _ _ _ _ _ _ _ _ _ G_inward (hr.mono (by omega)) rfl T.m_inward T.F_inward.kp T.b_inward .nil pass0 (@pa_cons _ _ _ _ _ (@pe_call _ _ _ _ _ _ _ _ _ _ _ _ _ _ _ _ G_body_rows (hr.mono (by omega)) rfl T.m_body_rows T.F_body_rows.kp T.b_body_rows .nil pass0 (@pa_cons _ _ _ _ _ (@pe_ix _ _ _ _ _ _ _ (kix_tup K) (pv 0) (@pe_int _ _ _ _) (fun _ _ => rfl)) (@pa_nil _) (by rfl)) (by decide) (by rfl) (by rfl)) (@pa_nil _) (by rfl)) (by decide) (by rfl) (by rfl))) (by rfl) (by first | exact Or.inl rfl | exact Or.inr rfl))
      (@pss_cons _ _ _ _ _ (@ps_if _ _ _ _ _ _ _ _ (@pt_cmpR _ _ _ _ _ _ _ _ op_gt (@pe_callB _ _ _ _ _ _ _ _ _ (kcl_len K) (by rfl) T.z_len bb_len (@pa_cons _ _ _ _ _ (@pe_ix _ _ _ _ _ _ _ (kix_tup K) (pv 0) (@pe_int _ _ _ _) (fun _ _ => rfl)) (@pa_nil _) (by rfl)) (by decide) (by decide) (by rfl) (by rfl)) (@pe_int _ _ _ _) (nomark _)) (@pss_cons _ _ _ _ _ (@ps_expr _ _ _ _ (@kpe_bm _ K _ _ _ _ _ _ _ _ _ _ _ PySem.F.plainAttrs_list PySem.F.slot_list_append PySem.F.type_list_append mt_append (pv 2) (@pa_cons _ _ _ _ _ (@pe_str _ _ _ _) (@pa_nil _) (by rfl)) (by rfl) (by rfl) (by rfl) (by rfl) (by rfl) (by rfl)) (by rfl))
        (@pss_one _ _ _ (@ps_expr _ _ _ _ (@kpe_bm _ K _ _ _ _ _ _ _ _ _ _ _ PySem.F.plainAttrs_list PySem.F.slot_list_extend PySem.F.type_list_extend mt_extend (pv 2) (@pa_cons _ _ _ _ _ (@pe_call _ _ _ _ _ _ _ _ _ _ _ _ _ _ _ _ G_inward (hr.mono (by omega)) rfl T.m_inward T.F_inward.kp T.b_inward .nil pass0 (@pa_cons _ _ _ _ _ (@pe_call _ _ _ _ _ _ _ _ _ _ _ _ _ _ _ _ G_body_rows (hr.mono (by omega)) rfl T.m_body_rows T.F_body_rows.kp T.b_body_rows .nil pass0 (@pa_cons _ _ _ _ _ (@pe_ix _ _ _ _ _ _ _ (kix_tup K) (pv 0) (@pe_int _ _ _ _) (fun _ _ => rfl)) (@pa_nil _) (by rfl)) (by decide) (by rfl) (by rfl)) (@pa_nil _) (by rfl)) (by decide) (by rfl) (by rfl)) (@pa_nil _) (by rfl)) (by rfl) (by rfl) (by rfl) (by rfl) (by rfl) (by rfl)) (by rfl)))) (@pss_nil _))
      (@pss_one _ _ _ (@ps_ret _ _ _ _ (@pe_op _ _ _ _ _ _ _ _ op_plus (pv 2) (@pe_lstN _ _ _ _ (@pa_cons _ _ _ _ _ (@pe_str _ _ _ _) (@pa_nil _) (by rfl))))))))), ?_⟩
    walk_at "go"
    obtain ⟨a, u, l, m, vs, ws, fs, gs, rfl, ha, hu, hl, hvs, hm, hws⟩ := test_view hx
    refine i_ixT (SqT.of ha) (atI_nat (j := 1) rfl) ?_
    walk_at "run"
    refine ⟨u, c, ys, rfl, hu, by omega, hs, oc, hg, fun H1 s1 => ?_⟩
    walk_at "run"
    refine ⟨le_line (by omega), ?_⟩
    walk_at "run"
    have e0 : (Str.ofString "if ").length = 3 := by decide +kernel
    refine ⟨le_line (by simp only [sx_empty, sx_len, e0]; omega), ?_⟩
    refine i_joinN (le_line (by simp only [sx_empty, sx_len, e0]; omega)) ?_
    walk_at "run"
    intro p2 H2 f2 s2 g2
    walk_at "run"
    have s12 := s1.trans s2
    refine i_ixT (SqT.of (s12 _ _ ha)) (atI_nat (j := 2) rfl) ?_
    walk_at "run"
    refine ⟨l, vs, x, fs, ys, e, rfl, by omega, s12 _ _ hl, hvs.mono (s12.keep _), ox, hg, fx, fun p3 H3 f3 s3 g3 => ?_⟩
    walk_at "run"
    refine ⟨p3, _, rfl, SqL.of g3, by omega, fun y m => by have := fx.2 y m; omega, fun p4 H4 f4 s4 g4 => ?_⟩
    walk_at "run"
    refine i_plusL (s4 _ _ (s3 _ _ g2)) g4 (le_line (by simp only [strsV, inn, List.length_map, List.length_cons, List.length_nil]; omega)) ?_
    intro p5 H5 f5 s5 g5
    walk_at "run"
    have s14 := s12.trans (s3.trans s4)
    have s15 := s14.trans s5
    have n5 : H p5 = none := s14.free f5
    refine i_ixT (SqT.of (s15 _ _ ha)) (atI_nat (j := 3) rfl) ?_
    walk_at "run"
    refine i_lenL (SqL.of (s15 _ _ hm)) ?_
    walk_at "run"
    have hwl := trs_len hws
    cases y with
    | nil =>
      refine i_itDF (by rw [hwl]; simp) ?_
      walk_at "run"
      intro p6 H6 f6 s6 g6
      walk_at "run"
      refine i_plusL (s6 _ _ g5) g6 (le_line (by simp only [strsV, inn, List.length_append, List.length_map, List.length_cons, List.length_nil]; omega)) ?_
      intro p7 H7 f7 s7 g7
      refine q p7 H7 ((s15.trans s6).free f7) (s15.trans (s6.trans s7)) ?_
      rw [g7]
      simp [strsV, inn, sx_empty]
    | cons z y =>
      refine i_itDT (by rw [hwl]; simp only [List.length_cons]; omega) ?_
      walk_at "run"
      refine i_tyL (SqL.of g5) ?_
      walk_at "run"
      refine i_append g5 (Nat.lt_of_lt_of_le (show _ < 1000000 by simp only [strsV, inn, List.length_append, List.length_map, List.length_cons, List.length_nil]; omega) (le_line (Nat.le_refl _))) ?_
      have s6 : Same H (upd H5 p5 (.lst ((.str (Str.empty ++ Str.ofString "if " ++ Tx c.words) :: [] ++ strsV (inn (Stm.rowsL x))) ++ [.str (Str.ofString "else")]))) := s15.updNew n5
      have g6 := upd_same (H := H5) (a := p5) (o := .lst ((.str (Str.empty ++ Str.ofString "if " ++ Tx c.words) :: [] ++ strsV (inn (Stm.rowsL x))) ++ [.str (Str.ofString "else")]))
      generalize upd H5 p5 (.lst ((.str (Str.empty ++ Str.ofString "if " ++ Tx c.words) :: [] ++ strsV (inn (Stm.rowsL x))) ++ [.str (Str.ofString "else")])) = H6 at s6 g6 ⊢
      walk_at "run"
      refine i_tyL (SqL.of g6) ?_
      walk_at "run"
      refine i_ixT (SqT.of (s6 _ _ ha)) (atI_nat (j := 3) rfl) ?_
      walk_at "run"
      have fy : Fit (Stm.rowsL (z :: y)) := by
        have := fe
        simp only [List.isEmpty_cons, Bool.false_eq_true, if_false] at this
        exact this.cons.2.inn
      have ly := fy.1
      refine ⟨m, ws, z :: y, gs, ys, e, rfl, by omega, s6 _ _ hm, hws.mono (s6.keep _), oy, hg, fy, fun p7 H7 f7 s7 g7 => ?_⟩
      walk_at "run"
      refine ⟨p7, _, rfl, SqL.of g7, by omega, fun y m => by have := fy.2 y m; omega, fun p8 H8 f8 s8 g8 => ?_⟩
      walk_at "run"
      refine i_extend (s8 _ _ (s7 _ _ g6)) g8 (le_line (by simp only [strsV, inn, List.length_append, List.length_map, List.length_cons, List.length_nil]; omega)) ?_
      have s9 := (s6.trans (s7.trans s8)).updNew (o := .lst (((.str (Str.empty ++ Str.ofString "if " ++ Tx c.words) :: [] ++ strsV (inn (Stm.rowsL x))) ++ [.str (Str.ofString "else")]) ++ strsV (inn (Stm.rowsL (z :: y))))) n5
      have g9 := upd_same (H := H8) (a := p5) (o := .lst (((.str (Str.empty ++ Str.ofString "if " ++ Tx c.words) :: [] ++ strsV (inn (Stm.rowsL x))) ++ [.str (Str.ofString "else")]) ++ strsV (inn (Stm.rowsL (z :: y)))))
      generalize upd H8 p5 (.lst (((.str (Str.empty ++ Str.ofString "if " ++ Tx c.words) :: [] ++ strsV (inn (Stm.rowsL x))) ++ [.str (Str.ofString "else")]) ++ strsV (inn (Stm.rowsL (z :: y))))) = H9 at s9 g9 ⊢
      walk_at "run"
      intro p10 H10 f10 s10 g10
      walk_at "run"
      refine i_plusL (s10 _ _ g9) g10 (le_line (by simp only [strsV, inn, List.length_append, List.length_map, List.length_cons, List.length_nil]; omega)) ?_
      intro p11 H11 f11 s11 g11
      refine q p11 H11 ((s9.trans s10).free f11) (s9.trans (s10.trans s11)) ?_
      rw [g11]
      simp [strsV, inn, sx_empty]
theorem ok_wait_rows (T : Txt K mg w.params t) (d : Nat) (G_body_rows : FnOk P w K mg base CX0 (3 * d + 20) t.a_body_rows t.fd_body_rows ["body"] (sp_body K d)) : FnOk P w K mg base CX0 (3 * d + 21) t.a_wait_rows t.fd_wait_rows ["statement"] (fun vs H Q E => (∃ n bs, ∃ (v : V) (gs : List Addr) (ys : List Str) (e : Nat), vs = [v] ∧ e < d + 1 ∧ (Stm.wait n bs).tr.At H v gs ∧ (Stm.wait n bs).ok ys e ∧ Good ys ∧ Fit (Stm.wait n bs).rows ∧ New H (.lst (strsV (Stm.wait n bs).rows)) Q)) := by
  have G_inward := ok_inward (P := P) (w := w) (base := base) T
  have G_block_rows := ok_block_rows (P := P) (w := w) (base := base) T
  have G_shown_pattern := ok_shown_pattern (P := P) (w := w) (base := base) T
  refine T.F_wait_rows.ok sc_wait_rows (fun vs H Q E h => ?_) (fun cdv A outer s H vs Q E hr h => ?_)
  · obtain ⟨n, bs, v, gs, ys, e, rfl, _⟩ := h
    rfl
  · obtain ⟨n, bs, v, gs, ys, e, rfl, he, hx, ho, hg, hf, q⟩ := h
    cases e with
    | zero => simp only [Stm.ok] at ho
    | succ e =>
    simp only [Stm.ok] at ho
    obtain ⟨hn, ob⟩ := ho
    simp only [Stm.rows] at hf q
    have fb := hf.block.2
    have fb1 := fb.1
    have dl := dig_len hn.1 hn.2
    refine ⟨_, (@pss_cons _ _ _ _ _ (@ps_set _ _ 1 _ _ _ _ sc_wait_rows.nd rfl (by first | exact Or.inl rfl | exact Or.inr rfl) (@pe_ix _ _ _ _ _ _ _ (kix_tup K) (pv 0) (@pe_int _ _ _ _) (fun _ _ => rfl)) (by rfl) (by first | exact Or.inl rfl | exact Or.inr rfl))
      (@pss_cons _ _ _ _ _ (@ps_set _ _ 2 _ _ _ _ sc_wait_rows.nd rfl (by first | exact Or.inl rfl | exact Or.inr rfl) (@pe_lstN _ _ _ _ (@pa_nil _)) (by rfl) (by first | exact Or.inl rfl | exact Or.inr rfl))
      (@pss_cons _ _ _ _ _ (@ps_for _ _ _ _ _ _ _ _ PassesOwn.never rfl (kpi_list K (@pe_ix _ _ _ _ _ _ _ (kix_tup K) (pv 0) (@pe_int _ _ _ _) (fun _ _ => rfl))) (kpg_tup K (n := 2) rfl (pgs_cons (pg_name (i := 3) sc_wait_rows.nd rfl (by first | exact Or.inl rfl | exact Or.inr rfl)) (pgs_cons (pg_name (i := 4) sc_wait_rows.nd rfl (by first | exact Or.inl rfl | exact Or.inr rfl)) (@pgs_nil _)))) (@pss_cons _ _ _ _ _ (@ps_expr _ _ _ _ (@kpe_bm _ K _ _ _ _ _ _ _ _ _ _ _ PySem.F.plainAttrs_list PySem.F.slot_list_append PySem.F.type_list_append mt_append (pv 2) (@pa_cons _ _ _ _ _ (@pe_op _ _ _ _ _ _ _ _ op_plus (@pe_str _ _ _ _) (@pe_call _ _ _ _ _ _ _ _ _ _ _ _ _ _ _ _ G_shown_pattern (hr.mono (by omega)) rfl T.m_shown_pattern T.F_shown_pattern.kp T.b_shown_pattern .nil pass0 (@pa_cons _ _ _ _ _ (pv 3) (@pa_nil _) (by rfl)) (by decide) (by rfl) (by rfl))) (@pa_nil _) (by rfl)) (by rfl) (by rfl) (by rfl) (by rfl) (by rfl) (by rfl)) (by rfl))
        (@pss_one _ _ _ (@ps_expr _ _ _ _ (@kpe_bm _ K _ _ _ _ _ _ _ _ _ _ _ PySem.F.plainAttrs_list PySem.F.slot_list_extend PySem.F.type_list_extend mt_extend (pv 2) (@pa_cons _ _ _ _ _ (@pe_call _ _ _ _ _ _ _ _ _ _ _ _ _ _ _ _ G_inward (hr.mono (by omega)) rfl T.m_inward T.F_inward.kp T.b_inward .nil pass0 (@pa_cons _ _ _ _ _ (@pe_call _ _ _ _ _ _ _ _ _ _ _ _ _ _ _ _ G_body_rows (hr.mono (by omega)) rfl T.m_body_rows T.F_body_rows.kp T.b_body_rows .nil pass0 (@pa_cons _ _ _ _ _ (pv 4) (@pa_nil _) (by rfl)) (by decide) (by rfl) (by rfl)) (@pa_nil _) (by rfl)) (by decide) (by rfl) (by rfl)) (@pa_nil _) (by rfl)) (by rfl) (by rfl) (by rfl) (by rfl) (by rfl) (by rfl)) (by rfl)))) (by intro _; rfl))
      (@pss_one _ _ _ (@ps_ret _ _ _ _ (@pe_call _ _ _ _ _ _ _ _ _ _ _ _ _ _ _ _ G_block_rows (hr.mono (by omega)) rfl T.m_block_rows T.F_block_rows.kp T.b_block_rows .nil pass0 (@pa_cons _ _ _ _ _ (@pe_fstr _ _ _ _ _ _ (.cons (@pe_str _ _ _ _) (.cons (@pe_fmt _ _ _ _ (pv 1)) .nil))) (@pa_cons _ _ _ _ _ (pv 2) (@pa_nil _) (by rfl)) (by rfl)) (by decide) (by rfl) (by rfl))))))), ?_⟩
    walk_at "go"
    obtain ⟨a, l, us, gs, rfl, ha, hl, hus⟩ := wait_view hx
    refine i_ixT (SqT.of ha) (atI_nat (j := 1) rfl) ?_
    walk_at "run"
    intro p1 H1 f1 s1 g1
    walk_at "run"
    refine i_ixT (SqT.of (s1 _ _ ha)) (atI_nat (j := 2) rfl) ?_
    walk_at "run"
    have eo : (Str.ofString "on ").length = 3 := by decide +kernel
    have ew : (Str.ofString "wait ").length = 5 := by decide +kernel
    have hul := btrs_len hus
    refine ⟨⟨_, SqL.of (s1 _ _ hl)⟩, for_list (K := K) (a := l) (xs := us) (fun i σ H' => Same H H' ∧ H' p1 = some (.lst (strsV (Br.rowsL (bs.take i)))) ∧ ∃ y1 y2, σ = [some (.ref a), some (.int n), some (.ref p1), y1, y2]) ⟨s1, g1, _, _, rfl⟩ (fun i σ H' _ ⟨s, _⟩ => SqL.of (s _ _ hl)) ?_ ?_⟩
    · rintro i x σ H2 hx2 ⟨s2, g2, y1, y2, rfl⟩
      obtain ⟨sb, f, hb, hat, _⟩ := br_get hus hx2
      have hok := Br.oks_get ob hb
      obtain ⟨fr, ft⟩ := Fit.takeB fb hb
      have sn := Br.rowsL_snoc hb
      obtain ⟨pp, bb⟩ := sb
      simp only [Br.ok] at hok
      simp only [Br.rows] at fr ft sn
      obtain ⟨c, cp, l2, vs2, gs2, rfl, hc, hcp, hl2, hvs2⟩ := br_view hat
      have fbb := fr.cons.2.inn
      have fl := fr.cons.1
      have fbl := fbb.1
      rw [sx_len] at fl
      have hsum := Pt.sum hok.2.1
      simp only [List.length_cons] at ft
      refine i_asgT (SqT.of (s2 _ _ hc)) rfl ?_
      walk_at "run"
      refine i_tyL (SqL.of g2) ?_
      walk_at "run"
      refine ⟨cp, _, pp.map Pt.tx, rfl, SqT.of (s2 _ _ hcp), Pt.parts hok.2.1, by rw [List.length_map]; omega, by omega, fun H3 s3 => ?_⟩
      rw [join_tx]
      refine i_plusS (le_line (by omega)) ?_
      walk_at "run"
      refine i_append (s3 _ _ g2) (Nat.lt_of_lt_of_le (show _ < 1000000 by simp only [strsV, List.length_map]; omega) (le_line (Nat.le_refl _))) ?_
      have n1 : H p1 = none := f1
      have s4 := (s2.trans s3).updNew (o := .lst (strsV (Br.rowsL (bs.take i)) ++ [.str (Str.ofString "on " ++ Tx (pp.map Pt.tx))])) n1
      have g4 := upd_same (H := H3) (a := p1) (o := .lst (strsV (Br.rowsL (bs.take i)) ++ [.str (Str.ofString "on " ++ Tx (pp.map Pt.tx))]))
      generalize upd H3 p1 (.lst (strsV (Br.rowsL (bs.take i)) ++ [.str (Str.ofString "on " ++ Tx (pp.map Pt.tx))])) = H4 at s4 g4 ⊢
      walk_at "run"
      refine i_tyL (SqL.of g4) ?_
      walk_at "run"
      refine ⟨l2, vs2, bb, gs2, ys, e, rfl, by omega, s4 _ _ hl2, hvs2.mono (s4.keep _), hok.2.2, hg, fbb, fun p5 H5 f5 s5 g5 => ?_⟩
      walk_at "run"
      refine ⟨p5, _, rfl, SqL.of g5, by omega, fun y m => by have := fbb.2 y m; omega, fun p6 H6 f6 s6 g6 => ?_⟩
      walk_at "run"
      refine i_extend (s6 _ _ (s5 _ _ g4)) g6 (le_line (by simp only [strsV, inn, List.length_append, List.length_map, List.length_cons, List.length_nil]; simp only [inn, List.length_map] at ft; omega)) ?_
      refine ⟨(s4.trans (s5.trans s6)).updNew n1, ?_, _, _, rfl⟩
      rw [upd_same, sn]
      simp [strsV, inn]
    · rintro σ H2 ⟨s2, g2, y1, y2, rfl⟩
      rw [hul, List.take_length] at g2
      walk_at "run"
      refine ⟨log_small (by omega), ?_⟩
      walk_at "run"
      refine ⟨le_line (by simp only [sx_empty, sx_len, ew]; have : (Str.ofString (toString n)).length = 1 := dl; omega), ?_⟩
      refine i_joinN (le_line (by simp only [sx_empty, sx_len, ew]; have : (Str.ofString (toString n)).length = 1 := dl; omega)) ?_
      walk_at "run"
      refine ⟨_, p1, _, rfl, SqL.of g2, by omega, fun y m => by have := fb.2 y m; omega, fun p3 H3 f3 s3 g3 => q p3 H3 (s2.free f3) (s2.trans s3) ?_⟩
      rw [g3, sx_empty]
theorem ok_statement_rows (T : Txt K mg w.params t) (d : Nat) (G_body_rows : FnOk P w K mg base CX0 (3 * d + 20) t.a_body_rows t.fd_body_rows ["body"] (sp_body K d)) : FnOk P w K mg base CX0 (3 * d + 22) t.a_statement_rows t.fd_statement_rows ["statement"] (sp_stm K (d + 1)) := by
  have G_block_rows := ok_block_rows (P := P) (w := w) (base := base) T
  have G_joined_parts := ok_joined_parts (P := P) (w := w) (base := base) T
  have G_put_row := ok_put_row (P := P) (w := w) (base := base) T
  have G_if_rows := ok_if_rows T d G_body_rows
  have G_wait_rows := ok_wait_rows T d G_body_rows
  refine T.F_statement_rows.ok sc_statement_rows (fun vs H Q E h => ?_) (fun cdv A outer s H vs Q E hr h => ?_)
  · obtain ⟨v, s, gs, ys, e, rfl, _⟩ := h
    rfl
  · obtain ⟨v, st, gs, ys, e, rfl, he, hx, ho, hg, hf, q⟩ := h
    refine ⟨_, (@pss_cons _ _ _ _ _ (@ps_set _ _ 1 _ _ _ _ sc_statement_rows.nd rfl (by first | exact Or.inl rfl | exact Or.inr rfl) (@pe_ix _ _ _ _ _ _ _ (kix_tup K) (pv 0) (@pe_int _ _ _ _) (fun _ _ => rfl)) (by rfl) (by first | exact Or.inl rfl | exact Or.inr rfl))
      (@pss_cons _ _ _ _ _ (@ps_if _ _ _ _ _ _ _ _ (@pt_cmpR _ _ _ _ _ _ _ _ op_eq (pv 1) (@pe_str _ _ _ _) (nomark _)) (@pss_one _ _ _ (@ps_ret _ _ _ _ (@pe_call _ _ _ _ _ _ _ _ _ _ _ _ _ _ _ _ G_if_rows (hr.mono (by omega)) rfl T.m_if_rows T.F_if_rows.kp T.b_if_rows .nil pass0 (@pa_cons _ _ _ _ _ (pv 0) (@pa_nil _) (by rfl)) (by decide) (by rfl) (by rfl)))) (@pss_nil _))
      (@pss_cons _ _ _ _ _ (@ps_if _ _ _ _ _ _ _ _ (@pt_cmpR _ _ _ _ _ _ _ _ op_eq (pv 1) (@pe_str _ _ _ _) (nomark _)) (@pss_one _ _ _ (@ps_ret _ _ _ _ (@pe_call _ _ _ _ _ _ _ _ _ _ _ _ _ _ _ _ G_wait_rows (hr.mono (by omega)) rfl T.m_wait_rows T.F_wait_rows.kp T.b_wait_rows .nil pass0 (@pa_cons _ _ _ _ _ (pv 0) (@pa_nil _) (by rfl)) (by decide) (by rfl) (by rfl)))) (@pss_nil _))
      (@pss_cons _ _ _ _ _ (@ps_if _ _ _ _ _ _ _ _ (@pt_cmpR _ _ _ _ _ _ _ _ op_eq (pv 1) (@pe_str _ _ _ _) (nomark _)) (@pss_one _ _ _ (@ps_ret _ _ _ _ (@pe_call _ _ _ _ _ _ _ _ _ _ _ _ _ _ _ _ G_block_rows (hr.mono (by omega)) rfl T.m_block_rows T.F_block_rows.kp T.b_block_rows .nil pass0 (@pa_cons _ _ _ _ _ (@pe_str _ _ _ _) (@pa_cons _ _ _ _ _ (@pe_call _ _ _ _ _ _ _ _ _ _ _ _ _ _ _ _ G_body_rows (hr.mono (by omega)) rfl T.m_body_rows T.F_body_rows.kp T.b_body_rows .nil pass0 (@pa_cons _ _ _ _ _ (@pe_ix _ _ _ _ _ _ _ (kix_tup K) (pv 0) (@pe_int _ _ _ _) (fun _ _ => rfl)) (@pa_nil _) (by rfl)) (by decide) (by rfl) (by rfl)) (@pa_nil _) (by rfl)) (by rfl)) (by decide) (by rfl) (by rfl)))) (@pss_nil _))
      (@pss_cons _ _ _ _ _ (@ps_if _ _ _ _ _ _ _ _ (@pt_cmpR _ _ _ _ _ _ _ _ op_eq (pv 1) (@pe_str _ _ _ _) (nomark _)) (@pss_one _ _ _ (@ps_ret _ _ _ _ (@pe_lstN _ _ _ _ (@pa_cons _ _ _ _ _ (@pe_call _ _ _ _ _ _ _ _ _ _ _ _ _ _ _ _ G_put_row (hr.mono (by omega)) rfl T.m_put_row T.F_put_row.kp T.b_put_row .nil pass0 (@pa_cons _ _ _ _ _ (pv 0) (@pa_nil _) (by rfl)) (by decide) (by rfl) (by rfl)) (@pa_nil _) (by rfl))))) (@pss_nil _))
      (@pss_one _ _ _ (@ps_ret _ _ _ _ (@pe_lstN _ _ _ _ (@pa_cons _ _ _ _ _ (@pe_call _ _ _ _ _ _ _ _ _ _ _ _ _ _ _ _ G_joined_parts (hr.mono (by omega)) rfl T.m_joined_parts T.F_joined_parts.kp T.b_joined_parts .nil pass0 (@pa_cons _ _ _ _ _ (pv 0) (@pa_nil _) (by rfl)) (by decide) (by rfl) (by rfl)) (@pa_nil _) (by rfl)))))))))), ?_⟩
    walk_at "go"
    cases st with
    | plain ps =>
      obtain ⟨a, rfl, ha⟩ := plain_view hx
      have ho' : ps.length ≤ 3 ∧ (∀ p ∈ ps, p.ok) ∧ ∃ k r, ps = .s k :: r ∧ k ∉ [Str.ofString "test", Str.ofString "wait", Str.ofString "loop", Str.ofString "put"] := by
        cases e <;> simpa only [Stm.ok] using ho
      obtain ⟨h3, hp, k, r, rfl, hk⟩ := ho'
      simp only [List.mem_cons, List.not_mem_nil, or_false, not_or] at hk
      refine i_ixT (v := .str k) (SqT.of ha) (atI_nat (j := 0) rfl) ?_
      walk_at "run"
      refine i_itDF hk.1 ?_
      walk_at "run"
      refine i_itDF hk.2.1 ?_
      walk_at "run"
      refine i_itDF hk.2.2.1 ?_
      walk_at "run"
      refine i_itDF hk.2.2.2 ?_
      walk_at "run"
      have hsum := Pt.sum hp
      refine ⟨a, _, _, rfl, .inr (SqT.of ha), Pt.parts hp, by rw [List.length_map]; omega, by omega, fun H1 s1 => ?_⟩
      walk_at "run"
      intro p2 H2 f2 s2 g2
      refine q p2 H2 (s1.free f2) (s1.trans s2) ?_
      rw [g2]
      simp [Stm.rows, strsV]
    | put n x =>
      obtain ⟨a, u, rfl, ha, hu⟩ := put_view hx
      have ho' : n ∈ ys ∧ x.ok ys ∧ x.h ≤ 5 := by cases e <;> simpa only [Stm.ok] using ho
      refine i_ixT (SqT.of ha) (atI_nat (j := 0) rfl) ?_
      walk_at "run"
      refine i_itDF (by decide +kernel) ?_
      walk_at "run"
      refine i_itDF (by decide +kernel) ?_
      walk_at "run"
      refine i_itDF (by decide +kernel) ?_
      walk_at "run"
      refine i_itDT rfl ?_
      walk_at "run"
      refine ⟨_, n, x, gs, ys, rfl, hx, ho'.2.1, ho'.2.2, hg.ln n ho'.1, hg, fun H1 s1 => ?_⟩
      walk_at "run"
      intro p2 H2 f2 s2 g2
      refine q p2 H2 (s1.free f2) (s1.trans s2) ?_
      rw [g2]
      simp [Stm.rows, strsV]
    | loop b =>
      obtain ⟨a, l, us, gs2, rfl, ha, hl, hus⟩ := loop_view hx
      cases e with
      | zero => simp only [Stm.ok] at ho
      | succ e =>
      simp only [Stm.ok] at ho
      simp only [Stm.rows] at hf q
      have fb := hf.block.2
      have fb1 := fb.1
      refine i_ixT (SqT.of ha) (atI_nat (j := 0) rfl) ?_
      walk_at "run"
      refine i_itDF (by decide +kernel) ?_
      walk_at "run"
      refine i_itDF (by decide +kernel) ?_
      walk_at "run"
      refine i_itDT rfl ?_
      walk_at "run"
      refine i_ixT (SqT.of ha) (atI_nat (j := 1) rfl) ?_
      walk_at "run"
      refine ⟨l, us, b, gs2, ys, e, rfl, by omega, hl, hus, ho, hg, fb, fun p1 H1 f1 s1 g1 => ?_⟩
      walk_at "run"
      refine ⟨_, p1, _, rfl, SqL.of g1, by omega, fun y m => by have := fb.2 y m; omega, fun p3 H3 f3 s3 g3 => q p3 H3 (s1.free f3) (s1.trans s3) g3⟩
    | wait n bs =>
      obtain ⟨a, l, us, gs2, rfl, ha, hl, hus⟩ := wait_view hx
      refine i_ixT (SqT.of ha) (atI_nat (j := 0) rfl) ?_
      walk_at "run"
      refine i_itDF (by decide +kernel) ?_
      walk_at "run"
      refine i_itDT rfl ?_
      walk_at "run"
      exact ⟨n, bs, _, gs, ys, e, rfl, he, hx, ho, hg, hf, q⟩
    | test c x y =>
      obtain ⟨a, u, l, m, vs, ws, fs2, gs2, rfl, ha, _⟩ := test_view hx
      refine i_ixT (SqT.of ha) (atI_nat (j := 0) rfl) ?_
      walk_at "run"
      refine i_itDT rfl ?_
      walk_at "run"
      exact ⟨c, x, y, _, gs, ys, e, rfl, he, hx, ho, hg, hf, q⟩
theorem ok_body_rows (T : Txt K mg w.params t) : ∀ d : Nat, FnOk P w K mg base CX0 (3 * d + 20) t.a_body_rows t.fd_body_rows ["body"] (sp_body K d) := by
  intro d
  induction d with
  | zero => exact vac (fun vs H Q E ⟨_, _, _, _, _, _, _, h, _⟩ => Nat.not_lt_zero _ h)
  | succ d G_body_rows =>
    have G_statement_rows := ok_statement_rows T d G_body_rows
    refine T.F_body_rows.ok sc_body_rows (fun vs H Q E h => ?_) (fun cdv A outer s H vs Q E hr h => ?_)
    · obtain ⟨l, us, b, gs, ys, e, rfl, _⟩ := h
      rfl
    · obtain ⟨l, us, b, gs, ys, e, rfl, he, hl, hus, ho, hg, hf, q⟩ := h
      refine ⟨_, (@pss_cons _ _ _ _ _ (@ps_set _ _ 1 _ _ _ _ sc_body_rows.nd rfl (by first | exact Or.inl rfl | exact Or.inr rfl) (@pe_lstN _ _ _ _ (@pa_nil _)) (by rfl) (by first | exact Or.inl rfl | exact Or.inr rfl))
      (@pss_cons _ _ _ _ _ (@ps_for _ _ _ _ _ _ _ _ PassesOwn.never rfl (kpi_list K (pv 0)) (pg_name (i := 2) sc_body_rows.nd rfl (by first | exact Or.inl rfl | exact Or.inr rfl)) (@pss_one _ _ _ (@ps_expr _ _ _ _ (@kpe_bm _ K _ _ _ _ _ _ _ _ _ _ _ PySem.F.plainAttrs_list PySem.F.slot_list_extend PySem.F.type_list_extend mt_extend (pv 1) (@pa_cons _ _ _ _ _ (@pe_call _ _ _ _ _ _ _ _ _ _ _ _ _ _ _ _ G_statement_rows (hr.mono (by omega)) rfl T.m_statement_rows T.F_statement_rows.kp T.b_statement_rows .nil pass0 (@pa_cons _ _ _ _ _ (pv 2) (@pa_nil _) (by rfl)) (by decide) (by rfl) (by rfl)) (@pa_nil _) (by rfl)) (by rfl) (by rfl) (by rfl) (by rfl) (by rfl) (by rfl)) (by rfl))) (by intro _; rfl))
      (@pss_one _ _ _ (@ps_ret _ _ _ _ (pv 1))))), ?_⟩
      walk_at "go"
      intro p1 H1 f1 s1 g1
      walk_at "run"
      have hul := trs_len hus
      refine ⟨⟨_, SqL.of (s1 _ _ hl)⟩, for_list (K := K) (a := l) (xs := us) (fun i σ H' => Same H H' ∧ H' p1 = some (.lst (strsV (Stm.rowsL (b.take i)))) ∧ ∃ y1, σ = [some (.ref l), some (.ref p1), y1]) ⟨s1, g1, _, rfl⟩ (fun i σ H' _ ⟨s, _⟩ => SqL.of (s _ _ hl)) ?_ ?_⟩
      · rintro i x σ H2 hx2 ⟨s2, g2, y1, rfl⟩
        obtain ⟨sb, f, hb, hat, _⟩ := stm_get hus hx2
        have hok := Stm.oks_get ho hb
        obtain ⟨fr, ft⟩ := Fit.take hf hb
        have sn := Stm.rowsL_snoc hb
        walk_at "run"
        refine i_tyL (SqL.of g2) ?_
        walk_at "run"
        refine ⟨x, sb, f, ys, e, rfl, he, hat.mono (s2.keep _), hok, hg, fr, fun p5 H5 f5 s5 g5 => ?_⟩
        walk_at "run"
        refine i_extend (s5 _ _ g2) g5 (le_line (by simp only [strsV, List.length_map]; omega)) ?_
        refine ⟨(s2.trans s5).updNew f1, ?_, _, rfl⟩
        rw [upd_same, sn, strsV_app]
      · rintro σ H2 ⟨s2, g2, y1, rfl⟩
        rw [hul, List.take_length] at g2
        walk_at "run"
        exact q p1 H2 f1 s2 g2
def sp_shown (K : PySem.W.Frag) (d : Nat) : Sp := fun vs H Q _ => ∃ (v : V) (bs : List (Str × Int)) (ts : List (Str × List Stm)) (gs : List Addr) (ys : List Str) (e : Nat), vs = [v] ∧ e < d ∧ (scrT bs ts).At H v gs ∧ (∀ b ∈ bs, b.1.length ≤ 8 ∧ 0 ≤ b.2 ∧ b.2 < 10) ∧ (∀ x ∈ ts, x.1.length ≤ 8 ∧ Stm.oks ys e x.2) ∧ Good ys ∧ Fit (scrR bs ts) ∧ ((scrR bs ts).map (·.length)).sum ≤ 10000000 ∧ ∀ H', Same H H' → Q (.str (Str.join (Str.ofString "\n") (scrR bs ts))) H'
theorem ok_shown (T : Txt K mg w.params t) (d : Nat) : FnOk P w K mg base CX0 (3 * d + 21) t.a_shown t.fd_shown ["script"] (sp_shown K d) := by
  have G_body_rows := ok_body_rows (P := P) (w := w) (base := base) T d
  have G_block_rows := ok_block_rows (P := P) (w := w) (base := base) T
  refine T.F_shown.ok sc_shown (fun vs H Q E h => ?_) (fun cdv A outer s H vs Q E hr h => ?_)
  · obtain ⟨v, bs, ts, gs, ys, e, rfl, _⟩ := h
    rfl
  · obtain ⟨v, bs, ts, gs, ys, e, rfl, he, hx, hb, ht, hg, hf, hsz, q⟩ := h
    refine ⟨_, (@pss_cons _ _ _ _ _ (ps_lc (i := 1) (Nt := ["name", "size"]) (Nf := []) (caps := []) rfl (comp_ok (sc := defScope s_shown) rfl rfl (by decide +kernel) (by decide +kernel) (by decide +kernel) rfl (by decide +kernel)) (kpi_list K (@pe_ix _ _ _ _ _ _ _ (kix_tup K) (pv 0) (@pe_int _ _ _ _) (fun _ _ => rfl))) (fun _ _ _ _ _ => (kpg_tup K (n := 2) rfl (pgs_cons (pg_name (i := 0) (show (["name", "size"] : List Str).Nodup by decide +kernel) rfl (by first | exact Or.inl rfl | exact Or.inr rfl)) (pgs_cons (pg_name (i := 1) (show (["name", "size"] : List Str).Nodup by decide +kernel) rfl (by first | exact Or.inl rfl | exact Or.inr rfl)) (@pgs_nil _))))) (fun _ _ _ _ _ => (@pts_nil _)) (fun _ _ _ _ _ => (@pe_fstr _ _ _ _ _ _ (.cons (@pe_str _ _ _ _) (.cons (@pe_fmt _ _ _ _ (pv 0)) (.cons (@pe_str _ _ _ _) (.cons (@pe_fmt _ _ _ _ (pv 1)) .nil)))))) sc_shown.nd rfl (by first | exact Or.inl rfl | exact Or.inr rfl) rfl)
      (@pss_cons _ _ _ _ _ (@ps_for _ _ _ _ _ _ _ _ PassesOwn.never rfl (kpi_list K (@pe_ix _ _ _ _ _ _ _ (kix_tup K) (pv 0) (@pe_int _ _ _ _) (fun _ _ => rfl))) (kpg_tup K (n := 2) rfl (pgs_cons (pg_name (i := 2) sc_shown.nd rfl (by first | exact Or.inl rfl | exact Or.inr rfl)) (pgs_cons (pg_name (i := 3) sc_shown.nd rfl (by first | exact Or.inl rfl | exact Or.inr rfl)) (@pgs_nil _)))) (@pss_one _ _ _ (@ps_expr _ _ _ _ (@kpe_bm _ K _ _ _ _ _ _ _ _ _ _ _ PySem.F.plainAttrs_list PySem.F.slot_list_extend PySem.F.type_list_extend mt_extend (pv 1) (@pa_cons _ _ _ _ _ (@pe_call _ _ _ _ _ _ _ _ _ _ _ _ _ _ _ _ G_block_rows (hr.mono (by omega)) rfl T.m_block_rows T.F_block_rows.kp T.b_block_rows .nil pass0 (@pa_cons _ _ _ _ _ (@pe_fstr _ _ _ _ _ _ (.cons (@pe_str _ _ _ _) (.cons (@pe_fmt _ _ _ _ (pv 2)) .nil))) (@pa_cons _ _ _ _ _ (@pe_call _ _ _ _ _ _ _ _ _ _ _ _ _ _ _ _ G_body_rows (hr.mono (by omega)) rfl T.m_body_rows T.F_body_rows.kp T.b_body_rows .nil pass0 (@pa_cons _ _ _ _ _ (pv 3) (@pa_nil _) (by rfl)) (by decide) (by rfl) (by rfl)) (@pa_nil _) (by rfl)) (by rfl)) (by decide) (by rfl) (by rfl)) (@pa_nil _) (by rfl)) (by rfl) (by rfl) (by rfl) (by rfl) (by rfl) (by rfl)) (by rfl))) (by intro _; rfl))
      (@pss_one _ _ _ (@ps_ret _ _ _ _ (@kpe_bm _ K _ _ _ _ _ _ _ _ _ _ _ PySem.F.plainAttrs_str PySem.F.slot_str_join PySem.F.type_str_join (kmt_join K) (@pe_str _ _ _ _) (@pa_cons _ _ _ _ _ (pv 1) (@pa_nil _) (by rfl)) (by rfl) (by rfl) (by rfl) (by rfl) (by rfl) (by rfl)))))), ?_⟩
    obtain ⟨a, l, m, us, ws, f, g, rfl, ha, hl, hus, hm, hws⟩ := scr_view hx
    have hul : us.length = bs.length := by rw [hus.len, List.length_map]
    have hwl : ws.length = ts.length := by rw [hws.len, List.length_map]
    have fb : Fit (bs.map boxR) := (Fit.app (a := bs.map boxR) (b := talksR ts) hf).1
    have ft : Fit (talksR ts) := (Fit.app (a := bs.map boxR) (b := talksR ts) hf).2
    have fb1 := fb.1
    have fl := hf.1
    simp only [scrR, List.length_append, List.length_map] at fb1 fl
    have e1 : (Str.ofString "box ").length = 4 := by decide +kernel
    have e2 : (Str.ofString " ").length = 1 := by decide +kernel
    have e3 : (Str.ofString "talk ").length = 5 := by decide +kernel
    have e4 : (Str.ofString "\n").length = 1 := by decide +kernel
    walk_at "go"
    refine i_ixT (SqT.of ha) (atI_nat (j := 0) rfl) ?_
    walk_at "run"
    refine ⟨⟨_, SqL.of hl⟩, cc_pairs (xs := us) (le_line (by omega)) (fun i acc H' => H' = H ∧ i ≤ bs.length ∧ acc = strsV ((bs.map boxR).take i)) ⟨rfl, Nat.zero_le _, rfl⟩ (fun i acc H' ⟨e0, hi, e⟩ => ⟨?_, e0 ▸ SqL.of hl⟩) ?_ ?_⟩
    · subst e
      simp only [strsV, List.length_map, List.length_take]
      omega
    · rintro i x acc H' hx2 ⟨rfl, hi, rfl⟩
      obtain ⟨b, p, hbi, rfl, hp⟩ := box_get hus hx2
      have hi' : i < bs.length := (List.getElem?_eq_some_iff.mp hbi).1
      obtain ⟨b1, b2, b3⟩ := hb b (List.mem_of_getElem? hbi)
      have dl : (Str.ofString (toString b.2)).length = 1 := dig_len b2 b3
      refine ⟨p, _, _, rfl, SqT.of hp, ?_⟩
      walk_at "run"
      refine ⟨le_line (by omega), ?_⟩
      walk_at "run"
      refine ⟨le_line (by simp only [sx_empty, sx_len, e1]; omega), ?_⟩
      walk_at "run"
      refine ⟨le_line (by simp only [sx_empty, sx_len, e1, e2]; omega), ?_⟩
      walk_at "run"
      refine ⟨log_small (by omega), ?_⟩
      walk_at "run"
      refine ⟨le_line (by simp only [sx_empty, sx_len, e1, e2, dl]; omega), ?_⟩
      refine i_joinN (le_line (by simp only [sx_empty, sx_len, e1, e2, dl]; omega)) ?_
      refine ⟨rfl, hi', ?_⟩
      have := strsV_snoc (ys := bs.map boxR) (i := i) (y := boxR b) (by rw [List.getElem?_map, hbi]; rfl)
      rw [← this]
      simp only [boxR, sx_empty]
    · rintro acc H' ⟨rfl, _, rfl⟩ p1 H1 f1 s1 g1
      rw [hul, show bs.length = (bs.map boxR).length by simp, List.take_length] at g1
      walk_at "run"
      refine i_ixT (SqT.of (s1 _ _ ha)) (atI_nat (j := 1) rfl) ?_
      walk_at "run"
      refine ⟨⟨_, SqL.of (s1 _ _ hm)⟩, for_list (K := K) (a := m) (xs := ws) (fun i σ H0 => Same H' H0 ∧ H0 p1 = some (.lst (strsV (bs.map boxR ++ talksR (ts.take i)))) ∧ ∃ y1 y2, σ = [some (.ref a), some (.ref p1), y1, y2]) ⟨s1, by rw [g1]; simp [talksR], _, _, rfl⟩ (fun i σ H' _ ⟨s, _⟩ => SqL.of (s _ _ hm)) ?_ ?_⟩
      · rintro i x σ H2 hx2 ⟨s2, g2, y1, y2, rfl⟩
        obtain ⟨b, c, l2, vs2, gs2, hbi, rfl, hc, hl2, hvs2⟩ := talk_get hws hx2
        obtain ⟨n8, ob⟩ := ht b (List.mem_of_getElem? hbi)
        obtain ⟨fr, fl2⟩ := Fit.talk ft hbi
        have sn := talksR_snoc hbi
        have fbb := Fit.block (head := Str.ofString "talk " ++ b.1) (b := Stm.rowsL b.2) fr
        have fb2 := fbb.2.1
        refine i_asgT (SqT.of (s2 _ _ hc)) rfl ?_
        walk_at "run"
        refine i_tyL (SqL.of g2) ?_
        walk_at "run"
        refine ⟨le_line (by omega), ?_⟩
        walk_at "run"
        refine ⟨le_line (by simp only [sx_empty, sx_len, e3]; omega), ?_⟩
        refine i_joinN (le_line (by simp only [sx_empty, sx_len, e3]; omega)) ?_
        walk_at "run"
        refine ⟨l2, vs2, b.2, gs2, ys, e, rfl, he, s2 _ _ hl2, hvs2.mono (s2.keep _), ob, hg, fbb.2, fun p5 H5 f5 s5 g5 => ?_⟩
        walk_at "run"
        refine ⟨_, p5, _, rfl, SqL.of g5, by omega, fun y m => by have := fbb.2.2 y m; omega, fun p6 H6 f6 s6 g6 => ?_⟩
        walk_at "run"
        have hlb : (blockR (Str.empty ++ Str.ofString "talk " ++ b.1) (Stm.rowsL b.2)).length = (talkR b).length := by simp [talkR, blockR, inn]
        refine i_extend (s6 _ _ (s5 _ _ g2)) g6 (le_line (by simp only [strsV, List.length_map, List.length_append, hlb]; omega)) ?_
        refine ⟨(s2.trans (s5.trans s6)).updNew f1, ?_, _, _, rfl⟩
        rw [upd_same, sn, strsV_app, List.append_assoc, sx_empty]
        rfl
      · rintro σ H2 ⟨s2, g2, y1, y2, rfl⟩
        rw [hwl, List.take_length] at g2
        walk_at "run"
        refine ⟨_, p1, scrR bs ts, rfl, rfl, SqL.of g2, ?_, ?_⟩
        · have : (scrR bs ts).length = bs.length + (talksR ts).length := by simp [scrR]
          rw [e4, this]
          omega
        · rw [show Txt.join (Str.ofString "\n") (scrR bs ts) = Str.join (Str.ofString "\n") (scrR bs ts) from PySem.StrLaws.glued_eq_join _ _]
          exact q H2 s2
theorem letter_val {k : Int} (h0 : 0 ≤ k) (h1 : k < 26) : atI (Str.ofString "abcdefghijklmnopqrstuvwxyz").cps.toList k = some (97 + k.toNat) := by
  obtain ⟨m, rfl⟩ := Int.eq_ofNat_of_zero_le h0
  have : ∀ m : Nat, m < 26 → (Str.ofString "abcdefghijklmnopqrstuvwxyz").cps.toList[m]? = some (97 + m) := by decide +kernel
  exact atI_nat (this m (by omega))
theorem atI_strs {ys : List Str} {k : Int} (h0 : 0 ≤ k) (h1 : k < ys.length) : atI (strsV ys) k = some (.str (atN ys k)) := by
  have h := atN_get h0 h1
  have e : k = ((k.toNat : Nat) : Int) := by omega
  have : atI (strsV ys) ((k.toNat : Nat) : Int) = some (.str (atN ys k)) := atI_nat (by simp only [strsV, List.getElem?_map, h]; rfl)
  rw [← e] at this
  exact this
def sp_cell (K : PySem.W.Frag) : Sp := fun vs H Q _ => ∃ (a : Addr) (ns : List Int), vs = [.ref a, .int 0] ∧ SqL K H a (ns.map V.int) ∧ Q (.int (ns.headD 0)) H
theorem ok_law_cell_at (T : Txt K mg w.params t) : FnOk P w K mg base CX0 1 t.a__law_cell_at t.fd__law_cell_at ["script", "k"] (sp_cell K) := by
  refine T.F__law_cell_at.ok sc_law_cell_at (fun vs H Q E h => ?_) (fun cdv A outer s H vs Q E hr h => ?_)
  · obtain ⟨a, ns, rfl, _⟩ := h
    rfl
  · obtain ⟨a, ns, rfl, hS, q⟩ := h
    refine ⟨_, (@pss_cons _ _ _ _ _ (@ps_if _ _ _ _ _ _ _ _ (@pt_cmpR _ _ _ _ _ _ _ _ op_lt (pv 1) (@pe_callB _ _ _ _ _ _ _ _ _ (kcl_len K) (by rfl) T.z_len bb_len (@pa_cons _ _ _ _ _ (pv 0) (@pa_nil _) (by rfl)) (by decide) (by decide) (by rfl) (by rfl)) (nomark _)) (@pss_one _ _ _ (@ps_ret _ _ _ _ (@pe_ix _ _ _ _ _ _ _ (kix_list K) (pv 0) (pv 1) (fun _ _ => rfl)))) (@pss_nil _))
      (@pss_one _ _ _ (@ps_ret _ _ _ _ (@pe_int _ _ _ _)))), ?_⟩
    walk_at "go"
    refine i_lenL hS ?_
    walk_at "run"
    refine ite2 (fun h => ?_) (fun h => ?_)
    · walk_at "run"
      cases ns with
      | nil => simp at h
      | cons n ns =>
        refine i_ixL hS (show atI (V.int n :: ns.map V.int) ((0 : Nat) : Int) = some (V.int n) from atI_nat rfl) ?_
        exact q
    · walk_at "run"
      cases ns with
      | nil => exact q
      | cons n ns =>
        simp only [List.map_cons, List.length_cons] at h
        exact absurd h (by simp)
def sp_stir : Sp := fun vs H Q _ => ∃ (c k : Int), vs = [.int c, .int k] ∧ 0 ≤ k ∧ k ≤ 2 ∧ Q (.int (stirF c k)) H
theorem ok_law_stir (T : Txt K mg w.params t) : FnOk P w K mg base CX0 1 t.a__law_stir t.fd__law_stir ["cell", "k"] sp_stir := by
  refine T.F__law_stir.ok sc_law_stir (fun vs H Q E h => ?_) (fun cdv A outer s H vs Q E hr h => ?_)
  · obtain ⟨c, k, rfl, _⟩ := h
    rfl
  · obtain ⟨c, k, rfl, hk0, hk2, q⟩ := h
    refine ⟨_, (@pss_cons _ _ _ _ _ (@ps_set _ _ 2 _ _ _ _ sc_law_stir.nd rfl (by first | exact Or.inl rfl | exact Or.inr rfl) (@pe_op _ _ _ _ _ _ _ _ op_plus (@pe_op _ _ _ _ _ _ _ _ op_plus (@pe_op _ _ _ _ _ _ _ _ op_times (@pe_op _ _ _ _ _ _ _ _ op_mod (pv 0) (@pe_op _ _ _ _ _ _ _ _ op_pow (@pe_int _ _ _ _) (@pe_int _ _ _ _))) (@pe_int _ _ _ _)) (@pe_op _ _ _ _ _ _ _ _ op_times (@pe_op _ _ _ _ _ _ _ _ op_times (@pe_op _ _ _ _ _ _ _ _ op_pow (@pe_int _ _ _ _) (@pe_int _ _ _ _)) (@pe_op _ _ _ _ _ _ _ _ op_plus (pv 1) (@pe_int _ _ _ _))) (@pe_op _ _ _ _ _ _ _ _ op_plus (pv 1) (@pe_int _ _ _ _)))) (pv 1)) (by rfl) (by first | exact Or.inl rfl | exact Or.inr rfl))
      (@pss_cons _ _ _ _ _ (@ps_set _ _ 2 _ _ _ _ sc_law_stir.nd rfl (by first | exact Or.inl rfl | exact Or.inr rfl) (@pe_op _ _ _ _ _ _ _ _ op_plus (@pe_op _ _ _ _ _ _ _ _ op_times (pv 2) (pv 2)) (@pe_op _ _ _ _ _ _ _ _ op_times (@pe_int _ _ _ _) (pv 2))) (by rfl) (by first | exact Or.inl rfl | exact Or.inr rfl))
      (@pss_one _ _ _ (@ps_ret _ _ _ _ (@pe_op _ _ _ _ _ _ _ _ op_fdiv (@pe_op _ _ _ _ _ _ _ _ op_mod (@pe_op _ _ _ _ _ _ _ _ op_times (pv 2) (pv 2)) (@pe_op _ _ _ _ _ _ _ _ op_plus (@pe_op _ _ _ _ _ _ _ _ op_pow (@pe_int _ _ _ _) (@pe_int _ _ _ _)) (@pe_int _ _ _ _))) (@pe_int _ _ _ _)))))), ?_⟩
    walk_at "read"
    have h1 : Bd 160 (stirA c k) := stirA_bd c k hk0 hk2
    have h2 : Bd 321 (stirB (stirA c k)) := stirB_bd h1
    have hs : CBig (3 ^ Int.toNat 60) (k + 1) := .inr (.inr ⟨by omega, by omega⟩)
    have hs2 : CBig (3 ^ Int.toNat 60 * (k + 1)) (k + 1) := .inr (.inr ⟨by omega, by omega⟩)
    refine ⟨by walk_at "side", by walk_at "side", by walk_at "side", by walk_at "side", hs, hs2, h1.big h1, by walk_at "side", h2.big h2, by walk_at "side", by walk_at "side", by walk_at "side", q⟩
def numF (c : Int) : Int := if c % 2 = 0 then c / 2 else stirF (c / 2) 1 * 10 ^ Int.toNat 60 + stirF (c / 2) 2
def sp_number : Sp := fun vs H Q _ => ∃ (c : Int), vs = [.int c] ∧ Q (.int (numF c)) H
theorem ok_law_number (T : Txt K mg w.params t) : FnOk P w K mg base CX0 2 t.a__law_number t.fd__law_number ["cell"] sp_number := by
  have G__law_stir := ok_law_stir (P := P) (w := w) (base := base) T
  refine T.F__law_number.ok sc_law_number (fun vs H Q E h => ?_) (fun cdv A outer s H vs Q E hr h => ?_)
  · obtain ⟨c, rfl, _⟩ := h
    rfl
  · obtain ⟨c, rfl, q⟩ := h
    refine ⟨_, (@pss_cons _ _ _ _ _ (@ps_if _ _ _ _ _ _ _ _ (@pt_cmpR _ _ _ _ _ _ _ _ op_eq (@pe_op _ _ _ _ _ _ _ _ op_mod (pv 0) (@pe_int _ _ _ _)) (@pe_int _ _ _ _) (nomark _)) (@pss_one _ _ _ (@ps_ret _ _ _ _ (@pe_op _ _ _ _ _ _ _ _ op_fdiv (pv 0) (@pe_int _ _ _ _)))) (@pss_nil _))
      (@pss_one _ _ _ (@ps_ret _ _ _ _ (@pe_op _ _ _ _ _ _ _ _ op_plus (@pe_op _ _ _ _ _ _ _ _ op_times (@pe_call _ _ _ _ _ _ _ _ _ _ _ _ _ _ _ _ G__law_stir (hr.mono (by omega)) rfl T.m__law_stir T.F__law_stir.kp T.b__law_stir .nil pass0 (@pa_cons _ _ _ _ _ (@pe_op _ _ _ _ _ _ _ _ op_fdiv (pv 0) (@pe_int _ _ _ _)) (@pa_cons _ _ _ _ _ (@pe_int _ _ _ _) (@pa_nil _) (by rfl)) (by rfl)) (by decide) (by rfl) (by rfl)) (@pe_op _ _ _ _ _ _ _ _ op_pow (@pe_int _ _ _ _) (@pe_int _ _ _ _))) (@pe_call _ _ _ _ _ _ _ _ _ _ _ _ _ _ _ _ G__law_stir (hr.mono (by omega)) rfl T.m__law_stir T.F__law_stir.kp T.b__law_stir .nil pass0 (@pa_cons _ _ _ _ _ (@pe_op _ _ _ _ _ _ _ _ op_fdiv (pv 0) (@pe_int _ _ _ _)) (@pa_cons _ _ _ _ _ (@pe_int _ _ _ _) (@pa_nil _) (by rfl)) (by rfl)) (by decide) (by rfl) (by rfl)))))), ?_⟩
    unfold numF at q
    walk_at "go"
    refine ite2 (fun h => ?_) (fun h => ?_)
    · rw [if_pos (by simpa using h)] at q
      walk_at "run"
      exact q
    · rw [if_neg (by simpa using h)] at q
      walk_at "run"
      refine ⟨_, _, rfl, by decide, by decide, ?_⟩
      walk_at "run"
      refine i_timesI (Bd.big (stirF_bd (c / 2) 1) (show Bd 200 _ by unfold Bd; decide)) ?_
      walk_at "run"
      refine ⟨_, _, rfl, by decide, by decide, ?_⟩
      walk_at "run"
      exact q
def sp_word : Sp := fun vs H Q _ => ∃ (n : Int), vs = [.int n] ∧ Q (.str (wordF n)) H
theorem ok_law_word (T : Txt K mg w.params t) : FnOk P w K mg base CX0 1 t.a__law_word t.fd__law_word ["number"] sp_word := by
  refine T.F__law_word.ok sc_law_word (fun vs H Q E h => ?_) (fun cdv A outer s H vs Q E hr h => ?_)
  · obtain ⟨n, rfl, _⟩ := h
    rfl
  · obtain ⟨n, rfl, q⟩ := h
    refine ⟨_, (@pss_cons _ _ _ _ _ (@ps_set _ _ 1 _ _ _ _ sc_law_word.nd rfl (by first | exact Or.inl rfl | exact Or.inr rfl) (@pe_ix _ _ _ _ _ _ _ (kix_seq K) (@pe_str _ _ _ _) (@pe_op _ _ _ _ _ _ _ _ op_mod (@pe_op _ _ _ _ _ _ _ _ op_fdiv (pv 0) (@pe_int _ _ _ _)) (@pe_int _ _ _ _)) (fun _ _ => rfl)) (by rfl) (by first | exact Or.inl rfl | exact Or.inr rfl))
      (@pss_cons _ _ _ _ _ (@ps_set _ _ 2 _ _ _ _ sc_law_word.nd rfl (by first | exact Or.inl rfl | exact Or.inr rfl) (@pe_op _ _ _ _ _ _ _ _ op_fdiv (pv 0) (@pe_int _ _ _ _)) (by rfl) (by first | exact Or.inl rfl | exact Or.inr rfl))
      (@pss_cons _ _ _ _ _ (@ps_for _ _ _ _ _ _ _ _ PassesOwn.never rfl (pi_range1 rfl T.z_range (@pa_cons _ _ _ _ _ (@pe_op _ _ _ _ _ _ _ _ op_mod (pv 0) (@pe_int _ _ _ _)) (@pa_nil _) (by rfl))) (pg_name (i := 3) sc_law_word.nd rfl (by first | exact Or.inl rfl | exact Or.inr rfl)) (@pss_cons _ _ _ _ _ (@ps_set _ _ 1 _ _ _ _ sc_law_word.nd rfl (by first | exact Or.inl rfl | exact Or.inr rfl) (@pe_op _ _ _ _ _ _ _ _ op_plus (pv 1) (@pe_ix _ _ _ _ _ _ _ (kix_seq K) (@pe_str _ _ _ _) (@pe_op _ _ _ _ _ _ _ _ op_mod (pv 2) (@pe_int _ _ _ _)) (fun _ _ => rfl))) (by rfl) (by first | exact Or.inl rfl | exact Or.inr rfl))
        (@pss_one _ _ _ (@ps_set _ _ 2 _ _ _ _ sc_law_word.nd rfl (by first | exact Or.inl rfl | exact Or.inr rfl) (@pe_op _ _ _ _ _ _ _ _ op_fdiv (pv 2) (@pe_int _ _ _ _)) (by rfl) (by first | exact Or.inl rfl | exact Or.inr rfl)))) (by intro _; rfl))
      (@pss_one _ _ _ (@ps_ret _ _ _ _ (pv 1)))))), ?_⟩
    walk_at "go"
    refine i_ixS (by decide +kernel) (letter_val (k := n / 8 % 26) (by omega) (by omega)) ?_
    walk_at "run"
    refine for_range (lo := 0) (n := (n % 8).toNat) (fun i σ H2 => H2 = H ∧ ∃ (k : Option V), σ = [some (.int n), some (.str (wordIt n i).1), some (.int (wordIt n i).2), k]) ⟨rfl, _, rfl⟩ ?_ ?_
    · rintro i σ H2 hi ⟨rfl, k, rfl⟩
      have hw := (wordIt_low n i).2
      walk_at "run"
      refine i_ixS (by decide +kernel) (letter_val (k := (wordIt n i).2 % 26) (by omega) (by omega)) ?_
      refine i_plusS (le_line (by rw [sx_one]; omega)) ?_
      walk_at "run"
      exact ⟨rfl, _, rfl⟩
    · rintro σ H2 ⟨rfl, k, rfl⟩
      walk_at "run"
      exact q
def sp_name : Sp := fun vs H Q _ => ∃ (n : Int), vs = [.int n] ∧ ∀ H', Same H H' → Q (.str (fixN (wordF n))) H'
theorem ok_law_name (T : Txt K mg w.params t) : FnOk P w K mg base CX0 2 t.a__law_name t.fd__law_name ["number"] sp_name := by
  have G__law_word := ok_law_word (P := P) (w := w) (base := base) T
  refine T.F__law_name.ok sc_law_name (fun vs H Q E h => ?_) (fun cdv A outer s H vs Q E hr h => ?_)
  · obtain ⟨n, rfl, _⟩ := h
    rfl
  · obtain ⟨n, rfl, q⟩ := h
    refine ⟨_, (@pss_cons _ _ _ _ _ (@ps_set _ _ 1 _ _ _ _ sc_law_name.nd rfl (by first | exact Or.inl rfl | exact Or.inr rfl) (@pe_call _ _ _ _ _ _ _ _ _ _ _ _ _ _ _ _ G__law_word (hr.mono (by omega)) rfl T.m__law_word T.F__law_word.kp T.b__law_word .nil pass0 (@pa_cons _ _ _ _ _ (pv 0) (@pa_nil _) (by rfl)) (by decide) (by rfl) (by rfl)) (by rfl) (by first | exact Or.inl rfl | exact Or.inr rfl))
      (@pss_cons _ _ _ _ _ (@ps_if _ _ _ _ _ _ _ _ (@pt_cmpR _ _ _ _ _ _ _ _ (kop_in K) (pv 1) (@pe_tupN _ _ _ _ _ (@pa_cons _ _ _ _ _ (@pe_str _ _ _ _) (@pa_cons _ _ _ _ _ (@pe_str _ _ _ _) (@pa_nil _) (by rfl)) (by rfl))) (by with_unfolding_all rfl)) (@pss_one _ _ _ (@ps_ret _ _ _ _ (@pe_str _ _ _ _))) (@pss_nil _))
      (@pss_one _ _ _ (@ps_ret _ _ _ _ (pv 1))))), ?_⟩
    walk_at "go"
    refine ⟨_, rfl, ?_⟩
    walk_at "run"
    intro p7 H7 f7 s7 e7
    refine i_inT (ys := [Str.ofString "not", Str.ofString "and"]) (SqT.of e7) ?_
    walk_at "run"
    by_cases hm : wordF n ∈ [Str.ofString "not", Str.ofString "and"]
    · refine i_itDT hm ?_
      walk_at "run"
      have := q H7 s7
      rw [show fixN (wordF n) = Str.ofString "nota" from if_pos hm] at this
      exact this
    · refine i_itDF hm ?_
      walk_at "run"
      have := q H7 s7
      rw [show fixN (wordF n) = wordF n from if_neg hm] at this
      exact this
def sp_expr (K : PySem.W.Frag) (d : Nat) : Sp := fun vs H Q _ => ∃ (n deep : Int) (l : Addr) (ys : List Str), vs = [.int n, .int deep, .ref l] ∧ 0 ≤ deep ∧ deep.toNat < d ∧ SqL K H l (strsV ys) ∧ ys ≠ [] ∧ ys.length ≤ 1000 ∧
  ∀ (p : Addr) (v : V) H', Same H H' → H' p = some (.tup [v, .int (exprF ys deep.toNat n).2]) → (exprF ys deep.toNat n).1.At H' v → Q (.ref p) H'
theorem ok_law_expr (T : Txt K mg w.params t) : ∀ d : Nat, FnOk P w K mg base CX0 (d + 1) t.a__law_expr t.fd__law_expr ["number", "deep", "names"] (sp_expr K d) := by
  intro d
  induction d with
  | zero => exact vac (fun vs H Q E ⟨_, _, _, _, _, _, h, _⟩ => Nat.not_lt_zero _ h)
  | succ d G__law_expr =>
    refine T.F__law_expr.ok sc_law_expr (fun vs H Q E h => ?_) (fun cdv A outer s H vs Q E hr h => ?_)
    · obtain ⟨n, deep, l, ys, rfl, _⟩ := h
      rfl
    · obtain ⟨n, deep, l, ys, rfl, hd0, hd, hl, hy, hz, q⟩ := h
      have hlen : (strsV ys).length = ys.length := by simp [strsV]
      have hpos : 0 < ys.length := List.length_pos_iff.mpr hy
      refine ⟨_, (@pss_cons _ _ _ _ _ (@ps_set _ _ 3 _ _ _ _ sc_law_expr.nd rfl (by first | exact Or.inl rfl | exact Or.inr rfl) (@pe_op _ _ _ _ _ _ _ _ op_mod (pv 0) (@pe_int _ _ _ _)) (by rfl) (by first | exact Or.inl rfl | exact Or.inr rfl))
      (@pss_cons _ _ _ _ _ (@ps_set _ _ 0 _ _ _ _ sc_law_expr.nd rfl (by first | exact Or.inl rfl | exact Or.inr rfl) (@pe_op _ _ _ _ _ _ _ _ op_fdiv (pv 0) (@pe_int _ _ _ _)) (by rfl) (by first | exact Or.inl rfl | exact Or.inr rfl))
      (@pss_cons _ _ _ _ _ (@ps_if _ _ _ _ _ _ _ _ (@PW.pt _ _ _ (@pw_or _ _ _ _ _ _ _ (@pt_cmpR _ _ _ _ _ _ _ _ op_eq (pv 1) (@pe_int _ _ _ _) (nomark _)) (@pw_or1 _ _ _ _ (@pt_cmpR _ _ _ _ _ _ _ _ op_lt (pv 3) (@pe_int _ _ _ _) (nomark _))))) (@pss_cons _ _ _ _ _ (@ps_if _ _ _ _ _ _ _ _ (@pt_cmpR _ _ _ _ _ _ _ _ op_eq (@pe_op _ _ _ _ _ _ _ _ op_mod (pv 0) (@pe_int _ _ _ _)) (@pe_int _ _ _ _) (nomark _)) (@pss_one _ _ _ (@ps_ret _ _ _ _ (@pe_tupN _ _ _ _ _ (@pa_cons _ _ _ _ _ (@pe_tupN _ _ _ _ _ (@pa_cons _ _ _ _ _ (@pe_str _ _ _ _) (@pa_cons _ _ _ _ _ (@pe_op _ _ _ _ _ _ _ _ op_mod (@pe_op _ _ _ _ _ _ _ _ op_fdiv (pv 0) (@pe_int _ _ _ _)) (@pe_int _ _ _ _)) (@pa_nil _) (by rfl)) (by rfl))) (@pa_cons _ _ _ _ _ (@pe_op _ _ _ _ _ _ _ _ op_fdiv (pv 0) (@pe_int _ _ _ _)) (@pa_nil _) (by rfl)) (by rfl))))) (@pss_nil _))
        (@pss_one _ _ _ (@ps_ret _ _ _ _ (@pe_tupN _ _ _ _ _ (@pa_cons _ _ _ _ _ (@pe_tupN _ _ _ _ _ (@pa_cons _ _ _ _ _ (@pe_str _ _ _ _) (@pa_cons _ _ _ _ _ (@pe_ix _ _ _ _ _ _ _ (kix_list K) (pv 2) (@pe_op _ _ _ _ _ _ _ _ op_mod (@pe_op _ _ _ _ _ _ _ _ op_fdiv (pv 0) (@pe_int _ _ _ _)) (@pe_callB _ _ _ _ _ _ _ _ _ (kcl_len K) (by rfl) T.z_len bb_len (@pa_cons _ _ _ _ _ (pv 2) (@pa_nil _) (by rfl)) (by decide) (by decide) (by rfl) (by rfl))) (fun _ _ => rfl)) (@pa_nil _) (by rfl)) (by rfl))) (@pa_cons _ _ _ _ _ (@pe_op _ _ _ _ _ _ _ _ op_fdiv (@pe_op _ _ _ _ _ _ _ _ op_fdiv (pv 0) (@pe_int _ _ _ _)) (@pe_callB _ _ _ _ _ _ _ _ _ (kcl_len K) (by rfl) T.z_len bb_len (@pa_cons _ _ _ _ _ (pv 2) (@pa_nil _) (by rfl)) (by decide) (by decide) (by rfl) (by rfl))) (@pa_nil _) (by rfl)) (by rfl)))))) (@pss_nil _))
      (@pss_cons _ _ _ _ _ (@ps_asg _ _ _ _ _ _ (@pe_call _ _ _ _ _ _ _ _ _ _ _ _ _ _ _ _ G__law_expr (hr.mono (by omega)) rfl T.m__law_expr T.F__law_expr.kp T.b__law_expr .nil pass0 (@pa_cons _ _ _ _ _ (pv 0) (@pa_cons _ _ _ _ _ (@pe_op _ _ _ _ _ _ _ _ op_sub (pv 1) (@pe_int _ _ _ _)) (@pa_cons _ _ _ _ _ (pv 2) (@pa_nil _) (by rfl)) (by rfl)) (by rfl)) (by decide) (by rfl) (by rfl)) (kpg_tup K (n := 2) rfl (pgs_cons (pg_name (i := 4) sc_law_expr.nd rfl (by first | exact Or.inl rfl | exact Or.inr rfl)) (pgs_cons (pg_name (i := 0) sc_law_expr.nd rfl (by first | exact Or.inl rfl | exact Or.inr rfl)) (@pgs_nil _)))) (by rfl) (by rfl) (by rfl))
      (@pss_cons _ _ _ _ _ (@ps_asg _ _ _ _ _ _ (@pe_call _ _ _ _ _ _ _ _ _ _ _ _ _ _ _ _ G__law_expr (hr.mono (by omega)) rfl T.m__law_expr T.F__law_expr.kp T.b__law_expr .nil pass0 (@pa_cons _ _ _ _ _ (pv 0) (@pa_cons _ _ _ _ _ (@pe_op _ _ _ _ _ _ _ _ op_sub (pv 1) (@pe_int _ _ _ _)) (@pa_cons _ _ _ _ _ (pv 2) (@pa_nil _) (by rfl)) (by rfl)) (by rfl)) (by decide) (by rfl) (by rfl)) (kpg_tup K (n := 2) rfl (pgs_cons (pg_name (i := 5) sc_law_expr.nd rfl (by first | exact Or.inl rfl | exact Or.inr rfl)) (pgs_cons (pg_name (i := 0) sc_law_expr.nd rfl (by first | exact Or.inl rfl | exact Or.inr rfl)) (@pgs_nil _)))) (by rfl) (by rfl) (by rfl))
      (@pss_one _ _ _ (@ps_ret _ _ _ _ (@pe_tupN _ _ _ _ _ (@pa_cons _ _ _ _ _ (@pe_tupN _ _ _ _ _ (@pa_cons _ _ _ _ _ (@pe_ix _ _ _ _ _ _ _ (kix_list K) (@pe_lstN _ _ _ _ (@pa_cons _ _ _ _ _ (@pe_str _ _ _ _) (@pa_cons _ _ _ _ _ (@pe_str _ _ _ _) (@pa_nil _) (by rfl)) (by rfl))) (@pe_op _ _ _ _ _ _ _ _ op_sub (pv 3) (@pe_int _ _ _ _)) (fun _ _ => rfl)) (@pa_cons _ _ _ _ _ (pv 4) (@pa_cons _ _ _ _ _ (pv 5) (@pa_nil _) (by rfl)) (by rfl)) (by rfl))) (@pa_cons _ _ _ _ _ (pv 0) (@pa_nil _) (by rfl)) (by rfl)))))))))), ?_⟩
      walk_at "go"
      refine ite2 (fun h => ?_) (fun h => ?_)
      · have hx : exprF ys deep.toNat n = leafF ys (n / 4) := by
          have h' : deep = 0 := by simpa using h
          subst h'
          rfl
        rw [hx] at q
        walk_at "run"
        refine ite2 (fun h2 => ?_) (fun h2 => ?_)
        · have hx2 : leafF ys (n / 4) = (.num (n / 4 / 2 % 10), n / 4 / 20) := by
            unfold leafF
            rw [if_pos (by simpa using h2)]
          rw [hx2] at q
          walk_at "run"
          intro p1 H2 f1 s1 e1
          walk_at "run"
          intro p2 H3 f2 s2 e2
          exact q p2 (.ref p1) H3 (s1.trans s2) e2 ⟨p1, rfl, s2 _ _ e1⟩
        · have hx2 : leafF ys (n / 4) = (.box (atN ys (n / 4 / 2 % ys.length)), n / 4 / 2 / ys.length) := by
            unfold leafF
            rw [if_neg (by simpa using h2)]
          rw [hx2] at q
          walk_at "run"
          refine i_lenL hl ?_
          rw [hlen]
          refine i_rI (by omega) ?_
          refine i_ixL hl (atI_strs (mod_lt hy _).1 (mod_lt hy _).2) ?_
          walk_at "run"
          intro p1 H2 f1 s1 e1
          walk_at "run"
          refine i_lenL (s1.seq hl) ?_
          rw [hlen]
          refine i_rI ⟨by omega, by omega⟩ ?_
          walk_at "run"
          intro p2 H3 f2 s2 e2
          exact q p2 (.ref p1) H3 (s1.trans s2) e2 ⟨p1, rfl, s2 _ _ e1⟩
      · walk_at "run"
        refine ite2 (fun h1 => ?_) (fun h1 => ?_)
        · have hdd : deep.toNat = (deep - 1).toNat + 1 := by
            have : deep ≠ 0 := by simpa using h
            omega
          have hx : exprF ys deep.toNat n = leafF ys (n / 4) := by
            rw [hdd, exprF, if_pos (by simpa using h1)]
          rw [hx] at q
          walk_at "run"
          refine ite2 (fun h2 => ?_) (fun h2 => ?_)
          · have hx2 : leafF ys (n / 4) = (.num (n / 4 / 2 % 10), n / 4 / 20) := by
              unfold leafF
              rw [if_pos (by simpa using h2)]
            rw [hx2] at q
            walk_at "run"
            intro p1 H2 f1 s1 e1
            walk_at "run"
            intro p2 H3 f2 s2 e2
            exact q p2 (.ref p1) H3 (s1.trans s2) e2 ⟨p1, rfl, s2 _ _ e1⟩
          · have hx2 : leafF ys (n / 4) = (.box (atN ys (n / 4 / 2 % ys.length)), n / 4 / 2 / ys.length) := by
              unfold leafF
              rw [if_neg (by simpa using h2)]
            rw [hx2] at q
            walk_at "run"
            refine i_lenL hl ?_
            rw [hlen]
            refine i_rI (by omega) ?_
            refine i_ixL hl (atI_strs (mod_lt hy _).1 (mod_lt hy _).2) ?_
            walk_at "run"
            intro p1 H2 f1 s1 e1
            walk_at "run"
            refine i_lenL (s1.seq hl) ?_
            rw [hlen]
            refine i_rI ⟨by omega, by omega⟩ ?_
            walk_at "run"
            intro p2 H3 f2 s2 e2
            exact q p2 (.ref p1) H3 (s1.trans s2) e2 ⟨p1, rfl, s2 _ _ e1⟩
        · walk_at "run"
          have hdp : deep ≠ 0 := by simpa using h
          have hk : ¬ n % 4 < 2 := by simpa using h1
          have hdd : deep.toNat = (deep - 1).toNat + 1 := by omega
          have hx : exprF ys deep.toNat n = (.two (decide (n % 4 = 2)) (exprF ys (deep - 1).toNat (n / 4)).1 (exprF ys (deep - 1).toNat (exprF ys (deep - 1).toNat (n / 4)).2).1, (exprF ys (deep - 1).toNat (exprF ys (deep - 1).toNat (n / 4)).2).2) := by
            rw [hdd, exprF, if_neg hk]
          rw [hx] at q
          refine ⟨_, _, l, ys, rfl, by omega, by omega, hl, hy, hz, fun p1 v1 H1 s1 g1 a1 => ?_⟩
          refine i_asgT (SqT.of g1) rfl ?_
          walk_at "run"
          refine ⟨_, _, l, ys, rfl, by omega, by omega, s1.seq hl, hy, hz, fun p2 v2 H2 s2 g2 a2 => ?_⟩
          refine i_asgT (SqT.of g2) rfl ?_
          walk_at "run"
          intro p3 H3 f3 s3 g3
          walk_at "run"
          have hkk : n % 4 = 2 ∨ n % 4 = 3 := by omega
          refine i_ixL (v := .str (markS (decide (n % 4 = 2)))) (SqL.of g3) (by rcases hkk with e | e <;> rw [e] <;> rfl) ?_
          walk_at "run"
          intro p4 H4 f4 s4 g4
          walk_at "run"
          intro p5 H5 f5 s5 g5
          have t1 : Tups H1 H5 := (s2.trans (s3.trans (s4.trans s5))).tups
          have t2 : Tups H2 H5 := (s3.trans (s4.trans s5)).tups
          exact q p5 (.ref p4) H5 (s1.trans (s2.trans (s3.trans (s4.trans s5)))) g5 ⟨p4, v1, v2, rfl, s5 _ _ g4, a1.mono t1, a2.mono t2⟩
def sp_cond (K : PySem.W.Frag) (d : Nat) : Sp := fun vs H Q _ => ∃ (n deep : Int) (l : Addr) (ys : List Str), vs = [.int n, .int deep, .ref l] ∧ 0 ≤ deep ∧ deep.toNat < d ∧ SqL K H l (strsV ys) ∧ ys ≠ [] ∧ ys.length ≤ 1000 ∧
  ∀ (p : Addr) (v : V) H', Same H H' → H' p = some (.tup [v, .int (condF ys deep.toNat n).2]) → (condF ys deep.toNat n).1.At H' v → Q (.ref p) H'
theorem ok_law_cond (T : Txt K mg w.params t) : ∀ d : Nat, FnOk P w K mg base CX0 (d + 5) t.a__law_cond t.fd__law_cond ["number", "deep", "names"] (sp_cond K d) := by
  intro d
  induction d with
  | zero => exact vac (fun vs H Q E ⟨_, _, _, _, _, _, h, _⟩ => Nat.not_lt_zero _ h)
  | succ d G__law_cond =>
    have G__law_expr := ok_law_expr (P := P) (w := w) (base := base) T
    refine T.F__law_cond.ok sc_law_cond (fun vs H Q E h => ?_) (fun cdv A outer s H vs Q E hr h => ?_)
    · obtain ⟨n, deep, l, ys, rfl, _⟩ := h
      rfl
    · obtain ⟨n, deep, l, ys, rfl, hd0, hd, hl, hy, hz, q⟩ := h
      have G__law_expr := G__law_expr 4
      refine ⟨_, (@pss_cons _ _ _ _ _ (@ps_set _ _ 3 _ _ _ _ sc_law_cond.nd rfl (by first | exact Or.inl rfl | exact Or.inr rfl) (@pe_op _ _ _ _ _ _ _ _ op_mod (pv 0) (@pe_int _ _ _ _)) (by rfl) (by first | exact Or.inl rfl | exact Or.inr rfl))
      (@pss_cons _ _ _ _ _ (@ps_if _ _ _ _ _ _ _ _ (@PW.pt _ _ _ (@pw_and _ _ _ _ _ _ _ (@pt_cmpR _ _ _ _ _ _ _ _ op_gt (pv 1) (@pe_int _ _ _ _) (nomark _)) (@pw_and1 _ _ _ _ (@pt_cmpR _ _ _ _ _ _ _ _ op_gt (pv 3) (@pe_int _ _ _ _) (nomark _))))) (@pss_cons _ _ _ _ _ (@ps_asg _ _ _ _ _ _ (@pe_call _ _ _ _ _ _ _ _ _ _ _ _ _ _ _ _ G__law_cond (hr.mono (by omega)) rfl T.m__law_cond T.F__law_cond.kp T.b__law_cond .nil pass0 (@pa_cons _ _ _ _ _ (@pe_op _ _ _ _ _ _ _ _ op_fdiv (pv 0) (@pe_int _ _ _ _)) (@pa_cons _ _ _ _ _ (@pe_op _ _ _ _ _ _ _ _ op_sub (pv 1) (@pe_int _ _ _ _)) (@pa_cons _ _ _ _ _ (pv 2) (@pa_nil _) (by rfl)) (by rfl)) (by rfl)) (by decide) (by rfl) (by rfl)) (kpg_tup K (n := 2) rfl (pgs_cons (pg_name (i := 4) sc_law_cond.nd rfl (by first | exact Or.inl rfl | exact Or.inr rfl)) (pgs_cons (pg_name (i := 0) sc_law_cond.nd rfl (by first | exact Or.inl rfl | exact Or.inr rfl)) (@pgs_nil _)))) (by rfl) (by rfl) (by rfl))
        (@pss_cons _ _ _ _ _ (@ps_if _ _ _ _ _ _ _ _ (@pt_cmpR _ _ _ _ _ _ _ _ op_eq (pv 3) (@pe_int _ _ _ _) (nomark _)) (@pss_one _ _ _ (@ps_ret _ _ _ _ (@pe_tupN _ _ _ _ _ (@pa_cons _ _ _ _ _ (@pe_tupN _ _ _ _ _ (@pa_cons _ _ _ _ _ (@pe_str _ _ _ _) (@pa_cons _ _ _ _ _ (pv 4) (@pa_nil _) (by rfl)) (by rfl))) (@pa_cons _ _ _ _ _ (pv 0) (@pa_nil _) (by rfl)) (by rfl))))) (@pss_nil _))
        (@pss_cons _ _ _ _ _ (@ps_asg _ _ _ _ _ _ (@pe_call _ _ _ _ _ _ _ _ _ _ _ _ _ _ _ _ G__law_cond (hr.mono (by omega)) rfl T.m__law_cond T.F__law_cond.kp T.b__law_cond .nil pass0 (@pa_cons _ _ _ _ _ (pv 0) (@pa_cons _ _ _ _ _ (@pe_op _ _ _ _ _ _ _ _ op_sub (pv 1) (@pe_int _ _ _ _)) (@pa_cons _ _ _ _ _ (pv 2) (@pa_nil _) (by rfl)) (by rfl)) (by rfl)) (by decide) (by rfl) (by rfl)) (kpg_tup K (n := 2) rfl (pgs_cons (pg_name (i := 5) sc_law_cond.nd rfl (by first | exact Or.inl rfl | exact Or.inr rfl)) (pgs_cons (pg_name (i := 0) sc_law_cond.nd rfl (by first | exact Or.inl rfl | exact Or.inr rfl)) (@pgs_nil _)))) (by rfl) (by rfl) (by rfl))
        (@pss_one _ _ _ (@ps_ret _ _ _ _ (@pe_tupN _ _ _ _ _ (@pa_cons _ _ _ _ _ (@pe_tupN _ _ _ _ _ (@pa_cons _ _ _ _ _ (@pe_str _ _ _ _) (@pa_cons _ _ _ _ _ (pv 4) (@pa_cons _ _ _ _ _ (pv 5) (@pa_nil _) (by rfl)) (by rfl)) (by rfl))) (@pa_cons _ _ _ _ _ (pv 0) (@pa_nil _) (by rfl)) (by rfl)))))))) (@pss_nil _))
      (@pss_cons _ _ _ _ _ (@ps_asg _ _ _ _ _ _ (@pe_call _ _ _ _ _ _ _ _ _ _ _ _ _ _ _ _ G__law_expr (hr.mono (by omega)) rfl T.m__law_expr T.F__law_expr.kp T.b__law_expr .nil pass0 (@pa_cons _ _ _ _ _ (@pe_op _ _ _ _ _ _ _ _ op_fdiv (pv 0) (@pe_int _ _ _ _)) (@pa_cons _ _ _ _ _ (@pe_int _ _ _ _) (@pa_cons _ _ _ _ _ (pv 2) (@pa_nil _) (by rfl)) (by rfl)) (by rfl)) (by decide) (by rfl) (by rfl)) (kpg_tup K (n := 2) rfl (pgs_cons (pg_name (i := 4) sc_law_cond.nd rfl (by first | exact Or.inl rfl | exact Or.inr rfl)) (pgs_cons (pg_name (i := 0) sc_law_cond.nd rfl (by first | exact Or.inl rfl | exact Or.inr rfl)) (@pgs_nil _)))) (by rfl) (by rfl) (by rfl))
      (@pss_cons _ _ _ _ _ (@ps_asg _ _ _ _ _ _ (@pe_call _ _ _ _ _ _ _ _ _ _ _ _ _ _ _ _ G__law_expr (hr.mono (by omega)) rfl T.m__law_expr T.F__law_expr.kp T.b__law_expr .nil pass0 (@pa_cons _ _ _ _ _ (pv 0) (@pa_cons _ _ _ _ _ (@pe_int _ _ _ _) (@pa_cons _ _ _ _ _ (pv 2) (@pa_nil _) (by rfl)) (by rfl)) (by rfl)) (by decide) (by rfl) (by rfl)) (kpg_tup K (n := 2) rfl (pgs_cons (pg_name (i := 5) sc_law_cond.nd rfl (by first | exact Or.inl rfl | exact Or.inr rfl)) (pgs_cons (pg_name (i := 0) sc_law_cond.nd rfl (by first | exact Or.inl rfl | exact Or.inr rfl)) (@pgs_nil _)))) (by rfl) (by rfl) (by rfl))
      (@pss_one _ _ _ (@ps_ret _ _ _ _ (@pe_tupN _ _ _ _ _ (@pa_cons _ _ _ _ _ (@pe_tupN _ _ _ _ _ (@pa_cons _ _ _ _ _ (@pe_ix _ _ _ _ _ _ _ (kix_list K) (@pe_lstN _ _ _ _ (@pa_cons _ _ _ _ _ (@pe_str _ _ _ _) (@pa_cons _ _ _ _ _ (@pe_str _ _ _ _) (@pa_nil _) (by rfl)) (by rfl))) (@pe_op _ _ _ _ _ _ _ _ op_mod (pv 3) (@pe_int _ _ _ _)) (fun _ _ => rfl)) (@pa_cons _ _ _ _ _ (pv 4) (@pa_cons _ _ _ _ _ (pv 5) (@pa_nil _) (by rfl)) (by rfl)) (by rfl))) (@pa_cons _ _ _ _ _ (pv 0) (@pa_nil _) (by rfl)) (by rfl))))))))), ?_⟩
      walk_at "go"
      refine ite2 (fun h => ?_) (fun h => ?_)
      · walk_at "run"
        have hdp : 0 < deep := by simpa using h
        have hdd : deep.toNat = (deep - 1).toNat + 1 := by omega
        refine ite2 (fun h1 => ?_) (fun h1 => ?_)
        · have hk : 1 < n % 4 := by simpa using h1
          walk_at "run"
          refine ⟨_, _, l, ys, rfl, by omega, by omega, hl, hy, hz, fun p1 v1 H1 s1 g1 a1 => ?_⟩
          refine i_asgT (SqT.of g1) rfl ?_
          walk_at "run"
          refine ite2 (fun h2 => ?_) (fun h2 => ?_)
          · have hx : condF ys deep.toNat n = (.nt (condF ys (deep - 1).toNat (n / 4)).1, (condF ys (deep - 1).toNat (n / 4)).2) := by
              rw [hdd, condF, if_pos hk, if_pos (by simpa using h2)]
            rw [hx] at q
            walk_at "run"
            intro p2 H2 f2 s2 g2
            walk_at "run"
            intro p3 H3 f3 s3 g3
            exact q p3 (.ref p2) H3 (s1.trans (s2.trans s3)) g3 ⟨p2, v1, rfl, s3 _ _ g2, a1.mono (s2.trans s3).tups⟩
          · have hx : condF ys deep.toNat n = (.both (condF ys (deep - 1).toNat (n / 4)).1 (condF ys (deep - 1).toNat (condF ys (deep - 1).toNat (n / 4)).2).1, (condF ys (deep - 1).toNat (condF ys (deep - 1).toNat (n / 4)).2).2) := by
              rw [hdd, condF, if_pos hk, if_neg (by simpa using h2)]
            rw [hx] at q
            walk_at "run"
            refine ⟨_, _, l, ys, rfl, by omega, by omega, s1.seq hl, hy, hz, fun p2 v2 H2 s2 g2 a2 => ?_⟩
            refine i_asgT (SqT.of g2) rfl ?_
            walk_at "run"
            intro p3 H3 f3 s3 g3
            walk_at "run"
            intro p4 H4 f4 s4 g4
            exact q p4 (.ref p3) H4 (s1.trans (s2.trans (s3.trans s4))) g4 ⟨p3, v1, v2, rfl, s4 _ _ g3, a1.mono (s2.trans (s3.trans s4)).tups, a2.mono (s3.trans s4).tups⟩
        · have hx : condF ys deep.toNat n = cmpF ys n := by
            rw [hdd, condF, if_neg (by simpa using h1)]
          rw [hx] at q
          walk_at "run"
          unfold cmpF at q
          refine ⟨_, _, l, ys, rfl, by decide, by decide, hl, hy, hz, fun p1 v1 H1 s1 g1 a1 => ?_⟩
          refine i_asgT (SqT.of g1) rfl ?_
          walk_at "run"
          refine ⟨_, _, l, ys, rfl, by decide, by decide, s1.seq hl, hy, hz, fun p2 v2 H2 s2 g2 a2 => ?_⟩
          refine i_asgT (SqT.of g2) rfl ?_
          walk_at "run"
          intro p3 H3 f3 s3 g3
          walk_at "run"
          have hkk : n % 4 % 2 = 0 ∨ n % 4 % 2 = 1 := by omega
          refine i_ixL (v := .str (markC (decide (n % 4 % 2 = 0)))) (SqL.of g3) (by rcases hkk with e | e <;> rw [e] <;> rfl) ?_
          walk_at "run"
          intro p4 H4 f4 s4 g4
          walk_at "run"
          intro p5 H5 f5 s5 g5
          have t1 : Tups H1 H5 := (s2.trans (s3.trans (s4.trans s5))).tups
          have t2 : Tups H2 H5 := (s3.trans (s4.trans s5)).tups
          exact q p5 (.ref p4) H5 (s1.trans (s2.trans (s3.trans (s4.trans s5)))) g5 ⟨p4, v1, v2, rfl, s5 _ _ g4, a1.mono t1, a2.mono t2⟩
      · have hx : condF ys deep.toNat n = cmpF ys n := by
          have h' : deep = 0 := by
            have : ¬ 0 < deep := by simpa using h
            omega
          subst h'
          rfl
        rw [hx] at q
        walk_at "run"
        unfold cmpF at q
        refine ⟨_, _, l, ys, rfl, by decide, by decide, hl, hy, hz, fun p1 v1 H1 s1 g1 a1 => ?_⟩
        refine i_asgT (SqT.of g1) rfl ?_
        walk_at "run"
        refine ⟨_, _, l, ys, rfl, by decide, by decide, s1.seq hl, hy, hz, fun p2 v2 H2 s2 g2 a2 => ?_⟩
        refine i_asgT (SqT.of g2) rfl ?_
        walk_at "run"
        intro p3 H3 f3 s3 g3
        walk_at "run"
        have hkk : n % 4 % 2 = 0 ∨ n % 4 % 2 = 1 := by omega
        refine i_ixL (v := .str (markC (decide (n % 4 % 2 = 0)))) (SqL.of g3) (by rcases hkk with e | e <;> rw [e] <;> rfl) ?_
        walk_at "run"
        intro p4 H4 f4 s4 g4
        walk_at "run"
        intro p5 H5 f5 s5 g5
        have t1 : Tups H1 H5 := (s2.trans (s3.trans (s4.trans s5))).tups
        have t2 : Tups H2 H5 := (s3.trans (s4.trans s5)).tups
        exact q p5 (.ref p4) H5 (s1.trans (s2.trans (s3.trans (s4.trans s5)))) g5 ⟨p4, v1, v2, rfl, s5 _ _ g4, a1.mono t1, a2.mono t2⟩
theorem pts_ats {H : Hp} : ∀ ps : List Pt, Tr.Ats H (ps.map Pt.tr) (ps.map Pt.v) []
  | [] => by simp [Tr.Ats]
  | p :: ps => by
    simp only [List.map_cons, Tr.Ats]
    refine ⟨_, _, [], [], rfl, rfl, ?_, pts_ats ps⟩
    cases p <;> simp [Pt.tr, Pt.v, Tr.At]
theorem pts_at {H : Hp} {a : Addr} {ps : List Pt} (h : H a = some (.tup (ps.map Pt.v))) : (Tr.tup (ps.map Pt.tr)).At H (.ref a) [] := by
  simp only [Tr.At]
  exact ⟨a, _, rfl, h, pts_ats ps⟩
def sp_pat (K : PySem.W.Frag) : Sp := fun vs H Q _ => ∃ (n : Int), vs = [.int n] ∧ ∀ (p : Addr) H', Same H H' → H' p = some (.tup ((patF n).map Pt.v)) → Q (.ref p) H'
theorem ok_law_pattern (T : Txt K mg w.params t) : FnOk P w K mg base CX0 2 t.a__law_pattern t.fd__law_pattern ["number"] (sp_pat K) := by
  have G__law_word := ok_law_word (P := P) (w := w) (base := base) T
  refine T.F__law_pattern.ok sc_law_pattern (fun vs H Q E h => ?_) (fun cdv A outer s H vs Q E hr h => ?_)
  · obtain ⟨n, rfl, _⟩ := h
    rfl
  · obtain ⟨n, rfl, q⟩ := h
    refine ⟨_, (@pss_cons _ _ _ _ _ (@ps_set _ _ 1 _ _ _ _ sc_law_pattern.nd rfl (by first | exact Or.inl rfl | exact Or.inr rfl) (@pe_lstN _ _ _ _ (@pa_cons _ _ _ _ _ (@pe_tupN _ _ _ _ _ (@pa_cons _ _ _ _ _ (@pe_str _ _ _ _) (@pa_cons _ _ _ _ _ (@pe_op _ _ _ _ _ _ _ _ op_mod (@pe_op _ _ _ _ _ _ _ _ op_fdiv (pv 0) (@pe_int _ _ _ _)) (@pe_int _ _ _ _)) (@pa_nil _) (by rfl)) (by rfl))) (@pa_cons _ _ _ _ _ (@pe_tupN _ _ _ _ _ (@pa_cons _ _ _ _ _ (@pe_str _ _ _ _) (@pa_cons _ _ _ _ _ (@pe_call _ _ _ _ _ _ _ _ _ _ _ _ _ _ _ _ G__law_word (hr.mono (by omega)) rfl T.m__law_word T.F__law_word.kp T.b__law_word .nil pass0 (@pa_cons _ _ _ _ _ (@pe_op _ _ _ _ _ _ _ _ op_fdiv (pv 0) (@pe_int _ _ _ _)) (@pa_nil _) (by rfl)) (by decide) (by rfl) (by rfl)) (@pa_nil _) (by rfl)) (by rfl))) (@pa_cons _ _ _ _ _ (@pe_tupN _ _ _ _ _ (@pa_cons _ _ _ _ _ (@pe_str _ _ _ _) (@pa_nil _) (by rfl))) (@pa_cons _ _ _ _ _ (@pe_tupN _ _ _ _ _ (@pa_cons _ _ _ _ _ (@pe_str _ _ _ _) (@pa_nil _) (by rfl))) (@pa_nil _) (by rfl)) (by rfl)) (by rfl)) (by rfl))) (by rfl) (by first | exact Or.inl rfl | exact Or.inr rfl))
      (@pss_one _ _ _ (@ps_ret _ _ _ _ (@pe_ix _ _ _ _ _ _ _ (kix_list K) (pv 1) (@pe_op _ _ _ _ _ _ _ _ op_mod (pv 0) (@pe_int _ _ _ _)) (fun _ _ => rfl))))), ?_⟩
    walk_at "go"
    intro p1 H1 f1 s1 e1
    walk_at "run"
    refine ⟨_, rfl, ?_⟩
    walk_at "run"
    intro p2 H2 f2 s2 e2
    walk_at "run"
    intro p3 H3 f3 s3 e3
    walk_at "run"
    intro p4 H4 f4 s4 e4
    walk_at "run"
    intro p5 H5 f5 s5 e5
    walk_at "run"
    have hk : n % 4 = 0 ∨ n % 4 = 1 ∨ n % 4 = 2 ∨ n % 4 = 3 := by omega
    have s05 := s1.trans (s2.trans (s3.trans (s4.trans s5)))
    unfold patF at q
    rcases hk with hk | hk | hk | hk
    · rw [if_pos hk] at q
      refine i_ixL (SqL.of e5) (v := .ref p1) (by rw [hk]; rfl) ?_
      exact q p1 H5 s05 (s5 _ _ (s4 _ _ (s3 _ _ (s2 _ _ e1))))
    · rw [if_neg (by omega), if_pos hk] at q
      refine i_ixL (SqL.of e5) (v := .ref p2) (by rw [hk]; rfl) ?_
      exact q p2 H5 s05 (s5 _ _ (s4 _ _ (s3 _ _ e2)))
    · rw [if_neg (by omega), if_neg (by omega), if_pos hk] at q
      refine i_ixL (SqL.of e5) (v := .ref p3) (by rw [hk]; rfl) ?_
      exact q p3 H5 s05 (s5 _ _ (s4 _ _ e3))
    · rw [if_neg (by omega), if_neg (by omega), if_neg (by omega)] at q
      refine i_ixL (SqL.of e5) (v := .ref p4) (by rw [hk]; rfl) ?_
      exact q p4 H5 s05 (s5 _ _ e4)
def sp_plain (K : PySem.W.Frag) : Sp := fun vs H Q _ => ∃ (way n : Int) (l : Addr) (ys : List Str), vs = [.int way, .int n, .ref l] ∧ 0 ≤ way ∧ way < 8 ∧ SqL K H l (strsV ys) ∧ ys ≠ [] ∧ ys.length ≤ 1000 ∧
  ∀ (v : V) H', Same H H' → (plainF ys way n).tr.At H' v [] → Q v H'
theorem ok_law_plain (T : Txt K mg w.params t) : FnOk P w K mg base CX0 7 t.a__law_plain t.fd__law_plain ["way", "number", "names"] (sp_plain K) := by
  have G__law_expr := ok_law_expr (P := P) (w := w) (base := base) T
  have G__law_word := ok_law_word (P := P) (w := w) (base := base) T
  refine T.F__law_plain.ok sc_law_plain (fun vs H Q E h => ?_) (fun cdv A outer s H vs Q E hr h => ?_)
  · obtain ⟨way, n, l, ys, rfl, _⟩ := h
    rfl
  · obtain ⟨way, n, l, ys, rfl, hw0, hw8, hl, hy, hz, q⟩ := h
    have hlen : (strsV ys).length = ys.length := by simp [strsV]
    have hpos : 0 < ys.length := List.length_pos_iff.mpr hy
    have G__law_expr := G__law_expr 5
    refine ⟨_, (@pss_cons _ _ _ _ _ (@ps_if _ _ _ _ _ _ _ _ (@pt_cmpR _ _ _ _ _ _ _ _ op_eq (pv 0) (@pe_int _ _ _ _) (nomark _)) (@pss_one _ _ _ (@ps_ret _ _ _ _ (@pe_tupN _ _ _ _ _ (@pa_cons _ _ _ _ _ (@pe_str _ _ _ _) (@pa_cons _ _ _ _ _ (@pe_call _ _ _ _ _ _ _ _ _ _ _ _ _ _ _ _ G__law_word (hr.mono (by omega)) rfl T.m__law_word T.F__law_word.kp T.b__law_word .nil pass0 (@pa_cons _ _ _ _ _ (pv 1) (@pa_nil _) (by rfl)) (by decide) (by rfl) (by rfl)) (@pa_nil _) (by rfl)) (by rfl))))) (@pss_nil _))
      (@pss_cons _ _ _ _ _ (@ps_if _ _ _ _ _ _ _ _ (@pt_cmpR _ _ _ _ _ _ _ _ op_eq (pv 0) (@pe_int _ _ _ _) (nomark _)) (@pss_one _ _ _ (@ps_ret _ _ _ _ (@pe_tupN _ _ _ _ _ (@pa_cons _ _ _ _ _ (@pe_str _ _ _ _) (@pa_cons _ _ _ _ _ (@pe_op _ _ _ _ _ _ _ _ op_mod (pv 1) (@pe_int _ _ _ _)) (@pa_cons _ _ _ _ _ (@pe_call _ _ _ _ _ _ _ _ _ _ _ _ _ _ _ _ G__law_word (hr.mono (by omega)) rfl T.m__law_word T.F__law_word.kp T.b__law_word .nil pass0 (@pa_cons _ _ _ _ _ (@pe_op _ _ _ _ _ _ _ _ op_fdiv (pv 1) (@pe_int _ _ _ _)) (@pa_nil _) (by rfl)) (by decide) (by rfl) (by rfl)) (@pa_nil _) (by rfl)) (by rfl)) (by rfl))))) (@pss_nil _))
      (@pss_cons _ _ _ _ _ (@ps_if _ _ _ _ _ _ _ _ (@pt_cmpR _ _ _ _ _ _ _ _ op_eq (pv 0) (@pe_int _ _ _ _) (nomark _)) (@pss_one _ _ _ (@ps_ret _ _ _ _ (@pe_tupN _ _ _ _ _ (@pa_cons _ _ _ _ _ (@pe_str _ _ _ _) (@pa_cons _ _ _ _ _ (@pe_ix _ _ _ _ _ _ _ (kix_list K) (pv 2) (@pe_op _ _ _ _ _ _ _ _ op_mod (pv 1) (@pe_callB _ _ _ _ _ _ _ _ _ (kcl_len K) (by rfl) T.z_len bb_len (@pa_cons _ _ _ _ _ (pv 2) (@pa_nil _) (by rfl)) (by decide) (by decide) (by rfl) (by rfl))) (fun _ _ => rfl)) (@pa_cons _ _ _ _ _ (@pe_ix _ _ _ _ _ _ _ (kix_tup K) (@pe_call _ _ _ _ _ _ _ _ _ _ _ _ _ _ _ _ G__law_expr (hr.mono (by omega)) rfl T.m__law_expr T.F__law_expr.kp T.b__law_expr .nil pass0 (@pa_cons _ _ _ _ _ (@pe_op _ _ _ _ _ _ _ _ op_fdiv (pv 1) (@pe_callB _ _ _ _ _ _ _ _ _ (kcl_len K) (by rfl) T.z_len bb_len (@pa_cons _ _ _ _ _ (pv 2) (@pa_nil _) (by rfl)) (by decide) (by decide) (by rfl) (by rfl))) (@pa_cons _ _ _ _ _ (@pe_int _ _ _ _) (@pa_cons _ _ _ _ _ (pv 2) (@pa_nil _) (by rfl)) (by rfl)) (by rfl)) (by decide) (by rfl) (by rfl)) (@pe_int _ _ _ _) (fun _ _ => rfl)) (@pa_nil _) (by rfl)) (by rfl)) (by rfl))))) (@pss_nil _))
      (@pss_cons _ _ _ _ _ (@ps_if _ _ _ _ _ _ _ _ (@pt_cmpR _ _ _ _ _ _ _ _ op_eq (pv 0) (@pe_int _ _ _ _) (nomark _)) (@pss_one _ _ _ (@ps_ret _ _ _ _ (@pe_tupN _ _ _ _ _ (@pa_cons _ _ _ _ _ (@pe_str _ _ _ _) (@pa_cons _ _ _ _ _ (@pe_call _ _ _ _ _ _ _ _ _ _ _ _ _ _ _ _ G__law_word (hr.mono (by omega)) rfl T.m__law_word T.F__law_word.kp T.b__law_word .nil pass0 (@pa_cons _ _ _ _ _ (pv 1) (@pa_nil _) (by rfl)) (by decide) (by rfl) (by rfl)) (@pa_nil _) (by rfl)) (by rfl))))) (@pss_nil _))
      (@pss_one _ _ _ (@ps_ret _ _ _ _ (@pe_ix _ _ _ _ _ _ _ (kix_list K) (@pe_lstN _ _ _ _ (@pa_cons _ _ _ _ _ (@pe_tupN _ _ _ _ _ (@pa_cons _ _ _ _ _ (@pe_str _ _ _ _) (@pa_nil _) (by rfl))) (@pa_cons _ _ _ _ _ (@pe_tupN _ _ _ _ _ (@pa_cons _ _ _ _ _ (@pe_str _ _ _ _) (@pa_nil _) (by rfl))) (@pa_cons _ _ _ _ _ (@pe_tupN _ _ _ _ _ (@pa_cons _ _ _ _ _ (@pe_str _ _ _ _) (@pa_nil _) (by rfl))) (@pa_cons _ _ _ _ _ (@pe_tupN _ _ _ _ _ (@pa_cons _ _ _ _ _ (@pe_str _ _ _ _) (@pa_nil _) (by rfl))) (@pa_nil _) (by rfl)) (by rfl)) (by rfl)) (by rfl))) (@pe_op _ _ _ _ _ _ _ _ op_sub (pv 0) (@pe_int _ _ _ _)) (fun _ _ => rfl)))))))), ?_⟩
    unfold plainF at q
    walk_at "go"
    refine ite2 (fun h => ?_) (fun h => ?_)
    · rw [if_pos (by simpa using h)] at q
      walk_at "run"
      refine ⟨_, rfl, ?_⟩
      walk_at "run"
      intro p1 H1 f1 s1 e1
      exact q (.ref p1) H1 s1 (by simp only [Stm.tr]; exact pts_at e1)
    have h0 : way ≠ 0 := by simpa using h
    rw [if_neg h0] at q
    walk_at "run"
    refine ite2 (fun h => ?_) (fun h => ?_)
    · rw [if_pos (by simpa using h)] at q
      walk_at "run"
      refine ⟨_, rfl, ?_⟩
      walk_at "run"
      intro p1 H1 f1 s1 e1
      exact q (.ref p1) H1 s1 (by simp only [Stm.tr]; exact pts_at e1)
    have h1 : way ≠ 1 := by simpa using h
    rw [if_neg h1] at q
    walk_at "run"
    refine ite2 (fun h => ?_) (fun h => ?_)
    · rw [if_pos (by simpa using h)] at q
      walk_at "run"
      refine i_lenL hl ?_
      rw [hlen]
      refine i_rI (by omega) ?_
      refine i_ixL hl (atI_strs (mod_lt hy n).1 (mod_lt hy n).2) ?_
      walk_at "run"
      refine i_lenL hl ?_
      rw [hlen]
      refine i_rI ⟨by omega, by omega⟩ ?_
      walk_at "run"
      refine ⟨_, _, l, ys, rfl, by decide, by decide, hl, hy, hz, fun p1 v1 H1 s1 g1 a1 => ?_⟩
      walk_at "run"
      refine i_ixT (SqT.of g1) (atI_nat (j := 0) rfl) ?_
      walk_at "run"
      intro p2 H2 f2 s2 e2
      refine q (.ref p2) H2 (s1.trans s2) ?_
      simp only [Stm.tr, Tr.At, Tr.Ats]
      exact ⟨p2, _, rfl, e2, _, _, [], [], rfl, rfl, ⟨rfl, rfl⟩, _, _, [], [], rfl, rfl, ⟨rfl, rfl⟩, _, _, [], [], rfl, rfl, Ex.to_tr (a1.mono s2.tups), rfl, rfl⟩
    have h2 : way ≠ 2 := by simpa using h
    rw [if_neg h2] at q
    walk_at "run"
    refine ite2 (fun h => ?_) (fun h => ?_)
    · rw [if_pos (by simpa using h)] at q
      walk_at "run"
      refine ⟨_, rfl, ?_⟩
      walk_at "run"
      intro p1 H1 f1 s1 e1
      exact q (.ref p1) H1 s1 (by simp only [Stm.tr]; exact pts_at e1)
    have h3 : way ≠ 3 := by simpa using h
    rw [if_neg h3] at q
    walk_at "run"
    intro p1 H1 f1 s1 e1
    walk_at "run"
    intro p2 H2 f2 s2 e2
    walk_at "run"
    intro p3 H3 f3 s3 e3
    walk_at "run"
    intro p4 H4 f4 s4 e4
    walk_at "run"
    intro p5 H5 f5 s5 e5
    walk_at "run"
    have s05 := s1.trans (s2.trans (s3.trans (s4.trans s5)))
    have hk : way = 4 ∨ way = 5 ∨ way = 6 ∨ way = 7 := by omega
    rcases hk with rfl | rfl | rfl | rfl
    · rw [if_pos rfl] at q
      refine i_ixL (SqL.of e5) (v := .ref p1) rfl ?_
      exact q (.ref p1) H5 s05 (by simp only [Stm.tr]; exact pts_at (s5 _ _ (s4 _ _ (s3 _ _ (s2 _ _ e1)))))
    · rw [if_neg (by decide), if_pos rfl] at q
      refine i_ixL (SqL.of e5) (v := .ref p2) rfl ?_
      exact q (.ref p2) H5 s05 (by simp only [Stm.tr]; exact pts_at (s5 _ _ (s4 _ _ (s3 _ _ e2))))
    · rw [if_neg (by decide), if_neg (by decide), if_pos rfl] at q
      refine i_ixL (SqL.of e5) (v := .ref p3) rfl ?_
      exact q (.ref p3) H5 s05 (by simp only [Stm.tr]; exact pts_at (s5 _ _ (s4 _ _ e3)))
    · rw [if_neg (by decide), if_neg (by decide), if_neg (by decide)] at q
      refine i_ixL (SqL.of e5) (v := .ref p4) rfl ?_
      exact q (.ref p4) H5 s05 (by simp only [Stm.tr]; exact pts_at (s5 _ _ e4))
section
variable {H : Hp} {x y z w2 : Tr} {u v s1 s2 : V} {f g h k : List Addr} {p l : Addr}
theorem at_str {s : Str} : (Tr.str s).At H (.str s) [] := by simp [Tr.At]
theorem at_tup2 (hx : x.At H u f) (hy : y.At H v g) (e : H p = some (.tup [u, v])) : (Tr.tup [x, y]).At H (.ref p) (f ++ (g ++ [])) := by
  simp only [Tr.At, Tr.Ats]
  exact ⟨p, _, rfl, e, u, [v], f, g ++ [], rfl, rfl, hx, v, [], g, [], rfl, rfl, hy, rfl, rfl⟩
theorem at_tup3 (hx : x.At H u f) (hy : y.At H v g) (hz : z.At H s1 h) (e : H p = some (.tup [u, v, s1])) : (Tr.tup [x, y, z]).At H (.ref p) (f ++ (g ++ (h ++ []))) := by
  simp only [Tr.At, Tr.Ats]
  exact ⟨p, _, rfl, e, u, _, f, _, rfl, rfl, hx, v, _, g, _, rfl, rfl, hy, s1, [], h, [], rfl, rfl, hz, rfl, rfl⟩
theorem at_tup4 (hx : x.At H u f) (hy : y.At H v g) (hz : z.At H s1 h) (hw : w2.At H s2 k) (e : H p = some (.tup [u, v, s1, s2])) : (Tr.tup [x, y, z, w2]).At H (.ref p) (f ++ (g ++ (h ++ (k ++ [])))) := by
  simp only [Tr.At, Tr.Ats]
  exact ⟨p, _, rfl, e, u, _, f, _, rfl, rfl, hx, v, _, g, _, rfl, rfl, hy, s1, _, h, _, rfl, rfl, hz, s2, [], k, [], rfl, rfl, hw, rfl, rfl⟩
theorem at_lst {b : List Tr} {us : List V} {gs : List Addr} (e : H l = some (.lst us)) (h : Tr.Ats H b us gs) : (Tr.lst b).At H (.ref l) (l :: gs) := by
  simp only [Tr.At]
  exact ⟨l, us, gs, rfl, e, h, rfl⟩
end
theorem kinds5 (k : Str) : k = "talk" ∨ k = "wait" ∨ k = "else" ∨ k = "if" ∨ (k ≠ "talk" ∧ k ≠ "wait" ∧ k ≠ "else" ∧ k ≠ "if") := by
  by_cases h1 : k = "talk"
  · exact .inl h1
  by_cases h2 : k = "wait"
  · exact .inr (.inl h2)
  by_cases h3 : k = "else"
  · exact .inr (.inr (.inl h3))
  by_cases h4 : k = "if"
  · exact .inr (.inr (.inr (.inl h4)))
  exact .inr (.inr (.inr (.inr ⟨h1, h2, h3, h4⟩)))
theorem told_other {k : Str} {w : Tr} {b f : List Tr} (h1 : k ≠ "talk") (h2 : k ≠ "wait") (h3 : k ≠ "else") (h4 : k ≠ "if") : toldK k w b f = .tup [.str "loop", .lst b] := by
  unfold toldK
  rw [if_neg h1, if_neg h2, if_neg h3, if_neg h4]
theorem lt_line {n : Nat} (h : n < 1000000) : n < sizeLine := Nat.lt_of_lt_of_le h (le_line (Nat.le_refl _))
theorem nd_swap {L fw gs hs : List Addr} {a l m : Addr} (h : (L ++ ((a :: (fw ++ (l :: gs ++ m :: hs))) ++ [])).Nodup) : (L ++ (([] ++ (fw ++ ((m :: hs) ++ ((l :: gs) ++ [])))) ++ [])).Nodup := by
  have h2 : (L ++ ((fw ++ (l :: gs ++ m :: hs)) ++ [])).Nodup := by grind
  refine (List.Perm.nodup_iff (List.perm_iff_count.mpr fun c => ?_)).mp h2
  simp only [List.count_cons, List.count_append, List.count_nil]
  omega
theorem nd_new {L fw gs hs : List Addr} {a l m q : Addr} (h : (L ++ (q :: ((a :: (fw ++ (l :: gs ++ m :: hs))) ++ []))).Nodup) : (L ++ (([] ++ (fw ++ ((l :: gs) ++ ((q :: []) ++ [])))) ++ [])).Nodup := by
  have h2 : (L ++ (q :: (fw ++ (l :: gs)))).Nodup := by grind
  refine (List.Perm.nodup_iff (List.perm_iff_count.mpr fun c => ?_)).mp h2
  simp only [List.count_cons, List.count_append, List.count_nil]
  omega
def sp_close (K : PySem.W.Frag) : Sp := fun vs H Q _ => ∃ (P : Addr) (H0 : Hp) (p : List L2.Frame), vs = [.ref P] ∧ PSX H0 H P p [] ∧ 2 ≤ p.length ∧ (kindU p = "on" → 3 ≤ p.length) ∧ (∀ f ∈ p, f.body.length ≤ 1000) ∧ ∀ H', PSX H0 H' P (closeU p) [] → Q .non H'
theorem ok_law_close (T : Txt K mg w.params t) : FnOk P w K mg base CX0 1 t.a__law_close t.fd__law_close ["pile"] (sp_close K) := by
  refine T.F__law_close.ok sc_law_close (fun vs H Q E h => ?_) (fun cdv A outer s H vs Q E hr h => ?_)
  · obtain ⟨P, H0, p, rfl, _⟩ := h
    rfl
  · obtain ⟨P, H0, p, rfl, hps, hl2, hl3, hbd, q⟩ := h
    refine ⟨_, (@pss_cons _ _ _ _ _ (@ps_asg _ _ _ _ _ _ (kpe_bm0 K PySem.F.plainAttrs_list PySem.F.slot_list_pop PySem.F.type_list_pop mt_pop (pv 0)) (kpg_lst K (n := 4) rfl (pgs_cons (pg_name (i := 1) sc_law_close.nd rfl (by first | exact Or.inl rfl | exact Or.inr rfl)) (pgs_cons (pg_name (i := 2) sc_law_close.nd rfl (by first | exact Or.inl rfl | exact Or.inr rfl)) (pgs_cons (pg_name (i := 3) sc_law_close.nd rfl (by first | exact Or.inl rfl | exact Or.inr rfl)) (pgs_cons (pg_name (i := 4) sc_law_close.nd rfl (by first | exact Or.inl rfl | exact Or.inr rfl)) (@pgs_nil _)))))) (by rfl) (by rfl) (by rfl))
      (@pss_cons _ _ _ _ _ (@ps_if _ _ _ _ _ _ _ _ (@pt_cmpR _ _ _ _ _ _ _ _ op_eq (pv 1) (@pe_str _ _ _ _) (nomark _)) (@pss_cons _ _ _ _ _ (@ps_expr _ _ _ _ (@kpe_bm _ K _ _ _ _ _ _ _ _ _ _ _ PySem.F.plainAttrs_list PySem.F.slot_list_append PySem.F.type_list_append mt_append (@pe_ix _ _ _ _ _ _ _ (kix_list K) (@pe_ix _ _ _ _ _ _ _ (kix_list K) (pv 0) (@pe_un _ _ _ _ _ _ un_neg (@pe_int _ _ _ _)) (fun _ _ => rfl)) (@pe_int _ _ _ _) (fun _ _ => rfl)) (@pa_cons _ _ _ _ _ (@pe_tupN _ _ _ _ _ (@pa_cons _ _ _ _ _ (pv 2) (@pa_cons _ _ _ _ _ (pv 3) (@pa_nil _) (by rfl)) (by rfl))) (@pa_nil _) (by rfl)) (by rfl) (by rfl) (by rfl) (by rfl) (by rfl) (by rfl)) (by rfl))
        (@pss_one _ _ _ (@ps_asg _ _ _ _ _ _ (kpe_bm0 K PySem.F.plainAttrs_list PySem.F.slot_list_pop PySem.F.type_list_pop mt_pop (pv 0)) (kpg_lst K (n := 4) rfl (pgs_cons (pg_name (i := 1) sc_law_close.nd rfl (by first | exact Or.inl rfl | exact Or.inr rfl)) (pgs_cons (pg_name (i := 2) sc_law_close.nd rfl (by first | exact Or.inl rfl | exact Or.inr rfl)) (pgs_cons (pg_name (i := 3) sc_law_close.nd rfl (by first | exact Or.inl rfl | exact Or.inr rfl)) (pgs_cons (pg_name (i := 4) sc_law_close.nd rfl (by first | exact Or.inl rfl | exact Or.inr rfl)) (@pgs_nil _)))))) (by rfl) (by rfl) (by rfl)))) (@pss_nil _))
      (@pss_cons _ _ _ _ _ (@ps_set _ _ 5 _ _ _ _ sc_law_close.nd rfl (by first | exact Or.inl rfl | exact Or.inr rfl) (@pe_tupN _ _ _ _ _ (@pa_cons _ _ _ _ _ (@pe_str _ _ _ _) (@pa_cons _ _ _ _ _ (pv 3) (@pa_nil _) (by rfl)) (by rfl))) (by rfl) (by first | exact Or.inl rfl | exact Or.inr rfl))
      (@pss_cons _ _ _ _ _ (@ps_if _ _ _ _ _ _ _ _ (@pt_cmpR _ _ _ _ _ _ _ _ op_eq (pv 1) (@pe_str _ _ _ _) (nomark _)) (@pss_one _ _ _ (@ps_set _ _ 5 _ _ _ _ sc_law_close.nd rfl (by first | exact Or.inl rfl | exact Or.inr rfl) (@pe_tupN _ _ _ _ _ (@pa_cons _ _ _ _ _ (@pe_str _ _ _ _) (@pa_cons _ _ _ _ _ (pv 2) (@pa_cons _ _ _ _ _ (pv 3) (@pa_cons _ _ _ _ _ (@pe_lstN _ _ _ _ (@pa_nil _)) (@pa_nil _) (by rfl)) (by rfl)) (by rfl)) (by rfl))) (by rfl) (by first | exact Or.inl rfl | exact Or.inr rfl))) (@pss_nil _))
      (@pss_cons _ _ _ _ _ (@ps_if _ _ _ _ _ _ _ _ (@pt_cmpR _ _ _ _ _ _ _ _ op_eq (pv 1) (@pe_str _ _ _ _) (nomark _)) (@pss_one _ _ _ (@ps_set _ _ 5 _ _ _ _ sc_law_close.nd rfl (by first | exact Or.inl rfl | exact Or.inr rfl) (@pe_tupN _ _ _ _ _ (@pa_cons _ _ _ _ _ (@pe_str _ _ _ _) (@pa_cons _ _ _ _ _ (pv 2) (@pa_cons _ _ _ _ _ (pv 4) (@pa_cons _ _ _ _ _ (pv 3) (@pa_nil _) (by rfl)) (by rfl)) (by rfl)) (by rfl))) (by rfl) (by first | exact Or.inl rfl | exact Or.inr rfl))) (@pss_nil _))
      (@pss_cons _ _ _ _ _ (@ps_if _ _ _ _ _ _ _ _ (@pt_cmpR _ _ _ _ _ _ _ _ op_eq (pv 1) (@pe_str _ _ _ _) (nomark _)) (@pss_one _ _ _ (@ps_set _ _ 5 _ _ _ _ sc_law_close.nd rfl (by first | exact Or.inl rfl | exact Or.inr rfl) (@pe_tupN _ _ _ _ _ (@pa_cons _ _ _ _ _ (@pe_str _ _ _ _) (@pa_cons _ _ _ _ _ (pv 2) (@pa_cons _ _ _ _ _ (pv 3) (@pa_nil _) (by rfl)) (by rfl)) (by rfl))) (by rfl) (by first | exact Or.inl rfl | exact Or.inr rfl))) (@pss_nil _))
      (@pss_cons _ _ _ _ _ (@ps_if _ _ _ _ _ _ _ _ (@pt_cmpR _ _ _ _ _ _ _ _ op_eq (pv 1) (@pe_str _ _ _ _) (nomark _)) (@pss_one _ _ _ (@ps_set _ _ 5 _ _ _ _ sc_law_close.nd rfl (by first | exact Or.inl rfl | exact Or.inr rfl) (@pe_tupN _ _ _ _ _ (@pa_cons _ _ _ _ _ (pv 2) (@pa_cons _ _ _ _ _ (pv 3) (@pa_nil _) (by rfl)) (by rfl))) (by rfl) (by first | exact Or.inl rfl | exact Or.inr rfl))) (@pss_nil _))
      (@pss_one _ _ _ (@ps_expr _ _ _ _ (@kpe_bm _ K _ _ _ _ _ _ _ _ _ _ _ PySem.F.plainAttrs_list PySem.F.slot_list_append PySem.F.type_list_append mt_append (@pe_ix _ _ _ _ _ _ _ (kix_list K) (@pe_ix _ _ _ _ _ _ _ (kix_list K) (pv 0) (@pe_un _ _ _ _ _ _ un_neg (@pe_int _ _ _ _)) (fun _ _ => rfl)) (@pe_int _ _ _ _) (fun _ _ => rfl)) (@pa_cons _ _ _ _ _ (pv 5) (@pa_nil _) (by rfl)) (by rfl) (by rfl) (by rfl) (by rfl) (by rfl) (by rfl)) (by rfl)))))))))), ?_⟩
    obtain ⟨F, r, rfl⟩ : ∃ F r, p = F :: r := by
      cases p with
      | nil => simp at hl2
      | cons F r => exact ⟨F, r, rfl⟩
    obtain ⟨kf, wf, bf, ff⟩ := F
    have hlr : 1 ≤ r.length := by simp only [List.length_cons] at hl2; omega
    have hbr : ∀ f ∈ r, f.body.length ≤ 1000 := fun f m => hbd f (by simp [m])
    obtain ⟨vs, v, f1, hP, hf, ps1⟩ := hps.pop
    obtain ⟨a, l, m, us, ms, vw, fw, gs, hs, rfl, g1, g2, g3, g4, g5, g6, rfl⟩ := hf
    dsimp only at g1 g2 g4 g6
    walk_at "go"
    refine i_tyL (SqL.of hP) ?_
    refine i_pop hP ?_
    generalize upd H P (.lst vs) = H1 at *
    refine i_asgL (SqL.of g1) rfl ?_
    walk_at "run"
    by_cases hon : kf = "on"
    · refine i_itDT hon ?_
      walk_at "run"
      obtain ⟨G, r2, rfl⟩ : ∃ g r1, r = g :: r1 := by
        cases r with
        | nil => simp at hlr
        | cons g r1 => exact ⟨g, r1, rfl⟩
      have hl3' := hl3 hon
      simp only [List.length_cons] at hl3'
      obtain ⟨vt, at1, lt1, mt1, ut1, vw1, fw1, gs1, hPt, hvt, hlt, hat, _, hlut, _⟩ := ps1.top
      refine i_ixL (SqL.of hPt) hvt ?_
      walk_at "run"
      refine i_ixL (SqL.of hat) (atI_nat (j := 2) rfl) ?_
      walk_at "run"
      refine i_tyL (SqL.of hlut) ?_
      walk_at "run"
      intro pt Ht ft st et
      walk_at "run"
      have tAt : (Tr.tup [wf, .lst bf]).At Ht (.ref pt) (fw ++ ((l :: gs) ++ [])) := at_tup2 (g2.mono (st.keep _)) (at_lst (st _ _ g3) (g4.mono (st.keep _))) et
      have psc : PSX H0 Ht P (G :: r2) ((fw ++ ((l :: gs) ++ [])) ++ []) := (ps1.mono st).sub (fun L h => by grind) (fun b hb => by grind)
      obtain ⟨us2, hl2, hlen2, psn⟩ := psc.add tAt (st _ _ hPt) hvt (st _ _ hat)
      refine i_append hl2 (lt_line (by have := hbr G (by simp); omega)) ?_
      walk_at "run"
      generalize upd Ht lt1 (.lst (us2 ++ [.ref pt])) = H3 at psn ⊢
      obtain ⟨kg, wg, bg, fg⟩ := G
      have hcl : closeU (⟨kf, wf, bf, ff⟩ :: ⟨kg, wg, bg, fg⟩ :: r2) = addU (toldK kg wg (bg ++ [.tup [wf, .lst bf]]) fg) r2 := by
        unfold closeU
        exact if_pos hon
      rw [hcl] at q
      clear hcl
      simp only [addU] at psn
      obtain ⟨vs', v', f1', hP', hf', psB⟩ := psn.pop
      obtain ⟨aB, lB, mB, usB, msB, vwB, fwB, gsB, hsB, rfl, g1B, g2B, g3B, g4B, g5B, g6B, rfl⟩ := hf'
      dsimp only at g1B g2B g4B g6B
      refine i_tyL (SqL.of hP') ?_
      refine i_pop hP' ?_
      generalize upd H3 P (.lst vs') = H1B at *
      refine i_asgL (SqL.of g1B) rfl ?_
      generalize bg ++ [Tr.tup [wf, .lst bf]] = bh at *
      have hlB : 1 ≤ r2.length := by omega
      have hbB : ∀ f ∈ r2, f.body.length ≤ 1000 := fun f m => hbr f (by simp [m])
      walk_at "run"
      intro q1 Hq1 fq1 sq1 eq1
      walk_at "run"
      rcases kinds5 kg with hk | hk | hk | hk | ⟨hk1, hk2, hk3, hk4⟩
      · refine i_itDF (by rw [hk]; decide +kernel) ?_
        walk_at "run"
        refine i_itDF (by rw [hk]; decide +kernel) ?_
        walk_at "run"
        refine i_itDF (by rw [hk]; decide +kernel) ?_
        walk_at "run"
        refine i_itDT hk ?_
        walk_at "run"
        intro q2 Hq2 fq2 sq2 eq2
        walk_at "run"
        have sq := sq1.trans sq2
        have tAt : (toldK kg wg bh fg).At Hq2 (.ref q2) (fwB ++ ((lB :: gsB) ++ [])) := by
          rw [hk, told_talk]
          exact at_tup2 (g2B.mono (sq.keep _)) (at_lst (sq _ _ g3B) (g4B.mono (sq.keep _))) eq2
        have psc : PSX H0 Hq2 P r2 ((fwB ++ ((lB :: gsB) ++ [])) ++ []) := (psB.mono sq).sub (fun L h => by grind) (fun b hb => by grind)
        obtain ⟨r0, hr0⟩ : ∃ g r1, r2 = g :: r1 := by
          cases r2 with
          | nil => simp at hlB
          | cons g r1 => exact ⟨g, r1, rfl⟩
        obtain ⟨r1, rfl⟩ := hr0
        obtain ⟨vt, at1, lt1, mt1, ut1, vw1, fw1, gs1, hPt, hvt, hlt, hat, _, hlut, _⟩ := psc.top
        refine i_ixL (SqL.of hPt) hvt ?_
        walk_at "run"
        refine i_ixL (SqL.of hat) (atI_nat (j := 2) rfl) ?_
        walk_at "run"
        refine i_tyL (SqL.of hlut) ?_
        walk_at "run"
        obtain ⟨us2, hl2, hlen2, psn⟩ := psc.add tAt hPt hvt hat
        refine i_append hl2 (lt_line (by have := hbB r0 (by simp); omega)) ?_
        exact q _ psn
      · refine i_itDF (by rw [hk]; decide +kernel) ?_
        walk_at "run"
        refine i_itDF (by rw [hk]; decide +kernel) ?_
        walk_at "run"
        refine i_itDT hk ?_
        walk_at "run"
        intro q2 Hq2 fq2 sq2 eq2
        walk_at "run"
        refine i_itDF (by rw [hk]; decide +kernel) ?_
        walk_at "run"
        have sq := sq1.trans sq2
        have tAt : (toldK kg wg bh fg).At Hq2 (.ref q2) ([] ++ (fwB ++ ((lB :: gsB) ++ []))) := by
          rw [hk, told_wait]
          exact at_tup3 at_str (g2B.mono (sq.keep _)) (at_lst (sq _ _ g3B) (g4B.mono (sq.keep _))) eq2
        have psc : PSX H0 Hq2 P r2 (([] ++ (fwB ++ ((lB :: gsB) ++ []))) ++ []) := (psB.mono sq).sub (fun L h => by grind) (fun b hb => by grind)
        obtain ⟨r0, hr0⟩ : ∃ g r1, r2 = g :: r1 := by
          cases r2 with
          | nil => simp at hlB
          | cons g r1 => exact ⟨g, r1, rfl⟩
        obtain ⟨r1, rfl⟩ := hr0
        obtain ⟨vt, at1, lt1, mt1, ut1, vw1, fw1, gs1, hPt, hvt, hlt, hat, _, hlut, _⟩ := psc.top
        refine i_ixL (SqL.of hPt) hvt ?_
        walk_at "run"
        refine i_ixL (SqL.of hat) (atI_nat (j := 2) rfl) ?_
        walk_at "run"
        refine i_tyL (SqL.of hlut) ?_
        walk_at "run"
        obtain ⟨us2, hl2, hlen2, psn⟩ := psc.add tAt hPt hvt hat
        refine i_append hl2 (lt_line (by have := hbB r0 (by simp); omega)) ?_
        exact q _ psn
      · refine i_itDF (by rw [hk]; decide +kernel) ?_
        walk_at "run"
        refine i_itDT hk ?_
        walk_at "run"
        intro q2 Hq2 fq2 sq2 eq2
        walk_at "run"
        refine i_itDF (by rw [hk]; decide +kernel) ?_
        walk_at "run"
        refine i_itDF (by rw [hk]; decide +kernel) ?_
        walk_at "run"
        have sq := sq1.trans sq2
        have tAt : (toldK kg wg bh fg).At Hq2 (.ref q2) ([] ++ (fwB ++ ((mB :: hsB) ++ ((lB :: gsB) ++ [])))) := by
          rw [hk, told_else]
          exact at_tup4 at_str (g2B.mono (sq.keep _)) (at_lst (sq _ _ g5B) (g6B.mono (sq.keep _))) (at_lst (sq _ _ g3B) (g4B.mono (sq.keep _))) eq2
        have psc : PSX H0 Hq2 P r2 (([] ++ (fwB ++ ((mB :: hsB) ++ ((lB :: gsB) ++ [])))) ++ []) := (psB.mono sq).sub (fun L h => nd_swap h) (fun b hb => by grind)
        obtain ⟨r0, hr0⟩ : ∃ g r1, r2 = g :: r1 := by
          cases r2 with
          | nil => simp at hlB
          | cons g r1 => exact ⟨g, r1, rfl⟩
        obtain ⟨r1, rfl⟩ := hr0
        obtain ⟨vt, at1, lt1, mt1, ut1, vw1, fw1, gs1, hPt, hvt, hlt, hat, _, hlut, _⟩ := psc.top
        refine i_ixL (SqL.of hPt) hvt ?_
        walk_at "run"
        refine i_ixL (SqL.of hat) (atI_nat (j := 2) rfl) ?_
        walk_at "run"
        refine i_tyL (SqL.of hlut) ?_
        walk_at "run"
        obtain ⟨us2, hl2, hlen2, psn⟩ := psc.add tAt hPt hvt hat
        refine i_append hl2 (lt_line (by have := hbB r0 (by simp); omega)) ?_
        exact q _ psn
      · refine i_itDT hk ?_
        walk_at "run"
        intro q3 Hq3 fq3 sq3 eq3
        walk_at "run"
        intro q2 Hq2 fq2 sq2 eq2
        walk_at "run"
        refine i_itDF (by rw [hk]; decide +kernel) ?_
        walk_at "run"
        refine i_itDF (by rw [hk]; decide +kernel) ?_
        walk_at "run"
        refine i_itDF (by rw [hk]; decide +kernel) ?_
        walk_at "run"
        have sq := sq1.trans (sq3.trans sq2)
        have tAt : (toldK kg wg bh fg).At Hq2 (.ref q2) ([] ++ (fwB ++ ((lB :: gsB) ++ ((q3 :: []) ++ [])))) := by
          rw [hk, told_if]
          exact at_tup4 at_str (g2B.mono (sq.keep _)) (at_lst (sq _ _ g3B) (g4B.mono (sq.keep _))) (at_lst (sq2 _ _ eq3) (by simp [Tr.Ats])) eq2
        have psc : PSX H0 Hq2 P r2 (([] ++ (fwB ++ ((lB :: gsB) ++ ((q3 :: []) ++ [])))) ++ []) := (((psB.mono sq1).new fq3 sq3 (by rw [eq3]; simp)).mono sq2).sub (fun L h => nd_new h) (fun b hb => by grind)
        obtain ⟨r0, hr0⟩ : ∃ g r1, r2 = g :: r1 := by
          cases r2 with
          | nil => simp at hlB
          | cons g r1 => exact ⟨g, r1, rfl⟩
        obtain ⟨r1, rfl⟩ := hr0
        obtain ⟨vt, at1, lt1, mt1, ut1, vw1, fw1, gs1, hPt, hvt, hlt, hat, _, hlut, _⟩ := psc.top
        refine i_ixL (SqL.of hPt) hvt ?_
        walk_at "run"
        refine i_ixL (SqL.of hat) (atI_nat (j := 2) rfl) ?_
        walk_at "run"
        refine i_tyL (SqL.of hlut) ?_
        walk_at "run"
        obtain ⟨us2, hl2, hlen2, psn⟩ := psc.add tAt hPt hvt hat
        refine i_append hl2 (lt_line (by have := hbB r0 (by simp); omega)) ?_
        exact q _ psn
      · refine i_itDF hk4 ?_
        walk_at "run"
        refine i_itDF hk3 ?_
        walk_at "run"
        refine i_itDF hk2 ?_
        walk_at "run"
        refine i_itDF hk1 ?_
        walk_at "run"
        have tAt : (toldK kg wg bh fg).At Hq1 (.ref q1) ([] ++ ((lB :: gsB) ++ [])) := by
          rw [told_other hk1 hk2 hk3 hk4]
          exact at_tup2 at_str (at_lst (sq1 _ _ g3B) (g4B.mono (sq1.keep _))) eq1
        have psc : PSX H0 Hq1 P r2 (([] ++ ((lB :: gsB) ++ [])) ++ []) := (psB.mono sq1).sub (fun L h => by grind) (fun b hb => by grind)
        obtain ⟨r0, hr0⟩ : ∃ g r1, r2 = g :: r1 := by
          cases r2 with
          | nil => simp at hlB
          | cons g r1 => exact ⟨g, r1, rfl⟩
        obtain ⟨r1, rfl⟩ := hr0
        obtain ⟨vt, at1, lt1, mt1, ut1, vw1, fw1, gs1, hPt, hvt, hlt, hat, _, hlut, _⟩ := psc.top
        refine i_ixL (SqL.of hPt) hvt ?_
        walk_at "run"
        refine i_ixL (SqL.of hat) (atI_nat (j := 2) rfl) ?_
        walk_at "run"
        refine i_tyL (SqL.of hlut) ?_
        walk_at "run"
        obtain ⟨us2, hl2, hlen2, psn⟩ := psc.add tAt hPt hvt hat
        refine i_append hl2 (lt_line (by have := hbB r0 (by simp); omega)) ?_
        exact q _ psn
    · refine i_itDF hon ?_
      have hcl : closeU (⟨kf, wf, bf, ff⟩ :: r) = addU (toldK kf wf bf ff) r := by
        unfold closeU
        exact if_neg hon
      rw [hcl] at q
      walk_at "run"
      intro q1 Hq1 fq1 sq1 eq1
      walk_at "run"
      rcases kinds5 kf with hk | hk | hk | hk | ⟨hk1, hk2, hk3, hk4⟩
      · refine i_itDF (by rw [hk]; decide +kernel) ?_
        walk_at "run"
        refine i_itDF (by rw [hk]; decide +kernel) ?_
        walk_at "run"
        refine i_itDF (by rw [hk]; decide +kernel) ?_
        walk_at "run"
        refine i_itDT hk ?_
        walk_at "run"
        intro q2 Hq2 fq2 sq2 eq2
        walk_at "run"
        have sq := sq1.trans sq2
        have tAt : (toldK kf wf bf ff).At Hq2 (.ref q2) (fw ++ ((l :: gs) ++ [])) := by
          rw [hk, told_talk]
          exact at_tup2 (g2.mono (sq.keep _)) (at_lst (sq _ _ g3) (g4.mono (sq.keep _))) eq2
        have psc : PSX H0 Hq2 P r ((fw ++ ((l :: gs) ++ [])) ++ []) := (ps1.mono sq).sub (fun L h => by grind) (fun b hb => by grind)
        obtain ⟨r0, hr0⟩ : ∃ g r1, r = g :: r1 := by
          cases r with
          | nil => simp at hlr
          | cons g r1 => exact ⟨g, r1, rfl⟩
        obtain ⟨r1, rfl⟩ := hr0
        obtain ⟨vt, at1, lt1, mt1, ut1, vw1, fw1, gs1, hPt, hvt, hlt, hat, _, hlut, _⟩ := psc.top
        refine i_ixL (SqL.of hPt) hvt ?_
        walk_at "run"
        refine i_ixL (SqL.of hat) (atI_nat (j := 2) rfl) ?_
        walk_at "run"
        refine i_tyL (SqL.of hlut) ?_
        walk_at "run"
        obtain ⟨us2, hl2, hlen2, psn⟩ := psc.add tAt hPt hvt hat
        refine i_append hl2 (lt_line (by have := hbr r0 (by simp); omega)) ?_
        exact q _ psn
      · refine i_itDF (by rw [hk]; decide +kernel) ?_
        walk_at "run"
        refine i_itDF (by rw [hk]; decide +kernel) ?_
        walk_at "run"
        refine i_itDT hk ?_
        walk_at "run"
        intro q2 Hq2 fq2 sq2 eq2
        walk_at "run"
        refine i_itDF (by rw [hk]; decide +kernel) ?_
        walk_at "run"
        have sq := sq1.trans sq2
        have tAt : (toldK kf wf bf ff).At Hq2 (.ref q2) ([] ++ (fw ++ ((l :: gs) ++ []))) := by
          rw [hk, told_wait]
          exact at_tup3 at_str (g2.mono (sq.keep _)) (at_lst (sq _ _ g3) (g4.mono (sq.keep _))) eq2
        have psc : PSX H0 Hq2 P r (([] ++ (fw ++ ((l :: gs) ++ []))) ++ []) := (ps1.mono sq).sub (fun L h => by grind) (fun b hb => by grind)
        obtain ⟨r0, hr0⟩ : ∃ g r1, r = g :: r1 := by
          cases r with
          | nil => simp at hlr
          | cons g r1 => exact ⟨g, r1, rfl⟩
        obtain ⟨r1, rfl⟩ := hr0
        obtain ⟨vt, at1, lt1, mt1, ut1, vw1, fw1, gs1, hPt, hvt, hlt, hat, _, hlut, _⟩ := psc.top
        refine i_ixL (SqL.of hPt) hvt ?_
        walk_at "run"
        refine i_ixL (SqL.of hat) (atI_nat (j := 2) rfl) ?_
        walk_at "run"
        refine i_tyL (SqL.of hlut) ?_
        walk_at "run"
        obtain ⟨us2, hl2, hlen2, psn⟩ := psc.add tAt hPt hvt hat
        refine i_append hl2 (lt_line (by have := hbr r0 (by simp); omega)) ?_
        exact q _ psn
      · refine i_itDF (by rw [hk]; decide +kernel) ?_
        walk_at "run"
        refine i_itDT hk ?_
        walk_at "run"
        intro q2 Hq2 fq2 sq2 eq2
        walk_at "run"
        refine i_itDF (by rw [hk]; decide +kernel) ?_
        walk_at "run"
        refine i_itDF (by rw [hk]; decide +kernel) ?_
        walk_at "run"
        have sq := sq1.trans sq2
        have tAt : (toldK kf wf bf ff).At Hq2 (.ref q2) ([] ++ (fw ++ ((m :: hs) ++ ((l :: gs) ++ [])))) := by
          rw [hk, told_else]
          exact at_tup4 at_str (g2.mono (sq.keep _)) (at_lst (sq _ _ g5) (g6.mono (sq.keep _))) (at_lst (sq _ _ g3) (g4.mono (sq.keep _))) eq2
        have psc : PSX H0 Hq2 P r (([] ++ (fw ++ ((m :: hs) ++ ((l :: gs) ++ [])))) ++ []) := (ps1.mono sq).sub (fun L h => nd_swap h) (fun b hb => by grind)
        obtain ⟨r0, hr0⟩ : ∃ g r1, r = g :: r1 := by
          cases r with
          | nil => simp at hlr
          | cons g r1 => exact ⟨g, r1, rfl⟩
        obtain ⟨r1, rfl⟩ := hr0
        obtain ⟨vt, at1, lt1, mt1, ut1, vw1, fw1, gs1, hPt, hvt, hlt, hat, _, hlut, _⟩ := psc.top
        refine i_ixL (SqL.of hPt) hvt ?_
        walk_at "run"
        refine i_ixL (SqL.of hat) (atI_nat (j := 2) rfl) ?_
        walk_at "run"
        refine i_tyL (SqL.of hlut) ?_
        walk_at "run"
        obtain ⟨us2, hl2, hlen2, psn⟩ := psc.add tAt hPt hvt hat
        refine i_append hl2 (lt_line (by have := hbr r0 (by simp); omega)) ?_
        exact q _ psn
      · refine i_itDT hk ?_
        walk_at "run"
        intro q3 Hq3 fq3 sq3 eq3
        walk_at "run"
        intro q2 Hq2 fq2 sq2 eq2
        walk_at "run"
        refine i_itDF (by rw [hk]; decide +kernel) ?_
        walk_at "run"
        refine i_itDF (by rw [hk]; decide +kernel) ?_
        walk_at "run"
        refine i_itDF (by rw [hk]; decide +kernel) ?_
        walk_at "run"
        have sq := sq1.trans (sq3.trans sq2)
        have tAt : (toldK kf wf bf ff).At Hq2 (.ref q2) ([] ++ (fw ++ ((l :: gs) ++ ((q3 :: []) ++ [])))) := by
          rw [hk, told_if]
          exact at_tup4 at_str (g2.mono (sq.keep _)) (at_lst (sq _ _ g3) (g4.mono (sq.keep _))) (at_lst (sq2 _ _ eq3) (by simp [Tr.Ats])) eq2
        have psc : PSX H0 Hq2 P r (([] ++ (fw ++ ((l :: gs) ++ ((q3 :: []) ++ [])))) ++ []) := (((ps1.mono sq1).new fq3 sq3 (by rw [eq3]; simp)).mono sq2).sub (fun L h => nd_new h) (fun b hb => by grind)
        obtain ⟨r0, hr0⟩ : ∃ g r1, r = g :: r1 := by
          cases r with
          | nil => simp at hlr
          | cons g r1 => exact ⟨g, r1, rfl⟩
        obtain ⟨r1, rfl⟩ := hr0
        obtain ⟨vt, at1, lt1, mt1, ut1, vw1, fw1, gs1, hPt, hvt, hlt, hat, _, hlut, _⟩ := psc.top
        refine i_ixL (SqL.of hPt) hvt ?_
        walk_at "run"
        refine i_ixL (SqL.of hat) (atI_nat (j := 2) rfl) ?_
        walk_at "run"
        refine i_tyL (SqL.of hlut) ?_
        walk_at "run"
        obtain ⟨us2, hl2, hlen2, psn⟩ := psc.add tAt hPt hvt hat
        refine i_append hl2 (lt_line (by have := hbr r0 (by simp); omega)) ?_
        exact q _ psn
      · refine i_itDF hk4 ?_
        walk_at "run"
        refine i_itDF hk3 ?_
        walk_at "run"
        refine i_itDF hk2 ?_
        walk_at "run"
        refine i_itDF hk1 ?_
        walk_at "run"
        have tAt : (toldK kf wf bf ff).At Hq1 (.ref q1) ([] ++ ((l :: gs) ++ [])) := by
          rw [told_other hk1 hk2 hk3 hk4]
          exact at_tup2 at_str (at_lst (sq1 _ _ g3) (g4.mono (sq1.keep _))) eq1
        have psc : PSX H0 Hq1 P r (([] ++ ((l :: gs) ++ [])) ++ []) := (ps1.mono sq1).sub (fun L h => by grind) (fun b hb => by grind)
        obtain ⟨r0, hr0⟩ : ∃ g r1, r = g :: r1 := by
          cases r with
          | nil => simp at hlr
          | cons g r1 => exact ⟨g, r1, rfl⟩
        obtain ⟨r1, rfl⟩ := hr0
        obtain ⟨vt, at1, lt1, mt1, ut1, vw1, fw1, gs1, hPt, hvt, hlt, hat, _, hlut, _⟩ := psc.top
        refine i_ixL (SqL.of hPt) hvt ?_
        walk_at "run"
        refine i_ixL (SqL.of hat) (atI_nat (j := 2) rfl) ?_
        walk_at "run"
        refine i_tyL (SqL.of hlut) ?_
        walk_at "run"
        obtain ⟨us2, hl2, hlen2, psn⟩ := psc.add tAt hPt hvt hat
        refine i_append hl2 (lt_line (by have := hbr r0 (by simp); omega)) ?_
        exact q _ psn
local macro_rules | `(tactic| walk_at "plain") => `(tactic| (repeat (first
  | with_reducible refine L2.i_seq ?_ | with_reducible refine L2.i_asg ?_ | ((with_reducible refine L2.i_name ?_); dsimp only [List.set_cons_zero, List.set_cons_succ]) | ((with_reducible refine' L2.i_var ?k ?_); (case k => rfl)) | with_reducible refine L2.i_c ?_ | with_reducible refine L2.i_op ?_
  | with_reducible refine L2.i_un ?_ | with_reducible refine L2.i_rU ?_ | with_reducible refine L2.i_rI0 ?_ | ((with_reducible refine L2.i_rI ?k ?_); (case k => walk_at "side")) | with_reducible refine L2.i_plusI ?_)))
theorem pureT {tA : TT} {σ : St} {H : Hp} {QT : Bool → Hp → Prop} (c : Prop) [Decidable c] (h : ∀ R : Bool → Hp → Prop, R (decide c) H → tA σ H R) (h2 : QT (decide c) H) : tA σ H QT := h QT h2
theorem rT {R : Bool → Hp → Prop} {H : Hp} {c : Prop} [Decidable c] (h : R (decide c) H) (hc : c) : R true H := by rw [decide_eq_true hc] at h; exact h
theorem rF {R : Bool → Hp → Prop} {H : Hp} {c : Prop} [Decidable c] (h : R (decide c) H) (hc : ¬ c) : R false H := by rw [decide_eq_false hc] at h; exact h
section
variable {H0 H H1 H2 H3 : Hp} {P : Addr} {f : L2.Frame} {p r : List L2.Frame} {ex : List Addr}
theorem _root_.L2.PSX.pop2 (h : PSX H0 H P (f :: r) ex) : ∃ vs a l m us ms vw fw gs hs, H P = some (.lst (vs ++ [.ref a])) ∧ H a = some (.lst [.str f.kind, vw, .ref l, .ref m]) ∧ upd H P (.lst vs) a = some (.lst [.str f.kind, vw, .ref l, .ref m]) ∧ f.what.At (upd H P (.lst vs)) vw fw ∧ upd H P (.lst vs) l = some (.lst us) ∧ Tr.Ats (upd H P (.lst vs)) f.body us gs ∧ upd H P (.lst vs) m = some (.lst ms) ∧ Tr.Ats (upd H P (.lst vs)) f.first ms hs ∧ PSX H0 (upd H P (.lst vs)) P r ((a :: (fw ++ (l :: gs ++ m :: hs))) ++ ex) := by
  obtain ⟨vs, v, f1, hP, hf, ps⟩ := h.pop
  obtain ⟨a, l, m, us, ms, vw, fw, gs, hs, rfl, g1, g2, g3, g4, g5, g6, rfl⟩ := hf
  have hne : a ≠ P := by
    obtain ⟨_, _, _, _, nd, _⟩ := ps.at'
    grind
  exact ⟨vs, a, l, m, us, ms, vw, fw, gs, hs, hP, by rw [upd_ne hne] at g1; exact g1, g1, g2, g3, g4, g5, g6, ps⟩
theorem _root_.L2.PSX.fresh {k : Str} {wt : Tr} {vw : V} {b1 b2 fr : Addr} (h : PSX H0 H P p []) (hw : wt.At H vw []) (f1 : H b1 = none) (s1 : Same H H1) (e1 : H1 b1 = some (.lst [])) (f2 : H1 b2 = none) (s2 : Same H1 H2) (e2 : H2 b2 = some (.lst [])) (f3 : H2 fr = none) (s3 : Same H2 H3) (e3 : H3 fr = some (.lst [.str k, vw, .ref b1, .ref b2])) :
    ∃ vs, H3 P = some (.lst vs) ∧ vs.length = p.length ∧ PSX H0 (upd H3 P (.lst (vs ++ [.ref fr]))) P (⟨k, wt, [], []⟩ :: p) [] := by
  have h3 := (((h.new f1 s1 (by rw [e1]; simp)).new f2 s2 (by rw [e2]; simp)).new f3 s3 (by rw [e3]; simp))
  have s13 := s1.trans (s2.trans s3)
  have hf : FrAt H3 ⟨k, wt, [], []⟩ (.ref fr) (fr :: ([] ++ (b1 :: [] ++ b2 :: []))) := ⟨fr, b1, b2, [], [], vw, [], [], [], rfl, e3, hw.mono (s13.keep _), s3 _ _ (s2 _ _ e1), by simp [Tr.Ats], s3 _ _ e2, by simp [Tr.Ats], rfl⟩
  have h4 : PSX H0 H3 P p ((fr :: ([] ++ (b1 :: [] ++ b2 :: []))) ++ []) := h3.sub (fun L h => by
    refine (List.Perm.nodup_iff (List.perm_iff_count.mpr fun c => ?_)).mp h
    simp only [List.count_cons, List.count_append, List.count_nil]
    omega) (fun b hb => by grind)
  obtain ⟨vs, fs, hP, hp, _, _⟩ := h4.at'
  exact ⟨_, hP, by rw [List.length_reverse, hp.len], h4.push hf hP⟩
end
theorem closeU_len (p : List L2.Frame) : (closeU p).length ≤ p.length := by
  have a : ∀ (t : Tr) (p : List L2.Frame), (addU t p).length = p.length := by
    intro t p
    cases p <;> rfl
  have b : ∀ p : List L2.Frame, (closeN p).length ≤ p.length := by
    intro p
    cases p with
    | nil => exact Nat.le_refl _
    | cons f r => simp only [closeN, a, List.length_cons]; omega
  have c : ∀ p : List L2.Frame, (shutU p).length ≤ p.length := by
    intro p
    cases p with
    | nil => exact Nat.le_refl _
    | cons f r => simp only [shutU, a, List.length_cons]; omega
  unfold closeU
  split
  · exact Nat.le_trans (b _) (c _)
  · exact b _
theorem nd_else {L fw gs hs : List Addr} {a l m b1 b3 : Addr} (h : (L ++ (b3 :: ((a :: (fw ++ (l :: gs ++ m :: hs))) ++ [b1]))).Nodup) : (L ++ ((b3 :: (fw ++ (b1 :: [] ++ l :: gs))) ++ [])).Nodup := by
  have h2 : (L ++ (b3 :: (fw ++ (l :: gs ++ [b1])))).Nodup := by
    simp only [List.cons_append, List.append_assoc] at h ⊢
    refine List.Sublist.nodup ?_ h
    exact (List.Sublist.refl L).append (((((List.Sublist.refl fw).append (((List.Sublist.refl gs).append ((List.sublist_append_right hs [b1]).cons m)).cons_cons l)).cons a)).cons_cons b3)
  refine (List.Perm.nodup_iff (List.perm_iff_count.mpr fun c => ?_)).mp h2
  simp only [List.count_cons, List.count_append, List.count_nil]
  omega
structure StepOk (p : List L2.Frame) : Prop where
  ne : p ≠ []
  on : kindU p = "on" → 3 ≤ p.length
  wait : kindU p = "wait" → 2 ≤ p.length
  talk : kindU p = "talk" → 2 ≤ p.length
  bd : ∀ f ∈ p, f.body.length ≤ 1000
  ln : p.length ≤ 1000
def sp_step (K : PySem.W.Frag) : Sp := fun vs H Q _ => ∃ (P ln : Addr) (n : Int) (H0 : Hp) (p : List L2.Frame) (ys : List Str), vs = [.ref P, .int n, .ref ln] ∧ PSX H0 H P p [] ∧ H0 ln = some (.lst (strsV ys)) ∧ ys ≠ [] ∧ ys.length ≤ 1000 ∧ StepOk p ∧ ∀ H', PSX H0 H' P (stepU ys p n) [] → Q .non H'
theorem ok_law_step (T : Txt K mg w.params t) : FnOk P w K mg base CX0 9 t.a__law_step t.fd__law_step ["pile", "number", "names"] (sp_step K) := by
  have G__law_close := ok_law_close (P := P) (w := w) (base := base) T
  have G__law_cond := ok_law_cond (P := P) (w := w) (base := base) T
  have G__law_pattern := ok_law_pattern (P := P) (w := w) (base := base) T
  have G__law_plain := ok_law_plain (P := P) (w := w) (base := base) T
  have G__law_word := ok_law_word (P := P) (w := w) (base := base) T
  refine T.F__law_step.ok sc_law_step (fun vs H Q E h => ?_) (fun cdv A outer s H vs Q E hr h => ?_)
  · obtain ⟨P, ln, n, H0, p, ys, rfl, _⟩ := h
    rfl
  · obtain ⟨P, ln, n, H0, p, ys, rfl, ps, hln, hy, hz, ok, q⟩ := h
    have G__law_cond := G__law_cond 3
    refine ⟨_, (@pss_cons _ _ _ _ _ (@ps_set _ _ 3 _ _ _ _ sc_law_step.nd rfl (by first | exact Or.inl rfl | exact Or.inr rfl) (@pe_ix _ _ _ _ _ _ _ (kix_list K) (@pe_ix _ _ _ _ _ _ _ (kix_list K) (pv 0) (@pe_un _ _ _ _ _ _ un_neg (@pe_int _ _ _ _)) (fun _ _ => rfl)) (@pe_int _ _ _ _) (fun _ _ => rfl)) (by rfl) (by first | exact Or.inl rfl | exact Or.inr rfl))
      (@pss_cons _ _ _ _ _ (@ps_set _ _ 4 _ _ _ _ sc_law_step.nd rfl (by first | exact Or.inl rfl | exact Or.inr rfl) (@pe_op _ _ _ _ _ _ _ _ op_mod (pv 1) (@pe_int _ _ _ _)) (by rfl) (by first | exact Or.inl rfl | exact Or.inr rfl))
      (@pss_cons _ _ _ _ _ (@ps_set _ _ 1 _ _ _ _ sc_law_step.nd rfl (by first | exact Or.inl rfl | exact Or.inr rfl) (@pe_op _ _ _ _ _ _ _ _ op_fdiv (pv 1) (@pe_int _ _ _ _)) (by rfl) (by first | exact Or.inl rfl | exact Or.inr rfl))
      (@pss_one _ _ _ (@ps_if _ _ _ _ _ _ _ _ (@PW.pt _ _ _ (@pw_or _ _ _ _ _ _ _ (@PW.pt _ _ _ (@pw_and _ _ _ _ _ _ _ (@pt_cmpR _ _ _ _ _ _ _ _ op_eq (pv 3) (@pe_str _ _ _ _) (nomark _)) (@pw_and1 _ _ _ _ (@pt_cmpR _ _ _ _ _ _ _ _ op_gt (@pe_op _ _ _ _ _ _ _ _ op_mod (pv 4) (@pe_int _ _ _ _)) (@pe_int _ _ _ _) (nomark _))))) (@pw_or1 _ _ _ _ (@PW.pt _ _ _ (@pw_and _ _ _ _ _ _ _ (@pt_cmpR _ _ _ _ _ _ _ _ op_eq (pv 3) (@pe_str _ _ _ _) (nomark _)) (@pw_and1 _ _ _ _ (@pt_cmpR _ _ _ _ _ _ _ _ op_eq (pv 4) (@pe_int _ _ _ _) (nomark _)))))))) (@pss_cons _ _ _ _ _ (@ps_if _ _ _ _ _ _ _ _ (@pt_cmpR _ _ _ _ _ _ _ _ op_eq (pv 3) (@pe_str _ _ _ _) (nomark _)) (@pss_cons _ _ _ _ _ (@ps_asg _ _ _ _ _ _ (@pe_slice _ _ _ _ _ _ _ _ _ _ (ksl_list K) (kpe_bm0 K PySem.F.plainAttrs_list PySem.F.slot_list_pop PySem.F.type_list_pop mt_pop (pv 0)) (@po_some _ _ _ (@pe_int _ _ _ _)) (@po_some _ _ _ (@pe_int _ _ _ _))) (kpg_lst K (n := 2) rfl (pgs_cons (pg_name (i := 5) sc_law_step.nd rfl (by first | exact Or.inl rfl | exact Or.inr rfl)) (pgs_cons (pg_name (i := 6) sc_law_step.nd rfl (by first | exact Or.inl rfl | exact Or.inr rfl)) (@pgs_nil _)))) (by rfl) (by rfl) (by rfl))
          (@pss_one _ _ _ (@ps_expr _ _ _ _ (@kpe_bm _ K _ _ _ _ _ _ _ _ _ _ _ PySem.F.plainAttrs_list PySem.F.slot_list_append PySem.F.type_list_append mt_append (@pe_ix _ _ _ _ _ _ _ (kix_list K) (@pe_ix _ _ _ _ _ _ _ (kix_list K) (pv 0) (@pe_un _ _ _ _ _ _ un_neg (@pe_int _ _ _ _)) (fun _ _ => rfl)) (@pe_int _ _ _ _) (fun _ _ => rfl)) (@pa_cons _ _ _ _ _ (@pe_tupN _ _ _ _ _ (@pa_cons _ _ _ _ _ (pv 5) (@pa_cons _ _ _ _ _ (pv 6) (@pa_nil _) (by rfl)) (by rfl))) (@pa_nil _) (by rfl)) (by rfl) (by rfl) (by rfl) (by rfl) (by rfl) (by rfl)) (by rfl)))) (@pss_nil _))
        (@pss_one _ _ _ (@ps_expr _ _ _ _ (@kpe_bm _ K _ _ _ _ _ _ _ _ _ _ _ PySem.F.plainAttrs_list PySem.F.slot_list_append PySem.F.type_list_append mt_append (pv 0) (@pa_cons _ _ _ _ _ (@pe_lstN _ _ _ _ (@pa_cons _ _ _ _ _ (@pe_str _ _ _ _) (@pa_cons _ _ _ _ _ (@pe_call _ _ _ _ _ _ _ _ _ _ _ _ _ _ _ _ G__law_pattern (hr.mono (by omega)) rfl T.m__law_pattern T.F__law_pattern.kp T.b__law_pattern .nil pass0 (@pa_cons _ _ _ _ _ (pv 1) (@pa_nil _) (by rfl)) (by decide) (by rfl) (by rfl)) (@pa_cons _ _ _ _ _ (@pe_lstN _ _ _ _ (@pa_nil _)) (@pa_cons _ _ _ _ _ (@pe_lstN _ _ _ _ (@pa_nil _)) (@pa_nil _) (by rfl)) (by rfl)) (by rfl)) (by rfl))) (@pa_nil _) (by rfl)) (by rfl) (by rfl) (by rfl) (by rfl) (by rfl) (by rfl)) (by rfl)))) (@pss_one _ _ _ (@ps_if _ _ _ _ _ _ _ _ (@PW.pt _ _ _ (@pw_and _ _ _ _ _ _ _ (@pt_cmpR _ _ _ _ _ _ _ _ op_eq (pv 4) (@pe_int _ _ _ _) (nomark _)) (@pw_and1 _ _ _ _ (@pt_cmpR _ _ _ _ _ _ _ _ op_eq (pv 3) (@pe_str _ _ _ _) (nomark _))))) (@pss_one _ _ _ (@ps_expr _ _ _ _ (@kpe_bm _ K _ _ _ _ _ _ _ _ _ _ _ PySem.F.plainAttrs_list PySem.F.slot_list_append PySem.F.type_list_append mt_append (pv 0) (@pa_cons _ _ _ _ _ (@pe_lstN _ _ _ _ (@pa_cons _ _ _ _ _ (@pe_str _ _ _ _) (@pa_cons _ _ _ _ _ (@pe_ix _ _ _ _ _ _ _ (kix_list K) (@pe_ix _ _ _ _ _ _ _ (kix_list K) (pv 0) (@pe_un _ _ _ _ _ _ un_neg (@pe_int _ _ _ _)) (fun _ _ => rfl)) (@pe_int _ _ _ _) (fun _ _ => rfl)) (@pa_cons _ _ _ _ _ (@pe_lstN _ _ _ _ (@pa_nil _)) (@pa_cons _ _ _ _ _ (@pe_ix _ _ _ _ _ _ _ (kix_list K) (kpe_bm0 K PySem.F.plainAttrs_list PySem.F.slot_list_pop PySem.F.type_list_pop mt_pop (pv 0)) (@pe_int _ _ _ _) (fun _ _ => rfl)) (@pa_nil _) (by rfl)) (by rfl)) (by rfl)) (by rfl))) (@pa_nil _) (by rfl)) (by rfl) (by rfl) (by rfl) (by rfl) (by rfl) (by rfl)) (by rfl))) (@pss_one _ _ _ (@ps_if _ _ _ _ _ _ _ _ (@PW.pt _ _ _ (@pw_or _ _ _ _ _ _ _ (@pt_cmpR _ _ _ _ _ _ _ _ op_eq (pv 3) (@pe_str _ _ _ _) (nomark _)) (@pw_or1 _ _ _ _ (@PW.pt _ _ _ (@pw_and _ _ _ _ _ _ _ (@pt_cmpR _ _ _ _ _ _ _ _ op_gt (pv 4) (@pe_int _ _ _ _) (nomark _)) (@pw_and1 _ _ _ _ (@pt_cmpR _ _ _ _ _ _ _ _ op_gt (@pe_callB _ _ _ _ _ _ _ _ _ (kcl_len K) (by rfl) T.z_len bb_len (@pa_cons _ _ _ _ _ (pv 0) (@pa_nil _) (by rfl)) (by decide) (by decide) (by rfl) (by rfl)) (@pe_int _ _ _ _) (nomark _)))))))) (@pss_one _ _ _ (@ps_expr _ _ _ _ (@pe_call _ _ _ _ _ _ _ _ _ _ _ _ _ _ _ _ G__law_close (hr.mono (by omega)) rfl T.m__law_close T.F__law_close.kp T.b__law_close .nil pass0 (@pa_cons _ _ _ _ _ (pv 0) (@pa_nil _) (by rfl)) (by decide) (by rfl) (by rfl)) (by rfl))) (@pss_one _ _ _ (@ps_if _ _ _ _ _ _ _ _ (@PW.pt _ _ _ (@pw_or _ _ _ _ _ _ _ (@PW.pt _ _ _ (@pw_and _ _ _ _ _ _ _ (@pt_cmpR _ _ _ _ _ _ _ _ op_eq (pv 4) (@pe_int _ _ _ _) (nomark _)) (@pw_and _ _ _ _ _ _ _ (@pt_cmpR _ _ _ _ _ _ _ _ op_eq (pv 3) (@pe_str _ _ _ _) (nomark _)) (@pw_and1 _ _ _ _ (@pt_cmpR _ _ _ _ _ _ _ _ op_lt (@pe_callB _ _ _ _ _ _ _ _ _ (kcl_len K) (by rfl) T.z_len bb_len (@pa_cons _ _ _ _ _ (@pe_ix _ _ _ _ _ _ _ (kix_list K) (@pe_ix _ _ _ _ _ _ _ (kix_list K) (pv 0) (@pe_int _ _ _ _) (fun _ _ => rfl)) (@pe_int _ _ _ _) (fun _ _ => rfl)) (@pa_nil _) (by rfl)) (by decide) (by decide) (by rfl) (by rfl)) (@pe_int _ _ _ _) (nomark _)))))) (@pw_or1 _ _ _ _ (@pt_cmpR _ _ _ _ _ _ _ _ op_eq (pv 3) (@pe_str _ _ _ _) (nomark _))))) (@pss_cons _ _ _ _ _ (@ps_if _ _ _ _ _ _ _ _ (@pt_cmpR _ _ _ _ _ _ _ _ op_eq (pv 3) (@pe_str _ _ _ _) (nomark _)) (@pss_one _ _ _ (@ps_expr _ _ _ _ (@pe_call _ _ _ _ _ _ _ _ _ _ _ _ _ _ _ _ G__law_close (hr.mono (by omega)) rfl T.m__law_close T.F__law_close.kp T.b__law_close .nil pass0 (@pa_cons _ _ _ _ _ (pv 0) (@pa_nil _) (by rfl)) (by decide) (by rfl) (by rfl)) (by rfl))) (@pss_nil _))
              (@pss_one _ _ _ (@ps_expr _ _ _ _ (@kpe_bm _ K _ _ _ _ _ _ _ _ _ _ _ PySem.F.plainAttrs_list PySem.F.slot_list_append PySem.F.type_list_append mt_append (pv 0) (@pa_cons _ _ _ _ _ (@pe_lstN _ _ _ _ (@pa_cons _ _ _ _ _ (@pe_str _ _ _ _) (@pa_cons _ _ _ _ _ (@pe_call _ _ _ _ _ _ _ _ _ _ _ _ _ _ _ _ G__law_word (hr.mono (by omega)) rfl T.m__law_word T.F__law_word.kp T.b__law_word .nil pass0 (@pa_cons _ _ _ _ _ (pv 1) (@pa_nil _) (by rfl)) (by decide) (by rfl) (by rfl)) (@pa_cons _ _ _ _ _ (@pe_lstN _ _ _ _ (@pa_nil _)) (@pa_cons _ _ _ _ _ (@pe_lstN _ _ _ _ (@pa_nil _)) (@pa_nil _) (by rfl)) (by rfl)) (by rfl)) (by rfl))) (@pa_nil _) (by rfl)) (by rfl) (by rfl) (by rfl) (by rfl) (by rfl) (by rfl)) (by rfl)))) (@pss_one _ _ _ (@ps_if _ _ _ _ _ _ _ _ (@PW.pt _ _ _ (@pw_or _ _ _ _ _ _ _ (@pt_cmpR _ _ _ _ _ _ _ _ op_lt (pv 4) (@pe_int _ _ _ _) (nomark _)) (@pw_or _ _ _ _ _ _ _ (@pt_cmpR _ _ _ _ _ _ _ _ op_gt (pv 4) (@pe_int _ _ _ _) (nomark _)) (@pw_or1 _ _ _ _ (@pt_cmpR _ _ _ _ _ _ _ _ op_gt (@pe_callB _ _ _ _ _ _ _ _ _ (kcl_len K) (by rfl) T.z_len bb_len (@pa_cons _ _ _ _ _ (pv 0) (@pa_nil _) (by rfl)) (by decide) (by decide) (by rfl) (by rfl)) (@pe_int _ _ _ _) (nomark _)))))) (@pss_one _ _ _ (@ps_expr _ _ _ _ (@kpe_bm _ K _ _ _ _ _ _ _ _ _ _ _ PySem.F.plainAttrs_list PySem.F.slot_list_append PySem.F.type_list_append mt_append (@pe_ix _ _ _ _ _ _ _ (kix_list K) (@pe_ix _ _ _ _ _ _ _ (kix_list K) (pv 0) (@pe_un _ _ _ _ _ _ un_neg (@pe_int _ _ _ _)) (fun _ _ => rfl)) (@pe_int _ _ _ _) (fun _ _ => rfl)) (@pa_cons _ _ _ _ _ (@pe_call _ _ _ _ _ _ _ _ _ _ _ _ _ _ _ _ G__law_plain (hr.mono (by omega)) rfl T.m__law_plain T.F__law_plain.kp T.b__law_plain .nil pass0 (@pa_cons _ _ _ _ _ (@pe_op _ _ _ _ _ _ _ _ op_mod (pv 4) (@pe_int _ _ _ _)) (@pa_cons _ _ _ _ _ (pv 1) (@pa_cons _ _ _ _ _ (pv 2) (@pa_nil _) (by rfl)) (by rfl)) (by rfl)) (by decide) (by rfl) (by rfl)) (@pa_nil _) (by rfl)) (by rfl) (by rfl) (by rfl) (by rfl) (by rfl) (by rfl)) (by rfl))) (@pss_one _ _ _ (@ps_if _ _ _ _ _ _ _ _ (@pt_cmpR _ _ _ _ _ _ _ _ op_eq (pv 4) (@pe_int _ _ _ _) (nomark _)) (@pss_one _ _ _ (@ps_expr _ _ _ _ (@kpe_bm _ K _ _ _ _ _ _ _ _ _ _ _ PySem.F.plainAttrs_list PySem.F.slot_list_append PySem.F.type_list_append mt_append (pv 0) (@pa_cons _ _ _ _ _ (@pe_lstN _ _ _ _ (@pa_cons _ _ _ _ _ (@pe_str _ _ _ _) (@pa_cons _ _ _ _ _ (@pe_non _ _ _) (@pa_cons _ _ _ _ _ (@pe_lstN _ _ _ _ (@pa_nil _)) (@pa_cons _ _ _ _ _ (@pe_lstN _ _ _ _ (@pa_nil _)) (@pa_nil _) (by rfl)) (by rfl)) (by rfl)) (by rfl))) (@pa_nil _) (by rfl)) (by rfl) (by rfl) (by rfl) (by rfl) (by rfl) (by rfl)) (by rfl))) (@pss_one _ _ _ (@ps_if _ _ _ _ _ _ _ _ (@pt_cmpR _ _ _ _ _ _ _ _ op_eq (pv 4) (@pe_int _ _ _ _) (nomark _)) (@pss_one _ _ _ (@ps_expr _ _ _ _ (@kpe_bm _ K _ _ _ _ _ _ _ _ _ _ _ PySem.F.plainAttrs_list PySem.F.slot_list_append PySem.F.type_list_append mt_append (pv 0) (@pa_cons _ _ _ _ _ (@pe_lstN _ _ _ _ (@pa_cons _ _ _ _ _ (@pe_str _ _ _ _) (@pa_cons _ _ _ _ _ (@pe_op _ _ _ _ _ _ _ _ op_mod (pv 1) (@pe_int _ _ _ _)) (@pa_cons _ _ _ _ _ (@pe_lstN _ _ _ _ (@pa_nil _)) (@pa_cons _ _ _ _ _ (@pe_lstN _ _ _ _ (@pa_nil _)) (@pa_nil _) (by rfl)) (by rfl)) (by rfl)) (by rfl))) (@pa_nil _) (by rfl)) (by rfl) (by rfl) (by rfl) (by rfl) (by rfl) (by rfl)) (by rfl))) (@pss_one _ _ _ (@ps_expr _ _ _ _ (@kpe_bm _ K _ _ _ _ _ _ _ _ _ _ _ PySem.F.plainAttrs_list PySem.F.slot_list_append PySem.F.type_list_append mt_append (pv 0) (@pa_cons _ _ _ _ _ (@pe_lstN _ _ _ _ (@pa_cons _ _ _ _ _ (@pe_str _ _ _ _) (@pa_cons _ _ _ _ _ (@pe_ix _ _ _ _ _ _ _ (kix_tup K) (@pe_call _ _ _ _ _ _ _ _ _ _ _ _ _ _ _ _ G__law_cond (hr.mono (by omega)) rfl T.m__law_cond T.F__law_cond.kp T.b__law_cond .nil pass0 (@pa_cons _ _ _ _ _ (pv 1) (@pa_cons _ _ _ _ _ (@pe_int _ _ _ _) (@pa_cons _ _ _ _ _ (pv 2) (@pa_nil _) (by rfl)) (by rfl)) (by rfl)) (by decide) (by rfl) (by rfl)) (@pe_int _ _ _ _) (fun _ _ => rfl)) (@pa_cons _ _ _ _ _ (@pe_lstN _ _ _ _ (@pa_nil _)) (@pa_cons _ _ _ _ _ (@pe_lstN _ _ _ _ (@pa_nil _)) (@pa_nil _) (by rfl)) (by rfl)) (by rfl)) (by rfl))) (@pa_nil _) (by rfl)) (by rfl) (by rfl) (by rfl) (by rfl) (by rfl) (by rfl)) (by rfl)))))))))))))))))))), ?_⟩
    obtain ⟨F, r, rfl⟩ : ∃ F r, p = F :: r := by
      cases p with
      | nil => exact absurd rfl ok.ne
      | cons F r => exact ⟨F, r, rfl⟩
    obtain ⟨vs, a, l, m, us, vw, fw, gs, hP, hv, hvl, ha, hwt, hl, hus⟩ := ps.top
    have hlv : vs.length = (F :: r).length := hvl
    have hln1 := ok.ln
    simp only [L2.start, List.map_cons, List.map_nil, List.length_cons, List.length_nil, List.replicate, List.cons_append, List.nil_append, Nat.reduceSub, Nat.reduceAdd, L2.nox_K, L2.wish_K, L2.cxOf_K, L2.cxC_K]
    walk_at "plain"
    refine i_ixL (SqL.of hP) hv ?_
    walk_at "plain"
    refine i_ixL (SqL.of ha) (atI_nat (j := 0) rfl) ?_
    walk_at "plain"
    have ku : kindU (F :: r) = F.kind := rfl
    refine i_ifS (pureT ((F.kind = "wait" ∧ n % 16 % 4 > 0) ∨ (F.kind = "on" ∧ n % 16 = 15)) ?_ ?_)
    · intro R hR
      walk_at "run"
      by_cases hw : F.kind = "wait"
      · refine i_itDT hw ?_
        walk_at "run"
        by_cases h4 : 0 < n % 16 % 4
        · refine i_itDT h4 ?_
          exact rT hR (.inl ⟨hw, h4⟩)
        · refine i_itDF h4 ?_
          walk_at "run"
          refine i_itDF (by rw [hw]; decide +kernel) ?_
          exact rF hR (fun z => by rcases z with z | z; exact h4 z.2; exact absurd (hw.symm.trans z.1) (by decide +kernel))
      · refine i_itDF hw ?_
        walk_at "run"
        by_cases ho : F.kind = "on"
        · refine i_itDT ho ?_
          walk_at "run"
          by_cases h15 : n % 16 = 15
          · rw [decide_eq_true h15]
            exact rT hR (.inr ⟨ho, h15⟩)
          · rw [decide_eq_false h15]
            exact rF hR (fun z => by rcases z with z | z; exact hw z.1; exact h15 z.2)
        · refine i_itDF ho ?_
          exact rF hR (fun z => by rcases z with z | z; exact hw z.1; exact ho z.1)
    refine ite2 (fun c1 => ?_) (fun c1 => ?_)
    · have c1' : (kindU (F :: r) = "wait" ∧ n % 16 % 4 > 0) ∨ (kindU (F :: r) = "on" ∧ n % 16 = 15) := of_decide_eq_true c1
      have hq : stepU ys (F :: r) n = ⟨"on", .tup ((patF (n / 16)).map Pt.tr), [], []⟩ :: (if kindU (F :: r) = "on" then shutU (F :: r) else (F :: r)) := by
        unfold stepU
        rw [if_pos c1']
      walk_at "run"
      by_cases ho : F.kind = "on"
      · refine i_itDT ho ?_
        have hq2 : stepU ys (F :: r) n = ⟨"on", .tup ((patF (n / 16)).map Pt.tr), [], []⟩ :: shutU (F :: r) := by
          rw [hq]
          exact congrArg _ (if_pos ho)
        have h3 := ok.on ho
        obtain ⟨G, r2, rfl⟩ : ∃ g r1, r = g :: r1 := by
          cases r with
          | nil => simp at h3
          | cons g r1 => exact ⟨g, r1, rfl⟩
        obtain ⟨vs2, a2, l2, m2, us2, ms2, vw2, fw2, gs2, hs2, hP2, _, g1, g2, g3, g4, g5, g6, ps2⟩ := ps.pop2
        walk_at "run"
        refine i_tyL (SqL.of hP2) ?_
        refine i_pop hP2 ?_
        generalize upd H P (.lst vs2) = H1 at *
        walk_at "run"
        refine i_slL (SqL.of g1) ?_
        intro p3 H3 f3 s3 e3
        have e3' : H3 p3 = some (.lst [vw2, .ref l2]) := e3
        refine i_asgL (SqL.of e3') rfl ?_
        walk_at "run"
        have ps3 := ps2.mono s3
        obtain ⟨vt, at1, lt1, mt1, ut1, vw1, fw1, gs1, hPt, hvt, hlt, hat, _, hlut, _⟩ := ps3.top
        refine i_ixL (SqL.of hPt) hvt ?_
        walk_at "run"
        refine i_ixL (SqL.of hat) (atI_nat (j := 2) rfl) ?_
        walk_at "run"
        refine i_tyL (SqL.of hlut) ?_
        walk_at "run"
        intro pt Ht ft st et
        walk_at "run"
        have s3t := s3.trans st
        have tAt : (Tr.tup [F.what, .lst F.body]).At Ht (.ref pt) (fw2 ++ ((l2 :: gs2) ++ [])) := at_tup2 (g2.mono (s3t.keep _)) (at_lst (s3t _ _ g3) (g4.mono (s3t.keep _))) et
        have psc : PSX H0 Ht P (G :: r2) ((fw2 ++ ((l2 :: gs2) ++ [])) ++ []) := (ps3.mono st).sub (fun L h => by grind) (fun b hb => by grind)
        obtain ⟨us5, hl5, hlen5, psn5⟩ := psc.add tAt (st _ _ hPt) hvt (st _ _ hat)
        refine i_append hl5 (lt_line (by have := ok.bd G (by simp); omega)) ?_
        generalize upd Ht lt1 (.lst (us5 ++ [.ref pt])) = H5 at psn5 ⊢
        walk_at "run"
        have ps6 : PSX H0 H5 P (shutU (F :: G :: r2)) [] := psn5
        obtain ⟨vs6, fs6, hP6, hp6, _, _⟩ := ps6.at'
        refine i_tyL (SqL.of hP6) ?_
        walk_at "run"
        refine ⟨_, rfl, fun pp Hp sp ep => ?_⟩
        walk_at "run"
        simp only [List.length_cons] at hln1
        have hls : (shutU (F :: G :: r2)).length = r2.length + 1 := rfl
        intro b1 Hb1 fb1 sb1 eb1
        walk_at "run"
        intro b2 Hb2 fb2 sb2 eb2
        walk_at "run"
        intro b3 Hb3 fb3 sb3 eb3
        walk_at "run"
        obtain ⟨vp, hvp, hvpl, psn⟩ := (ps6.mono sp).fresh (pts_at ep) fb1 sb1 eb1 fb2 sb2 eb2 fb3 sb3 eb3
        refine i_append hvp (lt_line (by omega)) ?_
        exact q _ (by rw [hq2]; exact psn)
      · refine i_itDF ho ?_
        have hq2 : stepU ys (F :: r) n = ⟨"on", .tup ((patF (n / 16)).map Pt.tr), [], []⟩ :: F :: r := by
          rw [hq]
          exact congrArg _ (if_neg ho)
        walk_at "run"
        refine i_tyL (SqL.of hP) ?_
        walk_at "run"
        refine ⟨_, rfl, fun pp Hp sp ep => ?_⟩
        walk_at "run"
        intro b1 Hb1 fb1 sb1 eb1
        walk_at "run"
        intro b2 Hb2 fb2 sb2 eb2
        walk_at "run"
        intro b3 Hb3 fb3 sb3 eb3
        walk_at "run"
        obtain ⟨vp, hvp, hvpl, psn⟩ := (ps.mono sp).fresh (pts_at ep) fb1 sb1 eb1 fb2 sb2 eb2 fb3 sb3 eb3
        refine i_append hvp (lt_line (by omega)) ?_
        exact q _ (by rw [hq2]; exact psn)
    have c1' : ¬ ((kindU (F :: r) = "wait" ∧ n % 16 % 4 > 0) ∨ (kindU (F :: r) = "on" ∧ n % 16 = 15)) := fun z => c1 (decide_eq_true z)
    refine i_ifS (pureT (n % 16 = 14 ∧ F.kind = "if") ?_ ?_)
    · intro R hR
      walk_at "run"
      by_cases h14 : n % 16 = 14
      · refine i_itDT h14 ?_
        walk_at "run"
        by_cases hi : F.kind = "if"
        · rw [decide_eq_true hi]
          exact rT hR ⟨h14, hi⟩
        · rw [decide_eq_false hi]
          exact rF hR (fun z => hi z.2)
      · refine i_itDF h14 ?_
        exact rF hR (fun z => h14 z.1)
    refine ite2 (fun c2 => ?_) (fun c2 => ?_)
    · have c2' : n % 16 = 14 ∧ kindU (F :: r) = "if" := of_decide_eq_true c2
      have hq : stepU ys (F :: r) n = ⟨"else", F.what, [], F.body⟩ :: r := by
        unfold stepU
        rw [if_neg c1', if_pos c2']
        rfl
      walk_at "run"
      refine i_tyL (SqL.of hP) ?_
      walk_at "run"
      refine i_ixL (SqL.of hP) hv ?_
      walk_at "run"
      refine i_ixL (SqL.of ha) (atI_nat (j := 1) rfl) ?_
      walk_at "run"
      intro b1 Hb1 fb1 sb1 eb1
      walk_at "run"
      have psb := ps.new fb1 sb1 (by rw [eb1]; simp)
      obtain ⟨vs2, a2, l2, m2, us2, ms2, vw2, fw2, gs2, hs2, hP2, ha2, g1, g2, g3, g4, g5, g6, ps2⟩ := psb.pop2
      have ev : vs = vs2 ++ [.ref a2] := by
        have := sb1 _ _ hP
        rw [hP2] at this
        cases this
        rfl
      subst ev
      rw [atI_last] at hv
      cases hv
      have evw : vw2 = vw := by
        have := sb1 _ _ ha
        rw [ha2] at this
        cases this
        rfl
      subst evw
      have hb1P : b1 ≠ P := by
        obtain ⟨_, _, _, _, nd, _⟩ := ps2.at'
        grind
      have eb1' : upd Hb1 P (.lst vs2) b1 = some (.lst []) := by rw [upd_ne hb1P]; exact eb1
      refine i_tyL (SqL.of hP2) ?_
      refine i_pop hP2 ?_
      generalize upd Hb1 P (.lst vs2) = H1 at *
      walk_at "run"
      refine i_ixL (SqL.of g1) (atI_nat (j := 2) rfl) ?_
      walk_at "run"
      intro b3 Hb3 fb3 sb3 eb3
      walk_at "run"
      have ps3 := ps2.new fb3 sb3 (by rw [eb3]; simp)
      have hf : FrAt Hb3 ⟨"else", F.what, [], F.body⟩ (.ref b3) (b3 :: (fw2 ++ (b1 :: [] ++ l2 :: gs2))) := ⟨b3, b1, l2, [], us2, vw2, fw2, [], gs2, rfl, eb3, g2.mono (sb3.keep _), sb3 _ _ eb1', by simp [Tr.Ats], sb3 _ _ g3, g4.mono (sb3.keep _), rfl⟩
      have ps4 : PSX H0 Hb3 P r ((b3 :: (fw2 ++ (b1 :: [] ++ l2 :: gs2))) ++ []) := ps3.sub (fun L h => nd_else h) (fun b hb => by grind)
      obtain ⟨vs6, fs6, hP6, hp6, _, _⟩ := ps4.at'
      have hl6 := hp6.len
      refine i_append hP6 (lt_line (by rw [List.length_reverse, hl6]; simp only [List.length_cons] at hln1; omega)) ?_
      exact q _ (by rw [hq]; exact ps4.push hf hP6)
    have c2' : ¬ (n % 16 = 14 ∧ kindU (F :: r) = "if") := fun z => c2 (decide_eq_true z)
    refine i_ifS (pureT (F.kind = "wait" ∨ (n % 16 > 12 ∧ (F :: r).length > 2)) ?_ ?_)
    · intro R hR
      walk_at "run"
      by_cases hw : F.kind = "wait"
      · refine i_itDT hw ?_
        exact rT hR (.inl hw)
      · refine i_itDF hw ?_
        walk_at "run"
        by_cases h12 : 12 < n % 16
        · refine i_itDT h12 ?_
          walk_at "run"
          refine i_lenL (SqL.of hP) ?_
          walk_at "run"
          by_cases hl3 : 2 < ((vs.length : Nat) : Int)
          · rw [decide_eq_true hl3]
            exact rT hR (.inr ⟨h12, by omega⟩)
          · rw [decide_eq_false hl3]
            exact rF hR (fun z => by rcases z with z | z; exact hw z; have := z.2; omega)
        · refine i_itDF h12 ?_
          exact rF hR (fun z => by rcases z with z | z; exact hw z; exact h12 z.1)
    refine ite2 (fun c3 => ?_) (fun c3 => ?_)
    · have c3' : kindU (F :: r) = "wait" ∨ (n % 16 > 12 ∧ (F :: r).length > 2) := of_decide_eq_true c3
      have hq : stepU ys (F :: r) n = closeU (F :: r) := by
        unfold stepU
        rw [if_neg c1', if_neg c2', if_pos c3']
      have h2 : 2 ≤ (F :: r).length := by
        rcases c3' with z | z
        · exact ok.wait z
        · omega
      walk_at "run"
      refine ⟨P, H0, F :: r, rfl, ps, h2, ok.on, ok.bd, fun H' ps' => ?_⟩
      walk_at "run"
      exact q _ (by rw [hq]; exact ps')
    have c3' : ¬ (kindU (F :: r) = "wait" ∨ (n % 16 > 12 ∧ (F :: r).length > 2)) := fun z => c3 (decide_eq_true z)
    refine i_ifS (pureT ((n % 16 = 12 ∧ F.kind = "talk" ∧ botN (F :: r) < 7) ∨ F.kind = "all") ?_ ?_)
    · intro R hR
      walk_at "run"
      have last : ¬ (n % 16 = 12 ∧ F.kind = "talk" ∧ botN (F :: r) < 7) → R (decide (F.kind = Str.ofString "all")) H := fun hn => by
        by_cases hx : F.kind = "all"
        · rw [decide_eq_true hx]
          exact rT hR (.inr hx)
        · rw [decide_eq_false hx]
          exact rF hR (fun z => by rcases z with z | z; exact hn z; exact hx z)
      by_cases h12 : n % 16 = 12
      · refine i_itDT h12 ?_
        walk_at "run"
        by_cases ht : F.kind = "talk"
        · refine i_itDT ht ?_
          walk_at "run"
          obtain ⟨B, hB⟩ : ∃ B, (F :: r).getLast? = some B := ⟨_, List.getLast?_eq_some_getLast (by simp)⟩
          obtain ⟨vb, ab, lb, mb, ub, vwb, gsb, hPb, hvb, hab, hlb, hub⟩ := ps.bot hB
          refine i_ixL (SqL.of hPb) hvb ?_
          walk_at "run"
          refine i_ixL (SqL.of hab) (atI_nat (j := 2) rfl) ?_
          walk_at "run"
          refine i_lenL (SqL.of hlb) ?_
          walk_at "run"
          have hbn : botN (F :: r) = ub.length := by
            unfold botN
            rw [hB]
            exact hub.len.symm
          by_cases h7 : ((ub.length : Nat) : Int) < 7
          · refine i_itDT h7 ?_
            exact rT hR (.inl ⟨h12, ht, by omega⟩)
          · refine i_itDF h7 ?_
            walk_at "run"
            exact last (fun z => by have := z.2.2; omega)
        · refine i_itDF ht ?_
          walk_at "run"
          exact last (fun z => ht z.2.1)
      · refine i_itDF h12 ?_
        walk_at "run"
        exact last (fun z => h12 z.1)
    refine ite2 (fun c4 => ?_) (fun c4 => ?_)
    · have c4' : (n % 16 = 12 ∧ kindU (F :: r) = "talk" ∧ botN (F :: r) < 7) ∨ kindU (F :: r) = "all" := of_decide_eq_true c4
      have hq : stepU ys (F :: r) n = ⟨"talk", .str (wordF (n / 16)), [], []⟩ :: (if kindU (F :: r) = "talk" then closeU (F :: r) else (F :: r)) := by
        unfold stepU
        rw [if_neg c1', if_neg c2', if_neg c3', if_pos c4']
      walk_at "run"
      by_cases ht : F.kind = "talk"
      · refine i_itDT ht ?_
        have hq2 : stepU ys (F :: r) n = ⟨"talk", .str (wordF (n / 16)), [], []⟩ :: closeU (F :: r) := by
          rw [hq]
          exact congrArg _ (if_pos ht)
        walk_at "run"
        refine ⟨P, H0, F :: r, rfl, ps, ok.talk ht, ok.on, ok.bd, fun H5 ps6 => ?_⟩
        walk_at "run"
        have hls : (closeU (F :: r)).length ≤ 1000 := Nat.le_trans (closeU_len _) hln1
        obtain ⟨vs6, fs6, hP6, hp6, _, _⟩ := ps6.at'
        refine i_tyL (SqL.of hP6) ?_
        walk_at "run"
        refine ⟨_, rfl, ?_⟩
        walk_at "run"
        intro b1 Hb1 fb1 sb1 eb1
        walk_at "run"
        intro b2 Hb2 fb2 sb2 eb2
        walk_at "run"
        intro b3 Hb3 fb3 sb3 eb3
        walk_at "run"
        obtain ⟨vp, hvp, hvpl, psn⟩ := (ps6).fresh (at_str) fb1 sb1 eb1 fb2 sb2 eb2 fb3 sb3 eb3
        refine i_append hvp (lt_line (by omega)) ?_
        exact q _ (by rw [hq2]; exact psn)
      · refine i_itDF ht ?_
        have hq2 : stepU ys (F :: r) n = ⟨"talk", .str (wordF (n / 16)), [], []⟩ :: F :: r := by
          rw [hq]
          exact congrArg _ (if_neg ht)
        walk_at "run"
        refine i_tyL (SqL.of hP) ?_
        walk_at "run"
        refine ⟨_, rfl, ?_⟩
        walk_at "run"
        intro b1 Hb1 fb1 sb1 eb1
        walk_at "run"
        intro b2 Hb2 fb2 sb2 eb2
        walk_at "run"
        intro b3 Hb3 fb3 sb3 eb3
        walk_at "run"
        obtain ⟨vp, hvp, hvpl, psn⟩ := (ps).fresh (at_str) fb1 sb1 eb1 fb2 sb2 eb2 fb3 sb3 eb3
        refine i_append hvp (lt_line (by omega)) ?_
        exact q _ (by rw [hq2]; exact psn)
    have c4' : ¬ ((n % 16 = 12 ∧ kindU (F :: r) = "talk" ∧ botN (F :: r) < 7) ∨ kindU (F :: r) = "all") := fun z => c4 (decide_eq_true z)
    refine i_ifS (pureT (n % 16 < 8 ∨ n % 16 > 11 ∨ (F :: r).length > 10) ?_ ?_)
    · intro R hR
      walk_at "run"
      by_cases h8 : n % 16 < 8
      · refine i_itDT h8 ?_
        exact rT hR (.inl h8)
      · refine i_itDF h8 ?_
        walk_at "run"
        by_cases h11 : 11 < n % 16
        · refine i_itDT h11 ?_
          exact rT hR (.inr (.inl h11))
        · refine i_itDF h11 ?_
          walk_at "run"
          refine i_lenL (SqL.of hP) ?_
          walk_at "run"
          by_cases hl3 : 10 < ((vs.length : Nat) : Int)
          · rw [decide_eq_true hl3]
            exact rT hR (.inr (.inr (by omega)))
          · rw [decide_eq_false hl3]
            exact rF hR (fun z => by rcases z with z | z | z; exact h8 z; exact h11 z; omega)
    have hS : SqL K H ln (strsV ys) := SqL.of (ps.same _ _ hln)
    refine ite2 (fun c5 => ?_) (fun c5 => ?_)
    · have c5' : n % 16 < 8 ∨ n % 16 > 11 ∨ (F :: r).length > 10 := of_decide_eq_true c5
      have hq : stepU ys (F :: r) n = addU (plainF ys (n % 16 % 8) (n / 16)).tr (F :: r) := by
        unfold stepU
        rw [if_neg c1', if_neg c2', if_neg c3', if_neg c4', if_pos c5']
      walk_at "run"
      refine i_ixL (SqL.of hP) hv ?_
      walk_at "run"
      refine i_ixL (SqL.of ha) (atI_nat (j := 2) rfl) ?_
      walk_at "run"
      refine i_tyL (SqL.of hl) ?_
      walk_at "run"
      refine ⟨_, _, ln, ys, rfl, by omega, by omega, hS, hy, hz, fun v1 H1 s1 a1 => ?_⟩
      walk_at "run"
      obtain ⟨us5, hl5, hlen5, psn5⟩ := PSX.add (g := []) (ex := []) (ps.mono s1) a1 (s1 _ _ hP) hv (s1 _ _ ha)
      refine i_append hl5 (lt_line (by have := ok.bd F (by simp); omega)) ?_
      exact q _ (by rw [hq]; exact psn5)
    have c5' : ¬ (n % 16 < 8 ∨ n % 16 > 11 ∨ (F :: r).length > 10) := fun z => c5 (decide_eq_true z)
    refine i_ifS (pureT (n % 16 = 8) ?_ ?_)
    · intro R hR
      walk_at "run"
      exact hR
    refine ite2 (fun c6 => ?_) (fun c6 => ?_)
    · have c6' : n % 16 = 8 := of_decide_eq_true c6
      have hq2 : stepU ys (F :: r) n = ⟨"loop", .non, [], []⟩ :: F :: r := by
        unfold stepU
        rw [if_neg c1', if_neg c2', if_neg c3', if_neg c4', if_neg c5', if_pos c6']
      walk_at "run"
      refine i_tyL (SqL.of hP) ?_
      walk_at "run"
      intro b1 Hb1 fb1 sb1 eb1
      walk_at "run"
      intro b2 Hb2 fb2 sb2 eb2
      walk_at "run"
      intro b3 Hb3 fb3 sb3 eb3
      walk_at "run"
      obtain ⟨vp, hvp, hvpl, psn⟩ := (ps).fresh (show Tr.At H .non .non [] by simp [Tr.At]) fb1 sb1 eb1 fb2 sb2 eb2 fb3 sb3 eb3
      refine i_append hvp (lt_line (by omega)) ?_
      exact q _ (by rw [hq2]; exact psn)
    have c6' : ¬ (n % 16 = 8) := fun z => c6 (decide_eq_true z)
    refine i_ifS (pureT (n % 16 = 9) ?_ ?_)
    · intro R hR
      walk_at "run"
      exact hR
    refine ite2 (fun c7 => ?_) (fun c7 => ?_)
    · have c7' : n % 16 = 9 := of_decide_eq_true c7
      have hq2 : stepU ys (F :: r) n = ⟨"wait", .int (n / 16 % 10), [], []⟩ :: F :: r := by
        unfold stepU
        rw [if_neg c1', if_neg c2', if_neg c3', if_neg c4', if_neg c5', if_neg c6', if_pos c7']
      walk_at "run"
      refine i_tyL (SqL.of hP) ?_
      walk_at "run"
      intro b1 Hb1 fb1 sb1 eb1
      walk_at "run"
      intro b2 Hb2 fb2 sb2 eb2
      walk_at "run"
      intro b3 Hb3 fb3 sb3 eb3
      walk_at "run"
      obtain ⟨vp, hvp, hvpl, psn⟩ := (ps).fresh (show Tr.At H (.int (n / 16 % 10)) (.int (n / 16 % 10)) [] by simp [Tr.At]) fb1 sb1 eb1 fb2 sb2 eb2 fb3 sb3 eb3
      refine i_append hvp (lt_line (by omega)) ?_
      exact q _ (by rw [hq2]; exact psn)
    have c7' : ¬ (n % 16 = 9) := fun z => c7 (decide_eq_true z)
    have hq2 : stepU ys (F :: r) n = ⟨"if", (condF ys 2 (n / 16)).1.tr, [], []⟩ :: F :: r := by
      unfold stepU
      rw [if_neg c1', if_neg c2', if_neg c3', if_neg c4', if_neg c5', if_neg c6', if_neg c7']
    walk_at "run"
    refine i_tyL (SqL.of hP) ?_
    walk_at "run"
    refine ⟨_, _, ln, ys, rfl, by decide, by decide, hS, hy, hz, fun p1 v1 H1 s1 g1 a1 => ?_⟩
    walk_at "run"
    refine i_ixT (SqT.of g1) (atI_nat (j := 0) rfl) ?_
    walk_at "run"
    intro b1 Hb1 fb1 sb1 eb1
    walk_at "run"
    intro b2 Hb2 fb2 sb2 eb2
    walk_at "run"
    intro b3 Hb3 fb3 sb3 eb3
    walk_at "run"
    obtain ⟨vp, hvp, hvpl, psn⟩ := (ps.mono s1).fresh (Cd.to_tr a1) fb1 sb1 eb1 fb2 sb2 eb2 fb3 sb3 eb3
    refine i_append hvp (lt_line (by omega)) ?_
    exact q _ (by rw [hq2]; exact psn)
theorem Stm.rows_pos (s : Stm) : 1 ≤ s.rows.length := by cases s <;> simp [Stm.rows, blockR]
theorem Br.rows_pos (s : Br) : 1 ≤ s.rows.length := by cases s; simp [Br.rows]
theorem len_rows : ∀ b : List Stm, b.length ≤ (Stm.rowsL b).length
  | [] => Nat.zero_le _
  | s :: r => by
    have h1 := Stm.rows_pos s
    have h2 := len_rows r
    simp only [Stm.rowsL, List.length_cons, List.length_append]
    omega
theorem blen_rows : ∀ b : List Br, b.length ≤ (Br.rowsL b).length
  | [] => Nat.zero_le _
  | s :: r => by
    have h1 := Br.rows_pos s
    have h2 := blen_rows r
    simp only [Br.rowsL, List.length_cons, List.length_append]
    omega
theorem tlen_rows : ∀ ts : List (Str × List Stm), ts.length ≤ (talksR ts).length
  | [] => Nat.zero_le _
  | t :: r => by
    have h2 := tlen_rows r
    have h1 : 1 ≤ (talkR t).length := by simp [talkR, blockR]
    simp only [talksR, List.flatMap_cons, List.length_cons, List.length_append] at h2 ⊢
    omega
theorem body_cnt (f : Fr) : f.fr.body.length ≤ f.cnt := by
  cases f with
  | all ts => have := tlen_rows ts; simp [Fr.fr, Fr.cnt]; omega
  | talk w b => have := len_rows b; simp [Fr.fr, Fr.cnt, Stm.trs_eq]; omega
  | loop b => have := len_rows b; simp [Fr.fr, Fr.cnt, Stm.trs_eq]; omega
  | wait n b => have := blen_rows b; simp [Fr.fr, Fr.cnt, Br.trs_eq]; omega
  | on p b => have := len_rows b; simp [Fr.fr, Fr.cnt, Stm.trs_eq]; omega
  | iff c b => have := len_rows b; simp [Fr.fr, Fr.cnt, Stm.trs_eq]; omega
  | els c a b => have := len_rows b; simp [Fr.fr, Fr.cnt, Stm.trs_eq]; omega
theorem cntP_mem : ∀ {p : List Fr} {f : Fr}, f ∈ p → f.cnt ≤ cntP p
  | [], _, h => nomatch h
  | g :: r, f, h => by
    simp only [cntP]
    rcases List.mem_cons.mp h with rfl | h
    · omega
    · have := cntP_mem h
      omega
theorem stepOk_of {ys : List Str} {d : Nat} {p : List Fr} (h : PilOk ys d p) (hd : d + p.length = 14) (hc : cntP p ≤ 1000) : StepOk (p.map Fr.fr) := by
  refine ⟨?_, fun k => ?_, fun k => ?_, fun k => ?_, fun f m => ?_, by rw [List.length_map]; omega⟩
  · obtain ⟨f, r, rfl⟩ := h.ne
    simp
  · obtain ⟨q, b, n, bs, f, r, rfl⟩ := h.kon k
    simp only [List.length_map, List.length_cons]
    omega
  · obtain ⟨n, bs, f, r, rfl⟩ := h.kwait k
    simp only [List.length_map, List.length_cons]
    omega
  · obtain ⟨w, b, ts, rfl⟩ := h.ktalk k
    simp
  · obtain ⟨g, hg, rfl⟩ := List.mem_map.mp m
    have h1 := body_cnt g
    have h2 := cntP_mem hg
    omega
theorem buildU_snoc {ys : List Str} {cs : List Int} {i : Nat} {c : Int} (e : cs[i]? = some c) : buildU ys (cs.take (i + 1)) = stepU ys (buildU ys (cs.take i)) c := by
  unfold buildU
  rw [List.take_add_one, e, List.foldl_append]
  rfl
def boxN (n : Int) (ys : List Str) (k : Nat) : Str × Int := (atN ys (k : Int), 2 + n / ([5, 21, 89] : List Int).getD k 5 % 4)
def boxesF (n : Int) : List (Str × Int) := (List.range (n % 4).toNat).map (boxN n (namesF n))
def cellsF (ns : List Int) : List Int := ((ns.drop 2).take (54 - 2)).map numF
def bodyOf : List L2.Frame → List Tr
  | f :: _ => f.body
  | [] => []
def bodiesU (ns : List Int) : List Tr := bodyOf (closeK 12 (buildU (namesF (numF (ns.headD 0))) (cellsF ns)))
def scrU (ns : List Int) : List Tr := [.lst ((boxesF (numF (ns.headD 0))).map boxT), .lst (bodiesU ns)]
def sp_script (K : PySem.W.Frag) : Sp := fun vs H Q _ => ∃ (a : Addr) (ns : List Int), vs = [.ref a, .int 52] ∧ SqL K H a (ns.map V.int) ∧ ns.length ≤ 63 ∧ ∀ v fs H', Same H H' → (Tr.tup (scrU ns)).At H' v fs → Q v H'
theorem ok_law_script (T : Txt K mg w.params t) : FnOk P w K mg base CX0 10 t.a__law_script t.fd__law_script ["script", "many"] (sp_script K) := by
  have G__law_cell_at := ok_law_cell_at (P := P) (w := w) (base := base) T
  have G__law_close := ok_law_close (P := P) (w := w) (base := base) T
  have G__law_name := ok_law_name (P := P) (w := w) (base := base) T
  have G__law_number := ok_law_number (P := P) (w := w) (base := base) T
  have G__law_step := ok_law_step (P := P) (w := w) (base := base) T
  refine T.F__law_script.ok sc_law_script (fun vs H Q E h => ?_) (fun cdv A outer s H vs Q E hr h => ?_)
  · obtain ⟨a, ns, rfl, _⟩ := h
    rfl
  · obtain ⟨a, ns, rfl, hS, hnl, q⟩ := h
    refine ⟨_, (@pss_cons _ _ _ _ _ (@ps_set _ _ 2 _ _ _ _ sc_law_script.nd rfl (by first | exact Or.inl rfl | exact Or.inr rfl) (@pe_call _ _ _ _ _ _ _ _ _ _ _ _ _ _ _ _ G__law_number (hr.mono (by omega)) rfl T.m__law_number T.F__law_number.kp T.b__law_number .nil pass0 (@pa_cons _ _ _ _ _ (@pe_call _ _ _ _ _ _ _ _ _ _ _ _ _ _ _ _ G__law_cell_at (hr.mono (by omega)) rfl T.m__law_cell_at T.F__law_cell_at.kp T.b__law_cell_at .nil pass0 (@pa_cons _ _ _ _ _ (pv 0) (@pa_cons _ _ _ _ _ (@pe_int _ _ _ _) (@pa_nil _) (by rfl)) (by rfl)) (by decide) (by rfl) (by rfl)) (@pa_nil _) (by rfl)) (by decide) (by rfl) (by rfl)) (by rfl) (by first | exact Or.inl rfl | exact Or.inr rfl))
      (@pss_cons _ _ _ _ _ (@ps_set _ _ 3 _ _ _ _ sc_law_script.nd rfl (by first | exact Or.inl rfl | exact Or.inr rfl) (pe_lc (Nt := ["few"]) (Nf := ["number"]) (caps := [2]) rfl (comp_ok (sc := defScope s_law_script) rfl rfl (by decide +kernel) (by decide +kernel) (by decide +kernel) rfl (by decide +kernel)) (kpi_list K (@pe_lstN _ _ _ _ (@pa_cons _ _ _ _ _ (@pe_int _ _ _ _) (@pa_cons _ _ _ _ _ (@pe_int _ _ _ _) (@pa_cons _ _ _ _ _ (@pe_int _ _ _ _) (@pa_cons _ _ _ _ _ (@pe_int _ _ _ _) (@pa_nil _) (by rfl)) (by rfl)) (by rfl)) (by rfl)))) (fun _ _ _ _ _ => (pg_name (i := 0) (show (["few", "number"] : List Str).Nodup by decide +kernel) rfl (by first | exact Or.inl rfl | exact Or.inr rfl))) (fun _ _ _ _ _ => (@pts_nil _)) (fun _ _ _ _ _ => (@pe_call _ _ _ _ _ _ _ _ _ _ _ _ _ _ _ _ G__law_name (hr.mono (by omega)) rfl T.m__law_name T.F__law_name.kp T.b__law_name .nil pass0 (@pa_cons _ _ _ _ _ (@pe_op _ _ _ _ _ _ _ _ op_fdiv (pv 1) (pv 0)) (@pa_nil _) (by rfl)) (by decide) (by rfl) (by rfl)))) (by rfl) (by first | exact Or.inl rfl | exact Or.inr rfl))
      (@pss_cons _ _ _ _ _ (ps_lc (i := 4) (Nt := ["k"]) (Nf := ["names", "number"]) (caps := [3, 2]) rfl (comp_ok (sc := defScope s_law_script) rfl rfl (by decide +kernel) (by decide +kernel) (by decide +kernel) rfl (by decide +kernel)) (pi_range1 rfl T.z_range (@pa_cons _ _ _ _ _ (@pe_op _ _ _ _ _ _ _ _ op_mod (pv 2) (@pe_int _ _ _ _)) (@pa_nil _) (by rfl))) (fun _ _ _ _ _ => (pg_name (i := 0) (show (["k", "names", "number"] : List Str).Nodup by decide +kernel) rfl (by first | exact Or.inl rfl | exact Or.inr rfl))) (fun _ _ _ _ _ => (@pts_nil _)) (fun _ _ _ _ _ => (@pe_tupN _ _ _ _ _ (@pa_cons _ _ _ _ _ (@pe_ix _ _ _ _ _ _ _ (kix_list K) (pv 1) (pv 0) (fun _ _ => rfl)) (@pa_cons _ _ _ _ _ (@pe_op _ _ _ _ _ _ _ _ op_plus (@pe_int _ _ _ _) (@pe_op _ _ _ _ _ _ _ _ op_mod (@pe_op _ _ _ _ _ _ _ _ op_fdiv (pv 2) (@pe_ix _ _ _ _ _ _ _ (kix_list K) (@pe_lstN _ _ _ _ (@pa_cons _ _ _ _ _ (@pe_int _ _ _ _) (@pa_cons _ _ _ _ _ (@pe_int _ _ _ _) (@pa_cons _ _ _ _ _ (@pe_int _ _ _ _) (@pa_nil _) (by rfl)) (by rfl)) (by rfl))) (pv 0) (fun _ _ => rfl))) (@pe_int _ _ _ _))) (@pa_nil _) (by rfl)) (by rfl)))) sc_law_script.nd rfl (by first | exact Or.inl rfl | exact Or.inr rfl) rfl)
      (@pss_cons _ _ _ _ _ (@ps_set _ _ 5 _ _ _ _ sc_law_script.nd rfl (by first | exact Or.inl rfl | exact Or.inr rfl) (@pe_lstN _ _ _ _ (@pa_cons _ _ _ _ _ (@pe_lstN _ _ _ _ (@pa_cons _ _ _ _ _ (@pe_str _ _ _ _) (@pa_cons _ _ _ _ _ (@pe_non _ _ _) (@pa_cons _ _ _ _ _ (@pe_lstN _ _ _ _ (@pa_nil _)) (@pa_cons _ _ _ _ _ (@pe_lstN _ _ _ _ (@pa_nil _)) (@pa_nil _) (by rfl)) (by rfl)) (by rfl)) (by rfl))) (@pa_nil _) (by rfl))) (by rfl) (by first | exact Or.inl rfl | exact Or.inr rfl))
      (@pss_cons _ _ _ _ _ (@ps_for _ _ _ _ _ _ _ _ PassesOwn.never rfl (kpi_list K (@pe_slice _ _ _ _ _ _ _ _ _ _ (ksl_list K) (pv 0) (@po_some _ _ _ (@pe_int _ _ _ _)) (@po_some _ _ _ (@pe_op _ _ _ _ _ _ _ _ op_plus (@pe_int _ _ _ _) (pv 1))))) (pg_name (i := 6) sc_law_script.nd rfl (by first | exact Or.inl rfl | exact Or.inr rfl)) (@pss_one _ _ _ (@ps_expr _ _ _ _ (@pe_call _ _ _ _ _ _ _ _ _ _ _ _ _ _ _ _ G__law_step (hr.mono (by omega)) rfl T.m__law_step T.F__law_step.kp T.b__law_step .nil pass0 (@pa_cons _ _ _ _ _ (pv 5) (@pa_cons _ _ _ _ _ (@pe_call _ _ _ _ _ _ _ _ _ _ _ _ _ _ _ _ G__law_number (hr.mono (by omega)) rfl T.m__law_number T.F__law_number.kp T.b__law_number .nil pass0 (@pa_cons _ _ _ _ _ (pv 6) (@pa_nil _) (by rfl)) (by decide) (by rfl) (by rfl)) (@pa_cons _ _ _ _ _ (pv 3) (@pa_nil _) (by rfl)) (by rfl)) (by rfl)) (by decide) (by rfl) (by rfl)) (by rfl))) (by intro _; rfl))
      (@pss_cons _ _ _ _ _ (@ps_while _ _ _ _ _ _ PassesOwn.never (@pt_cmpR _ _ _ _ _ _ _ _ op_gt (@pe_callB _ _ _ _ _ _ _ _ _ (kcl_len K) (by rfl) T.z_len bb_len (@pa_cons _ _ _ _ _ (pv 5) (@pa_nil _) (by rfl)) (by decide) (by decide) (by rfl) (by rfl)) (@pe_int _ _ _ _) (nomark _)) (@pss_one _ _ _ (@ps_expr _ _ _ _ (@pe_call _ _ _ _ _ _ _ _ _ _ _ _ _ _ _ _ G__law_close (hr.mono (by omega)) rfl T.m__law_close T.F__law_close.kp T.b__law_close .nil pass0 (@pa_cons _ _ _ _ _ (pv 5) (@pa_nil _) (by rfl)) (by decide) (by rfl) (by rfl)) (by rfl))))
      (@pss_one _ _ _ (@ps_ret _ _ _ _ (@pe_tupN _ _ _ _ _ (@pa_cons _ _ _ _ _ (pv 4) (@pa_cons _ _ _ _ _ (@pe_ix _ _ _ _ _ _ _ (kix_list K) (@pe_ix _ _ _ _ _ _ _ (kix_list K) (pv 5) (@pe_int _ _ _ _) (fun _ _ => rfl)) (@pe_int _ _ _ _) (fun _ _ => rfl)) (@pa_nil _) (by rfl)) (by rfl))))))))))), ?_⟩
    walk_at "go"
    refine ⟨a, ns, rfl, hS, ?_⟩
    walk_at "run"
    refine ⟨_, rfl, ?_⟩
    walk_at "run"
    generalize hn0 : numF (ns.headD 0) = n0
    have hgl := namesF_len n0
    have hy : namesF n0 ≠ [] := by intro z; rw [z] at hgl; simp at hgl
    intro p1 H1 f1 s1 e1
    walk_at "run"
    refine ⟨⟨_, SqL.of e1⟩, cc_list (xs := [.int 4, .int 3001, .int 700001, .int 90000007]) (le_line (by decide)) (fun i acc H2 => Same H1 H2 ∧ i ≤ 4 ∧ acc = strsV ((namesF n0).take i)) ⟨Same.refl _, by omega, rfl⟩ (fun i acc H2 ⟨s0, hi, e⟩ => ⟨?_, s0.seq (SqL.of e1)⟩) ?_ ?_⟩
    · subst e
      simp only [strsV, List.length_map, List.length_take]
      omega
    · rintro i x acc H2 hx ⟨s2, hi, rfl⟩
      have hfew : ∃ few : Int, x = .int few ∧ 0 < few ∧ few < 1073741824 ∧ (namesF n0)[i]? = some (fixN (wordF (n0 / few))) ∧ i < 4 := by
        have hi4 : i < 4 := by have := (List.getElem?_eq_some_iff.mp hx).1; simpa using this
        have hc : i = 0 ∨ i = 1 ∨ i = 2 ∨ i = 3 := by omega
        rcases hc with rfl | rfl | rfl | rfl
        · exact ⟨4, (Option.some.inj hx).symm, by decide, by decide, rfl, hi4⟩
        · exact ⟨3001, (Option.some.inj hx).symm, by decide, by decide, rfl, hi4⟩
        · exact ⟨700001, (Option.some.inj hx).symm, by decide, by decide, rfl, hi4⟩
        · exact ⟨90000007, (Option.some.inj hx).symm, by decide, by decide, rfl, hi4⟩
      obtain ⟨few, rfl, w0, w1, hnm, hi4⟩ := hfew
      walk_at "run"
      refine i_rI ⟨w0, w1⟩ ?_
      walk_at "run"
      refine ⟨_, rfl, fun H3 s3 => ?_⟩
      exact ⟨s2.trans s3, hi4, strsV_snoc hnm⟩
    rintro acc H2 ⟨s2, _, rfl⟩ ln H3 f3 s3 e3
    have e3' : H3 ln = some (.lst (strsV (namesF n0))) := e3
    clear e3
    walk_at "run"
    refine cc_range (lo := 0) (n := (n0 % 4).toNat) (le_line (by omega)) (fun i acc H4 => Same H3 H4 ∧ i ≤ (n0 % 4).toNat ∧ acc.length = i ∧ Tr.Ats H4 (((List.range i).map (boxN n0 (namesF n0))).map boxT) acc []) ⟨Same.refl _, Nat.zero_le _, rfl, by simp [Tr.Ats]⟩ (fun i acc H4 ⟨_, _, hl, _⟩ => by omega) ?_ ?_
    · rintro i acc H4 hi ⟨s4, _, hl, hat⟩
      have ei : (0 : Int) + (i : Int) = (i : Int) := by omega
      rw [ei]
      walk_at "run"
      refine i_ixL (SqL.of (s4 _ _ e3')) (atI_strs (by omega) (by rw [hgl]; omega)) ?_
      walk_at "run"
      intro p5 H5 f5 s5 e5
      walk_at "run"
      have hc : i = 0 ∨ i = 1 ∨ i = 2 := by omega
      have hfew : ∃ few : Int, atI [V.int 5, V.int 21, V.int 89] (i : Int) = some (V.int few) ∧ 0 < few ∧ few < 1073741824 ∧ few = ([5, 21, 89] : List Int).getD i 5 := by
        rcases hc with rfl | rfl | rfl
        · exact ⟨5, rfl, by decide, by decide, rfl⟩
        · exact ⟨21, rfl, by decide, by decide, rfl⟩
        · exact ⟨89, rfl, by decide, by decide, rfl⟩
      obtain ⟨few, hfe, w0, w1, hfd⟩ := hfew
      refine i_ixL (SqL.of e5) hfe ?_
      walk_at "run"
      refine i_rI ⟨w0, w1⟩ ?_
      walk_at "run"
      intro p6 H6 f6 s6 e6
      refine ⟨s4.trans (s5.trans s6), hi, by simp [hl], ?_⟩
      rw [List.range_succ, List.map_append, List.map_append]
      have := (hat.mono ((s5.trans s6).keep _)).snoc (gs := []) (x := boxT (boxN n0 (namesF n0) i)) (v := .ref p6) (by
        simp only [boxT, boxN, Tr.At, Tr.Ats]
        rw [← hfd]
        exact ⟨p6, _, rfl, e6, _, _, [], [], rfl, rfl, ⟨rfl, rfl⟩, _, _, [], [], rfl, rfl, ⟨rfl, rfl⟩, rfl, rfl⟩)
      exact this
    rintro acc H5 ⟨s5, _, hl5, hat5⟩ lb H6 f6 s6 e6
    walk_at "run"
    intro b1 H7 f7 s7 e7
    walk_at "run"
    intro b2 H8 f8 s8 e8
    walk_at "run"
    intro fr H9 f9 s9 e9
    walk_at "run"
    intro P H10 f10 s10 e10
    walk_at "run"
    have s010 : Same H H10 := s1.trans (s2.trans (s3.trans (s5.trans (s6.trans (s7.trans (s8.trans (s9.trans s10)))))))
    refine i_slL (s010.seq hS) ?_
    intro q1 H11 f11 s11 e11
    have ecut : cutV (ns.map V.int) (some 2) (some (2 + 52)) = ((ns.drop 2).take (54 - 2)).map V.int := cut_from (j := 2) (k := 54)
    rw [ecut] at e11
    walk_at "run"
    have nb2 : b2 ≠ b1 := fun z => by rw [z, e7] at f8; cases f8
    have nf1 : fr ≠ b1 := fun z => by rw [z, s8 _ _ e7] at f9; cases f9
    have nf2 : fr ≠ b2 := fun z => by rw [z, e8] at f9; cases f9
    have nP1 : P ≠ b1 := fun z => by rw [z, s9 _ _ (s8 _ _ e7)] at f10; cases f10
    have nP2 : P ≠ b2 := fun z => by rw [z, s9 _ _ e8] at f10; cases f10
    have nP3 : P ≠ fr := fun z => by rw [z, e9] at f10; cases f10
    obtain ⟨H0, hH0⟩ : ∃ H0 : Hp, H0 = fun b => if b = P ∨ b = fr ∨ b = b1 ∨ b = b2 then none else H11 b := ⟨_, rfl⟩
    have h0n : ∀ b, b = P ∨ b = fr ∨ b = b1 ∨ b = b2 → H0 b = none := fun b hb => by rw [hH0]; exact if_pos hb
    have h0s : ∀ b o, H6 b = some o → H0 b = some o := fun b o e => by
      rw [hH0]
      have hn : ¬ (b = P ∨ b = fr ∨ b = b1 ∨ b = b2) := by
        rintro (z | z | z | z)
        · rw [z, (s7.trans (s8.trans s9)).free f10] at e; cases e
        · rw [z, (s7.trans s8).free f9] at e; cases e
        · rw [z, f7] at e; cases e
        · rw [z, s7.free f8] at e; cases e
      show (if _ then none else H11 b) = _
      rw [if_neg hn]
      exact (s7.trans (s8.trans (s9.trans (s10.trans s11)))) _ _ e
    have h0q : H0 q1 = some (.lst (((ns.drop 2).take (54 - 2)).map V.int)) := by
      rw [hH0]
      have hn : ¬ (q1 = P ∨ q1 = fr ∨ q1 = b1 ∨ q1 = b2) := by
        rintro (z | z | z | z)
        · rw [z, e10] at f11; cases f11
        · rw [z, s10 _ _ e9] at f11; cases f11
        · rw [z, s10 _ _ (s9 _ _ (s8 _ _ e7))] at f11; cases f11
        · rw [z, s10 _ _ (s9 _ _ e8)] at f11; cases f11
      show (if _ then none else H11 q1) = _
      rw [if_neg hn]
      exact e11
    have s0 : Same H0 H11 := fun b o e => by
      rw [hH0] at e
      dsimp only at e
      split at e
      · cases e
      · exact e
    have ps0 : PSX H0 H11 P pile0 [] := by
      refine ⟨s0, by simp, [.ref fr], (fr :: ([] ++ (b1 :: [] ++ b2 :: []))) ++ [], s11 _ _ e10, ⟨_, [], _, [], rfl, rfl, ⟨fr, b1, b2, [], [], .non, [], [], [], rfl, s11 _ _ (s10 _ _ e9), by simp [Tr.At], s11 _ _ (s10 _ _ (s9 _ _ (s8 _ _ e7))), by simp [Tr.Ats], s11 _ _ (s10 _ _ (s9 _ _ e8)), by simp [Tr.Ats], rfl⟩, rfl, rfl⟩, ?_, fun b hb => h0n b ?_⟩
      · simp [nP1, nP2, nP3, nf1, nf2, Ne.symm nb2]
      · simpa using hb
    have hln : H0 ln = some (.lst (strsV (namesF n0))) := h0s _ _ (s6 _ _ (s5 _ _ e3'))
    have hcl : (cellsF ns).length ≤ 63 := by simp [cellsF]; omega
    have hnum : ∀ (i : Nat) (c : V), (((ns.drop 2).take (54 - 2)).map V.int)[i]? = some c → ∃ z, c = .int z ∧ (cellsF ns)[i]? = some (numF z) := by
      intro i c hc
      rw [List.getElem?_map] at hc
      cases hz : ((ns.drop 2).take (54 - 2))[i]? with
      | none => rw [hz] at hc; cases hc
      | some z =>
        rw [hz] at hc
        exact ⟨z, (Option.some.inj hc).symm, by rw [cellsF, List.getElem?_map, hz]; rfl⟩
    refine ⟨⟨_, SqL.of e11⟩, for_list (K := K) (a := q1) (xs := ((ns.drop 2).take (54 - 2)).map V.int) (fun i σ H' => PSX H0 H' P (buildU (namesF n0) ((cellsF ns).take i)) [] ∧ ∃ x, σ = [some (.ref a), some (.int 52), some (.int n0), some (.ref ln), some (.ref lb), some (.ref P), x]) ⟨ps0, _, rfl⟩ (fun i σ H' _ ⟨ps, _⟩ => SqL.of (ps.same _ _ h0q)) ?_ ?_⟩
    · rintro i c σ H12 hc ⟨ps, x, rfl⟩
      obtain ⟨z, rfl, hz⟩ := hnum i c hc
      obtain ⟨d, p, hp1, hp2, hp3, hp4, hp5⟩ := build_ok hy ((cellsF ns).take i)
      have hok : StepOk (buildU (namesF n0) ((cellsF ns).take i)) := by
        rw [hp1]
        refine stepOk_of hp2 hp3 ?_
        have : ((cellsF ns).take i).length ≤ 63 := by rw [List.length_take]; omega
        omega
      walk_at "run"
      refine ⟨_, rfl, ?_⟩
      walk_at "run"
      refine ⟨P, ln, _, H0, _, _, rfl, ps, hln, hy, by omega, hok, fun H13 ps' => ?_⟩
      walk_at "run"
      refine ⟨?_, _, rfl⟩
      rw [buildU_snoc hz]
      exact ps'
    · rintro σ H12 ⟨ps, x, rfl⟩
      have hxl : (((ns.drop 2).take (54 - 2)).map V.int).length = (cellsF ns).length := by simp [cellsF]
      rw [hxl, List.take_length] at ps
      walk_at "run"
      obtain ⟨d, p, hp1, hp2, hp3, hp4, hp5⟩ := build_ok hy (cellsF ns)
      have hpl : p.length ≤ 13 := by rcases hp4 with z | z <;> omega
      rw [hp1] at ps
      refine ⟨fun m σ H3 => ∃ (d : Nat) (p : List Fr) (k : Nat), m = p.length ∧ PSX H0 H3 P (p.map Fr.fr) [] ∧ PilOk (namesF n0) d p ∧ d + p.length = 14 ∧ lenOk p ∧ cntP p ≤ 500 ∧ p.length ≤ k + 1 ∧ closeK k (p.map Fr.fr) = closeK 12 (buildU (namesF n0) (cellsF ns)) ∧ σ = [some (.ref a), some (.int 52), some (.int n0), some (.ref ln), some (.ref lb), some (.ref P), x], ⟨_, d, p, 12, rfl, ps, hp2, hp3, hp4, by omega, by omega, by rw [hp1], rfl⟩, ?_⟩
      rintro m σ H3 ⟨d, p, k, rfl, ps, g2, g3, g4, g5, g6, g7, rfl⟩
      obtain ⟨F, r, rfl⟩ := g2.ne
      obtain ⟨vs, at1, l1, m1, us, vw, fw, gs, hP, hv, hvl, hat, hwt, hl, hus⟩ := ps.top
      rw [List.length_map] at hvl
      walk_at "run"
      refine i_lenL (SqL.of hP) ?_
      walk_at "run"
      by_cases hlen : 1 < ((vs.length : Nat) : Int)
      · rw [decide_eq_true hlen]
        refine iteT ?_
        have hl2 : 2 ≤ (F :: r).length := by simp only [List.length_cons]; omega
        have hso := stepOk_of g2 g3 (by omega)
        obtain ⟨d', p', q1, q2, q3, q4, q5, q6, q7⟩ := g2.close hl2 g4
        refine ⟨fun σ' H' => ∃ m', m' < (F :: r).length ∧ ∃ (d : Nat) (p : List Fr) (k : Nat), m' = p.length ∧ PSX H0 H' P (p.map Fr.fr) [] ∧ PilOk (namesF n0) d p ∧ d + p.length = 14 ∧ lenOk p ∧ cntP p ≤ 500 ∧ p.length ≤ k + 1 ∧ closeK k (p.map Fr.fr) = closeK 12 (buildU (namesF n0) (cellsF ns)) ∧ σ' = [some (.ref a), some (.int 52), some (.int n0), some (.ref ln), some (.ref lb), some (.ref P), x], fun _ _ h => h, ?_⟩
        walk_at "run"
        refine ⟨P, H0, _, rfl, ps, by rw [List.length_map]; exact hl2, hso.on, hso.bd, fun H4 ps' => ?_⟩
        walk_at "run"
        rw [q1] at ps'
        obtain ⟨k', rfl⟩ : ∃ k', k = k' + 1 := ⟨k - 1, by omega⟩
        refine ⟨_, q4, d', p', k', rfl, ps', q2, by omega, .inl (by omega), by omega, by omega, ?_, rfl⟩
        rw [← g7, closeK, if_pos (by rw [List.length_map]; omega), q1]
      · rw [decide_eq_false hlen]
        refine iteF ?_
        have hr : r = [] := List.eq_nil_of_length_eq_zero (by omega)
        subst hr
        have hfin : bodiesU ns = F.fr.body := by
          unfold bodiesU
          rw [hn0, ← g7]
          cases k with
          | zero => rfl
          | succ k => rw [closeK, if_neg (by simp)]; rfl
        walk_at "run"
        obtain ⟨vb, ab, lb2, mb, ub, vwb, gsb, hPb, hvb, hab, hlb, hub⟩ := ps.bot (f := F.fr) rfl
        refine i_ixL (SqL.of hPb) hvb ?_
        walk_at "run"
        refine i_ixL (SqL.of hab) (atI_nat (j := 2) rfl) ?_
        walk_at "run"
        intro pz Hz fz sz ez
        have hH0 : Same H H0 := fun b o e => h0s b o ((s1.trans (s2.trans (s3.trans (s5.trans s6)))) _ _ e)
        have h0z : Same H0 Hz := ps.same.trans sz
        have h60 : Same H6 H0 := h0s
        have hsc : scrU ns = [.lst ((boxesF n0).map boxT), .lst F.fr.body] := by
          unfold scrU
          rw [hfin, hn0]
        have hA := at_tup2 (x := .lst ((boxesF n0).map boxT)) (y := .lst F.fr.body) (at_lst ((h60.trans h0z) _ _ e6) (hat5.mono ((s6.trans (h60.trans h0z)).keep _))) (at_lst (sz _ _ hlb) (hub.mono (sz.keep _))) ez
        rw [← hsc] at hA
        exact q (.ref pz) _ Hz (hH0.trans h0z) hA
def sp_part (K : PySem.W.Frag) (d : Nat) : Sp := fun vs H Q _ => ∃ (v : V) (x : Th) (ys : List Str), vs = [v] ∧ x.At H v ∧ x.hh < d ∧ x.sz ≤ 10000 ∧ x.ok ys ∧ Good ys ∧ ∀ H', Same H H' → Q (.str (Tx x.words)) H'
theorem ok_law_part (T : Txt K mg w.params t) : ∀ d : Nat, FnOk P w K mg base CX0 (d + 1) t.a__law_part t.fd__law_part ["thing"] (sp_part K d) := by
  intro d
  induction d with
  | zero => exact vac (fun vs H Q E ⟨_, _, _, _, _, h, _⟩ => Nat.not_lt_zero _ h)
  | succ d G__law_part =>
    refine T.F__law_part.ok sc_law_part (fun vs H Q E h => ?_) (fun cdv A outer s H vs Q E hr h => ?_)
    · obtain ⟨v, x, ys, rfl, _⟩ := h
      rfl
    · obtain ⟨v, x, ys, rfl, hx, hh, hz, ho, hg, q⟩ := h
      refine ⟨_, (@pss_cons _ _ _ _ _ (@ps_if _ _ _ _ _ _ _ _ (@pt_cmpR _ _ _ _ _ _ _ _ (kop_in K) (@pe_ix _ _ _ _ _ _ _ (kix_tup K) (pv 0) (@pe_int _ _ _ _) (fun _ _ => rfl)) (@pe_tupN _ _ _ _ _ (@pa_cons _ _ _ _ _ (@pe_str _ _ _ _) (@pa_cons _ _ _ _ _ (@pe_str _ _ _ _) (@pa_nil _) (by rfl)) (by rfl))) (by with_unfolding_all rfl)) (@pss_one _ _ _ (@ps_ret _ _ _ _ (@pe_callTy _ _ _ _ _ _ _ _ _ call_str (by rfl) T.z_str bb_str (@pa_cons _ _ _ _ _ (@pe_ix _ _ _ _ _ _ _ (kix_tup K) (pv 0) (@pe_int _ _ _ _) (fun _ _ => rfl)) (@pa_nil _) (by rfl)) (by decide) (by decide) (by rfl) (by rfl)))) (@pss_nil _))
      (@pss_cons _ _ _ _ _ (@ps_if _ _ _ _ _ _ _ _ (@pt_cmpR _ _ _ _ _ _ _ _ op_eq (@pe_ix _ _ _ _ _ _ _ (kix_tup K) (pv 0) (@pe_int _ _ _ _) (fun _ _ => rfl)) (@pe_str _ _ _ _) (nomark _)) (@pss_one _ _ _ (@ps_ret _ _ _ _ (@pe_op _ _ _ _ _ _ _ _ op_plus (@pe_str _ _ _ _) (@pe_call _ _ _ _ _ _ _ _ _ _ _ _ _ _ _ _ G__law_part (hr.mono (by omega)) rfl T.m__law_part T.F__law_part.kp T.b__law_part .nil pass0 (@pa_cons _ _ _ _ _ (@pe_ix _ _ _ _ _ _ _ (kix_tup K) (pv 0) (@pe_int _ _ _ _) (fun _ _ => rfl)) (@pa_nil _) (by rfl)) (by decide) (by rfl) (by rfl))))) (@pss_nil _))
      (@pss_cons _ _ _ _ _ (@ps_set _ _ 1 _ _ _ _ sc_law_part.nd rfl (by first | exact Or.inl rfl | exact Or.inr rfl) (@pe_dget _ _ _ _ _ _ (by exact hu_of hr) (@pe_disp _ _ _ _ _ (@pps_cons _ _ _ _ _ _ _ _ _ (@pe_str _ _ _ _) (@pe_str _ _ _ _) (@pps_cons _ _ _ _ _ _ _ _ _ (@pe_str _ _ _ _) (@pe_str _ _ _ _) (@pps_cons _ _ _ _ _ _ _ _ _ (@pe_str _ _ _ _) (@pe_str _ _ _ _) (@pps_cons _ _ _ _ _ _ _ _ _ (@pe_str _ _ _ _) (@pe_str _ _ _ _) (@pps_cons _ _ _ _ _ _ _ _ _ (@pe_str _ _ _ _) (@pe_str _ _ _ _) (@pps_nil _ _)))))) rfl rfl (by simp) (by decide)) (@pe_ix _ _ _ _ _ _ _ (kix_tup K) (pv 0) (@pe_int _ _ _ _) (fun _ _ => rfl)) (fun _ _ => rfl)) (by rfl) (by first | exact Or.inl rfl | exact Or.inr rfl))
      (@pss_cons _ _ _ _ _ (@ps_set _ _ 2 _ _ _ _ sc_law_part.nd rfl (by first | exact Or.inl rfl | exact Or.inr rfl) (@pe_op _ _ _ _ _ _ _ _ op_plus (@pe_op _ _ _ _ _ _ _ _ op_plus (@pe_call _ _ _ _ _ _ _ _ _ _ _ _ _ _ _ _ G__law_part (hr.mono (by omega)) rfl T.m__law_part T.F__law_part.kp T.b__law_part .nil pass0 (@pa_cons _ _ _ _ _ (@pe_ix _ _ _ _ _ _ _ (kix_tup K) (pv 0) (@pe_int _ _ _ _) (fun _ _ => rfl)) (@pa_nil _) (by rfl)) (by decide) (by rfl) (by rfl)) (pv 1)) (@pe_call _ _ _ _ _ _ _ _ _ _ _ _ _ _ _ _ G__law_part (hr.mono (by omega)) rfl T.m__law_part T.F__law_part.kp T.b__law_part .nil pass0 (@pa_cons _ _ _ _ _ (@pe_ix _ _ _ _ _ _ _ (kix_tup K) (pv 0) (@pe_int _ _ _ _) (fun _ _ => rfl)) (@pa_nil _) (by rfl)) (by decide) (by rfl) (by rfl))) (by rfl) (by first | exact Or.inl rfl | exact Or.inr rfl))
      (@pss_cons _ _ _ _ _ (@ps_if _ _ _ _ _ _ _ _ (@pt_cmpR _ _ _ _ _ _ _ _ (kop_in K) (@pe_ix _ _ _ _ _ _ _ (kix_tup K) (pv 0) (@pe_int _ _ _ _) (fun _ _ => rfl)) (@pe_tupN _ _ _ _ _ (@pa_cons _ _ _ _ _ (@pe_str _ _ _ _) (@pa_cons _ _ _ _ _ (@pe_str _ _ _ _) (@pa_nil _) (by rfl)) (by rfl))) (by with_unfolding_all rfl)) (@pss_one _ _ _ (@ps_ret _ _ _ _ (pv 2))) (@pss_nil _))
      (@pss_one _ _ _ (@ps_ret _ _ _ _ (@pe_op _ _ _ _ _ _ _ _ op_plus (@pe_op _ _ _ _ _ _ _ _ op_plus (@pe_str _ _ _ _) (pv 2)) (@pe_str _ _ _ _))))))))), ?_⟩
      walk_at "go"
      rcases Th.view hx with ⟨i, a, rfl, rfl, ha⟩ | ⟨n, a, rfl, rfl, ha⟩ | ⟨c, a, v1, rfl, rfl, ha, h1⟩ | ⟨m, sg, x1, x2, a, v1, v2, W⟩
      · refine i_ixT (SqT.of ha) (atI_nat (j := 0) rfl) ?_
        walk_at "run"
        intro p1 H1 f1 s1 e1
        refine i_inT (ys := [Str.ofString "number", Str.ofString "box"]) (SqT.of e1) ?_
        walk_at "run"
        refine i_itDT (by decide +kernel) ?_
        walk_at "run"
        refine i_ixT (SqT.of (s1 _ _ ha)) (atI_nat (j := 1) rfl) ?_
        walk_at "run"
        have ho' : 0 ≤ i ∧ i < 10 := ho
        refine i_strI (log_small (by omega)) ?_
        exact q H1 s1
      · refine i_ixT (SqT.of ha) (atI_nat (j := 0) rfl) ?_
        walk_at "run"
        intro p1 H1 f1 s1 e1
        refine i_inT (ys := [Str.ofString "number", Str.ofString "box"]) (SqT.of e1) ?_
        walk_at "run"
        refine i_itDT (by decide +kernel) ?_
        walk_at "run"
        refine i_ixT (SqT.of (s1 _ _ ha)) (atI_nat (j := 1) rfl) ?_
        walk_at "run"
        exact q H1 s1
      · refine i_ixT (SqT.of ha) (atI_nat (j := 0) rfl) ?_
        walk_at "run"
        intro p1 H1 f1 s1 e1
        refine i_inT (ys := [Str.ofString "number", Str.ofString "box"]) (SqT.of e1) ?_
        walk_at "run"
        refine i_itDF (by decide +kernel) ?_
        walk_at "run"
        refine i_ixT (SqT.of (s1 _ _ ha)) (atI_nat (j := 0) rfl) ?_
        walk_at "run"
        refine i_itDT rfl ?_
        walk_at "run"
        refine i_ixT (SqT.of (s1 _ _ ha)) (atI_nat (j := 1) rfl) ?_
        walk_at "run"
        simp only [Th.hh, Cd.hh, Th.sz, Cd.sz] at hh hz
        have ho' : (Th.cd c).ok ys := ho
        refine ⟨v1, .cd c, ys, rfl, h1.mono s1.tups, by simp only [Th.hh]; omega, by simp only [Th.sz]; omega, ho', hg, fun H2 s2 => ?_⟩
        have ln := (Th.cd c).len hg ho'
        simp only [Th.sz] at ln
        have e4 : (Str.ofString "not ").length = 4 := by decide +kernel
        refine i_plusS (le_line (by rw [e4]; omega)) ?_
        have := q H2 (s1.trans s2)
        simp only [Th.words, Cd.words] at this ⊢
        rw [tx_cons _ c.words_ne, show Str.ofString "not" ++ bl1 = Str.ofString "not " by decide +kernel] at this
        exact this
      · obtain ⟨rfl, ha, h1, h2, n1, n2, n3, hn, k1, k2, ksz, hok, mv, sl, ws⟩ := W
        obtain ⟨o1, o2⟩ := hok ys ho
        have l1 := x1.len hg o1
        have l2 := x2.len hg o2
        refine i_ixT (SqT.of ha) (atI_nat (j := 0) rfl) ?_
        walk_at "run"
        intro p1 H1 f1 s1 e1
        refine i_inT (ys := [Str.ofString "number", Str.ofString "box"]) (SqT.of e1) ?_
        walk_at "run"
        refine i_itDF (by simp only [List.mem_cons, List.not_mem_nil, or_false, not_or]; exact ⟨n1, n2⟩) ?_
        walk_at "run"
        refine i_ixT (SqT.of (s1 _ _ ha)) (atI_nat (j := 0) rfl) ?_
        walk_at "run"
        refine i_itDF n3 ?_
        walk_at "run"
        refine i_dget ?_
        intro p2 f2
        refine ⟨upd_same, markKv, rfl, by decide, ?_⟩
        have s2 : Same H1 (upd (upd H1 p2 (.dK [])) p2 (.dK (mergeK [] markKv))) := ((Same.refl H1).updNew f2).updNew f2
        generalize hH2 : upd (upd H1 p2 (.dK [])) p2 (.dK (mergeK [] markKv)) = H2 at s2
        have e2 : H2 p2 = some (.dK (mergeK [] markKv)) := by rw [← hH2]; exact upd_same
        have ha2 := s2 _ _ (s1 _ _ ha)
        walk_at "run"
        refine i_ixT (SqT.of ha2) (atI_nat (j := 0) rfl) ?_
        refine ⟨p2, .str (bl1 ++ sg ++ bl1), rfl, by rw [← mv]; exact DGet.k (k := Sum.inr m) e2, ?_⟩
        walk_at "run"
        refine i_ixT (SqT.of ha2) (atI_nat (j := 1) rfl) ?_
        walk_at "run"
        have s12 := s1.trans s2
        refine ⟨v1, x1, ys, rfl, h1.mono s12.tups, by omega, by omega, o1, hg, fun H3 s3 => ?_⟩
        walk_at "run"
        refine i_plusS (le_line (by simp only [sx_len, bl1_len]; omega)) ?_
        walk_at "run"
        refine i_ixT (SqT.of (s3 _ _ ha2)) (atI_nat (j := 2) rfl) ?_
        walk_at "run"
        refine ⟨v2, x2, ys, rfl, h2.mono (s12.trans s3).tups, by omega, by omega, o2, hg, fun H4 s4 => ?_⟩
        refine i_plusS (le_line (by simp only [sx_len, bl1_len]; omega)) ?_
        walk_at "run"
        refine i_ixT (SqT.of (s4 _ _ (s3 _ _ ha2))) (atI_nat (j := 0) rfl) ?_
        walk_at "run"
        intro p5 H5 f5 s5 e5
        refine i_inT (ys := [Str.ofString "same", Str.ofString "under"]) (SqT.of e5) ?_
        walk_at "run"
        have qq := q H5 (s12.trans (s3.trans (s4.trans s5)))
        rcases ws with ⟨hm, hw⟩ | ⟨hm, hw⟩
        · refine i_itDT hm ?_
          walk_at "run"
          rw [hw, tx_mid _ x1.words_ne x2.words_ne] at qq
          exact qq
        · refine i_itDF hm ?_
          walk_at "run"
          have e6 : (Str.ofString "( ").length = 2 := by decide +kernel
          have e7 : (Str.ofString " )").length = 2 := by decide +kernel
          refine i_plusS (le_line (by simp only [sx_len, bl1_len, e6]; omega)) ?_
          walk_at "run"
          refine i_plusS (le_line (by simp only [sx_len, bl1_len, e6, e7]; omega)) ?_
          rw [hw, tx_cons _ (by simp), tx_snoc _ (by simp), tx_mid _ x1.words_ne x2.words_ne, show Str.ofString "(" ++ bl1 = Str.ofString "( " by decide +kernel, show bl1 ++ Str.ofString ")" = Str.ofString " )" by decide +kernel, ← sx_assoc] at qq
          exact qq
def ind : Nat → Str
  | 0 => Str.empty
  | k + 1 => blk ++ ind k
theorem ind_mul : ∀ k, k < 31 → Txt.mul (Str.ofString "  ") (k : Nat) = ind k := by decide +kernel
theorem ind_len : ∀ k, k < 31 → (ind k).length ≤ 60 := by decide +kernel
theorem ind_blk : ∀ k, ind k ++ blk = blk ++ ind k
  | 0 => by decide +kernel
  | k + 1 => by
    show (blk ++ ind k) ++ blk = blk ++ (blk ++ ind k)
    rw [sx_assoc, ind_blk k]
def pre (k : Nat) (ys : List Str) : List Str := ys.map fun y => ind k ++ y
theorem pre_app (k : Nat) (a b : List Str) : pre k (a ++ b) = pre k a ++ pre k b := by simp [pre]
theorem pre_cons (k : Nat) (a : Str) (b : List Str) : pre k (a :: b) = (ind k ++ a) :: pre k b := by simp [pre]
theorem pre_nil (k : Nat) : pre k [] = [] := rfl
theorem pre_inn (k : Nat) (a : List Str) : pre k (inn a) = pre (k + 1) a := by
  unfold pre inn
  rw [List.map_map]
  refine List.map_congr_left fun y _ => ?_
  show ind k ++ (blk ++ y) = (blk ++ ind k) ++ y
  rw [← ind_blk, sx_assoc]
theorem pre_len (k : Nat) (a : List Str) : (pre k a).length = a.length := by simp [pre]
theorem ind_ok (k : Nat) (h : k < 31) : MulOk (Str.ofString "  ") (k : Nat) := by
  have hx : (Str.ofString "  ").length = 2 := by decide +kernel
  have hs : sizeLine = 16777216 := sizeLine_eq
  refine ⟨?_, fun h1 _ => ?_, fun _ _ => ?_⟩
  · rw [decide_eq_false (by omega), decide_eq_false (by omega)]; rfl
  · rw [hx]
    have : (2 : Int) ≤ (2 ^ 63 - 1) / (k : Int) := Int.le_ediv_of_mul_le (by omega) (by omega)
    show ¬ (2 : Int) > (2 ^ 63 - 1) / (k : Int)
    omega
  · rw [hx]
    show decide (2 * (k : Int).toNat > sizeLine) = false
    exact decide_eq_false (by omega)
theorem strsV_one (R : List Str) (x : Str) : strsV R ++ [V.str x] = strsV (R ++ [x]) := by simp [strsV]
theorem strsV_len (R : List Str) : (strsV R).length = R.length := by simp [strsV]
theorem pre_block (k : Nat) (h : Str) (ys : List Str) : pre k (blockR h ys) = (ind k ++ h) :: (pre (k + 1) ys ++ [ind k ++ Str.ofString "end"]) := by
  simp [blockR, pre_app, pre_cons, pre_inn, pre_nil]
theorem put_tx (n T : Str) : Tx [Str.ofString "put", n, T] = Str.ofString "put " ++ n ++ Str.ofString " " ++ T := by
  rw [tx_cons _ (by simp), tx_cons _ (by simp), show Str.ofString "put " = Str.ofString "put" ++ bl1 by decide +kernel, bl1_eq]
  have : Tx [T] = T := rfl
  rw [this]
  simp only [sx_assoc]
theorem on_eq (k : Nat) (T : Str) : (ind k ++ Str.ofString "  on ") ++ T = ind (k + 1) ++ (Str.ofString "on " ++ T) := by
  rw [show Str.ofString "  on " = blk ++ Str.ofString "on " by decide +kernel]
  show (ind k ++ (blk ++ Str.ofString "on ")) ++ T = (blk ++ ind k) ++ (Str.ofString "on " ++ T)
  rw [← ind_blk]
  simp only [sx_assoc]
def sp_lrows (K : PySem.W.Frag) (d : Nat) : Sp := fun vs H Q _ => ∃ (l : Addr) (us : List V) (b : List Stm) (gs : List Addr) (ys : List Str) (e k : Nat), vs = [.ref l, .int (k : Nat)] ∧ e < d ∧ k + 2 * e ≤ 28 ∧ H l = some (.lst us) ∧ Tr.Ats H (Stm.trs b) us gs ∧ Stm.oks ys e b ∧ Good ys ∧ Fit (Stm.rowsL b) ∧ New H (.lst (strsV (pre k (Stm.rowsL b)))) Q
theorem ok_law_rows (T : Txt K mg w.params t) : ∀ d : Nat, FnOk P w K mg base CX0 (d + 20) t.a__law_rows t.fd__law_rows ["body", "deep"] (sp_lrows K d) := by
  intro d
  induction d with
  | zero => exact vac (fun vs H Q E ⟨_, _, _, _, _, _, _, _, h, _⟩ => Nat.not_lt_zero _ h)
  | succ d G__law_rows =>
    have G__law_part := ok_law_part (P := P) (w := w) (base := base) T
    refine T.F__law_rows.ok sc_law_rows (fun vs H Q E h => ?_) (fun cdv A outer s H vs Q E hr h => ?_)
    · obtain ⟨l, us, b, gs, ys, e, k, rfl, _⟩ := h
      rfl
    · obtain ⟨l, us, b, gs, ys, e, k, rfl, he, hk, hl, hus, ho, hg, hf, q⟩ := h
      have G__law_part := G__law_part 13
      refine ⟨_, (@pss_cons _ _ _ _ _ (@ps_set _ _ 2 _ _ _ _ sc_law_rows.nd rfl (by first | exact Or.inl rfl | exact Or.inr rfl) (@pe_lstN _ _ _ _ (@pa_nil _)) (by rfl) (by first | exact Or.inl rfl | exact Or.inr rfl))
      (@pss_cons _ _ _ _ _ (@ps_set _ _ 3 _ _ _ _ sc_law_rows.nd rfl (by first | exact Or.inl rfl | exact Or.inr rfl) (@pe_op _ _ _ _ _ _ _ _ op_times (@pe_str _ _ _ _) (pv 1)) (by rfl) (by first | exact Or.inl rfl | exact Or.inr rfl))
      (@pss_cons _ _ _ _ _ (@ps_for _ _ _ _ _ _ _ _ PassesOwn.never rfl (kpi_list K (pv 0)) (pg_name (i := 4) sc_law_rows.nd rfl (by first | exact Or.inl rfl | exact Or.inr rfl)) (@pss_one _ _ _ (@ps_if _ _ _ _ _ _ _ _ (@pt_cmpR _ _ _ _ _ _ _ _ op_eq (@pe_ix _ _ _ _ _ _ _ (kix_tup K) (pv 4) (@pe_int _ _ _ _) (fun _ _ => rfl)) (@pe_str _ _ _ _) (nomark _)) (@pss_cons _ _ _ _ _ (@ps_expr _ _ _ _ (@kpe_bm _ K _ _ _ _ _ _ _ _ _ _ _ PySem.F.plainAttrs_list PySem.F.slot_list_append PySem.F.type_list_append mt_append (pv 2) (@pa_cons _ _ _ _ _ (@pe_op _ _ _ _ _ _ _ _ op_plus (@pe_op _ _ _ _ _ _ _ _ op_plus (pv 3) (@pe_str _ _ _ _)) (@pe_call _ _ _ _ _ _ _ _ _ _ _ _ _ _ _ _ G__law_part (hr.mono (by omega)) rfl T.m__law_part T.F__law_part.kp T.b__law_part .nil pass0 (@pa_cons _ _ _ _ _ (@pe_ix _ _ _ _ _ _ _ (kix_tup K) (pv 4) (@pe_int _ _ _ _) (fun _ _ => rfl)) (@pa_nil _) (by rfl)) (by decide) (by rfl) (by rfl))) (@pa_nil _) (by rfl)) (by rfl) (by rfl) (by rfl) (by rfl) (by rfl) (by rfl)) (by rfl))
          (@pss_cons _ _ _ _ _ (@ps_set _ _ 2 _ _ _ _ sc_law_rows.nd rfl (by first | exact Or.inl rfl | exact Or.inr rfl) (@pe_op _ _ _ _ _ _ _ _ op_plus (pv 2) (@pe_call _ _ _ _ _ _ _ _ _ _ _ _ _ _ _ _ G__law_rows (hr.mono (by omega)) rfl T.m__law_rows T.F__law_rows.kp T.b__law_rows .nil pass0 (@pa_cons _ _ _ _ _ (@pe_ix _ _ _ _ _ _ _ (kix_tup K) (pv 4) (@pe_int _ _ _ _) (fun _ _ => rfl)) (@pa_cons _ _ _ _ _ (@pe_op _ _ _ _ _ _ _ _ op_plus (pv 1) (@pe_int _ _ _ _)) (@pa_nil _) (by rfl)) (by rfl)) (by decide) (by rfl) (by rfl))) (by rfl) (by first | exact Or.inl rfl | exact Or.inr rfl))
          (@pss_cons _ _ _ _ _ (@ps_if _ _ _ _ _ _ _ _ (@pt_cmpR _ _ _ _ _ _ _ _ (kop_neE K (by exact hr.units0)) (@pe_ix _ _ _ _ _ _ _ (kix_tup K) (pv 4) (@pe_int _ _ _ _) (fun _ _ => rfl)) (@pe_lstN _ _ _ _ (@pa_nil _)) (nomark _)) (@pss_one _ _ _ (@ps_set _ _ 2 _ _ _ _ sc_law_rows.nd rfl (by first | exact Or.inl rfl | exact Or.inr rfl) (@pe_op _ _ _ _ _ _ _ _ op_plus (@pe_op _ _ _ _ _ _ _ _ op_plus (pv 2) (@pe_lstN _ _ _ _ (@pa_cons _ _ _ _ _ (@pe_op _ _ _ _ _ _ _ _ op_plus (pv 3) (@pe_str _ _ _ _)) (@pa_nil _) (by rfl)))) (@pe_call _ _ _ _ _ _ _ _ _ _ _ _ _ _ _ _ G__law_rows (hr.mono (by omega)) rfl T.m__law_rows T.F__law_rows.kp T.b__law_rows .nil pass0 (@pa_cons _ _ _ _ _ (@pe_ix _ _ _ _ _ _ _ (kix_tup K) (pv 4) (@pe_int _ _ _ _) (fun _ _ => rfl)) (@pa_cons _ _ _ _ _ (@pe_op _ _ _ _ _ _ _ _ op_plus (pv 1) (@pe_int _ _ _ _)) (@pa_nil _) (by rfl)) (by rfl)) (by decide) (by rfl) (by rfl))) (by rfl) (by first | exact Or.inl rfl | exact Or.inr rfl))) (@pss_nil _))
          (@pss_one _ _ _ (@ps_expr _ _ _ _ (@kpe_bm _ K _ _ _ _ _ _ _ _ _ _ _ PySem.F.plainAttrs_list PySem.F.slot_list_append PySem.F.type_list_append mt_append (pv 2) (@pa_cons _ _ _ _ _ (@pe_op _ _ _ _ _ _ _ _ op_plus (pv 3) (@pe_str _ _ _ _)) (@pa_nil _) (by rfl)) (by rfl) (by rfl) (by rfl) (by rfl) (by rfl) (by rfl)) (by rfl)))))) (@pss_one _ _ _ (@ps_if _ _ _ _ _ _ _ _ (@pt_cmpR _ _ _ _ _ _ _ _ op_eq (@pe_ix _ _ _ _ _ _ _ (kix_tup K) (pv 4) (@pe_int _ _ _ _) (fun _ _ => rfl)) (@pe_str _ _ _ _) (nomark _)) (@pss_cons _ _ _ _ _ (@ps_expr _ _ _ _ (@kpe_bm _ K _ _ _ _ _ _ _ _ _ _ _ PySem.F.plainAttrs_list PySem.F.slot_list_append PySem.F.type_list_append mt_append (pv 2) (@pa_cons _ _ _ _ _ (@pe_op _ _ _ _ _ _ _ _ op_plus (pv 3) (@pe_str _ _ _ _)) (@pa_nil _) (by rfl)) (by rfl) (by rfl) (by rfl) (by rfl) (by rfl) (by rfl)) (by rfl))
            (@pss_one _ _ _ (@ps_set _ _ 2 _ _ _ _ sc_law_rows.nd rfl (by first | exact Or.inl rfl | exact Or.inr rfl) (@pe_op _ _ _ _ _ _ _ _ op_plus (@pe_op _ _ _ _ _ _ _ _ op_plus (pv 2) (@pe_call _ _ _ _ _ _ _ _ _ _ _ _ _ _ _ _ G__law_rows (hr.mono (by omega)) rfl T.m__law_rows T.F__law_rows.kp T.b__law_rows .nil pass0 (@pa_cons _ _ _ _ _ (@pe_ix _ _ _ _ _ _ _ (kix_tup K) (pv 4) (@pe_int _ _ _ _) (fun _ _ => rfl)) (@pa_cons _ _ _ _ _ (@pe_op _ _ _ _ _ _ _ _ op_plus (pv 1) (@pe_int _ _ _ _)) (@pa_nil _) (by rfl)) (by rfl)) (by decide) (by rfl) (by rfl))) (@pe_lstN _ _ _ _ (@pa_cons _ _ _ _ _ (@pe_op _ _ _ _ _ _ _ _ op_plus (pv 3) (@pe_str _ _ _ _)) (@pa_nil _) (by rfl)))) (by rfl) (by first | exact Or.inl rfl | exact Or.inr rfl)))) (@pss_one _ _ _ (@ps_if _ _ _ _ _ _ _ _ (@pt_cmpR _ _ _ _ _ _ _ _ op_eq (@pe_ix _ _ _ _ _ _ _ (kix_tup K) (pv 4) (@pe_int _ _ _ _) (fun _ _ => rfl)) (@pe_str _ _ _ _) (nomark _)) (@pss_cons _ _ _ _ _ (@ps_expr _ _ _ _ (@kpe_bm _ K _ _ _ _ _ _ _ _ _ _ _ PySem.F.plainAttrs_list PySem.F.slot_list_append PySem.F.type_list_append mt_append (pv 2) (@pa_cons _ _ _ _ _ (@pe_op _ _ _ _ _ _ _ _ op_plus (@pe_op _ _ _ _ _ _ _ _ op_plus (pv 3) (@pe_str _ _ _ _)) (@pe_callTy _ _ _ _ _ _ _ _ _ call_str (by rfl) T.z_str bb_str (@pa_cons _ _ _ _ _ (@pe_ix _ _ _ _ _ _ _ (kix_tup K) (pv 4) (@pe_int _ _ _ _) (fun _ _ => rfl)) (@pa_nil _) (by rfl)) (by decide) (by decide) (by rfl) (by rfl))) (@pa_nil _) (by rfl)) (by rfl) (by rfl) (by rfl) (by rfl) (by rfl) (by rfl)) (by rfl))
              (@pss_cons _ _ _ _ _ (@ps_for _ _ _ _ _ _ _ _ PassesOwn.never rfl (kpi_list K (@pe_ix _ _ _ _ _ _ _ (kix_tup K) (pv 4) (@pe_int _ _ _ _) (fun _ _ => rfl))) (kpg_tup K (n := 2) rfl (pgs_cons (pg_name (i := 5) sc_law_rows.nd rfl (by first | exact Or.inl rfl | exact Or.inr rfl)) (pgs_cons (pg_name (i := 6) sc_law_rows.nd rfl (by first | exact Or.inl rfl | exact Or.inr rfl)) (@pgs_nil _)))) (@pss_cons _ _ _ _ _ (@ps_expr _ _ _ _ (@kpe_bm _ K _ _ _ _ _ _ _ _ _ _ _ PySem.F.plainAttrs_list PySem.F.slot_list_append PySem.F.type_list_append mt_append (pv 2) (@pa_cons _ _ _ _ _ (@pe_op _ _ _ _ _ _ _ _ op_plus (@pe_op _ _ _ _ _ _ _ _ op_plus (pv 3) (@pe_str _ _ _ _)) (@kpe_bm _ K _ _ _ _ _ _ _ _ _ _ _ PySem.F.plainAttrs_str PySem.F.slot_str_join PySem.F.type_str_join (kmt_join K) (@pe_str _ _ _ _) (@pa_cons _ _ _ _ _ (pe_lc (Nt := ["part"]) (Nf := []) (caps := []) rfl (comp_ok (sc := defScope s_law_rows) rfl rfl (by decide +kernel) (by decide +kernel) (by decide +kernel) rfl (by decide +kernel)) (kpi_tup K (pv 5)) (fun _ _ _ _ _ => (pg_name (i := 0) (show (["part"] : List Str).Nodup by decide +kernel) rfl (by first | exact Or.inl rfl | exact Or.inr rfl))) (fun _ _ _ _ _ => (@pts_nil _)) (fun _ _ _ _ _ => (@pe_callTy _ _ _ _ _ _ _ _ _ call_str (by rfl) T.z_str bb_str (@pa_cons _ _ _ _ _ (pv 0) (@pa_nil _) (by rfl)) (by decide) (by decide) (by rfl) (by rfl)))) (@pa_nil _) (by rfl)) (by rfl) (by rfl) (by rfl) (by rfl) (by rfl) (by rfl))) (@pa_nil _) (by rfl)) (by rfl) (by rfl) (by rfl) (by rfl) (by rfl) (by rfl)) (by rfl))
                (@pss_one _ _ _ (@ps_set _ _ 2 _ _ _ _ sc_law_rows.nd rfl (by first | exact Or.inl rfl | exact Or.inr rfl) (@pe_op _ _ _ _ _ _ _ _ op_plus (pv 2) (@pe_call _ _ _ _ _ _ _ _ _ _ _ _ _ _ _ _ G__law_rows (hr.mono (by omega)) rfl T.m__law_rows T.F__law_rows.kp T.b__law_rows .nil pass0 (@pa_cons _ _ _ _ _ (pv 6) (@pa_cons _ _ _ _ _ (@pe_op _ _ _ _ _ _ _ _ op_plus (pv 1) (@pe_int _ _ _ _)) (@pa_nil _) (by rfl)) (by rfl)) (by decide) (by rfl) (by rfl))) (by rfl) (by first | exact Or.inl rfl | exact Or.inr rfl)))) (by intro _; rfl))
              (@pss_one _ _ _ (@ps_expr _ _ _ _ (@kpe_bm _ K _ _ _ _ _ _ _ _ _ _ _ PySem.F.plainAttrs_list PySem.F.slot_list_append PySem.F.type_list_append mt_append (pv 2) (@pa_cons _ _ _ _ _ (@pe_op _ _ _ _ _ _ _ _ op_plus (pv 3) (@pe_str _ _ _ _)) (@pa_nil _) (by rfl)) (by rfl) (by rfl) (by rfl) (by rfl) (by rfl) (by rfl)) (by rfl))))) (@pss_one _ _ _ (@ps_if _ _ _ _ _ _ _ _ (@pt_cmpR _ _ _ _ _ _ _ _ op_eq (@pe_ix _ _ _ _ _ _ _ (kix_tup K) (pv 4) (@pe_int _ _ _ _) (fun _ _ => rfl)) (@pe_str _ _ _ _) (nomark _)) (@pss_one _ _ _ (@ps_expr _ _ _ _ (@kpe_bm _ K _ _ _ _ _ _ _ _ _ _ _ PySem.F.plainAttrs_list PySem.F.slot_list_append PySem.F.type_list_append mt_append (pv 2) (@pa_cons _ _ _ _ _ (@pe_op _ _ _ _ _ _ _ _ op_plus (@pe_op _ _ _ _ _ _ _ _ op_plus (@pe_op _ _ _ _ _ _ _ _ op_plus (@pe_op _ _ _ _ _ _ _ _ op_plus (pv 3) (@pe_str _ _ _ _)) (@pe_ix _ _ _ _ _ _ _ (kix_tup K) (pv 4) (@pe_int _ _ _ _) (fun _ _ => rfl))) (@pe_str _ _ _ _)) (@pe_call _ _ _ _ _ _ _ _ _ _ _ _ _ _ _ _ G__law_part (hr.mono (by omega)) rfl T.m__law_part T.F__law_part.kp T.b__law_part .nil pass0 (@pa_cons _ _ _ _ _ (@pe_ix _ _ _ _ _ _ _ (kix_tup K) (pv 4) (@pe_int _ _ _ _) (fun _ _ => rfl)) (@pa_nil _) (by rfl)) (by decide) (by rfl) (by rfl))) (@pa_nil _) (by rfl)) (by rfl) (by rfl) (by rfl) (by rfl) (by rfl) (by rfl)) (by rfl))) (@pss_one _ _ _ (@ps_expr _ _ _ _ (@kpe_bm _ K _ _ _ _ _ _ _ _ _ _ _ PySem.F.plainAttrs_list PySem.F.slot_list_append PySem.F.type_list_append mt_append (pv 2) (@pa_cons _ _ _ _ _ (@pe_op _ _ _ _ _ _ _ _ op_plus (pv 3) (@kpe_bm _ K _ _ _ _ _ _ _ _ _ _ _ PySem.F.plainAttrs_str PySem.F.slot_str_join PySem.F.type_str_join (kmt_join K) (@pe_str _ _ _ _) (@pa_cons _ _ _ _ _ (pe_lc (Nt := ["part"]) (Nf := []) (caps := []) rfl (comp_ok (sc := defScope s_law_rows) rfl rfl (by decide +kernel) (by decide +kernel) (by decide +kernel) rfl (by decide +kernel)) (kpi_tup K (pv 4)) (fun _ _ _ _ _ => (pg_name (i := 0) (show (["part"] : List Str).Nodup by decide +kernel) rfl (by first | exact Or.inl rfl | exact Or.inr rfl))) (fun _ _ _ _ _ => (@pts_nil _)) (fun _ _ _ _ _ => (@pe_callTy _ _ _ _ _ _ _ _ _ call_str (by rfl) T.z_str bb_str (@pa_cons _ _ _ _ _ (pv 0) (@pa_nil _) (by rfl)) (by decide) (by decide) (by rfl) (by rfl)))) (@pa_nil _) (by rfl)) (by rfl) (by rfl) (by rfl) (by rfl) (by rfl) (by rfl))) (@pa_nil _) (by rfl)) (by rfl) (by rfl) (by rfl) (by rfl) (by rfl) (by rfl)) (by rfl))))))))))) (by intro _; rfl))
      (@pss_one _ _ _ (@ps_ret _ _ _ _ (pv 2)))))), ?_⟩
      walk_at "go"
      intro p1 H1 f1 s1 g1
      walk_at "run"
      refine i_timesS (ind_ok k (by omega)) ?_
      rw [ind_mul k (by omega)]
      have li := ind_len k (by omega)
      walk_at "run"
      have hul := trs_len hus
      refine ⟨⟨_, SqL.of (s1 _ _ hl)⟩, for_list (K := K) (a := l) (xs := us) (fun i σ H' => Same H H' ∧ ∃ p, H p = none ∧ H' p = some (.lst (strsV (pre k (Stm.rowsL (b.take i))))) ∧ ∃ y1 y2 y3, σ = [some (.ref l), some (.int (k : Nat)), some (.ref p), some (.str (ind k)), y1, y2, y3]) ⟨s1, p1, f1, g1, _, _, _, rfl⟩ (fun i σ H' _ ⟨s, _⟩ => SqL.of (s _ _ hl)) ?_ ?_⟩
      · rintro i x σ H2 hx2 ⟨s2, p, n1, g2, y1, y2, y3, rfl⟩
        obtain ⟨sb, f, hb, hat, _⟩ := stm_get hus hx2
        have hok := Stm.oks_get ho hb
        obtain ⟨fr, ft⟩ := Fit.take hf hb
        have sn := Stm.rowsL_snoc hb
        have hpl := pre_len k (Stm.rowsL (b.take i))
        have hRl : (strsV (pre k (Stm.rowsL (b.take i)))).length ≤ 50000 := by rw [strsV_len, hpl]; omega
        walk_at "run"
        cases sb with
        | plain ps =>
          obtain ⟨a, rfl, ha⟩ := plain_view hat
          have ho' : ps.length ≤ 3 ∧ (∀ p ∈ ps, p.ok) ∧ ∃ k r, ps = .s k :: r ∧ k ∉ [Str.ofString "test", Str.ofString "wait", Str.ofString "loop", Str.ofString "put"] := by
            cases e <;> simpa only [Stm.ok] using hok
          obtain ⟨h3, hp, kk, r, rfl, hkk⟩ := ho'
          simp only [List.mem_cons, List.not_mem_nil, or_false, not_or] at hkk
          simp only [Stm.rows] at fr ft sn
          have fl := fr.cons.1
          have hsum := Pt.sum hp
          have ha2 := s2 _ _ ha
          refine i_ixT (v := .str kk) (SqT.of ha2) (atI_nat (j := 0) rfl) ?_
          walk_at "run"
          refine i_itDF hkk.1 ?_
          walk_at "run"
          refine i_ixT (v := .str kk) (SqT.of ha2) (atI_nat (j := 0) rfl) ?_
          walk_at "run"
          refine i_itDF hkk.2.2.1 ?_
          walk_at "run"
          refine i_ixT (v := .str kk) (SqT.of ha2) (atI_nat (j := 0) rfl) ?_
          walk_at "run"
          refine i_itDF hkk.2.1 ?_
          walk_at "run"
          refine i_ixT (v := .str kk) (SqT.of ha2) (atI_nat (j := 0) rfl) ?_
          walk_at "run"
          refine i_itDF hkk.2.2.2 ?_
          walk_at "run"
          refine i_tyL (SqL.of g2) ?_
          walk_at "run"
          have hpp := Pt.parts hp
          have eb : (Str.ofString " ").length = 1 := by decide +kernel
          refine ⟨⟨_, SqT.of ha2⟩, comp_parts (SqT.of ha2) hpp (by rw [hpp.len, List.length_map]; omega) fun H3 s3 l3 H4 f4 s4 e4 => ?_⟩
          refine ⟨_, l3, _, rfl, rfl, SqL.of e4, ?_, ?_⟩
          · rw [eb, List.length_map]
            omega
          rw [join_tx]
          refine i_plusS (le_line (by omega)) ?_
          walk_at "run"
          have g4 := s4 _ _ (s3 _ _ g2)
          refine i_append g4 (lt_line (by omega)) ?_
          refine ⟨(s2.trans (s3.trans s4)).updNew n1, p, n1, ?_, _, _, _, rfl⟩
          rw [upd_same, sn, pre_app, pre_cons, pre_nil, strsV_one]
        | put n x =>
          obtain ⟨a, u, rfl, ha, hx⟩ := put_view hat
          have ho' : n ∈ ys ∧ x.ok ys ∧ x.h ≤ 5 := by cases e <;> simpa only [Stm.ok] using hok
          simp only [Stm.rows] at fr ft sn
          have ha2 := s2 _ _ ha
          have n8 := hg.ln n ho'.1
          have e1 : (Str.ofString "put ").length = 4 := by decide +kernel
          have e2 : (Str.ofString " ").length = 1 := by decide +kernel
          refine i_ixT (SqT.of ha2) (atI_nat (j := 0) rfl) ?_
          walk_at "run"
          refine i_itDF (by decide +kernel) ?_
          walk_at "run"
          refine i_ixT (SqT.of ha2) (atI_nat (j := 0) rfl) ?_
          walk_at "run"
          refine i_itDF (by decide +kernel) ?_
          walk_at "run"
          refine i_ixT (SqT.of ha2) (atI_nat (j := 0) rfl) ?_
          walk_at "run"
          refine i_itDF (by decide +kernel) ?_
          walk_at "run"
          refine i_ixT (SqT.of ha2) (atI_nat (j := 0) rfl) ?_
          walk_at "run"
          refine i_itDT rfl ?_
          walk_at "run"
          refine i_tyL (SqL.of g2) ?_
          walk_at "run"
          refine i_plusS (le_line (by omega)) ?_
          walk_at "run"
          refine i_ixT (SqT.of ha2) (atI_nat (j := 1) rfl) ?_
          walk_at "run"
          refine i_plusS (le_line (by simp only [sx_len]; omega)) ?_
          walk_at "run"
          refine i_plusS (le_line (by simp only [sx_len]; omega)) ?_
          walk_at "run"
          refine i_ixT (SqT.of ha2) (atI_nat (j := 2) rfl) ?_
          walk_at "run"
          have hhx : (Th.ex x).hh ≤ 12 := by have := ho'.2.2; simp only [Th.hh]; omega
          refine ⟨u, .ex x, ys, rfl, hx.mono s2.tups, by omega, (Th.ex x).sz_le hhx, ho'.2.1, hg, fun H3 s3 => ?_⟩
          have hl3 := (Th.ex x).len hg ho'.2.1
          have hl4 := (Th.ex x).sz_le hhx
          refine i_plusS (le_line (by simp only [sx_len]; omega)) ?_
          walk_at "run"
          refine i_append (s3 _ _ g2) (lt_line (by omega)) ?_
          refine ⟨(s2.trans s3).updNew n1, p, n1, ?_, _, _, _, rfl⟩
          rw [upd_same, sn, pre_app, pre_cons, pre_nil, strsV_one, put_tx]
          simp only [sx_assoc]
          rfl
        | loop bb =>
          obtain ⟨a, l2, vs2, gs2, rfl, ha, hl2, hvs⟩ := loop_view hat
          cases e with
          | zero => simp only [Stm.ok] at hok
          | succ e =>
          simp only [Stm.ok] at hok
          simp only [Stm.rows] at fr ft sn
          have fb := Fit.block fr
          have ha2 := s2 _ _ ha
          have e1 : (Str.ofString "loop").length = 4 := by decide +kernel
          have e2 : (Str.ofString "end").length = 3 := by decide +kernel
          have hbl : (blockR (Str.ofString "loop") (Stm.rowsL bb)).length = (Stm.rowsL bb).length + 2 := by simp [blockR, inn]
          refine i_ixT (SqT.of ha2) (atI_nat (j := 0) rfl) ?_
          walk_at "run"
          refine i_itDF (by decide +kernel) ?_
          walk_at "run"
          refine i_ixT (SqT.of ha2) (atI_nat (j := 0) rfl) ?_
          walk_at "run"
          refine i_itDT rfl ?_
          walk_at "run"
          refine i_tyL (SqL.of g2) ?_
          walk_at "run"
          refine i_plusS (le_line (by omega)) ?_
          walk_at "run"
          refine i_append g2 (lt_line (by omega)) ?_
          have s3 : Same H (upd H2 p (.lst (strsV (pre k (Stm.rowsL (b.take i))) ++ [.str (ind k ++ Str.ofString "loop")]))) := s2.updNew n1
          have g3 : upd H2 p (.lst (strsV (pre k (Stm.rowsL (b.take i))) ++ [.str (ind k ++ Str.ofString "loop")])) p = some (.lst (strsV (pre k (Stm.rowsL (b.take i)) ++ [ind k ++ Str.ofString "loop"]))) := by rw [upd_same, strsV_one]
          generalize upd H2 p (.lst (strsV (pre k (Stm.rowsL (b.take i))) ++ [.str (ind k ++ Str.ofString "loop")])) = H3 at s3 g3 ⊢
          walk_at "run"
          refine i_ixT (SqT.of (s3 _ _ ha)) (atI_nat (j := 1) rfl) ?_
          walk_at "run"
          refine ⟨l2, vs2, bb, gs2, ys, e, k + 1, rfl, by omega, by omega, s3 _ _ hl2, hvs.mono (s3.keep _), hok, hg, fb.2, fun p4 H4 f4 s4 g4 => ?_⟩
          walk_at "run"
          refine i_plusL (s4 _ _ g3) g4 (le_line (by simp only [strsV_len, List.length_append, List.length_cons, List.length_nil, pre_len]; omega)) ?_
          intro p5 H5 f5 s5 g5
          walk_at "run"
          refine i_plusS (le_line (by omega)) ?_
          walk_at "run"
          intro p6 H6 f6 s6 g6
          walk_at "run"
          refine i_plusL (s6 _ _ g5) g6 (le_line (by simp only [strsV_len, List.length_append, List.length_cons, List.length_nil, pre_len]; omega)) ?_
          intro p7 H7 f7 s7 g7
          walk_at "run"
          have s36 : Same H3 H6 := s4.trans (s5.trans s6)
          refine ⟨s3.trans (s36.trans s7), p7, (s3.trans s36).free f7, ?_, _, _, _, rfl⟩
          rw [g7, sn, pre_app, pre_block]
          simp [strsV]
        | wait n bs =>
          obtain ⟨a, l2, vs2, gs2, rfl, ha, hl2, hvs⟩ := wait_view hat
          cases e with
          | zero => simp only [Stm.ok] at hok
          | succ e =>
          simp only [Stm.ok] at hok
          obtain ⟨⟨hn0, hn1⟩, hbo⟩ := hok
          simp only [Stm.rows] at fr ft sn
          have fb := Fit.block fr
          have ha2 := s2 _ _ ha
          have e1 : (Str.ofString "wait ").length = 5 := by decide +kernel
          have e2 : (Str.ofString "end").length = 3 := by decide +kernel
          have e3 : (Str.ofString "  on ").length = 5 := by decide +kernel
          have ed := dig_len hn0 hn1
          have hbl : (blockR (Str.ofString "wait " ++ Str.ofString (toString n)) (Br.rowsL bs)).length = (Br.rowsL bs).length + 2 := by simp [blockR, inn]
          refine i_ixT (SqT.of ha2) (atI_nat (j := 0) rfl) ?_
          walk_at "run"
          refine i_itDF (by decide +kernel) ?_
          walk_at "run"
          refine i_ixT (SqT.of ha2) (atI_nat (j := 0) rfl) ?_
          walk_at "run"
          refine i_itDF (by decide +kernel) ?_
          walk_at "run"
          refine i_ixT (SqT.of ha2) (atI_nat (j := 0) rfl) ?_
          walk_at "run"
          refine i_itDT rfl ?_
          walk_at "run"
          refine i_tyL (SqL.of g2) ?_
          walk_at "run"
          refine i_plusS (le_line (by omega)) ?_
          walk_at "run"
          refine i_ixT (SqT.of ha2) (atI_nat (j := 1) rfl) ?_
          walk_at "run"
          refine i_strI (log_small (by omega)) ?_
          refine i_plusS (le_line (by simp only [sx_len]; omega)) ?_
          walk_at "run"
          refine i_append g2 (lt_line (by omega)) ?_
          generalize hR0 : pre k (Stm.rowsL (b.take i)) ++ [(ind k ++ Str.ofString "wait ") ++ Str.ofString (toString n)] = R0
          have hR0l : R0.length = (Stm.rowsL (b.take i)).length + 1 := by rw [← hR0, List.length_append, pre_len]; rfl
          have s3 : Same H (upd H2 p (.lst (strsV (pre k (Stm.rowsL (b.take i))) ++ [.str ((ind k ++ Str.ofString "wait ") ++ Str.ofString (toString n))]))) := s2.updNew n1
          have g3 : upd H2 p (.lst (strsV (pre k (Stm.rowsL (b.take i))) ++ [.str ((ind k ++ Str.ofString "wait ") ++ Str.ofString (toString n))])) p = some (.lst (strsV R0)) := by rw [upd_same, strsV_one, hR0]
          generalize upd H2 p (.lst (strsV (pre k (Stm.rowsL (b.take i))) ++ [.str ((ind k ++ Str.ofString "wait ") ++ Str.ofString (toString n))])) = H3 at s3 g3 ⊢
          walk_at "run"
          refine i_ixT (SqT.of (s3 _ _ ha)) (atI_nat (j := 2) rfl) ?_
          walk_at "run"
          have hvl := btrs_len hvs
          refine ⟨⟨_, SqL.of (s3 _ _ hl2)⟩, for_list (K := K) (a := l2) (xs := vs2) (fun j σ H' => Same H H' ∧ ∃ p, H p = none ∧ H' p = some (.lst (strsV (R0 ++ pre (k + 1) (Br.rowsL (bs.take j))))) ∧ ∃ y2 y3, σ = [some (.ref l), some (.int (k : Nat)), some (.ref p), some (.str (ind k)), some (.ref a), y2, y3]) ⟨s3, p, n1, by rw [g3]; simp [Br.rowsL, pre], _, _, rfl⟩ (fun j σ H' _ ⟨s, _⟩ => SqL.of (s _ _ hl2)) ?_ ?_⟩
          · rintro j x σ H4 hx4 ⟨s4, p4, n4, g4, y2, y3, rfl⟩
            obtain ⟨br, f', hbr, hbat, _⟩ := br_get hvs hx4
            have hbok := Br.oks_get hbo hbr
            obtain ⟨fr2, ft2⟩ := Fit.takeB fb.2 hbr
            have sn2 := Br.rowsL_snoc hbr
            cases br with
            | mk pt b3 =>
            obtain ⟨a5, c5, l5, vs5, gs5, rfl, ha5, hc5, hl5, hvs5⟩ := br_view hbat
            simp only [Br.ok] at hbok
            obtain ⟨h3, hp, hb3⟩ := hbok
            simp only [Br.rows] at fr2 ft2 sn2
            have hsum := Pt.sum hp
            have hpp := Pt.parts hp
            have fl2 := fr2.cons.1
            have fi2 := fr2.cons.2.inn
            have hil : (inn (Stm.rowsL b3)).length = (Stm.rowsL b3).length := by simp [inn]
            simp only [List.length_cons, hil] at ft2
            have hq4 : (strsV (R0 ++ pre (k + 1) (Br.rowsL (bs.take j)))).length ≤ 100000 := by rw [strsV_len, List.length_append, pre_len]; omega
            have eb : (Str.ofString " ").length = 1 := by decide +kernel
            refine i_asgT (SqT.of (s4 _ _ ha5)) rfl ?_
            walk_at "run"
            refine i_tyL (SqL.of g4) ?_
            walk_at "run"
            refine i_plusS (le_line (by omega)) ?_
            walk_at "run"
            refine ⟨⟨_, SqT.of (s4 _ _ hc5)⟩, comp_parts (SqT.of (s4 _ _ hc5)) hpp (by rw [hpp.len, List.length_map]; omega) fun H5 s5 l6 H6 f6 s6 e6 => ?_⟩
            refine ⟨_, l6, _, rfl, rfl, SqL.of e6, ?_, ?_⟩
            · rw [eb, List.length_map]
              omega
            rw [join_tx]
            rw [sx_len] at fl2
            refine i_plusS (le_line (by simp only [sx_len]; omega)) ?_
            walk_at "run"
            have g6 := s6 _ _ (s5 _ _ g4)
            refine i_append g6 (lt_line (by omega)) ?_
            have s7 : Same H (upd H6 p4 (.lst (strsV (R0 ++ pre (k + 1) (Br.rowsL (bs.take j))) ++ [.str ((ind k ++ Str.ofString "  on ") ++ Tx (pt.map Pt.tx))]))) := (s4.trans (s5.trans s6)).updNew n4
            have g7 : upd H6 p4 (.lst (strsV (R0 ++ pre (k + 1) (Br.rowsL (bs.take j))) ++ [.str ((ind k ++ Str.ofString "  on ") ++ Tx (pt.map Pt.tx))])) p4 = some (.lst (strsV (R0 ++ pre (k + 1) (Br.rowsL (bs.take j)) ++ [ind (k + 1) ++ (Str.ofString "on " ++ Tx (pt.map Pt.tx))]))) := by rw [upd_same, strsV_one, on_eq]
            generalize upd H6 p4 (.lst (strsV (R0 ++ pre (k + 1) (Br.rowsL (bs.take j))) ++ [.str ((ind k ++ Str.ofString "  on ") ++ Tx (pt.map Pt.tx))])) = H7 at s7 g7 ⊢
            walk_at "run"
            refine ⟨l5, vs5, b3, gs5, ys, e, k + 2, rfl, by omega, by omega, s7 _ _ hl5, hvs5.mono (s7.keep _), hb3, hg, fi2, fun p8 H8 f8 s8 g8 => ?_⟩
            walk_at "run"
            refine i_plusL (s8 _ _ g7) g8 (le_line (by simp only [strsV_len, List.length_append, List.length_cons, List.length_nil, pre_len]; omega)) ?_
            intro p9 H9 f9 s9 g9
            walk_at "run"
            refine ⟨s7.trans (s8.trans s9), p9, (s7.trans s8).free f9, ?_, _, _, rfl⟩
            rw [g9, sn2, pre_app, pre_cons, pre_inn]
            simp [strsV]
          · rintro σ H4 ⟨s4, p4, n4, g4, y2, y3, rfl⟩
            rw [hvl, List.take_length] at g4
            walk_at "run"
            refine i_tyL (SqL.of g4) ?_
            walk_at "run"
            refine i_plusS (le_line (by omega)) ?_
            walk_at "run"
            refine i_append g4 (lt_line (by simp only [strsV_len, List.length_append, pre_len]; omega)) ?_
            refine ⟨s4.updNew n4, p4, n4, ?_, _, _, _, rfl⟩
            rw [upd_same, sn, pre_app, pre_block, strsV_one, ← hR0, sx_assoc]
            simp [strsV]
        | test c aa bb =>
          obtain ⟨a, u, l2, m2, vs2, ws2, fs2, gs2, rfl, ha, hc, hl2, hvs, hm2, hws⟩ := test_view hat
          cases e with
          | zero => simp only [Stm.ok] at hok
          | succ e =>
          simp only [Stm.ok] at hok
          obtain ⟨hc5, hch, hoa, hob⟩ := hok
          simp only [Stm.rows] at fr ft sn
          have ha2 := s2 _ _ ha
          have e1 : (Str.ofString "if ").length = 3 := by decide +kernel
          have e2 : (Str.ofString "end").length = 3 := by decide +kernel
          have e3 : (Str.ofString "else").length = 4 := by decide +kernel
          have hhc := Cd.hh_le hc5
          have hh12 : (Th.cd c).hh ≤ 12 := by simp only [Th.hh]; omega
          have hla := trs_len hvs
          have hlb := trs_len hws
          have hfa : Fit (Stm.rowsL aa) := by
            rw [List.cons_append, List.cons_append] at fr
            exact fr.cons.2.app.1.app.1.inn
          have hfb : Fit (Stm.rowsL bb) := by
            cases bb with
            | nil => simp [Stm.rowsL, Fit]
            | cons x r =>
              rw [List.cons_append, List.cons_append] at fr
              have := fr.cons.2.app.1.app.2
              simp only [List.isEmpty_cons, Bool.false_eq_true, if_false] at this
              exact this.cons.2.inn
          have hcnt : ((Str.ofString "if " ++ Tx c.words) :: inn (Stm.rowsL aa) ++ (if bb.isEmpty then [] else Str.ofString "else" :: inn (Stm.rowsL bb)) ++ [Str.ofString "end"]).length ≥ (Stm.rowsL aa).length + 2 := by
            simp [inn]
          have hfal := hfa.1
          have hfbl := hfb.1
          refine i_ixT (SqT.of ha2) (atI_nat (j := 0) rfl) ?_
          walk_at "run"
          refine i_itDT rfl ?_
          walk_at "run"
          refine i_tyL (SqL.of g2) ?_
          walk_at "run"
          refine i_plusS (le_line (by omega)) ?_
          walk_at "run"
          refine i_ixT (SqT.of ha2) (atI_nat (j := 1) rfl) ?_
          walk_at "run"
          refine ⟨u, .cd c, ys, rfl, hc.mono s2.tups, by omega, (Th.cd c).sz_le hh12, hc5, hg, fun H3 s3 => ?_⟩
          have hl3 := (Th.cd c).len hg hc5
          have hl4 := (Th.cd c).sz_le hh12
          refine i_plusS (le_line (by simp only [sx_len]; omega)) ?_
          walk_at "run"
          refine i_append (s3 _ _ g2) (lt_line (by omega)) ?_
          generalize hR0 : pre k (Stm.rowsL (b.take i)) ++ [(ind k ++ Str.ofString "if ") ++ Tx (Th.cd c).words] = R0
          have hR0l : R0.length = (Stm.rowsL (b.take i)).length + 1 := by rw [← hR0, List.length_append, pre_len]; rfl
          have s4 : Same H (upd H3 p (.lst (strsV (pre k (Stm.rowsL (b.take i))) ++ [.str ((ind k ++ Str.ofString "if ") ++ Tx (Th.cd c).words)]))) := (s2.trans s3).updNew n1
          have g4 : upd H3 p (.lst (strsV (pre k (Stm.rowsL (b.take i))) ++ [.str ((ind k ++ Str.ofString "if ") ++ Tx (Th.cd c).words)])) p = some (.lst (strsV R0)) := by rw [upd_same, strsV_one, hR0]
          generalize upd H3 p (.lst (strsV (pre k (Stm.rowsL (b.take i))) ++ [.str ((ind k ++ Str.ofString "if ") ++ Tx (Th.cd c).words)])) = H4 at s4 g4 ⊢
          walk_at "run"
          refine i_ixT (SqT.of (s4 _ _ ha)) (atI_nat (j := 2) rfl) ?_
          walk_at "run"
          refine ⟨l2, vs2, aa, fs2, ys, e, k + 1, rfl, by omega, by omega, s4 _ _ hl2, hvs.mono (s4.keep _), hoa, hg, hfa, fun p5 H5 f5 s5 g5 => ?_⟩
          walk_at "run"
          refine i_plusL (s5 _ _ g4) g5 (le_line (by simp only [strsV_len, pre_len]; omega)) ?_
          rw [strsV_app]
          intro p6 H6 f6 s6 g6
          walk_at "run"
          have s06 : Same H H6 := s4.trans (s5.trans s6)
          have n6 : H p6 = none := (s4.trans s5).free f6
          refine i_ixT (SqT.of (s06 _ _ ha)) (atI_nat (j := 3) rfl) ?_
          walk_at "run"
          intro p7 H7 f7 s7 g7
          have s07 := s06.trans s7
          refine i_neE (SqL.of (s07 _ _ hm2)) (SqL.of g7) ?_
          walk_at "run"
          cases bb with
          | nil =>
            have : ws2 = [] := List.eq_nil_of_length_eq_zero hlb
            subst this
            refine i_itF ?_
            have gE := s7 _ _ g6
            have sE := s07
            have nE := n6
            have hRE : (R0 ++ pre (k + 1) (Stm.rowsL aa)).length = R0.length + (Stm.rowsL aa).length := by rw [List.length_append, pre_len]
            walk_at "run"
            refine i_tyL (SqL.of gE) ?_
            walk_at "run"
            refine i_plusS (le_line (by omega)) ?_
            walk_at "run"
            refine i_append gE (lt_line (by rw [strsV_len, hRE]; omega)) ?_
            refine ⟨sE.updNew nE, p6, nE, ?_, _, _, _, rfl⟩
            rw [upd_same, strsV_one, sn, pre_app, ← hR0, sx_assoc]
            simp [pre_app, pre_cons, pre_nil, pre_inn, Th.words]
          | cons bx br =>
            have hne : (!ws2.isEmpty) = true := by
              cases ws2 with
              | nil => simp at hlb
              | cons _ _ => rfl
            rw [hne]
            refine iteT ?_
            walk_at "run"
            refine i_plusS (le_line (by omega)) ?_
            walk_at "run"
            intro p8 H8 f8 s8 g8
            walk_at "run"
            refine i_plusL (s8 _ _ (s7 _ _ g6)) (zs := strsV [ind k ++ Str.ofString "else"]) g8 (le_line (by simp only [strsV_len, List.length_append, List.length_cons, List.length_nil, pre_len]; omega)) ?_
            rw [strsV_app]
            intro p9 H9 f9 s9 g9
            walk_at "run"
            have s09 := s07.trans (s8.trans s9)
            refine i_ixT (SqT.of (s09 _ _ ha)) (atI_nat (j := 3) rfl) ?_
            walk_at "run"
            refine ⟨m2, ws2, bx :: br, gs2, ys, e, k + 1, rfl, by omega, by omega, s09 _ _ hm2, hws.mono (s09.keep _), hob, hg, hfb, fun p10 H10 f10 s10 g10 => ?_⟩
            walk_at "run"
            refine i_plusL (s10 _ _ g9) g10 (le_line (by simp only [strsV_len, List.length_append, List.length_cons, List.length_nil, pre_len]; omega)) ?_
            rw [strsV_app]
            intro p11 H11 f11 s11 g11
            walk_at "run"
            have s0T := s09.trans (s10.trans s11)
            have n11 : H p11 = none := (s09.trans s10).free f11
            refine i_tyL (SqL.of g11) ?_
            walk_at "run"
            refine i_plusS (le_line (by omega)) ?_
            walk_at "run"
            refine i_append g11 (lt_line (by simp only [strsV_len, List.length_append, List.length_cons, List.length_nil, pre_len]; omega)) ?_
            refine ⟨s0T.updNew n11, p11, n11, ?_, _, _, _, rfl⟩
            rw [upd_same, strsV_one, sn, pre_app, ← hR0, sx_assoc]
            simp [pre_app, pre_cons, pre_nil, pre_inn, Th.words]
      · rintro σ H2 ⟨s2, p, n1, g2, y1, y2, y3, rfl⟩
        rw [hul, List.take_length] at g2
        walk_at "run"
        exact q p H2 n1 s2 g2
theorem pre_one (a : List Str) : pre 1 a = inn a := by
  unfold pre inn
  refine List.map_congr_left fun y _ => ?_
  rw [show ind 1 = blk by decide +kernel]
def sp_arows (K : PySem.W.Frag) : Sp := fun vs H Q _ => ∃ (v : V) (bs : List (Str × Int)) (ts : List (Str × List Stm)) (gs : List Addr) (ys : List Str), vs = [v] ∧ (scrT bs ts).At H v gs ∧ (∀ b ∈ bs, b.1.length ≤ 8 ∧ 0 ≤ b.2 ∧ b.2 < 10) ∧ (∀ x ∈ ts, x.1.length ≤ 8 ∧ Stm.oks ys 12 x.2) ∧ Good ys ∧ Fit (scrR bs ts) ∧ New H (.lst (strsV (scrR bs ts))) Q
theorem ok_law_all_rows (T : Txt K mg w.params t) : FnOk P w K mg base CX0 34 t.a__law_all_rows t.fd__law_all_rows ["script"] (sp_arows K) := by
  have G__law_rows := ok_law_rows (P := P) (w := w) (base := base) T
  refine T.F__law_all_rows.ok sc_law_all_rows (fun vs H Q E h => ?_) (fun cdv A outer s H vs Q E hr h => ?_)
  · obtain ⟨v, bs, ts, gs, ys, rfl, _⟩ := h
    rfl
  · obtain ⟨v, bs, ts, gs, ys, rfl, hat, hb, ht, hg, hf, q⟩ := h
    have G__law_rows := G__law_rows 13
    refine ⟨_, (@pss_cons _ _ _ _ _ (@ps_asg _ _ _ _ _ _ (pv 0) (kpg_tup K (n := 2) rfl (pgs_cons (pg_name (i := 1) sc_law_all_rows.nd rfl (by first | exact Or.inl rfl | exact Or.inr rfl)) (pgs_cons (pg_name (i := 2) sc_law_all_rows.nd rfl (by first | exact Or.inl rfl | exact Or.inr rfl)) (@pgs_nil _)))) (by rfl) (by rfl) (by rfl))
      (@pss_cons _ _ _ _ _ (ps_lc (i := 3) (Nt := ["name", "size"]) (Nf := []) (caps := []) rfl (comp_ok (sc := defScope s_law_all_rows) rfl rfl (by decide +kernel) (by decide +kernel) (by decide +kernel) rfl (by decide +kernel)) (kpi_list K (pv 1)) (fun _ _ _ _ _ => (kpg_tup K (n := 2) rfl (pgs_cons (pg_name (i := 0) (show (["name", "size"] : List Str).Nodup by decide +kernel) rfl (by first | exact Or.inl rfl | exact Or.inr rfl)) (pgs_cons (pg_name (i := 1) (show (["name", "size"] : List Str).Nodup by decide +kernel) rfl (by first | exact Or.inl rfl | exact Or.inr rfl)) (@pgs_nil _))))) (fun _ _ _ _ _ => (@pts_nil _)) (fun _ _ _ _ _ => (@pe_op _ _ _ _ _ _ _ _ op_plus (@pe_op _ _ _ _ _ _ _ _ op_plus (@pe_op _ _ _ _ _ _ _ _ op_plus (@pe_str _ _ _ _) (pv 0)) (@pe_str _ _ _ _)) (@pe_callTy _ _ _ _ _ _ _ _ _ call_str (by rfl) T.z_str bb_str (@pa_cons _ _ _ _ _ (pv 1) (@pa_nil _) (by rfl)) (by decide) (by decide) (by rfl) (by rfl)))) sc_law_all_rows.nd rfl (by first | exact Or.inl rfl | exact Or.inr rfl) rfl)
      (@pss_cons _ _ _ _ _ (@ps_for _ _ _ _ _ _ _ _ PassesOwn.never rfl (kpi_list K (pv 2)) (kpg_tup K (n := 2) rfl (pgs_cons (pg_name (i := 4) sc_law_all_rows.nd rfl (by first | exact Or.inl rfl | exact Or.inr rfl)) (pgs_cons (pg_name (i := 5) sc_law_all_rows.nd rfl (by first | exact Or.inl rfl | exact Or.inr rfl)) (@pgs_nil _)))) (@pss_one _ _ _ (@ps_set _ _ 3 _ _ _ _ sc_law_all_rows.nd rfl (by first | exact Or.inl rfl | exact Or.inr rfl) (@pe_op _ _ _ _ _ _ _ _ op_plus (@pe_op _ _ _ _ _ _ _ _ op_plus (@pe_op _ _ _ _ _ _ _ _ op_plus (pv 3) (@pe_lstN _ _ _ _ (@pa_cons _ _ _ _ _ (@pe_op _ _ _ _ _ _ _ _ op_plus (@pe_str _ _ _ _) (pv 4)) (@pa_nil _) (by rfl)))) (@pe_call _ _ _ _ _ _ _ _ _ _ _ _ _ _ _ _ G__law_rows (hr.mono (by omega)) rfl T.m__law_rows T.F__law_rows.kp T.b__law_rows .nil pass0 (@pa_cons _ _ _ _ _ (pv 5) (@pa_cons _ _ _ _ _ (@pe_int _ _ _ _) (@pa_nil _) (by rfl)) (by rfl)) (by decide) (by rfl) (by rfl))) (@pe_lstN _ _ _ _ (@pa_cons _ _ _ _ _ (@pe_str _ _ _ _) (@pa_nil _) (by rfl)))) (by rfl) (by first | exact Or.inl rfl | exact Or.inr rfl))) (by intro _; rfl))
      (@pss_one _ _ _ (@ps_ret _ _ _ _ (pv 3)))))), ?_⟩
    obtain ⟨a, l, m, us, ws, f, g, rfl, ha, hl, hus, hm, hws⟩ := scr_view hat
    have hul : us.length = bs.length := by rw [hus.len, List.length_map]
    have hwl : ws.length = ts.length := by rw [hws.len, List.length_map]
    have e1 : (Str.ofString "box ").length = 4 := by decide +kernel
    have e2 : (Str.ofString " ").length = 1 := by decide +kernel
    have e3 : (Str.ofString "talk ").length = 5 := by decide +kernel
    obtain ⟨fb, ft⟩ := Fit.app (a := bs.map boxR) (b := talksR ts) hf
    have fb1 := fb.1
    rw [List.length_map] at fb1
    have hfl := hf.1
    have hsl : (scrR bs ts).length = bs.length + (talksR ts).length := by simp [scrR]
    walk_at "go"
    refine i_asgT (SqT.of ha) rfl ?_
    walk_at "run"
    refine ⟨⟨_, SqL.of hl⟩, cc_pairs (xs := us) (le_line (by omega)) (fun i acc H' => H' = H ∧ i ≤ bs.length ∧ acc = strsV ((bs.map boxR).take i)) ⟨rfl, Nat.zero_le _, rfl⟩ (fun i acc H' ⟨e0, hi, e⟩ => ⟨?_, e0 ▸ SqL.of hl⟩) ?_ ?_⟩
    · subst e
      simp only [strsV, List.length_map, List.length_take]
      omega
    · rintro i x acc H' hx ⟨rfl, hi, rfl⟩
      obtain ⟨b, p, hbi, rfl, hp⟩ := box_get hus hx
      have hi' : i < bs.length := (List.getElem?_eq_some_iff.mp hbi).1
      obtain ⟨b1, b2, b3⟩ := hb b (List.mem_of_getElem? hbi)
      have dl := dig_len b2 b3
      refine ⟨p, _, _, rfl, SqT.of hp, ?_⟩
      walk_at "run"
      refine i_plusS (le_line (by omega)) ?_
      walk_at "run"
      refine i_plusS (le_line (by simp only [sx_len]; omega)) ?_
      walk_at "run"
      refine i_strI (log_small (by omega)) ?_
      refine i_plusS (le_line (by simp only [sx_len]; omega)) ?_
      exact ⟨rfl, hi', strsV_snoc (ys := bs.map boxR) (y := boxR b) (by rw [List.getElem?_map, hbi]; rfl)⟩
    · rintro acc H' ⟨rfl, _, rfl⟩ p1 H1 f1 s1 g1
      rw [hul, show bs.length = (bs.map boxR).length by simp, List.take_length] at g1
      walk_at "run"
      refine ⟨⟨_, SqL.of (s1 _ _ hm)⟩, for_list (K := K) (a := m) (xs := ws) (fun i σ H0 => Same H' H0 ∧ ∃ p, H' p = none ∧ H0 p = some (.lst (strsV (bs.map boxR ++ talksR (ts.take i)))) ∧ ∃ y1 y2, σ = [some (.ref a), some (.ref l), some (.ref m), some (.ref p), y1, y2]) ⟨s1, p1, f1, by rw [g1]; simp [talksR], _, _, rfl⟩ (fun i σ H' _ ⟨s, _⟩ => SqL.of (s _ _ hm)) ?_ ?_⟩
      · rintro i x σ H2 hx2 ⟨s2, p, n2, g2, y1, y2, rfl⟩
        obtain ⟨b, c, l2, vs2, gs2, hbi, rfl, hc, hl2, hvs2⟩ := talk_get hws hx2
        obtain ⟨n8, ob⟩ := ht b (List.mem_of_getElem? hbi)
        obtain ⟨fr, fl2⟩ := Fit.talk ft hbi
        have sn := talksR_snoc hbi
        have fbb := Fit.block (head := Str.ofString "talk " ++ b.1) (b := Stm.rowsL b.2) fr
        have hlb : (talkR b).length = (Stm.rowsL b.2).length + 2 := by simp [talkR, blockR, inn]
        refine i_asgT (SqT.of (s2 _ _ hc)) rfl ?_
        walk_at "run"
        refine i_plusS (le_line (by omega)) ?_
        walk_at "run"
        intro p3 H3 f3 s3 g3
        walk_at "run"
        refine i_plusL (s3 _ _ g2) (zs := strsV [Str.ofString "talk " ++ b.1]) g3 (le_line (by simp only [strsV_len, List.length_append, List.length_map, List.length_cons, List.length_nil]; omega)) ?_
        rw [strsV_app]
        intro p4 H4 f4 s4 g4
        walk_at "run"
        have s04 := s2.trans (s3.trans s4)
        refine ⟨l2, vs2, b.2, gs2, ys, 12, 1, rfl, by omega, by omega, s04 _ _ hl2, hvs2.mono (s04.keep _), ob, hg, fbb.2, fun p5 H5 f5 s5 g5 => ?_⟩
        walk_at "run"
        refine i_plusL (s5 _ _ g4) g5 (le_line (by simp only [strsV_len, List.length_append, List.length_map, List.length_cons, List.length_nil, pre_len]; omega)) ?_
        rw [strsV_app]
        intro p6 H6 f6 s6 g6
        walk_at "run"
        intro p7 H7 f7 s7 g7
        walk_at "run"
        refine i_plusL (s7 _ _ g6) (zs := strsV [Str.ofString "end"]) g7 (le_line (by simp only [strsV_len, List.length_append, List.length_map, List.length_cons, List.length_nil, pre_len]; omega)) ?_
        rw [strsV_app]
        intro p8 H8 f8 s8 g8
        walk_at "run"
        have s07 := s04.trans (s5.trans (s6.trans s7))
        refine ⟨s07.trans s8, p8, s07.free f8, ?_, _, _, rfl⟩
        rw [g8, sn, pre_one]
        simp [talkR, blockR, strsV]
      · rintro σ H2 ⟨s2, p, n2, g2, y1, y2, rfl⟩
        rw [hwl, List.take_length] at g2
        walk_at "run"
        exact q p H2 n2 s2 g2
theorem made_ok (ns : List Int) (hnl : ns.length ≤ 63) : ∃ (bs : List (Str × Int)) (ts : List (Str × List Stm)) (ys : List Str), scrU ns = [.lst (bs.map boxT), .lst (ts.map talkT)] ∧ (∀ b ∈ bs, b.1.length ≤ 8 ∧ 0 ≤ b.2 ∧ b.2 < 10) ∧ (∀ x ∈ ts, x.1.length ≤ 8 ∧ Stm.oks ys 12 x.2) ∧ Good ys ∧ Fit (scrR bs ts) ∧ ((scrR bs ts).map (·.length)).sum ≤ 10000000 ∧ Tr.hs (scrU ns) ≤ 180 := by
  have hg := namesF_good (numF (ns.headD 0))
  have hgl := namesF_len (numF (ns.headD 0))
  generalize hn0 : numF (ns.headD 0) = n0 at hg hgl
  have hy : namesF n0 ≠ [] := by intro z; rw [z] at hgl; simp at hgl
  obtain ⟨d, p, hp1, hp2, hp3, hp4, hp5⟩ := build_ok hy (cellsF ns)
  have hpl : p.length ≤ 13 := by rcases hp4 with z | z <;> omega
  obtain ⟨ts, hc1, hc2, hc3⟩ := closeK_ok 12 d p hp2 hp3 hp4 hpl
  obtain ⟨ht1, ht2⟩ := talks_len hg hc2
  have hcl : (cellsF ns).length ≤ 63 := by simp [cellsF]; omega
  have hbod : bodiesU ns = ts.map talkT := by
    unfold bodiesU
    rw [hn0, hp1, hc1]
    rfl
  have hbs : ∀ b ∈ boxesF n0, b.1.length ≤ 8 ∧ 0 ≤ b.2 ∧ b.2 < 10 := by
    intro b hb
    obtain ⟨k, hk, rfl⟩ := List.mem_map.mp hb
    have hk3 : k < 3 := by have := List.mem_range.mp hk; omega
    refine ⟨hg.ln _ (atN_mem (by omega) (by rw [hgl]; omega)), ?_, ?_⟩ <;> (show _ ; simp only [boxN]; omega)
  have hbl : (boxesF n0).length ≤ 3 := by simp [boxesF]; omega
  have hrow : ∀ y ∈ scrR (boxesF n0) ts, y.length ≤ 13100 := by
    intro y m
    rcases List.mem_append.mp m with m | m
    · obtain ⟨b, hb, rfl⟩ := List.mem_map.mp m
      obtain ⟨b1, b2, b3⟩ := hbs b hb
      have dl := dig_len b2 b3
      have e1 : (Str.ofString "box ").length = 4 := by decide +kernel
      have e2 : (Str.ofString " ").length = 1 := by decide +kernel
      simp only [boxR, sx_len]
      omega
    · exact ht2 y m
  have hlen : (scrR (boxesF n0) ts).length ≤ 300 := by
    simp only [scrR, List.length_append, List.length_map]
    omega
  have hsc : scrU ns = [.lst ((boxesF n0).map boxT), .lst (ts.map talkT)] := by
    unfold scrU
    rw [hbod, hn0]
  refine ⟨boxesF n0, ts, namesF n0, hsc, hbs, ht1, hg, ⟨by omega, fun y m => by have := hrow y m; omega⟩, ?_, ?_⟩
  · have := sum_len hrow
    have h2 : (scrR (boxesF n0) ts).length * 13100 ≤ 300 * 13100 := Nat.mul_le_mul_right _ hlen
    omega
  · rw [hsc]
    have h1 := boxes_h (boxesF n0)
    have h2 := talks_h ht1
    simp only [Tr.hs, Tr.h]
    omega
def sp_law (K : PySem.W.Frag) : Sp := fun vs H Q _ => ∃ (a : Addr) (ns : List Int), vs = [.ref a] ∧ SqL K H a (ns.map V.int) ∧ ns.length ≤ 63 ∧ ∀ H', Q (.bl true) H'
theorem ok_law (T : Txt K mg w.params t) : FnOk P w K mg base CX0 61 t.a_law t.fd_law ["script"] (sp_law K) := by
  have G__law_all_rows := ok_law_all_rows (P := P) (w := w) (base := base) T
  have G__law_script := ok_law_script (P := P) (w := w) (base := base) T
  have G_shown := ok_shown (P := P) (w := w) (base := base) T
  refine T.F_law.ok sc_law (fun vs H Q E h => ?_) (fun cdv A outer s H vs Q E hr h => ?_)
  · obtain ⟨a, ns, rfl, _⟩ := h
    rfl
  · obtain ⟨a, ns, rfl, hS, hnl, q⟩ := h
    have G_shown := G_shown 13
    refine ⟨_, (@pss_cons _ _ _ _ _ (@ps_set _ _ 1 _ _ _ _ sc_law.nd rfl (by first | exact Or.inl rfl | exact Or.inr rfl) (@pe_call _ _ _ _ _ _ _ _ _ _ _ _ _ _ _ _ G__law_script (hr.mono (by omega)) rfl T.m__law_script T.F__law_script.kp T.b__law_script .nil pass0 (@pa_cons _ _ _ _ _ (pv 0) (@pa_cons _ _ _ _ _ (@pe_int _ _ _ _) (@pa_nil _) (by rfl)) (by rfl)) (by decide) (by rfl) (by rfl)) (by rfl) (by first | exact Or.inl rfl | exact Or.inr rfl))
      (@pss_cons _ _ _ _ _ (@ps_set _ _ 2 _ _ _ _ sc_law.nd rfl (by first | exact Or.inl rfl | exact Or.inr rfl) (@kpe_bm _ K _ _ _ _ _ _ _ _ _ _ _ PySem.F.plainAttrs_str PySem.F.slot_str_join PySem.F.type_str_join (kmt_join K) (@pe_str _ _ _ _) (@pa_cons _ _ _ _ _ (@pe_call _ _ _ _ _ _ _ _ _ _ _ _ _ _ _ _ G__law_all_rows (hr.mono (by omega)) rfl T.m__law_all_rows T.F__law_all_rows.kp T.b__law_all_rows .nil pass0 (@pa_cons _ _ _ _ _ (pv 1) (@pa_nil _) (by rfl)) (by decide) (by rfl) (by rfl)) (@pa_nil _) (by rfl)) (by rfl) (by rfl) (by rfl) (by rfl) (by rfl) (by rfl)) (by rfl) (by first | exact Or.inl rfl | exact Or.inr rfl))
      (@pss_cons _ _ _ _ _ (@ps_set _ _ 3 _ _ _ _ sc_law.nd rfl (by first | exact Or.inl rfl | exact Or.inr rfl) (@pe_call _ _ _ _ _ _ _ _ _ _ _ _ _ _ _ _ G_shown (hr.mono (by omega)) rfl T.m_shown T.F_shown.kp T.b_shown .nil pass0 (@pa_cons _ _ _ _ _ (pv 1) (@pa_nil _) (by rfl)) (by decide) (by rfl) (by rfl)) (by rfl) (by first | exact Or.inl rfl | exact Or.inr rfl))
      (@pss_cons _ _ _ _ _ (@ps_if _ _ _ _ _ _ _ _ (@PW.pt _ _ _ (@pw_or _ _ _ _ _ _ _ (@pt_not _ _ _ _ (kpt_tru K (@pe_callB _ _ _ _ _ _ _ _ _ (kcl_isi K) (by rfl) T.z_isinstance bb_isinstance (@pa_cons _ _ _ _ _ (pv 3) (@pa_cons _ _ _ _ _ (pe_bltn (v := .ty "str") (by rfl) T.z_str bb_str rfl) (@pa_nil _) (by rfl)) (by rfl)) (by decide) (by decide) (by rfl) (by rfl)) (fun _ => rfl))) (@pw_or1 _ _ _ _ (@pt_cmpR _ _ _ _ _ _ _ _ op_ne (pv 3) (pv 2) (nomark _))))) (@pss_one _ _ _ (@ps_ret _ _ _ _ (@pe_bl _ _ _ _))) (@pss_nil _))
      (@pss_one _ _ _ (@ps_ret _ _ _ _ (@pe_and _ _ _ _ _ _ _ (@pe_cmpR _ _ _ _ _ _ _ _ (kop_eqU (by exact units190 hr)) (pv 1) (@pe_call _ _ _ _ _ _ _ _ _ _ _ _ _ _ _ _ G__law_script (hr.mono (by omega)) rfl T.m__law_script T.F__law_script.kp T.b__law_script .nil pass0 (@pa_cons _ _ _ _ _ (pv 0) (@pa_cons _ _ _ _ _ (@pe_int _ _ _ _) (@pa_nil _) (by rfl)) (by rfl)) (by decide) (by rfl) (by rfl)) (nomark _)) (@pe_one _ _ _ _ _ (@pe_cmpR _ _ _ _ _ _ _ _ op_eq (@pe_call _ _ _ _ _ _ _ _ _ _ _ _ _ _ _ _ G_shown (hr.mono (by omega)) rfl T.m_shown T.F_shown.kp T.b_shown .nil pass0 (@pa_cons _ _ _ _ _ (pv 1) (@pa_nil _) (by rfl)) (by decide) (by rfl) (by rfl)) (pv 2) (nomark _)))))))))), ?_⟩
    obtain ⟨bs, ts, ys, hsc, hbs, hts, hg, hf, hsum, hh⟩ := made_ok ns hnl
    have eN : (Str.ofString "\n").length = 1 := by decide +kernel
    have hfl := hf.1
    walk_at "go"
    refine ⟨a, ns, rfl, hS, hnl, fun v fs H1 s1 hA => ?_⟩
    have hA1 : (scrT bs ts).At H1 v fs := by
      have := hA
      rw [hsc] at this
      exact this
    walk_at "run"
    refine ⟨v, bs, ts, fs, ys, rfl, hA1, hbs, hts, hg, hf, fun l2 H2 f2 s2 g2 => ?_⟩
    refine ⟨_, l2, _, rfl, rfl, SqL.of g2, ?_, ?_⟩
    · rw [eN]
      omega
    rw [show Txt.join (Str.ofString "\n") (scrR bs ts) = Str.join (Str.ofString "\n") (scrR bs ts) from PySem.StrLaws.glued_eq_join _ _]
    walk_at "run"
    refine ⟨v, bs, ts, fs, ys, 12, rfl, by omega, hA1.mono (s2.keep _), hbs, hts, hg, hf, hsum, fun H3 s3 => ?_⟩
    walk_at "run"
    refine i_itNF rfl ?_
    walk_at "run"
    have s03 := s1.trans (s2.trans s3)
    refine ⟨a, ns, rfl, s03.seq hS, hnl, fun v4 fs4 H4 s4 hA4 => ?_⟩
    refine i_eqU (hA.mono ((s2.trans (s3.trans s4)).keep _)) hA4 hh ?_
    walk_at "run"
    refine ⟨v, bs, ts, fs, ys, 12, rfl, by omega, hA1.mono ((s2.trans (s3.trans s4)).keep _), hbs, hts, hg, hf, hsum, fun H5 s5 => ?_⟩
    walk_at "run"
    rw [decide_eq_true rfl]
    exact q _
end
theorem all_mk {l : PySem.W.OpenLaw} {w : World} {K : PySem.W.Frag} {h : Heap} {mg : Str → Option Value} {fa : Addr} (X : K.In h) (G : h.Ns mainGlobals mg) (hfa : mg "law" = some (.ref fa))
    {f0 : Addr} {od0 an0 : Option Addr} {sl0 : Array (Option Value)} {oc0 kV0 dc0 pm0 cd0 ct0 : Value}
    {f1 : Addr} {od1 an1 : Option Addr} {sl1 : Array (Option Value)} {oc1 kV1 dc1 pm1 cd1 ct1 : Value}
    {f2 : Addr} {od2 an2 : Option Addr} {sl2 : Array (Option Value)} {oc2 kV2 dc2 pm2 cd2 ct2 : Value}
    {f3 : Addr} {od3 an3 : Option Addr} {sl3 : Array (Option Value)} {oc3 kV3 dc3 pm3 cd3 ct3 : Value}
    {f4 : Addr} {od4 an4 : Option Addr} {sl4 : Array (Option Value)} {oc4 kV4 dc4 pm4 cd4 ct4 : Value}
    {f5 : Addr} {od5 an5 : Option Addr} {sl5 : Array (Option Value)} {oc5 kV5 dc5 pm5 cd5 ct5 : Value}
    {f6 : Addr} {od6 an6 : Option Addr} {sl6 : Array (Option Value)} {oc6 kV6 dc6 pm6 cd6 ct6 : Value}
    {f7 : Addr} {od7 an7 : Option Addr} {sl7 : Array (Option Value)} {oc7 kV7 dc7 pm7 cd7 ct7 : Value}
    {f8 : Addr} {od8 an8 : Option Addr} {sl8 : Array (Option Value)} {oc8 kV8 dc8 pm8 cd8 ct8 : Value}
    {f9 : Addr} {od9 an9 : Option Addr} {sl9 : Array (Option Value)} {oc9 kV9 dc9 pm9 cd9 ct9 : Value}
    {f10 : Addr} {od10 an10 : Option Addr} {sl10 : Array (Option Value)} {oc10 kV10 dc10 pm10 cd10 ct10 : Value}
    {f11 : Addr} {od11 an11 : Option Addr} {sl11 : Array (Option Value)} {oc11 kV11 dc11 pm11 cd11 ct11 : Value}
    {f12 : Addr} {od12 an12 : Option Addr} {sl12 : Array (Option Value)} {oc12 kV12 dc12 pm12 cd12 ct12 : Value}
    {f13 : Addr} {od13 an13 : Option Addr} {sl13 : Array (Option Value)} {oc13 kV13 dc13 pm13 cd13 ct13 : Value}
    {f14 : Addr} {od14 an14 : Option Addr} {sl14 : Array (Option Value)} {oc14 kV14 dc14 pm14 cd14 ct14 : Value}
    {f15 : Addr} {od15 an15 : Option Addr} {sl15 : Array (Option Value)} {oc15 kV15 dc15 pm15 cd15 ct15 : Value}
    {f16 : Addr} {od16 an16 : Option Addr} {sl16 : Array (Option Value)} {oc16 kV16 dc16 pm16 cd16 ct16 : Value}
    {f17 : Addr} {od17 an17 : Option Addr} {sl17 : Array (Option Value)} {oc17 kV17 dc17 pm17 cd17 ct17 : Value}
    {f18 : Addr} {od18 an18 : Option Addr} {sl18 : Array (Option Value)} {oc18 kV18 dc18 pm18 cd18 ct18 : Value}
    {f19 : Addr} {od19 an19 : Option Addr} {sl19 : Array (Option Value)} {oc19 kV19 dc19 pm19 cd19 ct19 : Value}
    {f20 : Addr} {od20 an20 : Option Addr} {sl20 : Array (Option Value)} {oc20 kV20 dc20 pm20 cd20 ct20 : Value}
    {f21 : Addr} {od21 an21 : Option Addr} {sl21 : Array (Option Value)} {oc21 kV21 dc21 pm21 cd21 ct21 : Value}
    {f22 : Addr} {od22 an22 : Option Addr} {sl22 : Array (Option Value)} {oc22 kV22 dc22 pm22 cd22 ct22 : Value}
    {f23 : Addr} {od23 an23 : Option Addr} {sl23 : Array (Option Value)} {oc23 kV23 dc23 pm23 cd23 ct23 : Value}
    {f24 : Addr} {od24 an24 : Option Addr} {sl24 : Array (Option Value)} {oc24 kV24 dc24 pm24 cd24 ct24 : Value}
    {f25 : Addr} {od25 an25 : Option Addr} {sl25 : Array (Option Value)} {oc25 kV25 dc25 pm25 cd25 ct25 : Value}
    {f26 : Addr} {od26 an26 : Option Addr} {sl26 : Array (Option Value)} {oc26 kV26 dc26 pm26 cd26 ct26 : Value}
    {f27 : Addr} {od27 an27 : Option Addr} {sl27 : Array (Option Value)} {oc27 kV27 dc27 pm27 cd27 ct27 : Value}
    (a0 : PySem.W.nsIn K mainGlobals "shown_pattern" = some (some (.ref f0))) (l0 : K.lookup f0 = some ⟨oc0, od0, .func (PySem.W.fnOf "shown_pattern" "shown_pattern" (defArgs s_shown_pattern) (defBody s_shown_pattern) (defScope s_shown_pattern) .none kV0 dc0 pm0 an0 cd0 ct0), sl0⟩) (c0 : PySem.W.codeIn K cd0 "shown_pattern" = true) (k0 : PySem.W.keepIn K (.ref f0) = true)
    (a1 : PySem.W.nsIn K mainGlobals "shown" = some (some (.ref f1))) (l1 : K.lookup f1 = some ⟨oc1, od1, .func (PySem.W.fnOf "shown" "shown" (defArgs s_shown) (defBody s_shown) (defScope s_shown) .none kV1 dc1 pm1 an1 cd1 ct1), sl1⟩) (c1 : PySem.W.codeIn K cd1 "shown" = true) (k1 : PySem.W.keepIn K (.ref f1) = true)
    (a2 : PySem.W.nsIn K mainGlobals "inward" = some (some (.ref f2))) (l2 : K.lookup f2 = some ⟨oc2, od2, .func (PySem.W.fnOf "inward" "inward" (defArgs s_inward) (defBody s_inward) (defScope s_inward) .none kV2 dc2 pm2 an2 cd2 ct2), sl2⟩) (c2 : PySem.W.codeIn K cd2 "inward" = true) (k2 : PySem.W.keepIn K (.ref f2) = true)
    (a3 : PySem.W.nsIn K mainGlobals "block_rows" = some (some (.ref f3))) (l3 : K.lookup f3 = some ⟨oc3, od3, .func (PySem.W.fnOf "block_rows" "block_rows" (defArgs s_block_rows) (defBody s_block_rows) (defScope s_block_rows) .none kV3 dc3 pm3 an3 cd3 ct3), sl3⟩) (c3 : PySem.W.codeIn K cd3 "block_rows" = true) (k3 : PySem.W.keepIn K (.ref f3) = true)
    (a4 : PySem.W.nsIn K mainGlobals "body_rows" = some (some (.ref f4))) (l4 : K.lookup f4 = some ⟨oc4, od4, .func (PySem.W.fnOf "body_rows" "body_rows" (defArgs s_body_rows) (defBody s_body_rows) (defScope s_body_rows) .none kV4 dc4 pm4 an4 cd4 ct4), sl4⟩) (c4 : PySem.W.codeIn K cd4 "body_rows" = true) (k4 : PySem.W.keepIn K (.ref f4) = true)
    (a5 : PySem.W.nsIn K mainGlobals "statement_rows" = some (some (.ref f5))) (l5 : K.lookup f5 = some ⟨oc5, od5, .func (PySem.W.fnOf "statement_rows" "statement_rows" (defArgs s_statement_rows) (defBody s_statement_rows) (defScope s_statement_rows) .none kV5 dc5 pm5 an5 cd5 ct5), sl5⟩) (c5 : PySem.W.codeIn K cd5 "statement_rows" = true) (k5 : PySem.W.keepIn K (.ref f5) = true)
    (a6 : PySem.W.nsIn K mainGlobals "joined_parts" = some (some (.ref f6))) (l6 : K.lookup f6 = some ⟨oc6, od6, .func (PySem.W.fnOf "joined_parts" "joined_parts" (defArgs s_joined_parts) (defBody s_joined_parts) (defScope s_joined_parts) .none kV6 dc6 pm6 an6 cd6 ct6), sl6⟩) (c6 : PySem.W.codeIn K cd6 "joined_parts" = true) (k6 : PySem.W.keepIn K (.ref f6) = true)
    (a7 : PySem.W.nsIn K mainGlobals "put_row" = some (some (.ref f7))) (l7 : K.lookup f7 = some ⟨oc7, od7, .func (PySem.W.fnOf "put_row" "put_row" (defArgs s_put_row) (defBody s_put_row) (defScope s_put_row) .none kV7 dc7 pm7 an7 cd7 ct7), sl7⟩) (c7 : PySem.W.codeIn K cd7 "put_row" = true) (k7 : PySem.W.keepIn K (.ref f7) = true)
    (a8 : PySem.W.nsIn K mainGlobals "if_rows" = some (some (.ref f8))) (l8 : K.lookup f8 = some ⟨oc8, od8, .func (PySem.W.fnOf "if_rows" "if_rows" (defArgs s_if_rows) (defBody s_if_rows) (defScope s_if_rows) .none kV8 dc8 pm8 an8 cd8 ct8), sl8⟩) (c8 : PySem.W.codeIn K cd8 "if_rows" = true) (k8 : PySem.W.keepIn K (.ref f8) = true)
    (a9 : PySem.W.nsIn K mainGlobals "wait_rows" = some (some (.ref f9))) (l9 : K.lookup f9 = some ⟨oc9, od9, .func (PySem.W.fnOf "wait_rows" "wait_rows" (defArgs s_wait_rows) (defBody s_wait_rows) (defScope s_wait_rows) .none kV9 dc9 pm9 an9 cd9 ct9), sl9⟩) (c9 : PySem.W.codeIn K cd9 "wait_rows" = true) (k9 : PySem.W.keepIn K (.ref f9) = true)
    (a10 : PySem.W.nsIn K mainGlobals "shown_expression" = some (some (.ref f10))) (l10 : K.lookup f10 = some ⟨oc10, od10, .func (PySem.W.fnOf "shown_expression" "shown_expression" (defArgs s_shown_expression) (defBody s_shown_expression) (defScope s_shown_expression) .none kV10 dc10 pm10 an10 cd10 ct10), sl10⟩) (c10 : PySem.W.codeIn K cd10 "shown_expression" = true) (k10 : PySem.W.keepIn K (.ref f10) = true)
    (a11 : PySem.W.nsIn K mainGlobals "shown_condition" = some (some (.ref f11))) (l11 : K.lookup f11 = some ⟨oc11, od11, .func (PySem.W.fnOf "shown_condition" "shown_condition" (defArgs s_shown_condition) (defBody s_shown_condition) (defScope s_shown_condition) .none kV11 dc11 pm11 an11 cd11 ct11), sl11⟩) (c11 : PySem.W.codeIn K cd11 "shown_condition" = true) (k11 : PySem.W.keepIn K (.ref f11) = true)
    (a12 : PySem.W.nsIn K mainGlobals "_law_cell_at" = some (some (.ref f12))) (l12 : K.lookup f12 = some ⟨oc12, od12, .func (PySem.W.fnOf "_law_cell_at" "_law_cell_at" (defArgs s_law_cell_at) (defBody s_law_cell_at) (defScope s_law_cell_at) .none kV12 dc12 pm12 an12 cd12 ct12), sl12⟩) (c12 : PySem.W.codeIn K cd12 "_law_cell_at" = true) (k12 : PySem.W.keepIn K (.ref f12) = true)
    (a13 : PySem.W.nsIn K mainGlobals "_law_stir" = some (some (.ref f13))) (l13 : K.lookup f13 = some ⟨oc13, od13, .func (PySem.W.fnOf "_law_stir" "_law_stir" (defArgs s_law_stir) (defBody s_law_stir) (defScope s_law_stir) .none kV13 dc13 pm13 an13 cd13 ct13), sl13⟩) (c13 : PySem.W.codeIn K cd13 "_law_stir" = true) (k13 : PySem.W.keepIn K (.ref f13) = true)
    (a14 : PySem.W.nsIn K mainGlobals "_law_word" = some (some (.ref f14))) (l14 : K.lookup f14 = some ⟨oc14, od14, .func (PySem.W.fnOf "_law_word" "_law_word" (defArgs s_law_word) (defBody s_law_word) (defScope s_law_word) .none kV14 dc14 pm14 an14 cd14 ct14), sl14⟩) (c14 : PySem.W.codeIn K cd14 "_law_word" = true) (k14 : PySem.W.keepIn K (.ref f14) = true)
    (a15 : PySem.W.nsIn K mainGlobals "_law_name" = some (some (.ref f15))) (l15 : K.lookup f15 = some ⟨oc15, od15, .func (PySem.W.fnOf "_law_name" "_law_name" (defArgs s_law_name) (defBody s_law_name) (defScope s_law_name) .none kV15 dc15 pm15 an15 cd15 ct15), sl15⟩) (c15 : PySem.W.codeIn K cd15 "_law_name" = true) (k15 : PySem.W.keepIn K (.ref f15) = true)
    (a16 : PySem.W.nsIn K mainGlobals "_law_expr" = some (some (.ref f16))) (l16 : K.lookup f16 = some ⟨oc16, od16, .func (PySem.W.fnOf "_law_expr" "_law_expr" (defArgs s_law_expr) (defBody s_law_expr) (defScope s_law_expr) .none kV16 dc16 pm16 an16 cd16 ct16), sl16⟩) (c16 : PySem.W.codeIn K cd16 "_law_expr" = true) (k16 : PySem.W.keepIn K (.ref f16) = true)
    (a17 : PySem.W.nsIn K mainGlobals "_law_cond" = some (some (.ref f17))) (l17 : K.lookup f17 = some ⟨oc17, od17, .func (PySem.W.fnOf "_law_cond" "_law_cond" (defArgs s_law_cond) (defBody s_law_cond) (defScope s_law_cond) .none kV17 dc17 pm17 an17 cd17 ct17), sl17⟩) (c17 : PySem.W.codeIn K cd17 "_law_cond" = true) (k17 : PySem.W.keepIn K (.ref f17) = true)
    (a18 : PySem.W.nsIn K mainGlobals "_law_number" = some (some (.ref f18))) (l18 : K.lookup f18 = some ⟨oc18, od18, .func (PySem.W.fnOf "_law_number" "_law_number" (defArgs s_law_number) (defBody s_law_number) (defScope s_law_number) .none kV18 dc18 pm18 an18 cd18 ct18), sl18⟩) (c18 : PySem.W.codeIn K cd18 "_law_number" = true) (k18 : PySem.W.keepIn K (.ref f18) = true)
    (a19 : PySem.W.nsIn K mainGlobals "_law_pattern" = some (some (.ref f19))) (l19 : K.lookup f19 = some ⟨oc19, od19, .func (PySem.W.fnOf "_law_pattern" "_law_pattern" (defArgs s_law_pattern) (defBody s_law_pattern) (defScope s_law_pattern) .none kV19 dc19 pm19 an19 cd19 ct19), sl19⟩) (c19 : PySem.W.codeIn K cd19 "_law_pattern" = true) (k19 : PySem.W.keepIn K (.ref f19) = true)
    (a20 : PySem.W.nsIn K mainGlobals "_law_plain" = some (some (.ref f20))) (l20 : K.lookup f20 = some ⟨oc20, od20, .func (PySem.W.fnOf "_law_plain" "_law_plain" (defArgs s_law_plain) (defBody s_law_plain) (defScope s_law_plain) .none kV20 dc20 pm20 an20 cd20 ct20), sl20⟩) (c20 : PySem.W.codeIn K cd20 "_law_plain" = true) (k20 : PySem.W.keepIn K (.ref f20) = true)
    (a21 : PySem.W.nsIn K mainGlobals "_law_close" = some (some (.ref f21))) (l21 : K.lookup f21 = some ⟨oc21, od21, .func (PySem.W.fnOf "_law_close" "_law_close" (defArgs s_law_close) (defBody s_law_close) (defScope s_law_close) .none kV21 dc21 pm21 an21 cd21 ct21), sl21⟩) (c21 : PySem.W.codeIn K cd21 "_law_close" = true) (k21 : PySem.W.keepIn K (.ref f21) = true)
    (a22 : PySem.W.nsIn K mainGlobals "_law_step" = some (some (.ref f22))) (l22 : K.lookup f22 = some ⟨oc22, od22, .func (PySem.W.fnOf "_law_step" "_law_step" (defArgs s_law_step) (defBody s_law_step) (defScope s_law_step) .none kV22 dc22 pm22 an22 cd22 ct22), sl22⟩) (c22 : PySem.W.codeIn K cd22 "_law_step" = true) (k22 : PySem.W.keepIn K (.ref f22) = true)
    (a23 : PySem.W.nsIn K mainGlobals "_law_script" = some (some (.ref f23))) (l23 : K.lookup f23 = some ⟨oc23, od23, .func (PySem.W.fnOf "_law_script" "_law_script" (defArgs s_law_script) (defBody s_law_script) (defScope s_law_script) .none kV23 dc23 pm23 an23 cd23 ct23), sl23⟩) (c23 : PySem.W.codeIn K cd23 "_law_script" = true) (k23 : PySem.W.keepIn K (.ref f23) = true)
    (a24 : PySem.W.nsIn K mainGlobals "_law_part" = some (some (.ref f24))) (l24 : K.lookup f24 = some ⟨oc24, od24, .func (PySem.W.fnOf "_law_part" "_law_part" (defArgs s_law_part) (defBody s_law_part) (defScope s_law_part) .none kV24 dc24 pm24 an24 cd24 ct24), sl24⟩) (c24 : PySem.W.codeIn K cd24 "_law_part" = true) (k24 : PySem.W.keepIn K (.ref f24) = true)
    (a25 : PySem.W.nsIn K mainGlobals "_law_rows" = some (some (.ref f25))) (l25 : K.lookup f25 = some ⟨oc25, od25, .func (PySem.W.fnOf "_law_rows" "_law_rows" (defArgs s_law_rows) (defBody s_law_rows) (defScope s_law_rows) .none kV25 dc25 pm25 an25 cd25 ct25), sl25⟩) (c25 : PySem.W.codeIn K cd25 "_law_rows" = true) (k25 : PySem.W.keepIn K (.ref f25) = true)
    (a26 : PySem.W.nsIn K mainGlobals "_law_all_rows" = some (some (.ref f26))) (l26 : K.lookup f26 = some ⟨oc26, od26, .func (PySem.W.fnOf "_law_all_rows" "_law_all_rows" (defArgs s_law_all_rows) (defBody s_law_all_rows) (defScope s_law_all_rows) .none kV26 dc26 pm26 an26 cd26 ct26), sl26⟩) (c26 : PySem.W.codeIn K cd26 "_law_all_rows" = true) (k26 : PySem.W.keepIn K (.ref f26) = true)
    (a27 : PySem.W.nsIn K mainGlobals "law" = some (some (.ref f27))) (l27 : K.lookup f27 = some ⟨oc27, od27, .func (PySem.W.fnOf "law" "law" (defArgs s_law) (defBody s_law) (defScope s_law) .none kV27 dc27 pm27 an27 cd27 ct27), sl27⟩) (c27 : PySem.W.codeIn K cd27 "law" = true) (k27 : PySem.W.keepIn K (.ref f27) = true)
    (z_isinstance : PySem.W.nsIn K mainGlobals "isinstance" = some none)
    (z_len : PySem.W.nsIn K mainGlobals "len" = some none)
    (z_range : PySem.W.nsIn K mainGlobals "range" = some none)
    (z_str : PySem.W.nsIn K mainGlobals "str" = some none)
    {u_SIGNS : Value} {ad_SIGNS : Addr} {es_SIGNS : Array DictEntry} {n_SIGNS : Nat} (m_SIGNS : PySem.W.nsIn K mainGlobals "SIGNS" = some (some u_SIGNS)) (r_SIGNS : RelV (.ref ad_SIGNS) u_SIGNS) (l_SIGNS : K.lookup ad_SIGNS = some ⟨.type "dict", none, .dict es_SIGNS n_SIGNS, #[]⟩) (h_SIGNS : PySem.W.KeysLit w.params es_SIGNS.toList)
    {v0_SIGNS : Value} (n0_SIGNS : PySem.W.nsIn K ad_SIGNS "plus" = some (some v0_SIGNS)) (r_0_SIGNS : RelV (.str "+") v0_SIGNS)
    {v1_SIGNS : Value} (n1_SIGNS : PySem.W.nsIn K ad_SIGNS "less" = some (some v1_SIGNS)) (r_1_SIGNS : RelV (.str "-") v1_SIGNS)
    {v2_SIGNS : Value} (n2_SIGNS : PySem.W.nsIn K ad_SIGNS "same" = some (some v2_SIGNS)) (r_2_SIGNS : RelV (.str "=") v2_SIGNS)
    {v3_SIGNS : Value} (n3_SIGNS : PySem.W.nsIn K ad_SIGNS "under" = some (some v3_SIGNS)) (r_3_SIGNS : RelV (.str "<") v3_SIGNS)
    {u_BLOCK : Value} (m_BLOCK : PySem.W.nsIn K mainGlobals "BLOCK" = some (some u_BLOCK))
    (r_BLOCK : RelV (.str "  ") u_BLOCK)
    : ∃ fd : FuncData, (∀ (s : Shared) (v : Value), BindsTo s fd ⟨[v], []⟩ [("script", v)]) ∧ ∀ base : Heap, K.In base → base.Ns mainGlobals mg → FnOk l.prog w K mg base CX0 61 fa fd ["script"] (sp_law K) := by
  have e := hfa.symm.trans (PySem.W.mg_of X G a27)
  cases e
  have F0 := fun_mk (st := s_shown_pattern) l0 c0 k0
  have b0 := F0.binds (ps := ["pattern"]) fun _ _ _ _ _ _ us hl => match us, hl with | [_], _ => rfl
  have F1 := fun_mk (st := s_shown) l1 c1 k1
  have b1 := F1.binds (ps := ["script"]) fun _ _ _ _ _ _ us hl => match us, hl with | [_], _ => rfl
  have F2 := fun_mk (st := s_inward) l2 c2 k2
  have b2 := F2.binds (ps := ["rows"]) fun _ _ _ _ _ _ us hl => match us, hl with | [_], _ => rfl
  have F3 := fun_mk (st := s_block_rows) l3 c3 k3
  have b3 := F3.binds (ps := ["head", "rows"]) fun _ _ _ _ _ _ us hl => match us, hl with | [_, _], _ => rfl
  have F4 := fun_mk (st := s_body_rows) l4 c4 k4
  have b4 := F4.binds (ps := ["body"]) fun _ _ _ _ _ _ us hl => match us, hl with | [_], _ => rfl
  have F5 := fun_mk (st := s_statement_rows) l5 c5 k5
  have b5 := F5.binds (ps := ["statement"]) fun _ _ _ _ _ _ us hl => match us, hl with | [_], _ => rfl
  have F6 := fun_mk (st := s_joined_parts) l6 c6 k6
  have b6 := F6.binds (ps := ["parts"]) fun _ _ _ _ _ _ us hl => match us, hl with | [_], _ => rfl
  have F7 := fun_mk (st := s_put_row) l7 c7 k7
  have b7 := F7.binds (ps := ["statement"]) fun _ _ _ _ _ _ us hl => match us, hl with | [_], _ => rfl
  have F8 := fun_mk (st := s_if_rows) l8 c8 k8
  have b8 := F8.binds (ps := ["statement"]) fun _ _ _ _ _ _ us hl => match us, hl with | [_], _ => rfl
  have F9 := fun_mk (st := s_wait_rows) l9 c9 k9
  have b9 := F9.binds (ps := ["statement"]) fun _ _ _ _ _ _ us hl => match us, hl with | [_], _ => rfl
  have F10 := fun_mk (st := s_shown_expression) l10 c10 k10
  have b10 := F10.binds (ps := ["expression"]) fun _ _ _ _ _ _ us hl => match us, hl with | [_], _ => rfl
  have F11 := fun_mk (st := s_shown_condition) l11 c11 k11
  have b11 := F11.binds (ps := ["condition"]) fun _ _ _ _ _ _ us hl => match us, hl with | [_], _ => rfl
  have F12 := fun_mk (st := s_law_cell_at) l12 c12 k12
  have b12 := F12.binds (ps := ["script", "k"]) fun _ _ _ _ _ _ us hl => match us, hl with | [_, _], _ => rfl
  have F13 := fun_mk (st := s_law_stir) l13 c13 k13
  have b13 := F13.binds (ps := ["cell", "k"]) fun _ _ _ _ _ _ us hl => match us, hl with | [_, _], _ => rfl
  have F14 := fun_mk (st := s_law_word) l14 c14 k14
  have b14 := F14.binds (ps := ["number"]) fun _ _ _ _ _ _ us hl => match us, hl with | [_], _ => rfl
  have F15 := fun_mk (st := s_law_name) l15 c15 k15
  have b15 := F15.binds (ps := ["number"]) fun _ _ _ _ _ _ us hl => match us, hl with | [_], _ => rfl
  have F16 := fun_mk (st := s_law_expr) l16 c16 k16
  have b16 := F16.binds (ps := ["number", "deep", "names"]) fun _ _ _ _ _ _ us hl => match us, hl with | [_, _, _], _ => rfl
  have F17 := fun_mk (st := s_law_cond) l17 c17 k17
  have b17 := F17.binds (ps := ["number", "deep", "names"]) fun _ _ _ _ _ _ us hl => match us, hl with | [_, _, _], _ => rfl
  have F18 := fun_mk (st := s_law_number) l18 c18 k18
  have b18 := F18.binds (ps := ["cell"]) fun _ _ _ _ _ _ us hl => match us, hl with | [_], _ => rfl
  have F19 := fun_mk (st := s_law_pattern) l19 c19 k19
  have b19 := F19.binds (ps := ["number"]) fun _ _ _ _ _ _ us hl => match us, hl with | [_], _ => rfl
  have F20 := fun_mk (st := s_law_plain) l20 c20 k20
  have b20 := F20.binds (ps := ["way", "number", "names"]) fun _ _ _ _ _ _ us hl => match us, hl with | [_, _, _], _ => rfl
  have F21 := fun_mk (st := s_law_close) l21 c21 k21
  have b21 := F21.binds (ps := ["pile"]) fun _ _ _ _ _ _ us hl => match us, hl with | [_], _ => rfl
  have F22 := fun_mk (st := s_law_step) l22 c22 k22
  have b22 := F22.binds (ps := ["pile", "number", "names"]) fun _ _ _ _ _ _ us hl => match us, hl with | [_, _, _], _ => rfl
  have F23 := fun_mk (st := s_law_script) l23 c23 k23
  have b23 := F23.binds (ps := ["script", "many"]) fun _ _ _ _ _ _ us hl => match us, hl with | [_, _], _ => rfl
  have F24 := fun_mk (st := s_law_part) l24 c24 k24
  have b24 := F24.binds (ps := ["thing"]) fun _ _ _ _ _ _ us hl => match us, hl with | [_], _ => rfl
  have F25 := fun_mk (st := s_law_rows) l25 c25 k25
  have b25 := F25.binds (ps := ["body", "deep"]) fun _ _ _ _ _ _ us hl => match us, hl with | [_, _], _ => rfl
  have F26 := fun_mk (st := s_law_all_rows) l26 c26 k26
  have b26 := F26.binds (ps := ["script"]) fun _ _ _ _ _ _ us hl => match us, hl with | [_], _ => rfl
  have F27 := fun_mk (st := s_law) l27 c27 k27
  have b27 := F27.binds (ps := ["script"]) fun _ _ _ _ _ _ us hl => match us, hl with | [_], _ => rfl
  have TT : Txt K mg w.params ⟨_, _, _, _, _, _, _, _, _, _, _, _, _, _, _, _, _, _, _, _, _, _, _, _, _, _, _, _, _, _, _, _, _, _, _, _, _, _, _, _, _, _, _, _, _, _, _, _, _, _, _, _, _, _, _, _, u_SIGNS, ad_SIGNS, u_BLOCK⟩ := ⟨F0, PySem.W.mg_of X G a0, b0, F1, PySem.W.mg_of X G a1, b1, F2, PySem.W.mg_of X G a2, b2, F3, PySem.W.mg_of X G a3, b3, F4, PySem.W.mg_of X G a4, b4, F5, PySem.W.mg_of X G a5, b5, F6, PySem.W.mg_of X G a6, b6, F7, PySem.W.mg_of X G a7, b7, F8, PySem.W.mg_of X G a8, b8, F9, PySem.W.mg_of X G a9, b9, F10, PySem.W.mg_of X G a10, b10, F11, PySem.W.mg_of X G a11, b11, F12, PySem.W.mg_of X G a12, b12, F13, PySem.W.mg_of X G a13, b13, F14, PySem.W.mg_of X G a14, b14, F15, PySem.W.mg_of X G a15, b15, F16, PySem.W.mg_of X G a16, b16, F17, PySem.W.mg_of X G a17, b17, F18, PySem.W.mg_of X G a18, b18, F19, PySem.W.mg_of X G a19, b19, F20, PySem.W.mg_of X G a20, b20, F21, PySem.W.mg_of X G a21, b21, F22, PySem.W.mg_of X G a22, b22, F23, PySem.W.mg_of X G a23, b23, F24, PySem.W.mg_of X G a24, b24, F25, PySem.W.mg_of X G a25, b25, F26, PySem.W.mg_of X G a26, b26, F27, PySem.W.mg_of X G a27, b27, PySem.W.mg_none_of X G z_isinstance, PySem.W.mg_none_of X G z_len, PySem.W.mg_none_of X G z_range, PySem.W.mg_none_of X G z_str, PySem.W.mg_of X G m_SIGNS, r_SIGNS, ⟨⟨_, _, l_SIGNS, h_SIGNS⟩, DicAt.all (.cons n0_SIGNS r_0_SIGNS (.cons n1_SIGNS r_1_SIGNS (.cons n2_SIGNS r_2_SIGNS (.cons n3_SIGNS r_3_SIGNS (.nil)))))⟩, PySem.W.mg_of X G m_BLOCK, r_BLOCK⟩
  exact ⟨_, fun s v => .of_eq rfl, fun base _ _ => ok_law TT⟩
theorem walk {l : PySem.W.OpenLaw} {q : Program} {loose : List Str} {XP : (Str → Option Value) → Heap → Prop} {YP : World → Heap → Prop} {d : DefRec} {K : Params → PySem.W.Frag} (hn : l.most = some 63) (hdf : d.params.defaults = [])
    (hY : ∀ (w : World) (h : Heap), YP w h → (K w.params).In h)
    (F : ∀ (w : World) (mg : Str → Option Value) (fa : Addr) (h : Heap), (K w.params).In h → h.Ns mainGlobals mg → mg d.name = some (.ref fa) →
      ∃ fd : FuncData, (∀ (s : Shared) (u : Value), BindsTo s fd ⟨[u], []⟩ [("script", u)]) ∧ ∀ base : Heap, (K w.params).In base → base.Ns mainGlobals mg → FnOk l.prog w (K w.params) mg base CX0 61 fa fd ["script"] (sp_law (K w.params))) :
    PySem.W.WalkO q loose XP YP l.row.toRowW d [] (fun f vs => PySem.call f vs) :=
  L2.walk_of (n := 63) (k := 61) (x := "script") (CX := fun _ => CX0) (sp := fun w => sp_law (K w.params)) hn (by decide) hdf ⟨rfl, by decide, by decide⟩ hY F (fun _ _ a ns hl _ hS => ⟨a, ns, rfl, hS, hl, fun _ => rfl⟩) fun _ _ _ _ _ z => z
end K06
open PySem PySem.W PyProof.Rows
set_option maxRecDepth 100000 in
set_option maxHeartbeats 0 in
theorem PySem.Challenge.cw_callmill_k06_written_rows_holds : PySem.Challenge.rw_callmill_k06_written_rows.Holds := by
  w_on; o_law; k_head; (case hw => w_witness2)
  k_fill
  refine K06.walk (l := PySem.Challenge.rw_callmill_k06_written_rows) rfl rfl (fun w h Y => PySem.W.kIn_of Y) ?F
  case F =>
    intro w mg fa h KX G hmg
    refine' K06.all_mk KX G hmg ?a0 ?l0 ?c0 ?k0 ?a1 ?l1 ?c1 ?k1 ?a2 ?l2 ?c2 ?k2 ?a3 ?l3 ?c3 ?k3 ?a4 ?l4 ?c4 ?k4 ?a5 ?l5 ?c5 ?k5 ?a6 ?l6 ?c6 ?k6 ?a7 ?l7 ?c7 ?k7 ?a8 ?l8 ?c8 ?k8 ?a9 ?l9 ?c9 ?k9 ?a10 ?l10 ?c10 ?k10 ?a11 ?l11 ?c11 ?k11 ?a12 ?l12 ?c12 ?k12 ?a13 ?l13 ?c13 ?k13 ?a14 ?l14 ?c14 ?k14 ?a15 ?l15 ?c15 ?k15 ?a16 ?l16 ?c16 ?k16 ?a17 ?l17 ?c17 ?k17 ?a18 ?l18 ?c18 ?k18 ?a19 ?l19 ?c19 ?k19 ?a20 ?l20 ?c20 ?k20 ?a21 ?l21 ?c21 ?k21 ?a22 ?l22 ?c22 ?k22 ?a23 ?l23 ?c23 ?k23 ?a24 ?l24 ?c24 ?k24 ?a25 ?l25 ?c25 ?k25 ?a26 ?l26 ?c26 ?k26 ?a27 ?l27 ?c27 ?k27 ?z_isinstance ?z_len ?z_range ?z_str ?m_SIGNS ?r_SIGNS ?l_SIGNS ?h_SIGNS ?n0_SIGNS ?r_0_SIGNS ?n1_SIGNS ?r_1_SIGNS ?n2_SIGNS ?r_2_SIGNS ?n3_SIGNS ?r_3_SIGNS ?m_BLOCK ?r_BLOCK
    (case a0 => k_is)
    (case l0 => k_is)
    (case c0 => k_is)
    (case k0 => k_is)
    (case a1 => k_is)
    (case l1 => k_is)
    (case c1 => k_is)
    (case k1 => k_is)
    (case a2 => k_is)
    (case l2 => k_is)
    (case c2 => k_is)
    (case k2 => k_is)
    (case a3 => k_is)
    (case l3 => k_is)
    (case c3 => k_is)
    (case k3 => k_is)
    (case a4 => k_is)
    (case l4 => k_is)
    (case c4 => k_is)
    (case k4 => k_is)
    (case a5 => k_is)
    (case l5 => k_is)
    (case c5 => k_is)
    (case k5 => k_is)
    (case a6 => k_is)
    (case l6 => k_is)
    (case c6 => k_is)
    (case k6 => k_is)
    (case a7 => k_is)
    (case l7 => k_is)
    (case c7 => k_is)
    (case k7 => k_is)
    (case a8 => k_is)
    (case l8 => k_is)
    (case c8 => k_is)
    (case k8 => k_is)
    (case a9 => k_is)
    (case l9 => k_is)
    (case c9 => k_is)
    (case k9 => k_is)
    (case a10 => k_is)
    (case l10 => k_is)
    (case c10 => k_is)
    (case k10 => k_is)
    (case a11 => k_is)
    (case l11 => k_is)
    (case c11 => k_is)
    (case k11 => k_is)
    (case a12 => k_is)
    (case l12 => k_is)
    (case c12 => k_is)
    (case k12 => k_is)
    (case a13 => k_is)
    (case l13 => k_is)
    (case c13 => k_is)
    (case k13 => k_is)
    (case a14 => k_is)
    (case l14 => k_is)
    (case c14 => k_is)
    (case k14 => k_is)
    (case a15 => k_is)
    (case l15 => k_is)
    (case c15 => k_is)
    (case k15 => k_is)
    (case a16 => k_is)
    (case l16 => k_is)
    (case c16 => k_is)
    (case k16 => k_is)
    (case a17 => k_is)
    (case l17 => k_is)
    (case c17 => k_is)
    (case k17 => k_is)
    (case a18 => k_is)
    (case l18 => k_is)
    (case c18 => k_is)
    (case k18 => k_is)
    (case a19 => k_is)
    (case l19 => k_is)
    (case c19 => k_is)
    (case k19 => k_is)
    (case a20 => k_is)
    (case l20 => k_is)
    (case c20 => k_is)
    (case k20 => k_is)
    (case a21 => k_is)
    (case l21 => k_is)
    (case c21 => k_is)
    (case k21 => k_is)
    (case a22 => k_is)
    (case l22 => k_is)
    (case c22 => k_is)
    (case k22 => k_is)
    (case a23 => k_is)
    (case l23 => k_is)
    (case c23 => k_is)
    (case k23 => k_is)
    (case a24 => k_is)
    (case l24 => k_is)
    (case c24 => k_is)
    (case k24 => k_is)
    (case a25 => k_is)
    (case l25 => k_is)
    (case c25 => k_is)
    (case k25 => k_is)
    (case a26 => k_is)
    (case l26 => k_is)
    (case c26 => k_is)
    (case k26 => k_is)
    (case a27 => k_is)
    (case l27 => k_is)
    (case c27 => k_is)
    (case k27 => k_is)
    (case z_isinstance => k_is)
    (case z_len => k_is)
    (case z_range => k_is)
    (case z_str => k_is)
    (case m_SIGNS => k_is)
    (case r_SIGNS => exact rfl)
    (case l_SIGNS => k_is)
    (case h_SIGNS => exact ⟨⟨_, _, rfl, rfl⟩, ⟨⟨_, _, rfl, rfl⟩, ⟨⟨_, _, rfl, rfl⟩, ⟨⟨_, _, rfl, rfl⟩, trivial⟩⟩⟩⟩)
    (case n0_SIGNS => k_is)
    (case r_0_SIGNS => exact ⟨_, rfl⟩)
    (case n1_SIGNS => k_is)
    (case r_1_SIGNS => exact ⟨_, rfl⟩)
    (case n2_SIGNS => k_is)
    (case r_2_SIGNS => exact ⟨_, rfl⟩)
    (case n3_SIGNS => k_is)
    (case r_3_SIGNS => exact ⟨_, rfl⟩)
    (case m_BLOCK => k_is)
    (case r_BLOCK => exact ⟨_, rfl⟩)
