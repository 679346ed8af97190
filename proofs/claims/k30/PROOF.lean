import PyProof.Rows.All
import Wide.All
import OpenK.KLine
import KE.KItem
import KE.KIsAll
import Wide.FinOn
import Lean
import PyProof.EqAt
import PyProof.EqKinds
import PyProof.TupleCall
import PyProof.NeKinds
import PyProof.DictUpdate
import PyProof.AttrMissHeap
import KE.KDictOf
import PyProof.TupleIter
import PyProof.WalksEnum
import PyProof.EnumMake
import PyProof.Rows.EnumRows
import PyProof.Rows.MaxTwoN
import PyProof.ZipIter
import PyProof.IsRules
import PyProof.DictRoadsH
import Wide.Seal
import PyProof.MeetsDict
import PyProof.DictIter
import PyProof.DictWalks
import KE.KDictList
import PyProof.Rows.SumAny
import PyProof.ListRange
import PyProof.AutoSeq1
import PyProof.WalkInts
import PyProof.SeqI3
import KE.KTextTable
import PyProof.MeetsStr
import PyProof.StrCalls5
import PyProof.Rows.TupDisplay
import PyProof.Rows.TupAdd
import PyProof.Rows.StrNews2
import PyProof.StrBlockI
import PyProof.DictTruth
import PyProof.Rows.SortShell
import PyProof.DictValues
import PyProof.ConsumeS
import PyProof.Draws
import PyProof.Rows.SetFrom
import PyProof.FactsAll.set_1
import KE.KDictSum
import PyProof.Rows.SortStr
import PyProof.Rows.SortWalk
import PyProof.Rows.TmSorted
import PyProof.Rows.CallKwBuiltin
import KE.KTryDeep
import PyProof.Rows.CatchBare
import PyProof.Rows.TopTwo
import OpenK.KOwn
import PyProof.CallFns
import PyProof.SetRoads
import KE.KTryMore
import KE.KIsAll
import PyProof.ExcArgsOwn
import PyProof.ExcAttrAll.ValueError
import PyProof.RulesAs
import PyProof.NsDelKeeps
import PyProof.Rows.Catch
import PySem.Challenge.RW_callmill_k30_too_many_pairs
set_option Elab.async false
set_option linter.all false
set_option maxRecDepth 100000
set_option maxHeartbeats 4000000
namespace L2
open PySem PySem.Spec PyProof.Rows
abbrev Key:=Sum Int Str
def b26:Key→Value→Bool
 | .inl k,v=>Value.isInt k v
 | .inr x,v=>Value.isStrOf x v
def keyH (w:World):Key→Int
 | .inl k=>hashInt k
 | .inr x=>hashStr w x
theorem a44:∀ {k:Key}{v:Value},b26 k v=true→(∃ i t,k=Sum.inl i∧v=Value.int i t)∨(∃ x t,k=Sum.inr x∧v=Value.str x t)
 | .inl i,v,h=>by
   obtain ⟨t,e⟩:=Value.isInt_shape (k:=i) (v:=v) h
   exact .inl ⟨i,t,rfl,e⟩
 | .inr x,v,h=>by
   obtain ⟨t,e⟩:=Value.isStrOf_shape (x:=x) (v:=v) h
   exact .inr ⟨x,t,rfl,e⟩
theorem b54 (i:Int) (t:Tok):b26 (.inl i) (.int i t)=true:=by simp [b26,Value.isInt]
theorem b55 (x:Str) (t:Tok):b26 (.inr x) (.str x t)=true:=by simp [b26,Value.isStrOf]
theorem c32 (a b:Int):decide ((Sum.inl a:Key)=Sum.inl b)=(a == b):=by
 by_cases e:a=b
 · subst e; simp
 · have h:¬ (Sum.inl a:Key)=Sum.inl b:=fun q=>e (Sum.inl.inj q)
   rw [decide_eq_false h]
   exact (beq_eq_false_iff_ne.mpr e).symm
theorem c33 (a b:Str):decide ((Sum.inr a:Key)=Sum.inr b)=decide (a=b):=by
 by_cases e:a=b
 · subst e; simp
 · have h:¬ (Sum.inr a:Key)=Sum.inr b:=fun q=>e (Sum.inr.inj q)
   rw [decide_eq_false h,decide_eq_false e]
theorem c34 (a:Int) (b:Str):decide ((Sum.inl a:Key)=Sum.inr b)=false:=decide_eq_false (fun q=>nomatch q)
theorem c35 (a:Str) (b:Int):decide ((Sum.inr a:Key)=Sum.inl b)=false:=decide_eq_false (fun q=>nomatch q)
def a59 (prog:Program) (w:World):PySem.KeyKind prog w Key where
 is:=b26
 hash:=keyH w
 inj:=fun v a b ha hb=>by
  rcases a44 ha with ⟨i,t,rfl,rfl⟩ | ⟨x,t,rfl,rfl⟩
  · rcases a44 hb with ⟨j,u,rfl,e⟩ | ⟨y,u,rfl,e⟩
    · injection e with e1 _; rw [e1]
    · exact nomatch e
  · rcases a44 hb with ⟨j,u,rfl,e⟩ | ⟨y,u,rfl,e⟩
    · exact nomatch e
    · injection e with e1 _; rw [e1]
 byValue:=fun k v h=>by
  rcases a44 h with ⟨i,t,rfl,rfl⟩ | ⟨x,t,rfl,rfl⟩ <;> rfl
 pyHash:=fun hv h=>by
  rcases a44 hv with ⟨i,t,rfl,rfl⟩ | ⟨x,t,rfl,rfl⟩
  · exact wpAny_pyHash_int h
  · exact wpAny_pyHash_str h
 eqBool:=fun hu hv h=>by
  rcases a44 hu with ⟨i,t,rfl,rfl⟩ | ⟨x,t,rfl,rfl⟩
  · rcases a44 hv with ⟨j,u,rfl,rfl⟩ | ⟨y,u,rfl,rfl⟩
    · rw [c32] at h; exact wpAny_eqBool_int h
    · rw [c34] at h; exact SeqAt.EqAt.int_str i t y u _ _ _ _ h
  · rcases a44 hv with ⟨j,u,rfl,rfl⟩ | ⟨y,u,rfl,rfl⟩
    · rw [c35] at h; exact SeqAt.EqAt.str_int x t j u _ _ _ _ h
    · rw [c33] at h; exact wpAny_eqBool_str h
 «strs»:=fun k x t v h=>by
  rcases a44 h with ⟨i,u,rfl,e⟩ | ⟨y,u,rfl,e⟩
  · exact nomatch e
  · injection e with e1 _
    subst e1
    cases v <;> rfl
theorem av7 (prog:Program) (w:World) (i:Int) (t:Tok):(a59 prog w).is (.inl i) (.int i t)=true:=b54 i t
theorem av8 (prog:Program) (w:World) (x:Str) (t:Tok):(a59 prog w).is (.inr x) (.str x t)=true:=b55 x t
inductive V where
 | non | bl (b:Bool) | int (i:Int) | str (x:Str) | byt (b:Array UInt8) | flt (b:UInt64) | ref (a:Addr) | ty (n:String)
 deriving DecidableEq
def RelV:V→Value→Prop
 | .non,u=>u=Value.none
 | .bl b,u=>u=Value.bool b
 | .int i,u=>∃ t,u=Value.int i t
 | .str x,u=>∃ t,u=Value.str x t
 | .byt b,u=>∃ t,u=Value.bytes b t
 | .flt b,u=>∃ t,u=Value.float b t
 | .ref a,u=>u=Value.ref a
 | .ty n,u=>u=Value.type n
abbrev Vals:List V→List Value→Prop:=Paired RelV
theorem Vals.length {xs:List V}{us:List Value}(r:Vals xs us):xs.length=us.length:=Paired.length r
theorem Vals.get:∀ {xs:List V}{us:List Value}{i:Nat}{x:V},Vals xs us→xs[i]?=some x→∃ u,us[i]?=some u∧RelV x u
 | _,_,_,_,.nil,e=>by simp at e
 | _,_,0,_,.cons r _,e=>by simp at e; subst e; exact ⟨_,rfl,r⟩
 | _,_,i+1,x,.cons _ t,e=>by
   obtain ⟨u,h1,h2⟩:=Vals.get (i:=i) (x:=x) t (by simpa using e)
   exact ⟨u,by simpa using h1,h2⟩
theorem Vals.set {x:V}{u:Value}(r:RelV x u):∀ {xs:List V}{us:List Value}(i:Nat),Vals xs us→Vals (xs.set i x) (us.set i u)
 | _,_,_,.nil=>.nil
 | _,_,0,.cons _ t=>.cons r t
 | _,_,i+1,.cons q t=>.cons q (Vals.set r i t)
theorem Vals.append:∀ {xs ys:List V}{us ws:List Value},Vals xs us→Vals ys ws→Vals (xs++ys) (us++ws)
 | _,_,_,_,.nil,s=>s
 | _,_,_,_,.cons r t,s=>.cons r (Vals.append t s)
theorem Vals.take:∀ {xs:List V}{us:List Value}(n:Nat),Vals xs us→Vals (xs.take n) (us.take n)
 | _,_,0,_=>.nil
 | _,_,_+1,.nil=>.nil
 | _,_,n+1,.cons r t=>.cons r (Vals.take n t)
theorem Vals.drop:∀ {xs:List V}{us:List Value}(n:Nat),Vals xs us→Vals (xs.drop n) (us.drop n)
 | _,_,0,r=>r
 | _,_,_+1,.nil=>.nil
 | _,_,n+1,.cons _ t=>Vals.drop n t
def RelO:Option V→Option Value→Prop
 | some v,some u=>RelV v u
 | none,none=>True
 | _,_=>False
def KV {κ:Type}:List (κ×V)→List (κ×Value)→Prop:=Paired fun (p:κ×V) (q:κ×Value)=>p.1=q.1∧RelV p.2 q.2
def kV:Key→V
 | .inl i=>.int i
 | .inr x=>.str x
inductive HO where
 | lst (xs:List V)
 | tup (xs:List V)
 | dK (kvs:List (Key×V)) | dT (kvs:List (List Key×V))
 | set (S:Int→Bool) (n:Nat)
 | ins (C dx:Addr) (fs:List (Str×V))
 | own (x:Addr)
 | xd (fs:List (Str×V))
 | met (f x:Addr)
 | rng (lo hi:Int)
 | frz (o:Obj) (u:HO)
 | tbl (ps:Array Value)
 | ext (φ:Heap→Prop)
abbrev Hp:=Addr→Option HO
def upd (H:Hp) (a:Addr) (o:HO):Hp:=fun b=>if b=a then some o else H b
theorem a18 {H:Hp}{a:Addr}{o:HO}:upd H a o a=some o:=by unfold upd; rw [if_pos rfl]
theorem a14 {H:Hp}{a b:Addr}{o:HO}(h:b≠a):upd H a o b=H b:=by unfold upd; rw [if_neg h]
theorem b56 {H:Hp}{a b:Addr}{o u:HO}(h:H a=some o) (h':H b=some u) (d:o≠u):a≠b:=by
 intro e; subst e; rw [h] at h'; exact d (Option.some.inj h')
theorem a29 {H:Hp}{a b:Addr}{o:HO}(h:H a=some o) (h':H b=none):a≠b:=by
 intro e; subst e; rw [h] at h'; cases h'
section
variable (P:Program) (w:World)
def ObjOk (H:Hp) (h:Heap) (a:Addr):HO→Prop
 | .lst xs=>xs.length≤sizeLine∧∃ (its:List Value) (n:Nat),Vals xs its∧h.get? a=some { cls:=.type "list",data:=.seq its.toArray n }
 | .tup xs=>xs.length≤sizeLine∧∃ its:List Value,Vals xs its∧IsTup h a its.toArray
 | .dK kvs=>kvs.length≤sizeLine∧(a == sysModules)=false∧∃ vs,KV kvs vs∧h.DictOf (a59 P w) a vs
 | .dT kvs=>kvs.length≤sizeLine∧(a == sysModules)=false∧∃ xs:List (List Key×Addr×Value),
  Paired (fun (p:List Key×V) (q:List Key×Addr×Value)=>p.1=q.1∧H q.2.1=some (.tup (p.1.map kV))∧RelV p.2 q.2.2) kvs xs ∧
  ∃ o es ep,h.get? a=some o∧o.ExactDict∧o.data=.dict es ep∧es.toList=xs.map (entryOfKey (tupleKind (a59 P w)))∧(xs.map (·.1)).Nodup
 | .set S n=>h.SetOf (intKind P w) a S n
 | .ins C dx fs=>H dx=some (.own a)∧fs.length≤1000∧dx≠a∧h.get? a=some (PySem.W.instObj C dx) ∧
  ∃ mA,h.Ns1 dx mA∧(∀ f,RelO (fs.lookup f) (mA f))∧PySem.Within mA (fs.map (·.1))
 | .own _=>∃ o,h.get? a=some o
 | .xd fs=>∃ mA,h.Ns1 a mA∧∀ f,RelO (fs.lookup f) (mA f)
 | .rng lo hi=>∃ t u v,h.get? a=some { cls:=.type "range",data:=.fields #[.int lo t,.int hi u,.int 1 v] }
 | .frz o u=>h.get? a=some o∧ObjOk H h a u
 | .tbl ps=>h.get? a=some { cls:=.none,data:=.fields ps }
 | .met f x=>h.get? a=some (PySem.W.methodObj (.ref f) (.ref x))
 | .ext φ=>φ h∧(∃ o,h.get? a=some o)∧∀ h1 h2:Heap,φ h1→(∀ o,h1.get? a=some o→h2.get? a=some o)→φ h2
def HOk (H:Hp) (h:Heap):Prop:=∀ a o,H a=some o→ObjOk P w H h a o
end
section
variable {P:Program}{w:World}{H H':Hp}{h h':Heap}{a:Addr}{o:HO}
theorem ObjOk.lt (x:ObjOk P w H h a o):a<h.objs.size:=by
 cases o with
 | lst xs=>obtain ⟨_,_,_,_,e⟩:=x; exact Heap.lt_size e
 | tup xs=>obtain ⟨_,_,_,p⟩:=x; exact p.lt
 | dK kvs=>obtain ⟨_,_,_,_,o,_,_,e,_⟩:=x; exact Heap.lt_size e
 | dT kvs=>obtain ⟨_,_,_,_,o,_,_,e,_⟩:=x; exact Heap.lt_size e
 | set S n=>obtain ⟨o,_,_,_,e,_⟩:=x; exact Heap.lt_size e
 | ins C dx fs=>obtain ⟨_,_,_,e,_⟩:=x; exact Heap.lt_size e
 | own y=>obtain ⟨_,e⟩:=x; exact Heap.lt_size e
 | xd fs=>obtain ⟨_,⟨_,_,_,e,_⟩,_⟩:=x; exact Heap.lt_size e
 | rng lo hi=>obtain ⟨_,_,_,e⟩:=x; exact Heap.lt_size e
 | frz ob u=>obtain ⟨e,_⟩:=x; exact Heap.lt_size e
 | tbl ps=>exact Heap.lt_size (show h.get? a=some _ from x)
 | met f y=>exact Heap.lt_size (show h.get? a=some _ from x)
 | ext φ=>obtain ⟨_,⟨_,e⟩,_⟩:=x; exact Heap.lt_size e
theorem Paired.mapP {α β:Type}{F G:α→β→Prop}:∀ {l₁:List α}{l₂:List β},Paired F l₁ l₂→(∀ a b,F a b→G a b)→Paired G l₁ l₂
 | _,_,.nil,_=>.nil
 | _,_,.cons r t,f=>.cons (f _ _ r) (Paired.mapP t f)
theorem ObjOk.stay (x:ObjOk P w H h a o) (k:∀ b u,(b=a∨H b=some (.own a))→h.get? b=some u→h'.get? b=some u)
 (ho:∀ b,H b=some (.own a)→H' b=some (.own a)) (ht:∀ b xs,H b=some (.tup xs)→H' b=some (.tup xs)):ObjOk P w H' h' a o:=by
 induction o with
 | lst xs=>obtain ⟨z,its,n,r,e⟩:=x; exact ⟨z,its,n,r,k _ _ (.inl rfl) e⟩
 | tup xs=>obtain ⟨z,its,r,ob,e,c⟩:=x; exact ⟨z,its,r,ob,k _ _ (.inl rfl) e,c⟩
 | dK kvs=>obtain ⟨z,y,vs,r,ob,es,ep,e,c⟩:=x; exact ⟨z,y,vs,r,ob,es,ep,k _ _ (.inl rfl) e,c⟩
 | dT kvs =>
   obtain ⟨z,y,xs,r,ob,es,ep,e,c⟩:=x
   exact ⟨z,y,xs,Paired.mapP r fun p q z=>⟨z.1,ht _ _ z.2.1,z.2.2⟩,ob,es,ep,k _ _ (.inl rfl) e,c⟩
 | set S n=>obtain ⟨ob,es,ep,t,e,c⟩:=x; exact ⟨ob,es,ep,t,k _ _ (.inl rfl) e,c⟩
 | ins C dx fs =>
   obtain ⟨d,z,ne,e,mA,⟨od,es,ep,e2,c⟩,r⟩:=x
   exact ⟨ho _ d,z,ne,k _ _ (.inl rfl) e,mA,⟨od,es,ep,k _ _ (.inr d) e2,c⟩,r⟩
 | own y=>obtain ⟨ob,e⟩:=x; exact ⟨ob,k _ _ (.inl rfl) e⟩
 | xd fs=>obtain ⟨mA,⟨od,es,ep,e,c⟩,r⟩:=x; exact ⟨mA,⟨od,es,ep,k _ _ (.inl rfl) e,c⟩,r⟩
 | rng lo hi=>obtain ⟨t,u,v,e⟩:=x; exact ⟨t,u,v,k _ _ (.inl rfl) e⟩
 | frz ob u ih=>obtain ⟨e,q⟩:=x; exact ⟨k _ _ (.inl rfl) e,ih q⟩
 | tbl ps =>
   have e:h.get? a=some { cls:=.none,data:=.fields ps }:=x
   show h'.get? a=some { cls:=.none,data:=.fields ps }
   exact k a _ (.inl rfl) e
 | met f y =>
   have e:h.get? a=some (PySem.W.methodObj (.ref f) (.ref y)):=x
   show h'.get? a=some (PySem.W.methodObj (.ref f) (.ref y))
   exact k a _ (.inl rfl) e
 | ext φ=>obtain ⟨p,⟨o,e⟩,st⟩:=x; exact ⟨st _ _ p fun o q=>k _ _ (.inl rfl) q,⟨o,k _ _ (.inl rfl) e⟩,st⟩
theorem HOk.lt (x:HOk P w H h) (e:H a=some o):a<h.objs.size:=(x a o e).lt
theorem HOk.fresh (x:HOk P w H h) (e:h.objs.size≤a):H a=none:=by
 cases q:H a with
 | none=>rfl
 | some u=>exact absurd (Nat.lt_of_lt_of_le (x.lt q) e) (Nat.lt_irrefl _)
theorem HOk.kept (x:HOk P w H h) (k:∀ b u,h.get? b=some u→h'.get? b=some u):HOk P w H h':=fun a o e =>
 (x a o e).stay (fun b u _ q=>k b u q) (fun _ q=>q) fun _ _ q=>q
theorem HOk.laid (x:HOk P w H h) (k:∀ b u,h.get? b=some u→h'.get? b=some u) (hp:h.objs.size≤a) (new:ObjOk P w (upd H a o) h' a o):HOk P w (upd H a o) h':=fun b u e=>by
 have hn:=x.fresh hp
 by_cases hb:b=a
 · subst hb; rw [a18] at e; cases e; exact new
 · rw [a14 hb] at e
   exact (x b u e).stay (fun c v _ q=>k c v q) (fun c q=>by rw [a14 (a29 q hn)]; exact q) fun c xs q=>by rw [a14 (a29 q hn)]; exact q
end
def Rd (H:Hp) (a:Addr) (u:HO):Prop:=H a=some u∨∃ o,H a=some (.frz o u)
theorem Rd.ok {P:Program}{w:World}{H:Hp}{h:Heap}{a:Addr}{u:HO}(r:Rd H a u) (x:HOk P w H h):ObjOk P w H h a u:=by
 rcases r with r | ⟨o,r⟩
 · exact x a u r
 · obtain ⟨_,q⟩:=x a _ r
   exact q
def Mut:Option HO→Prop
 | some (.lst _)=>True
 | some (.dK _)=>True
 | some (.dT _)=>True
 | some (.set _ _)=>True
 | some (.ins _ _ _)=>True
 | some (.ext _)=>True
 | _=>False
section
variable {P:Program}{w:World}{H:Hp}{h h':Heap}{x e:Addr}{o':HO}
theorem HOk.write (ok:HOk P w H h) (mu:Mut (H x)) (he:e=x∨H e=some (.own x)) (k:∀ b u,b≠e→h.get? b=some u→h'.get? b=some u) (heo:∃ u,h'.get? e=some u)
 (new:ObjOk P w (upd H x o') h' x o'):HOk P w (upd H x o') h':=fun b u q=>by
 have nown:∀ c y,H c=some (.own y)→c≠x:=fun c y r z=>by subst z; rw [r] at mu; exact mu
 have ntup:∀ c xs,H c=some (.tup xs)→c≠x:=fun c xs r z=>by subst z; rw [r] at mu; exact mu
 by_cases hb:b=x
 · subst hb; rw [a18] at q; cases q; exact new
 · rw [a14 hb] at q
   by_cases hbe:b=e
   · have q':H b=some (.own x):=by
      rcases he with z | z
      · exact absurd (hbe.trans z) hb
      · rw [hbe]; exact z
     rw [q] at q'; cases q'
     obtain ⟨v,hv⟩:=heo
     exact ⟨v,by rw [hbe]; exact hv⟩
   · refine (ok b u q).stay (fun c v hc r=>k c v ?_ r) (fun c r=>by rw [a14 (nown c b r)]; exact r) fun c xs r=>by rw [a14 (ntup c xs r)]; exact r
     rcases hc with rfl | hc
     · exact hbe
     · rintro rfl
       rcases he with z | z
       · exact nown c b hc z
       · rw [hc] at z; cases z; exact hb rfl
end
structure Un (fs ex:List Addr) (H H':Hp) (h h':Heap):Prop where
 keep:∀ b o,h.get? b=some o→H b=none→b∉fs→b∉ex→h'.get? b=some o
 slot:∀ b o,h.get? b=some o→H b=none→b∈fs→b∉ex→∃ sl,h'.get? b=some { o with slots:=sl }
 free:∀ b o,h.get? b=some o→H b=none→b∉ex→H' b=none
 there:∀ b o,h.get? b=some o→b∉ex→∃ o',h'.get? b=some o'
 tups:∀ b xs,H b=some (.tup xs)→H' b=some (.tup xs)
 frzs:∀ b o u,H b=some (.frz o u)→H' b=some (.frz o u)
 tbls:∀ b ps,H b=some (.tbl ps)→∃ more,H' b=some (.tbl (ps++more))
section
variable {fs fs' ex ex':List Addr}{H H1 H2:Hp}{h h1 h2 h':Heap}{a x e:Addr}{o:HO}
theorem Un.any (u:Un fs ex H H1 h h1) {b:Addr}{ob:Obj}(q:h.get? b=some ob) (n:H b=none) (hx:b∉ex):∃ sl,h1.get? b=some { ob with slots:=sl }:=by
 by_cases hb:b∈fs
 · exact u.slot b ob q n hb hx
 · exact ⟨ob.slots,u.keep b ob q n hb hx⟩
theorem Un.kept (k:∀ b u,h.get? b=some u→h'.get? b=some u):Un fs ex H H h h' :=
 ⟨fun b ob q _ _ _=>k b ob q,fun b ob q _ _ _=>⟨ob.slots,k b ob q⟩,fun _ _ _ n _=>n,fun b ob q _=>⟨ob,k b ob q⟩,fun _ _ q=>q,fun _ _ _ q=>q,fun _ ps q=>⟨#[],by rw [q]; simp⟩⟩
theorem Un.refl:Un fs ex H H h h:=Un.kept fun _ _ q=>q
theorem Un.laid (k:∀ b u,h.get? b=some u→h'.get? b=some u) (hp:h.objs.size≤a) (hn:H a=none):Un fs ex H (upd H a o) h h' where
 keep:=fun b u q _ _ _=>k b u q
 slot:=fun b u q _ _ _=>⟨u.slots,k b u q⟩
 free:=fun b u q n _=>by rw [a14 (Nat.ne_of_lt (Nat.lt_of_lt_of_le (Heap.lt_size q) hp))]; exact n
 there:=fun b u q _=>⟨u,k b u q⟩
 tups:=fun b xs q=>by rw [a14 (a29 q hn)]; exact q
 frzs:=fun b u xs q=>by rw [a14 (a29 q hn)]; exact q
 tbls:=fun b ps q=>⟨#[],by rw [a14 (a29 q hn),q]; simp⟩
theorem Un.write (mu:Mut (H x)) (he:e=x∨H e=some (.own x)) (k:∀ b u,b≠e→h.get? b=some u→h'.get? b=some u) (heo:∃ u,h'.get? e=some u):Un fs ex H (upd H x o) h h':=by
 have hx:∀ b,H b=none→b≠x:=fun b n z=>by subst z; rw [n] at mu; exact mu
 have hb:∀ b,H b=none→b≠e:=fun b n z=>by
  subst z
  rcases he with r | r
  · exact hx b n r
  · rw [n] at r; cases r
 have hm:∀ b u,H b=some u→¬ Mut (some u)→b≠x:=fun b u q nm z=>by subst z; rw [q] at mu; exact nm mu
 refine ⟨fun b u q n _ _=>k b u (hb b n) q,fun b u q n _ _=>⟨u.slots,k b u (hb b n) q⟩,fun b u q n _=>by rw [a14 (hx b n)]; exact n,fun b u q _=>?_,
  fun b xs q=>by rw [a14 (hm b _ q fun z=>z)]; exact q,fun b u xs q=>by rw [a14 (hm b _ q fun z=>z)]; exact q,fun b ps q=>⟨#[],by rw [a14 (hm b _ q fun z=>z),q]; simp⟩⟩
 by_cases hbe:b=e
 · subst hbe; exact heo
 · exact ⟨u,k b u hbe q⟩
end
def trk (h:Heap) (H:Hp):List Addr:=(List.range h.objs.size).filter fun a=>(H a).isSome
def hidT (h:Heap) (H:Hp):Heap:=PySem.W.hideAll h (trk h H)
theorem b57 (h:Heap) (H:Hp):(hidT h H).objs.size=h.objs.size:=PySem.W.hideAll_size _ _
theorem bg0 {h:Heap}{H:Hp}{b:Addr}{o:Obj}(e:h.get? b=some o) (n:H b=none):(hidT h H).get? b=some o :=
 PySem.W.hideAll_get _ e fun hm=>by
  have q:(H b).isSome=true:=(List.mem_filter.mp hm).2
  rw [n] at q; simp at q
theorem bs3 {h:Heap}{H:Hp}{b:Addr}{o:Obj}(e:(hidT h H).get? b=some o):h.get? b=some o∧H b=none:=by
 have e':h.get? b=some o:=PySem.W.of_hideAll (trk h H) e
 refine ⟨e',?_⟩
 cases q:H b with
 | none=>rfl
 | some x =>
   have hm:b∈trk h H:=List.mem_filter.mpr ⟨List.mem_range.mpr (Heap.lt_size e'),by simp [q]⟩
   have z:(hidT h H).get? b=none:=PySem.W.hideAll_none (trk h H) hm
   rw [z] at e; cases e
def bs4 (g h:Heap) (L:Addr):List (Addr×Obj):=(List.range h.objs.size).filterMap fun a=>if a=L∨(g.get? a).isSome=true then none else (h.get? a).map fun o=>(a,o)
def rest (g h:Heap) (L d:Addr):List (Addr×Obj):=(bs4 g h L).filter fun p=>decide (p.1≠d)
structure Mod (K:PySem.W.Frag) (mg:Str→Option Value) (base:Heap):Prop where
 kin:K.In base
 glob:base.Ns mainGlobals mg
 blt:∃ mb,base.Ns builtinsNs mb∧∀ x:Str,x≠"__name__"→mb x=bootBuiltins x
 nolimit:base.NoLimit
structure Cx where
 prog:Program
 w:World
 K:PySem.W.Frag
 mg:Str→Option Value
 base:Heap
 A:Around
 N:List Str
 s₀:Shared
 H₀:Hp
 env:Env
 outer:List Env
 stack:List Env
 ex:List Addr
 fn:Str→Bool
 calm:Bool
 pn:List (Addr×Obj)
 xe:Value→Shared→Prop
def frs (l:List Env):List Addr:=l.filterMap (·.frame)
abbrev Cx.fs (X:Cx):List Addr:=frs X.outer
def Vis (sc:Scope) (x:Str):Prop:=sc.names.lookup x=some .local∨sc.names.lookup x=some .cell∨sc.names.lookup x=some .free
def Loc (sc:Scope) (x:Str):Prop:=sc.names.lookup x=some .local∨sc.names.lookup x=some .cell
def Look (env:Env) (h:Heap) (m:Str→Option Value) (x:Str) (u:Value):Prop :=
 (env.kindOf x=some .local∧m x=some u)∨((env.kindOf x=some .cell∨env.kindOf x=some .free)∧∃ c,env.cells.lookup x=some c∧h.IsCell c (some u))
structure Cx.Ok (X:Cx):Prop where
 mod:Mod X.K X.mg X.base
 kind:X.env.scope.kind=.function
 glob:X.env.globals=mainGlobals
 blt:X.env.builtins=builtinsNs
 above:X.s₀.heap.objs.size≤X.env.locals
 inj:∀ x y c,X.env.cells.lookup x=some c→X.env.cells.lookup y=some c→x=y
 has:∀ x,(X.env.kindOf x=some .cell∨X.env.kindOf x=some .free)→∃ c,X.env.cells.lookup x=some c
 cab:∀ x c,X.fn x=true→X.env.cells.lookup x=some c→X.s₀.heap.objs.size≤c
 hd:X.calm=true→X.A.handled=none
 frames:X.A.frames=some X.stack
 stk:X.stack=X.outer∨(X.stack=X.env::X.outer∧X.env.frame=some X.env.locals)
 exf:∀ b∈X.ex,b≠X.env.locals∧∀ x c,X.env.cells.lookup x=some c→c≠b
 bs:∀ b o,X.base.get? b=some o→X.s₀.heap.get? b=some o∧X.H₀ b=none
 bsz:X.base.objs.size≤X.s₀.heap.objs.size
 noex:∀ b o,X.base.get? b=some o→b∉X.ex
 exfs:∀ b∈X.ex,b∉X.fs
 funs:X.s₀.heap.FunFrames X.base X.outer
 frf:∀ b∈X.fs,X.H₀ b=none
structure Inv (X:Cx) (pins:List (Addr×Obj)) (σ:List (Option V)) (H:Hp) (s:Shared):Prop where
 ok:X.Ok
 os:s.os=X.s₀.os
 bare:AllBare s.gens
 base:Un X.fs X.ex X.H₀ H X.s₀.heap s.heap
 loc:∃ m,s.heap.Ns X.env.locals m∧∀ (i:Nat) (x:Str) (v:V),X.N[i]?=some x→σ[i]?=some (some v)→Vis X.env.scope x→∃ u,RelV v u∧Look X.env s.heap m x u
 cell:∀ x c,X.env.cells.lookup x=some c→∃ v,s.heap.IsCell c v
 free:H X.env.locals=none
 freeC:∀ x c,X.env.cells.lookup x=some c→H c=none
 pin:∀ p∈X.pn++pins,s.heap.get? p.1=some p.2∧H p.1=none∧p.1≠X.env.locals∧p.1∉X.fs∧∀ v,p.2.data≠.cell v
 hok:HOk X.prog X.w H s.heap
 len:σ.length=X.N.length
section
variable {X:Cx}{pins:List (Addr×Obj)}{σ:List (Option V)} {H H':Hp}{s:Shared}{h':Heap}
theorem Cx.Ok.nofr (ok:X.Ok) {b:Addr}{o:Obj}(e:X.base.get? b=some o):b∉X.fs:=fun hb=>by
 have:=(ok.funs.mem hb).1
 rw [e] at this; cases this
theorem Inv.bs (I:Inv X pins σ H s):∀ b o,X.base.get? b=some o→s.heap.get? b=some o∧H b=none:=fun b o e =>
 ⟨I.base.keep b o (I.ok.bs b o e).1 (I.ok.bs b o e).2 (I.ok.nofr e) (I.ok.noex b o e),I.base.free b o (I.ok.bs b o e).1 (I.ok.bs b o e).2 (I.ok.noex b o e)⟩
theorem Inv.bk (I:Inv X pins σ H s):∀ b o,X.base.get? b=some o→s.heap.get? b=some o:=fun b o e=>(I.bs b o e).1
theorem Inv.mod (I:Inv X pins σ H s):Mod X.K X.mg X.base:=I.ok.mod
theorem Inv.kIn (I:Inv X pins σ H s):X.K.In s.heap:=I.ok.mod.kin.keeps I.bk
theorem Inv.lt (I:Inv X pins σ H s):X.env.locals<s.heap.objs.size:=let ⟨_,hn,_⟩:=I.loc; hn.lt
theorem Inv.sz (I:Inv X pins σ H s):X.s₀.heap.objs.size≤s.heap.objs.size:=Nat.le_trans I.ok.above (Nat.le_of_lt I.lt)
theorem Inv.nofs (I:Inv X pins σ H s) {a:Addr}(h:s.heap.objs.size≤a):a∉X.fs:=fun hb=>by
 obtain ⟨_,o,ho,_⟩:=I.ok.funs.mem hb
 exact absurd (Nat.lt_of_lt_of_le (Heap.lt_size ho) (Nat.le_trans I.sz h)) (Nat.lt_irrefl _)
theorem Inv.cne (I:Inv X pins σ H s):∀ x c,X.env.cells.lookup x=some c→c≠X.env.locals:=fun x c e z=>by
 obtain ⟨v,o,ho,hd⟩:=I.cell x c e
 obtain ⟨m,⟨o',es,ep,ho',hd',_⟩,_⟩:=I.loc
 rw [z,ho'] at ho; cases ho; rw [hd'] at hd; cases hd
theorem Inv.funs (I:Inv X pins σ H s):s.heap.FunFrames X.base X.outer:=by
 have all:∀ (l:List Env),(∀ b∈frs l,b∈X.fs)→X.s₀.heap.FunFrames X.base l→s.heap.FunFrames X.base l:=by
  intro l
  induction l with
  | nil=>intro _ _; trivial
  | cons env r ih =>
    intro hs hl
    obtain ⟨hk,⟨L,o,hf,hn,ho,hd⟩,hr⟩:=hl
    have hL:L∈X.fs:=hs L (by unfold frs; rw [List.filterMap_cons,hf]; exact List.mem_cons_self)
    obtain ⟨sl,e⟩:=I.base.slot L o ho (I.ok.frf L hL) hL fun z=>I.ok.exfs L z hL
    exact ⟨hk,⟨L,_,hf,hn,e,hd⟩,ih (fun b hb=>hs b (by unfold frs; rw [List.filterMap_cons,hf]; exact List.mem_cons_of_mem _ hb)) hr⟩
 exact all X.outer (fun _ hb=>hb) I.ok.funs
theorem Inv.stack (I:Inv X pins σ H s):s.heap.FunFrames X.base X.stack:=by
 rcases I.ok.stk with e | ⟨e,hf⟩
 · rw [e]; exact I.funs
 · rw [e]
   obtain ⟨m,hn,_⟩:=I.loc
   refine .cons (by rw [I.ok.kind]; decide) hf hn ?_ I.funs
   exact Heap.get?_none_of_le (Nat.le_trans I.ok.bsz I.ok.above)
theorem Inv.stkSub (I:Inv X pins σ H s):∀ b∈frs X.stack,b∈X.env.locals::X.fs:=fun b hb=>by
 rcases I.ok.stk with e | ⟨e,hf⟩
 · rw [e] at hb; exact List.mem_cons_of_mem _ hb
 · rw [e] at hb
   unfold frs at hb
   rw [List.filterMap_cons,hf] at hb
   exact hb
theorem Inv.stkFree (I:Inv X pins σ H s):∀ b∈frs X.stack,H b=none:=fun b hb=>by
 rcases List.mem_cons.mp (I.stkSub b hb) with e | hb
 · rw [e]; exact I.free
 · obtain ⟨_,o,ho,_⟩:=I.ok.funs.mem hb
   exact I.base.free b o ho (I.ok.frf b hb) fun z=>I.ok.exfs b z hb
theorem Inv.step {g':Array GenState}{t':Nat}{d':Drawn}{ch:List Addr}(I:Inv X pins σ H s)
 (hch:∀ b∈ch,(b∈X.ex∨X.s₀.heap.objs.size≤b)∧b≠X.env.locals∧(∀ x c,X.env.cells.lookup x=some c→c≠b)∧∀ p∈X.pn++pins,p.1≠b)
 (keep:∀ b o,b≠X.env.locals→b∉X.fs→b∉ch→s.heap.get? b=some o→H b=none→h'.get? b=some o)
 (slot:∀ b o,b≠X.env.locals→b∈X.fs→b∉ch→s.heap.get? b=some o→H b=none→∃ sl,h'.get? b=some { o with slots:=sl }) (free:∀ b o,b∉ch→s.heap.get? b=some o→H b=none→H' b=none)
 (there:∀ b o,b∉ch→s.heap.get? b=some o→∃ o',h'.get? b=some o')
 (tups:∀ b xs,H b=some (.tup xs)→H' b=some (.tup xs)) (frzs:∀ b o u,H b=some (.frz o u)→H' b=some (.frz o u)) (tbls:∀ b ps,H b=some (.tbl ps)→∃ more,H' b=some (.tbl (ps++more)))
 (ns:∀ m,s.heap.Ns X.env.locals m→h'.Ns X.env.locals m) (hok:HOk X.prog X.w H' h') (hg:AllBare g') :
 Inv X pins σ H' { s with heap:=h',gens:=g',drawn:=d',toks:=t' }:=by
 have neL:∀ b o,X.s₀.heap.get? b=some o→b≠X.env.locals:=fun b o e=>Nat.ne_of_lt (Nat.lt_of_lt_of_le (Heap.lt_size e) I.ok.above)
 have neC:∀ b o,X.s₀.heap.get? b=some o→b∉X.ex→b∉ch:=fun b o e hx hb=>by
  rcases (hch b hb).1 with z | z
  · exact hx z
  · exact absurd (Nat.lt_of_lt_of_le (Heap.lt_size e) z) (Nat.lt_irrefl _)
 have cellK:∀ x c,X.env.cells.lookup x=some c→∀ v,s.heap.IsCell c v→h'.IsCell c v:=fun x c e v ⟨o,ho,hd⟩=>by
  have nch:c∉ch:=fun z=>(hch c z).2.2.1 x c e rfl
  by_cases hc:c∈X.fs
  · obtain ⟨sl,q⟩:=slot c o (I.cne x c e) hc nch ho (I.freeC x c e)
    exact ⟨_,q,hd⟩
  · exact ⟨o,keep c o (I.cne x c e) hc nch ho (I.freeC x c e),hd⟩
 refine ⟨I.ok,I.os,hg,⟨fun b o e n hb hx=>?_,fun b o e n hb hx=>?_,fun b o e n hx=>?_,fun b o e hx=>?_,fun b xs e=>tups b xs (I.base.tups b xs e),fun b o xs e=>frzs b o xs (I.base.frzs b o xs e),fun b ps e=>?_⟩,?_,fun x c e=>?_,?_,fun x c e=>?_,fun p hp=>?_,hok,I.len⟩
 · exact keep b o (neL b o e) hb (neC b o e hx) (I.base.keep b o e n hb hx) (I.base.free b o e n hx)
 · obtain ⟨sl,e1⟩:=I.base.slot b o e n hb hx
   obtain ⟨sl',e2⟩:=slot b _ (neL b o e) hb (neC b o e hx) e1 (I.base.free b o e n hx)
   exact ⟨sl',e2⟩
 · obtain ⟨o',e1⟩:=I.base.there b o e hx
   exact free b o' (neC b o e hx) e1 (I.base.free b o e n hx)
 · obtain ⟨o',e1⟩:=I.base.there b o e hx
   exact there b o' (neC b o e hx) e1
 · obtain ⟨m1,e1⟩:=I.base.tbls b ps e
   obtain ⟨m2,e2⟩:=tbls b _ e1
   exact ⟨m1++m2,by rw [e2,Array.append_assoc]⟩
 · obtain ⟨m,hn,hl⟩:=I.loc
   refine ⟨m,ns m hn,fun i x v e1 e2 e3=>?_⟩
   obtain ⟨u,r,l⟩:=hl i x v e1 e2 e3
   refine ⟨u,r,?_⟩
   rcases l with l | ⟨k,c,e,z⟩
   · exact .inl l
   · exact .inr ⟨k,c,e,cellK x c e _ z⟩
 · obtain ⟨v,z⟩:=I.cell x c e
   exact ⟨v,cellK x c e v z⟩
 · obtain ⟨m,⟨o,_,_,ho,_⟩,_⟩:=I.loc
   exact free _ o (fun z=>(hch _ z).2.1 rfl) ho I.free
 · obtain ⟨v,o,ho,hd⟩:=I.cell x c e
   exact free c o (fun z=>(hch c z).2.2.1 x c e rfl) ho (I.freeC x c e)
 · obtain ⟨e,n,ne,nf,d⟩:=I.pin p hp
   have nch:p.1∉ch:=fun z=>(hch p.1 z).2.2.2 p hp rfl
   exact ⟨keep p.1 p.2 ne nf nch e n,free p.1 p.2 nch e n,ne,nf,d⟩
theorem Inv.un {t':Nat}(I:Inv X pins σ H s) (u:Un X.fs [] H H' s.heap h') (hok:HOk X.prog X.w H' h'):Inv X pins σ H' { s with heap:=h',toks:=t' }:=by
 obtain ⟨m,⟨o,es,ep,ho,r⟩,_⟩:=id I.loc
 obtain ⟨sl,hL⟩:=u.any ho I.free (by simp)
 exact I.step (g':=s.gens) (d':=s.drawn) (ch:=[]) (fun _ z=>nomatch z) (fun b o _ hb _ e n=>u.keep b o e n hb (by simp)) (fun b o _ hb _ e n=>u.slot b o e n hb (by simp)) (fun b o _ e n=>u.free b o e n (by simp)) (fun b o _ e=>u.there b o e (by simp)) u.tups u.frzs u.tbls (fun m' hm=>by
  obtain ⟨o',es',ep',ho',r'⟩:=hm
  rw [ho] at ho'; cases ho'
  exact ⟨_,es',ep',hL,r'⟩) hok I.bare
theorem Inv.call {g':Array GenState}{t':Nat}{d':Drawn}{ch:List Addr}(I:Inv X pins σ H s) (u:Un (frs X.stack) ch H H' s.heap h') (hok:HOk X.prog X.w H' h') (hg:AllBare g')
 (hch:∀ b∈ch,(b∈X.ex∨X.s₀.heap.objs.size≤b)∧b≠X.env.locals∧(∀ x c,X.env.cells.lookup x=some c→c≠b)∧∀ p∈X.pn++pins,p.1≠b) :
 Inv X pins σ H' { s with heap:=h',gens:=g',drawn:=d',toks:=t' }:=by
 obtain ⟨m,⟨o,es,ep,ho,r⟩,_⟩:=id I.loc
 obtain ⟨sl,hL⟩:=u.any ho I.free fun z=>(hch _ z).2.1 rfl
 exact I.step (ch:=ch) hch (fun b o hL hb hc e n=>u.keep b o e n (fun z=>(List.mem_cons.mp (I.stkSub b z)).elim hL hb) hc) (fun b o _ _ hc e n=>u.any e n hc) (fun b o hc e n=>u.free b o e n hc) (fun b o hc e=>u.there b o e hc) u.tups u.frzs u.tbls (fun m' hm=>by
  obtain ⟨o',es',ep',ho',r'⟩:=hm
  rw [ho] at ho'; cases ho'
  exact ⟨_,es',ep',hL,r'⟩) hok hg
theorem Inv.turned {t':Nat}{it:Addr}(I:Inv X pins σ H s) (k:∀ b o,b≠it→s.heap.get? b=some o→h'.get? b=some o) (hn:H it=none) (hL:it≠X.env.locals)
 (h1:it∈X.ex∨X.s₀.heap.objs.size≤it) (h2:∀ x c,X.env.cells.lookup x=some c→c≠it) (h3:∀ p∈X.pn++pins,p.1≠it):Inv X pins σ H { s with heap:=h',toks:=t' }:=by
 have nit:∀ b u,H b=some u→b≠it:=fun b u e z=>by rw [z,hn] at e; cases e
 refine I.step (g':=s.gens) (d':=s.drawn) (ch:=[it]) (fun b hb=>?_) (fun b o _ _ hc e _=>k b o (fun z=>hc (by simp [z])) e) (fun b o _ _ hc e _=>⟨o.slots,k b o (fun z=>hc (by simp [z])) e⟩) (fun _ _ _ _ n=>n)
  (fun b o hc e=>⟨o,k b o (fun z=>hc (by simp [z])) e⟩) (fun _ _ e=>e) (fun _ _ _ e=>e) (fun b ps e=>⟨#[],by rw [e]; simp⟩) (fun m hm=>?_) (fun b u e=>?_) I.bare
 · have e:b=it:=by simpa using hb
   subst e
   exact ⟨h1,hL,h2,h3⟩
 · obtain ⟨o,es,ep,ho,r⟩:=hm
   exact ⟨o,es,ep,k _ o (Ne.symm hL) ho,r⟩
 · refine (I.hok b u e).stay (fun c v hc q=>k c v ?_ q) (fun _ q=>q) fun _ _ q=>q
   rcases hc with z | z
   · rw [z]; exact nit b u e
   · exact nit c _ z
theorem Inv.tok (I:Inv X pins σ H s) (t:Nat):Inv X pins σ H { s with toks:=t }:=I.un (h':=s.heap) (t':=t) Un.refl I.hok
theorem Inv.kept {t':Nat}(I:Inv X pins σ H s) (k:∀ b u,s.heap.get? b=some u→h'.get? b=some u):Inv X pins σ H { s with heap:=h',toks:=t' }:=I.un (Un.kept k) (I.hok.kept k)
theorem Inv.laid {a:Addr}{o:HO}{t':Nat}(I:Inv X pins σ H s) (k:∀ b u,s.heap.get? b=some u→h'.get? b=some u) (hp:s.heap.objs.size≤a) (new:ObjOk X.prog X.w (upd H a o) h' a o) :
 Inv X pins σ (upd H a o) { s with heap:=h',toks:=t' }:=I.un (Un.laid k hp (I.hok.fresh hp)) (I.hok.laid k hp new)
theorem Inv.write {x e:Addr}{o:HO}{t':Nat}(I:Inv X pins σ H s) (mu:Mut (H x)) (he:e=x∨H e=some (.own x)) (k:∀ b u,b≠e→s.heap.get? b=some u→h'.get? b=some u) (heo:∃ u,h'.get? e=some u)
 (new:ObjOk X.prog X.w (upd H x o) h' x o):Inv X pins σ (upd H x o) { s with heap:=h',toks:=t' }:=I.un (Un.write mu he k heo) (I.hok.write mu he k heo new)
theorem Inv.pins_of {pins':List (Addr×Obj)}(I:Inv X pins σ H s) (h:∀ p∈pins',s.heap.get? p.1=some p.2∧H p.1=none∧p.1≠X.env.locals∧p.1∉X.fs∧∀ v,p.2.data≠.cell v):Inv X pins' σ H s :=
 ⟨I.ok,I.os,I.bare,I.base,I.loc,I.cell,I.free,I.freeC,fun p hp=>(List.mem_append.mp hp).elim (fun z=>I.pin p (List.mem_append_left _ z)) (h p),I.hok,I.len⟩
theorem ao1 {N:List Str}(hN:N.Nodup) {i j:Nat}{x:Str}(a:N[i]?=some x) (b:N[j]?=some x):i=j:=by
 obtain ⟨h1,e1⟩:=List.getElem?_eq_some_iff.mp a
 obtain ⟨h2,e2⟩:=List.getElem?_eq_some_iff.mp b
 exact (List.getElem_inj hN).mp (e1.trans e2.symm)
theorem ar3 {M:Model}{A:Around}{E:Value→Shared→Prop}{i:Nat}{x:Str}{v:V}{u:Value}{Q:Unit→Shared→Prop}(I:Inv X pins σ H s) (hN:X.N.Nodup) (hi:X.N[i]?=some x) (hx:Loc X.env.scope x) (r:RelV v u)
 (h:∀ s',Inv X pins (σ.set i (some v)) H s'→(∃ a,Heap.SameBut a s.heap s'.heap∧(a=X.env.locals∨X.env.cells.lookup x=some a))→Q () s') (hf:X.fn x=true∨X.env.scope.names.lookup x=some .local:=by first | exact .inl rfl | exact .inr rfl | assumption):wpAny M A (storeName X.env x u) Q E s:=by
 obtain ⟨m,hn,hl⟩:=id I.loc
 have hcls:(X.env.scope.kind == .class || (X.env.scope.kind == .module && X.env.locals != X.env.globals))=false:=by rw [I.ok.kind]; rfl
 have hiσ:i<σ.length:=by rw [I.len]; exact (List.getElem?_eq_some_iff.mp hi).1
 have cne:=I.cne
 have tracked:∀ {a:Addr}{h':Heap},(∃ o,s.heap.get? a=some o∧H a=none)→Heap.SameBut a s.heap h'→HOk X.prog X.w H h':=fun {a h'} ha hs b ob e=>by
  obtain ⟨_,_,hfree⟩:=ha
  refine (I.hok b ob e).stay (fun c w' hc q=>(hs.2 c ?_).trans q) (fun _ q=>q) fun _ _ q=>q
  rintro rfl
  rcases hc with rfl | hc
  · rw [hfree] at e; cases e
  · rw [hfree] at hc; cases hc
 rcases hx with hk | hk
 · refine wpAny_storeName_local hk hn (fun h' hn' hs=>?_) hcls
   obtain ⟨oL,_,_,hoL,_⟩:=id hn
   refine h _ ⟨I.ok,I.os,I.bare,⟨fun b o e n hb hx=>?_,fun b o e n hb hx=>?_,I.base.free,fun b o e hx=>?_,I.base.tups,I.base.frzs,I.base.tbls⟩,⟨_,hn',fun j y v' e1 e2 e3=>?_⟩,fun y c e=>?_,I.free,I.freeC,fun p hp=>?_,tracked ⟨oL,hoL,I.free⟩ hs,by simpa using I.len⟩ ⟨_,hs,.inl rfl⟩
   · exact (hs.2 b (Nat.ne_of_lt (Nat.lt_of_lt_of_le (Heap.lt_size e) I.ok.above))).trans (I.base.keep b o e n hb hx)
   · obtain ⟨sl,e1⟩:=I.base.slot b o e n hb hx
     exact ⟨sl,(hs.2 b (Nat.ne_of_lt (Nat.lt_of_lt_of_le (Heap.lt_size e) I.ok.above))).trans e1⟩
   · obtain ⟨o',e1⟩:=I.base.there b o e hx
     exact ⟨o',(hs.2 b (Nat.ne_of_lt (Nat.lt_of_lt_of_le (Heap.lt_size e) I.ok.above))).trans e1⟩
   · by_cases hj:j=i
     · subst hj
       rw [hi] at e1; cases e1
       rw [List.getElem?_set_self hiσ] at e2
       cases e2
       exact ⟨u,r,.inl ⟨hk,by simp⟩⟩
     · rw [List.getElem?_set_ne (Ne.symm hj)] at e2
       obtain ⟨u',r',q⟩:=hl j y v' e1 e2 e3
       refine ⟨u',r',?_⟩
       rcases q with ⟨k,e⟩ | ⟨k,c,e,z⟩
       · refine .inl ⟨k,?_⟩
         have:y≠x:=fun e=>hj (ao1 hN e1 (e ▸ hi))
         simp [this,e]
       · exact .inr ⟨k,c,e,z.sameBut hs (cne y c e)⟩
   · obtain ⟨w',z⟩:=I.cell y c e
     exact ⟨w',z.sameBut hs (cne y c e)⟩
   · obtain ⟨e,n,ne,nf,d⟩:=I.pin p hp
     exact ⟨(hs.2 p.1 ne).trans e,n,ne,nf,d⟩
 · have hfn:X.fn x=true:=by
    rcases hf with z | z
    · exact z
    · rw [z] at hk; cases hk
   obtain ⟨c,hc⟩:=I.ok.has x (.inl hk)
   obtain ⟨w',z⟩:=I.cell x c hc
   refine wpAny_storeName_cell I.ok.kind hk hc z (fun h' hc' hs=>?_)
   obtain ⟨oc,hoc,hocd⟩:=id z
   refine h { s with heap:=h' } ⟨I.ok,I.os,I.bare,⟨fun b o e n hb hx=>?_,fun b o e n hb hx=>?_,I.base.free,fun b o e hx=>?_,I.base.tups,I.base.frzs,I.base.tbls⟩,⟨m,hn.sameBut hs (Ne.symm (cne x c hc)),fun j y v' e1 e2 e3=>?_⟩,fun y c' e=>?_,I.free,I.freeC,fun p hp=>?_,tracked ⟨oc,hoc,I.freeC x c hc⟩ hs,by simpa using I.len⟩ ⟨c,hs,.inr hc⟩
   · exact (hs.2 b (Nat.ne_of_lt (Nat.lt_of_lt_of_le (Heap.lt_size e) (I.ok.cab x c hfn hc)))).trans (I.base.keep b o e n hb hx)
   · obtain ⟨sl,e1⟩:=I.base.slot b o e n hb hx
     exact ⟨sl,(hs.2 b (Nat.ne_of_lt (Nat.lt_of_lt_of_le (Heap.lt_size e) (I.ok.cab x c hfn hc)))).trans e1⟩
   · obtain ⟨o',e1⟩:=I.base.there b o e hx
     exact ⟨o',(hs.2 b (Nat.ne_of_lt (Nat.lt_of_lt_of_le (Heap.lt_size e) (I.ok.cab x c hfn hc)))).trans e1⟩
   · by_cases hj:j=i
     · subst hj
       rw [hi] at e1; cases e1
       rw [List.getElem?_set_self hiσ] at e2
       cases e2
       exact ⟨u,r,.inr ⟨.inl hk,c,hc,hc'⟩⟩
     · rw [List.getElem?_set_ne (Ne.symm hj)] at e2
       obtain ⟨u',r',q⟩:=hl j y v' e1 e2 e3
       refine ⟨u',r',?_⟩
       rcases q with q | ⟨k,c',e,z'⟩
       · exact .inl q
       · refine .inr ⟨k,c',e,z'.sameBut hs ?_⟩
         rintro rfl
         exact hj (ao1 hN e1 (I.ok.inj _ _ _ e hc ▸ hi))
   · by_cases hcc:c'=c
     · subst hcc; exact ⟨_,hc'⟩
     · obtain ⟨w2,z2⟩:=I.cell y c' e
       exact ⟨w2,z2.sameBut hs hcc⟩
   · obtain ⟨e,n,ne,nf,d⟩:=I.pin p hp
     refine ⟨(hs.2 p.1 ?_).trans e,n,ne,nf,d⟩
     intro q
     rw [q,hoc] at e
     have q':oc=p.2:=Option.some.inj e
     exact d w' (by rw [← q']; exact hocd)
theorem a85 {M:Model}{A:Around}{E:Value→Shared→Prop}{i:Nat}{x:Str}{v:V}{u:Value}{Q:Unit→Shared→Prop}(I:Inv X pins σ H s) (hN:X.N.Nodup) (hi:X.N[i]?=some x) (hx:Loc X.env.scope x) (r:RelV v u)
 (h:∀ s',Inv X pins (σ.set i (some v)) H s'→Q () s') (hf:X.fn x=true∨X.env.scope.names.lookup x=some .local:=by first | exact .inl rfl | exact .inr rfl | assumption):wpAny M A (storeName X.env x u) Q E s :=
 ar3 I hN hi hx r (fun s' I' _=>h s' I') hf
theorem Inv.call' {s':Shared}{ch:List Addr}(I:Inv X pins σ H s) (ho:s'.os=s.os) (u:Un (frs X.stack) ch H H' s.heap s'.heap) (hok:HOk X.prog X.w H' s'.heap) (hg:AllBare s'.gens)
 (hch:∀ b∈ch,(b∈X.ex∨X.s₀.heap.objs.size≤b)∧b≠X.env.locals∧(∀ x c,X.env.cells.lookup x=some c→c≠b)∧∀ p∈X.pn++pins,p.1≠b):Inv X pins σ H' s':=by
 obtain ⟨h',g',d',t',o'⟩:=s'
 have e:o'=s.os:=ho
 subst e
 exact I.call (g':=g') (t':=t') (d':=d') u hok hg hch
end
abbrev XK:=Value→Option Addr→Hp→Prop
abbrev St:=List (Option V)
abbrev VK:=V→Hp→Prop
abbrev TE:=St→Hp→VK→Prop
abbrev TT:=St→Hp→(Bool→Hp→Prop)→Prop
abbrev TA:=St→Hp→(List V→Hp→Prop)→Prop
structure Ends where
 nx:St→Hp→Prop
 rt:VK
 bk:St→Hp→Prop:=fun _ _=>False
 ct:St→Hp→Prop:=fun _ _=>False
abbrev TS:=Ends→St→Hp→Prop
def EP (X:Cx) (pins:List (Addr×Obj)) (σ:St) (Q:VK) (u:Value) (s':Shared):Prop:=∃ v H',Inv X pins σ H' s'∧RelV v u∧Q v H'
def TP (X:Cx) (pins:List (Addr×Obj)) (σ:St) (Q:Bool→Hp→Prop) (b:Bool) (s':Shared):Prop:=∃ H',Inv X pins σ H' s'∧Q b H'
def AP (X:Cx) (pins:List (Addr×Obj)) (σ:St) (Q:List V→Hp→Prop) (us:List Value) (s':Shared):Prop:=∃ vs H',Inv X pins σ H' s'∧Vals vs us∧Q vs H'
def SP (X:Cx) (pins:List (Addr×Obj)) (D:Ends) (f:Flow) (s':Shared):Prop :=
 match f with
 | .next=>∃ σ' H',Inv X pins σ' H' s'∧D.nx σ' H'
 | .brk=>∃ σ' H',Inv X pins σ' H' s'∧D.bk σ' H'
 | .cont=>∃ σ' H',Inv X pins σ' H' s'∧D.ct σ' H'
 | .ret u=>∃ v σ' H',Inv X pins σ' H' s'∧RelV v u∧D.rt v H'
def PE (X:Cx) (e:Expr) (t:TE):Prop :=
 ∀ (pins:List (Addr×Obj)) (s:Shared) (σ:St) (H:Hp) (Q:VK),Inv X pins σ H s→t σ H Q→wpAny (model X.prog X.w) X.A (eval e X.env) (EP X pins σ Q) X.xe s
def PT (X:Cx) (e:Expr) (t:TT):Prop :=
 ∀ (pins:List (Addr×Obj)) (s:Shared) (σ:St) (H:Hp) (Q:Bool→Hp→Prop),Inv X pins σ H s→t σ H Q→wpAny (model X.prog X.w) X.A (isTrue e X.env (eval e X.env)) (TP X pins σ Q) X.xe s
def PW (X:Cx) (e:Expr) (t:TT):Prop :=
 ∀ (whole:Sem Value) (pins:List (Addr×Obj)) (s:Shared) (σ:St) (H:Hp) (Q:Bool→Hp→Prop),Inv X pins σ H s→t σ H Q→wpAny (model X.prog X.w) X.A (isTrue e X.env whole) (TP X pins σ Q) X.xe s
theorem PW.pt {X:Cx}{e:Expr}{t:TT}(h:PW X e t):PT X e t:=h _
def PA (X:Cx) (es:List Expr) (t:TA):Prop :=
 ∀ (pos:Pos) (pins:List (Addr×Obj)) (s:Shared) (σ:St) (H:Hp) (Q:List V→Hp→Prop),Inv X pins σ H s→t σ H Q→wpAny (model X.prog X.w) X.A (spliced (backTo pos (starEach es X.env))) (AP X pins σ Q) X.xe s
def PS (X:Cx) (st:Stmt) (t:TS):Prop :=
 ∀ (pins:List (Addr×Obj)) (s:Shared) (σ:St) (H:Hp) (D:Ends),Inv X pins σ H s→t D σ H→wpAny (model X.prog X.w) X.A (exec st X.env) (SP X pins D) X.xe s
def PSs (X:Cx) (st:List Stmt) (t:TS):Prop :=
 ∀ (pins:List (Addr×Obj)) (s:Shared) (σ:St) (H:Hp) (D:Ends),Inv X pins σ H s→t D σ H→wpAny (model X.prog X.w) X.A (execs st X.env) (SP X pins D) X.xe s
theorem thn {α:Type}{t:Sem α}{Q Q':α→Shared→Prop}{M:Model}{A:Around}{E:Value→Shared→Prop}{s:Shared}(h:wpAny M A t Q E s) (hQ:∀ a s,Q a s→Q' a s):wpAny M A t Q' E s:=wpAny_mono h hQ fun _ _ x=>x
section
variable {X:Cx}
def tVar (i:Nat):TE:=fun σ H Q=>∃ v,σ[i]?=some (some v)∧Q v H
def tC (v:V):TE:=fun _ H Q=>Q v H
theorem c36 {i:Nat}{x:Str}{pos:Pos}(hN:X.N[i]?=some x) (hv:Vis X.env.scope x) (hd:(x == ("__debug__":Str))=false:=by decide) (hcd:(x == ("__classdict__":Str))=false:=by decide):PE X (.Name x pos) (tVar i):=by
 intro pins s σ H Q I h
 obtain ⟨v,e,h⟩:=h
 obtain ⟨m,hn,hl⟩:=I.loc
 obtain ⟨u,r,l⟩:=hl i x v hN e hv
 have fin:EP X pins σ Q u s:=⟨v,H,I,r,h⟩
 rcases l with ⟨hk,hm⟩ | ⟨hk,c,hc,hcell⟩
 · exact wpAny_Name (wpAny_loadName_local I.ok.kind hk hn hm fin) hd
 · rcases hk with hk | hk
   · exact wpAny_Name (wpAny_loadName_cell I.ok.kind hk hc hcell fin) hd
   · exact wpAny_Name (wpAny_loadName_free I.ok.kind hk hc hcell fin hcd) hd
theorem a03 {i j pos}:PE X (.Constant (.int i) j pos) (tC (.int i)):=fun _ _ _ H _ I h=>wpAny_Constant_int ⟨.int i,H,I.tok _,⟨_,rfl⟩,h⟩
theorem ag4 {b j pos}:PE X (.Constant (.bool b) j pos) (tC (.bl b)):=fun _ _ _ H _ I h=>Constant_bool ⟨.bl b,H,I,rfl,h⟩
theorem a31 {j pos}:PE X (.Constant .none j pos) (tC .non):=fun _ _ _ H _ I h=>Constant_none ⟨.non,H,I,rfl,h⟩
theorem a22 {x j pos}:PE X (.Constant (.str x) j pos) (tC (.str x)):=fun _ _ _ H _ I h=>Calls.Constant_str ⟨.str x,H,I.tok _,⟨_,rfl⟩,h⟩
def Gl (X:Cx) (x:Str):Prop:=X.env.kindOf x=some .globalImplicit
theorem ac0 {E:Value→Shared→Prop}{pins:List (Addr×Obj)}{s:Shared}{σ:St} {H:Hp}{x:Str}{u:Value}{pos:Pos}{Q:Value→Shared→Prop}(I:Inv X pins σ H s) (hg:Gl X x) (hm:X.mg x=some u) (h:Q u s)
 (hd:(x == ("__debug__":Str))=false:=by decide):wpAny (model X.prog X.w) X.A (eval (.Name x pos) X.env) Q E s :=
 Calls.Name_function_global I.ok.kind hg (Calls.loadGlobal_global (by rw [I.ok.glob]; exact I.mod.glob.keeps I.bk) hm h) hd
theorem am0 {E:Value→Shared→Prop}{pins:List (Addr×Obj)}{s:Shared}{σ:St} {H:Hp}{x:Str}{u:Value}{pos:Pos}{Q:Value→Shared→Prop}(I:Inv X pins σ H s) (hg:Gl X x) (hm:X.mg x=none) (hv:bootBuiltins x=some u) (h:Q u s)
 (hn:x≠"__name__":=by decide) (hd:(x == ("__debug__":Str))=false:=by decide):wpAny (model X.prog X.w) X.A (eval (.Name x pos) X.env) Q E s:=by
 obtain ⟨mb,h1,h2⟩:=I.mod.blt
 exact Calls.Name_function_global I.ok.kind hg (Calls.loadGlobal_builtin (by rw [I.ok.glob]; exact I.mod.glob.keeps I.bk) hm (by rw [I.ok.blt]; exact h1.keeps I.bk) ((h2 x hn).trans hv) h) hd
theorem a96 {x:Str}{v:V}{u:Value}{pos:Pos}(hg:Gl X x) (hm:X.mg x=some u) (r:RelV v u) (hd:(x == ("__debug__":Str))=false:=by decide):PE X (.Name x pos) (tC v) :=
 fun _ _ _ H _ I h=>ac0 I hg hm ⟨v,H,I,r,h⟩ hd
theorem ao2 {x:Str}{v:V}{u:Value}{pos:Pos}(hg:Gl X x) (hm:X.mg x=none) (hv:bootBuiltins x=some u) (r:RelV v u) (hn:x≠"__name__":=by decide) (hd:(x == ("__debug__":Str))=false:=by decide):PE X (.Name x pos) (tC v) :=
 fun _ _ _ H _ I h=>am0 I hg hm hv ⟨v,H,I,r,h⟩ hn hd
variable {a b:Expr}{ta tb:TE}{pos:Pos}
def PC (X:Cx) (op:CmpOp) (a b:Expr) (t:TE):Prop :=
 ∀ (pins:List (Addr×Obj)) (s:Shared) (σ:St) (H:Hp) (Q:VK),Inv X pins σ H s→t σ H Q →
  wpAny (model X.prog X.w) X.A (eval a X.env) (fun v s₁=>wpAny (model X.prog X.w) X.A (eval b X.env) (fun u s₂=>wpAny (model X.prog X.w) X.A (compareOp op v u) (EP X pins σ Q) X.xe s₂) X.xe s₁) X.xe s
theorem nobehind (b:Expr) {op:CmpOp}(h:op≠.In) (h2:op≠.NotIn):behindInMarks op b=false:=by
 have e1:(op == CmpOp.In)=false:=by cases op <;> first | rfl | exact absurd rfl h
 have e2:(op == CmpOp.NotIn)=false:=by cases op <;> first | rfl | exact absurd rfl h2
 cases b <;> simp [behindInMarks,e1,e2]
def tB (t:TE):TT:=fun σ H Q=>t σ H fun x H1=>∃ c,x=.bl c∧Q c H1
theorem az2 {op:CmpOp}{t:TE}(h:PC X op a b t) (h1:behindInMarks op b=false:=by first | exact nobehind _ (by decide) (by decide) | rfl):PT X (.Compare a [op] [b] pos) (tB t):=by
 intro pins s σ H Q I hw
 refine wpAny_isTrue_Compare1 (thn (h pins s σ H _ I hw) fun v s1 h1=>thn h1 fun u s2 h2=>thn h2 ?_) h1
 rintro c s3 ⟨x,H1,I1,r1,q1⟩
 obtain ⟨d,rfl,q⟩:=q1
 cases r1
 exact wpAny_truthy_bool ⟨H1,I1,q⟩
variable {tA tB':TT}{rest:List Expr}
def tAnd (t u:TT):TT:=fun σ H Q=>t σ H fun c H1=>if c=true then u σ H1 Q else Q false H1
def tOr (t u:TT):TT:=fun σ H Q=>t σ H fun c H1=>if c=true then Q true H1 else u σ H1 Q
def tNot (t:TT):TT:=fun σ H Q=>t σ H fun c H1=>Q (!c) H1
theorem a97 (ha:PT X a tA):PW X (.BoolOp .And [a] pos) tA:=by
 intro wh pins s σ H Q I h
 refine isTrue_and (thn (ha pins s σ H Q I h) fun c s1 e=>?_)
 cases c with
 | true=>exact isTrue_and_nil e
 | false=>exact e
theorem ah9 (ha:PT X a tA):PW X (.BoolOp .Or [a] pos) tA:=by
 intro wh pins s σ H Q I h
 refine isTrue_or (thn (ha pins s σ H Q I h) fun c s1 e=>?_)
 cases c with
 | false=>exact isTrue_or_nil e
 | true=>exact e
theorem ac9 (ha:PT X a tA) (hb:PW X (.BoolOp .And (b::rest) pos) tB'):PW X (.BoolOp .And (a::b::rest) pos) (tAnd tA tB'):=by
 intro wh pins s σ H Q I h
 refine isTrue_and (thn (ha pins s σ H _ I h) ?_)
 rintro c s1 ⟨H1,I1,q1⟩
 cases c with
 | true=>exact hb wh pins s1 σ H1 Q I1 q1
 | false=>exact ⟨H1,I1,q1⟩
theorem ao3 (ha:PT X a tA) (hb:PW X (.BoolOp .Or (b::rest) pos) tB'):PW X (.BoolOp .Or (a::b::rest) pos) (tOr tA tB'):=by
 intro wh pins s σ H Q I h
 refine isTrue_or (thn (ha pins s σ H _ I h) ?_)
 rintro c s1 ⟨H1,I1,q1⟩
 cases c with
 | true=>exact ⟨H1,I1,q1⟩
 | false=>exact hb wh pins s1 σ H1 Q I1 q1
theorem bn7 (ha:PT X a tA):PT X (.UnaryOp .Not a pos) (tNot tA):=by
 intro pins s σ H Q I h
 exact isTrue_not (ha pins s σ H (fun c H1=>Q (!c) H1) I h)
def c37 (ta tb:TE):TE:=fun σ H Q=>ta σ H fun x H1=>∃ c,x=.bl c∧if c=true then tb σ H1 Q else Q (.bl false) H1
def c38 (ta:TE):TE:=fun σ H Q=>ta σ H fun x H1=>∃ c,x=.bl c∧Q (.bl (!c)) H1
theorem b58 {op}{t:TE}(h:PE X a t):PE X (.BoolOp op [a] pos) t:=fun pins s σ H Q I hw=>BoolOp_one (h pins s σ H Q I hw)
theorem b59 (ha:PE X a ta) (hb:PE X (.BoolOp .And (b::rest) pos) tb):PE X (.BoolOp .And (a::b::rest) pos) (c37 ta tb):=by
 intro pins s σ H Q I h
 refine BoolOp_and (thn (ha pins s σ H _ I h) ?_)
 rintro v s1 ⟨x,H1,I1,r1,q1⟩
 obtain ⟨c,rfl,q1⟩:=q1
 cases r1
 refine wpAny_truthy_bool ?_
 cases c with
 | true=>exact hb pins s1 σ H1 Q I1 q1
 | false=>exact ⟨.bl false,H1,I1,rfl,q1⟩
theorem c39 (ha:PE X a ta):PE X (.UnaryOp .Not a pos) (c38 ta):=by
 intro pins s σ H Q I h
 refine UnaryOp_ (thn (ha pins s σ H _ I h) ?_)
 rintro v s1 ⟨x,H1,I1,r1,q1⟩
 obtain ⟨c,rfl,q1⟩:=q1
 cases r1
 exact not_of (wpAny_truthy_bool ⟨.bl (!c),H1,I1,rfl,q1⟩)
def tIf (t:TT) (ta tb:TE):TE:=fun σ H Q=>t σ H fun c H1=>if c=true then ta σ H1 Q else tb σ H1 Q
theorem ah0 {c:Expr}(hc:PT X c tA) (ha:PE X a ta) (hb:PE X b tb):PE X (.IfExp c a b pos) (tIf tA ta tb):=by
 intro pins s σ H Q I h
 refine wpAny_IfExp (thn (hc pins s σ H _ I h) ?_)
 rintro d s1 ⟨H1,I1,q1⟩
 cases d with
 | true=>exact ha pins s1 σ H1 Q I1 q1
 | false=>exact hb pins s1 σ H1 Q I1 q1
end
def SqL (K:PySem.W.Frag) (H:Hp) (a:Addr) (xs:List V):Prop :=
 Rd H a (.lst xs) ∨
  ∃ (o:Obj) (its:Array Value) (n:Nat),K.lookup a=some o∧o.cls=.type "list"∧o.dict=none∧o.data=.seq its n∧its.size≤sizeLine∧Vals xs its.toList
def SqT (K:PySem.W.Frag) (H:Hp) (a:Addr) (xs:List V):Prop :=
 Rd H a (.tup xs) ∨
  ∃ (o:Obj) (its:Array Value) (n:Nat),K.lookup a=some o∧o.cls=.type "tuple"∧o.data=.seq its n∧its.size≤sizeLine∧Vals xs its.toList
def absV:Value→Option V
 | .none=>some .non
 | .bool b=>some (.bl b)
 | .int i _=>some (.int i)
 | .str x _=>some (.str x)
 | .bytes b _=>some (.byt b)
 | .float b _=>some (.flt b)
 | .ref a=>some (.ref a)
 | .type n=>some (.ty n)
 | _=>none
theorem RelV.abs {x:V}{u:Value}(r:RelV x u):absV u=some x:=by
 cases x with
 | non=>cases r; rfl
 | bl _=>cases r; rfl
 | int _=>obtain ⟨t,rfl⟩:=r; rfl
 | str _=>obtain ⟨t,rfl⟩:=r; rfl
 | byt _=>obtain ⟨t,rfl⟩:=r; rfl
 | flt _=>obtain ⟨t,rfl⟩:=r; rfl
 | ref _=>cases r; rfl
 | ty _=>cases r; rfl
theorem RelV.inj {x y:V}{u:Value}(r:RelV x u) (q:RelV y u):x=y:=Option.some.inj (r.abs.symm.trans q.abs)
theorem Vals.inj:∀ {xs ys:List V}{us:List Value},Vals xs us→Vals ys us→xs=ys
 | _,_,_,.nil,.nil=>rfl
 | _,_,_,.cons r t,.cons r' t'=>by rw [r.inj r',Vals.inj t t']
section
variable {X:Cx}{pins:List (Addr×Obj)}{σ:St} {H:Hp}{s:Shared}{a:Addr}{xs ys:List V}
theorem SqL.of {K:PySem.W.Frag}(h:H a=some (.lst xs)):SqL K H a xs:=.inl (.inl h)
theorem SqT.of {K:PySem.W.Frag}(h:H a=some (.tup xs)):SqT K H a xs:=.inl (.inl h)
theorem Inv.list (I:Inv X pins σ H s) (h:SqL X.K H a xs):∃ its:List Value,Vals xs its∧PlainL s.heap a its.toArray∧xs.length≤sizeLine:=by
 rcases h with h | ⟨o,its,n,hk,hc,hd,hs,hz,r⟩
 · obtain ⟨z,its,n,r,e⟩:=h.ok I.hok
   exact ⟨its,r,⟨_,n,e,rfl,rfl,rfl⟩,z⟩
 · refine ⟨its.toList,r,⟨o,n,I.kIn a o hk,hc,hd,by simpa using hs⟩,?_⟩
   have e:=r.length
   simp only [Array.length_toList] at e
   omega
theorem Inv.tuple (I:Inv X pins σ H s) (h:SqT X.K H a xs):∃ its:List Value,Vals xs its∧IsTup s.heap a its.toArray∧xs.length≤sizeLine:=by
 rcases h with h | ⟨o,its,n,hk,hc,hs,hz,r⟩
 · obtain ⟨z,its,r,p⟩:=h.ok I.hok
   exact ⟨its,r,p,z⟩
 · refine ⟨its.toList,r,⟨o,I.kIn a o hk,hc,n,by simpa using hs⟩,?_⟩
   have e:=r.length
   simp only [Array.length_toList] at e
   omega
theorem Inv.list_inj (I:Inv X pins σ H s) (h:SqL X.K H a xs) (h':SqL X.K H a ys):xs=ys:=by
 obtain ⟨its,r,⟨o,n,e,_,_,d⟩,_⟩:=I.list h
 obtain ⟨its',r',⟨o',n',e',_,_,d'⟩,_⟩:=I.list h'
 rw [e] at e'; cases e'
 rw [d] at d'
 injection d' with d1 _
 have:its=its':=by simpa using congrArg Array.toList d1
 subst this
 exact r.inj r'
theorem Inv.tuple_inj (I:Inv X pins σ H s) (h:SqT X.K H a xs) (h':SqT X.K H a ys):xs=ys:=by
 obtain ⟨its,r,⟨o,e,_,n,d⟩,_⟩:=I.tuple h
 obtain ⟨its',r',⟨o',e',_,n',d'⟩,_⟩:=I.tuple h'
 rw [e] at e'; cases e'
 rw [d] at d'
 injection d' with d1 _
 have:its=its':=by simpa using congrArg Array.toList d1
 subst this
 exact r.inj r'
end
abbrev Cx.wish (X:Cx) (E:Value→Shared→Prop):Cx:={ X with xe:=E }
abbrev Cx.nox (X:Cx):Cx:=X.wish fun _ _=>False
theorem Cx.Ok.wish {X:Cx}(ok:X.Ok) (E:Value→Shared→Prop):(X.wish E).Ok :=
 ⟨ok.mod,ok.kind,ok.glob,ok.blt,ok.above,ok.inj,ok.has,ok.cab,ok.hd,ok.frames,ok.stk,ok.exf,ok.bs,ok.bsz,ok.noex,ok.exfs,ok.funs,ok.frf⟩
theorem Cx.Ok.unwish {X:Cx}{E:Value→Shared→Prop}(ok:(X.wish E).Ok):X.Ok :=
 ⟨ok.mod,ok.kind,ok.glob,ok.blt,ok.above,ok.inj,ok.has,ok.cab,ok.hd,ok.frames,ok.stk,ok.exf,ok.bs,ok.bsz,ok.noex,ok.exfs,ok.funs,ok.frf⟩
section
variable {X:Cx}{pins:List (Addr×Obj)}{σ:St} {H:Hp}{s:Shared}{E:Value→Shared→Prop}
theorem Inv.wish (I:Inv X pins σ H s) (E:Value→Shared→Prop):Inv (X.wish E) pins σ H s:=⟨I.ok.wish E,I.os,I.bare,I.base,I.loc,I.cell,I.free,I.freeC,I.pin,I.hok,I.len⟩
theorem Inv.unwish (I:Inv (X.wish E) pins σ H s):Inv X pins σ H s:=⟨I.ok.unwish,I.os,I.bare,I.base,I.loc,I.cell,I.free,I.freeC,I.pin,I.hok,I.len⟩
theorem SP.unwish {D:Ends}{f:Flow}{s':Shared}(h:SP (X.wish E) pins D f s'):SP X pins D f s':=by
 cases f with
 | next=>obtain ⟨σ',H',I,q⟩:=h; exact ⟨σ',H',I.unwish,q⟩
 | brk=>obtain ⟨σ',H',I,q⟩:=h; exact ⟨σ',H',I.unwish,q⟩
 | cont=>obtain ⟨σ',H',I,q⟩:=h; exact ⟨σ',H',I.unwish,q⟩
 | ret u=>obtain ⟨v,σ',H',I,r,q⟩:=h; exact ⟨v,σ',H',I.unwish,r,q⟩
theorem PSs.nox {st:List Stmt}{t:TS}(h:PSs X.nox st t):PSs X st t:=fun pins s σ H D I hw =>
 wpAny_mono (h pins s σ H D (I.wish _) hw) (fun _ _ q=>q.unwish) fun _ _ z=>False.elim z
end
section
variable {X:Cx}{st:Stmt}{rest:List Stmt}{t u:TS}{e:Expr}{te:TE}{pos:Pos}
def c40:TS:=fun D σ H=>D.nx σ H
def tSeq (t u:TS):TS:=fun D σ H=>t { D with nx:=u D } σ H
theorem a20:PSs X [] c40:=fun _ _ σ H _ I h=>wpAny_execs_nil ⟨σ,H,I,h⟩
theorem a01 (h1:PS X st t) (h2:PSs X rest u):PSs X (st::rest) (tSeq t u):=by
 intro pins s σ H D I h
 refine wpAny_execs_cons (thn (h1 pins s σ H { D with nx:=u D } I h) fun f s1 q=>?_)
 cases f with
 | next =>
   obtain ⟨σ',H',I',q⟩:=q
   exact h2 pins s1 σ' H' D I' q
 | ret v=>exact q
 | brk=>exact q
 | cont=>exact q
theorem a05 (h1:PS X st t):PSs X [st] t:=by
 intro pins s σ H D I h
 refine wpAny_execs_cons (thn (h1 pins s σ H D I h) fun f s1 q=>?_)
 cases f with
 | next=>exact wpAny_execs_nil q
 | ret v=>exact q
 | brk=>exact q
 | cont=>exact q
def c41:TS:=fun D σ H=>D.ct σ H
theorem av9:PS X (.Continue pos) c41:=fun _ _ σ H _ I h=>wpAny_Continue ⟨σ,H,I,h⟩
theorem Inv.quiet {pins:List (Addr×Obj)}{σ:St} {H:Hp}{s:Shared}(I:Inv X pins σ H s):interactive X.env=false:=by simp [interactive,I.ok.kind]
def c42 (te:TE):TS:=fun D σ H=>te σ H fun _ H1=>D.nx σ H1
theorem a49 (he:PE X e te) (hs:swapsWith e none pos.line X.env=pure false:=by rfl):PS X (.Expr e pos) (c42 te):=by
 intro pins s σ H D I h
 exact wpAny_Expr_any (thn (he pins s σ H _ I h) (by rintro v s1 ⟨x,H1,I1,r1,q1⟩; exact ⟨σ,H1,I1,q1⟩)) I.quiet hs
def tRet (te:TE):TS:=fun D σ H=>te σ H D.rt
theorem a17 (he:PE X e te):PS X (.Return (some e) pos) (tRet te):=by
 intro pins s σ H D I h
 exact wpAny_Return_some (thn (he pins s σ H _ I h) (by rintro v s1 ⟨x,H1,I1,r1,q1⟩; exact ⟨x,σ,H1,I1,r1,q1⟩))
def tIfS (c:TT) (t u:TS):TS:=fun D σ H=>c σ H fun b H1=>if b=true then t D σ H1 else u D σ H1
theorem a32 {c:Expr}{a b:List Stmt}{tc:TT}(hc:PT X c tc) (ha:PSs X a t) (hb:PSs X b u):PS X (.If c a b pos) (tIfS tc t u):=by
 intro pins s σ H D I h
 refine wpAny_If (thn (hc pins s σ H _ I h) ?_)
 rintro d s1 ⟨H1,I1,q1⟩
 cases d with
 | true=>exact ha pins s1 σ H1 D I1 q1
 | false=>exact hb pins s1 σ H1 D I1 q1
end
abbrev TG:=V→St→Hp→(St→Hp→Prop)→Prop
abbrev TGs:=List V→St→Hp→(St→Hp→Prop)→Prop
def PG (X:Cx) (target:Expr) (t:TG):Prop :=
 ∀ (pins:List (Addr×Obj)) (s:Shared) (σ:St) (H:Hp) (v:V) (u:Value) (Q:St→Hp→Prop),Inv X pins σ H s→RelV v u→t v σ H Q →
  wpAny (model X.prog X.w) X.A (assign target X.env u) (fun _ s'=>∃ σ' H',Inv X pins σ' H' s'∧Q σ' H') X.xe s
def PGs (X:Cx) (ts:List Expr) (t:TGs):Prop :=
 ∀ (pins:List (Addr×Obj)) (s:Shared) (σ:St) (H:Hp) (vs:List V) (us:List Value) (Q:St→Hp→Prop),Inv X pins σ H s→Vals vs us→t vs σ H Q →
  wpAny (model X.prog X.w) X.A (assignInOrder ((assignEach ts X.env).map (·.2)) us) (fun _ s'=>∃ σ' H',Inv X pins σ' H' s'∧Q σ' H') X.xe s
abbrev TSet:=V→V→V→Hp→(Hp→Prop)→Prop
def PSet (X:Cx) (t:TSet):Prop :=
 ∀ (pins:List (Addr×Obj)) (s:Shared) (σ:St) (H:Hp) (o i v:V) (ov iv u:Value) (Q:Hp→Prop),Inv X pins σ H s→RelV o ov→RelV i iv→RelV v u→t o i v H Q →
  wpAny (model X.prog X.w) X.A (setItem ov iv u) (fun _ s'=>∃ H',Inv X pins σ H' s'∧Q H') X.xe s
abbrev TIp:=V→V→Hp→VK→Prop
def PIp (X:Cx) (op:Operator) (t:TIp):Prop :=
 ∀ (pins:List (Addr×Obj)) (s:Shared) (σ:St) (H:Hp) (x y:V) (v u:Value) (Q:VK),Inv X pins σ H s→RelV x v→RelV y u→t x y H Q →
  wpAny (model X.prog X.w) X.A (inplaceOp op v u) (EP X pins σ Q) X.xe s
section
variable {X:Cx}{pos:Pos}
def al3 (i:Nat):TG:=fun v σ H Q=>Q (σ.set i (some v)) H
theorem a24 {i:Nat}{x:Str}(hN:X.N.Nodup) (hi:X.N[i]?=some x) (hx:Loc X.env.scope x) (hf:X.fn x=true∨X.env.scope.names.lookup x=some .local:=by first | exact .inl rfl | exact .inr rfl | assumption):PG X (.Name x pos) (al3 i):=by
 intro pins s σ H v u Q I r h
 exact wpAny_assign_Name (a85 I hN hi hx r (fun s' I'=>⟨_,H,I',h⟩) hf)
def gNil:TGs:=fun vs σ H Q=>vs=[]∧Q σ H
def bg1 (t:TG) (u:TGs):TGs:=fun vs σ H Q=>∃ v r,vs=v::r∧t v σ H fun σ' H'=>u r σ' H' Q
theorem a78:PGs X [] gNil:=by
 intro pins s σ H vs us Q I r h
 obtain ⟨e,h⟩:=h
 subst e
 cases r
 exact assignInOrder_nil ⟨σ,H,I,h⟩
theorem a28 {e:Expr}{es:List Expr}{t:TG}{u:TGs}(h1:PG X e t) (h2:PGs X es u)
 (hs:(assignEach (e::es) X.env).map (·.2)=assign e X.env::(assignEach es X.env).map (·.2):=by rfl):PGs X (e::es) (bg1 t u):=by
 intro pins s σ H vs us Q I r h
 obtain ⟨v,vr,e1,h⟩:=h
 subst e1
 cases r with
 | cons r rr =>
   rw [hs]
   refine assignInOrder_cons (thn (h1 pins s σ H _ _ _ I r h) ?_)
   rintro _ s1 ⟨σ1,H1,I1,q1⟩
   exact h2 pins s1 σ1 H1 _ _ Q I1 rr q1
def gTup (K:PySem.W.Frag) (n:Nat) (t:TGs):TG:=fun v σ H Q=>∃ a xs,v=.ref a∧SqT K H a xs∧xs.length=n∧t xs σ H Q
theorem c43 {es:List Expr}{k:Nat}{t:TGs}{n:Nat}(hc:X.calm=true) (h:PGs X es t)
 (hn:(assignEach es X.env).length=n:=by rfl) (hst:(assignEach es X.env).findIdx? (·.1)=none:=by rfl):PG X (.Tuple es k pos) (gTup X.K n t):=by
 intro pins s σ H v u Q I r hw
 obtain ⟨a,xs,e1,hq,hl,hw⟩:=hw
 subst e1
 cases r
 obtain ⟨its,rv,ht,hz⟩:=I.tuple hq
 refine assign_Tuple_tuple (I.ok.hd hc) ht (by simp [hn,←hl,rv.length]) hst fun h' hx=>?_
 have I1:Inv X pins σ H { s with heap:=h' }:=I.kept (t':=s.toks) fun b o e=>hx b o (Nat.ne_of_lt (Heap.lt_size e)) e
 exact h pins _ σ H xs _ Q I1 (by simpa using rv) hw
def gSub (to ti:TE) (t:TSet):TG:=fun v σ H Q=>to σ H fun o H1=>ti σ H1 fun i H2=>t o i v H2 fun H3=>Q σ H3
theorem bn8 {o i:Expr}{to ti:TE}{t:TSet}(ho:PE X o to) (hi:PE X i ti) (hs:PSet X t)
 (ha:∀ v,assign (.Subscript o i pos) X.env v=(do
  let ov←holding [v] (eval o X.env)
  let iv←holding [v,ov] (eval i X.env)
  standAt pos
  holding [v,ov,iv] (setItem ov iv v)
  release [v,ov,iv] []):=by intro _; rfl):PG X (.Subscript o i pos) (gSub to ti t):=by
 intro pins s σ H v u Q I r h
 rw [ha]
 refine wpAny_bind (wpAny_holding (thn (ho pins s σ H _ I h) ?_))
 rintro ov s1 ⟨x,H1,I1,r1,q1⟩
 refine wpAny_bind (wpAny_holding (thn (hi pins s1 σ H1 _ I1 q1) ?_))
 rintro iv s2 ⟨y,H2,I2,r2,q2⟩
 refine wpAny_bind (wpAny_standAt (wpAny_bind (wpAny_holding (thn (hs pins s2 σ H2 x y v ov iv u _ I2 r1 r2 r q2) ?_))))
 rintro _ s3 ⟨H3,I3,q3⟩
 exact wpAny_release ⟨σ,H3,I3,q3⟩
def tAsg (te:TE) (g:TG):TS:=fun D σ H=>te σ H fun x H1=>g x σ H1 D.nx
theorem ai0 {tg e:Expr}{te:TE}{g:TG}(he:PE X e te) (hg:PG X tg g) (hs:swapsWithSole [tg] e pos.line X.env=pure false:=by rfl) (hw:swappedStores [tg] e X.env=pure none:=by rfl)
 (h1:(assignEach [tg] X.env).map (·.2)=[assign tg X.env]:=by rfl):PS X (.Assign [tg] e pos) (tAsg te g):=by
 intro pins s σ H D I h
 refine wpAny_Assign_stores (thn (he pins s σ H _ I h) ?_) hs hw
 rintro v s1 ⟨x,H1,I1,r1,q1⟩
 rw [h1]
 exact thn (hg pins s1 σ H1 x v _ I1 r1 q1) fun _ s2 q=>q
theorem a16 {i:Nat}{x:Str}{e:Expr}{te:TE}{pos':Pos}(hN:X.N.Nodup) (hi:X.N[i]?=some x) (hx:Loc X.env.scope x) (he:PE X e te) (hs:swapsWith e (some (.Name x pos')) pos.line X.env=pure false:=by rfl) (hf:X.fn x=true∨X.env.scope.names.lookup x=some .local:=by first | exact .inl rfl | exact .inr rfl | assumption) :
 PS X (.Assign [.Name x pos'] e pos) (tAsg te (al3 i)):=by
 intro pins s σ H D I h
 refine wpAny_Assign_Name (thn (he pins s σ H _ I h) ?_) hs
 rintro v s1 ⟨y,H1,I1,r1,q1⟩
 exact a85 I1 hN hi hx r1 (fun s2 I2=>⟨_,H1,I2,q1⟩) hf
def tPar (i j:Nat) (ta:TA):TS:=fun D σ H=>ta σ H fun vs H1=>∃ v w,vs=[v,w]∧D.nx ((σ.set i (some v)).set j (some w)) H1
theorem c44 {i j:Nat}{x y:Str}{a b:Expr}{ta:TA}{px py pt:Pos}{kt k2 pt2}(hc:X.calm=true) (hN:X.N.Nodup) (hi:X.N[i]?=some x) (hj:X.N[j]?=some y) (hij:i≠j)
 (hx:X.env.scope.names.lookup x=some .local) (hy:X.env.scope.names.lookup y=some .local) (ha:PA X [a,b] ta)
 (hw:swappedStores [.Tuple [.Name x px,.Name y py] kt pt] (.Tuple [a,b] k2 pt2) X.env=pure (some [x,y]))
 (hs:swapsWithSole [.Tuple [.Name x px,.Name y py] kt pt] (.Tuple [a,b] k2 pt2) pos.line X.env=pure false:=by rfl) :
 PS X (.Assign [.Tuple [.Name x px,.Name y py] kt pt] (.Tuple [a,b] k2 pt2) pos) (tPar i j ta):=by
 intro pins s σ H D I h
 rw [exec_Assign_arm]
 refine wpAny_bind (wpAny_standAt ?_)
 rw [hs]
 refine wpAny_bind (wpAny_pure ?_)
 rw [if_neg (by decide)]
 refine wpAny_bind (Tuple_ (thn (ha _ pins s σ H _ I h) ?_))
 rintro us s1 ⟨vs,H1,I1,r1,q1⟩
 obtain ⟨v,w,e1,q1⟩:=q1
 subst e1
 obtain ⟨u1,u2,rfl,rv,rw'⟩:∃ u1 u2,us=[u1,u2]∧RelV v u1∧RelV w u2:=by
  cases r1 with
  | cons p q =>
    cases q with
    | cons p' q' =>
      cases q'
      exact ⟨_,_,rfl,p,p'⟩
 refine wpAny_newObj_type ?_ (by show 2≤sizeLine; decide)
 have I2:Inv X pins σ H1 { s1 with heap:=s1.heap.push { cls:=.type "tuple",data:=.seq [u1,u2].toArray } }:=I1.kept (t':=s1.toks) fun b o e=>Heap.get?_push_of_some _ e
 rw [hw]
 refine wpAny_bind (wpAny_pure ?_)
 show wpAny (model X.prog X.w) X.A (do rule "assign.swapped-stores"; let items←unpackItems (.ref s1.heap.objs.size) 2 none; assignInOrder [fun v=>bindName X.env y v,fun v=>bindName X.env x v] items.reverse; pure Flow.next) _ _ _
 refine wpAny_bind (wpAny_rule (wpAny_bind (unpackItems_tuple (items:=#[u1,u2]) (I.ok.hd hc) (IsTup.new s1.heap _) fun h' hx'=>?_)))
 have I3:=I2.kept (h':=h') (t':=s1.toks) fun b o e=>hx' b o (Nat.ne_of_lt (Heap.lt_size e)) e
 show wpAny _ _ (assignInOrder [fun v=>bindName X.env y v,fun v=>bindName X.env x v] [u2,u1] >>= fun _=>pure Flow.next) _ _ _
 refine wpAny_bind (assignInOrder_cons (wpAny_bindName (a85 I3 hN hj (.inl hy) rw' (fun s2 I4=>?_) (.inr hy))))
 refine assignInOrder_cons (wpAny_bindName (a85 I4 hN hi (.inl hx) rv (fun s3 I5=>assignInOrder_nil (wpAny_pure ?_)) (.inr hx)))
 rw [List.set_comm _ _ (Ne.symm hij)] at I5
 exact ⟨_,H1,I5,q1⟩
def tAug (i:Nat) (te:TE) (ti:TIp):TS:=fun D σ H=>∃ x,σ[i]?=some (some x)∧te σ H fun y H1=>ti x y H1 fun z H2=>D.nx (σ.set i (some z)) H2
theorem bn9 {i:Nat}{x:Str}{e:Expr}{te:TE}{op:Operator}{ti:TIp}{pos':Pos}(hN:X.N.Nodup) (hi:X.N[i]?=some x) (hx:Loc X.env.scope x) (he:PE X e te) (ho:PIp X op ti) (hf:X.fn x=true∨X.env.scope.names.lookup x=some .local:=by first | exact .inl rfl | exact .inr rfl | assumption) :
 PS X (.AugAssign (.Name x pos') op e pos) (tAug i te ti):=by
 intro pins s σ H D I h
 obtain ⟨v,e1,h⟩:=h
 obtain ⟨m,hn,hl⟩:=I.loc
 have vis:Vis X.env.scope x:=by rcases hx with k | k; exact .inl k; exact .inr (.inl k)
 obtain ⟨u,r,l⟩:=hl i x v hi e1 vis
 refine wpAny_AugAssign_Name ?_
 have go:wpAny (model X.prog X.w) X.A (eval e X.env) (fun w s₂=>wpAny (model X.prog X.w) X.A (inplaceOp op u w) (fun r s₃=>wpAny (model X.prog X.w) X.A (storeName X.env x r) (fun _=>SP X pins D .next) X.xe s₃) X.xe s₂) X.xe s:=by
  refine thn (he pins s σ H _ I h) ?_
  rintro w s1 ⟨y,H1,I1,r1,q1⟩
  refine thn (ho pins s1 σ H1 v y u w _ I1 r r1 q1) ?_
  rintro z s2 ⟨zv,H2,I2,r2,q2⟩
  exact a85 I2 hN hi hx r2 (fun s3 I3=>⟨_,H2,I3,q2⟩) hf
 rcases l with ⟨hk,hm⟩ | ⟨hk,c,hc,hcell⟩
 · exact wpAny_loadName_local I.ok.kind hk hn hm go
 · rcases hk with hk | hk
   · exact wpAny_loadName_cell I.ok.kind hk hc hcell go
   · rcases hx with k | k
     · have:X.env.scope.names.lookup x=some .free:=hk
       rw [k] at this; cases this
     · have:X.env.scope.names.lookup x=some .free:=hk
       rw [k] at this; cases this
def ipI (f:Int→Int→Int):TIp:=fun x y H Q=>∃ i j,x=.int i∧y=.int j∧Q (.int (f i j)) H
theorem bo0:PIp X .Add (ipI fun i j=>i+j):=by
 intro pins s σ H x y v u Q I r1 r2 h
 obtain ⟨i,j,e1,e2,q⟩:=h
 subst e1; subst e2
 obtain ⟨t,rfl⟩:=r1
 obtain ⟨t',rfl⟩:=r2
 exact iadd_int ⟨.int _,H,I.tok _,⟨_,rfl⟩,q⟩
end
section
variable {X:Cx}{pos:Pos}
def bo1 (c:TT) (tb:TS):TS:=fun D σ H=>∃ W:Nat→St→Hp→Prop,(∃ m,W m σ H)∧∀ m σ H,W m σ H →
 c σ H fun b H1=>if b=true then ∃ N:St→Hp→Prop,(∀ σ' H',N σ' H'→∃ m',m'<m∧W m' σ' H')∧tb { D with nx:=N,ct:=N,bk:=D.nx } σ H1 else D.nx σ H1
theorem aa7 {c:Expr}{body:List Stmt}{tc:TT}{tb:TS}(hp:PassesOwn (model X.prog X.w) X.A X.env X.xe) (hc:PT X c tc) (hb:PSs X body tb):PS X (.While c body [] pos) (bo1 tc tb):=by
 intro pins s σ H D I h
 obtain ⟨W,⟨m0,w0⟩,turn⟩:=h
 refine wpAny_While (codeAny_whileLoop (fun n s'=>∃ σ' H',Inv X pins σ' H' s'∧W n σ' H') ?_ m0 ⟨σ,H,I,w0⟩)
 rintro n s1 ⟨σ1,H1,I1,w1⟩
 refine wpAny_passesOwn hp (thn (hc pins s1 σ1 H1 _ I1 (turn n σ1 H1 w1)) ?_)
 rintro b s2 ⟨H2,I2,q2⟩
 cases b with
 | true =>
   obtain ⟨N,hN,q2⟩:=q2
   rw [if_pos rfl]
   refine wpAny_passesOwn hp (thn (hb pins s2 σ1 H2 _ I2 q2) fun f s3 q3=>?_)
   cases f with
   | next =>
     obtain ⟨σ3,H3,I3,n3⟩:=q3
     obtain ⟨m',hm,w3⟩:=hN σ3 H3 n3
     exact ⟨m',hm,σ3,H3,I3,w3⟩
   | cont =>
     obtain ⟨σ3,H3,I3,n3⟩:=q3
     obtain ⟨m',hm,w3⟩:=hN σ3 H3 n3
     exact ⟨m',hm,σ3,H3,I3,w3⟩
   | brk=>exact q3
   | ret v=>exact q3
 | false =>
   rw [if_neg Bool.false_ne_true]
   exact wpAny_execs_nil ⟨σ1,H2,I2,q2⟩
end
structure It where
 go:Nat→Hp→Prop
 yld:Nat→Hp→V→Hp→Prop
 stop:Nat→Hp→Prop
def FpOk (X:Cx) (pins:List (Addr×Obj)) (H:Hp) (b:Addr):Prop :=
 H b=none∧b≠X.env.locals∧b∉X.fs∧(b∈X.ex∨X.s₀.heap.objs.size≤b)∧(∀ x c,X.env.cells.lookup x=some c→c≠b)∧∀ p∈X.pn++pins,p.1≠b
theorem Inv.fpOk {X:Cx}{pins:List (Addr×Obj)}{σ:St} {H H':Hp}{s:Shared}{b:Addr}(I:Inv X pins σ H s) (hb:s.heap.objs.size≤b) (hn:H' b=none):FpOk X pins H' b:=by
 refine ⟨hn,Nat.ne_of_gt (Nat.lt_of_lt_of_le I.lt hb),I.nofs hb,.inr (Nat.le_trans I.sz hb),fun x c e z=>?_,fun p hp z=>?_⟩
 · obtain ⟨v,q⟩:=I.cell x c e
   exact absurd (Nat.lt_of_lt_of_le q.lt (by rw [z]; exact hb)) (Nat.lt_irrefl _)
 · exact absurd (Nat.lt_of_lt_of_le (Heap.lt_size (I.pin p hp).1) (by rw [z]; exact hb)) (Nat.lt_irrefl _)
structure Turn (P:Program) (w:World) (K:PySem.W.Frag) (tg:Expr) (J:It) (fp:List Addr) (it:Addr) (tn:Nat→Heap→Prop):Prop where
 mem:it∈fp
 obj:∀ i h,tn i h→∀ b∈fp,∃ o,h.get? b=some o∧∀ v,o.data≠.cell v
 keep:∀ i h h',tn i h→(∀ b∈fp,∀ o,h.get? b=some o→h'.get? b=some o)→tn i h'
 item:∀ (X:Cx),X.prog=P→X.w=w→X.K=K→X.calm=true→∀ (i:Nat) (pins:List (Addr×Obj)) (s:Shared) (σ:St) (H:Hp) (E:Value→Shared→Prop),Inv X pins σ H s→(∀ b∈fp,FpOk X pins H b)→tn i s.heap→J.go i H →
  wpAny (model P w) X.A (pyNext (.ref it)) (fun r s1=>∃ u,r=some u ∧
   wpAny (model P w) X.A (letOwnedTupleGo tg (.ref it) u) (fun _ s2=>∃ x H',Inv X pins σ H' s2∧RelV x u∧J.yld i H x H'∧tn (i+1) s2.heap∧∀ b∈fp,H' b=none) E s1) E s
 done:∀ (X:Cx),X.prog=P→X.w=w→X.K=K→X.calm=true→∀ (i:Nat) (pins:List (Addr×Obj)) (s:Shared) (σ:St) (H:Hp) (E:Value→Shared→Prop),Inv X pins σ H s→(∀ b∈fp,FpOk X pins H b)→tn i s.heap→J.stop i H →
  wpAny (model P w) X.A (pyNext (.ref it)) (fun r s1=>r=none∧Inv X pins σ H s1) E s
 self:∀ (A:Around) (i:Nat) (s:Shared) (Q:Value→Shared→Prop) (E:Value→Shared→Prop),tn i s.heap→Q (.ref it) s→wpAny (model P w) A (pyIter (.ref it)) Q E s
abbrev TI:=St→Hp→(It→Hp→Prop)→Prop
def PIE (X:Cx) (pins:List (Addr×Obj)) (σ:St) (tg:Expr) (R:It→Hp→Prop) (itv:Value) (s2:Shared):Prop :=
 ∃ (it:Addr) (fp:List Addr) (tn:Nat→Heap→Prop) (J:It) (H':Hp),itv=.ref it∧Inv X pins σ H' s2∧Turn X.prog X.w X.K tg J fp it tn∧tn 0 s2.heap∧(∀ b∈fp,FpOk X pins H' b)∧R J H'
def PI (X:Cx) (tg iter:Expr) (wi:TI):Prop :=
 ∀ (pins:List (Addr×Obj)) (s:Shared) (σ:St) (H:Hp) (R:It→Hp→Prop),Inv X pins σ H s→wi σ H R →
  wpAny (model X.prog X.w) X.A (eval iter X.env) (fun v s1=>wpAny (model X.prog X.w) X.A (pyIter v) (PIE X pins σ tg R) X.xe s1) X.xe s
theorem bs5 {M:Model}{A:Around}{E:Value→Shared→Prop}{s:Shared}{tg:Expr}{it:Addr}{u:Value}{o:Obj}{n:String}{vs:Array Value}{Q:Unit→Shared→Prop}(ho:s.heap.get? it=some o) (hc:o.cls=.type n) (hd:o.data=.fields vs)
 (hn:["enumerate","zip","dict_itemiterator","dict_reverseitemiterator","odict_iterator","itertools.zip_longest","itertools.pairwise"].contains n=false) (hQ:Q () s):wpAny M A (letOwnedTupleGo tg (.ref it) u) Q E s:=by
 unfold letOwnedTupleGo
 cases tg <;> first
  | exact wpAny_pure hQ
  | (cases u <;> first
   | exact wpAny_pure hQ
   | (refine wpAny_bind (wpAny_load ho ?_)
      rw [hc,hd]
      show wpAny M A (if (["enumerate","zip","dict_itemiterator","dict_reverseitemiterator","odict_iterator","itertools.zip_longest","itertools.pairwise"].contains n && vs[0]? == some (rawInt _))=true then _ else _) Q E s
      rw [if_neg (by intro h; rw [hn,Bool.false_and] at h; cases h)]
      exact wpAny_pure hQ))
def Itl (K:PySem.W.Frag) (a:Addr):It :=
 ⟨fun i H=>∃ xs x,SqL K H a xs∧xs[i]?=some x,fun i H x H'=>H'=H∧∀ xs,SqL K H a xs→xs[i]?=some x,fun i H=>∃ xs,SqL K H a xs∧xs.length≤i⟩
def Itt (K:PySem.W.Frag) (a:Addr):It :=
 ⟨fun i H=>∃ xs x,SqT K H a xs∧xs[i]?=some x,fun i H x H'=>H'=H∧∀ xs,SqT K H a xs→xs[i]?=some x,fun i H=>∃ xs,SqT K H a xs∧xs.length≤i⟩
def Itr (lo:Int) (n:Nat):It:=⟨fun i _=>i<n,fun i H x H'=>H'=H∧x=.int (lo+i),fun i _=>n≤i⟩
theorem b60 {P:Program}{w:World}{K:PySem.W.Frag}{tg:Expr}(a it:Addr):Turn P w K tg (Itl K a) [it] it (fun i h=>h.IsListIter it a i) where
 mem:=by simp
 obj:=fun i h st b hb=>by
  have e:b=it:=by simpa using hb
  subst e
  obtain ⟨o,e,c,d⟩:=st
  exact ⟨o,e,fun v z=>by rw [d] at z; cases z⟩
 keep:=fun i h h' st k=>st.at fun o e=>k it (by simp) o e
 item:=by
  intro X hP hw hK hc i pins s σ H E I hf st hg
  subst hP hw hK
  obtain ⟨xs,x,hq,hx⟩:=hg
  obtain ⟨its,rv,p,hz⟩:=I.list hq
  obtain ⟨u,hu,ru⟩:=rv.get hx
  obtain ⟨f0,f1,f2,f3,f4,f5⟩:=hf it (by simp)
  refine wpAny_pyNext_list_item st p.isList (x:=u) (by simpa using hu) fun h' st' sb=>?_
  have I1:Inv X pins σ H { s with heap:=h' }:=I.turned (t':=s.toks) (fun b o hb e=>(sb.2 b hb).trans e) f0 f1 f3 f4 f5
  obtain ⟨o,e,c,d⟩:=id st'
  exact ⟨u,rfl,bs5 (s:={ s with heap:=h' }) e c d (by decide) ⟨x,H,I1,ru,⟨rfl,fun ys hy=>by rw [I.list_inj hy hq]; exact hx⟩,st',fun b hb=>(hf b hb).1⟩⟩
 done:=by
  intro X hP hw hK hc i pins s σ H E I hf st hg
  subst hP hw hK
  obtain ⟨xs,hq,hx⟩:=hg
  obtain ⟨its,rv,p,hz⟩:=I.list hq
  obtain ⟨f0,f1,f2,f3,f4,f5⟩:=hf it (by simp)
  have hl:=rv.length
  exact wpAny_pyNext_list_end (I.ok.hd hc) st p.isList (by simp; omega) fun h' eb=>⟨rfl,I.turned (t':=s.toks) (fun b o hb e=>eb b o hb e) f0 f1 f3 f4 f5⟩
 self:=fun _ _ _ _ _ st h=>wpAny_pyIter_listiter st h
theorem b27 {P:Program}{w:World}{K:PySem.W.Frag}{tg:Expr}(a it:Addr):Turn P w K tg (Itt K a) [it] it (fun i h=>h.IsTupleIter it a i) where
 mem:=by simp
 obj:=fun i h st b hb=>by
  have e:b=it:=by simpa using hb
  subst e
  obtain ⟨o,e,c,d⟩:=st
  exact ⟨o,e,fun v z=>by rw [d] at z; cases z⟩
 keep:=fun i h h' st k=>st.at fun o e=>k it (by simp) o e
 item:=by
  intro X hP hw hK hc i pins s σ H E I hf st hg
  subst hP hw hK
  obtain ⟨xs,x,hq,hx⟩:=hg
  obtain ⟨its,rv,p,hz⟩:=I.tuple hq
  obtain ⟨u,hu,ru⟩:=rv.get hx
  obtain ⟨f0,f1,f2,f3,f4,f5⟩:=hf it (by simp)
  refine wpAny_pyNext_tuple_item st (show s.heap.IsTuple a its.toArray from p) (x:=u) (by simpa using hu) fun h' st' sb=>?_
  have I1:Inv X pins σ H { s with heap:=h' }:=I.turned (t':=s.toks) (fun b o hb e=>(sb.2 b hb).trans e) f0 f1 f3 f4 f5
  obtain ⟨o,e,c,d⟩:=id st'
  exact ⟨u,rfl,bs5 (s:={ s with heap:=h' }) e c d (by decide) ⟨x,H,I1,ru,⟨rfl,fun ys hy=>by rw [I.tuple_inj hy hq]; exact hx⟩,st',fun b hb=>(hf b hb).1⟩⟩
 done:=by
  intro X hP hw hK hc i pins s σ H E I hf st hg
  subst hP hw hK
  obtain ⟨xs,hq,hx⟩:=hg
  obtain ⟨its,rv,p,hz⟩:=I.tuple hq
  obtain ⟨f0,f1,f2,f3,f4,f5⟩:=hf it (by simp)
  have hl:=rv.length
  exact wpAny_pyNext_tuple_end (I.ok.hd hc) st (show s.heap.IsTuple a its.toArray from p) (by simp; omega) fun h' eb=>⟨rfl,I.turned (t':=s.toks) (fun b o hb e=>eb b o hb e) f0 f1 f3 f4 f5⟩
 self:=fun _ _ _ _ _ st h=>wpAny_pyIter_tupleiter st h
theorem b28 {P:Program}{w:World}{K:PySem.W.Frag}{tg:Expr}(it:Addr) (lo:Int) (n:Nat):Turn P w K tg (Itr lo n) [it] it (fun i h=>IsRangeIter h it (lo+(i:Nat)*1) ((n:Int) - (i:Nat)) 1) where
 mem:=by simp
 obj:=fun i h st b hb=>by
  have e:b=it:=by simpa using hb
  subst e
  exact ⟨_,st,fun v z=>by
   have z':Data.fields _=Data.cell v:=z
   cases z'⟩
 keep:=fun i h h' st k=>k it (by simp) _ st
 item:=by
  intro X hP hw hK hc i pins s σ H E I hf st hg
  subst hP hw hK
  obtain ⟨f0,f1,f2,f3,f4,f5⟩:=hf it (by simp)
  have W:=Walks.range (prog:=X.prog) (w:=X.w) (I.ok.hd hc) it lo 1 n
  refine W.item i s _ _ hg st fun v h' tk hv st' kk=>?_
  obtain ⟨t,rfl⟩:=hv
  have I1:Inv X pins σ H { s with heap:=h',toks:=tk }:=I.turned (fun b o hb e=>kk b o (by simpa using hb) e) f0 f1 f3 f4 f5
  refine ⟨_,rfl,bs5 (s:={ s with heap:=h',toks:=tk }) (n:="range_iterator") st' rfl rfl (by decide) ⟨.int (lo+i),H,I1,⟨t,?_⟩,⟨rfl,rfl⟩,st',fun b hb=>(hf b hb).1⟩⟩
  rw [Int.mul_one]
 done:=by
  intro X hP hw hK hc i pins s σ H E I hf st hg
  subst hP hw hK
  obtain ⟨f0,f1,f2,f3,f4,f5⟩:=hf it (by simp)
  exact wpAny_pyNext_range_end (I.ok.hd hc) st (by have:n≤i:=hg; omega) fun h' eb=>⟨rfl,I.turned (t':=s.toks) (fun b o hb e=>eb b o hb e) f0 f1 f3 f4 f5⟩
 self:=fun _ _ _ _ _ st h=>wpAny_pyIter_rangeiter st h
section
variable {X:Cx}{tg:Expr}
def bs6 (K:PySem.W.Frag) (tl:TE):TI:=fun σ H R=>tl σ H fun x H1=>∃ a,x=.ref a∧(∃ xs,SqL K H1 a xs)∧R (Itl K a) H1
def iTup (K:PySem.W.Frag) (tl:TE):TI:=fun σ H R=>tl σ H fun x H1=>∃ a,x=.ref a∧(∃ xs,SqT K H1 a xs)∧R (Itt K a) H1
theorem bs7 {l:Expr}{tl:TE}(hl:PE X l tl):PI X tg l (bs6 X.K tl):=by
 intro pins s σ H R I h
 refine thn (hl pins s σ H _ I h) ?_
 rintro v s1 ⟨x,H1,I1,r1,q1⟩
 obtain ⟨a,e,⟨xs,hq⟩,q⟩:=q1
 subst e
 cases r1
 obtain ⟨its,rv,p,hz⟩:=I1.list hq
 refine wpAny_pyIter_list p.isList ?_
 refine ⟨s1.heap.objs.size,[s1.heap.objs.size],_,_,H1,rfl,I1.kept (t':=s1.toks) fun b o e=>Heap.get?_push_of_some _ e,b60 a _,⟨_,Heap.get?_push_size _ rfl,rfl,rfl⟩,fun b hb=>?_,q⟩
 have e:b=s1.heap.objs.size:=by simpa using hb
 subst e
 exact I1.fpOk (Nat.le_refl _) (I1.hok.fresh (Nat.le_refl _))
theorem c45 {l:Expr}{tl:TE}(hl:PE X l tl):PI X tg l (iTup X.K tl):=by
 intro pins s σ H R I h
 refine thn (hl pins s σ H _ I h) ?_
 rintro v s1 ⟨x,H1,I1,r1,q1⟩
 obtain ⟨a,e,⟨xs,hq⟩,q⟩:=q1
 subst e
 cases r1
 obtain ⟨its,rv,p,hz⟩:=I1.tuple hq
 refine wpAny_pyIter_tuple (show s1.heap.IsTuple a its.toArray from p) ?_
 refine ⟨s1.heap.objs.size,[s1.heap.objs.size],_,_,H1,rfl,I1.kept (t':=s1.toks) fun b o e=>Heap.get?_push_of_some _ e,b27 a _,⟨_,Heap.get?_push_size _ rfl,rfl,rfl⟩,fun b hb=>?_,q⟩
 have e:b=s1.heap.objs.size:=by simpa using hb
 subst e
 exact I1.fpOk (Nat.le_refl _) (I1.hok.fresh (Nat.le_refl _))
theorem bg2 {pins:List (Addr×Obj)}{σ:St} {H:Hp}{s:Shared}{R:It→Hp→Prop}{E:Value→Shared→Prop}{lo hi:Int}{t u v:Tok}{tk:Nat}(I:Inv X pins σ H s) (h1:-(2 ^ 62)≤lo) (h2:lo<2 ^ 62) (h3:-(2 ^ 62)≤hi) (h4:hi<2 ^ 62)
 (q:R (Itr lo (hi - lo).toNat) H):wpAny (model X.prog X.w) X.A (pyIter (.ref s.heap.objs.size)) (PIE X pins σ tg R) E { s with heap:=s.heap.push { cls:=.type "range",data:=.fields #[.int lo t,.int hi u,.int 1 v] },toks:=tk }:=by
 refine wpAny_pyIter_range (IsRange.new ..) (small_one h1 h2 h3 h4) ?_
 have I1:Inv X pins σ H { s with heap:=s.heap.push { cls:=.type "range",data:=.fields #[.int lo t,.int hi u,.int 1 v] },toks:=tk }:=I.kept fun b o e=>Heap.get?_push_of_some _ e
 refine ⟨(s.heap.push { cls:=.type "range",data:=.fields #[.int lo t,.int hi u,.int 1 v] }).objs.size,[(s.heap.push { cls:=.type "range",data:=.fields #[.int lo t,.int hi u,.int 1 v] }).objs.size],_,_,H,rfl,
  I1.kept (t':=tk) fun b o e=>Heap.get?_push_of_some _ e,b28 _ lo (hi - lo).toNat,?_,fun b hb=>?_,q⟩
 · have e1:lo+((0:Nat):Int)*1=lo:=by simp
   have e2:(((hi - lo).toNat:Nat):Int) - ((0:Nat):Int)=Builtin.Range.rangeSize lo hi 1:=by rw [rangeSize_one]; split <;> omega
   show IsRangeIter _ _ (lo+((0:Nat):Int)*1) ((((hi - lo).toNat:Nat):Int) - ((0:Nat):Int)) 1
   rw [e1,e2]
   exact Heap.get?_push_size _ rfl
 · have e:b=(s.heap.push { cls:=.type "range",data:=.fields #[.int lo t,.int hi u,.int 1 v] }).objs.size:=by simpa using hb
   subst e
   exact I1.fpOk (Nat.le_refl _) (I1.hok.fresh (Nat.le_refl _))
def c46 (ta:TA):TI:=fun σ H R=>ta σ H fun vs H1=>∃ j:Int,vs=[.int j]∧-(2 ^ 62)≤j∧j<2 ^ 62∧R (Itr 0 j.toNat) H1
theorem b61 {a:Expr}{ta:TA}{p pos:Pos}(hg:Gl X "range") (hm:X.mg "range"=none) (ha:PA X [a] ta) (hs:starEach [a] X.env=[(false,eval a X.env)]:=by rfl):PI X tg (.Call (.Name "range" p) [a] [] pos) (c46 ta):=by
 intro pins s σ H R I h
 refine Call_ (am0 I hg hm boot_range (PyProof.Rows.callWith_type1 (thn (ha pos pins s σ H _ I h) ?_) hs rfl))
 rintro us s1 ⟨vs,H1,I1,r1,q1⟩
 obtain ⟨j,e,q1,q2,q⟩:=q1
 subst e
 cases r1 with
 | cons r rr =>
   cases rr
   obtain ⟨t,rfl⟩:=r
   exact call_range_1 (bg2 I1 (by omega) (by omega) q1 q2 (by simpa using q))
def tFor (wi:TI) (g:TG) (tb:TS):TS:=fun D σ H=>wi σ H fun J H1=>∃ W:Nat→Nat→St→Hp→Prop,(∃ m,W 0 m σ H1)∧∀ i m σ H,W i m σ H →
 (J.stop i H∧D.nx σ H)∨(J.go i H∧∃ N:St→Hp→Prop,(∀ σ' H',N σ' H'→∃ m',m'<m∧W (i+1) m' σ' H')∧∀ x H',J.yld i H x H'→g x σ H' fun σ2 H2=>tb { D with nx:=N,ct:=N,bk:=D.nx } σ2 H2)
def ar4 (fp:List Addr) (h:Heap):List (Addr×Obj):=fp.filterMap fun b=>(h.get? b).map fun o=>(b,o)
theorem aa8 {fp:List Addr}{h:Heap}{b:Addr}{o:Obj}(hb:b∈fp) (e:h.get? b=some o):(b,o)∈ar4 fp h:=List.mem_filterMap.mpr ⟨b,hb,by rw [e]; rfl⟩
theorem b62 {fp:List Addr}{h:Heap}{p:Addr×Obj}(hp:p∈ar4 fp h):p.1∈fp∧h.get? p.1=some p.2:=by
 obtain ⟨b,hb,e⟩:=List.mem_filterMap.mp hp
 cases q:h.get? b with
 | none=>rw [q] at e; cases e
 | some o =>
   rw [q] at e
   have e':(b,o)=p:=Option.some.inj e
   subst e'
   exact ⟨hb,q⟩
theorem Inv.pinned {pins:List (Addr×Obj)}{σ:St} {H:Hp}{s:Shared}{fp:List Addr}(I:Inv X pins σ H s) (hf:∀ b∈fp,FpOk X pins H b) (ho:∀ b∈fp,∃ o,s.heap.get? b=some o∧∀ v,o.data≠.cell v):Inv X (pins++ar4 fp s.heap) σ H s :=
 I.pins_of fun p hp=>(List.mem_append.mp hp).elim (fun z=>I.pin p (List.mem_append_right _ z)) fun z=>by
  obtain ⟨hb,e⟩:=b62 z
  obtain ⟨f0,f1,f2,_⟩:=hf p.1 hb
  obtain ⟨o,e',d⟩:=ho p.1 hb
  rw [e] at e'; cases e'
  exact ⟨e,f0,f1,f2,d⟩
theorem Inv.unpinned {pins pl:List (Addr×Obj)}{σ:St} {H:Hp}{s:Shared}(I:Inv X (pins++pl) σ H s):Inv X pins σ H s:=I.pins_of fun p hp=>I.pin p (List.mem_append_right _ (List.mem_append_left _ hp))
theorem af7 {iter:Expr}{body:List Stmt}{wi:TI}{g:TG}{tb:TS}{pos:Pos}(hp:PassesOwn (model X.prog X.w) X.A X.env X.xe) (hc:X.calm=true) (hi:PI X tg iter wi) (hg:PG X tg g) (hb:PSs X body tb)
 (hs:∀ x,foldedSetIterable iter X.env x=pure x:=by intro _; rfl):PS X (.For tg iter body [] pos) (tFor wi g tb):=by
 intro pins s σ H D I h
 refine wpAny_For (thn (hi pins s σ H _ I h) fun v s1 h1=>thn h1 fun itv s2 h2=>?_) hs
 obtain ⟨it,fp,tn,J,H2,e,I2,T,st2,f2,W,⟨m0,w0⟩,turn⟩:=h2
 subst e
 have stat:∀ {H':Hp},(∀ b∈fp,H' b=none)→∀ b∈fp,FpOk X pins H' b:=fun hn b hb=>⟨hn b hb,(f2 b hb).2⟩
 refine codeAny_forLoop_any (fun n s'=>∃ i σ' H',Inv X pins σ' H' s'∧tn i s'.heap∧(∀ b∈fp,H' b=none)∧W i n σ' H') ?_ m0 ⟨0,σ,H2,I2,st2,fun b hb=>(f2 b hb).1,w0⟩
 rintro n s3 ⟨i,σ3,H3,I3,st3,fr3,w3⟩
 rcases turn i n σ3 H3 w3 with ⟨stop,qn⟩ | ⟨go,N,hN,step⟩
 · refine wpAny_passesOwn hp (thn (T.done X rfl rfl rfl hc i pins s3 σ3 H3 X.xe I3 (stat fr3) st3 stop) ?_)
   rintro r s4 ⟨hr,I4⟩
   subst hr
   exact wpAny_execs_nil ⟨σ3,H3,I4,qn⟩
 · refine wpAny_passesOwn hp (thn (T.item X rfl rfl rfl hc i pins s3 σ3 H3 X.xe I3 (stat fr3) st3 go) ?_)
   rintro r s4 ⟨u,hr,h4⟩
   subst hr
   refine wpAny_passesOwn hp (thn h4 ?_)
   rintro _ s5 ⟨x,H5,I5,r5,y5,st5,fr5⟩
   have I5':=I5.pinned (stat fr5) (T.obj _ _ st5)
   refine wpAny_passesOwn hp (thn (hg _ s5 σ3 H5 x u _ I5' r5 (step x H5 y5)) ?_)
   rintro _ s6 ⟨σ6,H6,I6,q6⟩
   refine wpAny_passesOwn hp (thn (hb _ s6 σ6 H6 _ I6 q6) fun f s7 q7=>?_)
   have again:∀ {σ7:St} {H7:Hp},Inv X (pins++ar4 fp s5.heap) σ7 H7 s7→N σ7 H7→∃ m,m<n∧∃ i σ' H',Inv X pins σ' H' s7∧tn i s7.heap∧(∀ b∈fp,H' b=none)∧W i m σ' H':=fun {σ7 H7} I7 n7=>by
    obtain ⟨m',hm,w7⟩:=hN σ7 H7 n7
    refine ⟨m',hm,i+1,σ7,H7,I7.unpinned,T.keep _ _ _ st5 fun b hb o e=>(I7.pin (b,o) (List.mem_append_right _ (List.mem_append_right _ (aa8 hb e)))).1,fun b hb=>?_,w7⟩
    obtain ⟨o,e,d⟩:=T.obj _ _ st5 b hb
    exact (I7.pin (b,o) (List.mem_append_right _ (List.mem_append_right _ (aa8 hb e)))).2.1
   cases f with
   | next=>obtain ⟨σ7,H7,I7,n7⟩:=q7; exact again I7 n7
   | cont=>obtain ⟨σ7,H7,I7,n7⟩:=q7; exact again I7 n7
   | brk=>obtain ⟨σ7,H7,I7,q7⟩:=q7; exact ⟨σ7,H7,I7.unpinned,q7⟩
   | ret v=>obtain ⟨x7,σ7,H7,I7,r7,q7⟩:=q7; exact ⟨x7,σ7,H7,I7.unpinned,r7,q7⟩
end
theorem ad0 {K:PySem.W.Frag}{a:Addr}{xs:List V}{g:TG}{tb:TS}{D:Ends}{σ:St} {H:Hp}(Pv:Nat→St→Hp→Prop) (h0:Pv 0 σ H) (hl:∀ i σ H,i≤xs.length→Pv i σ H→SqL K H a xs)
 (hs:∀ i x σ H,xs[i]?=some x→Pv i σ H→g x σ H fun σ2 H2=>tb { D with nx:=Pv (i+1),ct:=Pv (i+1),bk:=D.nx } σ2 H2) (hd:∀ σ H,Pv xs.length σ H→D.nx σ H) :
 ∃ W:Nat→Nat→St→Hp→Prop,(∃ m,W 0 m σ H)∧∀ i m σ H,W i m σ H →
  ((Itl K a).stop i H∧D.nx σ H)∨((Itl K a).go i H∧∃ N:St→Hp→Prop,(∀ σ' H',N σ' H'→∃ m',m'<m∧W (i+1) m' σ' H')∧∀ x H',(Itl K a).yld i H x H'→g x σ H' fun σ2 H2=>tb { D with nx:=N,ct:=N,bk:=D.nx } σ2 H2):=by
 refine ⟨fun i m σ H=>m=xs.length - i∧i≤xs.length∧Pv i σ H,⟨xs.length,by simp,Nat.zero_le _,h0⟩,?_⟩
 rintro i m σ H ⟨rfl,hi,p⟩
 have q:=hl i σ H hi p
 by_cases hlt:i<xs.length
 · refine .inr ⟨⟨xs,xs[i],q,by simp [hlt]⟩,Pv (i+1),fun σ' H' p'=>⟨xs.length - (i+1),by omega,rfl,hlt,p'⟩,fun x H' y=>?_⟩
   obtain ⟨e,y⟩:=y
   subst e
   exact hs i x σ _ (y xs q) p
 · have e:i=xs.length:=by omega
   subst e
   exact .inl ⟨⟨xs,q,Nat.le_refl _⟩,hd σ H p⟩
theorem bs8 {K:PySem.W.Frag}{a:Addr}{xs:List V}{g:TG}{tb:TS}{D:Ends}{σ:St} {H:Hp}(Pv:Nat→St→Hp→Prop) (h0:Pv 0 σ H) (hl:∀ i σ H,i≤xs.length→Pv i σ H→SqT K H a xs)
 (hs:∀ i x σ H,xs[i]?=some x→Pv i σ H→g x σ H fun σ2 H2=>tb { D with nx:=Pv (i+1),ct:=Pv (i+1),bk:=D.nx } σ2 H2) (hd:∀ σ H,Pv xs.length σ H→D.nx σ H) :
 ∃ W:Nat→Nat→St→Hp→Prop,(∃ m,W 0 m σ H)∧∀ i m σ H,W i m σ H →
  ((Itt K a).stop i H∧D.nx σ H)∨((Itt K a).go i H∧∃ N:St→Hp→Prop,(∀ σ' H',N σ' H'→∃ m',m'<m∧W (i+1) m' σ' H')∧∀ x H',(Itt K a).yld i H x H'→g x σ H' fun σ2 H2=>tb { D with nx:=N,ct:=N,bk:=D.nx } σ2 H2):=by
 refine ⟨fun i m σ H=>m=xs.length - i∧i≤xs.length∧Pv i σ H,⟨xs.length,by simp,Nat.zero_le _,h0⟩,?_⟩
 rintro i m σ H ⟨rfl,hi,p⟩
 have q:=hl i σ H hi p
 by_cases hlt:i<xs.length
 · refine .inr ⟨⟨xs,xs[i],q,by simp [hlt]⟩,Pv (i+1),fun σ' H' p'=>⟨xs.length - (i+1),by omega,rfl,hlt,p'⟩,fun x H' y=>?_⟩
   obtain ⟨e,y⟩:=y
   subst e
   exact hs i x σ _ (y xs q) p
 · have e:i=xs.length:=by omega
   subst e
   exact .inl ⟨⟨xs,q,Nat.le_refl _⟩,hd σ H p⟩
abbrev R2:=V→V→Hp→VK→Prop
def OpR (X:Cx) (f:Value→Value→Sem Value) (r:R2):Prop :=
 ∀ (pins:List (Addr×Obj)) (s:Shared) (σ:St) (H:Hp) (x y:V) (v u:Value) (Q:VK),Inv X pins σ H s→RelV x v→RelV y u→r x y H Q →
  wpAny (model X.prog X.w) X.A (f v u) (EP X pins σ Q) X.xe s
def UnR (X:Cx) (f:Value→Sem Value) (r:V→Hp→VK→Prop):Prop :=
 ∀ (pins:List (Addr×Obj)) (s:Shared) (σ:St) (H:Hp) (x:V) (v:Value) (Q:VK),Inv X pins σ H s→RelV x v→r x H Q →
  wpAny (model X.prog X.w) X.A (f v) (EP X pins σ Q) X.xe s
def CallR (X:Cx) (f:Value) (r:List V→Hp→VK→Prop):Prop :=
 ∀ (pins:List (Addr×Obj)) (s:Shared) (σ:St) (H:Hp) (xs:List V) (us:List Value) (Q:VK),Inv X pins σ H s→Vals xs us→r xs H Q →
  wpAny (model X.prog X.w) X.A (call f us) (EP X pins σ Q) X.xe s
def TruR (X:Cx) (r:V→Hp→(Bool→Hp→Prop)→Prop):Prop :=
 ∀ (pins:List (Addr×Obj)) (s:Shared) (σ:St) (H:Hp) (x:V) (v:Value) (Q:Bool→Hp→Prop),Inv X pins σ H s→RelV x v→r x H Q →
  wpAny (model X.prog X.w) X.A (truthy v) (TP X pins σ Q) X.xe s
def tOp (r:R2) (ta tb:TE):TE:=fun σ H Q=>ta σ H fun x H1=>tb σ H1 fun y H2=>r x y H2 Q
def tUn (r:V→Hp→VK→Prop) (ta:TE):TE:=fun σ H Q=>ta σ H fun x H1=>r x H1 Q
def rI (C:Int→Int→Prop) (g:Int→Int→V):R2:=fun x y H Q=>∃ i j,x=.int i∧y=.int j∧C i j∧Q (g i j) H
def rI0 (g:Int→Int→V):R2:=fun x y H Q=>∃ i j,x=.int i∧y=.int j∧Q (g i j) H
def rU (g:Int→V):V→Hp→VK→Prop:=fun x H Q=>∃ i,x=.int i∧Q (g i) H
section
variable {X:Cx}{a b c:Expr}{ta tb tc:TE}{pos:Pos}
theorem binT (ha:PE X a ta) (hb:PE X b tb) {pins:List (Addr×Obj)}{s:Shared}{σ:St} {H:Hp}{R:V→V→Hp→Prop}(I:Inv X pins σ H s)
 (h:ta σ H fun x H1=>tb σ H1 fun y H2=>R x y H2) {Q:Value→Shared→Prop}{f:Value→Value→Sem Value}
 (hf:∀ v u s2 x y H2,Inv X pins σ H2 s2→RelV x v→RelV y u→R x y H2→wpAny (model X.prog X.w) X.A (f v u) Q X.xe s2) :
 wpAny (model X.prog X.w) X.A (eval a X.env) (fun v s₁=>wpAny (model X.prog X.w) X.A (eval b X.env) (fun u s₂=>wpAny (model X.prog X.w) X.A (f v u) Q X.xe s₂) X.xe s₁) X.xe s:=by
 refine thn (ha pins s σ H _ I h) ?_
 rintro v s1 ⟨x,H1,I1,r1,q1⟩
 refine thn (hb pins s1 σ H1 _ I1 q1) ?_
 rintro u s2 ⟨y,H2,I2,r2,q2⟩
 exact hf v u s2 x y H2 I2 r1 r2 q2
theorem a45 {op:Operator}{r:R2}(ho:OpR X (binaryOp op) r) (ha:PE X a ta) (hb:PE X b tb):PE X (.BinOp a op b pos) (tOp r ta tb):=by
 intro pins s σ H Q I h
 exact wpAny_BinOp (binT ha hb I h fun v u s2 x y H2 I2 rx ry q=>ho pins s2 σ H2 x y v u Q I2 rx ry q)
theorem ar5 {op:UnaryOp}{r:V→Hp→VK→Prop}(ho:UnR X (unaryOp op) r) (ha:PE X a ta):PE X (.UnaryOp op a pos) (tUn r ta):=by
 intro pins s σ H Q I h
 exact UnaryOp_ (thn (ha pins s σ H _ I h) (by rintro v s1 ⟨x,H1,I1,r1,q1⟩; exact ho pins s1 σ H1 x v Q I1 r1 q1))
theorem opI {f:Value→Value→Sem Value}{C:Int→Int→Prop}{g:Int→Int→Int}
 (rule:∀ (i j:Int) (t u:Tok) (s:Shared) (Q:Value→Shared→Prop) (E:Value→Shared→Prop),C i j→Q (.int (g i j) s.toks) { s with toks:=s.toks+1 }→wpAny (model X.prog X.w) X.A (f (.int i t) (.int j u)) Q E s) :
 OpR X f (rI C fun i j=>.int (g i j)):=by
 intro pins s σ H x y v u Q I rx ry h
 obtain ⟨i,j,rfl,rfl,hc,q⟩:=h
 obtain ⟨t,rfl⟩:=rx
 obtain ⟨t',rfl⟩:=ry
 exact rule i j t t' s _ _ hc ⟨.int (g i j),H,I.tok _,⟨_,rfl⟩,q⟩
theorem opI0 {f:Value→Value→Sem Value}{g:Int→Int→Int}
 (rule:∀ (i j:Int) (t u:Tok) (s:Shared) (Q:Value→Shared→Prop) (E:Value→Shared→Prop),Q (.int (g i j) s.toks) { s with toks:=s.toks+1 }→wpAny (model X.prog X.w) X.A (f (.int i t) (.int j u)) Q E s) :
 OpR X f (rI0 fun i j=>.int (g i j)):=by
 intro pins s σ H x y v u Q I rx ry h
 obtain ⟨i,j,rfl,rfl,q⟩:=h
 obtain ⟨t,rfl⟩:=rx
 obtain ⟨t',rfl⟩:=ry
 exact rule i j t t' s _ _ ⟨.int (g i j),H,I.tok _,⟨_,rfl⟩,q⟩
theorem opB0 {f:Value→Value→Sem Value}{g:Int→Int→Bool}
 (rule:∀ (i j:Int) (t u:Tok) (s:Shared) (Q:Value→Shared→Prop) (E:Value→Shared→Prop),Q (.bool (g i j)) s→wpAny (model X.prog X.w) X.A (f (.int i t) (.int j u)) Q E s) :
 OpR X f (rI0 fun i j=>.bl (g i j)):=by
 intro pins s σ H x y v u Q I rx ry h
 obtain ⟨i,j,rfl,rfl,q⟩:=h
 obtain ⟨t,rfl⟩:=rx
 obtain ⟨t',rfl⟩:=ry
 exact rule i j t t' s _ _ ⟨.bl (g i j),H,I,rfl,q⟩
def CDiv (i j:Int):Prop:=0<j∧j<1073741824
def CPow (i j:Int):Prop:=0≤j∧j≤1000000∧i.natAbs<2 ^ 64
def CMul (i j:Int):Prop:=(-(2 ^ 64)<i∧i<2 ^ 64)∨(-(2 ^ 64)<j∧j<2 ^ 64)
theorem CMul.ok {i j:Int}(h:CMul i j):IntMulOk i j:=by
 rcases h with ⟨h1,h2⟩ | ⟨h1,h2⟩
 · exact .of_left (intBits_le_64 h1 h2)
 · exact .of_right (intBits_le_64 h1 h2)
theorem c47:OpR X (binaryOp .Add) (rI0 fun i j=>.int (i+j)):=opI0 fun _ _ _ _ _ _ _ q=>add_int q
theorem ar6:OpR X (binaryOp .Sub) (rI0 fun i j=>.int (i - j)):=opI0 fun _ _ _ _ _ _ _ q=>sub_int q
theorem ao4:OpR X (binaryOp .FloorDiv) (rI CDiv fun i j=>.int (i / j)):=opI fun i j _ _ _ _ _ hc q=>by
 have h1:(0:Int)<j:=hc.1
 have h2:j<1073741824:=hc.2
 exact floordiv_int (by omega) (by rw [Int.fdiv_eq_ediv_of_nonneg i (by omega)]; exact q) (.inl (PyProof.noPylong_small (by omega)))
theorem a98:OpR X (binaryOp .Mod) (rI (fun _ j=>0<j) fun i j=>.int (i % j)):=opI fun i j _ _ _ _ _ hc q=>by
 have h1:(0:Int)<j:=hc
 exact mod_int' (by omega) (by rw [Int.fmod_eq_emod_of_nonneg i (by omega)]; exact q)
theorem c48:OpR X (binaryOp .Pow) (rI CPow fun i j=>.int (i ^ j.toNat)):=opI fun _ _ _ _ _ _ _ hc q=>pow_int_small hc.1 hc.2.1 hc.2.2 q
theorem unI {f:Value→Sem Value}{g:Int→Int}
 (rule:∀ (i:Int) (t:Tok) (s:Shared) (Q:Value→Shared→Prop) (E:Value→Shared→Prop),Q (.int (g i) s.toks) { s with toks:=s.toks+1 }→wpAny (model X.prog X.w) X.A (f (.int i t)) Q E s) :
 UnR X f (rU fun i=>.int (g i)):=by
 intro pins s σ H x v Q I rx h
 obtain ⟨i,rfl,q⟩:=h
 obtain ⟨t,rfl⟩:=rx
 exact rule i t s _ _ ⟨.int (g i),H,I.tok _,⟨_,rfl⟩,q⟩
theorem af8:UnR X (unaryOp .USub) (rU fun i=>.int (-i)):=unI fun _ _ _ _ _ q=>neg_int q
end
def scal:V→V→Bool
 | .non,.non=>true | .non,.int _=>true | .int _,.non=>true | .non,.bl _=>true | .bl _,.non=>true | .non,.str _=>true | .str _,.non=>true
 | .int _,.int _=>true | .bl _,.bl _=>true | .str _,.str _=>true | .byt _,.byt _=>true
 | .int _,.str _=>true | .str _,.int _=>true | .bl _,.str _=>true | .str _,.bl _=>true
 | _,_=>false
def rEq:R2:=fun x y H Q=>scal x y=true∧Q (.bl (decide (x=y))) H
def rNe:R2:=fun x y H Q=>scal x y=true∧Q (.bl (!decide (x=y))) H
theorem b63 {i j:Int}:decide (V.int i=V.int j)=(i == j):=by
 rw [Bool.eq_iff_iff]
 simp
theorem bo2 {i j:Bool}:decide (V.bl i=V.bl j)=(i == j):=by
 rw [Bool.eq_iff_iff]
 simp
theorem b64 {i j:Str}:decide (V.str i=V.str j)=(i == j):=by
 rw [Bool.eq_iff_iff]
 simp
theorem b65 {i j:Array UInt8}:decide (V.byt i=V.byt j)=(i.toList == j.toList):=by
 rw [Bool.eq_iff_iff]
 cases i
 cases j
 simp
section
variable {X:Cx}{a b c:Expr}{ta tb tc:TE}{pos:Pos}
theorem a35 {pins:List (Addr×Obj)}{σ:St} {H:Hp}{s:Shared}{Q:VK}{k k':Bool}(I:Inv X pins σ H s) (q:Q (.bl k) H) (e:k=k'):EP X pins σ Q (.bool k') s:=by
 subst e
 exact ⟨.bl k,H,I,rfl,q⟩
theorem a60:OpR X (compareOp .Eq) rEq:=by
 intro pins s σ H x y v u Q I rx ry h
 obtain ⟨hs,q⟩:=h
 cases x with
 | non =>
   cases rx
   cases y with
   | non=>cases ry; exact PySem.EqNone.eq_none_none (a35 I q (by simp))
   | bl j=>cases ry; exact PySem.EqNone.eq_none_bool (a35 I q (by simp))
   | int j=>obtain ⟨t',rfl⟩:=ry; exact PySem.EqNone.eq_none_int (a35 I q (by simp))
   | str j=>obtain ⟨t',rfl⟩:=ry; exact PySem.EqNone.eq_none_str (a35 I q (by simp))
   | _=>exact absurd (show false=true from hs) Bool.false_ne_true
 | bl i =>
   cases rx
   cases y with
   | non=>cases ry; exact PySem.EqNone.eq_bool_none (a35 I q (by simp))
   | bl j=>cases ry; exact eq_bool (a35 I q bo2)
   | str j=>obtain ⟨t',rfl⟩:=ry; exact PySem.EqMixed.eq_bool_str (a35 I q (by simp))
   | _=>exact absurd (show false=true from hs) Bool.false_ne_true
 | int i =>
   obtain ⟨t,rfl⟩:=rx
   cases y with
   | non=>cases ry; exact PySem.EqNone.eq_int_none (a35 I q (by simp))
   | int j=>obtain ⟨t',rfl⟩:=ry; exact eq_int (a35 I q b63)
   | str j=>obtain ⟨t',rfl⟩:=ry; exact PySem.EqMixed.eq_int_str (a35 I q (by simp))
   | _=>exact absurd (show false=true from hs) Bool.false_ne_true
 | str i =>
   obtain ⟨t,rfl⟩:=rx
   cases y with
   | non=>cases ry; exact PySem.EqNone.eq_str_none (a35 I q (by simp))
   | bl j=>cases ry; exact PySem.EqMixed.eq_str_bool (a35 I q (by simp))
   | int j=>obtain ⟨t',rfl⟩:=ry; exact PySem.EqMixed.eq_str_int (a35 I q (by simp))
   | str j=>obtain ⟨t',rfl⟩:=ry; exact eq_str (a35 I q b64)
   | _=>exact absurd (show false=true from hs) Bool.false_ne_true
 | byt i =>
   obtain ⟨t,rfl⟩:=rx
   cases y with
   | byt j=>obtain ⟨t',rfl⟩:=ry; exact PySem.W.eq_bytes (a35 I q b65)
   | _=>exact absurd (show false=true from hs) Bool.false_ne_true
 | _=>cases y <;> exact absurd (show false=true from hs) Bool.false_ne_true
theorem b29:OpR X (compareOp .NotEq) rNe:=by
 intro pins s σ H x y v u Q I rx ry h
 obtain ⟨hs,q⟩:=h
 cases x with
 | non =>
   cases rx
   cases y with
   | non=>cases ry; exact PySem.EqNone.ne_none_none (a35 I q (by simp))
   | bl j=>cases ry; exact PySem.EqNone.ne_none_bool (a35 I q (by simp))
   | int j=>obtain ⟨t',rfl⟩:=ry; exact PySem.EqNone.ne_none_int (a35 I q (by simp))
   | str j=>obtain ⟨t',rfl⟩:=ry; exact PySem.EqNone.ne_none_str (a35 I q (by simp))
   | _=>exact absurd (show false=true from hs) Bool.false_ne_true
 | bl i =>
   cases rx
   cases y with
   | non=>cases ry; exact PySem.EqNone.ne_bool_none (a35 I q (by simp))
   | bl j=>cases ry; exact ne_bool (a35 I q (congrArg not bo2))
   | str j=>obtain ⟨t',rfl⟩:=ry; exact PySem.EqMixed.ne_bool_str (a35 I q (by simp))
   | _=>exact absurd (show false=true from hs) Bool.false_ne_true
 | int i =>
   obtain ⟨t,rfl⟩:=rx
   cases y with
   | non=>cases ry; exact PySem.EqNone.ne_int_none (a35 I q (by simp))
   | int j=>obtain ⟨t',rfl⟩:=ry; exact ne_int (a35 I q (congrArg not b63))
   | str j=>obtain ⟨t',rfl⟩:=ry; exact PySem.EqMixed.ne_int_str (a35 I q (by simp))
   | _=>exact absurd (show false=true from hs) Bool.false_ne_true
 | str i =>
   obtain ⟨t,rfl⟩:=rx
   cases y with
   | non=>cases ry; exact PySem.EqNone.ne_str_none (a35 I q (by simp))
   | bl j=>cases ry; exact PySem.EqMixed.ne_str_bool (a35 I q (by simp))
   | int j=>obtain ⟨t',rfl⟩:=ry; exact PySem.EqMixed.ne_str_int (a35 I q (by simp))
   | str j=>obtain ⟨t',rfl⟩:=ry; exact ne_str (a35 I q (congrArg not b64))
   | _=>exact absurd (show false=true from hs) Bool.false_ne_true
 | byt i =>
   obtain ⟨t,rfl⟩:=rx
   cases y with
   | byt j=>obtain ⟨t',rfl⟩:=ry; exact PySem.W.ne_bytes (a35 I q (congrArg not b65))
   | _=>exact absurd (show false=true from hs) Bool.false_ne_true
 | _=>cases y <;> exact absurd (show false=true from hs) Bool.false_ne_true
theorem bg3:OpR X (compareOp .Lt) (rI0 fun i j=>.bl (decide (i<j))):=opB0 fun _ _ _ _ _ _ _ q=>lt_int q
theorem cg6:OpR X (compareOp .LtE) (rI0 fun i j=>.bl (decide (i≤j))):=opB0 fun _ _ _ _ _ _ _ q=>le_int q
theorem bg4:OpR X (compareOp .Gt) (rI0 fun i j=>.bl (decide (j<i))):=opB0 fun _ _ _ _ _ _ _ q=>gt_int q
theorem c49:OpR X (compareOp .Is) (fun x y H Q=>y=.non∧Q (.bl (decide (x=.non))) H):=by
 intro pins s σ H x y v u Q I rx ry h
 obtain ⟨rfl,q⟩:=h
 cases ry
 refine is_none_gen (a35 I q ?_)
 cases x <;> first
  | (cases rx; rfl)
  | (obtain ⟨t,rfl⟩:=rx; rfl)
theorem bs9:OpR X (compareOp .IsNot) (fun x y H Q=>y=.non∧Q (.bl (!decide (x=.non))) H):=by
 intro pins s σ H x y v u Q I rx ry h
 obtain ⟨rfl,q⟩:=h
 cases ry
 refine isnot_none_gen (a35 I q ?_)
 cases x <;> first
  | (cases rx; rfl)
  | (obtain ⟨t,rfl⟩:=rx; rfl)
theorem nomark (b:Expr) {op:CmpOp}(h:op≠.In:=by decide) (h2:op≠.NotIn:=by decide):behindInMarks op b=false:=by
 have e1:(op == CmpOp.In)=false:=by cases op <;> first | rfl | exact absurd rfl h
 have e2:(op == CmpOp.NotIn)=false:=by cases op <;> first | rfl | exact absurd rfl h2
 cases b <;> simp [behindInMarks,e1,e2]
theorem a86 {op:CmpOp}{r:R2}(ho:OpR X (compareOp op) r) (ha:PE X a ta) (hb:PE X b tb) (hm:behindInMarks op b=false):PE X (.Compare a [op] [b] pos) (tOp r ta tb):=by
 intro pins s σ H Q I h
 exact wpAny_Compare1 (binT ha hb I h fun v u s2 x y H2 I2 rx ry q=>ho pins s2 σ H2 x y v u Q I2 rx ry q) hm
def bt0 (t:TE):TT:=fun σ H Q=>t σ H fun x H'=>∃ k,x=.bl k∧Q k H'
theorem a09 {op:CmpOp}{r:R2}(ho:OpR X (compareOp op) r) (ha:PE X a ta) (hb:PE X b tb) (hm:behindInMarks op b=false):PT X (.Compare a [op] [b] pos) (bt0 (tOp r ta tb)):=by
 intro pins s σ H Q I h
 refine wpAny_isTrue_Compare1 (thn (ha pins s σ H _ I h) fun v s1 ⟨x,H1,I1,r1,q1⟩=>thn (hb pins s1 σ H1 _ I1 q1) fun u s2 ⟨y,H2,I2,r2,q2⟩ =>
  thn (ho pins s2 σ H2 x y v u _ I2 r1 r2 q2) fun c s3 ⟨z,H3,I3,r3,k,e,q3⟩=>?_) hm
 subst e
 cases r3
 exact wpAny_truthy_bool ⟨H3,I3,q3⟩
def bo3 (r r':R2) (ta tb tc:TE):TE:=fun σ H Q=>ta σ H fun x H1=>tb σ H1 fun y H2=>r x y H2 fun z H3=>∃ k,z=.bl k ∧
 (if k=true then tc σ H3 fun w' H4=>r' y w' H4 Q else Q (.bl false) H3)
theorem bg5 {op op':CmpOp}{r r':R2}(ho:OpR X (compareOp op) r) (ho':OpR X (compareOp op') r') (ha:PE X a ta) (hb:PE X b tb) (hc:PE X c tc)
 (hm:lastMarks [op,op'] [b,c]=false:=by with_unfolding_all rfl):PT X (.Compare a [op,op'] [b,c] pos) (bt0 (bo3 r r' ta tb tc)):=by
 intro pins s σ H Q I h
 refine isTrue_chain (thn (ha pins s σ H _ I h) fun v s1 ⟨x,H1,I1,r1,q1⟩=>test_link (thn (hb pins s1 σ H1 _ I1 q1) fun u s2 ⟨y,H2,I2,r2,q2⟩ =>
  thn (ho pins s2 σ H2 x y v u _ I2 r1 r2 q2) fun d s3 ⟨z,H3,I3,r3,k,e,q3⟩=>?_)) hm
 subst e
 cases r3
 refine wpAny_truthy_bool ?_
 cases k with
 | false =>
   obtain ⟨k',e',q'⟩:=q3
   cases e'
   exact ite_ff ⟨H3,I3,q'⟩
 | true =>
   refine ite_tt (test_last (thn (hc pins s3 σ H3 _ I3 q3) ?_))
   rintro w' s4 ⟨z',H4,I4,r4,q4⟩
   refine thn (ho' pins s4 σ H4 y z' u w' _ I4 r2 r4 q4) ?_
   rintro d' s5 ⟨z2,H5,I5,r5,k2,e2,q5⟩
   subst e2
   cases r5
   exact wpAny_truthy_bool ⟨H5,I5,q5⟩
def TruV (K:PySem.W.Frag) (x:V) (H:Hp) (k:Bool):Prop :=
 match x with
 | .non=>k=false
 | .bl b=>k=b
 | .int i=>k=(i != 0)
 | .str y=>y.length≤sizeLine∧k=((y.length:Int) != 0)
 | .byt y=>y.size≤sizeLine∧k=((y.size:Int) != 0)
 | .ref p=>(∃ xs,SqL K H p xs∧k=!xs.isEmpty)∨(∃ xs,SqT K H p xs∧k=!xs.isEmpty)∨∃ kvs,H p=some (.dK kvs)∧k=!kvs.isEmpty
 | _=>False
theorem b30 {κ:Type} {kvs:List (κ×V)}{vs:List (κ×Value)}(r:KV kvs vs):(!vs.isEmpty)=!kvs.isEmpty:=by
 cases r <;> rfl
theorem am1 {xs:List V}{its:List Value}(r:Vals xs its):(!its.toArray.isEmpty)=!xs.isEmpty:=by
 cases r <;> simp
theorem am2:(sizeLine:Nat)<2 ^ 63:=by rw [sizeLine_eq]; decide
theorem c50:TruR X (fun x H Q=>∃ k,TruV X.K x H k∧Q k H):=by
 intro pins s σ H x v Q I rx h
 obtain ⟨k,e,q⟩:=h
 have hl:=am2
 have hs:sizeLine=16777216:=sizeLine_eq
 cases x with
 | non =>
   cases rx
   have e':k=false:=e
   subst e'
   exact truthy_none ⟨H,I,q⟩
 | bl b =>
   cases rx
   have e':k=b:=e
   subst e'
   exact wpAny_truthy_bool ⟨H,I,q⟩
 | int i =>
   obtain ⟨t,rfl⟩:=rx
   have e':k=(i != 0):=e
   subst e'
   exact PySem.P.truthy_int ⟨H,I,q⟩
 | str y =>
   obtain ⟨t,rfl⟩:=rx
   obtain ⟨hy,e'⟩:y.length≤sizeLine∧k=((y.length:Int) != 0):=e
   subst e'
   exact PySem.P.truthy_str (by omega) ⟨H,I.tok _,q⟩
 | byt y =>
   obtain ⟨t,rfl⟩:=rx
   obtain ⟨hy,e'⟩:y.size≤sizeLine∧k=((y.size:Int) != 0):=e
   subst e'
   exact PySem.W.truthy_bytes (by omega) ⟨H,I.tok _,q⟩
 | ref p =>
   cases rx
   have e':(∃ xs,SqL X.K H p xs∧k=!xs.isEmpty)∨(∃ xs,SqT X.K H p xs∧k=!xs.isEmpty)∨∃ kvs,H p=some (.dK kvs)∧k=!kvs.isEmpty:=e
   rcases e' with ⟨xs,hx,e'⟩ | ⟨xs,hx,e'⟩ | ⟨kvs,hx,e'⟩
   · subst e'
     obtain ⟨its,r,pl,hz⟩:=I.list hx
     have hlen:=r.length
     exact wpAny_truthy_list pl.isList (by simp only [List.size_toArray]; omega) ⟨H,I.tok _,by rw [am1 r]; exact q⟩
   · subst e'
     obtain ⟨its,r,pl,hz⟩:=I.tuple hx
     have hlen:=r.length
     exact truthy_tuple pl (by simp only [List.size_toArray]; omega) ⟨H,I.tok _,by rw [am1 r]; exact q⟩
   · subst e'
     obtain ⟨hz,hS,vs,r,m⟩:kvs.length≤sizeLine∧(p == sysModules)=false∧∃ vs,KV kvs vs∧s.heap.DictOf (a59 X.prog X.w) p vs:=I.hok p _ hx
     have hlen:kvs.length=vs.length:=Paired.length r
     exact wpAny_truthy_dict hS m (by omega) ⟨H,I.tok _,by rw [b30 r]; exact q⟩
 | _=>exact (show False from e).elim
theorem bg6 (ha:PE X a ta) (he:∀ whole,isTrue a X.env whole=(do let v←whole; standAt a.pos; holding [v] (truthy v))) :
 PT X a (fun σ H Q=>ta σ H fun x H'=>∃ k,TruV X.K x H' k∧Q k H'):=by
 intro pins s σ H Q I h
 exact isTrue_plain (thn (ha pins s σ H _ I h) (by rintro v s1 ⟨x,H1,I1,r1,q1⟩; exact c50 pins s1 σ H1 x v Q I1 r1 q1)) (he _)
theorem b31:OpR X (binaryOp .Add) (fun x y H Q=>∃ i j,x=.str i∧y=.str j∧i.length+j.length≤sizeLine∧Q (.str (i++j)) H):=by
 intro pins s σ H x y v u Q I rx ry h
 obtain ⟨i,j,rfl,rfl,hz,q⟩:=h
 obtain ⟨t,rfl⟩:=rx
 obtain ⟨t',rfl⟩:=ry
 exact add_str (fun t' tk=>⟨.str (i++j),H,I.tok _,⟨_,rfl⟩,q⟩) hz
theorem ao5 {x:V}{us:List Value}(r:Vals [x] us):∃ u,us=[u]∧RelV x u:=by
 cases r with
 | cons r1 r2=>cases r2; exact ⟨_,rfl,r1⟩
theorem vals2 {x y:V}{us:List Value}(r:Vals [x,y] us):∃ u w',us=[u,w']∧RelV x u∧RelV y w':=by
 cases r with
 | cons r1 r2 =>
   cases r2 with
   | cons r3 r4=>cases r4; exact ⟨_,_,rfl,r1,r3⟩
theorem b66:CallR X (.type "int") (fun xs H Q=>(∃ i,xs=[.int i]∧Q (.int i) H)∨∃ k,xs=[.bl k]∧Q (.int (if k then 1 else 0)) H):=by
 intro pins s σ H xs us Q I r h
 rcases h with ⟨i,rfl,q⟩ | ⟨k,rfl,q⟩
 · obtain ⟨u,rfl,t,rfl⟩:=ao5 r
   exact call_int_int ⟨.int i,H,I,⟨_,rfl⟩,q⟩
 · obtain ⟨u,rfl,r1⟩:=ao5 r
   cases r1
   exact call_int_bool ⟨.int (if k then 1 else 0),H,I.tok _,⟨_,rfl⟩,q⟩
theorem ar7:CallR X (.type "str") (fun xs H Q=>∃ i,xs=[.int i]∧i.natAbs.log2<1920∧Q (.str (toString i)) H):=by
 intro pins s σ H xs us Q I r h
 obtain ⟨i,rfl,hz,q⟩:=h
 obtain ⟨u,rfl,t,rfl⟩:=ao5 r
 exact PySem.P.str_of_int hz ⟨.str _,H,I.tok _,⟨_,rfl⟩,q⟩
def LenV (K:PySem.W.Frag) (x:V) (H:Hp) (n:Nat):Prop :=
 match x with
 | .str y=>y.length≤sizeLine∧n=y.length
 | .byt y=>y.size≤sizeLine∧n=y.size
 | .ref p=>(∃ xs,SqL K H p xs∧n=xs.length)∨∃ xs,SqT K H p xs∧n=xs.length
 | _=>False
theorem bg7:CallR X (.builtin "len") (fun xs H Q=>∃ x n,xs=[x]∧LenV X.K x H n∧Q (.int n) H):=by
 intro pins s σ H xs us Q I r h
 obtain ⟨x,n,rfl,e,q⟩:=h
 obtain ⟨u,rfl,rx⟩:=ao5 r
 have hl:=am2
 have hs:sizeLine=16777216:=sizeLine_eq
 cases x with
 | str y =>
   obtain ⟨t,rfl⟩:=rx
   obtain ⟨hy,e'⟩:y.length≤sizeLine∧n=y.length:=e
   subst e'
   exact len_str (by omega) ⟨.int _,H,I.tok _,⟨_,rfl⟩,q⟩
 | byt y =>
   obtain ⟨t,rfl⟩:=rx
   obtain ⟨hy,e'⟩:y.size≤sizeLine∧n=y.size:=e
   subst e'
   exact PySem.W.len_bytes (by omega) ⟨.int _,H,I.tok _,⟨_,rfl⟩,q⟩
 | ref p =>
   cases rx
   have e':(∃ xs,SqL X.K H p xs∧n=xs.length)∨∃ xs,SqT X.K H p xs∧n=xs.length:=e
   rcases e' with ⟨xs,hx,e'⟩ | ⟨xs,hx,e'⟩
   · subst e'
     obtain ⟨its,r',pl,hz⟩:=I.list hx
     have hlen:=r'.length
     exact Calls.call_len_list pl.isList (by simp only [List.size_toArray]; omega) ⟨.int xs.length,H,I.tok _,⟨_,by simp only [List.size_toArray]; rw [hlen]⟩,q⟩
   · subst e'
     obtain ⟨its,r',pl,hz⟩:=I.tuple hx
     have hlen:=r'.length
     exact len_tuple pl (by simp only [List.size_toArray]; omega) ⟨.int xs.length,H,I.tok _,⟨_,by simp only [List.size_toArray]; rw [hlen]⟩,q⟩
 | _=>exact (show False from e).elim
end
structure ObjM (h:Heap) (x dx C:Addr) (mA:Str→Option Value):Prop where
 obj:h.get? x=some (PySem.W.instObj C dx)
 ns:h.Ns1 dx mA
 ne:dx≠x
theorem b67 {h:Heap}{dx:Addr}{mA:Str→Option Value}(n:h.Ns1 dx mA):∃ od,h.get? dx=some od∧∀ name,PySem.W.lookIn name od=some (mA name):=by
 obtain ⟨o,es,ep,ho,hd,hk,_,hm⟩:=n
 refine ⟨o,ho,fun name=>?_⟩
 have e:=hm name
 unfold nsFind findBy at e
 rw [← Array.find?_toList] at e
 unfold PySem.W.lookIn
 rw [hd]
 dsimp only
 split
 · rename_i y q
   rw [q] at e
   exact congrArg some e
 · rename_i q
   rw [q] at e
   have a:es.toList.any (·.refKey)=false:=by
    rw [List.any_eq_false]
    intro y hy
    obtain ⟨z,t,hkey⟩:=hk y (Array.mem_toList_iff.mp hy)
    simp [DictEntry.refKey,hkey]
   have a':¬ es.toList.any (·.refKey)=true:=by rw [a]; exact Bool.false_ne_true
   rw [if_neg a']
   exact congrArg some e
theorem ObjM.look {h:Heap}{x dx C:Addr}{mA:Str→Option Value}(I:ObjM h x dx C mA):∃ od,PySem.W.InstAt h x (PySem.W.instObj C dx) C (some od)∧∀ name,PySem.W.lookIn name od=some (mA name) :=
 let ⟨od,ho,hl⟩:=b67 I.ns
 ⟨od,⟨I.obj,rfl,rfl,ho⟩,hl⟩
section
variable {prog:Program}{w:World}{A:Around}{E:Value→Shared→Prop}{s:Shared}{K:PySem.W.Frag}{x dx C f:Addr}{mA:Str→Option Value}{name:Str}{v:Value}
theorem bt1 {expr:Bool}{Q:Value→Shared→Prop}(X:K.In s.heap) (I:ObjM s.heap x dx C mA) (hg:PySem.W.plainGet K C name=true) (hh:PySem.W.hasDictIn K C=true)
 (ha:PySem.W.findIn K (.ref C) name=some none) (hv:mA name=some v) (hv':PySem.W.handedIn v=true) (h:Q v { s with toks:=s.toks+1 }) :
 wpAny (model prog w) A (getAttr (.ref x) name expr) Q E s:=by
 obtain ⟨od,J,hl⟩:=I.look
 exact PySem.W.get_value X J (PySem.W.plainGet_of hg).1 (PySem.W.findObj_own hh ha rfl (by rw [hl,hv])) hv' h
theorem bg8 {pl:Sem Bool}{Q:Value×List Value→Shared→Prop}(X:K.In s.heap) (I:ObjM s.heap x dx C mA) (hg:PySem.W.plainGet K C name=true)
 (hf:PySem.W.findIn K (.ref C) name=some (some (.ref f))) (ht:PySem.W.isFn K (.ref f)=true) (hv:mA name=none) (h:Q (.ref f,[.ref x]) s) :
 wpAny (model prog w) A (getMethod (.ref x) name pl) Q E s:=by
 obtain ⟨od,J,hl⟩:=I.look
 exact PySem.W.method_fn X J (PySem.W.plainGet_of hg).1 (PySem.W.plainGet_of hg).2 hf (beq_iff_eq.mp ht) (by show (PySem.W.lookIn name od).map (·.isSome)=some false; rw [hl,hv]; rfl) h
theorem bt2 {ns:List Str}{Q:Unit→Shared→Prop}(X:K.In s.heap) (I:ObjM s.heap x dx C mA)
 (hs:PySem.W.findIn K (.ref C) "__setattr__"=some (some (.builtin "object.__setattr__"))) (hp:PySem.W.plainOver K C=true) (ht:PySem.W.takerIn K C name=some none) (hh:PySem.W.hasDictIn K C=true)
 (hw:PySem.Within mA ns) (hsz:ns.length≤sizeLine)
 (h:∀ h',ObjM h' x dx C (fun y=>if y=name then some v else mA y)→Heap.SameBut dx s.heap h'→Q () { s with heap:=h',toks:=s.toks+2 }) :
 wpAny (model prog w) A (setAttr (.ref x) name v) Q E s:=by
 obtain ⟨od,J,hl⟩:=I.look
 refine PySem.W.set_plain X J hs (PySem.W.osa_open (s:={ s with toks:=s.toks+1 }) (r:=none) X J hp ht fun b=>?_)
 obtain ⟨cd,hc,hd'⟩:=PySem.W.any_some hh
 have hx:s.heap.get? x=some ⟨.ref C,some dx,.plain,#[]⟩:=I.obj
 refine wpAny_bind (wpAny_pure (wpAny_bind (wpAny_bind (wpAny_loadPart hx (wpAny_bind (PySem.W.Looks.here (s:={ s with toks:=s.toks+1 }) (PySem.W.looks_clsIn X hc) ?_))))))
 rw [hd']
 refine wpAny_pure (a:=some dx) (wpAny_bind (wpAny_pure (wpAny_bind ?_)))
 refine wpAny_nsSet1 (s:={ s with toks:=s.toks+1 }) I.ns fun h' hn2 hs2=>?_
 obtain ⟨oD,esD,epD,hoD,hdD,hcD⟩:=hn2.count (PySem.Within.cons name v hw)
 refine wpAny_bind (wpAny_lookBehind hoD (by rw [hdD]; exact pastItsLine_dict (Nat.le_trans hcD (by rw [List.length_cons]; omega))) ?_)
 exact wpAny_pure (h _ ⟨(hs2.2 _ (Ne.symm I.ne)).trans I.obj,hn2,I.ne⟩ hs2)
theorem bg9 {R:Result→Shared→Prop}{vs:List Value}{kw:List (Str×Value)}(X:K.In s.heap) (hm:PySem.W.makesIn K C=true)
 (hi:PySem.W.findIn K (.ref C) "__init__"=some (some (.ref f))) (hf:PySem.W.typeIn K (.ref f)=some (.type "function"))
 (h:codeAny (model prog w) (A.under (.builtin "type.__call__" ⟨.ref C::vs,kw⟩)) (.call (.ref f) ⟨.ref (s.heap.objs.size+1)::vs,kw⟩) (PySem.W.InitBack (s.heap.objs.size+1) R)
  { s with heap:=(s.heap.push PySem.W.emptyDict).push (PySem.W.instObj C s.heap.objs.size) }) :
 codeAny (model prog w) A (.call (.ref C) ⟨vs,kw⟩) R s:=by
 obtain ⟨hh,g,d,t,os⟩:=s
 exact PySem.W.make_core (PySem.W.makes_of X hm) (PySem.W.looks_findIn X hi) (fun self=>PySem.W.bind_fn X self hf) (.inl rfl) h
end
def putF (f:Str) (v:V):List (Str×V)→List (Str×V)
 | []=>[(f,v)]
 | (g,x)::r=>if g=f then (g,v)::r else (g,x)::putF f v r
theorem a36 (f g:Str) (v:V):∀ fs:List (Str×V),(putF f v fs).lookup g=if g=f then some v else fs.lookup g
 | []=>by
   show List.lookup g [(f,v)]=_
   by_cases h:g=f
   · have hb:(g == f)=true:=beq_iff_eq.mpr h
     simp only [List.lookup,hb,if_pos h]
   · have hb:(g == f)=false:=beq_eq_false_iff_ne.mpr h
     simp only [List.lookup,hb,if_neg h]
 | (k,x)::r=>by
   have ih:=a36 f g v r
   rw [show putF f v ((k,x)::r)=(if k=f then (k,v)::r else (k,x)::putF f v r) from rfl]
   by_cases hk:k=f
   · rw [if_pos hk]
     by_cases h:g=k
     · have hb:(g == k)=true:=beq_iff_eq.mpr h
       simp only [List.lookup,hb,if_pos (h.trans hk)]
     · have hb:(g == k)=false:=beq_eq_false_iff_ne.mpr h
       simp only [List.lookup,hb,if_neg (fun e:g=f=>h (e.trans hk.symm))]
   · rw [if_neg hk]
     by_cases h:g=k
     · have hb:(g == k)=true:=beq_iff_eq.mpr h
       simp only [List.lookup,hb,if_neg (fun e:g=f=>hk (h.symm.trans e))]
     · have hb:(g == k)=false:=beq_eq_false_iff_ne.mpr h
       simp only [List.lookup,hb]
       exact ih
theorem ai1 (f:Str) (v:V):∀ fs:List (Str×V),f∈(putF f v fs).map (·.1)∧∀ g,g∈fs.map (·.1)→g∈(putF f v fs).map (·.1)
 | []=>⟨by simp [putF],fun g h=>by simp at h⟩
 | (k,x)::r=>by
   obtain ⟨i1,i2⟩:=ai1 f v r
   rw [show putF f v ((k,x)::r)=(if k=f then (k,v)::r else (k,x)::putF f v r) from rfl]
   by_cases hk:k=f
   · rw [if_pos hk]
     subst hk
     exact ⟨by simp,fun g h=>by simpa using h⟩
   · rw [if_neg hk]
     refine ⟨?_,fun g h=>?_⟩
     · rw [List.map_cons]
       exact List.mem_cons_of_mem _ i1
     · rw [List.map_cons] at h ⊢
       rcases List.mem_cons.mp h with e | e
       · exact List.mem_cons.mpr (.inl e)
       · exact List.mem_cons_of_mem _ (i2 g e)
theorem a73 (f:Str) (v:V):∀ fs:List (Str×V),(putF f v fs).length≤fs.length+1
 | []=>by simp [putF]
 | (k,x)::r=>by
   have ih:=a73 f v r
   rw [show putF f v ((k,x)::r)=(if k=f then (k,v)::r else (k,x)::putF f v r) from rfl]
   by_cases hk:k=f
   · rw [if_pos hk,List.length_cons,List.length_cons]; omega
   · rw [if_neg hk,List.length_cons,List.length_cons]; omega
theorem RelO.some_of {v:V}{o:Option Value}(r:RelO (some v) o):∃ u,o=some u∧RelV v u:=by
 cases o with
 | none=>exact (show False from r).elim
 | some u=>exact ⟨u,rfl,r⟩
theorem RelO.none_of {o:Option Value}(r:RelO none o):o=none:=by
 cases o with
 | none=>rfl
 | some u=>exact (show False from r).elim
theorem b68 {v:V}{u:Value}(r:RelV v u):PySem.W.handedIn u=true:=by
 cases v with
 | non=>cases (show u=Value.none from r); rfl
 | bl b=>cases (show u=Value.bool b from r); rfl
 | int i=>obtain ⟨t,e⟩:=(show ∃ t,u=Value.int i t from r); cases e; rfl
 | str x=>obtain ⟨t,e⟩:=(show ∃ t,u=Value.str x t from r); cases e; rfl
 | byt b=>obtain ⟨t,e⟩:=(show ∃ t,u=Value.bytes b t from r); cases e; rfl
 | flt b=>obtain ⟨t,e⟩:=(show ∃ t,u=Value.float b t from r); cases e; rfl
 | ref a=>cases (show u=Value.ref a from r); rfl
 | ty n=>cases (show u=Value.type n from r); rfl
section
variable {P:Program}{w:World}{H H':Hp}{h h':Heap}{a C dx:Addr}{fs fs':List (Str×V)}
theorem ao6 (hok:HOk P w H h) (e:H a=some (.ins C dx fs)):∃ mA,ObjM h a dx C mA∧(∀ f,RelO (fs.lookup f) (mA f))∧PySem.Within mA (fs.map (·.1))∧fs.length≤1000∧H dx=some (.own a):=by
 obtain ⟨d,z,ne,ob,mA,n,r,q⟩:=(show ObjOk P w H h a (.ins C dx fs) from hok a _ e)
 exact ⟨mA,⟨ob,n,ne⟩,r,q,z,d⟩
end
structure Cls (K:PySem.W.Frag) (C:Addr):Prop where
 pg:PySem.W.plainGet K C Str.empty=true
 hd:PySem.W.hasDictIn K C=true
 po:PySem.W.plainOver K C=true
 sa:PySem.W.findIn K (.ref C) "__setattr__"=some (some (.builtin "object.__setattr__"))
theorem Cls.get {K:PySem.W.Frag}{C:Addr}(c:Cls K C) (f:Str):PySem.W.plainGet K C f=true:=c.pg
def NoAttr (K:PySem.W.Frag) (C:Addr) (f:Str):Prop:=PySem.W.findIn K (.ref C) f=some none
theorem NoAttr.taker {K:PySem.W.Frag}{C:Addr}{f:Str}(n:NoAttr K C f):PySem.W.takerIn K C f=some none:=by
 unfold PySem.W.takerIn
 rw [show PySem.W.findIn K (.ref C) f=some none from n]
 rfl
structure Meth (K:PySem.W.Frag) (C:Addr) (m:Str) (f:Addr):Prop where
 at_:PySem.W.findIn K (.ref C) m=some (some (.ref f))
 fn:PySem.W.isFn K (.ref f)=true
 kp:PySem.W.keepIn K (.ref f)=true
section
variable {X:Cx}{pins:List (Addr×Obj)}{σ:St} {H:Hp}{s:Shared}{a C dx:Addr}{fs:List (Str×V)}{f:Str}{v:V}{A:Around}{E:Value→Shared→Prop}
theorem b32 {b:Bool}{Q:Value→Shared→Prop}(I:Inv X pins σ H s) (e:H a=some (.ins C dx fs)) (c:Cls X.K C) (n:NoAttr X.K C f) (l:fs.lookup f=some v)
 (h:∀ u s',Inv X pins σ H s'→RelV v u→Q u s'):wpAny (model X.prog X.w) A (getAttr (.ref a) f b) Q E s:=by
 obtain ⟨mA,O,r,_,_,_⟩:=ao6 I.hok e
 obtain ⟨u,hu,ru⟩:=RelO.some_of (v:=v) (o:=mA f) (by rw [← l]; exact r f)
 exact bt1 I.kIn O (c.get f) c.hd n hu (b68 ru) (h u _ (I.tok _) ru)
theorem am3 {m:Str}{g:Addr}{pl:Sem Bool}{Q:Value×List Value→Shared→Prop}(I:Inv X pins σ H s) (e:H a=some (.ins C dx fs)) (c:Cls X.K C) (k:Meth X.K C m g) (l:fs.lookup m=none)
 (h:Q (.ref g,[.ref a]) s):wpAny (model X.prog X.w) A (getMethod (.ref a) m pl) Q E s:=by
 obtain ⟨mA,O,r,_,_,_⟩:=ao6 I.hok e
 have hn:mA m=none:=RelO.none_of (by rw [← l]; exact r m)
 exact bg8 I.kIn O (c.get m) k.at_ k.fn hn h
theorem b33 {y:V}{u:Value}{Q:Unit→Shared→Prop}(I:Inv X pins σ H s) (e:H a=some (.ins C dx fs)) (c:Cls X.K C) (n:NoAttr X.K C f) (hl:fs.length<1000) (ry:RelV y u)
 (h:∀ s',Inv X pins σ (upd H a (.ins C dx (putF f y fs))) s'→Q () s'):wpAny (model X.prog X.w) A (setAttr (.ref a) f u) Q E s:=by
 obtain ⟨mA,O,r,wi,_,ho⟩:=ao6 I.hok e
 have hz:(fs.map (·.1)).length≤sizeLine:=by rw [List.length_map,sizeLine_eq]; omega
 refine bt2 I.kIn O c.sa c.po n.taker c.hd wi hz fun h' O' sb=>h _ ?_
 have hd:∃ o,h'.get? dx=some o:=let ⟨o,_,_,e',_⟩:=O'.ns; ⟨o,e'⟩
 refine I.write (x:=a) (e:=dx) (by rw [e]; exact True.intro) (.inr ho) (fun b q hb z=>(sb.2 b hb).trans z) hd ?_
 refine ⟨by rw [a14 O.ne]; exact ho,?_,O.ne,O'.obj,_,O'.ns,fun g=>?_,fun g hg=>?_⟩
 · have:=a73 f y fs; omega
 · show RelO ((putF f y fs).lookup g) (if g=f then some u else mA g)
   rw [a36]
   by_cases q:g=f
   · rw [if_pos q,if_pos q]; exact ry
   · rw [if_neg q,if_neg q]; exact r g
 · by_cases q:g=f
   · rw [q]; exact (ai1 f y fs).1
   · refine (ai1 f y fs).2 g (wi g fun z=>hg ?_)
     show (if g=f then some u else mA g)=none
     rw [if_neg q]; exact z
theorem Inv.made (I:Inv X pins σ H s):Inv X pins σ (upd (upd H s.heap.objs.size (.own (s.heap.objs.size+1))) (s.heap.objs.size+1) (.ins C s.heap.objs.size []))
 { s with heap:=(s.heap.push PySem.W.emptyDict).push (PySem.W.instObj C s.heap.objs.size) }:=by
 have e1:(s.heap.push PySem.W.emptyDict).get? s.heap.objs.size=some PySem.W.emptyDict:=Heap.get?_push_size s.heap rfl
 have e2:((s.heap.push PySem.W.emptyDict).push (PySem.W.instObj C s.heap.objs.size)).get? (s.heap.objs.size+1)=some (PySem.W.instObj C s.heap.objs.size):=by
  have:=Heap.get?_push_size (s.heap.push PySem.W.emptyDict) (o:=PySem.W.instObj C s.heap.objs.size) rfl
  rwa [Heap.size_push] at this
 have e3:(s.heap.push PySem.W.emptyDict).Ns s.heap.objs.size (fun _=>none):=⟨PySem.W.emptyDict,#[],_,e1,rfl,(fun e he=>absurd he (by simp)),fun _=>rfl⟩
 have I1:=I.laid (a:=s.heap.objs.size) (o:=.own (s.heap.objs.size+1)) (h':=s.heap.push PySem.W.emptyDict) (t':=s.toks) (fun b u q=>Heap.get?_push_of_some _ q) (Nat.le_refl _) ⟨_,e1⟩
 refine I1.laid (a:=s.heap.objs.size+1) (o:=.ins C s.heap.objs.size []) (t':=s.toks) (fun b u q=>Heap.get?_push_of_some _ q) (Nat.le_of_eq (Heap.size_push _ _)) ?_
 have ne:s.heap.objs.size≠s.heap.objs.size+1:=Nat.ne_of_lt (Nat.lt_succ_self _)
 refine ⟨by rw [a14 ne,a18],Nat.zero_le _,ne,e2,fun _=>none,(Heap.Ns1.of_empty e3).at fun o q=>Heap.get?_push_of_some _ q,fun _=>True.intro,fun y hy=>absurd rfl hy⟩
theorem bt3 {prog:Program}{w:World}{env:Env}{e:Expr}{f:Str}{pos:Pos}{s:Shared}{Q:Value→Shared→Prop}(hb:attributeBase e f env (eval e env)=eval e env)
 (h:wpAny (model prog w) A (eval e env) (fun o s₁=>wpAny (model prog w) A (getAttr o f true) Q E s₁) E s):wpAny (model prog w) A (eval (.Attribute e f pos) env) Q E s :=
 Attribute_any_ h (by rw [arm_eval_Attribute,hb])
end
def tFld (K:PySem.W.Frag) (ta:TE) (f:Str):TE:=fun σ H Q=>ta σ H fun x H1=>∃ a C dx fs v,x=.ref a∧H1 a=some (.ins C dx fs)∧Cls K C∧NoAttr K C f∧fs.lookup f=some v∧Q v H1
def sFld (K:PySem.W.Frag) (ta tv:TE) (f:Str):TS:=fun D σ H=>tv σ H fun y H1=>ta σ H1 fun x H2=>∃ a C dx fs,x=.ref a∧H2 a=some (.ins C dx fs)∧Cls K C∧NoAttr K C f∧fs.length<1000 ∧
 D.nx σ (upd H2 a (.ins C dx (putF f y fs)))
section
variable {X:Cx}{o e value:Expr}{f:Str}{pos pos' tpos:Pos}{ta tv:TE}
theorem c51 (he:PE X e ta) (hb:attributeBase e f X.env (eval e X.env)=eval e X.env):PE X (.Attribute e f pos) (tFld X.K ta f):=by
 intro pins s σ H Q I h
 refine bt3 hb (thn (he pins s σ H _ I h) ?_)
 rintro u s1 ⟨x,H1,I1,rx,a,C,dx,fs,v,ex,ea,c,n,l,q⟩
 subst ex
 obtain rfl:u=Value.ref a:=rx
 exact b32 I1 ea c n l fun u' s2 I2 ru=>⟨v,H1,I2,ru,q⟩
theorem c52 (ha:PE X o ta) (hv:PE X value tv) (hs:swapsWith value (some (.Attribute o f pos')) pos.line X.env=pure false):PS X (.Assign [.Attribute o f pos'] value pos) (sFld X.K ta tv f):=by
 intro pins s σ H D I h
 refine plainObj_wpAny_Assign_Attribute (thn (hv pins s σ H _ I h) ?_) hs
 rintro u s1 ⟨y,H1,I1,ry,q⟩
 refine thn (ha pins s1 σ H1 _ I1 q) ?_
 rintro ov s2 ⟨x,H2,I2,rx,a,C,dx,fs,ex,ea,c,n,l,q2⟩
 subst ex
 obtain rfl:ov=Value.ref a:=rx
 exact b33 I2 ea c n l ry fun s3 I3=>⟨σ,_,I3,q2⟩
end
section
variable {X:Cx}{pins:List (Addr×Obj)}{σ:St} {H:Hp}{s:Shared}{A:Around}{E:Value→Shared→Prop}{Q:Value→Shared→Prop}{c:Value}{b:Bool}
inductive TyOf (K:PySem.W.Frag) (H:Hp):V→Value→Prop where
 | non:TyOf K H .non (.type "NoneType")
 | bl (x:Bool):TyOf K H (.bl x) (.type "bool")
 | int (i:Int):TyOf K H (.int i) (.type "int")
 | str (x:Str):TyOf K H (.str x) (.type "str")
 | flt (x:UInt64):TyOf K H (.flt x) (.type "float")
 | lst {a:Addr}{xs:List V}(e:H a=some (.lst xs)):TyOf K H (.ref a) (.type "list")
 | frz {a:Addr}{o:Obj}{xs:List V}(e:H a=some (.frz o (.lst xs))):TyOf K H (.ref a) (.type "list")
 | tup {a:Addr}{xs:List V}(e:H a=some (.tup xs)):TyOf K H (.ref a) (.type "tuple")
 | dK {a:Addr}{kvs:List (Key×V)}(e:H a=some (.dK kvs)):TyOf K H (.ref a) (.type "dict")
 | dT {a:Addr}{kvs:List (List Key×V)}(e:H a=some (.dT kvs)):TyOf K H (.ref a) (.type "dict")
 | ins {a C dx:Addr}{fs:List (Str×V)}(e:H a=some (.ins C dx fs)) (cl:Cls K C) (ha:PySem.W.findIn K (.ref C) "__class__"=some (some (.builtin "object.__class__")))
  (hn:PySem.W.specialIn K (.builtin "object.__class__") "__get__"=some (some (.builtin "getset_descriptor.__get__"))) (htk:PySem.W.takesIn K (.builtin "object.__class__")=some true)
  (hm:PySem.W.mroIn K C (.type "object")=some true):TyOf K H (.ref a) (.ref C)
theorem b69 {x:V}{u t:Value}(I:Inv X pins σ H s) (rx:RelV x u) (ty:TyOf X.K H x t) (e:PySem.W.kitOne X.K t c=some b) (h:∀ tk,Q (.bool b) { s with toks:=tk }) :
 wpAny (model X.prog X.w) A (call (.builtin "isinstance") [u,c]) Q E s:=by
 cases ty with
 | non=>cases (show u=Value.none from rx); exact PySem.W.kia_one PySem.W.kitx_none I.kIn True.intro e (fun z=>nomatch z) h
 | bl y=>cases (show u=Value.bool y from rx); exact PySem.W.kia_one PySem.W.kitx_bool I.kIn True.intro e (fun z=>nomatch z) h
 | int i=>obtain ⟨t,q⟩:=(show ∃ t,u=Value.int i t from rx); cases q; exact PySem.W.kia_one PySem.W.kitx_int I.kIn True.intro e (fun z=>nomatch z) h
 | str y=>obtain ⟨t,q⟩:=(show ∃ t,u=Value.str y t from rx); cases q; exact PySem.W.kia_one PySem.W.kitx_str I.kIn True.intro e (fun z=>nomatch z) h
 | flt y=>obtain ⟨t,q⟩:=(show ∃ t,u=Value.float y t from rx); cases q; exact PySem.W.kia_one PySem.W.kitx_float I.kIn True.intro e (fun z=>nomatch z) h
 | @lst a xs ea =>
   cases (show u=Value.ref a from rx)
   obtain ⟨_,_,n,_,h1⟩:=(show ObjOk X.prog X.w H s.heap a (.lst xs) from I.hok a _ ea)
   exact PySem.W.kia_one PySem.W.kitx_list I.kIn ⟨_,h1,rfl⟩ e (fun z=>nomatch z) h
 | @frz a ob xs ea =>
   cases (show u=Value.ref a from rx)
   obtain ⟨_,_,_,n,_,h1⟩:=(show ObjOk X.prog X.w H s.heap a (.frz ob (.lst xs)) from I.hok a _ ea)
   exact PySem.W.kia_one PySem.W.kitx_list I.kIn ⟨_,h1,rfl⟩ e (fun z=>nomatch z) h
 | @tup a xs ea =>
   cases (show u=Value.ref a from rx)
   obtain ⟨_,_,_,p⟩:=(show ObjOk X.prog X.w H s.heap a (.tup xs) from I.hok a _ ea)
   obtain ⟨o,h1,h2,_⟩:=p
   exact PySem.W.kia_one PySem.W.kitx_tuple I.kIn ⟨o,h1,h2⟩ e (fun z=>nomatch z) h
 | @dK a kvs ea =>
   cases (show u=Value.ref a from rx)
   obtain ⟨_,_,vs,_,p⟩:=(show ObjOk X.prog X.w H s.heap a (.dK kvs) from I.hok a _ ea)
   obtain ⟨o,es,ep,h1,h2,_⟩:=p
   exact PySem.W.kia_one PySem.W.kitx_dict I.kIn ⟨o,h1,h2.1⟩ e (fun z=>nomatch z) h
 | @dT a kvs ea =>
   cases (show u=Value.ref a from rx)
   obtain ⟨_,_,xs,_,o,es,ep,h1,h2,_⟩:=(show ObjOk X.prog X.w H s.heap a (.dT kvs) from I.hok a _ ea)
   exact PySem.W.kia_one PySem.W.kitx_dict I.kIn ⟨o,h1,h2.1⟩ e (fun z=>nomatch z) h
 | @ins a C dx fs ea cl ha hn htk hm =>
   cases (show u=Value.ref a from rx)
   obtain ⟨mA,O,_⟩:=ao6 I.hok ea
   obtain ⟨od,J,_⟩:=O.look
   exact PySem.W.kia_one (PySem.W.kitx_own (cl.get _) cl.hd ha hn htk hm) I.kIn J e (fun z=>nomatch z) h
end
structure Room (k:Nat) (A:Around):Prop where
 hd:A.handled=none
 dp:A.depth+3*k+5<recursionLimit
 un:A.units+16*k+200<cLine
theorem Room.mono {j k:Nat}{A:Around}(r:Room k A) (h:j≤k):Room j A:=⟨r.hd,by have:=r.dp; omega,by have:=r.un; omega⟩
theorem Room.deeper {k:Nat}{A:Around}(r:Room (k+1) A) (env:Env):Room k (A.deeper env) :=
 ⟨r.hd,by have:=r.dp; show A.depth+1+3*k+5<_; omega,by have:=r.un; show A.units+3+16*k+200<_; omega⟩
theorem b34 {A:Around}{C:Addr}{us:List Value}{kw:List (Str×Value)}:(A.under (.builtin "type.__call__" ⟨.ref C::us,kw⟩)).depth=A.depth+1:=by
 first | rfl | simp [Around.under,Code.weight,Code.isCreation,Code.isGuard,Code.isCaller,Code.frames,Code.isFrame,guardIds]
theorem b35 {A:Around}{C:Addr}{us:List Value}{kw:List (Str×Value)}:(A.under (.builtin "type.__call__" ⟨.ref C::us,kw⟩)).units=A.units+1:=by
 first | rfl | simp [Around.under,Code.cUnits,Code.frames,Code.isFrame]
theorem Room.make {k:Nat}{A:Around}(r:Room (k+1) A) (C:Addr) (us:List Value) (kw:List (Str×Value)):Room k (A.under (.builtin "type.__call__" ⟨.ref C::us,kw⟩)) :=
 ⟨r.hd,by have:=r.dp; rw [b34]; omega,by have:=r.un; rw [b35]; omega⟩
theorem Room.depth {k:Nat}{A:Around}(r:Room k A):A.depth<recursionLimit:=by have:=r.dp; omega
theorem Room.units {k:Nat}{A:Around}(r:Room k A):A.units+64<cLine:=by have:=r.un; omega
theorem Room.units0 {k:Nat}{A:Around}(r:Room k A):A.units<cLine:=by have:=r.un; omega
def tNil:TA:=fun _ H Q=>Q [] H
def tCons (ta:TE) (tr:TA):TA:=fun σ H Q=>ta σ H fun x H1=>tr σ H1 fun xs H2=>Q (x::xs) H2
section
variable {X:Cx}{e:Expr}{es:List Expr}{te:TE}{t:TA}{pos:Pos}
theorem a02:PA X [] tNil:=fun _ _ _ _ H Q I h=>Calls.spliced_nil ⟨[],H,I,.nil,h⟩
theorem a00 (ha:PE X e te) (hr:PA X es t) (hs:starEach (e::es) X.env=(false,eval e X.env)::starEach es X.env:=by rfl):PA X (e::es) (tCons te t):=by
 intro pos pins s σ H Q I h
 rw [hs]
 show wpAny _ _ (spliced ((false,eval e X.env)::backTo pos (starEach es X.env))) _ _ s
 refine Calls.spliced_cons (thn (ha pins s σ H _ I h) ?_)
 rintro u s1 ⟨x,H1,I1,r1,q1⟩
 exact thn (hr pos pins s1 σ H1 _ I1 q1) (by rintro us s2 ⟨xs,H2,I2,r2,q2⟩; exact ⟨x::xs,H2,I2,.cons r1 r2,q2⟩)
end
abbrev Sp:=List V→Hp→VK→XK→Prop
abbrev CXT:=List Env→Hp→Shared→XK→Value→Shared→Prop
structure Env0 (P:Program) (w:World) (K:PySem.W.Frag) (mg:Str→Option Value) (base:Heap) (A:Around) (outer:List Env) (s:Shared) (H:Hp):Prop where
 frames:A.frames=some outer
 mod:Mod K mg base
 bs:∀ b o,base.get? b=some o→s.heap.get? b=some o∧H b=none
 bsz:base.objs.size≤s.heap.objs.size
 funs:s.heap.FunFrames base outer
 frf:∀ b∈frs outer,H b=none
 hok:HOk P w H s.heap
 bare:AllBare s.gens
def CE (outer:List Env) (P:Program) (w:World) (H:Hp) (s:Shared) (Q:VK) (u:Value) (s':Shared):Prop :=
 ∃ v H',s'.os=s.os∧AllBare s'.gens∧Un (frs outer) [] H H' s.heap s'.heap∧HOk P w H' s'.heap∧RelV v u∧Q v H'
def CR (CX:CXT) (outer:List Env) (P:Program) (w:World) (H:Hp) (s:Shared) (Q:VK) (E:XK) (r:Result) (s':Shared):Prop :=
 match r with
 | .ok (.ret u)=>CE outer P w H s Q u s'
 | .ok _=>False
 | .error e=>CX outer H s E e s'
structure FnOk (P:Program) (w:World) (K:PySem.W.Frag) (mg:Str→Option Value) (base:Heap) (CX:CXT) (k:Nat) (f:Addr) (fd:FuncData) (ps:List Str) (sp:Sp):Prop where
 len:∀ vs H Q E,sp vs H Q E→vs.length=ps.length
 run:∀ (A:Around) (outer:List Env) (s:Shared) (H:Hp) (args:Args) (us:List Value) (vs:List V) (Q:VK) (E:XK),Room k A→Env0 P w K mg base A outer s H→BindsTo s fd args (ps.zip us)→Vals vs us→sp vs H Q E →
  codeAny (model P w) A (.call (.ref f) args) (CR CX outer P w H s Q E) s
theorem Env0.make {P:Program}{w:World}{K:PySem.W.Frag}{mg:Str→Option Value}{base:Heap}{A:Around}{outer:List Env}{s:Shared}{H:Hp}(e:Env0 P w K mg base A outer s H) (C:Addr) (us:List Value) (kw:List (Str×Value)) :
 Env0 P w K mg base (A.under (.builtin "type.__call__" ⟨.ref C::us,kw⟩)) outer s H:=⟨by first | exact e.frames | (simpa [Around.under,Code.envs,Code.isFrame,pushEnvs] using e.frames),e.mod,e.bs,e.bsz,e.funs,e.frf,e.hok,e.bare⟩
section
variable {X:Cx}{pins:List (Addr×Obj)}{σ:St} {H:Hp}{s s':Shared}
theorem Inv.env0 (I:Inv X pins σ H s):Env0 X.prog X.w X.K X.mg X.base X.A X.stack s H :=
 ⟨I.ok.frames,I.ok.mod,I.bs,Nat.le_trans I.ok.bsz I.sz,I.stack,I.stkFree,I.hok,I.bare⟩
theorem Inv.after {Q:VK}{u:Value}(I:Inv X pins σ H s) (h:CE X.stack X.prog X.w H s Q u s'):EP X pins σ Q u s':=by
 obtain ⟨v,H',os,bare,un,hok,r,q⟩:=h
 obtain ⟨hh,g,d,t,os'⟩:=s'
 obtain rfl:os'=s.os:=os
 exact ⟨v,H',I.call (h':=hh) (g':=g) (d':=d) (t':=t) (ch:=[]) un hok bare (fun b z=>absurd z (by simp)),r,q⟩
end
def c53 (sp:Sp) (dvs:List V) (E:XK) (t:TA):TE:=fun σ H Q=>t σ H fun vs H1=>sp (vs++dvs) H1 Q E
def bt4 (C:Addr) (m:Str) (sp:Sp) (dvs:List V) (E:XK) (ta:TE) (t:TA):TE:=fun σ H Q=>ta σ H fun x H1=>∃ a dx fs,x=.ref a∧H1 a=some (.ins C dx fs)∧fs.lookup m=none ∧
 t σ H1 fun vs H2=>sp (x::(vs++dvs)) H2 Q E
def c54 (C:Addr) (sp:Sp) (dvs:List V) (E:XK) (t:TA):TE:=fun σ H Q=>t σ H fun vs H1=>∀ x dx,H1 x=none→H1 dx=none→dx≠x →
 sp (.ref x::(vs++dvs)) (upd (upd H1 dx (.own x)) x (.ins C dx [])) (fun v H2=>v=.non∧Q (.ref x) H2) E
def Binds (K:PySem.W.Frag) (fd:FuncData) (ps:List Str) (ds:List Value):Prop :=
 ∀ (s:Shared) (us:List Value),K.In s.heap→(us++ds).length=ps.length→BindsTo s fd ⟨us,[]⟩ (ps.zip (us++ds))
theorem Binds.all {K:PySem.W.Frag}{fd:FuncData}{ps:List Str}(h:∀ us:List Value,us.length=ps.length→bindArgs fd ⟨us,[]⟩=pure (ps.zip us)):Binds K fd ps []:=fun s us _ hl=>by
 rw [List.append_nil] at hl ⊢
 exact .of_eq (h us hl)
def a99 (CX:CXT) (X:Cx) (E:XK):Prop:=∀ (pins:List (Addr×Obj)) (σ:St) (H:Hp) (s:Shared) (e:Value) (s':Shared),Inv X pins σ H s→CX X.stack H s E e s'→X.xe e s'
section
variable {X:Cx}{CX:CXT}{k:Nat}{f C:Addr}{fd:FuncData}{ps:List Str}{sp:Sp}{dvs:List V}{ds:List Value}{E:XK}{x m:Str}{p pos apos:Pos}{e o:Expr}{es:List Expr}{ta:TE}{t:TA}
theorem b70 {pins:List (Addr×Obj)}{σ:St} {H:Hp}{s:Shared}{Q:VK}{us:List Value}{vs:List V}(F:FnOk X.prog X.w X.K X.mg X.base CX k f fd ps sp) (hr:Room k X.A) (hb:Binds X.K fd ps ds) (hd:Vals dvs ds) (hx:a99 CX X E)
 (I:Inv X pins σ H s) (r:Vals vs us) (h:sp (vs++dvs) H Q E):wpAny (model X.prog X.w) X.A (call (.ref f) us) (EP X pins σ Q) X.xe s:=by
 have r2:Vals (vs++dvs) (us++ds):=r.append hd
 have hl:(us++ds).length=ps.length:=by rw [← r2.length]; exact F.len _ _ _ _ h
 refine wpAny_call (codeAny_mono (F.run X.A X.stack s H ⟨us,[]⟩ (us++ds) (vs++dvs) Q E hr I.env0 (hb s us I.kIn hl) r2 h) fun r s' hq=>?_)
 cases r with
 | error e=>exact hx pins σ H s e s' I hq
 | ok fl =>
   cases fl with
   | ret u=>exact I.after hq
   | next=>exact False.elim hq
   | brk=>exact False.elim hq
   | cont=>exact False.elim hq
theorem a21 (F:FnOk X.prog X.w X.K X.mg X.base CX k f fd ps sp) (hr:Room k X.A) (hg:Gl X x) (hm:X.mg x=some (.ref f)) (hk:PySem.W.keepIn X.K (.ref f)=true) (hb:Binds X.K fd ps ds) (hd:Vals dvs ds) (hx:a99 CX X E)
 (ha:PA X (e::es) t) (hdb:(x == ("__debug__":Str))=false:=by decide) (he:starEach (e::es) X.env=(false,eval e X.env)::starEach es X.env:=by rfl) (hpl:(backTo pos (starEach es X.env)).any (·.1)=false:=by rfl) :
 PE X (.Call (.Name x p) (e::es) [] pos) (c53 sp dvs E t):=by
 intro pins s σ H Q I h
 refine wpAny_Call_Name_kw (ac0 I hg hm ?_ hdb)
 refine PySem.W.callWith_K (h₀:=X.base) I.ok.mod.kin hk (thn (ha pos pins s σ H _ I h) ?_) he hpl
 rintro us s1 ⟨vs,H1,I1,r,q⟩
 refine ⟨I1.kIn,?_⟩
 exact b70 F hr hb hd hx I1 r q
theorem a65 {pl:Sem Bool}(he:PE X o ta) (c:Cls X.K C) (hm:Meth X.K C m f) (F:FnOk X.prog X.w X.K X.mg X.base CX k f fd ps sp) (hr:Room k X.A) (hb:Binds X.K fd ps ds) (hd:Vals dvs ds) (hx:a99 CX X E) (ha:PA X (e::es) t)
 (hst:starEach (e::es) X.env=(false,eval e X.env)::starEach es X.env:=by rfl) (hpl:(backTo pos (starEach es X.env)).any (·.1)=false:=by rfl)
 (ht:eval (.Call (.Attribute o m apos) (e::es) [] pos) X.env=(do
  let ov←eval o X.env
  standAt apos.atName
  let (f,first)←holding [ov] (getMethod ov m pl)
  callWith pos f first (backTo pos (starEach (e::es) X.env)) (backToKw pos (keywordEach [] X.env))):=by rfl) :
 PE X (.Call (.Attribute o m apos) (e::es) [] pos) (bt4 C m sp dvs E ta t):=by
 intro pins s σ H Q I h
 refine PySem.W.methodCall_KW (pl:=pl) (thn (he pins s σ H _ I h) ?_) ht
 rintro u s1 ⟨x,H1,I1,rx,a,dx,fs,ex,ea,l,q⟩
 subst ex
 obtain rfl:u=Value.ref a:=rx
 refine am3 I1 ea c hm l ?_
 refine PySem.W.callWith_K (first:=[.ref a]) (h₀:=X.base) I.ok.mod.kin hm.kp (thn (ha pos pins s1 σ H1 _ I1 q) ?_) hst hpl
 rintro us s2 ⟨vs,H2,I2,r,q2⟩
 refine ⟨I2.kIn,?_⟩
 exact b70 (us:=.ref a::us) (vs:=.ref a::vs) F hr hb hd hx I2 (.cons rfl r) q2
theorem ad1 {pl:Sem Bool}(he:PE X o ta) (c:Cls X.K C) (hm:Meth X.K C m f) (F:FnOk X.prog X.w X.K X.mg X.base CX k f fd ps sp) (hr:Room k X.A) (hb:Binds X.K fd ps ds) (hd:Vals dvs ds) (hx:a99 CX X E)
 (ht:eval (.Call (.Attribute o m apos) [] [] pos) X.env=(do
  let ov←eval o X.env
  standAt apos.atName
  let (f,first)←holding [ov] (getMethod ov m pl)
  callWith pos f first (backTo pos (starEach [] X.env)) (backToKw pos (keywordEach [] X.env))):=by rfl) :
 PE X (.Call (.Attribute o m apos) [] [] pos) (bt4 C m sp dvs E ta tNil):=by
 intro pins s σ H Q I h
 refine PySem.W.methodCall_KW (pl:=pl) (thn (he pins s σ H _ I h) ?_) ht
 rintro u s1 ⟨x,H1,I1,rx,a,dx,fs,ex,ea,l,q⟩
 subst ex
 obtain rfl:u=Value.ref a:=rx
 refine am3 I1 ea c hm l ?_
 exact PySem.W.callWith_K0 (first:=[.ref a]) I1.kIn hm.kp (b70 (us:=[.ref a]) (vs:=[.ref a]) F hr hb hd hx I1 (.cons rfl .nil) q)
structure Mk (K:PySem.W.Frag) (C f:Addr):Prop where
 makes:PySem.W.makesIn K C=true
 init:PySem.W.findIn K (.ref C) "__init__"=some (some (.ref f))
 fn:PySem.W.isFn K (.ref f)=true
 kp:PySem.W.keepIn K (.ref C)=true
theorem bh0 {pins:List (Addr×Obj)}{σ:St} {H:Hp}{s:Shared}{Q:VK}{us:List Value}{vs:List V}(M:Mk X.K C f) (F:FnOk X.prog X.w X.K X.mg X.base CX k f fd ps sp) (hr:Room (k+1) X.A) (hb:Binds X.K fd ps ds) (hd:Vals dvs ds)
 (hx:a99 CX X E) (I:Inv X pins σ H s) (r:Vals vs us)
 (h:∀ x dx,H x=none→H dx=none→dx≠x→sp (.ref x::(vs++dvs)) (upd (upd H dx (.own x)) x (.ins C dx [])) (fun v H2=>v=.non∧Q (.ref x) H2) E) :
 wpAny (model X.prog X.w) X.A (call (.ref C) us) (EP X pins σ Q) X.xe s:=by
 have hq:=h (s.heap.objs.size+1) s.heap.objs.size (I.hok.fresh (Nat.le_succ _)) (I.hok.fresh (Nat.le_refl _)) (Nat.ne_of_lt (Nat.lt_succ_self _))
 have I2:=Inv.made (C:=C) I
 have r2:Vals (V.ref (s.heap.objs.size+1)::(vs++dvs)) (Value.ref (s.heap.objs.size+1)::(us++ds)):=.cons rfl (r.append hd)
 have hl:(Value.ref (s.heap.objs.size+1)::us++ds).length=ps.length:=by
  have e:=r2.length
  rw [F.len _ _ _ _ hq] at e
  exact e.symm
 refine wpAny_call (bg9 (f:=f) I.kIn M.makes M.init (beq_iff_eq.mp M.fn) (codeAny_mono (F.run _ X.stack _ _ ⟨Value.ref (s.heap.objs.size+1)::us,[]⟩ (Value.ref (s.heap.objs.size+1)::(us++ds)) _ _ E (hr.make C us [])
  (I2.env0.make C us []) (hb _ (Value.ref (s.heap.objs.size+1)::us) I2.kIn hl) r2 hq) fun r s' hq'=>?_))
 cases r with
 | error e=>exact hx pins σ _ _ e s' I2 hq'
 | ok fl =>
   cases fl with
   | ret u =>
     obtain ⟨v,H',I3,rv,ev,q3⟩:=I2.after hq'
     subst ev
     exact ⟨rv,⟨V.ref (s.heap.objs.size+1),H',I3,rfl,q3⟩⟩
   | next=>exact False.elim hq'
   | brk=>exact False.elim hq'
   | cont=>exact False.elim hq'
theorem aw0 (M:Mk X.K C f) (F:FnOk X.prog X.w X.K X.mg X.base CX k f fd ps sp) (hr:Room (k+1) X.A) (hg:Gl X x) (hm:X.mg x=some (.ref C)) (hb:Binds X.K fd ps ds) (hd:Vals dvs ds) (hx:a99 CX X E)
 (ha:PA X (e::es) t) (hdb:(x == ("__debug__":Str))=false:=by decide) (he:starEach (e::es) X.env=(false,eval e X.env)::starEach es X.env:=by rfl) (hpl:(backTo pos (starEach es X.env)).any (·.1)=false:=by rfl) :
 PE X (.Call (.Name x p) (e::es) [] pos) (c54 C sp dvs E t):=by
 intro pins s σ H Q I h
 refine wpAny_Call_Name_kw (ac0 I hg hm ?_ hdb)
 refine PySem.W.callWith_K (h₀:=X.base) I.ok.mod.kin M.kp (thn (ha pos pins s σ H _ I h) ?_) he hpl
 rintro us s1 ⟨vs,H1,I1,r,q⟩
 refine ⟨I1.kIn,?_⟩
 exact bh0 M F hr hb hd hx I1 r q
end
section
variable {X:Cx}{CX:CXT}{k:Nat}{f C:Addr}{fd:FuncData}{ps ks:List Str}{sp:Sp}{E:XK}{x m:Str}{p pos apos kpos:Pos}{e o:Expr}{es:List Expr}{kws:List Keyword}{te ta:TE}{t tk:TA}{nm:Option Str}
variable {g:List Value→List Value→List Value}{gV:List V→List V→List V}
end
structure FnScope (N P:List Str) (sc:Scope):Prop where
 kind:sc.kind=.function
 co:sc.isCoroutine=false
 gen:sc.isGenerator=false
 nd:N.Nodup
 pre:N.take P.length=P
 par:∀ x∈P,sc.names.lookup x=some .local∨sc.names.lookup x=some .cell
 nofree:∀ y∈sc.names,y.2≠.free
theorem ar8 {kindOf:Str→Option NameKind}{x:Str}:∀ {binds:List (Str×Value)}{m:Str→Option Value},(∀ v,(x,v)∉binds)→bindL kindOf binds m x=m x
 | [],_,_=>rfl
 | (n,v)::r,m,h=>by
   unfold bindL
   rw [ar8 fun w hw=>h w (List.mem_cons_of_mem _ hw)]
   split
   · have:x≠n:=by rintro rfl; exact h v List.mem_cons_self
     simp [this]
   · rfl
theorem ar9 {kindOf:Str→Option NameKind}{x:Str}:∀ {binds:List (Str×Value)}{m:Str→Option Value},(∀ v,(x,v)∉binds)→bindC kindOf binds m x=m x
 | [],_,_=>rfl
 | (n,v)::r,m,h=>by
   unfold bindC
   rw [ar9 fun w hw=>h w (List.mem_cons_of_mem _ hw)]
   split
   · rfl
   · have:x≠n:=by rintro rfl; exact h v List.mem_cons_self
     simp [this]
theorem as0 {kindOf:Str→Option NameKind}{x:Str}{v:Value}:∀ {P:List Str}{vs:List Value}{i:Nat}{m:Str→Option Value},P.Nodup→P[i]?=some x→vs[i]?=some v→kindOf x=some .local →
 bindL kindOf (P.zip vs) m x=some v
 | [],_,_,_,_,h,_,_=>by simp at h
 | _::_,[],_,_,_,_,h,_=>by simp at h
 | p::P,w::vs,0,m,nd,h1,h2,hk=>by
   simp at h1 h2; subst h1; subst h2
   show bindL kindOf ((p,w)::P.zip vs) m p=_
   unfold bindL
   rw [ar8 fun v hv=>(List.nodup_cons.mp nd).1 (List.of_mem_zip hv).1,if_pos hk]
   simp
 | p::P,w::vs,i+1,m,nd,h1,h2,hk=>by
   show bindL kindOf ((p,w)::P.zip vs) m x=_
   unfold bindL
   exact as0 (i:=i) (List.nodup_cons.mp nd).2 (by simpa using h1) (by simpa using h2) hk
theorem as1 {kindOf:Str→Option NameKind}{x:Str}{v:Value}:∀ {P:List Str}{vs:List Value}{i:Nat}{m:Str→Option Value},P.Nodup→P[i]?=some x→vs[i]?=some v→kindOf x≠some .local →
 bindC kindOf (P.zip vs) m x=some v
 | [],_,_,_,_,h,_,_=>by simp at h
 | _::_,[],_,_,_,_,h,_=>by simp at h
 | p::P,w::vs,0,m,nd,h1,h2,hk=>by
   simp at h1 h2; subst h1; subst h2
   show bindC kindOf ((p,w)::P.zip vs) m p=_
   unfold bindC
   rw [ar9 fun v hv=>(List.nodup_cons.mp nd).1 (List.of_mem_zip hv).1,if_neg hk]
   simp
 | p::P,w::vs,i+1,m,nd,h1,h2,hk=>by
   show bindC kindOf ((p,w)::P.zip vs) m x=_
   unfold bindC
   exact as1 (i:=i) (List.nodup_cons.mp nd).2 (by simpa using h1) (by simpa using h2) hk
def start (N:List Str) (vs:List V):St:=vs.map some++List.replicate (N.length - vs.length) none
def cxOf (CX:CXT) (P:Program) (w:World) (K:PySem.W.Frag) (mg:Str→Option Value) (base:Heap) (N:List Str) (qual:Str) (scope:Scope) (f:Addr) (cd:Value) (A:Around) (outer:List Env) (s:Shared) (H:Hp) (E:XK):Cx where
 prog:=P
 w:=w
 K:=K
 mg:=mg
 base:=base
 A:=A.deeper (envOfC qual scope s.heap.objs.size f cd)
 N:=N
 s₀:=s
 H₀:=H
 env:=envOfC qual scope s.heap.objs.size f cd
 outer:=outer
 stack:=envOfC qual scope s.heap.objs.size f cd::outer
 ex:=[]
 calm:=true
 fn:=fun _=>true
 pn:=[]
 xe:=fun e s'=>wpAny (model P w) (A.deeper (envOfC qual scope s.heap.objs.size f cd)) (leaving (envOfC qual scope s.heap.objs.size f cd) e) (fun _ s''=>CX outer H s E e s'') (fun e' s''=>CX outer H s E e' s'') s'
theorem az3 {sc:Scope}{n:Nat}{x:Str}(h:sc.names.lookup x=some .cell):∃ c,(cellsFrom n sc.names []).lookup x=some c:=by
 have q:=PySem.W.cellsFrom_some sc.names n [] (.inl h)
 exact Option.isSome_iff_exists.mp q
theorem b71 {CX:CXT}{P:Program}{w:World}{K:PySem.W.Frag}{mg:Str→Option Value}{base:Heap}{N ps:List Str}{qual:Str}{scope:Scope}{f:Addr}{cd:Value}{A:Around}{outer:List Env}{s s1:Shared}{H:Hp}{E:XK}{us:List Value}{vs:List V}
 (S:FnScope N ps scope) (hd:A.handled=none) (e0:Env0 P w K mg base A outer s H) (hl:vs.length=ps.length) (r:Vals vs us)
 (x:InCallC s s.heap.objs.size (bindL (envOfC qual scope s.heap.objs.size f cd).kindOf (ps.zip us) fun _=>none) (cellsFrom (s.heap.objs.size+1) scope.names []) (bindC (envOfC qual scope s.heap.objs.size f cd).kindOf (ps.zip us) fun _=>none) s1) :
 Inv (cxOf CX P w K mg base N qual scope f cd A outer s H E) [] (start N vs) H s1:=by
 have hpl:ps.length≤N.length:=by have:=congrArg List.length S.pre; rw [List.length_take] at this; omega
 obtain ⟨h1,tk,rfl,hk⟩:=x.done
 have noA:∀ b:Addr,b∉(cxOf CX P w K mg base N qual scope f cd A outer s H E).ex:=fun b z=>absurd (show b∈([]:List Addr) from z) (by simp)
 refine ⟨⟨e0.mod,S.kind,rfl,rfl,Nat.le_refl _,fun y z c h1 h2=>?_,fun y hy=>?_,fun y c _ h=>?_,fun _=>hd,Around.frames_deeper e0.frames,.inr ⟨rfl,rfl⟩,fun b z=>absurd z (noA b),e0.bs,e0.bsz,fun b _ _=>noA b,fun b z=>absurd z (noA b),e0.funs,e0.frf⟩,
  rfl,e0.bare,Un.kept hk,⟨_,x.toInCall.ns,fun i y v h1 h2 h3=>?_⟩,fun y c h=>⟨_,x.cell y c h⟩,e0.hok.fresh (Nat.le_refl _),fun y c h=>?_,fun p hp=>absurd (show p∈([]:List (Addr×Obj)) from hp) (by simp),e0.hok.kept hk,?_⟩
 · exact name_of_addr x.apart (PySem.mem_of_lookup h1) (PySem.mem_of_lookup h2)
 · have hy:scope.names.lookup y=some .cell∨scope.names.lookup y=some .free:=hy
   rcases hy with hy | hy
   · exact az3 hy
   · exact absurd rfl (S.nofree _ (PySem.mem_of_lookup hy))
 · exact Nat.le_of_lt (x.above y c (PySem.mem_of_lookup h))
 · have hi:i<vs.length:=by
    unfold start at h2
    by_cases hi:i<vs.length
    · exact hi
    · rw [List.getElem?_append_right (by simpa using hi)] at h2
      rw [List.getElem?_replicate] at h2
      split at h2 <;> cases h2
   have ha:vs[i]?=some v:=by
    unfold start at h2
    rw [List.getElem?_append_left (by simpa using hi),List.getElem?_map] at h2
    cases e:vs[i]? with
    | none=>rw [e] at h2; cases h2
    | some a=>rw [e] at h2; cases h2; rfl
   obtain ⟨u,hu,rv⟩:=r.get ha
   have hp:ps[i]?=some y:=by
    rw [← S.pre,List.getElem?_take_of_lt (by omega)]; exact h1
   have ndP:ps.Nodup:=by rw [← S.pre]; exact S.nd.sublist (List.take_sublist _ _)
   refine ⟨u,rv,?_⟩
   rcases S.par y (List.mem_of_getElem? hp) with k | k
   · exact .inl ⟨k,as0 ndP hp hu k⟩
   · obtain ⟨c,e⟩:=az3 (n:=s.heap.objs.size+1) k
     refine .inr ⟨.inl k,c,e,?_⟩
     have q:=x.cell y c e
     rw [as1 ndP hp hu (by show scope.names.lookup y≠_; rw [k]; decide)] at q
     exact q
 · exact e0.hok.fresh (Nat.le_of_lt (x.above y c (PySem.mem_of_lookup h)))
 · unfold start
   show _=N.length
   rw [List.length_append,List.length_map,List.length_replicate]
   omega
theorem c55 {CX:CXT}{P:Program}{w:World}{K:PySem.W.Frag}{mg:Str→Option Value}{base:Heap}{k:Nat}{f:Addr}{name qual:Str}{params:Arguments}{body:List Stmt}{scope:Scope}{dV kV doc pm cdv ct oc:Value}{an od:Option Addr}
 {osl:Array (Option Value)}{N ps:List Str}{sp:Sp}(lk:K.lookup f=some ⟨oc,od,.func (PySem.W.fnOf name qual params body scope dV kV doc pm an cdv ct),osl⟩) (hcd:PySem.W.codeIn K cdv qual=true) (S:FnScope N ps scope)
 (len:∀ vs H Q E,sp vs H Q E→vs.length=ps.length)
 (hbody:∀ (A:Around) (outer:List Env) (s:Shared) (H:Hp) (vs:List V) (Q:VK) (E:XK),Room k (A.deeper (envOfC qual scope s.heap.objs.size f cdv))→sp vs H Q E →
  ∃ t,PSs (cxOf CX P w K mg base N qual scope f cdv A outer s H E) body t∧t { nx:=fun _ H'=>Q .non H',rt:=Q } (start N vs) H) :
 FnOk P w K mg base CX (k+1) f (PySem.W.fnOf name qual params body scope dV kV doc pm an cdv ct) ps sp:=by
 refine ⟨len,fun A outer s H args us vs Q E hr e0 hb r hsp=>?_⟩
 have hl:=len _ _ _ _ hsp
 have KX:K.In s.heap:=e0.mod.kin.keeps fun b o e=>(e0.bs b o e).1
 have lim:s.heap.NoLimit:=e0.mod.nolimit.keeps fun b o e=>(e0.bs b o e).1
 have hkind:∀ y∈ps.zip us,scope.names.lookup y.1=some .local∨(scope.names.lookup y.1=some .cell∧((cellsFrom (s.heap.objs.size+1) scope.names []).lookup y.1).isSome=true):=fun ⟨n,v⟩ hy=>by
  rcases S.par n (List.of_mem_zip hy).1 with q | q
  · exact .inl q
  · exact .inr ⟨q,PySem.W.cellsFrom_some _ _ _ (.inl q)⟩
 refine codeAny_call_function hr.depth (KX _ _ lk) rfl S.co S.gen rfl (PySem.W.codeRec_of KX hcd) (hb _ _ _ _ ?_)
 refine wpAny_newFunctionEnv_cells S.kind hkind fun env he s1 x=>?_
 subst he
 refine ⟨lim.keeps x.toInCall.keep,codeAny_func ?_⟩
 obtain ⟨t,ht,hq⟩:=hbody A outer s H vs Q E (hr.deeper _) hsp
 have I:Inv (cxOf CX P w K mg base N qual scope f cdv A outer s H E) [] (start N vs) H s1:=b71 S hr.hd e0 hl r x
 refine wpAny_mono (ht [] s1 (start N vs) H _ I hq) (fun fl s' hs=>?_) fun e s' hs=>hs
 have fin:∀ {σ':St} {H':Hp}{v:V}{u:Value},Inv (cxOf CX P w K mg base N qual scope f cdv A outer s H E) [] σ' H' s'→RelV v u→Q v H'→CE outer P w H s Q u s' :=
  fun {σ' H' v u} J rv q=>⟨v,H',J.os,J.bare,J.base,J.hok,rv,q⟩
 cases fl with
 | ret u =>
   obtain ⟨v,σ',H',J,rv,q⟩:=hs
   exact fin J rv q
 | next =>
   obtain ⟨σ',H',J,q⟩:=hs
   exact fin (v:=V.non) (u:=Value.none) J rfl q
 | brk =>
   obtain ⟨_,_,_,q⟩:=hs
   exact False.elim q
 | cont =>
   obtain ⟨_,_,_,q⟩:=hs
   exact False.elim q
section
variable {X:Cx}{x:Str}{p pos:Pos}{e:Expr}{es:List Expr}{t:TA}{id T:String}{r:List V→Hp→VK→Prop}
def tCB (r:List V→Hp→VK→Prop) (t:TA):TE:=fun σ H Q=>t σ H fun vs H1=>r vs H1 Q
theorem a39 (hc:CallR X (.builtin id) r) (hg:Gl X x) (hm:X.mg x=none) (hv:bootBuiltins x=some (.builtin id)) (ha:PA X (e::es) t) (hn:x≠"__name__":=by decide) (hdb:(x == ("__debug__":Str))=false:=by decide)
 (he:starEach (e::es) X.env=(false,eval e X.env)::starEach es X.env:=by rfl) (hpl:(backTo pos (starEach es X.env)).any (·.1)=false:=by rfl):PE X (.Call (.Name x p) (e::es) [] pos) (tCB r t):=by
 intro pins s σ H Q I h
 refine wpAny_Call_Name_kw (am0 I hg hm hv ?_ hn hdb)
 exact PyProof.Rows.callWith_builtin1 (thn (ha pos pins s σ H _ I h) (by rintro us s1 ⟨vs,H1,I1,r1,q1⟩; exact hc pins s1 σ H1 vs us Q I1 r1 q1)) he hpl
theorem a33 (hc:CallR X (.type T) r) (hg:Gl X x) (hm:X.mg x=none) (hv:bootBuiltins x=some (.type T)) (ha:PA X (e::es) t) (hn:x≠"__name__":=by decide) (hdb:(x == ("__debug__":Str))=false:=by decide)
 (he:starEach (e::es) X.env=(false,eval e X.env)::starEach es X.env:=by rfl) (hpl:(backTo pos (starEach es X.env)).any (·.1)=false:=by rfl):PE X (.Call (.Name x p) (e::es) [] pos) (tCB r t):=by
 intro pins s σ H Q I h
 refine wpAny_Call_Name_kw (am0 I hg hm hv ?_ hn hdb)
 exact PyProof.Rows.callWith_type1 (thn (ha pos pins s σ H _ I h) (by rintro us s1 ⟨vs,H1,I1,r1,q1⟩; exact hc pins s1 σ H1 vs us Q I1 r1 q1)) he hpl
end
end L2
namespace HT
open PySem PyProof.Rows
section
open PySem.SeqAt
open PySem.AutoSeq1 (wpAny_loadPart')
open PySem.MeetsSeq PySem.MeetsSeq2 PySem.MeetsSeq3
end
section
variable {prog:Program}{w:World}{A:Around}{E:Value→Shared→Prop}{s:Shared}
def sIx (n d:Nat):Option Int→Nat
 | none=>d
 | some v=>if v<0 then (v+(n:Int)).toNat else min v.toNat n
theorem c56 (n d:Nat) (hd:d≤n) (o:Option Int):sIx n d o≤n:=by
 cases o with
 | none=>exact hd
 | some v =>
   show (if v<0 then (v+(n:Int)).toNat else min v.toNat n)≤n
   by_cases hv:v<0
   · rw [if_pos hv]; omega
   · rw [if_neg hv]; exact Nat.min_le_right _ _
theorem b72 (v:Int) (n d:Nat):(if v<0 then max (v+(n:Int)) 0 else min v (n:Int))=((sIx n d (some v):Nat):Int):=by
 show (if v<0 then max (v+(n:Int)) 0 else min v (n:Int))=(((if v<0 then (v+(n:Int)).toNat else min v.toNat n):Nat):Int)
 by_cases hv:v<0
 · simp only [if_pos hv]; omega
 · simp only [if_neg hv]; omega
theorem b36 (lo hi:Option Int) (n:Nat):Builtin.Slice.sliceAdjust lo hi 1 (n:Int)=(((sIx n 0 lo:Nat):Int),((sIx n n hi:Nat):Int)):=by
 have h1:¬ ((1:Int)<0):=by omega
 unfold Builtin.Slice.sliceAdjust
 simp only [h1,if_false]
 refine Prod.ext ?_ ?_
 · cases lo with
   | none=>rfl
   | some v=>exact b72 v n 0
 · cases hi with
   | none=>rfl
   | some v=>exact b72 v n n
theorem b37 (i j:Nat):Builtin.Slice.slicePlaces (i:Int) (j:Int) 1=j - i:=by
 unfold Builtin.Slice.slicePlaces
 have h1:(1:Int) > 0:=by omega
 simp only [h1,if_true,Int.ediv_one]
 split <;> omega
theorem am4 {v:Value}{o:Option Int}{Q:Option Int→Shared→Prop}(p:IsPart v o) (h:Q o s):wpAny (model prog w) A (Builtin.Slice.slicePartIndex v) Q E s:=by
 cases p with
 | none=>exact slicePart_none h
 | int i t=>exact slicePart_int h
theorem ag5 {sl:Addr}{vl vu:Value}{lo hi:Option Int}{n:Nat}{Q:Int×Int×Nat→Shared→Prop}(hs:s.heap.IsSliceOf sl vl vu .none) (pl:IsPart vl lo) (pu:IsPart vu hi)
 (h:Q (((sIx n 0 lo:Nat):Int),1,sIx n n hi - sIx n 0 lo) s):wpAny (model prog w) A (Builtin.Slice.sliceApplied (.ref sl) (pure (n:Int))) Q E s:=by
 obtain ⟨os,hos,hcs,hds⟩:=id hs
 unfold Builtin.Slice.sliceApplied Builtin.Slice.sliceFields
 refine wpAny_bind (wpAny_bind (wpAny_field hos hds (x:=vl) rfl (wpAny_bind (wpAny_field hos hds (x:=vu) rfl (wpAny_bind (wpAny_field hos hds (x:=.none) rfl (wpAny_pure ?_)))))))
 refine wpAny_bind (slicePart_none ?_)
 show wpAny _ _ (if ((1:Int) == 0)=true then _ else _) _ _ s
 rw [if_neg (by decide)]
 refine wpAny_bind (am4 pl (wpAny_bind (am4 pu (wpAny_bind (wpAny_pure ?_)))))
 show wpAny _ _ (match Builtin.Slice.sliceAdjust lo hi 1 (n:Int) with | (lo,hi)=>pure (lo,(1:Int),Builtin.Slice.slicePlaces lo hi 1)) _ _ s
 rw [b36 lo hi n]
 show wpAny _ _ (pure (((sIx n 0 lo:Nat):Int),(1:Int),Builtin.Slice.slicePlaces ((sIx n 0 lo:Nat):Int) ((sIx n n hi:Nat):Int) 1)) _ _ s
 rw [b37]
 exact wpAny_pure h
theorem bh1 (xs:Array Value) (i k:Nat):((List.range k).filterMap fun (m:Nat)=>xs[((i:Int)+(m:Int)*1).toNat]?).toArray=((xs.toList.drop i).take k).toArray:=by
 have e:(fun (m:Nat)=>xs[((i:Int)+(m:Int)*1).toNat]?)=fun m=>xs[i+m]?:=by
  funext m
  have:((i:Int)+(m:Int)*1).toNat=i+m:=by omega
  rw [this]
 rw [e]
 have:=pick_run xs i k
 rw [List.filterMap_map] at this
 have e2:((fun x=>xs[x]?)∘fun x=>i+x)=fun m=>xs[i+m]?:=rfl
 rw [e2] at this
 rw [this]
theorem getItem_tuple_cut {t sl:Addr}{items:Array Value}{vl vu:Value}{lo hi:Option Int}{Q:Value→Shared→Prop}(ht:IsTup s.heap t items) (hs:s.heap.IsSliceOf sl vl vu .none) (pl:IsPart vl lo) (pu:IsPart vu hi)
 (hw:¬ (sIx items.size 0 lo=0∧sIx items.size items.size hi=items.size))
 (h:Q (.ref s.heap.objs.size) { s with heap:=s.heap.push { cls:=.type "tuple",data:=.seq ((items.toList.drop (sIx items.size 0 lo)).take (sIx items.size items.size hi - sIx items.size 0 lo)).toArray } })
 (hsz:items.size≤sizeLine):wpAny (model prog w) A (getItem (.ref t) (.ref sl)) Q E s:=by
 have htake:sizeOk (.seq ((items.toList.drop (sIx items.size 0 lo)).take (sIx items.size items.size hi - sIx items.size 0 lo)).toArray):=by
  show ((items.toList.drop (sIx items.size 0 lo)).take (sIx items.size items.size hi - sIx items.size 0 lo)).toArray.size≤sizeLine
  rw [List.size_toArray,List.length_take,List.length_drop,Array.length_toList]
  omega
 have hj:sIx items.size items.size hi≤items.size:=c56 _ _ (Nat.le_refl _) hi
 obtain ⟨os,hos,hcs,hds⟩:=id hs
 have hTs:s.TypeIs (.ref sl) "slice":=⟨os,hos,hcs⟩
 unfold getItem
 try with_reducible refine wpAny_holding ?_
 first | refine wpAny_bind (wpAny_pure ?_) | skip
 refine wpAny_bind (wpAny_sequenceKey ht.typeIs (by decide) ?_)
 refine wpAny_bind (wpAny_callSpecial?_slot (name:=Str.ofString "__getitem__") ht.typeIs PyProof.Rows.slot_tuple_getitem
  (wpAny_call_entry PyProof.Rows.slot_tuple_getitem ht.typeIs entry_tuple_getitem ?_ (args_tuple_getitem _ _)))
 show wpAny _ _ (Builtin.Tuple.tupleItemsOf (.ref t) >>= _) _ _ s
 refine wpAny_bind (tupleItemsOf_ ht ?_)
 refine wpAny_bind (wpAny_typeOf hTs ?_)
 rw [if_pos (by decide)]
 refine wpAny_bind (ag5 hs pl pu ?_)
 have hno:¬ ((((sIx items.size 0 lo:Nat):Int) == 0 && (1:Int) == 1 && (sIx items.size items.size hi - sIx items.size 0 lo) == items.size)=true):=by
  intro q
  rw [Bool.and_eq_true,Bool.and_eq_true] at q
  have q1:((sIx items.size 0 lo:Nat):Int)=0:=eq_of_beq q.1.1
  have q2:sIx items.size items.size hi - sIx items.size 0 lo=items.size:=eq_of_beq q.2
  exact hw ⟨by omega,by omega⟩
 show wpAny _ _ (if (((sIx items.size 0 lo:Nat):Int) == 0 && (1:Int) == 1 && (sIx items.size items.size hi - sIx items.size 0 lo) == items.size)=true then _ else _) _ _ s
 rw [if_neg hno,bh1]
 first
  | exact wpAny_bind (m:=Builtin.Tuple.tupleExact _) (wpAny_newObj_type (wpAny_pure ⟨_,rfl,wpAny_pure h⟩) htake)
  | exact wpAny_bind (m:=Builtin.Tuple.tupleExact _) (wpAny_newObj_type (wpAny_bind (wpAny_pure (wpAny_pure ⟨_,rfl,wpAny_pure h⟩))) htake)
  | exact wpAny_bind (wpAny_bind (m:=Builtin.Tuple.tupleExact _) (wpAny_newObj_type (wpAny_pure (wpAny_pure ⟨_,rfl,wpAny_pure h⟩)) htake))
  | exact wpAny_bind (wpAny_bind (m:=Builtin.Tuple.tupleExact _) (wpAny_newObj_type (wpAny_pure ⟨_,rfl,wpAny_pure h⟩) htake))
end
end HT
namespace L2
open PySem PySem.Spec PyProof.Rows
abbrev TO:=St→Hp→(Option Int→Hp→Prop)→Prop
def PO (X:Cx) (e:Option Expr) (t:TO):Prop :=
 ∀ (pins:List (Addr×Obj)) (s:Shared) (σ:St) (H:Hp) (Q:Option Int→Hp→Prop),Inv X pins σ H s→t σ H Q →
  wpAny (model X.prog X.w) X.A (evalPart e X.env) (fun u s'=>∃ o H',Inv X pins σ H' s'∧IsPart u o∧Q o H') X.xe s
def b73:TO:=fun _ H Q=>Q none H
def c57 (t:TE):TO:=fun σ H Q=>t σ H fun x H1=>∃ i,x=.int i∧Q (some i) H1
section
variable {X:Cx}{e:Expr}{te:TE}{lo hi:Option Expr}{tl th:TO}{pos p2:Pos}
theorem aw1:PO X none b73:=by
 intro pins s σ H Q I h
 rw [evalPart_none]
 exact wpAny_pure ⟨none,H,I,.none,h⟩
theorem aw2 (h:PE X e te):PO X (some e) (c57 te):=by
 intro pins s σ H Q I hw
 rw [evalPart_some]
 refine thn (h pins s σ H _ I hw) ?_
 rintro u s1 ⟨x,H1,I1,r1,q1⟩
 obtain ⟨i,rfl,q⟩:=q1
 obtain ⟨t,rfl⟩:=r1
 exact ⟨some i,H1,I1,.int i t,q⟩
def SlR (X:Cx) (r:V→Option Int→Option Int→Hp→VK→Prop):Prop :=
 ∀ (pins:List (Addr×Obj)) (s:Shared) (σ:St) (H:Hp) (x:V) (v vl vu:Value) (lo hi:Option Int) (sl:Addr) (Q:VK),Inv X pins σ H s→RelV x v→s.heap.IsSliceOf sl vl vu .none→IsPart vl lo→IsPart vu hi→r x lo hi H Q →
  ∃ T id,typeLookup (.type T) "__getitem__"=pure (some (.builtin id))∧s.TypeIs v T∧wpAny (model X.prog X.w) X.A (getItem v (.ref sl)) (EP X pins σ Q) X.xe s
def tSl (r:V→Option Int→Option Int→Hp→VK→Prop) (te:TE) (tl th:TO):TE:=fun σ H Q=>te σ H fun x H1=>tl σ H1 fun l H2=>th σ H2 fun u H3=>r x l u H3 Q
theorem ao7 {r:V→Option Int→Option Int→Hp→VK→Prop}(hr:SlR X r) (he:PE X e te) (hl:PO X lo tl) (hu:PO X hi th):PE X (.Subscript e (.Slice lo hi none p2) pos) (tSl r te tl th):=by
 intro pins s σ H Q I h
 refine Subscript_ (thn (he pins s σ H _ I h) ?_)
 rintro v s1 ⟨x,H1,I1,r1,q1⟩
 refine wpAny_Slice (thn (hl pins s1 σ H1 _ I1 q1) ?_)
 rintro vl s2 ⟨l,H2,I2,pl,q2⟩
 refine thn (hu pins s2 σ H2 _ I2 q2) ?_
 rintro vu s3 ⟨u,H3,I3,pu,q3⟩
 rw [evalPart_none]
 refine wpAny_pure ?_
 have I4:Inv X pins σ H3 { s3 with heap:=s3.heap.push { cls:=.type "slice",data:=.fields #[vl,vu,.none] } }:=I3.kept (t':=s3.toks) fun b ob q=>Heap.get?_push_of_some _ q
 obtain ⟨T,id,hT,ht,hg⟩:=hr pins { s3 with heap:=s3.heap.push { cls:=.type "slice",data:=.fields #[vl,vu,.none] } } σ H3 x v vl vu l u s3.heap.objs.size Q I4 r1 (Heap.IsSliceOf.new ..) pl pu q3
 show wpAny (model X.prog X.w) X.A (subscriptTail e (.Slice lo hi none p2) v (.ref s3.heap.objs.size)) (EP X pins σ Q) X.xe { s3 with heap:=s3.heap.push { cls:=.type "slice",data:=.fields #[vl,vu,.none] } }
 exact tail_any (ops:=[.ref s3.heap.objs.size,v]) ht hT hg (by with_unfolding_all rfl)
def cutV (xs:List V) (lo hi:Option Int):List V:=(xs.drop (HT.sIx xs.length 0 lo)).take (HT.sIx xs.length xs.length hi - HT.sIx xs.length 0 lo)
theorem ai2 (xs:List V) (lo hi:Option Int):(cutV xs lo hi).length≤xs.length:=by
 unfold cutV
 rw [List.length_take,List.length_drop]
 omega
def rSlT (K:PySem.W.Frag):V→Option Int→Option Int→Hp→VK→Prop:=fun x lo hi H Q=>∃ a xs,x=.ref a∧SqT K H a xs ∧
 ¬ (HT.sIx xs.length 0 lo=0∧HT.sIx xs.length xs.length hi=xs.length)∧∀ p,H p=none→Q (.ref p) (upd H p (.tup (cutV xs lo hi)))
theorem c58:SlR X (rSlT X.K):=by
 intro pins s σ H x v vl vu lo hi sl Q I rx hs pl pu h
 obtain ⟨a,xs,rfl,hx,hw,q⟩:=h
 cases rx
 obtain ⟨its,r,ht,hz⟩:=I.tuple hx
 have hlen:its.toArray.size=xs.length:=by rw [List.size_toArray]; exact r.length.symm
 refine ⟨"tuple",_,PyProof.Rows.slot_tuple_getitem.lookup,ht.typeIs,?_⟩
 refine HT.getItem_tuple_cut ht hs pl pu (by rw [hlen]; exact hw) ?_ (by rw [hlen]; exact hz)
 rw [hlen]
 refine ⟨.ref s.heap.objs.size,_,I.laid (t':=s.toks) (o:=.tup (cutV xs lo hi)) (fun b ob q=>Heap.get?_push_of_some _ q) (Nat.le_refl _) ?_,rfl,q _ (I.hok.fresh (Nat.le_refl _))⟩
 exact ⟨Nat.le_trans (ai2 xs lo hi) hz,_,(r.drop (HT.sIx xs.length 0 lo)).take (HT.sIx xs.length xs.length hi - HT.sIx xs.length 0 lo),IsTup.new _ _⟩
end
def ixN (n:Nat) (i:Int):Option Nat:=if 0≤i then (if i<n then some i.toNat else none) else if -(n:Int)≤i then some (i+n).toNat else none
def atI {α:Type}(xs:List α) (i:Int):Option α:=(ixN xs.length i).bind fun j=>xs[j]?
theorem b74 {n:Nat}{i:Int}{j:Nat}(h:ixN n i=some j):seqIndex? i n=some j∧j<n∧-(n:Int)≤i∧i<n:=by
 unfold ixN at h
 by_cases h0:0≤i
 · rw [if_pos h0] at h
   by_cases h1:i<n
   · rw [if_pos h1] at h
     have e:i.toNat=j:=Option.some.inj h
     exact ⟨by rw [seqIndex_of h0 h1,e],by omega,by omega,h1⟩
   · rw [if_neg h1] at h; cases h
 · rw [if_neg h0] at h
   by_cases h1:-(n:Int)≤i
   · rw [if_pos h1] at h
     have e:(i+n).toNat=j:=Option.some.inj h
     exact ⟨by rw [seqIndex_neg (by omega) h1,e],by omega,h1,by omega⟩
   · rw [if_neg h1] at h; cases h
theorem aw3 {α:Type}{xs:List α}{i:Int}{v:α}(h:atI xs i=some v):∃ j,seqIndex? i xs.length=some j∧xs[j]?=some v∧j<xs.length∧-(xs.length:Int)≤i∧i<xs.length:=by
 unfold atI at h
 cases e:ixN xs.length i with
 | none=>rw [e] at h; cases h
 | some j =>
   rw [e] at h
   obtain ⟨h1,h2,h3,h4⟩:=b74 e
   exact ⟨j,h1,h,h2,h3,h4⟩
theorem a04 {α:Type}{xs:List α}{j:Nat}{v:α}(h:xs[j]?=some v):atI xs (j:Int)=some v:=by
 have hj:j<xs.length:=(List.getElem?_eq_some_iff.mp h).1
 have e:ixN xs.length (j:Int)=some j:=by
  unfold ixN
  rw [if_pos (by omega),if_pos (by omega)]; simp
 unfold atI; rw [e]; exact h
theorem aa9 {α:Type}(xs:List α) (v:α):atI (xs++[v]) (-1)=some v:=by
 have hl:(xs++[v]).length=xs.length+1:=by simp
 have e:ixN (xs++[v]).length (-1)=some xs.length:=by
  unfold ixN
  rw [hl,if_neg (by decide),if_pos (by omega)]
  congr 1
  omega
 unfold atI
 rw [e]
 show (xs++[v])[xs.length]?=some v
 simp
def bt5 (b:Expr):Prop:=∀ o i,subscripted b false o i=operate [o,i] (getItem o i)
def IxR (X:Cx) (r:R2):Prop :=
 ∀ (value slice:Expr) (pins:List (Addr×Obj)) (s:Shared) (σ:St) (H:Hp) (x y:V) (v u:Value) (Q:VK),Inv X pins σ H s→RelV x v→RelV y u→r x y H Q →
  subscripted slice false v u=operate [v,u] (getItem v u)→wpAny (model X.prog X.w) X.A (subscriptTail value slice v u) (EP X pins σ Q) X.xe s
def MtR (X:Cx) (id:String) (r:V→List V→Hp→VK→Prop):Prop :=
 ∀ (pins:List (Addr×Obj)) (s:Shared) (σ:St) (H:Hp) (x:V) (xs:List V) (v:Value) (us:List Value) (Q:VK),Inv X pins σ H s→RelV x v→Vals xs us→r x xs H Q →
  wpAny (model X.prog X.w) X.A (call (.builtin id) (v::us)) (EP X pins σ Q) X.xe s
section
variable {X:Cx}{a b:Expr}{ta tb:TE}{pos:Pos}
theorem IxR.or {r r':R2}(h:IxR X r) (h':IxR X r'):IxR X (fun x y H Q=>r x y H Q∨r' x y H Q):=by
 intro value slice pins s σ H x y v u Q I rx ry q hs
 rcases q with q | q
 · exact h value slice pins s σ H x y v u Q I rx ry q hs
 · exact h' value slice pins s σ H x y v u Q I rx ry q hs
theorem a12 {r:R2}(hr:IxR X r) (ha:PE X a ta) (hb:PE X b tb) (hs:bt5 b):PE X (.Subscript a b pos) (tOp r ta tb):=by
 intro pins s σ H Q I h
 exact Subscript_ (binT ha hb I h fun v u s2 x y H2 I2 rx ry q=>hr a b pins s2 σ H2 x y v u Q I2 rx ry q (hs _ _))
def rIxL (K:PySem.W.Frag):R2:=fun x y H Q=>∃ p xs i v,x=.ref p∧y=.int i∧SqL K H p xs∧atI xs i=some v∧Q v H
def rIxT (K:PySem.W.Frag):R2:=fun x y H Q=>∃ p xs i v,x=.ref p∧y=.int i∧SqT K H p xs∧atI xs i=some v∧Q v H
def rIxS:R2:=fun x y H Q=>∃ z i c,x=.str z∧y=.int i∧z.length≤sizeLine∧atI z.cps.toList i=some c∧Q (.str ⟨#[c]⟩) H
theorem ix_list:IxR X (rIxL X.K):=by
 intro value slice pins s σ H x y v u Q I rx ry h hs
 obtain ⟨p,xs,i,z,rfl,rfl,hq,he,q⟩:=h
 cases rx
 obtain ⟨t,rfl⟩:=ry
 obtain ⟨its,r,pl,hz⟩:=I.list hq
 obtain ⟨j,h1,h2,h3,h4,h5⟩:=aw3 he
 obtain ⟨w,ew,rw'⟩:=r.get h2
 have hl:=r.length
 have hn:=am2
 have fin:EP X pins σ Q w s:=⟨z,H,I,rw',q⟩
 by_cases h0:0≤i
 · have hj:i.toNat=j:=by
    rw [seqIndex_of h0 h5] at h1
    exact Option.some.inj h1
   exact item_listR pl.isList h0 (by omega) (by rw [hj]; simpa using ew) fin hs
 · have hj:(i+(its.toArray.size:Int)).toNat=j:=by
    rw [seqIndex_neg (by omega) h4] at h1
    rw [List.size_toArray,←hl]
    exact Option.some.inj h1
   exact subscriptTail_builtinR (x:=w) pl.isList.typeIs slot_list_getitem.lookup
    (wpAny_getItem_list_neg (Q:=fun r s'=>r=w∧EP X pins σ Q r s') pl.isList (by omega) (by rw [List.size_toArray] <;> omega) (by omega) (by rw [hj]; simpa using ew) ⟨rfl,fin⟩) hs
theorem ix_tup:IxR X (rIxT X.K):=by
 intro value slice pins s σ H x y v u Q I rx ry h hs
 obtain ⟨p,xs,i,z,rfl,rfl,hq,he,q⟩:=h
 cases rx
 obtain ⟨t,rfl⟩:=ry
 obtain ⟨its,r,pl,hz⟩:=I.tuple hq
 obtain ⟨j,h1,h2,h3,h4,h5⟩:=aw3 he
 obtain ⟨w,ew,rw'⟩:=r.get h2
 have hl:=r.length
 have hn:=am2
 have fin:EP X pins σ Q w s:=⟨z,H,I,rw',q⟩
 exact subscriptTail_builtinR (x:=w) pl.typeIs slot_tuple_getitem.lookup
  (getItem_tuple (j:=j) (Q:=fun r s'=>r=w∧EP X pins σ Q r s') pl (by omega) (by omega) (by rw [List.size_toArray,←hl]; exact h1) (by simpa using ew) ⟨rfl,fin⟩) hs
theorem c59:IxR X rIxS:=by
 intro value slice pins s σ H x y v u Q I rx ry h hs
 obtain ⟨z,i,c,rfl,rfl,hz,he,q⟩:=h
 obtain ⟨t,rfl⟩:=rx
 obtain ⟨t',rfl⟩:=ry
 obtain ⟨j,h1,h2,h3,h4,h5⟩:=aw3 he
 have hl:z.cps.toList.length=z.length:=by simp [Str.length]
 rw [hl] at h1 h4 h5
 have hn:=am2
 exact tail_any (typeIs_str s z t) slot_str_getitem.lookup (getItem_str (c:=c) (by
  have e1:decide (i < -(2 ^ 63:Int))=false:=decide_eq_false (by omega)
  have e2:decide (i ≥ 2 ^ 63)=false:=decide_eq_false (by omega)
  rw [e1,e2,Bool.or_false]) (by rw [h1]; simpa using h2) ⟨.str ⟨#[c]⟩,H,I.tok _,⟨_,rfl⟩,q⟩) hs
def rIx (K:PySem.W.Frag):R2:=fun x y H Q=>rIxL K x y H Q∨rIxT K x y H Q∨rIxS x y H Q
theorem c60:IxR X (rIx X.K):=ix_list.or (ix_tup.or c59)
theorem b38 (its:List Value) (n j:Nat) (u:Value):Obj.mapSeq (·.setIfInBounds j u) { cls:=.type "list",data:=.seq its.toArray n }={ cls:=.type "list",data:=.seq (its.set j u).toArray n }:=by
 simp [Obj.mapSeq]
theorem Inv.lst {pins:List (Addr×Obj)}{σ:St} {H:Hp}{s:Shared}{p:Addr}{xs:List V}(I:Inv X pins σ H s) (h:H p=some (.lst xs)) :
 ∃ (its:List Value) (n:Nat),Vals xs its∧s.heap.get? p=some { cls:=.type "list",data:=.seq its.toArray n }∧xs.length≤sizeLine:=by
 obtain ⟨z,its,n,r,e⟩:=I.hok p _ h
 exact ⟨its,n,r,e,z⟩
theorem Inv.lstUpd {pins:List (Addr×Obj)}{σ:St} {H:Hp}{s:Shared}{p:Addr}{xs ys:List V}{its its':List Value}{n n':Nat}{f:Obj→Obj}(I:Inv X pins σ H s) (h:H p=some (.lst xs))
 (ho:s.heap.get? p=some { cls:=.type "list",data:=.seq its.toArray n }) (hf:f { cls:=.type "list",data:=.seq its.toArray n }={ cls:=.type "list",data:=.seq its'.toArray n' }) (r:Vals ys its') (hz:ys.length≤sizeLine) (t:Nat) :
 Inv X pins σ (upd H p (.lst ys)) { s with heap:=s.heap.update p f,toks:=t }:=by
 have e:(s.heap.update p f).get? p=some { cls:=.type "list",data:=.seq its'.toArray n' }:=by
  rw [Heap.get?_update_self f ho (by rw [hf] <;> rfl),hf]
 refine I.write (x:=p) (e:=p) (by rw [h]; trivial) (.inl rfl) (fun b u hb q=>(Heap.get?_update_other _ _ (Ne.symm hb)).trans q) ⟨_,e⟩ ?_
 exact ⟨hz,its',n',r,e⟩
def c61:V→V→V→Hp→(Hp→Prop)→Prop:=fun o i v H Q=>∃ p xs k j,o=.ref p∧i=.int k∧H p=some (.lst xs)∧ixN xs.length k=some j∧Q (upd H p (.lst (xs.set j v)))
theorem az4:PSet X c61:=by
 intro pins s σ H o i v ov iv u Q I ro ri rv h
 obtain ⟨p,xs,k,j,rfl,rfl,hp,hj,q⟩:=h
 cases ro
 obtain ⟨t,rfl⟩:=ri
 obtain ⟨its,n,r,ho,hz⟩:=I.lst hp
 obtain ⟨h1,h2,h3,h4⟩:=b74 hj
 have hl:=r.length
 have hn:=am2
 have I':Inv X pins σ (upd H p (.lst (xs.set j v))) { s with heap:=s.heap.update p (Obj.mapSeq (·.setIfInBounds j u)) } :=
  I.lstUpd hp ho (b38 its n j u) (r.set rv j) (by rw [List.length_set]; exact hz) s.toks
 by_cases h0:0≤k
 · have hk:k.toNat=j:=by
    rw [seqIndex_of h0 h4] at h1
    exact Option.some.inj h1
   exact PySem.W.ki_setAt ho h0 (by omega) (by rw [List.size_toArray,←hl]; exact h4) (by rw [hk]; exact ⟨_,I',q⟩)
 · have hk:(k+(its.toArray.size:Int)).toNat=j:=by
    rw [seqIndex_neg (by omega) h3] at h1
    rw [List.size_toArray,←hl]
    exact Option.some.inj h1
   exact PySem.W.ki_setBack ho (by omega) (by rw [List.size_toArray,←hl]; exact h3) (by omega) (by rw [hk]; exact ⟨_,I',q⟩)
theorem as2 (lo hi:Option Int) (n:Nat):(sliceBounds lo hi none n).1=((HT.sIx n 0 lo:Nat):Int)∧(sliceBounds lo hi none n).2.1=((HT.sIx n n hi:Nat):Int)∧(sliceBounds lo hi none n).2.2=1:=by
 refine ⟨?_,?_,rfl⟩
 · cases lo with
   | none=>simp [sliceBounds,HT.sIx]
   | some i =>
     simp only [sliceBounds,HT.sIx,Option.getD_none,show (1:Int) > 0 by decide,if_true]
     by_cases h:i<0
     · simp only [h,if_true] <;> omega
     · simp only [h,if_false] <;> omega
 · cases hi with
   | none=>simp [sliceBounds,HT.sIx]
   | some i =>
     simp only [sliceBounds,HT.sIx,Option.getD_none,show (1:Int) > 0 by decide,if_true]
     by_cases h:i<0
     · simp only [h,if_true] <;> omega
     · simp only [h,if_false] <;> omega
theorem ao8 (its:List Value) (lo hi:Option Int):slicePick its.toArray lo hi none=((its.drop (HT.sIx its.length 0 lo)).take (HT.sIx its.length its.length hi - HT.sIx its.length 0 lo)).toArray:=by
 obtain ⟨h1,h2,h3⟩:=as2 lo hi its.toArray.size
 unfold slicePick
 rw [h1,h2,h3]
 simp only [sliceRange_one,pick_run,List.size_toArray] <;> rfl
def rSlL (K:PySem.W.Frag):V→Option Int→Option Int→Hp→VK→Prop:=fun x lo hi H Q=>∃ a xs,x=.ref a∧SqL K H a xs∧∀ p,H p=none→Q (.ref p) (upd H p (.lst (cutV xs lo hi)))
theorem bt6:SlR X (rSlL X.K):=by
 intro pins s σ H x v vl vu lo hi sl Q I rx hs pl pu h
 obtain ⟨a,xs,rfl,hx,q⟩:=h
 cases rx
 obtain ⟨its,r,ht,hz⟩:=I.list hx
 have hlen:=r.length
 refine ⟨"list",_,slot_list_getitem.lookup,ht.isList.typeIs,?_⟩
 refine wpAny_getItem_list_slice ht.isList hs pl pu .none (by simp) ?_ (by rw [List.size_toArray] <;> omega)
 rw [ao8,←hlen]
 refine ⟨.ref s.heap.objs.size,_,I.laid (t':=s.toks) (o:=.lst (cutV xs lo hi)) (fun b ob q=>Heap.get?_push_of_some _ q) (Nat.le_refl _) ?_,rfl,q _ (I.hok.fresh (Nat.le_refl _))⟩
 exact ⟨Nat.le_trans (ai2 xs lo hi) hz,_,0,(r.drop (HT.sIx xs.length 0 lo)).take (HT.sIx xs.length xs.length hi - HT.sIx xs.length 0 lo),Heap.get?_push_size _ rfl⟩
def as3:V→Bool
 | .non=>true
 | .bl _=>true
 | .int _=>true
 | .str _=>true
 | _=>false
def eqV:V→V→Bool
 | .non,.non=>true
 | .bl a,.bl b=>a == b
 | .bl a,.int b=>(if a then 1 else 0) == b
 | .int a,.bl b=>a == (if b then 1 else 0)
 | .int a,.int b=>a == b
 | .str a,.str b=>a == b
 | _,_=>false
theorem c62 {A:Around}{s:Shared}{y x:V}{u v:Value}(ry:RelV y u) (rx:RelV x v) (fy:as3 y=true) (fx:as3 x=true):SeqAt.EqAt A s u v (eqV y x):=by
 cases y with
 | non =>
   cases ry
   cases x with
   | non=>cases rx; exact SeqAt.EqAt.same _
   | bl b=>cases rx; exact SeqAt.EqAt.none_bool b
   | int b=>obtain ⟨t,rfl⟩:=rx; exact SeqAt.EqAt.none_int b t
   | str b=>obtain ⟨t,rfl⟩:=rx; exact SeqAt.EqAt.none_str b t
   | _=>exact absurd (show false=true from fx) Bool.false_ne_true
 | bl a =>
   cases ry
   cases x with
   | non=>cases rx; exact SeqAt.EqAt.bool_none a
   | bl b=>cases rx; exact SeqAt.EqAt.bool_bool a b
   | int b=>obtain ⟨t,rfl⟩:=rx; exact SeqAt.EqAt.bool_int a b t
   | str b=>obtain ⟨t,rfl⟩:=rx; exact SeqAt.EqAt.bool_str a b t
   | _=>exact absurd (show false=true from fx) Bool.false_ne_true
 | int a =>
   obtain ⟨t',rfl⟩:=ry
   cases x with
   | non=>cases rx; exact SeqAt.EqAt.int_none a t'
   | bl b=>cases rx; exact SeqAt.EqAt.int_bool a t' b
   | int b=>obtain ⟨t,rfl⟩:=rx; exact SeqAt.EqAt.int_int a t' b t
   | str b=>obtain ⟨t,rfl⟩:=rx; exact SeqAt.EqAt.int_str a t' b t
   | _=>exact absurd (show false=true from fx) Bool.false_ne_true
 | str a =>
   obtain ⟨t',rfl⟩:=ry
   cases x with
   | non=>cases rx; exact SeqAt.EqAt.str_none a t'
   | bl b=>cases rx; exact SeqAt.EqAt.str_bool a t' b
   | int b=>obtain ⟨t,rfl⟩:=rx; exact SeqAt.EqAt.str_int a t' b t
   | str b=>obtain ⟨t,rfl⟩:=rx; exact SeqAt.EqAt.str_str a t' b t
   | _=>exact absurd (show false=true from fx) Bool.false_ne_true
 | _=>exact absurd (show false=true from fy) Bool.false_ne_true
def eqU (x:V) (u:Value):Bool:=match u with
 | .none=>eqV .non x
 | .bool b=>eqV (.bl b) x
 | .int i _=>eqV (.int i) x
 | .str z _=>eqV (.str z) x
 | _=>false
theorem c63 {x y:V}{u:Value}(r:RelV y u) (f:as3 y=true):eqU x u=eqV y x:=by
 cases y with
 | non=>cases r; rfl
 | bl b=>cases r; rfl
 | int i=>obtain ⟨t,rfl⟩:=r; rfl
 | str z=>obtain ⟨t,rfl⟩:=r; rfl
 | _=>exact absurd (show false=true from f) Bool.false_ne_true
theorem az5 {A:Around}{s:Shared}{x:V}{v:Value}(rx:RelV x v) (fx:as3 x=true):∀ {xs:List V}{us:List Value},Vals xs us→xs.all as3=true→∀ u∈us,SeqAt.EqAt A s u v (eqU x u)
 | _,_,.nil,_=>fun u hu=>by cases hu
 | y::xs,u::us,.cons r t,f=>fun u' hu=>by
   rw [List.all_cons,Bool.and_eq_true] at f
   rcases List.mem_cons.mp hu with rfl | hu
   · rw [c63 r f.1]; exact c62 r rx f.1 fx
   · exact az5 rx fx t f.2 u' hu
theorem as4:CallR X (.type "list") (fun xs H Q=>∃ p ys,xs=[.ref p]∧(SqL X.K H p ys∨SqT X.K H p ys)∧∀ l,H l=none→Q (.ref l) (upd H l (.lst ys))):=by
 intro pins s σ H xs us Q I r h
 obtain ⟨p,ys,rfl,hq,q⟩:=h
 obtain ⟨u,rfl,rx⟩:=ao5 r
 cases rx
 have fin:∀ (its:List Value),Vals ys its→ys.length≤sizeLine→∀ (h':Heap) (c':Nat),(∀ b o',s.heap.get? b=some o'→h'.get? b=some o') →
  h'.get? s.heap.objs.size=some { cls:=.type "list",dict:=none,data:=.seq its.toArray c',slots:=#[] }→EP X pins σ Q (.ref s.heap.objs.size) { s with heap:=h' }:=fun its r' hz h' c' kp e =>
  ⟨.ref s.heap.objs.size,_,I.laid (t':=s.toks) kp (Nat.le_refl _) (show ObjOk X.prog X.w _ h' _ (.lst ys) from ⟨hz,its,c',r',e⟩),rfl,q _ (I.hok.fresh (Nat.le_refl _))⟩
 rcases hq with hq | hq
 · obtain ⟨its,r',pl,hz⟩:=I.list hq
   have hlen:=r'.length
   obtain ⟨o,ho,hc,n,hd⟩:=pl.isList
   exact call_list_seq p (.inl rfl) ho hc hd (fun h' c' kp e=>fin its r' hz h' c' kp e) (by simp only [List.size_toArray] <;> omega)
 · obtain ⟨its,r',pl,hz⟩:=I.tuple hq
   have hlen:=r'.length
   obtain ⟨o,ho,hc,n,hd⟩:=pl
   exact call_list_seq p (.inr rfl) ho hc hd (fun h' c' kp e=>fin its r' hz h' c' kp e) (by simp only [List.size_toArray] <;> omega)
theorem ao9:CallR X (.type "tuple") (fun xs H Q=>∃ p ys,xs=[.ref p]∧((SqL X.K H p ys∧∀ l,H l=none→Q (.ref l) (upd H l (.tup ys)))∨(SqT X.K H p ys∧Q (.ref p) H))):=by
 intro pins s σ H xs us Q I r h
 obtain ⟨p,ys,rfl,h⟩:=h
 obtain ⟨u,rfl,rx⟩:=ao5 r
 cases rx
 rcases h with ⟨hq,q⟩ | ⟨hq,q⟩
 · obtain ⟨its,r',pl,hz⟩:=I.list hq
   have hlen:=r'.length
   refine call_tuple_list pl.isList (fun h' kp=>?_) (by simp only [List.size_toArray] <;> omega)
   have I1:Inv X pins σ H { s with heap:=h' }:=I.kept (t':=s.toks) kp
   have I2:Inv X pins σ (upd H h'.objs.size (.tup ys)) { s with heap:=h'.push { cls:=.type "tuple",data:=.seq its.toArray } } :=
    I1.laid (t':=s.toks) (fun b o e=>Heap.get?_push_of_some _ e) (Nat.le_refl _) (show ObjOk X.prog X.w _ _ _ (.tup ys) from ⟨hz,its,r',IsTup.new _ _⟩)
   exact ⟨.ref h'.objs.size,_,I2,rfl,q _ (I1.hok.fresh (Nat.le_refl _))⟩
 · obtain ⟨its,r',pl,hz⟩:=I.tuple hq
   exact call_tuple_same pl ⟨.ref p,H,I,rfl,q⟩
def tyV (K:PySem.W.Frag) (T:String) (x:V) (H:Hp):Prop:=match x with
 | .str _=>T="str"
 | .int _=>T="int"
 | .ref p=>(T="list"∧∃ xs,SqL K H p xs)∨(T="tuple"∧∃ o,K.lookup p=some o∧o.cls=.type "tuple"∧o.dict=none) ∨
  (T="dict"∧((∃ kvs,H p=some (.dK kvs))∨∃ kvs,H p=some (.dT kvs)))∨(T="set"∧∃ S n,H p=some (.set S n))
 | _=>False
theorem bo4 {pins:List (Addr×Obj)}{σ:St} {H:Hp}{s:Shared}{T:String}{x:V}{v:Value}(I:Inv X pins σ H s) (r:RelV x v) (ty:tyV X.K T x H) :
 s.TypeIs v T∧∀ a,v=.ref a→∃ ob,s.heap.get? a=some ob∧ob.dict=none:=by
 cases x with
 | str z =>
   obtain ⟨t,rfl⟩:=r
   cases (show T="str" from ty)
   exact ⟨typeIs_str s z t,fun _ e=>nomatch e⟩
 | int i =>
   obtain ⟨t,rfl⟩:=r
   cases (show T="int" from ty)
   exact ⟨typeIs_int s i t,fun _ e=>nomatch e⟩
 | ref p =>
   cases r
   rcases ty with ⟨rfl,xs,hq⟩ | ⟨rfl,o,hk,hc,hd⟩ | ⟨rfl,hk⟩ | ⟨rfl,S,n,hk⟩
   · obtain ⟨its,_,pl,_⟩:=I.list hq
     refine ⟨pl.isList.typeIs,fun a e=>?_⟩
     cases e
     obtain ⟨o,n,e,c,hd,_⟩:=pl
     exact ⟨o,e,hd⟩
   · refine ⟨⟨o,I.kIn p o hk,hc⟩,fun a e=>?_⟩
     cases e
     exact ⟨o,I.kIn _ o hk,hd⟩
   · have z:∃ o,s.heap.get? p=some o∧o.ExactDict:=by
      rcases hk with ⟨kvs,hk⟩ | ⟨kvs,hk⟩
      · obtain ⟨_,_,_,_,o,_,_,e,ex,_⟩:=I.hok p _ hk
        exact ⟨o,e,ex⟩
      · obtain ⟨_,_,_,_,o,_,_,e,ex,_⟩:=I.hok p _ hk
        exact ⟨o,e,ex⟩
     obtain ⟨o,e,ex⟩:=z
     refine ⟨⟨o,e,ex.1⟩,fun a e2=>?_⟩
     cases e2
     exact ⟨o,e,ex.2.1⟩
   · obtain ⟨o,_,_,_,e,ex,_⟩:=I.hok p _ hk
     refine ⟨⟨o,e,ex.1⟩,fun a e2=>?_⟩
     cases e2
     exact ⟨o,e,ex.2.1⟩
 | _=>exact False.elim ty
def tBM0 (K:PySem.W.Frag) (T:String) (r:V→List V→Hp→VK→Prop) (to:TE):TE:=fun σ H Q=>to σ H fun x H1=>tyV K T x H1∧r x [] H1 Q
def tBM (K:PySem.W.Frag) (T:String) (r:V→List V→Hp→VK→Prop) (to:TE) (t:TA):TE:=fun σ H Q=>to σ H fun x H1=>tyV K T x H1∧t σ H1 fun xs H2=>r x xs H2 Q
variable {o e:Expr}{es:List Expr}{to:TE}{t:TA}{name:Str}{apos cpos:Pos}{T id:String}{r:V→List V→Hp→VK→Prop}
theorem c64 (pa:PlainAttrs T) (slot:Slot T name id) (hty:typeOf (.builtin id)=pure (.type "method_descriptor")) (hm:MtR X id r) (ho:PE X o to)
 (hbase:attributeBase o name X.env (eval o X.env)=eval o X.env:=by rfl) (hline:(apos.endLine == cpos.line)=true:=by rfl):PE X (.Call (.Attribute o name apos) [] [] cpos) (tBM0 X.K T r to):=by
 intro pins s σ H Q I h
 refine wpAny_Call_method0_late hbase hline (thn (ho pins s σ H _ I h) ?_)
 rintro v s1 ⟨x,H1,I1,r1,ty,q1⟩
 obtain ⟨h1,h2⟩:=bo4 I1 r1 ty
 exact ⟨T,id,pa,slot,hty,h1,h2,Calls.callWith_builtin rfl (PySem.evalArgs_none (hm pins s1 σ H1 x [] v [] Q I1 r1 .nil q1))⟩
theorem cg7 (pa:PlainAttrs T) (slot:Slot T name id) (hty:typeOf (.builtin id)=pure (.type "method_descriptor")) (hm:MtR X id r) (ho:PE X o to) (ha:PA X (e::es) t)
 (hbase:attributeBase o name X.env (eval o X.env)=eval o X.env:=by rfl)
 (hfew:((backTo cpos (starEach (e::es) X.env)).all (fun x=>!x.1) && (backToKw cpos (keywordEach [] X.env)).all (fun x=>x.1.isSome)
  && decide ((e::es).length+([]:List Keyword).length+(if ([]:List Keyword).isEmpty then 0 else 1)<30))=true:=by rfl)
 (hline:(apos.endLine == cpos.line)=true:=by rfl) (hs:starEach (e::es) X.env=(false,eval e X.env)::starEach es X.env:=by rfl) (hplain:(backTo cpos (starEach es X.env)).any (·.1)=false:=by rfl) :
 PE X (.Call (.Attribute o name apos) (e::es) [] cpos) (tBM X.K T r to t):=by
 intro pins s σ H Q I h
 refine wpAny_Call_method_late hbase hfew hline rfl (thn (ho pins s σ H _ I h) ?_)
 rintro v s1 ⟨x,H1,I1,r1,ty,q1⟩
 obtain ⟨h1,h2⟩:=bo4 I1 r1 ty
 refine ⟨T,id,pa,slot,hty,h1,h2,?_⟩
 have hA:=ha cpos pins s1 σ H1 _ I1 q1
 rw [hs] at hA ⊢
 refine Calls.callWith_builtin (by show (false || (backTo cpos (starEach es X.env)).any (·.1))=false; rw [hplain] <;> rfl) (Calls.evalArgs_plain ?_)
 exact thn hA (by rintro us s2 ⟨vs,H2,I2,r2,q2⟩; exact hm pins s2 σ H2 x vs v us Q I2 r1 r2 q2)
/- xs.append(e),list.index on a module's tuple .. are MtR facts of 06m -/
end
def MtM (X:Cx) (id:String) (r:V→List V→Hp→VK→Prop):Prop :=
 ∀ (pins:List (Addr×Obj)) (s:Shared) (σ:St) (H:Hp) (x:V) (xs:List V) (v:Value) (us:List Value) (Q:VK),Inv X pins σ H s→RelV x v→Vals xs us→r x xs H Q →
  wpAny (model X.prog X.w) X.A (call (.builtin id) (v::us)) (EP X pins σ Q) X.xe s
theorem Vals.one:∀ {x:V}{us:List Value},Vals [x] us→∃ u,us=[u]∧RelV x u
 | _,_,.cons r .nil=>⟨_,rfl,r⟩
theorem Vals.zero:∀ {us:List Value},Vals [] us→us=[]
 | _,.nil=>rfl
theorem Vals.dropLast {xs:List V}{us:List Value}(h:Vals xs us):Vals xs.dropLast us.dropLast:=by
 induction h with
 | nil=>exact .nil
 | cons r t ih =>
   cases t with
   | nil=>exact .nil
   | cons q t'=>exact .cons r ih
theorem Vals.reverse {xs:List V}{us:List Value}(h:Vals xs us):Vals xs.reverse us.reverse:=by
 induction h with
 | nil=>exact .nil
 | cons r t ih=>rw [List.reverse_cons,List.reverse_cons]; exact Vals.append ih (.cons r .nil)
theorem b39 {α:Type}(l:List α):l.eraseIdx (l.length - 1)=l.dropLast:=by
 induction l with
 | nil=>rfl
 | cons a r ih =>
   cases r with
   | nil=>rfl
   | cons b r =>
     have e:(a::b::r).length - 1=((b::r).length - 1)+1:=by
      have h1:(a::b::r).length=r.length+2:=rfl
      have h2:(b::r).length=r.length+1:=rfl
      omega
     rw [e,List.eraseIdx_cons_succ,ih]
     all_goals rfl
section
variable {X:Cx}{pins:List (Addr×Obj)}{σ:St} {H:Hp}{s:Shared}{l b:Addr}{xs ys zs:List V}
theorem Inv.lset {its its':List Value}{n:Nat}{f:Array Value→Array Value}{t':Nat}(I:Inv X pins σ H s) (hH:H l=some (.lst xs))
 (e:s.heap.get? l=some { cls:=.type "list",data:=.seq its.toArray n }) (hf:f its.toArray=its'.toArray) (hv:Vals ys its') (hz:ys.length≤sizeLine) :
 Inv X pins σ (upd H l (.lst ys)) { s with heap:=s.heap.update l (Obj.mapSeq f),toks:=t' }:=by
 have q:=PySem.IsL.update e f
 rw [hf] at q
 refine I.write (x:=l) (e:=l) (by rw [hH]; exact trivial) (.inl rfl) (fun b' u hb hu=>(Heap.get?_update_other s.heap (Obj.mapSeq f) (Ne.symm hb)).trans hu) ⟨_,q⟩ ?_
 exact ⟨hz,its',_,hv,q⟩
theorem Inv.lnew {its:List Value}{t':Nat}(I:Inv X pins σ H s) (hv:Vals ys its) (hz:ys.length≤sizeLine) :
 Inv X pins σ (upd H s.heap.objs.size (.lst ys)) { s with heap:=s.heap.push { cls:=.type "list",data:=.seq its.toArray },toks:=t' } :=
 I.laid (fun _ _ q=>Heap.get?_push_of_some _ q) (Nat.le_refl _) ⟨hz,its,0,hv,Heap.get?_push_size _ rfl⟩
theorem Inv.fresh (I:Inv X pins σ H s):H s.heap.objs.size=none:=I.hok.fresh (Nat.le_refl _)
theorem Inv.lstM (I:Inv X pins σ H s) (hH:H l=some (.lst xs)):xs.length≤sizeLine∧∃ (its:List Value) (n:Nat),Vals xs its∧xs.length=its.length∧s.heap.get? l=some { cls:=.type "list",data:=.seq its.toArray n }:=by
 obtain ⟨z,its,n,r,e⟩:=I.hok l _ hH
 exact ⟨z,its,n,r,r.length,e⟩
theorem bh2 {n:Nat}(h:n≤sizeLine):Builtin.List.listTooLong n=false:=by
 unfold Builtin.List.listTooLong
 exact decide_eq_false (by omega)
end
section
variable {X:Cx}
def b75:V→List V→Hp→VK→Prop:=fun x vs H Q=>∃ l xs y,x=.ref l∧vs=[y]∧H l=some (.lst xs)∧xs.length<sizeLine∧Q .non (upd H l (.lst (xs++[y])))
theorem a40:MtM X "list.append" b75:=by
 intro pins s σ H x vs v us Q I rx rv h
 obtain ⟨l,xs,y,rfl,rfl,hH,hz,q⟩:=h
 cases rx
 obtain ⟨u,rfl,ru⟩:=rv.one
 obtain ⟨z,its,n,r,hl,e⟩:=I.lstM hH
 refine call_meets F.slot_list_append ⟨_,e,rfl⟩ F.entry_list_append (F.args_list_append_2 _ _) (PySem.list_append l its.toArray n u (by rw [List.size_toArray]; omega)) ⟨e,?_⟩
 refine ⟨.non,_,I.lset (its':=its++[u]) hH e (by simp) (r.append (.cons ru .nil)) ?_,rfl,q⟩
 rw [List.length_append,List.length_singleton]
 omega
def rPop:V→List V→Hp→VK→Prop:=fun x vs H Q=>∃ l xs y,x=.ref l∧vs=[]∧H l=some (.lst xs)∧xs[xs.length - 1]?=some y∧Q y (upd H l (.lst xs.dropLast))
theorem bo5:MtM X "list.pop" rPop:=by
 intro pins s σ H x vs v us Q I rx rv h
 obtain ⟨l,xs,y,rfl,rfl,hH,hy,q⟩:=h
 cases rx
 have hus:=rv.zero
 subst hus
 obtain ⟨z,its,n,r,hl,e⟩:=I.lstM hH
 obtain ⟨u,hu,ru⟩:=r.get hy
 have hy':its.toArray[its.toArray.size - 1]?=some u:=by
  show its.toArray[its.length - 1]?=some u
  rw [← Array.getElem?_toList,←hl]
  exact hu
 refine call_meets F.slot_list_pop ⟨_,e,rfl⟩ F.entry_list_pop (F.args_list_pop_1 _) (MeetsSeq.list_pop_last l its.toArray n u hy' (by rw [List.size_toArray]; omega)) ⟨e,?_⟩
 refine ⟨y,_,I.lset (its':=its.dropLast) hH e ?_ r.dropLast ?_,ru,q⟩
 · show its.toArray.eraseIdxIfInBounds (its.toArray.size - 1)=its.dropLast.toArray
   rw [List.size_toArray,List.eraseIdxIfInBounds_toArray,b39]
 · rw [List.length_dropLast]
   omega
def bh3:V→List V→Hp→VK→Prop:=fun x vs H Q=>∃ l xs,x=.ref l∧vs=[]∧H l=some (.lst xs)∧Q .non (upd H l (.lst xs.reverse))
theorem b40:MtM X "list.reverse" bh3:=by
 intro pins s σ H x vs v us Q I rx rv h
 obtain ⟨l,xs,rfl,rfl,hH,q⟩:=h
 cases rx
 have hus:=rv.zero
 subst hus
 obtain ⟨z,its,n,r,hl,e⟩:=I.lstM hH
 refine call_meets F.slot_list_reverse ⟨_,e,rfl⟩ F.entry_list_reverse (F.args_list_reverse_1 _) (AutoSeq1.list_reverse_list_0 l its.toArray n (by rw [List.size_toArray]; omega)) ⟨e,?_⟩
 refine ⟨.non,_,I.lset (its':=its.reverse) hH e (by simp) r.reverse ?_,rfl,q⟩
 rw [List.length_reverse]
 omega
def rCat:R2:=fun x y H Q=>∃ l b xs zs,x=.ref l∧y=.ref b∧H l=some (.lst xs)∧H b=some (.lst zs)∧xs.length+zs.length≤sizeLine∧∀ p,H p=none→Q (.ref p) (upd H p (.lst (xs++zs)))
theorem c65:OpR X (binaryOp .Add) rCat:=by
 intro pins s σ H x y v u Q I rx ry h
 obtain ⟨l,b,xs,zs,rfl,rfl,hH,hB,hz,q⟩:=h
 cases rx
 cases ry
 obtain ⟨z,its,n,r,hl,e⟩:=I.lstM hH
 obtain ⟨z2,its2,n2,r2,hl2,e2⟩:=I.lstM hB
 refine PySem.P.add_list e e2 ?_ (by rw [List.size_toArray,List.size_toArray]; omega)
 have ea:its.toArray++its2.toArray=(its++its2).toArray:=by simp
 rw [ea]
 exact ⟨.ref _,_,I.lnew (t':=s.toks) (r.append r2) (by rw [List.length_append]; omega),rfl,q _ I.fresh⟩
end
section
variable {prog:Program}{w:World}{A:Around}{E:Value→Shared→Prop}{s:Shared}
set_option maxRecDepth 100000 in
end
section
variable {X:Cx}
end
end L2
namespace Att
open PySem PySem.W PySem.Calls PyProof.Rows
theorem ai3 {P:Params}{h:Heap}:∀ (ns:List Int) (vs:List Value),WellAll P h vs (ns.map WData.int)→IntsAre vs ns:=by
 intro ns
 induction ns with
 | nil =>
   intro vs w
   rw [List.map_nil] at w
   cases w
   exact .nil
 | cons n ns ih =>
   intro vs w
   rw [List.map_cons] at w
   cases w with
   | cons a b =>
     cases a
     exact .cons _ _ (ih _ b)
theorem b76 {l:OpenLaw}{n:Nat}(hn:l.most=some n) {P:Params}{h:Heap}{args:List WData}{vals:List Value}
 (hpre:l.row.toRowW.claim.pre args=true) (hwl:WellAll P h vals args) :
 ∃ a vs ns,vals=[Value.ref a]∧args=[WData.list (ns.map WData.int)]∧h.get? a=some { cls:=.type "list",data:=.seq vs.toArray }∧IntsAre vs ns∧ns.length≤n:=by
 have hsh:WShape.hasAll [] args [.list .int]=true:=(pre_splitW hpre).1
 have hc:l.pre.holds [] { args:=args }=true:=(pre_splitW hpre).2
 obtain ⟨d,r,rfl,h1,h2⟩:=hasAllW_cons hsh
 obtain rfl:=hasAllW_nil h2
 obtain ⟨xs,rfl,h3⟩:=hasW_list h1
 obtain ⟨ns,rfl⟩:=items_int h3
 have hlen:ns.length≤n:=by
  unfold OpenLaw.pre at hc
  have h4:(WTm.not (.lt (.lit (.int (n:Int))) (.len (.arg 0)))).holds [] { args:=[.list (ns.map .int)] }=true:=by
   have h4:=(holds_andW hc).1
   rw [hn] at h4
   exact h4
  have h5:=condW_of h4 (w_not (w_lt w_lit (w_len_list (w_arg rfl))))
  rw [List.length_map] at h5
  refine Nat.le_of_not_lt fun q=>?_
  have q':(n:Int)<((ns.length:Nat):Int):=by omega
  first
   | (rw [decide_eq_true q'] at h5; exact absurd h5 (by decide))
   | (simp at h5; omega)
 cases hwl with
 | cons w1 w2 =>
   cases w2
   cases w1 with
   | list ho hall=>exact ⟨_,_,ns,rfl,rfl,ho,ai3 ns _ hall,hlen⟩
theorem b77 (l:OpenLaw) (args:List WData):l.row.toRowW.claim.post args (.bool true) args=true :=
 postW_of (r:=l.row.toRowW) (X:=(true == true))
  (show WShape.has [] (.bool true) .bool=true by first | rfl | decide | simp [WShape.has,WShape.arms,WShape.armsAll])
  (show (WTm.eq .res (.lit (.bool true))).value [] { args:=args,res:=some (.bool true),after:=args }=some (.bool (true == true)) from w_eq_bool (w_res rfl) w_lit) rfl
theorem attach_call {l:OpenLaw}{n:Nat}{q:Program}{loose:List Str}{XP:(Str→Option Value)→Heap→Prop}{YP:World→Heap→Prop}{d:DefRec}
 (hn:l.most=some n) (hdf:d.params.defaults=[])
 (call:∀ (w:World) (s₀ s₁:Shared) (mg mb:Str→Option Value) (fa:Addr) (o:Obj) (pm cd doc:Value) (a:Addr) (vs:List Value) (ns:List Int),
  Ground q loose [] XP w s₀ mg mb s₁.heap→YP w s₁.heap →
  s₁.heap.get? fa=some o→o.data=.func (docDef d.name d.params d.body d.scope pm cd doc)→s₁.heap.CodeRec cd d.name→mg d.name=some (.ref fa) →
  s₁.heap.get? a=some { cls:=.type "list",data:=.seq vs.toArray }→IntsAre vs ns→ns.length≤n→s₁.gens=#[] →
  codeAny (model l.prog w) callerA (.call (.ref fa) ⟨[.ref a],[]⟩) (fun r s'=>r=.ok (.ret (.bool true))∧OldK s₁.heap s'.heap∧s'.os=s₁.os∧AllBare s'.gens) s₁) :
 WalkO q loose XP YP l.row.toRowW d [] (fun f vs=>PySem.call f vs):=by
 intro w s₀ s₁ mg mb G Y fa o pm cd doc dV kV ho hd hcd hD hmg hg args vals as hpre hlay hrd hwl hlo
 obtain rfl:dV=.none:=Dflts.none hD hdf
 obtain rfl:kV=.none:=Dflts.noKw hD
 obtain ⟨a,vs,ns,rfl,rfl,hobj,hints,hlen⟩:=b76 hn hpre hwl
 refine enter_call (codeAny_mono (call w s₀ s₁ mg mb fa o pm cd doc a vs ns G Y ho (fd_plain hd) hcd hmg hobj hints hlen hg) fun r s' hq=>?_)
 obtain ⟨rfl,h2,h3,h4⟩:=hq
 exact ⟨.inl ⟨.bool true,.bool true,[],rfl,fun _=>rfl,.bool true,b77 l _,fun _=>⟨List.Pairwise.nil,fun _ hm=>(nomatch hm)⟩⟩,h2,h3,h4⟩
section
variable {prog:Program}{w:World}{A:Around}{E:Value→Shared→Prop}{s:Shared}{K:Frag}
end
end Att
namespace L2
open PySem PySem.Spec PyProof.Rows
theorem as5:∀ {vs:List Value}{ns:List Int},IntsAre vs ns→Vals (ns.map V.int) vs
 | _,_,.nil=>.nil
 | _,_,.cons n t h=>.cons ⟨t,rfl⟩ (as5 h)
def Only (H:Hp):Prop:=∀ b,H b=none∨∃ o xs,H b=some (.frz o (.lst xs))
theorem bh4 {P:Program}{w:World}{K:PySem.W.Frag}{mg mb:Str→Option Value}{CX:CXT}{k:Nat}{fa a:Addr}{fd:FuncData}{x:Str}{sp:Sp}{s₁:Shared}{vs:List Value}{ns:List Int}
 (KX:K.In s₁.heap) (hns:s₁.heap.Ns mainGlobals mg) (hb:s₁.heap.Ns builtinsNs mb) (hbb:∀ x:Str,x≠"__name__"→mb x=bootBuiltins x) (hlim:s₁.heap.NoLimit) (hg:s₁.gens=#[])
 (ha:s₁.heap.get? a=some { cls:=.type "list",data:=.seq vs.toArray }) (hi:IntsAre vs ns) (hl:ns.length≤sizeLine) (hr:Room k callerA)
 (F:∀ base:Heap,K.In base→base.Ns mainGlobals mg→FnOk P w K mg base CX k fa fd [x] sp) (hbind:∀ (s:Shared) (u:Value),BindsTo s fd ⟨[u],[]⟩ [(x,u)])
 (hsp:∀ H:Hp,Only H→SqL K H a (ns.map V.int)→sp [.ref a] H (fun v _=>v=.bl true) fun _ _ _=>False)
 (hCX:∀ H e s',CX [] H s₁ (fun _ _ _=>False) e s'→False) :
 codeAny (model P w) callerA (.call (.ref fa) ⟨[.ref a],[]⟩) (fun r s'=>r=.ok (.ret (.bool true))∧OldK s₁.heap s'.heap∧s'.os=s₁.os∧AllBare s'.gens) s₁:=by
 have rv:=as5 hi
 have lenV:=hi.length
 have core:∀ H:Hp,Only H→SqL K H a (ns.map V.int)→HOk P w H s₁.heap→(∀ b,H b≠none→b=a)→(H a≠none→K.lookup a=none) →
  codeAny (model P w) callerA (.call (.ref fa) ⟨[.ref a],[]⟩) (fun r s'=>r=.ok (.ret (.bool true))∧OldK s₁.heap s'.heap∧s'.os=s₁.os∧AllBare s'.gens) s₁:=by
  intro H hO hS hok hA hK
  have base_of:∀ {b:Addr}{o:Obj},s₁.heap.get? b=some o→H b=none→(hidT s₁.heap H).get? b=some o:=fun e n=>bg0 e n
  have noA:∀ {b:Addr}{o:Obj}{es:Array DictEntry}{ep:Nat},s₁.heap.get? b=some o→o.data=.dict es ep→H b=none:=fun {b o es ep} e d=>by
   cases q:H b with
   | none=>rfl
   | some u =>
     have e':b=a:=hA b (by rw [q]; simp)
     subst e'
     rw [ha] at e; cases e
     have d':Data.seq vs.toArray _=Data.dict es ep:=d
     cases d'
  have nsK:∀ {b:Addr}{m:Str→Option Value},s₁.heap.Ns b m→(hidT s₁.heap H).Ns b m:=fun {b m} ⟨o,es,ep,e,d,r⟩=>⟨o,es,ep,base_of e (noA e d),d,r⟩
  have hKb:K.In (hidT s₁.heap H):=fun b o e=>base_of (KX b o e) (by
   cases q:H b with
   | none=>rfl
   | some u =>
     have e':b=a:=hA b (by rw [q]; simp)
     subst e'
     rw [hK (by rw [q]; simp)] at e; cases e)
  have hM:Mod K mg (hidT s₁.heap H):=⟨hKb,nsK hns,⟨mb,nsK hb,hbb⟩,let ⟨mc,h1,h2⟩:=hlim; ⟨mc,nsK h1,h2⟩⟩
  have e0:Env0 P w K mg (hidT s₁.heap H) callerA [] s₁ H:=⟨rfl,hM,fun b o e=>bs3 e,Nat.le_of_eq (b57 _ _),trivial,fun b hb=>absurd (show b∈([]:List Addr) from hb) (by simp),hok,.of_eq hg⟩
  refine codeAny_mono ((F _ hKb (nsK hns)).run callerA [] s₁ H ⟨[.ref a],[]⟩ [.ref a] [.ref a] _ _ hr e0 (hbind s₁ (.ref a)) (.cons rfl .nil) (hsp H hO hS)) fun r s' h=>?_
  cases r with
  | error e=>exact (hCX H e s' h).elim
  | ok fl =>
    cases fl with
    | next=>exact False.elim h
    | brk=>exact False.elim h
    | cont=>exact False.elim h
    | ret u =>
      obtain ⟨v,H',os,bare,un,hok',r',q⟩:=h
      have q':v=.bl true:=q
      subst q'
      obtain rfl:u=Value.bool true:=r'
      refine ⟨rfl,OldK.of_keep fun b o e=>?_,os,bare⟩
      cases q:H b with
      | none=>exact un.keep b o e q (by intro z; exact absurd (show b∈([]:List Addr) from z) (by simp)) (by simp)
      | some u =>
        rcases hO b with z | ⟨ob,xs,z⟩
        · rw [q] at z; cases z
        · have z2:=un.frzs b ob _ z
          obtain ⟨e1,_⟩:=hok b _ z
          obtain ⟨e2,_⟩:=hok' b _ z2
          rw [e] at e1; cases e1
          exact e2
 cases hk:K.lookup a with
 | some o =>
   have e:=KX a o hk
   rw [ha] at e
   cases e
   refine core (fun _=>none) (fun _=>.inl rfl) (.inr ⟨_,vs.toArray,_,hk,rfl,rfl,rfl,by rw [List.size_toArray,lenV]; exact hl,by simpa using rv⟩) (fun b u z=>by have z':(none:Option HO)=some u:=z; cases z') (fun b z=>absurd rfl z) fun z=>absurd rfl z
 | none =>
   refine core (fun b=>if b=a then some (.frz { cls:=.type "list",data:=.seq vs.toArray } (.lst (ns.map V.int))) else none) (fun b=>?_) (.inl (.inr ⟨{ cls:=.type "list",data:=.seq vs.toArray },if_pos rfl⟩)) (fun b u z=>?_) (fun b z=>?_) fun _=>hk
   · by_cases hb:b=a
     · exact .inr ⟨_,_,if_pos hb⟩
     · exact .inl (if_neg hb)
   · by_cases hb:b=a
     · have z':=(if_pos hb).symm.trans z
       cases z'
       subst hb
       exact ⟨ha,by rw [List.length_map]; exact hl,vs,_,rv,ha⟩
     · have z':=(if_neg hb).symm.trans z
       cases z'
   · by_cases hb:b=a
     · exact hb
     · exact absurd (if_neg hb) z
theorem walk_of {l:PySem.W.OpenLaw}{n k:Nat}{q:Program}{loose:List Str}{XP:(Str→Option Value)→Heap→Prop}{YP:World→Heap→Prop}{d:DefRec}{K:Params→PySem.W.Frag}{CX:World→CXT}{sp:World→Sp}{x:Str}
 (hn:l.most=some n) (hn2:n≤sizeLine) (hdf:d.params.defaults=[]) (hr:Room k callerA)
 (hY:∀ (w:World) (h:Heap),YP w h→(K w.params).In h)
 (F:∀ (w:World) (mg:Str→Option Value) (fa:Addr) (h:Heap),(K w.params).In h→h.Ns mainGlobals mg→mg d.name=some (.ref fa) →
  ∃ fd:FuncData,(∀ (s:Shared) (u:Value),BindsTo s fd ⟨[u],[]⟩ [(x,u)]) ∧
   ∀ base:Heap,(K w.params).In base→base.Ns mainGlobals mg→FnOk l.prog w (K w.params) mg base (CX w) k fa fd [x] (sp w))
 (hsp:∀ (w:World) (H:Hp) (a:Addr) (ns:List Int),ns.length≤n→Only H→SqL (K w.params) H a (ns.map V.int)→sp w [.ref a] H (fun v _=>v=.bl true) fun _ _ _=>False)
 (hCX:∀ (w:World) (H:Hp) (s:Shared) (e:Value) (s':Shared),CX w [] H s (fun _ _ _=>False) e s'→False) :
 PySem.W.WalkO q loose XP YP l.row.toRowW d [] (fun f vs=>PySem.call f vs):=by
 refine Att.attach_call hn hdf fun w s₀ s₁ mg mb fa o pm cd doc a vs ns G Y ho hd hcd hmg hobj hints hlen hg=>?_
 have KX:=hY w _ Y
 obtain ⟨fd,hb,hF⟩:=F w mg fa _ KX G.T.g hmg
 exact bh4 KX G.T.g G.T.b G.T.builtins G.T.nolimit hg hobj hints (Nat.le_trans hlen hn2) hr hF hb (fun H hO hS=>hsp w H a ns hlen hO hS) fun H e s'=>hCX w H s₁ e s'
def ac1 (s:Stmt) (j:Nat):Stmt:=match s with
 | .ClassDef _ _ _ body _ _ _ _ _ _ _=>body.getD j (.Pass ⟨0,0,0,0⟩)
 | _=>.Pass ⟨0,0,0,0⟩
def ac2 (s:Stmt):Arguments:=match s with
 | .FunctionDef _ a _ _ _ _ _ _ _ _=>a
 | _=>{ posonlyargs:=[],args:=[],vararg:=none,kwonlyargs:=[],kw_defaults:=[],kwarg:=none,defaults:=[] }
def a87 (s:Stmt):List Stmt:=match s with
 | .FunctionDef _ _ b _ _ _ _ _ _ _=>b
 | _=>[]
def a07 (s:Stmt):Scope:=match s with
 | .FunctionDef _ _ _ _ _ _ sc _ _ _=>sc
 | _=>{ kind:=.function,names:=[],isGenerator:=false,isCoroutine:=false }
abbrev CX0:CXT:=fun _ _ _ _ _ _=>False
abbrev E0:XK:=fun _ _ _=>False
theorem a27 {X:Cx}:a99 CX0 X E0:=fun _ _ _ _ _ _ _ h=>h.elim
structure Fun (K:PySem.W.Frag) (x qual:Str) (st:Stmt) (f:Addr) (fd:FuncData):Prop where
 ex:∃ (oc:Value) (od:Option Addr) (kV doc pm:Value) (an:Option Addr) (cdv ct:Value) (osl:Array (Option Value)),
  fd=PySem.W.fnOf x qual (ac2 st) (a87 st) (a07 st) .none kV doc pm an cdv ct∧K.lookup f=some ⟨oc,od,.func fd,osl⟩∧PySem.W.codeIn K cdv qual=true
 kp:PySem.W.keepIn K (.ref f)=true
section
variable {P:Program}{w:World}{K:PySem.W.Frag}{mg:Str→Option Value}{base:Heap}
theorem Fun.ok {x qual:Str}{st:Stmt}{f:Addr}{fd:FuncData}{N ps:List Str}{k:Nat}{sp:Sp}(F:Fun K x qual st f fd) (S:FnScope N ps (a07 st)) (len:∀ vs H Q E,sp vs H Q E→vs.length=ps.length)
 (hbody:∀ (cdv:Value) (A:Around) (outer:List Env) (s:Shared) (H:Hp) (vs:List V) (Q:VK) (E:XK),Room k (A.deeper (envOfC qual (a07 st) s.heap.objs.size f cdv))→sp vs H Q E →
  ∃ t,PSs (cxOf CX0 P w K mg base N qual (a07 st) f cdv A outer s H E).nox (a87 st) t∧t { nx:=fun _ H'=>Q .non H',rt:=Q } (start N vs) H):FnOk P w K mg base CX0 (k+1) f fd ps sp:=by
 obtain ⟨oc,od,kV,doc,pm,an,cdv,ct,osl,rfl,lk,hcd⟩:=F.ex
 refine c55 lk hcd S len fun A outer s H vs Q E hr hsp=>?_
 obtain ⟨t,h,q⟩:=hbody cdv A outer s H vs Q E hr hsp
 exact ⟨t,h.nox,q⟩
theorem Fun.binds {x qual:Str}{st:Stmt}{f:Addr}{fd:FuncData}{ps:List Str}(F:Fun K x qual st f fd)
 (h:∀ (kV doc pm:Value) (an:Option Addr) (cdv ct:Value) (us:List Value),us.length=ps.length→bindArgs (PySem.W.fnOf x qual (ac2 st) (a87 st) (a07 st) .none kV doc pm an cdv ct) ⟨us,[]⟩=pure (ps.zip us)):Binds K fd ps []:=by
 obtain ⟨oc,od,kV,doc,pm,an,cdv,ct,osl,rfl,lk,hcd⟩:=F.ex
 exact .all (h kV doc pm an cdv ct)
theorem bo6 {x qual:Str}{st:Stmt}{f:Addr}{oc:Value}{od an:Option Addr}{osl:Array (Option Value)}{kV doc pm cdv ct:Value}(l:K.lookup f=some ⟨oc,od,.func (PySem.W.fnOf x qual (ac2 st) (a87 st) (a07 st) .none kV doc pm an cdv ct),osl⟩)
 (c:PySem.W.codeIn K cdv qual=true) (k:PySem.W.keepIn K (.ref f)=true):Fun K x qual st f (PySem.W.fnOf x qual (ac2 st) (a87 st) (a07 st) .none kV doc pm an cdv ct):=⟨⟨oc,od,kV,doc,pm,an,cdv,ct,osl,rfl,l,c⟩,k⟩
end
theorem bt7 {A:Around}{k:Nat}(hr:Room k A):A.units+1<cLine:=Nat.lt_of_le_of_lt (Nat.add_le_add_left (by decide:1≤64) _) hr.units
theorem small1000 {n:Nat}(h:n≤1000):n<sizeLine:=Nat.lt_of_le_of_lt h (by decide)
section
variable {X:Cx}
theorem pv (i:Nat) {x:Str}{pos:Pos}(hN:X.N[i]?=some x:=by rfl) (hv:Vis X.env.scope x:=by first | exact Or.inl rfl | exact Or.inr (Or.inl rfl) | exact Or.inr (Or.inr rfl)) (hd:(x == ("__debug__":Str))=false:=by decide)
 (hcd:(x == ("__classdict__":Str))=false:=by decide):PE X (.Name x pos) (tVar i):=c36 hN hv hd hcd
end
theorem iteF {A B:Prop}(h:B):if false=true then A else B:=by
 rw [if_neg Bool.false_ne_true]
 exact h
theorem iteT {A B:Prop}(h:A):if true=true then A else B:=by
 rw [if_pos rfl]
 exact h
theorem ite2 {c A B:Prop} [Decidable c] (h1:c→A) (h2:¬ c→B):if c then A else B:=by
 by_cases h:c
 · rw [if_pos h]
   exact h1 h
 · rw [if_neg h]
   exact h2 h
def Same (H H':Hp):Prop:=∀ b o,H b=some o→H' b=some o
theorem Same.refl (H:Hp):Same H H:=fun _ _ h=>h
theorem Same.trans {H H1 H2:Hp}(a:Same H H1) (b:Same H1 H2):Same H H2:=fun c o h=>b c o (a c o h)
theorem Same.free {H H':Hp}(e:Same H H') {l:Addr}(h:H' l=Option.none):H l=Option.none:=by
 cases q:H l with
 | none=>rfl
 | some o =>
   rw [e l o q] at h
   cases h
theorem Same.seq {K:PySem.W.Frag}{H H':Hp}{a:Addr}{xs:List V}(e:Same H H') (h:SqL K H a xs):SqL K H' a xs:=by
 rcases h with (h | ⟨o,h⟩) | h
 · exact .inl (.inl (e _ _ h))
 · exact .inl (.inr ⟨o,e _ _ h⟩)
 · exact .inr h
end L2
namespace K30
open PySem L2
def top (i:Nat):Stmt:=PySem.Challenge.pw_callmill_k30_too_many_pairs.main.body.getD i (.Pass ⟨0,0,0,0⟩)
def view:Program:={ PySem.Challenge.pw_callmill_k30_too_many_pairs with main:={ PySem.Challenge.pw_callmill_k30_too_many_pairs.main with body:=[top 1,top 2,top 3,top 4,top 5,top 7,top 8,top 9,top 11,top 13,top 14,top 15,top 16,top 17,top 18,top 19,top 20,top 21,top 22,top 23,top 24,top 26,top 28,top 29,top 30,top 31,top 32,top 33,top 34,top 35,top 37,top 38,top 39,top 40,top 41,top 42,top 43,top 44,top 45,top 46,top 47] } }
abbrev a79:Stmt:=top 7
abbrev b78:Stmt:=top 8
abbrev b79:Stmt:=top 9
abbrev ai4:Stmt:=top 11
abbrev ac3:Stmt:=top 17
abbrev a80:Stmt:=top 18
abbrev aa0:Stmt:=top 19
abbrev ai5:Stmt:=top 20
abbrev ai6:Stmt:=top 21
abbrev a95:Stmt:=top 22
abbrev ab5:Stmt:=top 23
abbrev as6:Stmt:=top 24
abbrev a61:Stmt:=ac1 (top 26) 0
abbrev a72:Stmt:=ac1 (top 26) 1
abbrev a74:Stmt:=ac1 (top 26) 2
abbrev a75:Stmt:=ac1 (top 26) 3
abbrev aa1:Stmt:=ac1 (top 26) 4
abbrev a64:Stmt:=ac1 (top 26) 5
abbrev a54:Stmt:=ac1 (top 26) 6
abbrev af9:Stmt:=top 28
abbrev ab6:Stmt:=top 29
abbrev as7:Stmt:=top 30
abbrev ad2:Stmt:=top 31
abbrev ab7:Stmt:=top 32
abbrev az6:Stmt:=top 33
abbrev ai7:Stmt:=top 34
abbrev a82:Stmt:=top 35
abbrev am5:Stmt:=top 37
abbrev am6:Stmt:=top 38
abbrev ai8:Stmt:=top 39
abbrev as8:Stmt:=top 40
abbrev ab8:Stmt:=top 41
abbrev ac4:Stmt:=top 42
abbrev ad3:Stmt:=top 43
abbrev am7:Stmt:=top 44
abbrev ad4:Stmt:=top 45
abbrev ag0:Stmt:=top 46
abbrev bt8:Stmt:=top 47
def as9 (K:PySem.W.Frag):Sp:=fun vs H Q _=>∃ (a:Addr) (ns:List Int),vs=[.ref a]∧SqL K H a (ns.map V.int)∧ns.length≤63∧∀ H',Q (.bl true) H'
set_option genInjectivity false in
structure Adr where
 {a_value_of_box:Addr}
 {fd_value_of_box:FuncData}
 {a_worth:Addr}
 {fd_worth:FuncData}
 {a_holds:Addr}
 {fd_holds:FuncData}
 {a_hand_text:Addr}
 {fd_hand_text:FuncData}
 {a_standings:Addr}
 {fd_standings:FuncData}
 {a_first_values:Addr}
 {fd_first_values:FuncData}
 {a_values_put:Addr}
 {fd_values_put:FuncData}
 {a_said_text:Addr}
 {fd_said_text:FuncData}
 {a_rested_on:Addr}
 {fd_rested_on:FuncData}
 {a_way_of_pattern:Addr}
 {fd_way_of_pattern:FuncData}
 {a_way_of_event:Addr}
 {fd_way_of_event:FuncData}
 {a_stepped:Addr}
 {fd_stepped:FuncData}
 {a_GraphMachine___init__:Addr}
 {fd_GraphMachine___init__:FuncData}
 {a_GraphMachine_begin:Addr}
 {fd_GraphMachine_begin:FuncData}
 {a_GraphMachine_step:Addr}
 {fd_GraphMachine_step:FuncData}
 {a_GraphMachine_over:Addr}
 {fd_GraphMachine_over:FuncData}
 {a_GraphMachine_values:Addr}
 {fd_GraphMachine_values:FuncData}
 {a_GraphMachine_gone_on:Addr}
 {fd_GraphMachine_gone_on:FuncData}
 {a_GraphMachine_node_behind:Addr}
 {fd_GraphMachine_node_behind:FuncData}
 {a_begun_pair:Addr}
 {fd_begun_pair:FuncData}
 {a_stepped_pair:Addr}
 {fd_stepped_pair:FuncData}
 {a_pair_of:Addr}
 {fd_pair_of:FuncData}
 {a_found_paper:Addr}
 {fd_found_paper:FuncData}
 {a_gone_through:Addr}
 {fd_gone_through:FuncData}
 {a_row_by:Addr}
 {fd_row_by:FuncData}
 {a_map_paper:Addr}
 {fd_map_paper:FuncData}
 {a_mapped_standing:Addr}
 {fd_mapped_standing:FuncData}
 {a__law_cell:Addr}
 {fd__law_cell:FuncData}
 {a__law_stir:Addr}
 {fd__law_stir:FuncData}
 {a__law_drawn:Addr}
 {fd__law_drawn:FuncData}
 {a__law_key:Addr}
 {fd__law_key:FuncData}
 {a__law_is_right:Addr}
 {fd__law_is_right:FuncData}
 {a__law_round:Addr}
 {fd__law_round:FuncData}
 {a__law_endless:Addr}
 {fd__law_endless:FuncData}
 {a__law_made:Addr}
 {fd__law_made:FuncData}
 {a__law_divisor:Addr}
 {fd__law_divisor:FuncData}
 {a__law_by_map:Addr}
 {fd__law_by_map:FuncData}
 {a_law:Addr}
 {fd_law:FuncData}
 {c_MillError:Addr}
 {c_NoScript:Addr}
 {c_TooMany:Addr}
 {c_NoForm:Addr}
 {c_NoneYet:Addr}
 {c_Machine:Addr}
 {c_GraphMachine:Addr}
 {u_QUIET:Value}
 {u_OTHER:Value}
 {u_MOST_STANDINGS:Value}
 {ad_QUIET:Addr}
 {ad_OTHER:Addr}
structure CIi (K:PySem.W.Frag) (x q:Str) (st:Stmt) (ps:List Str) (a:Addr) (fd:FuncData):Prop where
 F:Fun K x q st a fd
 b:Binds K fd ps []
structure CFi (K:PySem.W.Frag) (mg:Str→Option Value) (x:Str) (st:Stmt) (ps:List Str) (a:Addr) (fd:FuncData):Prop extends CIi K x x st ps a fd where
 m:mg x=some (.ref a)
structure CMi (K:PySem.W.Frag) (c:Addr) (x q:Str) (st:Stmt) (ps:List Str) (a:Addr) (fd:FuncData):Prop extends CIi K x q st ps a fd where
 M:Meth K c x a
structure Txt (K:PySem.W.Frag) (mg:Str→Option Value) (t:Adr):Prop where
 m_MillError:mg "MillError"=some (.ref t.c_MillError)
 m_NoScript:mg "NoScript"=some (.ref t.c_NoScript)
 m_TooMany:mg "TooMany"=some (.ref t.c_TooMany)
 m_NoForm:mg "NoForm"=some (.ref t.c_NoForm)
 m_NoneYet:mg "NoneYet"=some (.ref t.c_NoneYet)
 m_Machine:mg "Machine"=some (.ref t.c_Machine)
 m_GraphMachine:mg "GraphMachine"=some (.ref t.c_GraphMachine)
 cl_GraphMachine:Cls K t.c_GraphMachine
 mk_GraphMachine:Mk K t.c_GraphMachine t.a_GraphMachine___init__
 n_GraphMachine_boxes:NoAttr K t.c_GraphMachine "boxes"
 n_GraphMachine_first:NoAttr K t.c_GraphMachine "first"
 n_GraphMachine_nodes:NoAttr K t.c_GraphMachine "nodes"
 ia_GraphMachine:PySem.W.findIn K (.ref t.c_GraphMachine) "__class__"=some (some (.builtin "object.__class__"))
 in_GraphMachine:PySem.W.specialIn K (.builtin "object.__class__") "__get__"=some (some (.builtin "getset_descriptor.__get__"))
 it_GraphMachine:PySem.W.takesIn K (.builtin "object.__class__")=some true
 im_GraphMachine:PySem.W.mroIn K t.c_GraphMachine (.type "object")=some true
 mo_GraphMachine_Machine:PySem.W.mroIn K t.c_GraphMachine (.ref t.c_Machine)=some true
 lk_GraphMachine_Machine:∃ od cd sl,K.lookup t.c_Machine=some ⟨.type "type",od,.cls cd,sl⟩
 f_value_of_box:CFi K mg "value_of_box" a79 ["name","boxes","values"] t.a_value_of_box t.fd_value_of_box
 f_worth:CFi K mg "worth" b78 ["expression","boxes","values"] t.a_worth t.fd_worth
 f_holds:CFi K mg "holds" b79 ["condition","boxes","values"] t.a_holds t.fd_holds
 f_hand_text:CFi K mg "hand_text" ai4 ["line","word"] t.a_hand_text t.fd_hand_text
 f_standings:CFi K mg "standings" ac3 ["machine","events"] t.a_standings t.fd_standings
 f_first_values:CFi K mg "first_values" a80 ["boxes"] t.a_first_values t.fd_first_values
 f_values_put:CFi K mg "values_put" aa0 ["boxes","values","name","expression"] t.a_values_put t.fd_values_put
 f_said_text:CFi K mg "said_text" ai5 ["thing"] t.a_said_text t.fd_said_text
 f_rested_on:CFi K mg "rested_on" ai6 ["standing"] t.a_rested_on t.fd_rested_on
 f_way_of_pattern:CFi K mg "way_of_pattern" a95 ["branches","pattern"] t.a_way_of_pattern t.fd_way_of_pattern
 f_way_of_event:CFi K mg "way_of_event" ab5 ["branches","event"] t.a_way_of_event t.fd_way_of_event
 f_stepped:CFi K mg "stepped" as6 ["machine","wait","standing","event"] t.a_stepped t.fd_stepped
 f_GraphMachine___init__:CIi K "__init__" "GraphMachine.__init__" a61 ["self","graph"] t.a_GraphMachine___init__ t.fd_GraphMachine___init__
 f_GraphMachine_begin:CMi K t.c_GraphMachine "begin" "GraphMachine.begin" a72 ["self"] t.a_GraphMachine_begin t.fd_GraphMachine_begin
 f_GraphMachine_step:CMi K t.c_GraphMachine "step" "GraphMachine.step" a74 ["self","standing","event"] t.a_GraphMachine_step t.fd_GraphMachine_step
 f_GraphMachine_over:CMi K t.c_GraphMachine "over" "GraphMachine.over" a75 ["self","standing"] t.a_GraphMachine_over t.fd_GraphMachine_over
 f_GraphMachine_values:CMi K t.c_GraphMachine "values" "GraphMachine.values" aa1 ["self","standing"] t.a_GraphMachine_values t.fd_GraphMachine_values
 f_GraphMachine_gone_on:CMi K t.c_GraphMachine "gone_on" "GraphMachine.gone_on" a64 ["self","number","stack","values"] t.a_GraphMachine_gone_on t.fd_GraphMachine_gone_on
 f_GraphMachine_node_behind:CMi K t.c_GraphMachine "node_behind" "GraphMachine.node_behind" a54 ["self","node","kept","values"] t.a_GraphMachine_node_behind t.fd_GraphMachine_node_behind
 f_begun_pair:CFi K mg "begun_pair" af9 ["one","other"] t.a_begun_pair t.fd_begun_pair
 f_stepped_pair:CFi K mg "stepped_pair" ab6 ["one","other","pair","event"] t.a_stepped_pair t.fd_stepped_pair
 f_pair_of:CFi K mg "pair_of" as7 ["one","other","told","told_beside"] t.a_pair_of t.fd_pair_of
 f_found_paper:CFi K mg "found_paper" ad2 ["one","other","events"] t.a_found_paper t.fd_found_paper
 f_gone_through:CFi K mg "gone_through" ab7 ["one","other","events"] t.a_gone_through t.fd_gone_through
 f_row_by:CFi K mg "row_by" az6 ["ways","way"] t.a_row_by t.fd_row_by
 f_map_paper:CFi K mg "map_paper" ai7 ["one","other","stands_for","events"] t.a_map_paper t.fd_map_paper
 f_mapped_standing:CFi K mg "mapped_standing" a82 ["one","other","stands_for","standing"] t.a_mapped_standing t.fd_mapped_standing
 f__law_cell:CFi K mg "_law_cell" am5 ["script","k"] t.a__law_cell t.fd__law_cell
 f__law_stir:CFi K mg "_law_stir" am6 ["cell","k"] t.a__law_stir t.fd__law_stir
 f__law_drawn:CFi K mg "_law_drawn" ai8 ["cell","sizes"] t.a__law_drawn t.fd__law_drawn
 f__law_key:CFi K mg "_law_key" as8 ["thing"] t.a__law_key t.fd__law_key
 f__law_is_right:CFi K mg "_law_is_right" ab8 ["one","other","events","paper"] t.a__law_is_right t.fd__law_is_right
 f__law_round:CFi K mg "_law_round" ac4 ["many","said"] t.a__law_round t.fd__law_round
 f__law_endless:CFi K mg "_law_endless" ad3 ["key","word"] t.a__law_endless t.fd__law_endless
 f__law_made:CFi K mg "_law_made" am7 ["cell"] t.a__law_made t.fd__law_made
 f__law_divisor:CFi K mg "_law_divisor" ad4 ["one","other"] t.a__law_divisor t.fd__law_divisor
 f__law_by_map:CFi K mg "_law_by_map" ag0 ["graph","events"] t.a__law_by_map t.fd__law_by_map
 f_law:CFi K mg "law" bt8 ["script"] t.a_law t.fd_law
 z_ValueError:mg "ValueError"=none
 z_enumerate:mg "enumerate"=none
 z_int:mg "int"=none
 z_isinstance:mg "isinstance"=none
 z_len:mg "len"=none
 z_list:mg "list"=none
 z_range:mg "range"=none
 z_repr:mg "repr"=none
 z_str:mg "str"=none
 z_tuple:mg "tuple"=none
 z_zip:mg "zip"=none
 xe_TooMany:PySem.W.excIn K t.c_TooMany [.type "ValueError",.type "Exception",.type "BaseException",.type "object"] "ValueError.__new__"=true
 xm_TooMany_MillError:PySem.W.exmOne K (.ref t.c_TooMany) (.ref t.c_MillError)=some true
 xb_TooMany:(PySem.W.findIn K (.ref t.c_TooMany) "__getattribute__" == some (some (.builtin "BaseException.__getattribute__")) && PySem.W.findIn K (.ref t.c_TooMany) "__getattr__" == some none && PySem.W.findIn K (.ref t.c_TooMany) "__class__" == some (some (.builtin "object.__class__")) && PySem.W.specialIn K (.builtin "object.__class__") "__get__" == some (some (.builtin "getset_descriptor.__get__")) && PySem.W.takesIn K (.builtin "object.__class__") == some true && PySem.W.mroIn K t.c_TooMany (.type "object") == some true && PySem.W.mroIn K t.c_TooMany (.type "BaseException") == some true && (PySem.W.clsIn K t.c_TooMany).isSome)=true
 ik_TooMany_TooMany:PySem.W.kitOne K (.ref t.c_TooMany) (.ref t.c_TooMany)=some true
 ik_TooMany_NoForm:PySem.W.kitOne K (.ref t.c_TooMany) (.ref t.c_NoForm)=some false
 ik_TooMany_NoneYet:PySem.W.kitOne K (.ref t.c_TooMany) (.ref t.c_NoneYet)=some false
 ik_TooMany_NoScript:PySem.W.kitOne K (.ref t.c_TooMany) (.ref t.c_NoScript)=some false
 ik_TooMany_ValueError:PySem.W.kitOne K (.ref t.c_TooMany) (.type "ValueError")=some true
 m_QUIET:mg "QUIET"=some t.u_QUIET
 r_QUIET:RelV (.ref t.ad_QUIET) t.u_QUIET
 m_OTHER:mg "OTHER"=some t.u_OTHER
 r_OTHER:RelV (.ref t.ad_OTHER) t.u_OTHER
 m_MOST_STANDINGS:mg "MOST_STANDINGS"=some t.u_MOST_STANDINGS
 r_MOST_STANDINGS:RelV (.int 2000) t.u_MOST_STANDINGS
 dd_QUIET:∃ od its nn sl,K.lookup t.ad_QUIET=some ⟨.type "tuple",od,.seq its nn,sl⟩∧its.size≤sizeLine∧Vals [.str "quiet"] its.toList
 dd_OTHER:∃ od its nn sl,K.lookup t.ad_OTHER=some ⟨.type "tuple",od,.seq its nn,sl⟩∧its.size≤sizeLine∧Vals [.str "other"] its.toList
theorem al4 {us:List Value}{n:Nat}(h:us.length=n+1):∃ u r,us=u::r:=by
 cases us with
 | nil=>cases h
 | cons u r=>exact ⟨u,r,rfl⟩
theorem cg8 {us:List Value}(h:us.length=1):∃ u0,us=[u0]:=by
 obtain ⟨u0,us,rfl⟩:=al4 h; replace h:=Nat.succ.inj h
 obtain rfl:=List.length_eq_zero_iff.mp h
 exact ⟨u0,rfl⟩
theorem cg9 {us:List Value}(h:us.length=2):∃ u0 u1,us=[u0,u1]:=by
 obtain ⟨u0,us,rfl⟩:=al4 h; replace h:=Nat.succ.inj h
 obtain ⟨u1,us,rfl⟩:=al4 h; replace h:=Nat.succ.inj h
 obtain rfl:=List.length_eq_zero_iff.mp h
 exact ⟨u0,u1,rfl⟩
theorem ch0 {us:List Value}(h:us.length=3):∃ u0 u1 u2,us=[u0,u1,u2]:=by
 obtain ⟨u0,us,rfl⟩:=al4 h; replace h:=Nat.succ.inj h
 obtain ⟨u1,us,rfl⟩:=al4 h; replace h:=Nat.succ.inj h
 obtain ⟨u2,us,rfl⟩:=al4 h; replace h:=Nat.succ.inj h
 obtain rfl:=List.length_eq_zero_iff.mp h
 exact ⟨u0,u1,u2,rfl⟩
theorem ch1 {us:List Value}(h:us.length=4):∃ u0 u1 u2 u3,us=[u0,u1,u2,u3]:=by
 obtain ⟨u0,us,rfl⟩:=al4 h; replace h:=Nat.succ.inj h
 obtain ⟨u1,us,rfl⟩:=al4 h; replace h:=Nat.succ.inj h
 obtain ⟨u2,us,rfl⟩:=al4 h; replace h:=Nat.succ.inj h
 obtain ⟨u3,us,rfl⟩:=al4 h; replace h:=Nat.succ.inj h
 obtain rfl:=List.length_eq_zero_iff.mp h
 exact ⟨u0,u1,u2,u3,rfl⟩
theorem bt9 {K:PySem.W.Frag}{x q:Str}{st:Stmt}{f:Addr}{ps:List Str}{oc:Value}{od an:Option Addr}{osl:Array (Option Value)}{kV doc pm cdv ct:Value}(l:K.lookup f=some ⟨oc,od,.func (PySem.W.fnOf x q (ac2 st) (a87 st) (a07 st) .none kV doc pm an cdv ct),osl⟩) (c:PySem.W.codeIn K cdv q=true) (k:PySem.W.keepIn K (.ref f)=true) (b:∀ (kV doc pm:Value) (an:Option Addr) (cdv ct:Value) (us:List Value),us.length=ps.length→bindArgs (PySem.W.fnOf x q (ac2 st) (a87 st) (a07 st) .none kV doc pm an cdv ct) ⟨us,[]⟩=pure (ps.zip us)):CIi K x q st ps f (PySem.W.fnOf x q (ac2 st) (a87 st) (a07 st) .none kV doc pm an cdv ct):=⟨bo6 l c k,(bo6 l c k).binds b⟩
theorem ch2 {K:PySem.W.Frag}{mg:Str→Option Value}{h:Heap}{x:Str}{st:Stmt}{ps:List Str}{f:Addr}{fd:FuncData}(X:K.In h) (G:h.Ns mainGlobals mg) (a:PySem.W.nsIn K mainGlobals x=some (some (.ref f))) (i:CIi K x x st ps f fd):CFi K mg x st ps f fd:=⟨i,PySem.W.mg_of X G a⟩
def HF (P:Params) (K:PySem.W.Frag):Prop:=∃ t:Adr,∀ (mg:Str→Option Value) (h:Heap),K.In h→h.Ns mainGlobals mg→Txt K mg t
theorem walk2 {l:PySem.W.OpenLaw}{q:Program}{loose:List Str}{XP:(Str→Option Value)→Heap→Prop}{YP:World→Heap→Prop}{d:DefRec}{K:Params→PySem.W.Frag}(hn:l.most=some 63) (hdf:d.params.defaults=[]) (hd:d.name="law") (hl:l=PySem.Challenge.rw_callmill_k30_too_many_pairs) (hY:∀ (w:World) (h:Heap),YP w h→(K w.params).In h) (hF:∀ P,HF P (K P)) (G:∀ K:Params→PySem.W.Frag,(∀ P,HF P (K P))→(∀ (w:World) (mg:Str→Option Value) (fa:Addr) (h:Heap),(K w.params).In h→h.Ns mainGlobals mg→mg "law"=some (.ref fa)→∃ fd:FuncData,(∀ (s:Shared) (u:Value),BindsTo s fd ⟨[u],[]⟩ [("script",u)])∧∀ base:Heap,(K w.params).In base→base.Ns mainGlobals mg→FnOk PySem.Challenge.rw_callmill_k30_too_many_pairs.prog w (K w.params) mg base CX0 22 fa fd ["script"] (as9 (K w.params)))):PySem.W.WalkO q loose XP YP l.row.toRowW d [] (fun f vs=>PySem.call f vs) :=
 L2.walk_of (n:=63) (k:=22) (x:="script") (CX:=fun _=>CX0) (sp:=fun w=>as9 (K w.params)) hn (by decide) hdf ⟨rfl,by decide,by decide⟩ hY (by rw [hd,hl]; exact G K hF) (fun _ _ a ns hl _ hS=>⟨a,ns,rfl,hS,hl,fun _=>rfl⟩) fun _ _ _ _ _ z=>z
theorem ch3 {K:PySem.W.Frag}{C:Addr}{x q:Str}{st:Stmt}{ps:List Str}{f:Addr}{fd:FuncData}(a:PySem.W.findIn K (.ref C) x=some (some (.ref f))) (i:PySem.W.isFn K (.ref f)=true) (h:CIi K x q st ps f fd):CMi K C x q st ps f fd:=⟨h,a,i,h.F.kp⟩
theorem ch4 {K:PySem.W.Frag}{a:Addr}{vs:List V}{od:Option Addr}{its:Array Value}{nn:Nat}{sl:Array (Option Value)}(h1:K.lookup a=some ⟨.type "tuple",od,.seq its nn,sl⟩) (h2:its.size≤sizeLine) (h3:Vals vs its.toList):∃ od its nn sl,K.lookup a=some ⟨.type "tuple",od,.seq its nn,sl⟩∧its.size≤sizeLine∧Vals vs its.toList:=⟨_,_,_,_,h1,h2,h3⟩
theorem ch5 {K:PySem.W.Frag}{a:Addr}{od:Option Addr}{cd:ClassData}{sl:Array (Option Value)}(h:K.lookup a=some ⟨.type "type",od,.cls cd,sl⟩):∃ od cd sl,K.lookup a=some ⟨.type "type",od,.cls cd,sl⟩:=⟨_,_,_,h⟩
section
open PySem PySem.W PyProof.Rows
local macro_rules | `(tactic| o_head $H) => `(tactic| refine holds_open (q := K30.view) (loose := []) (Xt := fun s => xlAt K30.view [] s && recOk (RowW.records _) s) (XP := XL K30.view []) (Yf := Hook.obs $H) (Ya := Hook.val $H) (YP := Hook.says $H) (N := 8000) ?hl (Hook.of $H) (Hook.keeps $H) (fun s e => xl_of s (Bool.and_eq_true_iff.mp e).1) XL.keeps (by rfl) (by rfl) (by rfl) (fun s e => recFacts_of (Bool.and_eq_true_iff.mp e).2) (by rfl) (by first | assumption | decide +kernel) (by decide +kernel) ⟨rfl, rfl, rfl, rfl, rfl, by decide +kernel⟩ ?hw ?hc)
local macro_rules | `(tactic| walk_at "bi") => `(tactic| (intro _ _ _ _ _ _ us hl; first | (obtain ⟨_, z⟩ := cg8 hl; subst z; rfl) | (obtain ⟨_, _, z⟩ := cg9 hl; subst z; rfl) | (obtain ⟨_, _, _, z⟩ := ch0 hl; subst z; rfl) | (obtain ⟨_, _, _, _, z⟩ := ch1 hl; subst z; rfl)))
local macro_rules | `(tactic| walk_at "fi") => `(tactic| first | (refine' ch2 $(Lean.mkIdent `X) $(Lean.mkIdent `G) ?a (bt9 ?l ?c ?k (by walk_at "bi")); (case a => k_is); (case l => k_is); (case c => k_is); (case k => k_is)) | (refine' ch3 ?a ?i (bt9 ?l ?c ?k (by walk_at "bi")); (case a => k_is); (case i => k_is); (case l => k_is); (case c => k_is); (case k => k_is)) | (refine' bt9 ?l ?c ?k (by walk_at "bi"); (case l => k_is); (case c => k_is); (case k => k_is)) | (refine' PySem.W.mg_of $(Lean.mkIdent `X) $(Lean.mkIdent `G) ?a; (case a => k_is)) | (refine' PySem.W.mg_none_of $(Lean.mkIdent `X) $(Lean.mkIdent `G) ?a; (case a => k_is)) | (unfold NoAttr; k_is) | k_is | (refine' Cls.mk ?a ?b ?c ?d; (case a => k_is); (case b => k_is); (case c => k_is); (case d => k_is)) | (refine' Mk.mk ?a ?b ?c ?d; (case a => k_is); (case b => k_is); (case c => k_is); (case d => k_is)) | exact ⟨_, rfl⟩ | (with_reducible exact rfl) | (refine' ch4 ?a ?b ?c; (case a => k_is); (case b => exact Nat.le_of_lt (L2.small1000 (by decide))); (case c => repeat first | exact .nil | refine .cons (by first | exact rfl | exact ⟨_, rfl⟩) ?_)) | (refine' ch5 ?a; (case a => k_is)) | (change PySem.W.excIn _ _ _ _ = true; kernel_rfl) | (change PySem.W.exmOne _ _ _ = some _; kernel_rfl) | (change (_ && _) = true; kernel_rfl) | (change PySem.W.kitOne _ _ _ = some _; kernel_rfl) | exact rfl)
def bt:List Obj→Nat→BT→BT
 | [],_,t=>t
 | o::l,i,t=>bt l (i+1) (t.ins i o)
noncomputable def T0 (P:Params):BT:=bt (boot_heap P).objs.toList 0 .nil
def runT (tb:String→Option Builtin) (p:Program) (w:World) (n₀:Nat) (ann:Option Value):Nat→SharedT→Thread→Option SharedT
 | 0,_,_=>none
 | n+1,s,t=>match through t with
   | true=>some s
   | false=>match stepOk n₀ ann t with
     | false=>none
     | true=>match stepT (denote tb) p w s t with
       | some (s',t')=>runT tb p w n₀ ann n s' t'
       | none=>none
theorem b80 {tb:String→Option Builtin}{p:Program}{w:World}{n₀:Nat}{ann:Option Value}:∀ {n:Nat}{s s':SharedT}{t:Thread},runT tb p w n₀ ann n s t=some s'→topRun tb p w n₀ ann n s.abs t=some s'.abs
 | 0,_,_,_,h=>by cases h
 | n+1,s,s',t,h=>by
   unfold runT at h
   unfold topRun
   cases he:through t with
   | true=>rw [he] at h; cases h; rfl
   | false =>
     rw [he] at h
     cases hk:stepOk n₀ ann t with
     | false=>rw [hk] at h; cases h
     | true =>
       rw [hk] at h
       cases hs:stepT (denote tb) p w s t with
       | none=>rw [hs] at h; cases h
       | some r=>obtain ⟨s₂,t₂⟩:=r; rw [hs] at h; rw [stepT_spec hs]; exact b80 h
theorem b81 {p q:Program}{loose:List Str}{Xt:Shared→Bool}{α:Type}{Yf:Shared→α}{Ya:World→α}{N:Nat}{g0:Bool}{m₀:Nat}{ann:Option Value}(e:opening p=plainProg p.main.scope.names) (hN:Nat.ble 600 N=true) (f:∀ s,fenceModules? p s=some s)
 (b:∀ P,boot_heap P=absHeap (T0 P) m₀ (boot_heap P).life) (z:∀ w:World,(boot_heap w.params).isNs mainGlobals=true∧(boot_heap w.params).objs.size=m₀∧(boot_heap w.params).nsMap mainGlobals "__annotations__"=ann)
 (h:∀ (w:World) (os:OsState),(runT treeTable p w m₀ ann N ⟨T0 w.params,m₀,(boot_heap w.params).life,Array.mk [],boot_drawn,boot_toks,os⟩ (topStub p)).map (fun s=>(staticsOk (importedModules p.main.body) (boot_heap w.params) s.abs.heap && namesBound p s.abs.heap && gensDone s.abs && laidKept (boot_heap w.params) s.abs.heap,openSeen q loose (importedModules p.main.body) Xt g0 s.abs,Yf s.abs))=some (true,openGood q loose,Ya w)):LeftO p q loose Xt Yf Ya N g0:=fun w=>by
 obtain ⟨⟨hp,g,d,k,os⟩,hs,hv⟩:=Option.map_eq_some_iff.mp (boot_open e hN f w)
 injection hv with v1 v2
 injection v2 with v2 v3
 injection v3 with v3 v4
 dsimp only at v1 v2 v3 v4
 subst v1 v2 v3 v4
 obtain ⟨z1,z2,z3⟩:=z w
 obtain ⟨s',h1,h2⟩:=Option.map_eq_some_iff.mp (h w os)
 obtain ⟨l1,l2,l3⟩:_∧_∧_:=by simpa only [Prod.mk.injEq] using h2
 have r:=b80 h1
 have r':topRun treeTable p w m₀ ann N ⟨boot_heap w.params,Array.mk [],boot_drawn,boot_toks,os⟩ (topStub p)=some s'.abs:=by
  rw [b w.params]
  exact r
 unfold openEnds
 rw [hs]
 show (topFrom treeTable p w N _).map _=_
 unfold topFrom
 dsimp only
 rw [z1,z2,z3,r']
 show (match staticsOk (importedModules p.main.body) (boot_heap w.params) s'.abs.heap && namesBound p s'.abs.heap && gensDone s'.abs && laidKept (boot_heap w.params) s'.abs.heap with | true=>some s'.abs | false=>none).map _=_
 rw [l1]
 exact congrArg some (Prod.ext l2 l3)
theorem c66 (P:Params):boot_heap P=absHeap (T0 P) 11 (boot_heap P).life:=by kernel_rfl
theorem c67 (w:World):(boot_heap w.params).isNs mainGlobals=true∧(boot_heap w.params).objs.size=11∧(boot_heap w.params).nsMap mainGlobals "__annotations__"=some (.ref 6):=⟨by kernel_rfl,by kernel_rfl,by kernel_rfl⟩
set_option maxRecDepth 100000 in
set_option maxHeartbeats 0 in
theorem head (G:∀ K:Params→PySem.W.Frag,(∀ P,HF P (K P))→(∀ (w:World) (mg:Str→Option Value) (fa:Addr) (h:Heap),(K w.params).In h→h.Ns mainGlobals mg→mg "law"=some (.ref fa)→∃ fd:FuncData,(∀ (s:Shared) (u:Value),BindsTo s fd ⟨[u],[]⟩ [("script",u)])∧∀ base:Heap,(K w.params).In base→base.Ns mainGlobals mg→FnOk PySem.Challenge.rw_callmill_k30_too_many_pairs.prog w (K w.params) mg base CX0 22 fa fd ["script"] (as9 (K w.params)))):PySem.Challenge.rw_callmill_k30_too_many_pairs.Holds:=by
 w_on; o_law; k_head; (case hw=>w_witness2); (case hl=>exact b81 rfl rfl (fun _=>rfl) c66 c67 (by intro w os; kernel_rfl))
 k_fill
 refine K30.walk2 (l:=PySem.Challenge.rw_callmill_k30_too_many_pairs) rfl rfl rfl rfl (fun w h Y=>PySem.W.kIn_of Y) ?facts G
 case facts =>
  intro P
  refine' ⟨Adr.mk,fun mg h X G=>?z⟩
  case z =>
   constructor
   all_goals (try dsimp only); walk_at "fi"
end
end K30
namespace L2
open PySem PySem.Spec PyProof.Rows
section
variable {κ:Type} [DecidableEq κ]
def valV (kvs:List (κ×V)) (k:κ):Option V:=(kvs.find? fun kv=>decide (kv.1=k)).map (·.2)
def putK (kvs:List (κ×V)) (k:κ) (v:V):List (κ×V) :=
 if (kvs.any fun kv=>decide (kv.1=k))=true then kvs.map (fun kv=>if kv.1=k then (kv.1,v) else kv) else kvs++[(k,v)]
theorem a46 {p:κ×V}{r:List (κ×V)}{k:κ}(e:p.1=k):valV (p::r) k=some p.2:=by simp [valV,List.find?_cons,e]
theorem a50 {p:κ×V}{r:List (κ×V)}{k:κ}(e:¬ p.1=k):valV (p::r) k=valV r k:=by simp [valV,List.find?_cons,e]
theorem ad5 (k:κ):∀ kvs:List (κ×V),(kvs.any fun kv=>decide (kv.1=k))=(valV kvs k).isSome
 | []=>rfl
 | p::r=>by
   rw [List.any_cons]
   by_cases e:p.1=k
   · simp only [a46 e,decide_eq_true e,Bool.true_or,Option.isSome_some]
   · rw [a50 e,decide_eq_false e,Bool.false_or]; exact ad5 k r
theorem az7 (k j:κ) (y:V):∀ kvs:List (κ×V),valV (kvs.map fun kv=>if kv.1=k then (kv.1,y) else kv) j=(valV kvs j).map fun x=>if j=k then y else x
 | []=>rfl
 | p::r=>by
   have ih:=az7 k j y r
   rw [List.map_cons]
   by_cases h:p.1=k
   · rw [if_pos h]
     by_cases e:p.1=j
     · rw [a46 (p:=(p.1,y)) e,a46 e,Option.map_some,if_pos (e.symm.trans h)]
     · rw [a50 (p:=(p.1,y)) e,a50 e,ih]
   · rw [if_neg h]
     by_cases e:p.1=j
     · rw [a46 (p:=p) e,a46 e,Option.map_some,if_neg (fun z=>h (e.trans z))]
     · rw [a50 (p:=p) e,a50 e,ih]
theorem at0 (k j:κ) (y:V):∀ kvs:List (κ×V),valV kvs k=none→valV (kvs++[(k,y)]) j=if j=k then some y else valV kvs j
 | [],_=>by
   by_cases e:k=j
   · rw [if_pos e.symm]; exact a46 (p:=(k,y)) e
   · rw [if_neg (fun z=>e z.symm)]; exact a50 (p:=(k,y)) e
 | p::r,hn=>by
   rw [List.cons_append]
   have hk:¬ p.1=k:=fun z=>by rw [a46 z] at hn; cases hn
   rw [a50 hk] at hn
   have ih:=at0 k j y r hn
   by_cases e:p.1=j
   · rw [a46 e,a46 e,if_neg (fun z=>hk (e.trans z))]
   · rw [a50 e,a50 e,ih]
theorem ap0 (kvs:List (κ×V)) (k j:κ) (y:V):valV (putK kvs k y) j=if j=k then some y else valV kvs j:=by
 unfold putK
 by_cases a:(kvs.any fun kv=>decide (kv.1=k))=true
 · rw [if_pos a,az7]
   rw [ad5] at a
   by_cases e:j=k
   · obtain ⟨x,hx⟩:=Option.isSome_iff_exists.mp a
     rw [if_pos e,e,hx,Option.map_some,if_pos rfl]
   · rw [if_neg e]
     cases valV kvs j with
     | none=>rfl
     | some x=>rw [Option.map_some,if_neg e]
 · rw [if_neg a]
   refine at0 k j y kvs ?_
   rw [ad5] at a
   cases q:valV kvs k with
   | none=>rfl
   | some x=>rw [q] at a; exact (a rfl).elim
theorem a88 (kvs:List (κ×V)) (k:κ) (v:V):(putK kvs k v).length≤kvs.length+1:=by
 unfold putK
 split
 · rw [List.length_map]; omega
 · rw [List.length_append,List.length_cons,List.length_nil]; omega
theorem bh5 {kvs:List (κ×V)}{k:κ}(v:V) (h:valV kvs k=none):putK kvs k v=kvs++[(k,v)]:=by
 unfold putK
 rw [ad5,h]
 exact if_neg (by decide)
theorem RelO.isSome_eq {o:Option V}{u:Option Value}(r:RelO o u):o.isSome=u.isSome:=by
 cases o with
 | none=>cases u with
   | none=>rfl
   | some _=>exact (show False from r).elim
 | some _=>cases u with
   | none=>exact (show False from r).elim
   | some _=>rfl
theorem KV.val {kvs:List (κ×V)}{vs:List (κ×Value)}(r:KV kvs vs) (k:κ):RelO (valV kvs k) (valueAt vs k):=by
 unfold KV at r
 induction r with
 | nil=>exact True.intro
 | @cons p q ps qs h t ih =>
   obtain ⟨h1,h2⟩:=h
   by_cases e:p.1=k
   · have e':q.1=k:=h1.symm.trans e
     have b:valueAt (q::qs) k=some q.2:=by simp [valueAt,List.find?_cons,e']
     rw [a46 e,b]; exact h2
   · have e':¬ q.1=k:=fun z=>e (h1.trans z)
     have b:valueAt (q::qs) k=valueAt qs k:=by simp [valueAt,List.find?_cons,e']
     rw [a50 e,b]; exact ih
theorem KV.any {kvs:List (κ×V)}{vs:List (κ×Value)}(r:KV kvs vs) (k:κ):(kvs.any fun kv=>decide (kv.1=k))=vs.any fun kv=>decide (kv.1=k):=by
 unfold KV at r
 induction r with
 | nil=>rfl
 | cons h t ih=>rw [List.any_cons,List.any_cons,ih,h.1]
theorem KV.repl {kvs:List (κ×V)}{vs:List (κ×Value)}(r:KV kvs vs) (k:κ) {y:V}{u:Value}(ry:RelV y u) :
 KV (kvs.map fun kv=>if kv.1=k then (kv.1,y) else kv) (vs.map fun kv=>if kv.1=k then (kv.1,u) else kv):=by
 unfold KV at r ⊢
 induction r with
 | nil=>exact .nil
 | @cons p q ps qs h t ih =>
   rw [List.map_cons,List.map_cons]
   refine .cons ?_ ih
   obtain ⟨h1,h2⟩:=h
   by_cases e:p.1=k
   · rw [if_pos e,if_pos (h1.symm.trans e)]; exact ⟨h1,ry⟩
   · rw [if_neg e,if_neg (fun z=>e (h1.trans z))]; exact ⟨h1,h2⟩
theorem KV.put {kvs:List (κ×V)}{vs:List (κ×Value)}(r:KV kvs vs) (k:κ) {y:V}{u:Value}(ry:RelV y u):KV (putK kvs k y) (stored vs k u):=by
 unfold putK stored
 rw [r.any k]
 by_cases e:(vs.any fun kv=>decide (kv.1=k))=true
 · rw [if_pos e,if_pos e]; exact r.repl k ry
 · rw [if_neg e,if_neg e]; exact Paired.snoc r ⟨rfl,ry⟩
theorem KV.length {kvs:List (κ×V)}{vs:List (κ×Value)}(r:KV kvs vs):kvs.length=vs.length:=Paired.length r
end
theorem bu0 {P:Program}{w:World}{k:Key}{u:Value}(r:RelV (kV k) u):(a59 P w).is k u=true:=by
 cases k with
 | inl i=>obtain ⟨t,e⟩:=(show ∃ t,u=Value.int i t from r); subst e; exact av7 P w i t
 | inr x=>obtain ⟨t,e⟩:=(show ∃ t,u=Value.str x t from r); subst e; exact av8 P w x t
theorem at1 {P:Program}{w:World}:∀ {ks:List Key}{us:List Value},Vals (ks.map kV) us→ItemsAre (a59 P w) ks us
 | [],_,r=>by rw [List.map_nil] at r; cases r; exact .nil
 | k::ks,_,r=>by
   rw [List.map_cons] at r
   cases r with
   | cons h t=>exact .cons (bu0 h) (at1 t)
abbrev KT (H:Hp):List (List Key×V)→List (List Key×Addr×Value)→Prop:=Paired fun p q=>p.1=q.1∧H q.2.1=some (.tup (p.1.map kV))∧RelV p.2 q.2.2
theorem KT.val {H:Hp}{kvs:List (List Key×V)}{xs:List (List Key×Addr×Value)}(r:KT H kvs xs) (k:List Key):RelO (valV kvs k) ((atKey xs k).map (·.2)):=by
 induction r with
 | nil=>exact True.intro
 | @cons p q ps qs h t ih =>
   obtain ⟨h1,_,h2⟩:=h
   by_cases e:p.1=k
   · have e':q.1=k:=h1.symm.trans e
     have b:atKey (q::qs) k=some q.2:=by simp [atKey,List.find?_cons,e']
     rw [a46 e,b]; exact h2
   · have e':¬ q.1=k:=fun z=>e (h1.trans z)
     have b:atKey (q::qs) k=atKey qs k:=by simp [atKey,List.find?_cons,e']
     rw [a50 e,b]; exact ih
theorem KT.repl {H:Hp}{kvs:List (List Key×V)}{xs:List (List Key×Addr×Value)}(r:KT H kvs xs) (k:List Key) {y:V}{u:Value}(ry:RelV y u) :
 KT H (kvs.map fun kv=>if kv.1=k then (kv.1,y) else kv) (xs.map (putAt k u)):=by
 induction r with
 | nil=>exact .nil
 | @cons p q ps qs h t ih =>
   rw [List.map_cons,List.map_cons]
   refine .cons ?_ ih
   obtain ⟨h1,h2,h3⟩:=h
   unfold putAt
   by_cases e:p.1=k
   · rw [if_pos e,if_pos (h1.symm.trans e)]; exact ⟨h1,h2,ry⟩
   · rw [if_neg e,if_neg (fun z=>e (h1.trans z))]; exact ⟨h1,h2,h3⟩
theorem KT.put {H:Hp}{kvs:List (List Key×V)}{xs:List (List Key×Addr×Value)}(r:KT H kvs xs) (k:List Key) {b:Addr}{y:V}{u:Value}(hb:H b=some (.tup (k.map kV))) (ry:RelV y u) :
 KT H (putK kvs k y) (storedH xs k b u):=by
 have e:(kvs.any fun kv=>decide (kv.1=k))=(atKey xs k).isSome:=by
  rw [ad5,(r.val k).isSome_eq,Option.isSome_map]
 unfold putK storedH
 rw [e]
 by_cases q:(atKey xs k).isSome=true
 · rw [if_pos q,if_pos q]; exact r.repl k ry
 · rw [if_neg q,if_neg q]; exact Paired.snoc r ⟨rfl,hb,ry⟩
theorem KT.keeps {H H':Hp}{kvs:List (List Key×V)}{xs:List (List Key×Addr×Value)}(r:KT H kvs xs) (ht:∀ b ys,H b=some (.tup ys)→H' b=some (.tup ys)):KT H' kvs xs :=
 Paired.mapP r fun _ _ z=>⟨z.1,ht _ _ z.2.1,z.2.2⟩
section
variable {P:Program}{w:World}{H:Hp}{h:Heap}{a:Addr}
theorem c68 {u:HO}(ok:HOk P w H h) (e:Rd H a u):ObjOk P w H h a u:=e.ok ok
theorem c69 {kvs:List (Key×V)}(ok:HOk P w H h) (e:Rd H a (.dK kvs)):kvs.length≤sizeLine∧(a == sysModules)=false∧∃ vs,KV kvs vs∧h.DictOf (a59 P w) a vs :=
 show ObjOk P w H h a (.dK kvs) from c68 ok e
theorem ch6 {kvs:List (Key×V)}(ok:HOk P w H h) (e:H a=some (.dK kvs)):kvs.length≤sizeLine∧(a == sysModules)=false∧∃ vs,KV kvs vs∧h.DictOf (a59 P w) a vs:=c69 ok (.inl e)
theorem b82 {ks:List Key}(ok:HOk P w H h) (e:H a=some (.tup (ks.map kV))):(tupleKind (a59 P w)).is h ks a:=by
 obtain ⟨_,its,r,o,h1,h2,n,h3⟩:=(show ObjOk P w H h a (.tup (ks.map kV)) from ok a _ e)
 exact ⟨o,its.toArray,n,h1,h2,h3,by simpa using at1 r⟩
theorem c70 {kvs:List (List Key×V)}(ok:HOk P w H h) (e:Rd H a (.dT kvs)):kvs.length≤sizeLine∧(a == sysModules)=false ∧
 ∃ xs,KT H kvs xs∧h.DictOfH (tupleKind (a59 P w)) a xs:=by
 obtain ⟨z,y,xs,r,o,es,ep,h1,h2,h3,h4,h5⟩:=(show ObjOk P w H h a (.dT kvs) from c68 ok e)
 refine ⟨z,y,xs,r,o,es,ep,h1,h2,h3,h4,fun x hx=>?_,h5⟩
 have all:∀ {l:List (List Key×V)}{m:List (List Key×Addr×Value)},KT H l m→∀ x∈m,(tupleKind (a59 P w)).is h x.1 x.2.1:=by
  intro l m q
  induction q with
  | nil=>intro x hx; exact nomatch hx
  | @cons p q ps qs hq t ih =>
    intro x hx
    rcases List.mem_cons.mp hx with e | hx
    · subst e
      exact b82 ok (by rw [← hq.1]; exact hq.2.1)
    · exact ih x hx
 exact all r x hx
theorem ch7 {kvs:List (List Key×V)}(ok:HOk P w H h) (e:H a=some (.dT kvs)):kvs.length≤sizeLine∧(a == sysModules)=false ∧
 ∃ xs,KT H kvs xs∧h.DictOfH (tupleKind (a59 P w)) a xs:=c70 ok (.inl e)
end
def DGet (H:Hp) (a:Addr) (y:V) (r:Option V):Prop :=
 (∃ kvs k,Rd H a (.dK kvs)∧y=kV k∧r=valV kvs k)∨∃ kvs k b,Rd H a (.dT kvs)∧y=.ref b∧H b=some (.tup (k.map kV))∧r=valV kvs k
def DPut (H:Hp) (a:Addr) (y v:V) (H':Hp):Prop :=
 (∃ kvs k,H a=some (.dK kvs)∧y=kV k∧kvs.length<sizeLine∧H'=upd H a (.dK (putK kvs k v))) ∨
 ∃ kvs k b,H a=some (.dT kvs)∧y=.ref b∧H b=some (.tup (k.map kV))∧kvs.length<sizeLine∧H'=upd H a (.dT (putK kvs k v))
theorem DGet.k {H:Hp}{a:Addr}{kvs:List (Key×V)}{k:Key}(e:H a=some (.dK kvs)):DGet H a (kV k) (valV kvs k):=.inl ⟨kvs,k,.inl e,rfl,rfl⟩
theorem DPut.k {H:Hp}{a:Addr}{kvs:List (Key×V)}{k:Key}{v:V}(e:H a=some (.dK kvs)) (hl:kvs.length<sizeLine):DPut H a (kV k) v (upd H a (.dK (putK kvs k v))):=.inl ⟨kvs,k,e,rfl,hl,rfl⟩
section
variable {X:Cx}{pins:List (Addr×Obj)}{σ:St} {H:Hp}{s:Shared}{a:Addr}{y v:V}{u r:Value}{o:Option V}{A:Around}{E:Value→Shared→Prop}
theorem Inv.big (I:Inv X pins σ H s):sysModules<s.heap.objs.size:=by
 have h:mainGlobals<s.heap.objs.size:=(I.mod.glob.keeps I.bk).lt
 exact Nat.lt_trans (by decide) h
theorem bu1 {Q:Value→Shared→Prop}(hu:A.units+1<cLine) (I:Inv X pins σ H s) (g:DGet H a y o) (ry:RelV y u) (h:∀ s',Inv X pins σ H s'→Q (.bool (!o.isSome)) s') :
 wpAny (model X.prog X.w) A (compareOp .NotIn u (.ref a)) Q E s:=by
 rcases g with ⟨kvs,k,e,ey,l⟩ | ⟨kvs,k,b,e,ey,eb,l⟩
 · subst ey
   obtain ⟨z,hd,vs,rel,dd⟩:=c69 I.hok e
   refine wpAny_notIn_of (bu0 ry) hd dd.mapOf ?_
   rw [← (rel.val k).isSome_eq,←l]
   exact h _ (I.tok _)
 · subst ey
   cases (show u=Value.ref b from ry)
   obtain ⟨z,hd,xs,rel,dd⟩:=c70 I.hok e
   refine wpAny_notIn_heap (tupleKind_room_in1 hu) (b82 I.hok eb) hd dd ?_
   have q:=(rel.val k).isSome_eq
   rw [Option.isSome_map] at q
   rw [← q,←l]
   exact h _ (I.tok _)
theorem ap1 {h':Heap}{t':Nat}{ob:HO}(I:Inv X pins σ H s) (mu:Mut (H a)) (hs:Heap.SameBut a s.heap h') (he:∃ q,h'.get? a=some q) (new:ObjOk X.prog X.w (upd H a ob) h' a ob) :
 Inv X pins σ (upd H a ob) { s with heap:=h',toks:=t' } :=
 I.write (x:=a) (e:=a) mu (.inl rfl) (fun b q hb z=>(hs.2 b hb).trans z) he new
theorem c71 {P:Program}{w:World}{H':Hp}{h':Heap}{kvs:List (Key×V)}{vs:List (Key×Value)}(z:kvs.length≤sizeLine) (hd:(a == sysModules)=false) (rel:KV kvs vs) (dd:h'.DictOf (a59 P w) a vs) :
 ObjOk P w H' h' a (.dK kvs):=⟨z,hd,vs,rel,dd⟩
theorem b83 {H':Hp}{Q:Unit→Shared→Prop}(hu:A.units+1<cLine) (I:Inv X pins σ H s) (g:DPut H a y v H') (ry:RelV y u) (rv:RelV v r) (h:∀ s',Inv X pins σ H' s'→Q () s') :
 wpAny (model X.prog X.w) A (setItem (.ref a) u r) Q E s:=by
 rcases g with ⟨kvs,k,e,ey,l,eH⟩ | ⟨kvs,k,b,e,ey,eb,l,eH⟩
 · subst ey eH
   obtain ⟨z,hd,vs,rel,dd⟩:=ch6 I.hok e
   have hz:vs.length≤sizeLine:=by rw [← rel.length]; exact z
   have hl:(putK kvs k v).length≤sizeLine:=by have:=a88 kvs k v; omega
   refine wpAny_setItem_pairs (hsz:=hz) (bu0 ry) dd fun h' dd' hs=>h _ ?_
   have he:∃ q,h'.get? a=some q:=let ⟨q,_,_,hq,_⟩:=dd'; ⟨q,hq⟩
   exact ap1 I (by rw [e]; exact True.intro) hs he (c71 hl hd (rel.put k rv) dd')
 · subst ey eH
   cases (show u=Value.ref b from ry)
   obtain ⟨z,hd,xs,rel,dd⟩:=ch7 I.hok e
   have hz:xs.length≤sizeLine:=by rw [← Paired.length rel]; exact z
   have hl:(putK kvs k v).length≤sizeLine:=by have:=a88 kvs k v; omega
   refine wpAny_setItem_heap (hsz:=hz) (tupleKind_room_in1 hu) (b82 I.hok eb) dd fun h' dd' hs=>h _ ?_
   obtain ⟨q,es,ep,hq,h2,h3,h4,_,h5⟩:=dd'
   refine ap1 I (by rw [e]; exact True.intro) hs ⟨q,hq⟩ ⟨hl,hd,_,(rel.put k eb rv).keeps fun c ys ec=>?_,q,es,ep,hq,h2,h3,h4,h5⟩
   rw [a14 (b56 ec e (fun z=>nomatch z))]
   exact ec
end
section
variable {X:Cx}{pins:List (Addr×Obj)}{σ:St} {H:Hp}{s:Shared}{a:Addr}{kvs:List (Key×V)}{k:Key}{u:Value}{A:Around}{E:Value→Shared→Prop}
end
def NoSl (i:Expr):Prop:=∀ ov iv,subscripted i false ov iv=operate [ov,iv] (getItem ov iv)
theorem bu2 {prog:Program}{w:World}{A:Around}{E:Value→Shared→Prop}{s:Shared}{env:Env}{value slice:Expr}{pos:Pos}{T id:String}{Q:Value→Shared→Prop}
 (hl:typeLookup (.type T) "__getitem__"=pure (some (.builtin id))) (hs:NoSl slice)
 (h:wpAny (model prog w) A (eval value env) (fun o s₁=>wpAny (model prog w) A (eval slice env) (fun i s₂=>s₂.TypeIs o T∧wpAny (model prog w) A (getItem o i) Q E s₂) E s₁) E s) :
 wpAny (model prog w) A (eval (.Subscript value slice pos) env) Q E s:=by
 refine Subscript_ (wpAny_mono h (fun o s₁ h₁=>wpAny_mono h₁ (fun i s₂ h₂=>?_) fun _ _ x=>x) fun _ _ x=>x)
 obtain ⟨hT,h₂⟩:=h₂
 unfold subscriptTail
 refine wpAny_bind ?_
 rw [getitemInPython_of_ne hT.not_modules]
 refine wpAny_bind (wpAny_specialOf hT hl ?_)
 have fin:wpAny (model prog w) A (subscripted slice false o i) (fun r s₃=>wpAny (model prog w) A (letTemporaryGo value o r >>= fun _=>pure r) Q E s₃) E s₂:=by
  rw [hs o i]
  exact wpAny_operating (wpAny_mono h₂ (fun r s₃ h₃=>wpAny_bind (wpAny_letTemporaryGo (wpAny_pure h₃))) fun _ _ x=>x)
 first
  | exact wpAny_pure (wpAny_bind fin)
  | exact wpAny_bind (wpAny_pure (wpAny_bind fin))
  | exact wpAny_bind fin
def b84 (ty td:TE):TE:=fun σ H Q=>ty σ H fun y H1=>td σ H1 fun x H2=>∃ a o,x=.ref a∧DGet H2 a y o∧Q (.bl (!o.isSome)) H2
def c72 (td ty tv:TE):TS:=fun D σ H=>tv σ H fun v H1=>td σ H1 fun x H2=>ty σ H2 fun y H3=>∃ a H4,x=.ref a∧DPut H3 a y v H4∧D.nx σ H4
section
variable {X:Cx}{o i e value:Expr}{pos pos' tpos:Pos}{td ty tv:TE}
theorem at2 (hu:X.A.units+1<cLine) (hi:PE X i ty) (ho:PE X o td):PC X .NotIn i o (b84 ty td):=by
 intro pins s σ H Q I h
 refine thn (hi pins s σ H _ I h) ?_
 rintro iv s1 ⟨y,H1,I1,ry,q1⟩
 refine thn (ho pins s1 σ H1 _ I1 q1) ?_
 rintro u s2 ⟨x,H2,I2,rx,a,ov,ex,g,q2⟩
 subst ex
 obtain rfl:u=Value.ref a:=rx
 exact bu1 hu I2 g ry fun s3 I3=>⟨.bl (!ov.isSome),H2,I3,rfl,q2⟩
theorem bu3 (hu:X.A.units+1<cLine) (ho:PE X o td) (hi:PE X i ty) (hv:PE X value tv) (hs:swapsWith value (some (.Subscript o i pos')) pos.line X.env=pure false) :
 PS X (.Assign [.Subscript o i pos'] value pos) (c72 td ty tv):=by
 intro pins s σ H D I h
 refine wpAny_Assign_Subscript (thn (hv pins s σ H _ I h) ?_) hs
 rintro r s1 ⟨v,H1,I1,rv,q1⟩
 refine thn (ho pins s1 σ H1 _ I1 q1) ?_
 rintro u s2 ⟨x,H2,I2,rx,q2⟩
 refine thn (hi pins s2 σ H2 _ I2 q2) ?_
 rintro iv s3 ⟨y,H3,I3,ry,a,H4,ex,g,q3⟩
 subst ex
 obtain rfl:u=Value.ref a:=rx
 exact b83 hu I3 g ry rv fun s4 I4=>⟨σ,H4,I4,q3⟩
end
theorem bh6 {P:Program}{w:World}{H:Hp}(h:Heap) (hb:sysModules<h.objs.size):ObjOk P w H (h.push { cls:=.type "dict",data:=.dict #[] }) h.objs.size (.dK []) :=
 ⟨Nat.zero_le _,beq_eq_false_iff_ne.mpr (Ne.symm (Nat.ne_of_lt hb)),[],.nil,Heap.DictOf.new h⟩
def c73:TE:=fun _ H Q=>∀ p,H p=none→Q (.ref p) (upd H p (.dK []))
section
variable {X:Cx}{pos:Pos}
theorem bh7:PE X (.Dict [] [] pos) c73:=fun pins s σ H Q I h =>
 wpAny_Dict_empty ⟨.ref s.heap.objs.size,_,I.laid (a:=s.heap.objs.size) (o:=.dK []) (t':=s.toks) (fun _ _ q=>Heap.get?_push_of_some _ q) (Nat.le_refl _) (bh6 s.heap I.big),rfl,h _ (I.hok.fresh (Nat.le_refl _))⟩
end
structure M1 (X:Cx) (o:Expr) (m:Str) (apos:Pos) (e:Expr) (cpos:Pos):Prop where
 base:attributeBase o m X.env (eval o X.env)=eval o X.env
 few:((backTo cpos (starEach [e] X.env)).all (fun x=>!x.1) && (backToKw cpos (keywordEach [] X.env)).all (fun x=>x.1.isSome)
  && decide (([e]:List Expr).length+([]:List Keyword).length+(if ([]:List Keyword).isEmpty then 0 else 1)<30))=true
 line:(apos.endLine == cpos.line)=true
 trees:backTo cpos (starEach [e] X.env)=[(false,eval e X.env)]
structure M2 (X:Cx) (o:Expr) (m:Str) (apos:Pos) (e f:Expr) (cpos:Pos):Prop where
 base:attributeBase o m X.env (eval o X.env)=eval o X.env
 few:((backTo cpos (starEach [e,f] X.env)).all (fun x=>!x.1) && (backToKw cpos (keywordEach [] X.env)).all (fun x=>x.1.isSome)
  && decide (([e,f]:List Expr).length+([]:List Keyword).length+(if ([]:List Keyword).isEmpty then 0 else 1)<30))=true
 line:(apos.endLine == cpos.line)=true
 trees:backTo cpos (starEach [e,f] X.env)=[(false,eval e X.env),(false,eval f X.env)]
section
variable {X:Cx}{pins:List (Addr×Obj)}{σ:St} {H:Hp}{s:Shared}{a:Addr}{y d:V}{u r:Value}{o:Option V}{A:Around}{E:Value→Shared→Prop}
end
section
variable {X:Cx}{o e f:Expr}{apos cpos:Pos}{td ty tx:TE}
end
section
variable {X:Cx}{pins:List (Addr×Obj)}{σ:St} {H:Hp}{s:Shared}{a:Addr}{kvs:List (Key×V)}{A:Around}{E:Value→Shared→Prop}
end
section
variable {X:Cx}{pins:List (Addr×Obj)}{σ:St} {H:Hp}{s:Shared}{a:Addr}{y:V}{u:Value}{A:Around}{E:Value→Shared→Prop}
end
section
variable {κ:Type} [DecidableEq κ]
theorem b85:∀ {l:List κ}{k:κ},l.Nodup→¬ k∈l→(l++[k]).Nodup
 | [],k,_,_=>by simp
 | a::r,k,h,hk=>by
   obtain ⟨h1,h2⟩:=List.nodup_cons.mp h
   show (a::(r++[k])).Nodup
   refine List.nodup_cons.mpr ⟨fun m=>?_,b85 h2 fun m=>hk (List.mem_cons.mpr (Or.inr m))⟩
   rcases List.mem_append.mp m with q | q
   · exact h1 q
   · exact hk (List.mem_cons.mpr (Or.inl (List.mem_singleton.mp q).symm))
end
def cxC (X:Cx) (N:List Str) (scope:Scope) (cl:List (Str×Addr)) (C:Addr) (s0:Shared) (H0:Hp) (ex:List Addr):Cx :=
 { X with N:=N,s₀:=s0,H₀:=H0,env:=compEnvC scope cl C X.env,outer:=X.stack,stack:=X.stack,ex:=ex,fn:=fun x=>scope.names.lookup x == some .cell,pn:=[],xe:=fun _ _=>False }
theorem am8 {env : Env} (has : ∀ x, (env.kindOf x = some .cell ∨ env.kindOf x = some .free) → ∃ c, env.cells.lookup x = some c) {scope : Scope}
    (hf : ∀ y ∈ scope.names, y.2 = .free → env.kindOf y.1 = some .cell ∨ env.kindOf y.1 = some .free) :
    ∃ cl, closureFor scope env = pure cl ∧ (∀ x c, cl.lookup x = some c → env.cells.lookup x = some c) ∧ (∀ y ∈ scope.names, y.2 = .free → ∃ c, cl.lookup y.1 = some c) := by
  have gen : ∀ (names : List (Str × NameKind)) (cs : List (Str × Addr)), (∀ y ∈ names, y.2 = .free → env.kindOf y.1 = some .cell ∨ env.kindOf y.1 = some .free) →
      (∀ x c, cs.lookup x = some c → env.cells.lookup x = some c) →
      ∃ cl, (forIn (m := Sem) names cs fun p r => do
          match p with
          | (name, kind) => if kind == .free then do let c ← cellOf env name; pure (ForInStep.yield ((name, c) :: r)) else pure (ForInStep.yield r)) = pure cl ∧
        (∀ x c, cl.lookup x = some c → env.cells.lookup x = some c) ∧ (∀ x c, cs.lookup x = some c → ∃ c, cl.lookup x = some c) ∧ (∀ y ∈ names, y.2 = .free → ∃ c, cl.lookup y.1 = some c) := by
    intro names
    induction names with
    | nil => intro cs _ h; exact ⟨cs, rfl, h, fun x c e => ⟨c, e⟩, fun y hy => nomatch hy⟩
    | cons p r ih =>
      intro cs hp h
      obtain ⟨n, k⟩ := p
      by_cases hk : k = .free
      · subst hk
        obtain ⟨c, hc⟩ := has n (hp (n, .free) List.mem_cons_self rfl)
        have h' : ∀ x d, ((n, c) :: cs).lookup x = some d → env.cells.lookup x = some d := by
          intro x d e
          rw [List.lookup_cons] at e
          cases hx : x == n with
          | true =>
            rw [hx] at e
            have : x = n := by simpa using hx
            cases e; rw [this]; exact hc
          | false => rw [hx] at e; exact h x d e
        obtain ⟨cl, e1, e2, e3, e4⟩ := ih ((n, c) :: cs) (fun y hy => hp y (List.mem_cons_of_mem _ hy)) h'
        have hn : ∃ d, cl.lookup n = some d := e3 n c (by simp [List.lookup_cons])
        refine ⟨cl, ?_, e2, fun x d e => ?_, fun y hy hyk => ?_⟩
        · rw [List.forIn_cons]
          have : cellOf env n = pure c := by unfold cellOf; rw [hc]
          simp only [beq_self_eq_true, if_true, this]
          exact e1
        · by_cases hx : x = n
          · subst hx; exact hn
          · exact e3 x d (by rw [List.lookup_cons]; have : (x == n) = false := by simpa using hx
                             rw [this]; exact e)
        · rcases List.mem_cons.mp hy with rfl | hy
          · exact hn
          · exact e4 y hy hyk
      · obtain ⟨cl, e1, e2, e3, e4⟩ := ih cs (fun y hy => hp y (List.mem_cons_of_mem _ hy)) h
        refine ⟨cl, ?_, e2, e3, fun y hy hyk => ?_⟩
        · rw [List.forIn_cons]
          have : (k == NameKind.free) = false := by simpa using hk
          simp only [this]
          exact e1
        · rcases List.mem_cons.mp hy with rfl | hy
          · exact absurd hyk hk
          · exact e4 y hy hyk
  obtain ⟨cl, e1, e2, _, e4⟩ := gen scope.names [] hf (fun x c e => nomatch e)
  refine ⟨cl, ?_, e2, e4⟩
  unfold closureFor
  simp only []
  exact congrArg (· >>= fun cs => pure cs) e1 |>.trans rfl
theorem at3 {scope:Scope}{env:Env}{x:Str}{k:NameKind}(h:(relabel scope env).names.lookup x=some k) (hk:k=.cell∨k=.free):∃ y∈scope.names,y.1=x∧(y.2=.free∨y.2=.cell):=by
 have gen:∀ names:List (Str×NameKind),(names.map fun (n,k)=>if (k == NameKind.free && env.scope.kind == .function && env.kindOf n == some .cell) then (n,NameKind.cell) else (n,k)).lookup x=some k →
  ∃ y∈names,y.1=x∧(y.2=.free∨y.2=.cell):=by
  intro names
  induction names with
  | nil=>intro h; cases h
  | cons p r ih =>
    obtain ⟨n,j⟩:=p
    intro h
    rw [List.map_cons,List.lookup_cons] at h
    have e1:(if (j == NameKind.free && env.scope.kind == .function && env.kindOf n == some .cell)=true then (n,NameKind.cell) else (n,j)).1=n:=by split <;> rfl
    dsimp only at h
    rw [e1] at h
    cases hx:x == n with
    | false =>
      rw [hx] at h
      obtain ⟨y,hy,q⟩:=ih h
      exact ⟨y,List.mem_cons_of_mem _ hy,q⟩
    | true =>
      rw [hx] at h
      have ex:x=n:=by simpa using hx
      refine ⟨(n,j),List.mem_cons_self,ex.symm,?_⟩
      by_cases hc:(j == NameKind.free && env.scope.kind == .function && env.kindOf n == some .cell)=true
      · have:=(Bool.and_eq_true _ _).mp ((Bool.and_eq_true _ _).mp hc).1
        exact .inl (by simpa using this.1)
      · rw [if_neg hc] at h
        cases h
        exact hk.symm
 exact gen scope.names h
theorem a89:∀ (names:List (Str×NameKind)) (n:Nat) (a b:List (Str×Addr)),cellsFrom n names (a++b)=cellsFrom n names a++b
 | [],_,_,_=>rfl
 | (x,k)::r,n,a,b=>by
   unfold cellsFrom
   split
   · exact a89 r (n+1) ((x,n)::a) b
   · exact a89 r n a b
theorem a90:∀ (names:List (Str×NameKind)) (n:Nat) (a:List (Str×Addr)) (x:Str) (c:Addr),(x,c)∈cellsFrom n names a→(x,c)∈a∨(x,NameKind.cell)∈names
 | [],_,_,_,_,h=>.inl h
 | (y,k)::r,n,a,x,c,h=>by
   unfold cellsFrom at h
   split at h
   · next hk =>
     rcases a90 r (n+1) _ x c h with z | z
     · rcases List.mem_cons.mp z with e | z
       · cases e
         have:k=.cell:=by simpa using hk
         subst this
         exact .inr List.mem_cons_self
       · exact .inl z
     · exact .inr (List.mem_cons_of_mem _ z)
   · rcases a90 r n a x c h with z | z
     · exact .inl z
     · exact .inr (List.mem_cons_of_mem _ z)
theorem ad6 {α:Type}:∀ {l:List (Str×α)}{x:Str}{c:α},(x,c)∈l→∃ d,l.lookup x=some d
 | [],_,_,h=>nomatch h
 | (y,d)::l,x,c,h=>by
   rw [List.lookup_cons]
   cases hx:x == y with
   | true=>exact ⟨d,rfl⟩
   | false =>
     rcases List.mem_cons.mp h with e | h
     · cases e
       simp at hx
     · exact ad6 h
theorem af1 {α:Type}{x:Str}:∀ {a b:List (Str×α)},(a++b).lookup x=(a.lookup x).or (b.lookup x)
 | [],_=>rfl
 | (y,d)::a,b=>by
   rw [List.cons_append,List.lookup_cons,List.lookup_cons]
   cases hx:x == y with
   | true=>rfl
   | false=>exact af1 (a:=a) (b:=b)
theorem a91:∀ (names:List (Str×NameKind)) (n:Nat) (a:List (Str×Addr)) (p:Str×Addr),p∈a→p∈cellsFrom n names a
 | [],_,_,_,h=>h
 | (y,k)::r,n,a,p,h=>by
   unfold cellsFrom
   split
   · exact a91 r (n+1) _ p (List.mem_cons_of_mem _ h)
   · exact a91 r n a p h
theorem a92:∀ (names:List (Str×NameKind)) (n:Nat) (a:List (Str×Addr)) (x:Str),(x,NameKind.cell)∈names→∃ c,(x,c)∈cellsFrom n names a
 | (y,k)::r,n,a,x,h=>by
   unfold cellsFrom
   rcases List.mem_cons.mp h with e | h
   · cases e
     exact ⟨n,a91 r (n+1) _ _ List.mem_cons_self⟩
   · split
     · exact a92 r (n+1) _ x h
     · exact a92 r n a x h
structure CellsR (X:Cx) (scope:Scope) (Nf:List Str) (r:List (Str×Addr)) (C:Addr) (h1:Heap):Prop where
 sp:∀ x c,r.lookup x=some c→(C<c∧h1.IsCell c none)∨X.env.cells.lookup x=some c
 inj:∀ x y c,r.lookup x=some c→r.lookup y=some c→x=y
 has:∀ y∈scope.names,(y.2=.free∨y.2=.cell)→∃ c,r.lookup y.1=some c
 cab:∀ x c,scope.names.lookup x=some .cell→r.lookup x=some c→C<c
 cap:∀ x∈Nf,∀ c,r.lookup x=some c→X.env.cells.lookup x=some c
theorem bu4 {X:Cx}{scope:Scope}{Nf:List Str}{cl:List (Str×Addr)}{h:Heap}{C:Addr}(hC:h.objs.size=C+1) (hX:∀ x c,X.env.cells.lookup x=some c→c<C) (hinj:∀ x y c,X.env.cells.lookup x=some c→X.env.cells.lookup y=some c→x=y)
 (hcl:∀ x c,cl.lookup x=some c→X.env.cells.lookup x=some c) (hcf:∀ y∈scope.names,y.2=.free→∃ c,cl.lookup y.1=some c) (hnx:∀ x∈Nf,(x,NameKind.cell)∉scope.names) :
 CellsR X scope Nf (cellsFrom (C+1) scope.names cl) C (pushCells h scope.names):=by
 have e0:cellsFrom (C+1) scope.names cl=cellsFrom (C+1) scope.names []++cl:=a89 scope.names (C+1) [] cl
 have ok:=cellsFrom_ok scope.names h (C+1) [] ⟨fun _ _ hm=>(nomatch hm),List.Pairwise.nil⟩ (by rw [hC]; exact Nat.le_refl _)
 rw [hC] at ok
 have hmem:∀ x c,(x,c)∈cellsFrom (C+1) scope.names []→(x,NameKind.cell)∈scope.names:=fun x c h=>by
  rcases a90 _ _ _ x c h with z | z
  · exact nomatch z
  · exact z
 have ho:∀ x,(x,NameKind.cell)∈scope.names→∃ c,(cellsFrom (C+1) scope.names []).lookup x=some c:=fun x hx=>by
  obtain ⟨c,hc⟩:=a92 scope.names (C+1) [] x hx
  exact ad6 hc
 rw [e0]
 generalize cellsFrom (C+1) scope.names []=own at ok hmem e0 ho
 have spl:∀ x c,(own++cl).lookup x=some c→(own.lookup x=some c∧C<c)∨(own.lookup x=none∧cl.lookup x=some c):=fun x c e=>by
  rw [af1] at e
  cases hx:own.lookup x with
  | none=>rw [hx] at e; exact .inr ⟨rfl,e⟩
  | some d =>
    rw [hx] at e
    cases e
    exact .inl ⟨rfl,(ok.empty x c (PySem.mem_of_lookup hx)).2⟩
 refine ⟨fun x c e=>?_,fun x y c e1 e2=>?_,fun y hy hk=>?_,fun x c hk e=>?_,fun x hx c e=>?_⟩
 · rcases spl x c e with ⟨e1,h1⟩ | ⟨_,e1⟩
   · exact .inl ⟨h1,(ok.empty x c (PySem.mem_of_lookup e1)).1⟩
   · exact .inr (hcl x c e1)
 · rcases spl x c e1 with ⟨a1,b1⟩ | ⟨_,a1⟩ <;> rcases spl y c e2 with ⟨a2,b2⟩ | ⟨_,a2⟩
   · exact name_of_addr ok.apart (PySem.mem_of_lookup a1) (PySem.mem_of_lookup a2)
   · exact absurd (hX y c (hcl y c a2)) (Nat.not_lt.mpr (Nat.le_of_lt b1))
   · exact absurd (hX x c (hcl x c a1)) (Nat.not_lt.mpr (Nat.le_of_lt b2))
   · exact hinj x y c (hcl x c a1) (hcl y c a2)
 · rw [af1]
   cases hx:own.lookup y.1 with
   | some d=>exact ⟨d,rfl⟩
   | none =>
     rcases hk with hk | hk
     · exact hcf y hy hk
     · obtain ⟨c,hc⟩:=ho y.1 (by rw [← hk]; exact hy)
       rw [hx] at hc
       cases hc
 · obtain ⟨d,hd⟩:=ho x (PySem.mem_of_lookup hk)
   rcases spl x c e with ⟨_,h1⟩ | ⟨z,_⟩
   · exact h1
   · rw [hd] at z
     cases z
 · rcases spl x c e with ⟨h1,_⟩ | ⟨_,e1⟩
   · exact absurd (hmem x c (PySem.mem_of_lookup h1)) (hnx x hx)
   · exact hcl x c e1
section
variable {X:Cx}{pins:List (Addr×Obj)}{σ:St} {H:Hp}{s:Shared}{N:List Str}{scope:Scope}{cl:List (Str×Addr)}{C:Addr}{ex:List Addr}{Nf:List Str}{h1:Heap}
theorem c74 (I:Inv X pins σ H s) (hC:s.heap.objs.size≤C) (hkind:scope.kind=.function) (R:CellsR X scope Nf cl C h1)
 (hex:∀ b∈ex,FpOk X pins H b) (hexl:∀ b∈ex,b<s.heap.objs.size):(cxC X N scope cl C s H ex).Ok where
 mod:=I.ok.mod
 kind:=hkind
 glob:=I.ok.glob
 blt:=I.ok.blt
 above:=hC
 inj:=R.inj
 has:=fun x hx=>by
  have hx':∃ k,(relabel scope X.env).names.lookup x=some k∧(k=.cell∨k=.free):=by
   rcases hx with h | h
   · exact ⟨_,h,.inl rfl⟩
   · exact ⟨_,h,.inr rfl⟩
  obtain ⟨k,h,hk⟩:=hx'
  obtain ⟨y,hy,e1,e2⟩:=at3 h hk
  rw [← e1]
  exact R.has y hy e2
 cab:=fun x c h e=>Nat.le_trans hC (Nat.le_of_lt (R.cab x c (by have h':(scope.names.lookup x == some NameKind.cell)=true:=h; simpa using h') e))
 hd:=I.ok.hd
 frames:=I.ok.frames
 stk:=.inl rfl
 exf:=fun b hb=>⟨Nat.ne_of_lt (Nat.lt_of_lt_of_le (hexl b hb) hC),fun x c e=>by
  rcases R.sp x c e with ⟨z,_⟩ | z
  · exact Nat.ne_of_gt (Nat.lt_trans (Nat.lt_of_lt_of_le (hexl b hb) hC) z)
  · exact (hex b hb).2.2.2.2.1 x c z⟩
 bs:=I.bs
 bsz:=Nat.le_trans I.ok.bsz I.sz
 noex:=fun b o e hb=>by
  rcases (hex b hb).2.2.2.1 with z | z
  · exact I.ok.noex b o e z
  · have h1:=Heap.lt_size e
    have h2:=I.ok.bsz
    exact absurd (Nat.lt_of_lt_of_le h1 (Nat.le_trans h2 z)) (Nat.lt_irrefl _)
 exfs:=fun b hb z=>by
  have h1:=I.stkSub b z
  rcases List.mem_cons.mp h1 with z | z
  · exact (hex b hb).2.1 z
  · exact (hex b hb).2.2.1 z
 funs:=I.stack
 frf:=I.stkFree
def capV (caps:List Nat) (σ:St):St:=caps.map fun j=>(σ[j]?).join
def cSt (n:Nat) (caps:List Nat) (σ:St):St:=List.replicate n none++capV caps σ
theorem bu5 {caps:List Nat}{Nt:List Str}{s1:Shared}{m:Str→Option Value}(I:Inv X pins σ H s) (ok:(cxC X (Nt++Nf) scope cl C s H ex).Ok)
 (R:CellsR X scope Nf cl C s1.heap)
 (hcap:caps.map (fun j=>X.N[j]?)=Nf.map some)
 (hvis:∀ x∈Nf,scope.names.lookup x=some .free) (hXv:∀ x∈Nf,X.env.kindOf x=some .cell∨X.env.kindOf x=some .free) (hcf:∀ x∈Nf,∃ c,cl.lookup x=some c)
 (hos:s1.os=s.os) (hgens:s1.gens=s.gens) (hk:∀ b o,s.heap.get? b=some o→s1.heap.get? b=some o) (hns:s1.heap.Ns C m) (hC:s.heap.objs.size≤C) :
 Inv (cxC X (Nt++Nf) scope cl C s H ex) [] (cSt Nt.length caps σ) H s1:=by
 have hlen:caps.length=Nf.length:=by
  have:=congrArg List.length hcap
  simpa using this
 refine ⟨ok,hos,by rw [hgens]; exact I.bare,Un.kept hk,⟨m,hns,fun i x v h1 h2 h3=>?_⟩,fun x c e=>?_,I.hok.fresh hC,fun x c e=>by
  rcases R.sp x c e with ⟨z,_⟩ | z
  · exact I.hok.fresh (Nat.le_trans hC (Nat.le_of_lt z))
  · exact I.freeC x c z,fun p hp=>absurd (show p∈([]:List (Addr×Obj)) from hp) (by simp),I.hok.kept hk,?_⟩
 · -- a captured name
   have hi:Nt.length≤i:=by
    refine Nat.le_of_not_lt fun q=>?_
    unfold cSt at h2
    rw [List.getElem?_append_left (by simpa using q),List.getElem?_replicate] at h2
    split at h2 <;> cases h2
   have h1':Nf[i - Nt.length]?=some x:=by
    have:(Nt++Nf)[i]?=some x:=h1
    rwa [List.getElem?_append_right hi] at this
   unfold cSt at h2
   rw [List.getElem?_append_right (by simpa using hi)] at h2
   have e0:i - (List.replicate Nt.length (none:Option V)).length=i - Nt.length:=by simp
   rw [e0] at h2
   generalize hj:i - Nt.length=j at h1' h2
   unfold capV at h2
   rw [List.getElem?_map] at h2
   cases hc:caps[j]? with
   | none=>rw [hc] at h2; cases h2
   | some jj =>
     rw [hc] at h2
     have h2':(σ[jj]?).join=some v:=Option.some.inj h2
     have h2'':σ[jj]?=some (some v):=by
      cases q:σ[jj]? with
      | none=>rw [q] at h2'; cases h2'
      | some z=>rw [q] at h2'; cases z with
        | none=>cases h2'
        | some z'=>cases h2'; rfl
     have hN:X.N[jj]?=some x:=by
      have q:=congrArg (fun l=>l[j]?) hcap
      simp only [List.getElem?_map,hc,h1',Option.map_some] at q
      exact Option.some.inj q
     have hx:x∈Nf:=List.mem_of_getElem? h1'
     have hXk:=hXv x hx
     obtain ⟨mX,_,hl⟩:=I.loc
     obtain ⟨u,ru,lk⟩:=hl jj x v hN h2'' (by
      rcases hXk with z | z
      · exact .inr (.inl z)
      · exact .inr (.inr z))
     refine ⟨u,ru,.inr ?_⟩
     rcases lk with ⟨z,_⟩ | ⟨_,c,hc1,hcell⟩
     · rcases hXk with y | y <;> (rw [z] at y; cases y)
     · obtain ⟨c',hc'⟩:=hcf x hx
       have e:=R.cap x hx c' hc'
       rw [hc1] at e; cases e
       refine ⟨?_,c,hc',?_⟩
       · rcases h3 with z | z | z
         · -- not a local of the block
           exfalso
           have hfree:=hvis x hx
           have z':(relabel scope X.env).names.lookup x=some .local:=z
           have gen:∀ names:List (Str×NameKind),names.lookup x=some .free→(names.map fun (n,k)=>if (k == NameKind.free && X.env.scope.kind == .function && X.env.kindOf n == some .cell) then (n,NameKind.cell) else (n,k)).lookup x≠some .local:=by
            intro names
            induction names with
            | nil=>intro h; cases h
            | cons p r ih =>
              obtain ⟨n,k⟩:=p
              intro h
              rw [List.map_cons,List.lookup_cons]
              rw [List.lookup_cons] at h
              have e1:(if (k == NameKind.free && X.env.scope.kind == .function && X.env.kindOf n == some .cell)=true then (n,NameKind.cell) else (n,k)).1=n:=by split <;> rfl
              dsimp only
              rw [e1]
              cases hx:x == n with
              | false=>rw [hx] at h; exact ih h
              | true =>
                rw [hx] at h
                cases h
                show some (if _ then (n,NameKind.cell) else (n,NameKind.free)).2≠some .local
                split <;> (intro q; cases q)
           exact gen scope.names hfree z'
         · exact .inl z
         · exact .inr z
       · obtain ⟨o,eo,d⟩:=hcell
         exact ⟨o,hk _ _ eo,d⟩
 · rcases R.sp x c e with ⟨_,z⟩ | z
   · exact ⟨none,z⟩
   · obtain ⟨v,q⟩:=I.cell x c z
     obtain ⟨o,eo,d⟩:=q
     exact ⟨v,o,hk _ _ eo,d⟩
 · show (cSt Nt.length caps σ).length=(Nt++Nf).length
   unfold cSt capV
   simp [hlen]
end
abbrev bo7 (ifs:List Expr) (env:Env):Sem Bool:=forIn ifs true fun c r=>if r=true then do let ok←isTrue c env (eval c env); pure (ForInStep.yield ok) else pure (ForInStep.yield r)
abbrev NoX:Value→Shared→Prop:=fun _ _=>False
theorem at4 {P:Program}{w:World}{B:Around}{R:Result→Shared→Prop}{s:Shared}{y tg l:Expr}{cs:List Expr}{sc:Scope}{ps:Pos}{iv av:Value}{en:Env}(G:Nat→Shared→Prop)
 (one:∀ n s,G n s→wpAny (model P w) B (pyNext iv) (fun r s1=>match r with
  | none=>R (.ok .next) s1
  | some v=>wpAny (model P w) B (letOwnedTupleGo tg iv v) (fun _ s1=>wpAny (model P w) B (assign tg en v) (fun _ s2=>wpAny (model P w) B (bo7 cs en) (fun k s3 =>
   if k=true then wpAny (model P w) B (eval y en) (fun x s4=>wpAny (model P w) B (call (.builtin "list.append") [av,x]) (fun _ s5=>∃ m,m<n∧G m s5) NoX s4) NoX s3
   else ∃ m,m<n∧G m s3) NoX s2) NoX s1) NoX s1) NoX s) (n:Nat) (h:G n s) :
 codeAny (model P w) B (.compLoop (.ListComp y [⟨tg,l,cs,0⟩] sc ps) 0 iv av en) R s:=by
 refine codeAny_loop rfl G (fun n s hG=>?_) n h
 show wpAny _ B ((compTurn (.ListComp y [⟨tg,l,cs,0⟩] sc ps) 0 iv av en).onRaise (fun x=>do noteFrame x en; theTreesLotGoes x)) _ _ s
 refine wpAny_noted ?_
 rw [compTurn_list]
 refine wpAny_bind (wpAny_standAt (wpAny_bind (wpAny_mono (one n s hG) (fun r s1 h1=>?_) fun _ _ z=>z.elim)))
 cases r with
 | none=>exact wpAny_pure h1
 | some v =>
   refine wpAny_bind (wpAny_mono h1 (fun _ s1' h1'=>?_) fun _ _ z=>z.elim)
   refine wpAny_bind (wpAny_mono h1' (fun _ s2 h2=>wpAny_bind (wpAny_mono h2 (fun k s3 h3=>?_) fun _ _ z=>z.elim)) fun _ _ z=>z.elim)
   cases k with
   | false=>exact wpAny_pure ⟨rfl,h3⟩
   | true=>exact wpAny_bind (wpAny_bind (wpAny_mono h3 (fun x s4 h4=>wpAny_bind (wpAny_mono h4 (fun _ s5 h5=>wpAny_pure (wpAny_pure ⟨rfl,h5⟩)) fun _ _ z=>z.elim)) fun _ _ z=>z.elim))
def PTs (X:Cx) (ifs:List Expr) (t:TT):Prop :=
 ∀ (pins:List (Addr×Obj)) (s:Shared) (σ:St) (H:Hp) (Q:Bool→Hp→Prop),Inv X pins σ H s→t σ H Q →
  wpAny (model X.prog X.w) X.A (bo7 ifs X.env) (TP X pins σ Q) X.xe s
def tNoIf:TT:=fun _ H Q=>Q true H
theorem ai9 {X:Cx}:PTs X [] tNoIf:=fun pins s σ H Q I h=>wpAny_tests_nil ⟨H,I,h⟩
theorem bu6 {X:Cx}{c:Expr}{t:TT}(h:PT X c t):PTs X [c] t:=fun pins s σ H Q I q=>wpAny_tests_one (h pins s σ H Q I q)
section
variable {X:Cx}{pins:List (Addr×Obj)}{σ:St} {H:Hp}{s:Shared}
theorem Inv.adopt {D:Addr}{o:HO}(I:Inv X pins σ H s) (hD:H D=none) (h1:X.s₀.heap.objs.size≤D) (h2:D≠X.env.locals) (h3:∀ x c,X.env.cells.lookup x=some c→c≠D) (h4:∀ p∈X.pn++pins,p.1≠D)
 (new:ObjOk X.prog X.w (upd H D o) s.heap D o):Inv X pins σ (upd H D o) s:=by
 have old:∀ {b:Addr}{q:Obj},X.s₀.heap.get? b=some q→b≠D:=fun e=>Nat.ne_of_lt (Nat.lt_of_lt_of_le (Heap.lt_size e) h1)
 refine ⟨I.ok,I.os,I.bare,⟨I.base.keep,I.base.slot,fun b q e n hx=>by rw [a14 (old e)]; exact I.base.free b q e n hx,I.base.there,fun b xs e=>?_,fun b q u e=>?_,fun b ps e=>?_⟩,I.loc,I.cell,by rw [a14 (Ne.symm h2)]; exact I.free,fun x c e=>by rw [a14 (h3 x c e)]; exact I.freeC x c e,fun p hp=>?_,fun b u e=>?_,I.len⟩
 · have e':=I.base.tups b xs e
   rw [a14 (a29 e' hD)]; exact e'
 · have e':=I.base.frzs b q u e
   rw [a14 (a29 e' hD)]; exact e'
 · obtain ⟨more,e'⟩:=I.base.tbls b ps e
   exact ⟨more,by rw [a14 (a29 e' hD)]; exact e'⟩
 · obtain ⟨a1,a2,a3,a4,a5⟩:=I.pin p hp
   exact ⟨a1,by rw [a14 (h4 p hp)]; exact a2,a3,a4,a5⟩
 · by_cases hb:b=D
   · subst hb; rw [a18] at e; cases e; exact new
   · rw [a14 hb] at e
     exact (I.hok b u e).stay (fun c v _ q=>q) (fun c q=>by rw [a14 (a29 q hD)]; exact q) fun c xs q=>by rw [a14 (a29 q hD)]; exact q
def tLC (wi:TI) (g:TG) (tt:TT) (te:TE) (n:Nat) (caps:List Nat):TE:=fun σ H Q=>wi σ H fun J H1=>∃ W:Nat→Nat→List V→St→Hp→Prop,(∃ m,W 0 m [] (cSt n caps σ) H1)∧∀ i m acc σ' H',W i m acc σ' H' →
 (J.stop i H'∧∀ l,H' l=none→Q (.ref l) (upd H' l (.lst acc))) ∨
 (J.go i H'∧acc.length<sizeLine∧∃ N:List V→St→Hp→Prop,(∀ ac σ2 H2,N ac σ2 H2→∃ m',m'<m∧W (i+1) m' ac σ2 H2)∧∀ x H2,J.yld i H' x H2→g x σ' H2 fun σ3 H3=>tt σ3 H3 fun b H4=>if b=true then te σ3 H4 fun y H5=>N (acc++[y]) σ3 H5 else N acc σ3 H4)
structure CompOk (X:Cx) (scope:Scope) (Nt Nf:List Str) (caps:List Nat):Prop where
 kind:scope.kind=.function
 nx:∀ x∈Nf,(x,NameKind.cell)∉scope.names
 nm:∀ y∈scope.names,y.2=.local→scope.names.lookup y.1=some .local
 fr:∀ y∈scope.names,y.2=.free→X.env.kindOf y.1=some .cell∨X.env.kindOf y.1=some .free
 cap:caps.map (fun j=>X.N[j]?)=Nf.map some
 vis:∀ x∈Nf,scope.names.lookup x=some .free
theorem b41 {M:Model}{A:Around}{E:Value→Shared→Prop}{scope:Scope}{globals:Addr}{closure:List (Str×Addr)}{qual:Str}{func:Option Addr}{code:Value}{env:Env}{builtins:Addr}{Q:Env→Shared→Prop}
 (hQ:Q (newEnv scope s.heap.objs.size globals (cellsFrom (s.heap.objs.size+1) scope.names closure) qual func code (some env) builtins) { s with heap:=pushCells (s.heap.push { cls:=.type "dict",data:=.dict #[] }) scope.names }) :
 wpAny M A (newFunctionEnv scope globals closure [] qual func code (some env) builtins) Q E s:=by
 simp only [newFunctionEnv,Option.isSome_some,if_true]
 refine wpAny_bind (wpAny_alloc ?_)
 refine wpAny_bind (wpAny_layCells _ (fun name kind cells=>by cases hkc:kind == NameKind.cell <;> simp [hkc]) _ _ _ _ ?_)
 rw [show ({ s with heap:=s.heap.push { cls:=.type "dict",data:=.dict #[] } }:Shared).heap.objs.size=s.heap.objs.size+1 from Heap.size_push ..]
 rw [List.forIn_nil]
 exact wpAny_bind (wpAny_pure (wpAny_pure hQ))
theorem am9 {tg iter elt:Expr}{ifs:List Expr}{scope:Scope}{pos:Pos}{g:TG}{tt:TT}{te:TE}{Nt Nf:List Str}{caps:List Nat}{cl:List (Str×Addr)}{it:Addr}{fp:List Addr}{tn:Nat→Heap→Prop}{J:It}{Q:VK}{E:Value→Shared→Prop}
 {RR:Value→Addr→Result→Shared→Prop}
 (hc:X.calm=true) (S:CompOk X scope Nt Nf caps)
 (hg:∀ cl C s0 H0 ex,PG (cxC X (Nt++Nf) scope cl C s0 H0 ex) tg g)
 (ht:∀ cl C s0 H0 ex,PTs (cxC X (Nt++Nf) scope cl C s0 H0 ex) ifs tt)
 (he:∀ cl C s0 H0 ex,PE (cxC X (Nt++Nf) scope cl C s0 H0 ex) elt te)
 (hcl:∀ x c,cl.lookup x=some c→X.env.cells.lookup x=some c) (hcf:∀ y∈scope.names,y.2=.free→∃ c,cl.lookup y.1=some c)
 (I:Inv X pins σ H s) (T:Turn X.prog X.w X.K tg J fp it tn) (st:tn 0 s.heap) (hfp:∀ b∈fp,FpOk X pins H b)
 (hW:∃ W:Nat→Nat→List V→St→Hp→Prop,(∃ m,W 0 m [] (cSt Nt.length caps σ) H)∧∀ i m acc σ' H',W i m acc σ' H' →
  (J.stop i H'∧∀ l,H' l=none→Q (.ref l) (upd H' l (.lst acc))) ∨
  (J.go i H'∧acc.length<sizeLine∧∃ N:List V→St→Hp→Prop,(∀ ac σ2 H2,N ac σ2 H2→∃ m',m'<m∧W (i+1) m' ac σ2 H2)∧∀ x H2,J.yld i H' x H2→g x σ' H2 fun σ3 H3=>tt σ3 H3 fun b H4=>if b=true then te σ3 H4 fun y H5=>N (acc++[y]) σ3 H5 else N acc σ3 H4))
 (fin:∀ D C m s' H',Inv X pins σ H' s'→Q (.ref D) H'→s'.heap.Ns C m→H' C=none→C≠X.env.locals→X.s₀.heap.objs.size≤C→(∀ x c,X.env.cells.lookup x=some c→c≠C)→(∀ p∈X.pn++pins,p.1≠C)→RR (.ref D) C (.ok .next) s') :
 wpAny (model X.prog X.w) X.A (newList []) (fun acc s₃=>wpAny (model X.prog X.w) X.A (newFunctionEnv scope X.env.globals cl [] X.env.qual none .none (some X.env)) (fun cenv s₄ =>
  codeAny (model X.prog X.w) X.A (.compStart (.ListComp elt [⟨tg,iter,ifs,0⟩] scope pos) 0 (.ref it) acc { cenv with scope:=relabel scope X.env }) (RR acc cenv.locals) s₄) E s₃) E s:=by
 obtain ⟨W,⟨m0,w0⟩,turn⟩:=hW
 refine wpAny_newObj_type (b41 ?_)
 dsimp only
 generalize hH2:s.heap.push { cls:=.type "list",dict:=none,data:=.seq ([]:List Value).toArray }=P2
 have hCs:P2.objs.size=s.heap.objs.size+1:=by rw [← hH2,Heap.size_push]
 have hDC:s.heap.objs.size≠P2.objs.size:=by rw [hCs]; exact Nat.ne_of_lt (Nat.lt_succ_self _)
 have hCle:s.heap.objs.size≤P2.objs.size:=by rw [hCs]; exact Nat.le_succ _
 have below:∀ b,b<s.heap.objs.size→b≠P2.objs.size:=fun b hb=>by rw [hCs]; exact Nat.ne_of_lt (Nat.lt_succ_of_lt hb)
 have kp:=pushCells_keeps scope.names (P2.push { cls:=.type "dict",data:=.dict #[] })
 have hns₁:=(Heap.Ns.new P2 (.type "dict")).keeps kp
 have old:∀ b o,s.heap.get? b=some o→(pushCells (P2.push { cls:=.type "dict",data:=.dict #[] }) scope.names).get? b=some o:=fun b o e=>kp _ _ (Heap.get?_push_of_some _ (hH2 ▸ Heap.get?_push_of_some _ e))
 have hacc:(pushCells (P2.push { cls:=.type "dict",data:=.dict #[] }) scope.names).PlainList s.heap.objs.size #[]:=⟨_,kp _ _ (Heap.get?_push_of_some _ (hH2 ▸ Heap.get?_push_size _ rfl))⟩
 have R:=bu4 (X:=X) (scope:=scope) (Nf:=Nf) (cl:=cl) (h:=P2.push { cls:=.type "dict",data:=.dict #[] }) (C:=P2.objs.size) (Heap.size_push ..) (fun x c e=>by
  obtain ⟨v,q⟩:=I.cell x c e
  exact Nat.lt_of_lt_of_le q.lt hCle) I.ok.inj hcl hcf S.nx
 generalize cellsFrom (P2.objs.size+1) scope.names cl=r at R ⊢
 generalize pushCells (P2.push { cls:=.type "dict",data:=.dict #[] }) scope.names=h₁ at R hns₁ old hacc ⊢
 have fpl:∀ b∈fp,b<s.heap.objs.size:=fun b hb=>by
  obtain ⟨o,e,_⟩:=T.obj _ _ st b hb
  exact Heap.lt_size e
 have st₁:tn 0 h₁:=T.keep _ _ _ st fun b _ o e=>old b o e
 generalize hCe:P2.objs.size=C at hns₁ R hDC hCle below ⊢
 generalize hDe:s.heap.objs.size=D at hacc hDC hCle ⊢
 have hDl:X.env.locals<D:=by rw [← hDe]; exact I.lt
 have hDs:X.s₀.heap.objs.size≤D:=by rw [← hDe]; exact I.sz
 have hcD:∀ x c,X.env.cells.lookup x=some c→c<D:=fun x c e=>by
  obtain ⟨v,q⟩:=I.cell x c e
  rw [← hDe]; exact q.lt
 have hpD:∀ p∈X.pn++pins,p.1<D:=fun p hp=>by rw [← hDe]; exact Heap.lt_size (I.pin p hp).1
 let Y:Cx:=cxC X (Nt++Nf) scope r C s H fp
 have okY:Y.Ok:=c74 I (by rw [hDe]; exact hCle) S.kind R hfp fpl
 have hfsY:∀ b,b∈Y.fs→b<D:=fun b hb=>by
  rcases List.mem_cons.mp (I.stkSub b hb) with z | z
  · rw [z]; exact hDl
  · refine Nat.lt_of_lt_of_le ?_ hDs
    have:=(I.ok.funs.mem z)
    refine Nat.lt_of_not_le fun q=>?_
    exact absurd z (fun z=>by
     have:=I.nofs (a:=b)
     by_cases hb2:s.heap.objs.size≤b
     · exact this hb2 z
     · obtain ⟨_,o,e,_⟩:=I.ok.funs.mem z
       exact absurd (Heap.lt_size e) (Nat.not_lt.mpr q))
 have loop:∀ s₃:Shared,s₃={ s with heap:=h₁ } →
  codeAny (model X.prog X.w) X.A (.compLoop (.ListComp elt [⟨tg,iter,ifs,0⟩] scope pos) 0 (.ref it) (.ref D) Y.env) (RR (.ref D) C) s₃:=by
  rintro s₃ rfl
  have I0:Inv Y [] (cSt Nt.length caps σ) H { s with heap:=h₁ } :=
   bu5 I okY R S.cap S.vis (fun x hx=>S.fr (x,.free) (PySem.mem_of_lookup (S.vis x hx)) rfl) (fun x hx=>R.has (x,.free) (PySem.mem_of_lookup (S.vis x hx)) (.inl rfl)) rfl rfl old hns₁ (by rw [hDe]; exact hCle)
  have fpY:∀ {H':Hp},(∀ b∈fp,H' b=none)→∀ b∈fp,FpOk Y [] H' b:=fun hn b hb =>
   ⟨hn b hb,Nat.ne_of_lt (Nat.lt_of_lt_of_le (fpl b hb) (by rw [hDe]; exact hCle)),okY.exfs b hb,.inl hb,fun x c e=>by
    rcases R.sp x c e with ⟨z,_⟩ | z
    · exact Nat.ne_of_gt (Nat.lt_trans (Nat.lt_of_lt_of_le (fpl b hb) (by rw [hDe]; exact hCle)) z)
    · exact (hfp b hb).2.2.2.2.1 x c z,fun p hp=>absurd (show p∈([]:List (Addr×Obj)) from hp) (by simp)⟩
  have fpD:∀ b∈fp,b≠D:=fun b hb=>Nat.ne_of_lt (by rw [← hDe]; exact fpl b hb)
  refine at4 (fun n s'=>∃ i acc its σ' H',Inv Y [] σ' H' s'∧tn i s'.heap∧(∀ b∈fp,H' b=none)∧s'.heap.PlainList D its∧H' D=none∧Vals acc its.toList∧acc.length≤sizeLine∧W i n acc σ' H') ?_ m0
   ⟨0,[],#[],cSt Nt.length caps σ,H,I0,st₁,fun b hb=>(hfp b hb).1,hacc,by rw [← hDe]; exact I.hok.fresh (Nat.le_refl _),.nil,Nat.zero_le _,w0⟩
  rintro n s3 ⟨i,acc,its,σ3,H3,I3,st3,fr3,⟨nd,e3⟩,hD3,rv3,hl3,w3⟩
  have cD:C≠D:=Ne.symm hDC
  have pinOk:∀ {H':Hp}{s':Shared}{o:Obj},s'.heap.get? D=some o→H' D=none→(∀ v,o.data≠.cell v)→s'.heap.get? D=some o∧H' D=none∧D≠Y.env.locals∧D∉Y.fs∧∀ v,o.data≠.cell v:=fun e n d =>
   ⟨e,n,hDC,fun z=>absurd (hfsY D z) (Nat.lt_irrefl _),d⟩
  have I3':Inv Y [(D,{ cls:=.type "list",data:=.seq its nd })] σ3 H3 s3:=I3.pins_of fun p hp=>by
   obtain rfl:p=(D,({ cls:=.type "list",data:=.seq its nd }:Obj)):=List.mem_singleton.mp hp
   exact pinOk e3 hD3 (fun v z=>by cases z)
  have fpY':∀ {H':Hp},(∀ b∈fp,H' b=none)→∀ b∈fp,FpOk Y [(D,{ cls:=.type "list",data:=.seq its nd })] H' b:=fun hn b hb=>by
   obtain ⟨a1,a2,a3,a4,a5,_⟩:=fpY hn b hb
   refine ⟨a1,a2,a3,a4,a5,fun p hp=>?_⟩
   obtain rfl:p=(D,({ cls:=.type "list",data:=.seq its nd }:Obj)):=List.mem_singleton.mp hp
   exact Ne.symm (fpD b hb)
  rcases turn i n acc σ3 H3 w3 with ⟨stop,qn⟩ | ⟨go,hlt,N,hN,step⟩
  · refine thn (T.done Y rfl rfl rfl hc i _ s3 σ3 H3 _ I3' (fpY' fr3) st3 stop) ?_
    rintro r s4 ⟨hr,I4⟩
    subst hr
    have e4:=(I4.pin (D,{ cls:=.type "list",data:=.seq its nd }) (List.mem_append_right _ List.mem_cons_self)).1
    have IX:Inv X pins σ H3 s4:=I.call' (ch:=fp) I4.os I4.base I4.hok I4.bare fun b hb=>by
     obtain ⟨_,a2,_,a4,a5,a6⟩:=hfp b hb
     exact ⟨a4,a2,a5,a6⟩
    have IA:=IX.adopt (o:=.lst acc) hD3 hDs (Nat.ne_of_gt hDl) (fun x c e=>Nat.ne_of_lt (hcD x c e)) (fun p hp=>Nat.ne_of_lt (hpD p hp)) ⟨hl3,its.toList,nd,rv3,e4⟩
    obtain ⟨m,nsC,_⟩:=I4.loc
    refine fin D C m s4 _ IA (qn D hD3) nsC (by rw [a14 cD]; exact I4.free) ?_ ?_ ?_ ?_
    · exact Nat.ne_of_gt (Nat.lt_of_lt_of_le hDl hCle)
    · exact Nat.le_trans hDs hCle
    · exact fun x c e=>Nat.ne_of_lt (Nat.lt_of_lt_of_le (hcD x c e) hCle)
    · exact fun p hp=>Nat.ne_of_lt (Nat.lt_of_lt_of_le (hpD p hp) hCle)
  · refine thn (T.item Y rfl rfl rfl hc i _ s3 σ3 H3 _ I3' (fpY' fr3) st3 go) ?_
    rintro r s4 ⟨u,hr,h4⟩
    subst hr
    refine thn h4 ?_
    rintro _ s5 ⟨x,H5,I5,r5,y5,st5,fr5⟩
    have I5':=I5.pinned (fpY' fr5) (T.obj _ _ st5)
    refine thn (hg r C s H fp _ s5 σ3 H5 x u _ I5' r5 (step x H5 y5)) ?_
    rintro _ s6 ⟨σ6,H6,I6,q6⟩
    refine thn (ht r C s H fp _ s6 σ6 H6 _ I6 q6) ?_
    rintro b s7 ⟨H7,I7,q7⟩
    have back:∀ {σ':St} {H':Hp}{s':Shared},Inv Y ([(D,{ cls:=.type "list",data:=.seq its nd })]++ar4 fp s5.heap) σ' H' s' →
     s'.heap.get? D=some { cls:=.type "list",data:=.seq its nd }∧H' D=none∧tn (i+1) s'.heap∧∀ b∈fp,H' b=none:=fun {σ' H' s'} J7=>by
     have hd:=J7.pin (D,{ cls:=.type "list",data:=.seq its nd }) (List.mem_append_right _ (List.mem_append_left _ List.mem_cons_self))
     refine ⟨hd.1,hd.2.1,T.keep _ _ _ st5 fun b hb o e=>(J7.pin (b,o) (List.mem_append_right _ (List.mem_append_right _ (aa8 hb e)))).1,fun b hb=>?_⟩
     obtain ⟨o,e,d⟩:=T.obj _ _ st5 b hb
     exact (J7.pin (b,o) (List.mem_append_right _ (List.mem_append_right _ (aa8 hb e)))).2.1
    cases b with
    | false =>
      rw [if_neg Bool.false_ne_true]
      rw [if_neg Bool.false_ne_true] at q7
      obtain ⟨m',hm,w7⟩:=hN _ _ _ q7
      obtain ⟨b1,b2,b3,b4⟩:=back I7
      exact ⟨m',hm,i+1,acc,its,σ6,H7,I7.pins_of (fun p hp=>nomatch hp),b3,b4,⟨nd,b1⟩,b2,rv3,hl3,w7⟩
    | true =>
      rw [if_pos rfl]
      rw [if_pos rfl] at q7
      refine thn (he r C s H fp _ s7 σ6 H7 _ I7 q7) ?_
      rintro u8 s8 ⟨y,H8,I8,r8,n8⟩
      obtain ⟨m',hm,w8⟩:=hN _ _ _ n8
      obtain ⟨b1,b2,b3,b4⟩:=back I8
      have hsz:its.size≤sizeLine:=by
       have h1:=rv3.length
       have h2:its.toList.length=its.size:=by simp
       omega
      refine wpAny_list_append_plain (hsz:=hsz) ⟨nd,b1⟩ fun h' pl' sb'=>?_
      have I8':Inv Y [] σ6 H8 s8:=I8.pins_of (fun p hp=>nomatch hp)
      refine ⟨m',hm,i+1,acc++[y],its.push u8,σ6,H8,I8'.turned (t':=s8.toks) (fun b o hb e=>(sb'.2 b hb).trans e) b2 hDC (.inr (by show s.heap.objs.size≤D; rw [hDe]; exact Nat.le_refl _)) (fun x c e=>by
       rcases R.sp x c e with ⟨z,_⟩ | z
       · exact Nat.ne_of_gt (Nat.lt_of_le_of_lt hCle z)
       · exact Nat.ne_of_lt (hcD x c z)) (fun p hp=>absurd (show p∈([]:List (Addr×Obj)) from hp) (by simp)),?_,b4,pl',b2,?_,?_,w8⟩
      · exact T.keep _ _ _ b3 fun b hb o e=>(sb'.2 b (fpD b hb)).trans e
      · rw [Array.toList_push]
        exact rv3.append (.cons r8 .nil)
      · rw [List.length_append,List.length_singleton]
        omega
 exact codeAny_compStart_list (loop _ rfl) (T.self _ _ _ _ _ st₁ (loop _ rfl))
theorem bh8 {tg iter elt:Expr}{ifs:List Expr}{scope:Scope}{pos:Pos}{wi:TI}{g:TG}{tt:TT}{te:TE}{Nt Nf:List Str}{caps:List Nat}(hc:X.calm=true) (S:CompOk X scope Nt Nf caps) (hi:PI X tg iter wi)
 (hg:∀ cl C s0 H0 ex,PG (cxC X (Nt++Nf) scope cl C s0 H0 ex) tg g)
 (ht:∀ cl C s0 H0 ex,PTs (cxC X (Nt++Nf) scope cl C s0 H0 ex) ifs tt)
 (he:∀ cl C s0 H0 ex,PE (cxC X (Nt++Nf) scope cl C s0 H0 ex) elt te)
 (hs:∀ x,foldedSetIterable iter X.env x=pure x:=by intro _; rfl):PE X (.ListComp elt [⟨tg,iter,ifs,0⟩] scope pos) (tLC wi g tt te Nt.length caps):=by
 intro pins s σ H Q I h
 obtain ⟨cl,hclos,hcl,hcf⟩:=am8 I.ok.has S.fr
 rw [eval_ListComp]
 refine wpAny_comprehension_free (use:=none) rfl hs hclos S.kind S.nm (thn (hi pins s σ H _ I h) fun v s1 h1=>thn h1 fun itv s2 h2=>?_)
 obtain ⟨it,fp,tn,J,H2,e,I2,T,st2,f2,hW⟩:=h2
 subst e
 refine am9 (RR:=fun acc C=>compPost (model X.prog X.w) X.A X.xe none (EP X pins σ Q) acc C) (Q:=Q) hc S hg ht he hcl hcf I2 T st2 f2 hW ?_
 intro D C m s' H' I' q nsC hCn hCl hCs hCc hCp
 exact ⟨m,nsC,fun h' sb=>⟨.ref D,H',I'.turned (t':=s'.toks) (fun b o hb e=>(sb.2 b hb).trans e) hCn hCl (.inr hCs) hCc hCp,rfl,q⟩⟩
theorem c75 {tg iter elt:Expr}{ifs:List Expr}{scope:Scope}{pos spos py:Pos}{y:Str}{i:Nat}{wi:TI}{g:TG}{tt:TT}{te:TE}{Nt Nf:List Str}{caps:List Nat}(hc:X.calm=true) (S:CompOk X scope Nt Nf caps) (hi:PI X tg iter wi)
 (hg:∀ cl C s0 H0 ex,PG (cxC X (Nt++Nf) scope cl C s0 H0 ex) tg g)
 (ht:∀ cl C s0 H0 ex,PTs (cxC X (Nt++Nf) scope cl C s0 H0 ex) ifs tt)
 (he:∀ cl C s0 H0 ex,PE (cxC X (Nt++Nf) scope cl C s0 H0 ex) elt te)
 (hN:X.N.Nodup) (hy:X.N[i]?=some y) (hx:Loc X.env.scope y)
 (hsw:swapsWith (.ListComp elt [⟨tg,iter,ifs,0⟩] scope pos) (some (.Name y py)) spos.line X.env=pure true)
 (hf:X.fn y=true∨X.env.scope.names.lookup y=some .local:=by first | exact .inl rfl | exact .inr rfl | assumption)
 (hs:∀ x,foldedSetIterable iter X.env x=pure x:=by intro _; rfl):PS X (.Assign [.Name y py] (.ListComp elt [⟨tg,iter,ifs,0⟩] scope pos) spos) (tAsg (tLC wi g tt te Nt.length caps) (al3 i)):=by
 intro pins s σ H D I h
 obtain ⟨cl,hclos,hcl,hcf⟩:=am8 I.ok.has S.fr
 rw [exec_Assign_Name_used _ _ _ _ hsw]
 refine wpAny_bind (wpAny_standAt (wpAny_bind ?_))
 show wpAny _ X.A (do let _←comprehension (.ListComp elt [⟨tg,iter,ifs,0⟩] scope pos) scope X.env _ (newList []) false (eval iter X.env) (some (assign (.Name y py) X.env))) _ _ s
 refine wpAny_bind (wpAny_mono (wpAny_comprehension_free (use:=some (assign (.Name y py) X.env)) (Q:=fun _ s'=>SP X pins D .next s') rfl hs hclos S.kind S.nm
  (thn (hi pins s σ H _ I h) fun v s1 h1=>thn h1 fun itv s2 h2=>?_)) (fun _ s' hq=>wpAny_pure (wpAny_pure hq)) fun _ _ e=>e)
 obtain ⟨it,fp,tn,J,H2,e,I2,T,st2,f2,hW⟩:=h2
 subst e
 refine am9 (RR:=fun acc C=>compPost (model X.prog X.w) X.A X.xe (some (assign (.Name y py) X.env)) (fun _ s'=>SP X pins D .next s') acc C) (Q:=fun x H1=>al3 i x σ H1 D.nx) hc S hg ht he hcl hcf I2 T st2 f2 hW ?_
 intro l C m s' H' I' q nsC hCn hCl hCs hCc hCp
 show wpAny _ X.A (assign (.Name y py) X.env (.ref l)) _ _ _
 refine wpAny_assign_Name (ar3 (v:=.ref l) I' hN hy hx rfl (?_) hf)
 rintro s'' I'' ⟨a,sb,ha⟩
 have haC:C≠a:=by
  rcases ha with z | z
  · rw [z]; exact hCl
  · exact fun e=>hCc y a z e.symm
 refine ⟨m,nsC.sameBut sb haC,fun h' sb'=>⟨_,H',I''.turned (t':=s''.toks) (fun b o hb e=>(sb'.2 b hb).trans e) hCn hCl (.inr hCs) hCc hCp,q⟩⟩
end
section
variable {X:Cx}{tg:Expr}
end
section
variable {X:Cx}
def a34 (ys:List Str):List V:=ys.map V.str
theorem an0:∀ {ys:List Str}{us:List Value},Vals (a34 ys) us→StrsAre us ys
 | [],_,r=>by cases r; exact .nil
 | y::ys,_,r=>by
   cases r with
   | cons r1 r2 =>
     obtain ⟨t,rfl⟩:=r1
     exact .cons _ _ (an0 r2)
def c76 (K:PySem.W.Frag):V→List V→Hp→VK→Prop:=fun x vs H Q=>∃ z l ys,x=.str z∧vs=[.ref l]∧SqL K H l (a34 ys)∧(ys.map (·.length)).sum+ys.length*z.length≤16777216∧Q (.str (Txt.join z ys)) H
theorem bu7:MtR X "str.join" (c76 X.K):=by
 intro pins s σ H x vs v us Q I rx rv h
 obtain ⟨z,l,ys,rfl,rfl,hq,hz,q⟩:=h
 obtain ⟨t,rfl⟩:=rx
 obtain ⟨u,rfl,ru⟩:=rv.one
 cases ru
 obtain ⟨its,r,pl,_⟩:=I.list hq
 exact join_list pl.isList (by simpa using an0 r) hz fun t' k=>⟨.str _,H,I.tok _,⟨_,rfl⟩,q⟩
def CBig (i j:Int):Prop:=(i.natAbs<2 ^ 4096∧j.natAbs<2 ^ 4096)∨CMul i j
theorem b86 {i:Int}{n:Nat}(h:i.natAbs<2 ^ n):Builtin.Int.intBits i≤n:=by
 unfold Builtin.Int.intBits
 split
 · exact Nat.zero_le _
 · rename_i h0
   have h1:i.natAbs≠0:=by simpa using h0
   have:=(Nat.log2_lt h1).mpr h
   omega
theorem CBig.ok {i j:Int}(h:CBig i j):IntMulOk i j:=by
 rcases h with ⟨h1,h2⟩ | h
 · exact IntMulOk.of_bits (Nat.le_trans (b86 h1) (by decide)) (Nat.le_trans (b86 h2) (by decide))
 · exact h.ok
theorem c77:OpR X (binaryOp .Mult) (rI CBig fun i j=>.int (i*j)):=opI fun _ _ _ _ _ _ _ hc q=>mul_int q hc.ok
theorem at5:CallR X (.type "str") (fun xs H Q=>∃ z,xs=[.str z]∧Q (.str z) H):=by
 intro pins s σ H xs us Q I r h
 obtain ⟨z,rfl,q⟩:=h
 obtain ⟨u,rfl,t,rfl⟩:=ao5 r
 exact PySem.P.str_of_str ⟨.str _,H,I,⟨_,rfl⟩,q⟩
theorem bh9:CallR X (.builtin "isinstance") (fun xs H Q=>∃ x n t b,xs=[x,.ty n]∧TyOf X.K H x t∧PySem.W.kitOne X.K t (.type n)=some b∧Q (.bl b) H):=by
 intro pins s σ H xs us Q I r h
 obtain ⟨x,n,t,b,rfl,ty,e,q⟩:=h
 obtain ⟨u,w',rfl,rx,ry⟩:=vals2 r
 cases (show w'=Value.type n from ry)
 exact b69 I rx ty e fun tk=>⟨.bl b,H,I.tok _,rfl,q⟩
def rEqS (K:PySem.W.Frag) (neg:Bool):R2:=fun x y H Q=>∃ l b ys zs,x=.ref l∧y=.ref b∧SqL K H l (a34 ys)∧SqL K H b (a34 zs)∧Q (.bl (if neg then !decide (ys=zs) else decide (ys=zs))) H
theorem ap2:∀ {ys:List Str}{us:List Value},Vals (a34 ys) us→∀ (i:Nat) (h:i<us.length),∃ y t,ys[i]?=some y∧us[i]=.str y t
 | [],_,r,i,h=>by cases r; simp at h
 | y::ys,_,r,i,h=>by
   cases r with
   | cons r1 r2 =>
     cases i with
     | zero =>
       obtain ⟨t,rfl⟩:=r1
       exact ⟨y,t,rfl,rfl⟩
     | succ i=>exact ap2 (ys:=ys) r2 i (by simpa using h)
theorem b87:∀ (ys zs:List Str),ys.length=zs.length→((List.range ys.length).all fun i=>decide (ys[i]?=zs[i]?))=decide (ys=zs):=by
 intro ys zs hl
 rw [Bool.eq_iff_iff,List.all_eq_true,decide_eq_true_iff]
 constructor
 · intro h
   refine List.ext_getElem? fun i=>?_
   by_cases hi:i<ys.length
   · exact of_decide_eq_true (h i (List.mem_range.mpr hi))
   · rw [List.getElem?_eq_none (by omega),List.getElem?_eq_none (by omega)]
 · intro h i _
   subst h
   simp
end
section
variable {X:Cx}{e:Expr}{te:TE}{pos:Pos}
def tFmt (te:TE):TE:=fun σ H Q=>te σ H fun x H1=>(∃ z,x=.str z∧z.length≤sizeLine∧Q (.str z) H1)∨∃ i:Int,x=.int i∧i.natAbs.log2<1920∧Q (.str (toString i)) H1
theorem bo8 (he:PE X e te):PE X (.FormattedValue e (-1) none pos) (tFmt te):=by
 intro pins s σ H Q I h
 refine wpAny_FormattedValue_plain (thn (he pins s σ H _ I h) ?_)
 rintro v s1 ⟨x,H1,I1,r1,q1⟩
 rcases q1 with ⟨z,rfl,hz,q⟩ | ⟨i,rfl,hi,q⟩
 · obtain ⟨t,rfl⟩:=r1
   exact wpAny_formatField_str ⟨.str z,H1,I1,⟨_,rfl⟩,q⟩ ⟨.str z,H1,I1.tok _,⟨_,rfl⟩,q⟩ hz
 · obtain ⟨t,rfl⟩:=r1
   exact wpAny_formatField_int hi ⟨.str _,H1,I1.tok _,⟨_,rfl⟩,q⟩
inductive PEs (X:Cx):List Expr→List TE→Prop
 | nil:PEs X [] []
 | cons {e es t ts}:PE X e t→PEs X es ts→PEs X (e::es) (t::ts)
def b42:List TE→Str→TE
 | [],out=>fun _ H Q=>out.length≤sizeLine∧Q (.str out) H
 | t::r,out=>fun σ H Q=>t σ H fun x H1=>∃ y,x=.str y∧(out++y).length≤sizeLine∧b42 r (out++y) σ H1 Q
theorem at6:∀ {es:List Expr}{ts:List TE},PEs X es ts→∀ (out:Str) (pins:List (Addr×Obj)) (s:Shared) (σ:St) (H:Hp) (Q:VK),Inv X pins σ H s→b42 ts out σ H Q →
 wpAny (model X.prog X.w) X.A (joinParts out (evalEach es X.env)) (EP X pins σ Q) X.xe s:=by
 intro es ts P
 induction P with
 | nil =>
   intro out pins s σ H Q I h
   exact joinParts_nil ⟨.str out,H,I.tok _,⟨_,rfl⟩,h.2⟩ h.1
 | cons p _ ih =>
   intro out pins s σ H Q I h
   refine joinParts_cons (thn (p pins s σ H _ I h) ?_)
   rintro v s1 ⟨x,H1,I1,r1,y,e,hz,q⟩
   subst e
   obtain ⟨t,rfl⟩:=r1
   exact ⟨hz,ih _ pins s1 σ H1 Q I1 q⟩
theorem bu8 {a b:Expr}{rest:List Expr}{ts:List TE}(h:PEs X (a::b::rest) ts):PE X (.JoinedStr (a::b::rest) pos) (b42 ts Str.empty):=by
 intro pins s σ H Q I hq
 exact JoinedStr_many (at6 h Str.empty pins s σ H Q I hq)
end
abbrev New (H:Hp) (o:HO) (Q:VK):Prop:=∀ p H',H p=none→Same H H'→H' p=some o→Q (.ref p) H'
theorem Same.new {H:Hp}{p:Addr}{o:HO}(h:H p=none):Same H (upd H p o):=fun b u e=>by rw [a14 (a29 e h)]; exact e
theorem New.to {H:Hp}{Q:VK}{o:HO}(h:New H o Q):∀ p,H p=none→Q (.ref p) (upd H p o):=fun p hp=>h p _ hp (Same.new hp) a18
section
variable {X:Cx}{es:List Expr}{t:TA}{pos:Pos}
def c78 (t:TA):TE:=fun σ H Q=>t σ H fun xs H1=>xs.length≤sizeLine∧New H1 (.lst xs) Q
def c79 (t:TA):TE:=fun σ H Q=>t σ H fun xs H1=>xs.length≤sizeLine∧New H1 (.tup xs) Q
theorem a19 {x1}(h:PA X es t):PE X (.Tuple es x1 pos) (c79 t):=by
 intro pins s σ H Q I hq
 refine wpAny_Tuple_spliced (thn (h pos pins s σ H _ I hq) fun us s1 ⟨xs,H1,I1,r,z,q⟩=>⟨by rw [← r.length]; exact z,?_⟩)
 refine ⟨.ref s1.heap.objs.size,upd H1 s1.heap.objs.size (.tup xs),I1.laid (t':=s1.toks) (fun b u e=>Heap.get?_push_of_some _ e) (Nat.le_refl _) ?_,rfl,New.to q _ (I1.hok.fresh (Nat.le_refl _))⟩
 exact ⟨z,us,r,⟨_,Heap.get?_push_size _ rfl,rfl,_,rfl⟩⟩
theorem a30 (h:PA X es t):PE X (.List es pos) (c78 t):=by
 intro pins s σ H Q I hq
 refine wpAny_List_spliced (thn (h pos pins s σ H _ I hq) fun us s1 ⟨xs,H1,I1,r,z,q⟩=>⟨by rw [← r.length]; exact z,?_⟩)
 refine ⟨.ref s1.heap.objs.size,upd H1 s1.heap.objs.size (.lst xs),I1.laid (t':=s1.toks) (fun b u e=>Heap.get?_push_of_some _ e) (Nat.le_refl _) ?_,rfl,New.to q _ (I1.hok.fresh (Nat.le_refl _))⟩
 exact ⟨z,us,0,r,Heap.get?_push_size _ rfl⟩
def rSlN (K:PySem.W.Frag):V→Option Int→Option Int→Hp→VK→Prop:=fun x lo hi H Q=>∃ a xs,x=.ref a∧SqL K H a xs∧New H (.lst (cutV xs lo hi)) Q
theorem bi0:SlR X (rSlN X.K):=by
 intro pins s σ H x v vl vu lo hi sl Q I rx hs pl pu h
 obtain ⟨a,xs,e,h1,h2⟩:=h
 exact bt6 pins s σ H x v vl vu lo hi sl Q I rx hs pl pu ⟨a,xs,e,h1,New.to h2⟩
theorem b43:CallR X (.type "list") (fun xs H Q=>∃ p ys,xs=[.ref p]∧(SqL X.K H p ys∨SqT X.K H p ys)∧New H (.lst ys) Q):=by
 intro pins s σ H xs us Q I r h
 obtain ⟨p,ys,e,h1,h2⟩:=h
 exact as4 pins s σ H xs us Q I r ⟨p,ys,e,h1,New.to h2⟩
theorem aw4:CallR X (.type "tuple") (fun xs H Q=>∃ p ys,xs=[.ref p]∧SqL X.K H p ys∧New H (.tup ys) Q):=by
 intro pins s σ H xs us Q I r h
 obtain ⟨p,ys,e,h1,h2⟩:=h
 exact ao9 pins s σ H xs us Q I r ⟨p,ys,e,.inl ⟨h1,New.to h2⟩⟩
end
def rIsi (K:PySem.W.Frag):List V→Hp→VK→Prop:=fun xs H Q=>∃ x n t b,xs=[x,.ty n]∧TyOf K H x t∧PySem.W.kitOne K t (.type n)=some b∧Q (.bl b) H
def tTru (K:PySem.W.Frag) (ta:TE):TT:=fun σ H Q=>ta σ H fun x H'=>∃ k,TruV K x H' k∧Q k H'
def rLen (K:PySem.W.Frag):List V→Hp→VK→Prop:=fun xs H Q=>∃ x n,xs=[x]∧LenV K x H n∧Q (.int n) H
def b88:List V→Hp→VK→Prop:=fun xs H Q=>(∃ i,xs=[.int i]∧Q (.int i) H)∨∃ k,xs=[.bl k]∧Q (.int (if k then 1 else 0)) H
def b89 (K:PySem.W.Frag):List V→Hp→VK→Prop:=fun xs H Q=>∃ p ys,xs=[.ref p]∧(SqL K H p ys∨SqT K H p ys)∧New H (.lst ys) Q
def aw5 (K:PySem.W.Frag):List V→Hp→VK→Prop:=fun xs H Q=>∃ p ys,xs=[.ref p]∧SqL K H p ys∧New H (.tup ys) Q
section
variable {X:Cx}{a:Expr}{ta:TE}
theorem c80:CallR X (.builtin "isinstance") (rIsi X.K):=bh9
theorem c81 (ha:PE X a ta) (he:∀ whole,isTrue a X.env whole=(do let v←whole; standAt a.pos; holding [v] (truthy v))):PT X a (tTru X.K ta):=bg6 ha he
theorem c82:CallR X (.builtin "len") (rLen X.K):=bg7
theorem az8:CallR X (.type "int") b88:=b66
theorem bu9:CallR X (.type "list") (b89 X.K):=b43
theorem bi1:CallR X (.type "tuple") (aw5 X.K):=aw4
end
def bi2:R2:=fun x y H Q=>match x,y with
 | .int i,.int j=>Q (.int (i+j)) H
 | .str i,.str j=>i.length+j.length≤sizeLine∧Q (.str (i++j)) H
 | .ref l,.ref b=>∃ xs zs,H l=some (.lst xs)∧H b=some (.lst zs)∧xs.length+zs.length≤sizeLine∧New H (.lst (xs++zs)) Q
 | _,_=>False
def bo9:R2:=fun x y H Q=>match x,y with
 | .int i,.int j=>CBig i j∧Q (.int (i*j)) H
 | .str z,.int n=>MulOk z n∧Q (.str (Txt.mul z n)) H
 | _,_=>False
def rStr:List V→Hp→VK→Prop:=fun xs H Q=>match xs with
 | [.int i]=>i.natAbs.log2<1920∧Q (.str (toString i)) H
 | [.str z]=>Q (.str z) H
 | _=>False
section
variable {X:Cx}
theorem a66:OpR X (binaryOp .Add) bi2:=by
 intro pins s σ H x y v u Q I rx ry h
 cases x with
 | int i=>cases y with
   | int j=>exact c47 pins s σ H _ _ v u Q I rx ry ⟨i,j,rfl,rfl,h⟩
   | _=>exact (show False from h).elim
 | str i=>cases y with
   | str j=>exact b31 pins s σ H _ _ v u Q I rx ry ⟨i,j,rfl,rfl,h⟩
   | _=>exact (show False from h).elim
 | ref l=>cases y with
   | ref b =>
     obtain ⟨xs,zs,h1,h2,h3,h4⟩:=h
     exact c65 pins s σ H _ _ v u Q I rx ry ⟨l,b,xs,zs,rfl,rfl,h1,h2,h3,New.to h4⟩
   | _=>exact (show False from h).elim
 | _=>exact (show False from h).elim
theorem ad7:OpR X (binaryOp .Mult) bo9:=by
 intro pins s σ H x y v u Q I rx ry h
 cases x with
 | int i=>cases y with
   | int j=>exact c77 pins s σ H _ _ v u Q I rx ry ⟨i,j,rfl,rfl,h⟩
   | _=>exact (show False from h).elim
 | str z=>cases y with
   | int n =>
     obtain ⟨t,rfl⟩:=rx
     obtain ⟨t',rfl⟩:=ry
     exact SB.mul h.1 fun t2 k=>⟨.str _,H,I.tok _,⟨_,rfl⟩,h.2⟩
   | _=>exact (show False from h).elim
 | _=>exact (show False from h).elim
theorem az9:CallR X (.type "str") rStr:=by
 intro pins s σ H xs us Q I r h
 match xs,h with
 | [.int i],h=>exact ar7 pins s σ H _ us Q I r ⟨i,rfl,h⟩
 | [.str z],h=>exact at5 pins s σ H _ us Q I r ⟨z,rfl,h⟩
theorem bi3 {scope sc:Scope}{Nt Nf:List Str}{caps:List Nat}(hsc:X.env.scope=sc) (kind:scope.kind=.function) (nx:∀ x∈Nf,(x,NameKind.cell)∉scope.names) (nm:∀ y∈scope.names,y.2=.local→scope.names.lookup y.1=some .local)
 (fr:∀ y∈scope.names,y.2=.free→sc.names.lookup y.1=some .cell∨sc.names.lookup y.1=some .free) (cap:caps.map (fun j=>X.N[j]?)=Nf.map some) (vis:∀ x∈Nf,scope.names.lookup x=some .free):CompOk X scope Nt Nf caps :=
 ⟨kind,nx,nm,fun y hy h=>by show X.env.scope.names.lookup y.1=_∨X.env.scope.names.lookup y.1=_; rw [hsc]; exact fr y hy h,cap,vis⟩
theorem af2 {scope sc:Scope}{Nt Nf:List Str}{caps:List Nat}(hsc:X.env.scope=sc) (kind:scope.kind=.function) (nc:∀ y∈scope.names,y.2≠.cell) (nm:∀ y∈scope.names,y.2=.local→scope.names.lookup y.1=some .local)
 (fr:∀ y∈scope.names,y.2=.free→sc.names.lookup y.1=some .cell∨sc.names.lookup y.1=some .free) (cap:caps.map (fun j=>X.N[j]?)=Nf.map some) (vis:∀ x∈Nf,scope.names.lookup x=some .free):CompOk X scope Nt Nf caps :=
 bi3 hsc kind (fun x _ h=>nc (x,.cell) h rfl) nm fr cap vis
abbrev bv0 (J:It) (te:TE) (tt:TT) (caps:List Nat) (σ:St) (H:Hp) (Q:VK):Prop:=∃ W:Nat→Nat→List V→St→Hp→Prop,(∃ m,W 0 m [] (cSt 1 caps σ) H)∧∀ i m acc σ' H',W i m acc σ' H' →
 (J.stop i H'∧∀ l,H' l=none→Q (.ref l) (upd H' l (.lst acc))) ∨
 (J.go i H'∧acc.length<sizeLine∧∃ N:List V→St→Hp→Prop,(∀ ac σ2 H2,N ac σ2 H2→∃ m',m'<m∧W (i+1) m' ac σ2 H2)∧∀ x H2,J.yld i H' x H2→al3 0 x σ' H2 fun σ3 H3=>tt σ3 H3 fun b H4=>if b=true then te σ3 H4 fun y H5=>N (acc++[y]) σ3 H5 else N acc σ3 H4)
theorem bp0 {J:It}{te:TE}{tt:TT}{caps:List Nat}{σ:St} {H:Hp}{Q:VK}(n:Nat) (hz:n≤sizeLine) (Pv:Nat→List V→Hp→Prop) (h0:Pv 0 [] H) (hl:∀ i acc H,Pv i acc H→acc.length≤i)
 (hgo:∀ i acc H,i<n→Pv i acc H→J.go i H) (hst:∀ acc H,Pv n acc H→J.stop n H)
 (hs:∀ i x acc H H2,i<n→Pv i acc H→J.yld i H x H2→tt (some x::capV caps σ) H2 fun b H4=>if b=true then te (some x::capV caps σ) H4 fun y H5=>Pv (i+1) (acc++[y]) H5 else Pv (i+1) acc H4)
 (hd:∀ acc H,Pv n acc H→New H (.lst acc) Q):bv0 J te tt caps σ H Q:=by
 refine ⟨fun i m acc σ' H=>m=n - i∧i≤n∧(∃ v,σ'=v::capV caps σ)∧Pv i acc H,⟨n,by simp,Nat.zero_le _,⟨none,rfl⟩,h0⟩,?_⟩
 rintro i m acc σ' H' ⟨rfl,hi,⟨v,rfl⟩,p⟩
 by_cases hlt:i<n
 · refine .inr ⟨hgo i acc H' hlt p,?_,fun ac σ2 H2=>(∃ v,σ2=v::capV caps σ)∧Pv (i+1) ac H2,fun ac σ2 H2 ⟨e,p'⟩=>⟨n - (i+1),by omega,rfl,hlt,e,p'⟩,fun x H2 y=>?_⟩
   · have:=hl i acc H' p
     omega
   · have eN:∀ ac H5,((∃ u,some x::capV caps σ=u::capV caps σ)∧Pv (i+1) ac H5)=Pv (i+1) ac H5:=fun ac H5=>propext ⟨And.right,fun p=>⟨⟨_,rfl⟩,p⟩⟩
     show tt (some x::capV caps σ) H2 fun b H4=>if b=true then te (some x::capV caps σ) H4 fun y H5=>((∃ u,some x::capV caps σ=u::capV caps σ)∧Pv (i+1) (acc++[y]) H5) else ((∃ u,some x::capV caps σ=u::capV caps σ)∧Pv (i+1) acc H4)
     simp only [eN]
     exact hs i x acc H' H2 hlt p y
 · have e:i=n:=by omega
   subst e
   exact .inl ⟨hst acc H' p,New.to (hd acc H' p)⟩
theorem bv1 {K:PySem.W.Frag}{a:Addr}{xs:List V}{te:TE}{tt:TT}{caps:List Nat}{σ:St} {H:Hp}{Q:VK}(hz:xs.length≤sizeLine) (Pv:Nat→List V→Hp→Prop) (h0:Pv 0 [] H) (hl:∀ i acc H,Pv i acc H→acc.length≤i∧SqL K H a xs)
 (hs:∀ i x acc H,xs[i]?=some x→Pv i acc H→tt (some x::capV caps σ) H fun b H4=>if b=true then te (some x::capV caps σ) H4 fun y H5=>Pv (i+1) (acc++[y]) H5 else Pv (i+1) acc H4)
 (hd:∀ acc H,Pv xs.length acc H→New H (.lst acc) Q):bv0 (Itl K a) te tt caps σ H Q:=by
 refine bp0 xs.length hz Pv h0 (fun i acc H p=>(hl i acc H p).1) (fun i acc H hi p=>⟨xs,xs[i],(hl i acc H p).2,by simp [hi]⟩) (fun acc H p=>⟨xs,(hl _ acc H p).2,Nat.le_refl _⟩) ?_ hd
 rintro i x acc H1 H2 hi p ⟨rfl,y⟩
 exact hs i x acc _ (y xs (hl i acc _ p).2) p
theorem bi4 {lo:Int}{n:Nat}{te:TE}{tt:TT}{caps:List Nat}{σ:St} {H:Hp}{Q:VK}(hz:n≤sizeLine) (Pv:Nat→List V→Hp→Prop) (h0:Pv 0 [] H) (hl:∀ i acc H,Pv i acc H→acc.length≤i)
 (hs:∀ i acc H,i<n→Pv i acc H→tt (some (.int (lo+i))::capV caps σ) H fun b H4=>if b=true then te (some (.int (lo+i))::capV caps σ) H4 fun y H5=>Pv (i+1) (acc++[y]) H5 else Pv (i+1) acc H4)
 (hd:∀ acc H,Pv n acc H→New H (.lst acc) Q):bv0 (Itr lo n) te tt caps σ H Q:=by
 refine bp0 n hz Pv h0 hl (fun i acc H hi p=>hi) (fun acc H p=>Nat.le_refl _) ?_ hd
 rintro i x acc H1 H2 hi p ⟨rfl,rfl⟩
 exact hs i acc _ hi p
end
end L2
namespace L2
open PySem
theorem ex_some_and {α:Type}{a:α}{p:α→Prop}:(∃ v,some (some a)=some (some v)∧p v)↔p a:=⟨fun ⟨_,e,h⟩=>by cases e; exact h,fun h=>⟨a,rfl,h⟩⟩
def bp1 (J:It) (g:TG) (tb:TS) (D:Ends) (σ:St) (H1:Hp):Prop:=∃ W:Nat→Nat→St→Hp→Prop,(∃ m,W 0 m σ H1)∧∀ i m σ H,W i m σ H →
 (J.stop i H∧D.nx σ H)∨(J.go i H∧∃ N:St→Hp→Prop,(∀ σ' H',N σ' H'→∃ m',m'<m∧W (i+1) m' σ' H')∧∀ x H',J.yld i H x H'→g x σ H' fun σ2 H2=>tb { D with nx:=N,ct:=N,bk:=D.nx } σ2 H2)
def ap3 (J:It) (g:TG) (tt:TT) (te:TE) (n:Nat) (caps:List Nat) (σ:St) (H:Hp) (Q:VK):Prop:=∃ W:Nat→Nat→List V→St→Hp→Prop,(∃ m,W 0 m [] (cSt n caps σ) H)∧∀ i m acc σ' H',W i m acc σ' H' →
 (J.stop i H'∧∀ l,H' l=none→Q (.ref l) (upd H' l (.lst acc))) ∨
 (J.go i H'∧acc.length<sizeLine∧∃ N:List V→St→Hp→Prop,(∀ ac σ2 H2,N ac σ2 H2→∃ m',m'<m∧W (i+1) m' ac σ2 H2)∧∀ x H2,J.yld i H' x H2→g x σ' H2 fun σ3 H3=>tt σ3 H3 fun b H4=>if b=true then te σ3 H4 fun y H5=>N (acc++[y]) σ3 H5 else N acc σ3 H4)
section
variable {K:PySem.W.Frag}{a:Addr}{xs:List V}{te:TE}{tt:TT}{caps:List Nat}{σ:St} {H:Hp}{Q:VK}{z:Str}{lo:Int}{n:Nat}
theorem ap4 (hz:xs.length≤sizeLine) (Pv:Nat→List V→Hp→Prop) (h0:Pv 0 [] H) (hl:∀ i acc H,Pv i acc H→acc.length≤i∧SqL K H a xs)
 (hs:∀ i x acc H,xs[i]?=some x→Pv i acc H→tt (some x::capV caps σ) H fun b H4=>if b=true then te (some x::capV caps σ) H4 fun y H5=>Pv (i+1) (acc++[y]) H5 else Pv (i+1) acc H4)
 (hd:∀ acc H,Pv xs.length acc H→New H (.lst acc) Q):ap3 (Itl K a) (al3 0) tt te 1 caps σ H Q:=bv1 hz Pv h0 hl hs hd
theorem bi5 (hz:n≤sizeLine) (Pv:Nat→List V→Hp→Prop) (h0:Pv 0 [] H) (hl:∀ i acc H,Pv i acc H→acc.length≤i)
 (hs:∀ i acc H,i<n→Pv i acc H→tt (some (.int (lo+i))::capV caps σ) H fun b H4=>if b=true then te (some (.int (lo+i))::capV caps σ) H4 fun y H5=>Pv (i+1) (acc++[y]) H5 else Pv (i+1) acc H4)
 (hd:∀ acc H,Pv n acc H→New H (.lst acc) Q):ap3 (Itr lo n) (al3 0) tt te 1 caps σ H Q:=bi4 hz Pv h0 hl hs hd
end
theorem cxOf_K {CX:CXT}{P:Program}{w:World}{K:PySem.W.Frag}{mg:Str→Option Value}{base:Heap}{N:List Str}{qual:Str}{scope:Scope}{f:Addr}{cd:Value}{A:Around}{outer:List Env}{s:Shared}{H:Hp}{E:XK} :
 (cxOf CX P w K mg base N qual scope f cd A outer s H E).K=K:=rfl
theorem cxC_K {X:Cx}{N:List Str}{scope:Scope}{cl:List (Str×Addr)}{C:Addr}{s0:Shared}{H0:Hp}{ex:List Addr}:(cxC X N scope cl C s0 H0 ex).K=X.K:=rfl
theorem Same.seqT {K:PySem.W.Frag}{H H':Hp}{a:Addr}{xs:List V}(e:Same H H') (h:SqT K H a xs):SqT K H' a xs:=by
 rcases h with (h | ⟨o,h⟩) | h
 · exact .inl (.inl (e _ _ h))
 · exact .inl (.inr ⟨o,e _ _ h⟩)
 · exact .inr h
section
variable {X:Cx}
theorem a15 (K:PySem.W.Frag) (hK:X.K=K:=by rfl):IxR X (rIxL K):=hK ▸ ix_list
theorem a06 (K:PySem.W.Frag) (hK:X.K=K:=by rfl):IxR X (rIxT K):=hK ▸ ix_tup
theorem bv2 (K:PySem.W.Frag) (hK:X.K=K:=by rfl):IxR X (rIx K):=hK ▸ c60
theorem bi6 (K:PySem.W.Frag) (hK:X.K=K:=by rfl):SlR X (rSlN K):=hK ▸ bi0
theorem aw6 (K:PySem.W.Frag) (hK:X.K=K:=by rfl):CallR X (.builtin "isinstance") (rIsi K):=hK ▸ c80
theorem aa2 (K:PySem.W.Frag) (hK:X.K=K:=by rfl):CallR X (.builtin "len") (rLen K):=hK ▸ c82
theorem ad8 (K:PySem.W.Frag) (hK:X.K=K:=by rfl):CallR X (.type "list") (b89 K):=hK ▸ bu9
theorem aj0 (K:PySem.W.Frag) (hK:X.K=K:=by rfl):CallR X (.type "tuple") (aw5 K):=hK ▸ bi1
theorem bi7 (K:PySem.W.Frag) (hK:X.K=K:=by rfl):MtR X "str.join" (c76 K):=hK ▸ bu7
theorem a67 (K:PySem.W.Frag) {a:Expr}{ta:TE}(ha:PE X a ta) (he:∀ whole,isTrue a X.env whole=(do let v←whole; standAt a.pos; holding [v] (truthy v))) (hK:X.K=K:=by rfl):PT X a (tTru K ta):=hK ▸ c81 ha he
theorem a69 (K:PySem.W.Frag) {tg l:Expr}{tl:TE}(hl:PE X l tl) (hK:X.K=K:=by rfl):PI X tg l (bs6 K tl):=hK ▸ bs7 hl
theorem bv3 (K:PySem.W.Frag) {tg l:Expr}{tl:TE}(hl:PE X l tl) (hK:X.K=K:=by rfl):PI X tg l (iTup K tl):=hK ▸ c45 hl
theorem a93 (K:PySem.W.Frag) {pos:Pos}{es:List Expr}{k:Nat}{t:TGs}{n:Nat}(hc:X.calm=true) (h:PGs X es t) (hn:(assignEach es X.env).length=n:=by rfl) (hst:(assignEach es X.env).findIdx? (·.1)=none:=by rfl) (hK:X.K=K:=by rfl) :
 PG X (.Tuple es k pos) (gTup K n t):=hK ▸ c43 hc h hn hst
theorem aw7 (K:PySem.W.Frag) {o:Expr}{to:TE}{name:Str}{apos cpos:Pos}{T id:String}{r:V→List V→Hp→VK→Prop}(pa:PlainAttrs T) (slot:Slot T name id) (hty:typeOf (.builtin id)=pure (.type "method_descriptor")) (hm:MtR X id r) (ho:PE X o to)
 (hbase:attributeBase o name X.env (eval o X.env)=eval o X.env:=by rfl) (hline:(apos.endLine == cpos.line)=true:=by rfl) (hK:X.K=K:=by rfl):PE X (.Call (.Attribute o name apos) [] [] cpos) (tBM0 K T r to):=hK ▸ c64 pa slot hty hm ho hbase hline
theorem a70 (K:PySem.W.Frag) {o e:Expr}{es:List Expr}{to:TE}{t:TA}{name:Str}{apos cpos:Pos}{T id:String}{r:V→List V→Hp→VK→Prop}(pa:PlainAttrs T) (slot:Slot T name id) (hty:typeOf (.builtin id)=pure (.type "method_descriptor")) (hm:MtR X id r) (ho:PE X o to) (ha:PA X (e::es) t)
 (hbase:attributeBase o name X.env (eval o X.env)=eval o X.env:=by rfl)
 (hfew:((backTo cpos (starEach (e::es) X.env)).all (fun x=>!x.1) && (backToKw cpos (keywordEach [] X.env)).all (fun x=>x.1.isSome) && decide ((e::es).length+([]:List Keyword).length+(if ([]:List Keyword).isEmpty then 0 else 1)<30))=true:=by rfl)
 (hline:(apos.endLine == cpos.line)=true:=by rfl) (hs:starEach (e::es) X.env=(false,eval e X.env)::starEach es X.env:=by rfl) (hplain:(backTo cpos (starEach es X.env)).any (·.1)=false:=by rfl) (hK:X.K=K:=by rfl) :
 PE X (.Call (.Attribute o name apos) (e::es) [] cpos) (tBM K T r to t):=hK ▸ cg7 pa slot hty hm ho ha hbase hfew hline hs hplain
end
theorem ag1:bootBuiltins "len"=some (.builtin "len"):=by decide +kernel
theorem a41:bootBuiltins "isinstance"=some (.builtin "isinstance"):=by decide +kernel
theorem b00:bootBuiltins "int"=some (.type "int"):=by decide +kernel
theorem b90:bootBuiltins "str"=some (.type "str"):=by decide +kernel
theorem ac5:bootBuiltins "list"=some (.type "list"):=by decide +kernel
theorem ah1:bootBuiltins "tuple"=some (.type "tuple"):=by decide +kernel
theorem bi8:bootBuiltins "range"=some (.type "range"):=by decide +kernel
def Bd (p:Nat) (x:Int):Prop:=x.natAbs<2 ^ p
theorem Bd.mono {p q:Nat}{x:Int}(h:Bd p x) (l:p≤q):Bd q x:=Nat.lt_of_lt_of_le h (Nat.pow_le_pow_right (by decide) l)
theorem Bd.big {p q:Nat}{x y:Int}(h:Bd p x) (h':Bd q y) (hp:p≤4096:=by decide) (hq:q≤4096:=by decide):CBig x y:=.inl ⟨h.mono hp,h'.mono hq⟩
theorem Bd.of {p:Nat}{x:Int}(h0:0≤x) (h1:x<2 ^ p):Bd p x:=by
 unfold Bd
 have e:((2 ^ p:Nat):Int)=(2:Int) ^ p:=by norm_cast
 omega
end L2
local macro_rules | `(tactic| walk_at "rd") => `(tactic| simp only [L2.tCB, L2.tCons, L2.tNil, L2.tVar, L2.rStr, L2.tNoIf, L2.capV, List.map_nil, List.getElem?_cons_zero, L2.ex_some_and, if_true])
namespace L2
open PySem
theorem le_line {n:Nat}(h:n≤1000000):n≤sizeLine:=Nat.le_trans h (by decide)
theorem b44 {ys:List Str}{i:Nat}{y:Str}(e:ys[i]?=some y):a34 (ys.take i)++[V.str y]=a34 (ys.take (i+1)):=by
 unfold a34
 rw [List.take_add_one,e]
 simp
theorem b91 {i:Int}(h:i.natAbs<2 ^ 64):i.natAbs.log2<1920:=by
 by_cases h0:i.natAbs=0
 · rw [h0]; decide
 · exact Nat.lt_of_lt_of_le ((Nat.log2_lt h0).mpr h) (by decide)
theorem c83 {x y:Str}(h:x.cps.toList=y.cps.toList):x=y:=by
 cases x; cases y
 simp at h
 simp [h]
theorem c84 (x y:Str):(x++y).cps.toList=x.cps.toList++y.cps.toList:=by
 show (x.cps++y.cps).toList=_
 simp
theorem bi9 (x:Str):Str.empty++x=x:=c83 (by rw [c84]; rfl)
theorem b92 {k:Int}(h0:0≤k) (h1:k<10):k=0∨k=1∨k=2∨k=3∨k=4∨k=5∨k=6∨k=7∨k=8∨k=9:=by
 obtain ⟨n,rfl⟩:=Int.eq_ofNat_of_zero_le h0
 exact (by decide:∀ n:Nat,n<10→(n:Int)=0∨(n:Int)=1∨(n:Int)=2∨(n:Int)=3∨(n:Int)=4∨(n:Int)=5∨(n:Int)=6∨(n:Int)=7∨(n:Int)=8∨(n:Int)=9) n (Int.ofNat_lt.mp h1)
theorem bv4 {k:Int}(h0:0≤k) (h1:k<10):(Str.ofString (toString k)).length=1:=by
 rcases b92 h0 h1 with rfl | rfl | rfl | rfl | rfl | rfl | rfl | rfl | rfl | rfl <;> decide +kernel
theorem nox_K {X:Cx}:X.nox.K=X.K:=rfl
theorem wish_K {X:Cx}{E:Value→Shared→Prop}:(X.wish E).K=X.K:=rfl
section
variable {σ:St} {H:Hp}{Q:VK}{D:Ends}{nn bb cc:St→Hp→Prop}{rr:VK}{t u:TS}{ta tb tc te:TE}{tA tB:TT}{g:TG}{QT:Bool→Hp→Prop}{QA:List V→Hp→Prop}{QS:St→Hp→Prop}
theorem ch8 (h:te σ H fun x H1=>g x σ H1 nn):tAsg te g ⟨nn,rr,bb,cc⟩ σ H:=h
theorem i_name {i:Nat}{v:V}(h:QS (σ.set i (some v)) H):al3 i v σ H QS:=h
theorem i_var {i:Nat}{v:V}(e:σ[i]?=some (some v)) (h:Q v H):tVar i σ H Q:=⟨v,e,h⟩
theorem i_c {v:V}(h:Q v H):tC v σ H Q:=h
theorem i_op {r:R2}(h:ta σ H fun x H1=>tb σ H1 fun y H2=>r x y H2 Q):tOp r ta tb σ H Q:=h
theorem i_un {r:V→Hp→VK→Prop}(h:ta σ H fun x H1=>r x H1 Q):tUn r ta σ H Q:=h
theorem i_rU {f:Int→V}{i:Int}(h:Q (f i) H):rU f (.int i) H Q:=⟨i,rfl,h⟩
theorem i_rI {C:Int→Int→Prop}{f:Int→Int→V}{i j:Int}(c:C i j) (h:Q (f i j) H):rI C f (.int i) (.int j) H Q:=⟨i,j,rfl,rfl,c,h⟩
theorem ch9 {f:Int→Int→V}{i j:Int}(h:Q (f i j) H):rI0 f (.int i) (.int j) H Q:=⟨i,j,rfl,rfl,h⟩
theorem bv5 {i j:Int}(h:Q (.int (i+j)) H):bi2 (.int i) (.int j) H Q:=h
theorem bv6 {x y:Str}(z:x.length+y.length≤sizeLine) (h:Q (.str (x++y)) H):bi2 (.str x) (.str y) H Q:=⟨z,h⟩
theorem aw8 {l b:Addr}{xs zs:List V}(h1:H l=some (.lst xs)) (h2:H b=some (.lst zs)) (z:xs.length+zs.length≤sizeLine) (h:New H (.lst (xs++zs)) Q):bi2 (.ref l) (.ref b) H Q:=⟨xs,zs,h1,h2,z,h⟩
theorem ad9 {i j:Int}(c:CBig i j) (h:Q (.int (i*j)) H):bo9 (.int i) (.int j) H Q:=⟨c,h⟩
theorem decI (i j:Int):decide (V.int i=V.int j)=decide (i=j):=by rw [Bool.eq_iff_iff]; simp
theorem decS (i j:Str):decide (V.str i=V.str j)=decide (i=j):=by rw [Bool.eq_iff_iff]; simp
theorem decB (i j:Bool):decide (V.bl i=V.bl j)=decide (i=j):=by rw [Bool.eq_iff_iff]; simp
theorem ci0 {i j:Int}(h:Q (.bl (decide (i=j))) H):rEq (.int i) (.int j) H Q:=⟨rfl,by rw [decI]; exact h⟩
theorem ci1 {i j:Str}(h:Q (.bl (decide (i=j))) H):rEq (.str i) (.str j) H Q:=⟨rfl,by rw [decS]; exact h⟩
theorem ci2 {i j:Int}(h:Q (.bl (!decide (i=j))) H):rNe (.int i) (.int j) H Q:=⟨rfl,by rw [decI]; exact h⟩
theorem ci3 {i j:Str}(h:Q (.bl (!decide (i=j))) H):rNe (.str i) (.str j) H Q:=⟨rfl,by rw [decS]; exact h⟩
theorem ci4 {i j:Bool}(h:Q (.bl (!decide (i=j))) H):rNe (.bl i) (.bl j) H Q:=⟨rfl,by rw [decB]; exact h⟩
theorem c85 (h:te σ H fun x H'=>∃ k,x=.bl k∧QT k H'):bt0 te σ H QT:=h
theorem i_bl {k:Bool}{p:Bool→Prop}(h:p k):∃ j,V.bl k=V.bl j∧p j:=⟨k,rfl,h⟩
theorem ci5 (h:tA σ H fun b H1=>if b=true then t D σ H1 else u D σ H1):tIfS tA t u D σ H:=h
theorem i_if (h:tA σ H fun b H1=>if b=true then ta σ H1 Q else tb σ H1 Q):tIf tA ta tb σ H Q:=h
theorem ci6 (h:te σ H rr):tRet te ⟨nn,rr,bb,cc⟩ σ H:=h
theorem c86 (h:nn σ H):c40 ⟨nn,rr,bb,cc⟩ σ H:=h
theorem c87 (h:te σ H fun _ H1=>nn σ H1):c42 te ⟨nn,rr,bb,cc⟩ σ H:=h
theorem c88 (h:cc σ H):c41 ⟨nn,rr,bb,cc⟩ σ H:=h
theorem c89 {tr:TA}(h:te σ H fun x H1=>tr σ H1 fun xs H2=>QA (x::xs) H2):tCons te tr σ H QA:=h
theorem ci7 (h:QA [] H):tNil σ H QA:=h
theorem i_cb {r:List V→Hp→VK→Prop}{ts:TA}(h:ts σ H fun vs H1=>r vs H1 Q):tCB r ts σ H Q:=h
theorem c90 {sp:Sp}{dvs:List V}{E:XK}{ts:TA}(h:ts σ H fun vs H1=>sp (vs++dvs) H1 Q E):c53 sp dvs E ts σ H Q:=h
theorem ci8 {ts:TA}(h:ts σ H fun xs H1=>xs.length≤sizeLine∧New H1 (.lst xs) Q):c78 ts σ H Q:=h
theorem ci9 {ts:TA}(h:ts σ H fun xs H1=>xs.length≤sizeLine∧New H1 (.tup xs) Q):c79 ts σ H Q:=h
theorem c91 {n:Nat}{P:Prop}(h:n≤sizeLine) (p:P):n≤sizeLine∧P:=⟨h,p⟩
theorem i_rgA {j:Int}{P:Prop}(h:-(2 ^ 62)≤j) (h':j<2 ^ 62) (p:P):-(2 ^ 62)≤j∧j<2 ^ 62∧P:=⟨h,h',p⟩
theorem c92 (h:QT true H):tNoIf σ H QT:=h
theorem cj0 (h:tA σ H fun c H1=>QT (!c) H1):tNot tA σ H QT:=h
theorem cj1 (h:tA σ H fun c H1=>if c=true then tB σ H1 QT else QT false H1):tAnd tA tB σ H QT:=h
theorem i_or (h:tA σ H fun c H1=>if c=true then QT true H1 else tB σ H1 QT):tOr tA tB σ H QT:=h
theorem c93 (h:ta σ H fun x H1=>∃ c,x=.bl c∧if c=true then tb σ H1 Q else Q (.bl false) H1):c37 ta tb σ H Q:=h
theorem c94 (h:ta σ H fun x H1=>∃ c,x=.bl c∧Q (.bl (!c)) H1):c38 ta σ H Q:=h
theorem bp2 {i:Int}(z:i.natAbs.log2<1920) (h:Q (.str (Str.ofString (toString i))) H):rStr [.int i] H Q:=⟨z,h⟩
theorem cj2 {wi:TI}(h:wi σ H fun J H1=>bp1 J g t D σ H1):tFor wi g t D σ H:=h
theorem i_lc {wi:TI}{n:Nat}{caps:List Nat}(h:wi σ H fun J H1=>ap3 J g tA te n caps σ H1 Q):tLC wi g tA te n caps σ H Q:=h
theorem c95 {R:It→Hp→Prop}{ts:TA}(h:ts σ H fun vs H1=>∃ j:Int,vs=[.int j]∧-(2 ^ 62)≤j∧j<2 ^ 62∧R (Itr 0 j.toNat) H1):c46 ts σ H R:=h
theorem bv7 {K:PySem.W.Frag}{R:It→Hp→Prop}(h:te σ H fun x H1=>∃ a,x=.ref a∧(∃ xs,SqL K H1 a xs)∧R (Itl K a) H1):bs6 K te σ H R:=h
theorem c96 {K:PySem.W.Frag}{R:It→Hp→Prop}(h:te σ H fun x H1=>∃ a,x=.ref a∧(∃ xs,SqT K H1 a xs)∧R (Itt K a) H1):iTup K te σ H R:=h
theorem cj3 {j:Int}{p:Int→Prop}(h:p j):∃ i:Int,[V.int j]=[V.int i]∧p i:=⟨j,rfl,h⟩
theorem cj4 {a:Addr}{p:Addr→Prop}(h:p a):∃ b,V.ref a=V.ref b∧p b:=⟨a,rfl,h⟩
theorem i_sx {z:Str}{p:Str→Prop}(h:p z):∃ b,V.str z=V.str b∧p b:=⟨z,rfl,h⟩
theorem i_bm {K:PySem.W.Frag}{T:String}{r:V→List V→Hp→VK→Prop}{to:TE}{ts:TA}(h:to σ H fun x H1=>tyV K T x H1∧ts σ H1 fun xs H2=>r x xs H2 Q):tBM K T r to ts σ H Q:=h
theorem cj5 {K:PySem.W.Frag}{T:String}{r:V→List V→Hp→VK→Prop}{to:TE}(h:to σ H fun x H1=>tyV K T x H1∧r x [] H1 Q):tBM0 K T r to σ H Q:=h
theorem cj6 {K:PySem.W.Frag}{z:Str}{P:Prop}(h:P):tyV K "str" (.str z) H∧P:=⟨rfl,h⟩
theorem a42 {K:PySem.W.Frag}{p:Addr}{xs:List V}{i:Int}{v:V}(h1:SqL K H p xs) (h2:atI xs i=some v) (h:Q v H):rIxL K (.ref p) (.int i) H Q:=⟨p,xs,i,v,rfl,rfl,h1,h2,h⟩
theorem a23 {K:PySem.W.Frag}{p:Addr}{xs:List V}{i:Int}{v:V}(h1:SqT K H p xs) (h2:atI xs i=some v) (h:Q v H):rIxT K (.ref p) (.int i) H Q:=⟨p,xs,i,v,rfl,rfl,h1,h2,h⟩
theorem i_sl {r:V→Option Int→Option Int→Hp→VK→Prop}{tl th:TO}(h:te σ H fun x H1=>tl σ H1 fun l H2=>th σ H2 fun u H3=>r x l u H3 Q):tSl r te tl th σ H Q:=h
theorem bj0 {QO:Option Int→Hp→Prop}(h:QO none H):b73 σ H QO:=h
theorem c97 {QO:Option Int→Hp→Prop}(h:te σ H fun x H1=>∃ i,x=.int i∧QO (some i) H1):c57 te σ H QO:=h
theorem cj7 {i:Int}{p:Int→Prop}(h:p i):∃ j,V.int i=V.int j∧p j:=⟨i,rfl,h⟩
theorem cj8 {K:PySem.W.Frag}{a:Addr}{xs:List V}{lo hi:Option Int}(h1:SqL K H a xs) (h:New H (.lst (cutV xs lo hi)) Q):rSlN K (.ref a) lo hi H Q:=⟨a,xs,rfl,h1,h⟩
theorem cj9 {A B:Prop}(h:A):if true=true then A else B:=iteT h
theorem ck0 {A B:Prop}(h:B):if false=true then A else B:=iteF h
theorem c98 {A B:Prop}(h:B):if (!true)=true then A else B:=iteF h
theorem c99 {A B:Prop}(h:A):if (!false)=true then A else B:=iteT h
theorem a26 {c A B:Prop} [Decidable c] (hc:c) (h:A):if decide c=true then A else B:=by rw [decide_eq_true hc]; exact iteT h
theorem a25 {c A B:Prop} [Decidable c] (hc:¬ c) (h:B):if decide c=true then A else B:=by rw [decide_eq_false hc]; exact iteF h
theorem an3 {c A B:Prop} [Decidable c] (hc:¬ c) (h:A):if (!decide c)=true then A else B:=by rw [decide_eq_false hc]; exact iteT h
theorem at7 {c A B:Prop} [Decidable c] (hc:c) (h:B):if (!decide c)=true then A else B:=by rw [decide_eq_true hc]; exact iteF h
theorem bv8 {r r':R2}(h:ta σ H fun x H1=>tb σ H1 fun y H2=>r x y H2 fun z H3=>∃ k,z=.bl k∧(if k=true then tc σ H3 fun w' H4=>r' y w' H4 Q else Q (.bl false) H3)):bo3 r r' ta tb tc σ H Q:=h
theorem b01 {K:PySem.W.Frag}{n:Nat}{ts:TGs}{a:Addr}{xs:List V}(h1:SqT K H a xs) (h2:xs.length=n) (h:ts xs σ H QS):gTup K n ts (.ref a) σ H QS:=⟨a,xs,rfl,h1,h2,h⟩
theorem ca0 (h:QS σ H):gNil [] σ H QS:=⟨rfl,h⟩
theorem bv9 {gt:TG}{us:TGs}{v:V}{r:List V}(h:gt v σ H fun σ' H'=>us r σ' H' QS):bg1 gt us (v::r) σ H QS:=⟨v,r,rfl,h⟩
theorem ca1 {K:PySem.W.Frag}{z:Str}(h:Q (.bl true) H):rIsi K [V.str z,V.ty "str"] H Q:=⟨_,_,_,true,rfl,.str z,rfl,h⟩
theorem ca2 {K:PySem.W.Frag}{a:Addr}{xs:List V}(e:H a=some (.lst xs)) (h:Q (.bl true) H):rIsi K [V.ref a,V.ty "list"] H Q:=⟨_,_,_,true,rfl,.lst e,rfl,h⟩
theorem ck1 {K:PySem.W.Frag}(h:te σ H fun x H'=>∃ k,TruV K x H' k∧QT k H'):tTru K te σ H QT:=h
theorem ca3 {K:PySem.W.Frag}{k:Bool}{p:Bool→Prop}(h:p k):∃ j,TruV K (.bl k) H j∧p j:=⟨k,rfl,h⟩
theorem aj1 {K:PySem.W.Frag}{p:Addr}{xs:List V}(h1:SqL K H p xs) (h:Q (.int xs.length) H):rLen K [V.ref p] H Q:=⟨_,_,rfl,.inl ⟨xs,h1,rfl⟩,h⟩
theorem ca4 {K:PySem.W.Frag}{p:Addr}{xs:List V}(h1:SqT K H p xs) (h:Q (.int xs.length) H):rLen K [V.ref p] H Q:=⟨_,_,rfl,.inr ⟨xs,h1,rfl⟩,h⟩
theorem ca5 {k:Bool}(h:Q (.int (if k then 1 else 0)) H):b88 [V.bl k] H Q:=.inr ⟨k,rfl,h⟩
theorem ca6 {k:Int}(h:Q (.int k) H):b88 [V.int k] H Q:=.inl ⟨k,rfl,h⟩
theorem ap5 {K:PySem.W.Frag}{p:Addr}{ys:List V}(h1:SqL K H p ys) (h:New H (.lst ys) Q):b89 K [.ref p] H Q:=⟨p,ys,rfl,.inl h1,h⟩
theorem ap6 {K:PySem.W.Frag}{p:Addr}{ys:List V}(h1:SqL K H p ys) (h:New H (.tup ys) Q):aw5 K [.ref p] H Q:=⟨p,ys,rfl,h1,h⟩
end
end L2
namespace L2
open PySem PySem.Spec PyProof.Rows
def bp3 (K:PySem.W.Frag):V→List V→Hp→VK→Prop:=fun x vs H Q=>∃ l ys y j,x=.ref l∧vs=[.str y]∧SqL K H l (a34 ys)∧ys[j]?=some y∧(∀ m,m<j→ys[m]?≠some y)∧Q (.int (j:Nat)) H
section
variable {X:Cx}
theorem b93 (K:PySem.W.Frag) (hK:X.K=K:=by rfl):MtR X "list.index" (bp3 K):=by
 subst hK
 intro pins s σ H x vs v us Q I rx rv h
 obtain ⟨l,ys,y,j,rfl,rfl,hq,hj,hno,q⟩:=h
 cases rx
 obtain ⟨u,rfl,ru⟩:=rv.one
 obtain ⟨its,r,pl,hz⟩:=I.list hq
 have hlen:ys.length=its.length:=by have:=r.length; simpa [a34] using this
 have hjl:j<its.length:=by have:=(List.getElem?_eq_some_iff.mp hj).1; omega
 obtain ⟨o,n,e,hc,hd,hs⟩:=pl
 obtain ⟨cls,dd,data,sl⟩:=o
 simp only at hc hd hs
 subst hc hs
 have fy:as3 (.str y)=true:=rfl
 have fs:(a34 ys).all as3=true:=by simp [a34,as3]
 have at_:∀ (m:Nat) (hm:m<its.toArray.size),∃ z,ys[m]?=some z∧eqU (.str y) its.toArray[m]=(z == y):=fun m hm=>by
  obtain ⟨z,t,ez,eu⟩:=ap2 r m (by simpa using hm)
  have g1:its.toArray[m]=.str z t:=by simpa using eu
  exact ⟨z,ez,by rw [g1]; rfl⟩
 have hl16:its.length≤sizeLine:=by have:=r.length; omega
 have hsm:((j:Nat):Int)<2 ^ 63 - 1:=by
  have:(sizeLine:Nat)+1<2 ^ 63:=by rw [sizeLine_eq]; decide
  omega
 refine call_meets F.slot_list_index ⟨_,e,rfl⟩ F.entry_list_index (F.args_list_index_2 _ _) (SeqAt.list_indexAt l its.toArray n dd sl u (eqU (.str y)) j (by simpa using hjl) hsm ?_ ?_) ⟨e,?_,⟨.int j,H,I.tok _,⟨_,rfl⟩,q⟩⟩
 · obtain ⟨z,ez,eq⟩:=at_ j (by simpa using hjl)
   rw [eq]
   rw [hj] at ez
   cases ez
   simp
 · intro m hm hmj
   obtain ⟨z,ez,eq⟩:=at_ m hm
   rw [eq]
   have:z≠y:=fun e=>hno m hmj (by rw [ez,e])
   simpa using this
 · intro w hw
   exact az5 ru fy r fs w (by simpa using hw)
end
section
variable {σ:St} {H:Hp}{Q:VK}
theorem bw0 {K:PySem.W.Frag}{l:Addr}{ys:List Str}{y:Str}{j:Nat}(h1:SqL K H l (a34 ys)) (h2:ys[j]?=some y) (h3:∀ m,m<j→ys[m]?≠some y) (h:Q (.int (j:Nat)) H):bp3 K (.ref l) [.str y] H Q:=⟨l,ys,y,j,rfl,rfl,h1,h2,h3,h⟩
theorem a57 {l:Addr}{xs:List V}{y:V}(h1:H l=some (.lst xs)) (hz:xs.length<sizeLine) (h:Q .non (upd H l (.lst (xs++[y])))):b75 (.ref l) [y] H Q:=⟨l,xs,y,rfl,rfl,h1,hz,h⟩
theorem ca7 {l:Addr}{xs:List V}{y:V}(h1:H l=some (.lst (xs++[y]))) (h:Q y (upd H l (.lst xs))):rPop (.ref l) [] H Q:=⟨l,xs++[y],y,rfl,rfl,h1,by simp,by simpa using h⟩
theorem aa3 {K:PySem.W.Frag}{l:Addr}{xs:List V}{P:Prop}(h1:SqL K H l xs) (h:P):tyV K "list" (.ref l) H∧P:=⟨.inl ⟨rfl,xs,h1⟩,h⟩
end
def Tups (H H':Hp):Prop:=∀ b xs,H b=some (.tup xs)→H' b=some (.tup xs)
theorem Same.tups {H H':Hp}(s:Same H H'):Tups H H':=fun b xs h=>s b _ h
theorem Tups.trans {H H1 H2:Hp}(a:Tups H H1) (b:Tups H1 H2):Tups H H2:=fun c xs h=>b c xs (a c xs h)
theorem Tups.upd {H:Hp}{l:Addr}{xs:List V}{o:HO}(h:H l=some (.lst xs)):Tups H (upd H l o):=fun b ys e=>by rw [a14 (b56 e h (fun z=>nomatch z))]; exact e
theorem vac {P:Program}{w:World}{K:PySem.W.Frag}{mg:Str→Option Value}{base:Heap}{CX:CXT}{k:Nat}{f:Addr}{fd:FuncData}{ps:List Str}{sp:Sp}(h:∀ vs H Q E,¬ sp vs H Q E):FnOk P w K mg base CX k f fd ps sp :=
 ⟨fun vs H Q E q=>(h _ _ _ _ q).elim,fun A outer s H args us vs Q E _ _ _ _ q=>(h _ _ _ _ q).elim⟩
end L2
namespace L2
open PySem
theorem Same.updNew {H H1:Hp}{l:Addr}{o:HO}(s:Same H H1) (h:H l=none):Same H (upd H1 l o):=fun b u e=>by rw [a14 (a29 e h)]; exact s b u e
inductive Ex where
 | num (i:Int)
 | box (n:Str)
 | two (k:Bool) (a b:Ex)
def Ex.h:Ex→Nat
 | .num _=>0
 | .box _=>0
 | .two _ a b=>max a.h b.h+1
def Ex.ok (ns:List Str):Ex→Prop
 | .num i=>0≤i∧i<10
 | .box n=>n∈ns
 | .two _ a b=>a.ok ns∧b.ok ns
def ca8 (k:Bool):Str:=if k then "plus" else "less"
def Ex.At (H:Hp):Ex→V→Prop
 | .num i,v=>∃ a,v=.ref a∧H a=some (.tup [.str "number",.int i])
 | .box n,v=>∃ a,v=.ref a∧H a=some (.tup [.str "box",.str n])
 | .two k e f,v=>∃ a x y,v=.ref a∧H a=some (.tup [.str (ca8 k),x,y])∧e.At H x∧f.At H y
theorem Ex.At.mono {H H':Hp}(t:Tups H H'):∀ {e:Ex}{v:V},e.At H v→e.At H' v
 | .num _,_,⟨a,h1,h2⟩=>⟨a,h1,t _ _ h2⟩
 | .box _,_,⟨a,h1,h2⟩=>⟨a,h1,t _ _ h2⟩
 | .two _ e f,_,⟨a,x,y,h1,h2,h3,h4⟩=>⟨a,x,y,h1,t _ _ h2,Ex.At.mono t h3,Ex.At.mono t h4⟩
def bval:List Str→List Int→Str→Int
 | m::ns,v::vs,n=>if m=n then v else bval ns vs n
 | _,_,_=>0
def Ex.ev (ns:List Str) (vs:List Int):Ex→Int
 | .num i=>i
 | .box n=>bval ns vs n
 | .two k a b=>if k then a.ev ns vs+b.ev ns vs else a.ev ns vs - b.ev ns vs
theorem b94:∀ {ns:List Str}{vs:List Int}{n:Str},n∈ns→ns.length≤vs.length→∃ j:Nat,ns[j]?=some n∧(∀ m:Nat,m<j→ns[m]?≠some n)∧vs[j]?=some (bval ns vs n)
 | [],_,_,h,_=>nomatch h
 | m::ns,[],n,_,hl=>by simp at hl
 | m::ns,v::vs,n,h,hl=>by
   by_cases e:m=n
   · exact ⟨0,by simp [e],fun m h=>absurd h (Nat.not_lt_zero _),by simp [bval,e]⟩
   · have h':n∈ns:=by
      rcases List.mem_cons.mp h with z | z
      · exact absurd z.symm e
      · exact z
     obtain ⟨j,h1,h2,h3⟩:=b94 (vs:=vs) h' (by simpa using hl)
     refine ⟨j+1,by simpa using h1,fun k hk=>?_,by simpa [bval,e] using h3⟩
     cases k with
     | zero=>simpa using e
     | succ k=>simpa using h2 k (by omega)
inductive Boxes (H:Hp):List V→List Str→Prop
 | nil:Boxes H [] []
 | cons {p:Addr}{n:Str}{z:Int}{xs ns}:H p=some (.tup [.str n,.int z])→Boxes H xs ns→Boxes H (.ref p::xs) (n::ns)
theorem Boxes.mono {H H':Hp}(t:Tups H H') {xs:List V}{ns:List Str}(b:Boxes H xs ns):Boxes H' xs ns:=by
 induction b with
 | nil=>exact .nil
 | cons h _ ih=>exact .cons (t _ _ h) ih
theorem Boxes.len {H:Hp}{xs:List V}{ns:List Str}(b:Boxes H xs ns):xs.length=ns.length:=by
 induction b with
 | nil=>rfl
 | cons _ _ ih=>simp [ih]
theorem Boxes.get {H:Hp}:∀ {xs:List V}{ns:List Str},Boxes H xs ns→∀ (i:Nat) (x:V),xs[i]?=some x→∃ (p:Addr) (n:Str) (z:Int),x=.ref p∧ns[i]?=some n∧H p=some (.tup [.str n,.int z])
 | _,_,.nil,i,x,e=>by simp at e
 | _,_,.cons h r,0,x,e=>by simp at e; subst e; exact ⟨_,_,_,rfl,rfl,h⟩
 | _,_,.cons h r,i+1,x,e=>r.get i x (by simpa using e)
theorem bw1 {vs:List Int}{j:Nat}{v:Int}(h:vs[j]?=some v):atI (vs.map V.int) (j:Int)=some (.int v):=a04 (by rw [List.getElem?_map,h]; rfl)
end L2
namespace L2
open PySem PySem.Spec PyProof.Rows
inductive Cd where
 | cmp (k:Bool) (a b:Ex)
 | nt (c:Cd)
 | both (c d:Cd)
def Cd.h:Cd→Nat
 | .cmp _ _ _=>0
 | .nt c=>c.h+1
 | .both c d=>max c.h d.h+1
def Cd.ok (ns:List Str) (n:Nat):Cd→Prop
 | .cmp _ a b=>(a.ok ns∧a.h≤n)∧b.ok ns∧b.h≤n
 | .nt c=>c.ok ns n
 | .both c d=>c.ok ns n∧d.ok ns n
def ca9 (k:Bool):Str:=if k then "same" else "under"
def Cd.At (H:Hp):Cd→V→Prop
 | .cmp k e f,v=>∃ a x y,v=.ref a∧H a=some (.tup [.str (ca9 k),x,y])∧e.At H x∧f.At H y
 | .nt c,v=>∃ a x,v=.ref a∧H a=some (.tup [.str "not",x])∧c.At H x
 | .both c d,v=>∃ a x y,v=.ref a∧H a=some (.tup [.str "both",x,y])∧c.At H x∧d.At H y
theorem Cd.At.mono {H H':Hp}(t:Tups H H'):∀ {c:Cd}{v:V},c.At H v→c.At H' v
 | .cmp _ e f,_,⟨a,x,y,h1,h2,h3,h4⟩=>⟨a,x,y,h1,t _ _ h2,h3.mono t,h4.mono t⟩
 | .nt c,_,⟨a,x,h1,h2,h3⟩=>⟨a,x,h1,t _ _ h2,Cd.At.mono t h3⟩
 | .both c d,_,⟨a,x,y,h1,h2,h3,h4⟩=>⟨a,x,y,h1,t _ _ h2,Cd.At.mono t h3,Cd.At.mono t h4⟩
def Cd.ev (ns:List Str) (vs:List Int):Cd→Bool
 | .cmp k a b=>if k then decide (a.ev ns vs=b.ev ns vs) else decide (a.ev ns vs<b.ev ns vs)
 | .nt c=>!c.ev ns vs
 | .both c d=>c.ev ns vs && d.ev ns vs
end L2
namespace L2
open PySem
end L2
namespace L2
open PySem PySem.Spec PyProof.Rows
theorem bw2 {X:Cx}(K:PySem.W.Frag) (hu:X.A.units<cLine) (hK:X.K=K:=by rfl):OpR X (compareOp .NotEq) (rEqS K true):=by
 subst hK
 intro pins s σ H x y v u Q I rx ry h
 obtain ⟨l,b,ys,zs,rfl,rfl,h1,h2,q⟩:=h
 cases rx
 cases ry
 obtain ⟨is1,r1,p1,_⟩:=I.list h1
 obtain ⟨is2,r2,p2,_⟩:=I.list h2
 have e1:ys.length=is1.length:=by have:=r1.length; simpa [a34] using this
 have e2:zs.length=is2.length:=by have:=r2.length; simpa [a34] using this
 by_cases hl:ys.length=zs.length
 · have:=SeqAt.RcNeAt.lists (A:=X.A) (s:=s) (e:=fun i=>decide (ys[i]?=zs[i]?)) p1.isList p2.isList (by simp; omega) hu (fun j h1 h2=>by
    obtain ⟨y,t,ey,eu⟩:=ap2 r1 j (by simpa using h1)
    obtain ⟨z,t',ez,ew⟩:=ap2 r2 j (by simpa using h2)
    have:decide (ys[j]?=zs[j]?)=(y == z):=by rw [ey,ez,Bool.eq_iff_iff]; simp
    rw [this]
    have g1:is1.toArray[j]=.str y t:=by simpa using eu
    have g2:is2.toArray[j]=.str z t':=by simpa using ew
    rw [g1,g2]
    exact SeqAt.EqAt.str_str y t z t')
   rw [show is1.toArray.size=ys.length by simp [e1],b87 ys zs hl] at this
   exact this _ _ _ _ ⟨.bl _,H,I,rfl,q⟩
 · have hne:ys≠zs:=fun e=>hl (by rw [e])
   rw [decide_eq_false hne] at q
   exact SeqAt.RcNeAt.lists_lengths p1.isList p2.isList (by simp; omega) hu _ _ _ _ ⟨.bl _,H,I,rfl,q⟩
theorem ck2 {K:PySem.W.Frag}{H:Hp}{Q:VK}{l b:Addr}{ys zs:List Str}(h1:SqL K H l (a34 ys)) (h2:SqL K H b (a34 zs)) (h:Q (.bl (!decide (ys=zs))) H):rEqS K true (.ref l) (.ref b) H Q:=⟨l,b,ys,zs,rfl,rfl,h1,h2,h⟩
end L2
namespace L2
open PySem
inductive Tr where
 | non
 | int (i:Int)
 | str (s:Str)
 | tup (xs:List Tr)
 | lst (xs:List Tr)
mutual
def Tr.At (H:Hp):Tr→V→List Addr→Prop
 | .non,v,fs=>v=.non∧fs=[]
 | .int i,v,fs=>v=.int i∧fs=[]
 | .str s,v,fs=>v=.str s∧fs=[]
 | .tup xs,v,fs=>∃ a vs,v=.ref a∧H a=some (.tup vs)∧Tr.Ats H xs vs fs
 | .lst xs,v,fs=>∃ a vs gs,v=.ref a∧H a=some (.lst vs)∧Tr.Ats H xs vs gs∧fs=a::gs
def Tr.Ats (H:Hp):List Tr→List V→List Addr→Prop
 | [],vs,fs=>vs=[]∧fs=[]
 | x::xs,vs,fs=>∃ v ws f g,vs=v::ws∧fs=f++g∧Tr.At H x v f∧Tr.Ats H xs ws g
end
def Keep (fs:List Addr) (H H':Hp):Prop:=Tups H H'∧∀ a∈fs,∀ xs,H a=some (.lst xs)→H' a=some (.lst xs)
theorem Same.keep {H H':Hp}(s:Same H H') (fs:List Addr):Keep fs H H':=⟨s.tups,fun a _ xs h=>s a _ h⟩
theorem Keep.upd {fs:List Addr}{H:Hp}{l:Addr}{xs:List V}{o:HO}(h:H l=some (.lst xs)) (n:l∉fs):Keep fs H (upd H l o):=⟨Tups.upd h,fun a m ys e=>by
 have hne:a≠l:=fun z=>n (z ▸ m)
 rw [a14 hne]
 exact e⟩
theorem Keep.sub {fs gs:List Addr}{H H':Hp}(k:Keep fs H H') (h:∀ a∈gs,a∈fs):Keep gs H H':=⟨k.1,fun a m=>k.2 a (h a m)⟩
mutual
theorem Tr.At.mono {H H':Hp}:∀ {x:Tr}{v:V}{fs:List Addr},x.At H v fs→Keep fs H H'→x.At H' v fs
 | .non,_,_,h,_=>by simpa only [Tr.At] using h
 | .int _,_,_,h,_=>by simpa only [Tr.At] using h
 | .str _,_,_,h,_=>by simpa only [Tr.At] using h
 | .tup xs,v,fs,h,k=>by
   simp only [Tr.At] at h ⊢
   obtain ⟨a,vs,e,g,r⟩:=h
   exact ⟨a,vs,e,k.1 _ _ g,Tr.Ats.mono r k⟩
 | .lst xs,v,fs,h,k=>by
   simp only [Tr.At] at h ⊢
   obtain ⟨a,vs,gs,e,g,r,rfl⟩:=h
   exact ⟨a,vs,gs,e,k.2 _ (by simp) _ g,Tr.Ats.mono r (k.sub fun b m=>by simp [m]),rfl⟩
theorem Tr.Ats.mono {H H':Hp}:∀ {xs:List Tr}{vs:List V}{fs:List Addr},Tr.Ats H xs vs fs→Keep fs H H'→Tr.Ats H' xs vs fs
 | [],_,_,h,_=>by simpa only [Tr.Ats] using h
 | x::xs,vs,fs,h,k=>by
   simp only [Tr.Ats] at h ⊢
   obtain ⟨v,ws,f,g,e,rfl,a,b⟩:=h
   exact ⟨v,ws,f,g,e,rfl,Tr.At.mono a (k.sub fun c m=>by simp [m]),Tr.Ats.mono b (k.sub fun c m=>by simp [m])⟩
end
theorem Tr.Ats.snoc {H:Hp}:∀ {xs:List Tr}{vs:List V}{fs gs:List Addr}{x:Tr}{v:V},Tr.Ats H xs vs fs→x.At H v gs→Tr.Ats H (xs++[x]) (vs++[v]) (fs++gs)
 | [],vs,fs,gs,x,v,h,a=>by
   simp only [Tr.Ats] at h
   obtain ⟨rfl,rfl⟩:=h
   simp only [List.nil_append,Tr.Ats]
   exact ⟨v,[],gs,[],rfl,by simp,a,rfl,rfl⟩
 | y::xs,vs,fs,gs,x,v,h,a=>by
   simp only [Tr.Ats] at h
   obtain ⟨w,ws,f,g,rfl,rfl,b,c⟩:=h
   simp only [List.cons_append,Tr.Ats]
   exact ⟨w,ws++[v],f,g++gs,rfl,by simp,b,c.snoc a⟩
theorem Tr.Ats.len {H:Hp}:∀ {xs:List Tr}{vs:List V}{fs:List Addr},Tr.Ats H xs vs fs→vs.length=xs.length
 | [],vs,fs,h=>by
   simp only [Tr.Ats] at h
   obtain ⟨rfl,rfl⟩:=h
   rfl
 | y::xs,vs,fs,h=>by
   simp only [Tr.Ats] at h
   obtain ⟨w,ws,f,g,rfl,rfl,b,c⟩:=h
   simp [c.len]
theorem Tr.Ats.get {H:Hp}:∀ {xs:List Tr}{vs:List V}{fs:List Addr},Tr.Ats H xs vs fs→∀ (i:Nat) (v:V),vs[i]?=some v→∃ x f,xs[i]?=some x∧x.At H v f∧∀ a∈f,a∈fs
 | [],vs,fs,h,i,v,e=>by
   simp only [Tr.Ats] at h
   obtain ⟨rfl,rfl⟩:=h
   simp at e
 | y::xs,vs,fs,h,i,v,e=>by
   simp only [Tr.Ats] at h
   obtain ⟨w,ws,f,g,rfl,rfl,b,c⟩:=h
   cases i with
   | zero =>
     simp at e
     subst e
     exact ⟨y,f,rfl,b,fun a m=>by simp [m]⟩
   | succ i =>
     obtain ⟨x,f',h1,h2,h3⟩:=c.get i v (by simpa using e)
     exact ⟨x,f',by simpa using h1,h2,fun a m=>by simp [h3 a m]⟩
end L2
namespace L2
open PySem PySem.Spec PyProof.Rows
mutual
def Tr.h:Tr→Nat
 | .non=>0
 | .int _=>0
 | .str _=>0
 | .tup xs=>Tr.hs xs+1
 | .lst xs=>Tr.hs xs+1
def Tr.hs:List Tr→Nat
 | []=>0
 | x::xs=>max x.h (Tr.hs xs)
end
theorem bp4 (n:Nat):((List.range n).all fun _=>true)=true:=by simp
theorem a47 (A:Around):A.in1.units=A.units+1:=rfl
section
variable {X:Cx}{pins:List (Addr×Obj)}{σ:St} {H:Hp}{s:Shared}
mutual
theorem Tr.eqAt (I:Inv X pins σ H s):∀ {t:Tr}{A:Around}{v w:V}{fs gs:List Addr}{u z:Value},t.At H v fs→t.At H w gs→RelV v u→RelV w z→A.units+t.h<cLine→SeqAt.EqAt A s u z true
 | .non,A,v,w,fs,gs,u,z,h1,h2,r1,r2,hu=>by
   simp only [Tr.At] at h1 h2
   obtain ⟨rfl,-⟩:=h1
   obtain ⟨rfl,-⟩:=h2
   cases r1
   cases r2
   exact SeqAt.EqAt.same _
 | .int i,A,v,w,fs,gs,u,z,h1,h2,r1,r2,hu=>by
   simp only [Tr.At] at h1 h2
   obtain ⟨rfl,-⟩:=h1
   obtain ⟨rfl,-⟩:=h2
   obtain ⟨t1,rfl⟩:=r1
   obtain ⟨t2,rfl⟩:=r2
   have:=SeqAt.EqAt.int_int (A:=A) (s:=s) i t1 i t2
   simpa using this
 | .str i,A,v,w,fs,gs,u,z,h1,h2,r1,r2,hu=>by
   simp only [Tr.At] at h1 h2
   obtain ⟨rfl,-⟩:=h1
   obtain ⟨rfl,-⟩:=h2
   obtain ⟨t1,rfl⟩:=r1
   obtain ⟨t2,rfl⟩:=r2
   have:=SeqAt.EqAt.str_str (A:=A) (s:=s) i t1 i t2
   simpa using this
 | .tup xs,A,v,w,fs,gs,u,z,h1,h2,r1,r2,hu=>by
   simp only [Tr.At] at h1 h2
   obtain ⟨a,vs,rfl,e1,c1⟩:=h1
   obtain ⟨b,ws,rfl,e2,c2⟩:=h2
   cases r1
   cases r2
   by_cases hab:a=b
   · subst hab
     exact SeqAt.EqAt.same _
   refine SeqAt.EqAt.of_refs hab ?_
   obtain ⟨is1,q1,p1,_⟩:=I.tuple (SqT.of e1)
   obtain ⟨is2,q2,p2,_⟩:=I.tuple (SqT.of e2)
   simp only [Tr.h] at hu
   have hl:is1.length=is2.length:=by rw [← q1.length,←q2.length,c1.len,c2.len]
   have:=SeqAt.RcAt.tuples (A:=A) (s:=s) (e:=fun _=>true) p1 p2 (by omega) (fun j h1 h2=>by
    have:=Tr.eqAts I (A:=A.in1) c1 c2 q1 q2 (by rw [a47]; omega) j (by simpa using h1) (by simpa using h2)
    simpa using this)
   simpa [hl,bp4] using this
 | .lst xs,A,v,w,fs,gs,u,z,h1,h2,r1,r2,hu=>by
   simp only [Tr.At] at h1 h2
   obtain ⟨a,vs,_,rfl,e1,c1,_⟩:=h1
   obtain ⟨b,ws,_,rfl,e2,c2,_⟩:=h2
   cases r1
   cases r2
   by_cases hab:a=b
   · subst hab
     exact SeqAt.EqAt.same _
   refine SeqAt.EqAt.of_refs hab ?_
   obtain ⟨is1,q1,p1,_⟩:=I.list (SqL.of e1)
   obtain ⟨is2,q2,p2,_⟩:=I.list (SqL.of e2)
   simp only [Tr.h] at hu
   have hl:is1.length=is2.length:=by rw [← q1.length,←q2.length,c1.len,c2.len]
   have:=SeqAt.RcAt.lists (A:=A) (s:=s) (e:=fun _=>true) p1.isList p2.isList (by simpa using hl) (by omega) (fun j h1 h2=>by
    have:=Tr.eqAts I (A:=A.in1) c1 c2 q1 q2 (by rw [a47]; omega) j (by simpa using h1) (by simpa using h2)
    simpa using this)
   simpa [bp4] using this
theorem Tr.eqAts (I:Inv X pins σ H s):∀ {ts:List Tr}{A:Around}{vs ws:List V}{fs gs:List Addr}{us zs:List Value},Tr.Ats H ts vs fs→Tr.Ats H ts ws gs→Vals vs us→Vals ws zs→A.units+Tr.hs ts<cLine →
 ∀ (j:Nat) (h1:j<us.length) (h2:j<zs.length),SeqAt.EqAt A s us[j] zs[j] true
 | [],A,vs,ws,fs,gs,us,zs,c1,c2,q1,q2,hu,j,h1,h2=>by
   simp only [Tr.Ats] at c1
   obtain ⟨rfl,-⟩:=c1
   cases q1
   exact absurd h1 (by simp)
 | t::ts,A,vs,ws,fs,gs,us,zs,c1,c2,q1,q2,hu,j,h1,h2=>by
   simp only [Tr.Ats] at c1 c2
   obtain ⟨v,vs,f,g,rfl,rfl,a1,b1⟩:=c1
   obtain ⟨w,ws,f',g',rfl,rfl,a2,b2⟩:=c2
   cases q1 with
   | cons r1 q1 =>
   cases q2 with
   | cons r2 q2 =>
   simp only [Tr.hs] at hu
   cases j with
   | zero=>exact Tr.eqAt I a1 a2 r1 r2 (by omega)
   | succ j=>exact Tr.eqAts I b1 b2 q1 q2 (by omega) j (by simpa using h1) (by simpa using h2)
end
end
theorem an4 {it l:Addr}{items:Array Value}{h h':Heap}(hl:h.IsList l items) (e:Heap.ExtBut it h h') (hne:l≠it):h'.IsList l items:=by
 obtain ⟨o,ho,r⟩:=hl
 exact ⟨o,e l o hne ho,r⟩
section
variable {prog:Program}{w:World}{A:Around}{E:Value→Shared→Prop}
theorem at8 {it l:Addr}{items:Array Value}(hne:l≠it):∀ (n i:Nat) (s:Shared) (Q:List Value→Shared→Prop),s.heap.IsListIter it l i→s.heap.IsList l items→i+n≤items.size →
 (∀ h',h'.IsListIter it l (i+n)→Heap.SameBut it s.heap h'→Q ((items.toList.drop i).take n) { s with heap:=h' })→wpAny (model prog w) A (draw (.ref it) n) Q E s
 | 0,i,s,Q,hit,_,_,hQ=>by
   show wpAny _ _ (pure []) Q E s
   exact wpAny_pure (by simpa using hQ s.heap hit (Heap.SameBut.refl ..))
 | n+1,i,s,Q,hit,ht,hle,hQ=>by
   have hlt:i<items.size:=by omega
   show wpAny _ _ (pyNext (.ref it) >>= _) Q E s
   refine wpAny_bind (wpAny_pyNext_list_item hit ht (x:=items[i]) (by simp [hlt]) fun h1 hit1 hs1=>?_)
   refine wpAny_bind (wpAny_holding (at8 hne n (i+1) _ _ hit1 (an4 ht hs1.extBut hne) (by omega) fun h2 hit2 hs2=>wpAny_pure ?_))
   have hd:items.toList.drop i=items[i]::items.toList.drop (i+1):=by simp [List.drop_eq_getElem_cons,hlt]
   have:=hQ h2 (by rw [show i+(n+1)=i+1+n by omega]; exact hit2) (hs1.trans hs2)
   rw [hd,List.take_succ_cons] at this
   exact this
theorem ag6 {s:Shared}{l:Addr}{items:Array Value}{Q:List Value→Shared→Prop}(hh:A.handled=none) (ht:s.heap.IsList l items)
 (hQ:∀ h',Heap.ExtBut s.heap.objs.size s.heap h'→Q items.toList { s with heap:=h' }):wpAny (model prog w) A (unpackItems (.ref l) items.size none) Q E s:=by
 have hlt:l≠s.heap.objs.size:=by obtain ⟨o,ho,_⟩:=ht; exact Nat.ne_of_lt (Heap.lt_size ho)
 unfold unpackItems
 refine wpAny_bind ?_
 unfold notIterableAtAll
 refine wpAny_bind (wpAny_specialOf ht.typeIs slot_list_iter.lookup ?_)
 refine wpAny_pure ?_
 simp only [Bool.false_eq_true,if_false]
 refine wpAny_bind (wpAny_holding (wpAny_pyIter_list ht ?_))
 have hp:(s.heap.push { cls:=.type "list_iterator",data:=.fields #[.ref l,.int 0 0] }).IsList l items:=by
  obtain ⟨o,ho,r⟩:=ht
  exact ⟨o,Heap.get?_push_of_some _ ho,r⟩
 refine wpAny_bind (wpAny_holding (at8 hlt items.size 0 _ _ ⟨_,Heap.get?_push_size _ rfl,rfl,rfl⟩ hp (by omega) fun h1 hit1 hs1=>?_))
 have hall:List.take items.size (List.drop 0 items.toList)=items.toList:=by
  rw [List.drop_zero]; exact List.take_of_length_le (by simp)
 rw [hall,if_neg (by simp)]
 refine wpAny_bind (wpAny_holding (wpAny_pyNext_list_end hh hit1 (an4 hp hs1.extBut hlt) (by simp) fun h2 he2=>?_))
 simp only [Option.isSome_none,Bool.false_eq_true,if_false]
 exact wpAny_pure (hQ h2 fun b o hb e=>he2 b o hb (hs1.extBut b o hb (Heap.get?_push_of_some _ e)))
end
section
variable {X:Cx}{pos:Pos}
def gLst (K:PySem.W.Frag) (n:Nat) (t:TGs):TG:=fun v σ H Q=>∃ a xs,v=.ref a∧SqL K H a xs∧xs.length=n∧t xs σ H Q
theorem bw3 (K:PySem.W.Frag) {es:List Expr}{k:Nat}{t:TGs}{n:Nat}(hc:X.calm=true) (h:PGs X es t) (hn:(assignEach es X.env).length=n:=by rfl) (hst:(assignEach es X.env).findIdx? (·.1)=none:=by rfl) (hK:X.K=K:=by rfl) :
 PG X (.Tuple es k pos) (gLst K n t):=by
 subst hK
 intro pins s σ H v u Q I r hw
 obtain ⟨a,xs,e1,hq,hl,hw⟩:=hw
 subst e1
 cases r
 obtain ⟨its,rv,ht,hz⟩:=I.list hq
 rw [PySem.arm_assign_Tuple]
 refine wpAny_bind (wpAny_standAt ?_)
 unfold unpack
 rw [hst,show (assignEach es X.env).length=its.toArray.size by simp [hn,←hl,rv.length]]
 refine wpAny_bind (wpAny_holding (ag6 (I.ok.hd hc) ht.isList fun h' hx=>?_))
 have I1:Inv X pins σ H { s with heap:=h' }:=I.kept (t':=s.toks) fun b o e=>hx b o (Nat.ne_of_lt (Heap.lt_size e)) e
 exact h pins _ σ H xs _ Q I1 (by simpa using rv) hw
theorem cb0 {K:PySem.W.Frag}{σ:St} {H:Hp}{QS:St→Hp→Prop}{n:Nat}{ts:TGs}{a:Addr}{xs:List V}(h1:SqL K H a xs) (h2:xs.length=n) (h:ts xs σ H QS):gLst K n ts (.ref a) σ H QS:=⟨a,xs,rfl,h1,h2,h⟩
end
inductive Pt where
 | s (z:Str)
 | i (n:Int)
theorem bw4 {out:Str}{σ:St} {H:Hp}{Q:VK}(hz:out.length≤sizeLine) (h:Q (.str out) H):b42 [] out σ H Q:=⟨hz,h⟩
theorem bw5 {t:TE}{r:List TE}{out:Str}{σ:St} {H:Hp}{Q:VK}(h:t σ H fun x H1=>∃ y,x=.str y∧(out++y).length≤sizeLine∧b42 r (out++y) σ H1 Q):b42 (t::r) out σ H Q:=h
theorem ck3 {te:TE}{σ:St} {H:Hp}{Q:VK}(h:te σ H fun x H1=>(∃ z,x=.str z∧z.length≤sizeLine∧Q (.str z) H1)∨∃ i:Int,x=.int i∧i.natAbs.log2<1920∧Q (.str (toString i)) H1):tFmt te σ H Q:=h
theorem ck4 {z:Str}{A:Str→Prop}{B:Int→Prop}(h:A z):(∃ y,V.str z=.str y∧A y)∨∃ i:Int,V.str z=.int i∧B i:=.inl ⟨z,rfl,h⟩
theorem ck5 {i:Int}{A:Str→Prop}{B:Int→Prop}(h:B i):(∃ y,V.int i=.str y∧A y)∨∃ j:Int,V.int i=.int j∧B j:=.inr ⟨i,rfl,h⟩
end L2
namespace L2
open PySem
def Pt.tr:Pt→Tr
 | .s z=>.str z
 | .i n=>.int n
def Ex.tr:Ex→Tr
 | .num i=>.tup [.str "number",.int i]
 | .box n=>.tup [.str "box",.str n]
 | .two k a b=>.tup [.str (ca8 k),a.tr,b.tr]
def Cd.tr:Cd→Tr
 | .cmp k a b=>.tup [.str (ca9 k),a.tr,b.tr]
 | .nt c=>.tup [.str "not",c.tr]
 | .both c d=>.tup [.str "both",c.tr,d.tr]
section
variable {H:Hp}{v:V}{fs:List Addr}
end
section
variable {H:Hp}{v:V}{fs:List Addr}
end
end L2
namespace L2
open PySem PySem.Spec PyProof.Rows
section
variable {X:Cx}
end
theorem b02 {H:Hp}:∀ ns:List Int,Tr.Ats H (ns.map Tr.int) (ns.map V.int) []
 | []=>by simp [Tr.Ats]
 | n::ns=>by
   simp only [List.map_cons,Tr.Ats]
   exact ⟨_,_,[],[],rfl,rfl,by simp [Tr.At],b02 ns⟩
end L2
namespace L2
def ck6 (ws:List (Option Nat)) (n:Nat):List Nat:=(List.range n).filter fun i=>decide (ws[i]?=some none)
def kept (ws:List (Option Nat)):List Nat:=ck6 ws ws.length
end L2
namespace L2
open PySem
section
variable {prog:Program}{w:World}{K:Type} [DecidableEq K] {knd:KeyKind prog w K}{A:Around}{E:Value→Shared→Prop}{s:Shared}
end
section
variable {prog:Program}{w:World}{K:Type} [DecidableEq K] {knd:KeyKind prog w K}{A:Around}{E:Value→Shared→Prop}{s:Shared}
end
end L2
namespace L2
open PySem PySem.Spec PyProof.Rows
section
variable {X:Cx}{pins:List (Addr×Obj)}{σ:St} {H:Hp}{s:Shared}
theorem Inv.turnedL {t':Nat}{h':Heap}{ch:List Addr}(I:Inv X pins σ H s) (k:∀ b o,b∉ch→s.heap.get? b=some o→h'.get? b=some o) (hf:∀ b∈ch,FpOk X pins H b):Inv X pins σ H { s with heap:=h',toks:=t' }:=by
 have nit:∀ b u,H b=some u→b∉ch:=fun b u e z=>by rw [(hf b z).1] at e; cases e
 refine I.step (g':=s.gens) (d':=s.drawn) (ch:=ch) (fun b hb=>⟨(hf b hb).2.2.2.1,(hf b hb).2.1,(hf b hb).2.2.2.2.1,(hf b hb).2.2.2.2.2⟩) (fun b o _ _ hc e _=>k b o hc e) (fun b o _ _ hc e _=>⟨o.slots,k b o hc e⟩) (fun _ _ _ _ n=>n)
  (fun b o hc e=>⟨o,k b o hc e⟩) (fun _ _ e=>e) (fun _ _ _ e=>e) (fun b ps e=>⟨#[],by rw [e]; simp⟩) (fun m hm=>?_) (fun b u e=>?_) I.bare
 · obtain ⟨o,es,ep,ho,r⟩:=hm
   exact ⟨o,es,ep,k _ o (fun z=>(hf _ z).2.1 rfl) ho,r⟩
 · refine (I.hok b u e).stay (fun c v hc q=>k c v ?_ q) (fun _ q=>q) fun _ _ q=>q
   rcases hc with z | z
   · rw [z]; exact nit b u e
   · exact nit c _ z
end
def Ite (K:PySem.W.Frag) (a:Addr):It :=
 ⟨fun i H=>∃ xs x,SqL K H a xs∧xs[i]?=some x,fun i H v H'=>∃ p y,v=.ref p∧H p=none∧Same H H'∧H' p=some (.tup [.int (i:Nat),y])∧∀ xs,SqL K H a xs→xs[i]?=some y,fun i H=>∃ xs,SqL K H a xs∧xs.length≤i⟩
theorem b95 {P:Program}{w:World}{K:PySem.W.Frag}{elts:List Expr}{x1:Nat}{pos:Pos}(a e it:Addr) (hne:e≠it) :
 Turn P w K (.Tuple elts x1 pos) (Ite K a) [e,it] e (fun i h=>(∃ old,IsEnum h e it (i:Nat) old)∧h.IsListIter it a i) where
 mem:=by simp
 obj:=fun i h st b hb=>by
  obtain ⟨⟨old,he⟩,o,e2,c,d⟩:=st
  rcases (by simpa using hb:b=e∨b=it) with rfl | rfl
  · exact ⟨_,he,fun v z=>by cases z⟩
  · exact ⟨o,e2,fun v z=>by rw [d] at z; cases z⟩
 keep:=fun i h h' st k=>⟨let ⟨old,he⟩:=st.1; ⟨old,k e (by simp) _ he⟩,st.2.at fun o x=>k it (by simp) o x⟩
 item:=by
  intro X hP hw hK hc i pins s σ H E I hf st hg
  subst hP hw hK
  obtain ⟨xs,x,hq,hx⟩:=hg
  obtain ⟨its,rv,p,hz⟩:=I.list hq
  obtain ⟨u,hu,ru⟩:=rv.get hx
  obtain ⟨⟨old,he⟩,hit⟩:=st
  have helt:e<s.heap.objs.size:=Heap.lt_size he
  have hilt:it<s.heap.objs.size:=by obtain ⟨_,q,_⟩:=hit; exact Heap.lt_size q
  refine wpAny_pyNext_enum_item he hit p.isList (x:=u) (by simpa using hu) hne fun h' ho hit' hT hsz hk=>?_
  have fr:H s.heap.objs.size=none:=I.hok.fresh (Nat.le_refl _)
  have I1:Inv X pins σ H { s with heap:=h',toks:=s.toks+1 }:=I.turnedL (ch:=[e,it]) (fun b o hb q=>hk b o (fun z=>hb (by simp [z])) (fun z=>hb (by simp [z])) q) hf
  have I2:Inv X pins σ (upd H s.heap.objs.size (.tup [.int (i:Nat),x])) { s with heap:=h',toks:=s.toks+1 }:=I1.adopt (o:=.tup [.int (i:Nat),x]) fr I.sz (Nat.ne_of_gt I.lt) (fun y c ec z=>by
   obtain ⟨v,q⟩:=I.cell y c ec
   exact absurd q.lt (by rw [z]; exact Nat.lt_irrefl _)) (fun q hq z=>absurd (Heap.lt_size (I.pin q hq).1) (by rw [z]; exact Nat.lt_irrefl _))
   ⟨le_line (by simp),[.int (i:Nat) s.toks,u],.cons ⟨_,rfl⟩ (.cons ru .nil),⟨_,hT,rfl,_,rfl⟩⟩
  have ne:∀ b∈[e,it],b≠s.heap.objs.size:=fun b hb=>by
   rcases (by simpa using hb:b=e∨b=it) with rfl | rfl
   · exact Nat.ne_of_lt helt
   · exact Nat.ne_of_lt hilt
  have hf2:∀ b∈[e,it],FpOk X pins (upd H s.heap.objs.size (.tup [.int (i:Nat),x])) b:=fun b hb=>⟨by rw [a14 (ne b hb)]; exact (hf b hb).1,(hf b hb).2⟩
  refine ⟨_,rfl,wpAny_letOwnedTupleGo_enum ho fun h2 he2 hs2=>⟨.ref s.heap.objs.size,_,I2.turnedL (t':=s.toks+1) (ch:=[e]) (fun b o hb q=>(hs2.2 b (fun z=>hb (by simp [z]))).trans q) (fun b hb=>hf2 b (by simp at hb; simp [hb])),rfl,⟨s.heap.objs.size,x,rfl,fr,Same.new fr,a18,fun ys hy=>by rw [I.list_inj hy hq]; exact hx⟩,⟨⟨_,by simpa using he2⟩,hit'.at fun o q=>(hs2.2 it (Ne.symm hne)).trans q⟩,fun b hb=>(hf2 b hb).1⟩⟩
 done:=by
  intro X hP hw hK hc i pins s σ H E I hf st hg
  subst hP hw hK
  obtain ⟨xs,hq,hx⟩:=hg
  obtain ⟨its,rv,p,hz⟩:=I.list hq
  obtain ⟨⟨old,he⟩,hit⟩:=st
  have hl:=rv.length
  exact wpAny_pyNext_enum_end (I.ok.hd hc) he hit p.isList (by simp; omega) fun h' eb=>⟨rfl,I.turnedL (t':=s.toks) (ch:=[it]) (fun b o hb q=>eb b o (fun z=>hb (by simp [z])) q) (fun b hb=>hf b (by simp at hb; simp [hb]))⟩
 self:=fun A i s Q E st h=>let ⟨old,he⟩:=st.1; wpAny_pyIter_enum he h
section
variable {X:Cx}{elts:List Expr}{x1:Nat}{tpos:Pos}
def cb1 (K:PySem.W.Frag) (ta:TA):TI:=fun σ H R=>ta σ H fun vs H1=>∃ a,vs=[.ref a]∧(∃ xs,SqL K H1 a xs)∧R (Ite K a) H1
theorem bw6 (K:PySem.W.Frag) {a:Expr}{ta:TA}{p pos:Pos}(hg:Gl X "enumerate") (hm:X.mg "enumerate"=none) (ha:PA X [a] ta) (hs:starEach [a] X.env=[(false,eval a X.env)]:=by rfl) (hK:X.K=K:=by rfl):PI X (.Tuple elts x1 tpos) (.Call (.Name "enumerate" p) [a] [] pos) (cb1 K ta):=by
 subst hK
 intro pins s σ H R I h
 refine Call_ (am0 I hg hm boot_enumerate (PyProof.Rows.callWith_type1 (thn (ha pos pins s σ H _ I h) ?_) hs rfl))
 rintro us s1 ⟨vs,H1,I1,r1,q1⟩
 obtain ⟨l,e,⟨xs,hq⟩,q⟩:=q1
 subst e
 obtain ⟨u,rfl,ru⟩:=ao5 r1
 cases ru
 obtain ⟨its,rv,pl,hz⟩:=I1.list hq
 refine call_enumerate_list pl.isList fun h' he hit hsz hk=>?_
 refine wpAny_pyIter_enum he ?_
 refine ⟨s1.heap.objs.size+1,[s1.heap.objs.size+1,s1.heap.objs.size],_,_,H1,rfl,I1.kept (t':=s1.toks) hk,b95 l _ _ (Nat.succ_ne_self _),⟨⟨_,he⟩,hit⟩,fun b hb=>?_,q⟩
 have hb':s1.heap.objs.size≤b:=by
  rcases (by simpa using hb:b=s1.heap.objs.size+1∨b=s1.heap.objs.size) with rfl | rfl <;> omega
 exact I1.fpOk hb' (I1.hok.fresh hb')
theorem cb2 {K:PySem.W.Frag}{σ:St} {H:Hp}{R:It→Hp→Prop}{ts:TA}(h:ts σ H fun vs H1=>∃ a,vs=[.ref a]∧(∃ xs,SqL K H1 a xs)∧R (Ite K a) H1):cb1 K ts σ H R:=h
theorem cb3 {a:Addr}{p:Addr→Prop}(h:p a):∃ b,[V.ref a]=[V.ref b]∧p b:=⟨a,rfl,h⟩
end
section
variable {X:Cx}
def cb4 (K:PySem.W.Frag):V→Option Int→Option Int→Hp→VK→Prop:=fun x lo hi H Q=>∃ a xs,x=.ref a∧SqT K H a xs∧¬ (HT.sIx xs.length 0 lo=0∧HT.sIx xs.length xs.length hi=xs.length)∧New H (.tup (cutV xs lo hi)) Q
theorem b96 (K:PySem.W.Frag) (hK:X.K=K:=by rfl):SlR X (cb4 K):=by
 subst hK
 intro pins s σ H x v vl vu lo hi sl Q I rx hs pl pu h
 obtain ⟨a,xs,e,h1,h2,h3⟩:=h
 exact c58 pins s σ H x v vl vu lo hi sl Q I rx hs pl pu ⟨a,xs,e,h1,h2,New.to h3⟩
def rIsN:R2:=fun x y H Q=>y=.non∧Q (.bl (decide (x=.non))) H
def cb5:R2:=fun x y H Q=>y=.non∧Q (.bl (!decide (x=.non))) H
theorem a71:OpR X (compareOp .Is) rIsN:=c49
theorem ab0:OpR X (compareOp .IsNot) cb5:=bs9
theorem ck7 {x:V}{H:Hp}{Q:VK}(h:Q (.bl (decide (x=.non))) H):rIsN x .non H Q:=⟨rfl,h⟩
theorem cb6 {x:V}{H:Hp}{Q:VK}(h:Q (.bl (!decide (x=.non))) H):cb5 x .non H Q:=⟨rfl,h⟩
theorem cb7 {K:PySem.W.Frag}{H:Hp}{Q:VK}{a:Addr}{xs:List V}(e:H a=some (.tup xs)) (h:Q (.bl true) H):rIsi K [V.ref a,V.ty "tuple"] H Q:=⟨_,_,_,true,rfl,.tup e,rfl,h⟩
theorem cb8 {to ti:TE}{t:TSet}{v:V}{σ:St} {H:Hp}{Q:St→Hp→Prop}(h:to σ H fun o H1=>ti σ H1 fun i H2=>t o i v H2 fun H3=>Q σ H3):gSub to ti t v σ H Q:=h
theorem bp5 {H:Hp}{Q:Hp→Prop}{p:Addr}{xs:List V}{k:Int}{j:Nat}{v:V}(h1:H p=some (.lst xs)) (h2:ixN xs.length k=some j) (h:Q (upd H p (.lst (xs.set j v)))):c61 (.ref p) (.int k) v H Q:=⟨p,xs,k,j,rfl,rfl,h1,h2,h⟩
def cb9 (t u:TS):TS:=fun D σ H=>∃ R:St→Hp→Prop,t { D with nx:=R } σ H∧∀ σ' H',R σ' H'→u D σ' H'
theorem a62 {st:Stmt}{rest:List Stmt}{t u:TS}(h1:PS X st t) (h2:PSs X rest u):PSs X (st::rest) (cb9 t u):=by
 intro pins s σ H D I h
 obtain ⟨R,ha,hb⟩:=h
 refine wpAny_execs_cons (thn (h1 pins s σ H _ I ha) fun f s1 q=>?_)
 cases f with
 | next=>obtain ⟨σ1,H1,I1,q1⟩:=q; exact h2 pins s1 σ1 H1 D I1 (hb σ1 H1 q1)
 | brk=>exact q
 | cont=>exact q
 | ret v=>exact q
theorem ab9 {t u:TS}{nn bb cc:St→Hp→Prop}{rr:VK}{σ:St} {H:Hp}(R:St→Hp→Prop) (h1:t ⟨R,rr,bb,cc⟩ σ H) (h2:∀ σ' H',R σ' H'→u ⟨nn,rr,bb,cc⟩ σ' H'):cb9 t u ⟨nn,rr,bb,cc⟩ σ H:=⟨R,h1,h2⟩
def bw7 (t:TT):TT:=t
theorem a81 {e:Expr}{t:TT}(h:PT X e t):PT X e (bw7 t):=h
theorem ag2 {t:TT}{σ:St} {H:Hp}{QT:Bool→Hp→Prop}(c:Prop) [Decidable c] (h:∀ R:Bool→Hp→Prop,R (decide c) H→t σ H R) (h2:QT (decide c) H):bw7 t σ H QT:=h QT h2
theorem rT {R:Bool→Hp→Prop}{H:Hp}{c:Prop} [Decidable c] (h:R (decide c) H) (hc:c):R true H:=by rw [decide_eq_true hc] at h; exact h
theorem rF {R:Bool→Hp→Prop}{H:Hp}{c:Prop} [Decidable c] (h:R (decide c) H) (hc:¬ c):R false H:=by rw [decide_eq_false hc] at h; exact h
theorem af3 {c:TT}{tb:TS}{nn bb cc:St→Hp→Prop}{rr:VK}{σ:St} {H:Hp}(W:Nat→St→Hp→Prop) (m:Nat) (h0:W m σ H)
 (hs:∀ m σ H,W m σ H→c σ H fun b H1=>if b=true then ∃ N:St→Hp→Prop,(∀ σ' H',N σ' H'→∃ m',m'<m∧W m' σ' H')∧tb ⟨N,rr,nn,N⟩ σ H1 else nn σ H1):bo1 c tb ⟨nn,rr,bb,cc⟩ σ H:=⟨W,⟨m,h0⟩,hs⟩
end
end L2
namespace L2
open PySem
inductive Nd where
 | say (w:Str) (n:Nat)
 | hand (l:Int) (w:Str) (n:Nat)
 | put (b:Str) (e:Ex) (n:Nat)
 | test (c:Cd) (m n:Nat)
 | wait (l:Int) (bs:List (List Pt×Nat)) (n:Nat)
 | call (m n:Nat)
 | back
 | stop
def brT (b:List Pt×Nat):Tr:=.tup [.tup (b.1.map Pt.tr),.int (b.2:Nat)]
def Nd.its:Nd→List Tr
 | .say w n=>[.str "say",.str w,.int (n:Nat)]
 | .hand l w n=>[.str "hand",.int l,.str w,.int (n:Nat)]
 | .put b e n=>[.str "put",.str b,e.tr,.int (n:Nat)]
 | .test c m n=>[.str "test",c.tr,.int (m:Nat),.int (n:Nat)]
 | .wait l bs n=>[.str "wait",.int l,.tup (bs.map brT),.int (n:Nat)]
 | .call m n=>[.str "call",.int (m:Nat),.int (n:Nat)]
 | .back=>[.str "back"]
 | .stop=>[.str "stop"]
def Nd.tr (d:Nd):Tr:=.tup d.its
def Nd.nexts:Nd→List Nat
 | .say _ n=>[n]
 | .hand _ _ n=>[n]
 | .put _ _ n=>[n]
 | .test _ m n=>[m,n]
 | .wait _ bs n=>bs.map (·.2)++[n]
 | .call m n=>[m,n]
 | .back=>[]
 | .stop=>[]
section
variable {H:Hp}{x:Tr}{xs:List Tr}{v:V}{vs ws:List V}
theorem ats_nil0:Tr.Ats H [] vs []↔vs=[]:=by simp [Tr.Ats]
theorem ats_cons0:Tr.Ats H (x::xs) vs []↔∃ v ws,vs=v::ws∧x.At H v []∧Tr.Ats H xs ws []:=by
 simp only [Tr.Ats]
 constructor
 · rintro ⟨v,ws,f,g,h1,h2,h3,h4⟩
   obtain ⟨rfl,rfl⟩:=List.append_eq_nil_iff.mp h2.symm
   exact ⟨v,ws,h1,h3,h4⟩
 · rintro ⟨v,ws,h1,h3,h4⟩
   exact ⟨v,ws,[],[],h1,rfl,h3,h4⟩
theorem at_tup0:(Tr.tup xs).At H v []↔∃ a vs,v=.ref a∧H a=some (.tup vs)∧Tr.Ats H xs vs []:=by simp only [Tr.At]
theorem at_int0 {i:Int}:(Tr.int i).At H v []↔v=.int i:=by simp [Tr.At]
theorem at_str0 {i:Str}:(Tr.str i).At H v []↔v=.str i:=by simp [Tr.At]
theorem Tr.At.same {H H':Hp}(h:x.At H v []) (s:Same H H'):x.At H' v []:=h.mono (s.keep _)
theorem Tr.Ats.same {H H':Hp}(h:Tr.Ats H xs vs []) (s:Same H H'):Tr.Ats H' xs vs []:=h.mono (s.keep _)
end
section
variable {H:Hp}{v:V}{a:Addr}
theorem b97 {x:Tr}{u:V}(e:H a=some (.tup [u])) (h:x.At H u []):(Tr.tup [x]).At H (.ref a) []:=at_tup0.mpr ⟨a,_,rfl,e,ats_cons0.mpr ⟨_,_,rfl,h,ats_nil0.mpr rfl⟩⟩
theorem aa4 {x y:Tr}{u v:V}(e:H a=some (.tup [u,v])) (h:x.At H u []) (h2:y.At H v []):(Tr.tup [x,y]).At H (.ref a) []:=at_tup0.mpr ⟨a,_,rfl,e,ats_cons0.mpr ⟨_,_,rfl,h,ats_cons0.mpr ⟨_,_,rfl,h2,ats_nil0.mpr rfl⟩⟩⟩
theorem aj2 {i:Int}:(Tr.int i).At H (.int i) []:=at_int0.mpr rfl
theorem a68 {i:Str}:(Tr.str i).At H (.str i) []:=at_str0.mpr rfl
theorem Nd.test_at {c:Cd}{m n:Nat}(h:(Nd.test c m n).tr.At H v []):∃ a u,v=.ref a∧H a=some (.tup [.str "test",u,.int (m:Nat),.int (n:Nat)])∧c.tr.At H u []:=by
 obtain ⟨a,vs,rfl,e,h⟩:=at_tup0.mp h
 obtain ⟨v1,w1,rfl,h1,h⟩:=ats_cons0.mp h
 obtain ⟨v2,w2,rfl,h2,h⟩:=ats_cons0.mp h
 obtain ⟨v3,w3,rfl,h3,h⟩:=ats_cons0.mp h
 obtain ⟨v4,w4,rfl,h4,h⟩:=ats_cons0.mp h
 obtain rfl:=ats_nil0.mp h
 obtain rfl:=at_str0.mp h1
 obtain rfl:=at_int0.mp h3
 obtain rfl:=at_int0.mp h4
 exact ⟨a,v2,rfl,e,h2⟩
theorem Nd.call_at {m n:Nat}(h:(Nd.call m n).tr.At H v []):∃ a,v=.ref a∧H a=some (.tup [.str "call",.int (m:Nat),.int (n:Nat)]):=by
 obtain ⟨a,vs,rfl,e,h⟩:=at_tup0.mp h
 obtain ⟨v1,w1,rfl,h1,h⟩:=ats_cons0.mp h
 obtain ⟨v2,w2,rfl,h2,h⟩:=ats_cons0.mp h
 obtain ⟨v3,w3,rfl,h3,h⟩:=ats_cons0.mp h
 obtain rfl:=ats_nil0.mp h
 obtain rfl:=at_str0.mp h1
 obtain rfl:=at_int0.mp h2
 obtain rfl:=at_int0.mp h3
 exact ⟨a,rfl,e⟩
def Nd.word:Nd→Str
 | .say _ _=>"say"
 | .hand _ _ _=>"hand"
 | .put _ _ _=>"put"
 | .test _ _ _=>"test"
 | .wait _ _ _=>"wait"
 | .call _ _=>"call"
 | .back=>"back"
 | .stop=>"stop"
theorem Nd.word_at {d:Nd}(h:d.tr.At H v []):∃ a us,v=.ref a∧H a=some (.tup (.str d.word::us)):=by
 obtain ⟨a,vs,rfl,e,h⟩:=at_tup0.mp h
 have:∃ r,d.its=.str d.word::r:=by cases d <;> exact ⟨_,rfl⟩
 obtain ⟨r,hr⟩:=this
 rw [hr] at h
 obtain ⟨v1,w1,rfl,h1,h⟩:=ats_cons0.mp h
 obtain rfl:=at_str0.mp h1
 exact ⟨a,w1,rfl,e⟩
end
def a48 (l:List Nat):List V:=l.map fun k=>V.int (k:Nat)
theorem b98 (l:List Nat):(a48 l).length=l.length:=by simp [a48]
theorem b99:∀ ps:List Pt,Tr.hs (ps.map Pt.tr)=0
 | []=>by simp [Tr.hs]
 | p::ps=>by
   have:p.tr.h=0:=by cases p <;> simp [Pt.tr,Tr.h]
   simp [Tr.hs,b99 ps,this]
def wayV:Option Nat→V
 | none=>.non
 | some k=>.int (k:Nat)
end L2
namespace L2
open PySem PySem.Spec PyProof.Rows
def bp6:TE:=fun _ H Q=>New H (.dK []) Q
theorem bj1 {X:Cx}{pos:Pos}:PE X (.Dict [] [] pos) bp6:=fun pins s σ H Q I h=>bh7 pins s σ H Q I (New.to h)
section
variable {σ:St} {H:Hp}{Q:VK}{QT:Bool→Hp→Prop}{td ty tv te:TE}{nn bb cc:St→Hp→Prop}{rr:VK}
theorem cc0 (h:New H (.dK []) Q):bp6 σ H Q:=h
theorem i_tB (h:te σ H fun x H1=>∃ c,x=.bl c∧QT c H1):tB te σ H QT:=h
theorem bj2 (h:ty σ H fun y H1=>td σ H1 fun x H2=>∃ a o,x=.ref a∧DGet H2 a y o∧Q (.bl (!o.isSome)) H2):b84 ty td σ H Q:=h
theorem cc1 (h:tv σ H fun v H1=>td σ H1 fun x H2=>ty σ H2 fun y H3=>∃ a H4,x=.ref a∧DPut H3 a y v H4∧nn σ H4):c72 td ty tv ⟨nn,rr,bb,cc⟩ σ H:=h
end
theorem at9 {H:Hp}:∀ {e:Ex}{v:V},e.tr.At H v []→e.At H v
 | .num i,v,h=>by
   obtain ⟨a,vs,rfl,e,h⟩:=at_tup0.mp h
   obtain ⟨v1,w1,rfl,h1,h⟩:=ats_cons0.mp h
   obtain ⟨v2,w2,rfl,h2,h⟩:=ats_cons0.mp h
   obtain rfl:=ats_nil0.mp h
   obtain rfl:=at_str0.mp h1
   obtain rfl:=at_int0.mp h2
   exact ⟨a,rfl,e⟩
 | .box i,v,h=>by
   obtain ⟨a,vs,rfl,e,h⟩:=at_tup0.mp h
   obtain ⟨v1,w1,rfl,h1,h⟩:=ats_cons0.mp h
   obtain ⟨v2,w2,rfl,h2,h⟩:=ats_cons0.mp h
   obtain rfl:=ats_nil0.mp h
   obtain rfl:=at_str0.mp h1
   obtain rfl:=at_str0.mp h2
   exact ⟨a,rfl,e⟩
 | .two k x y,v,h=>by
   obtain ⟨a,vs,rfl,e,h⟩:=at_tup0.mp h
   obtain ⟨v1,w1,rfl,h1,h⟩:=ats_cons0.mp h
   obtain ⟨v2,w2,rfl,h2,h⟩:=ats_cons0.mp h
   obtain ⟨v3,w3,rfl,h3,h⟩:=ats_cons0.mp h
   obtain rfl:=ats_nil0.mp h
   obtain rfl:=at_str0.mp h1
   exact ⟨a,v2,v3,rfl,e,at9 h2,at9 h3⟩
theorem b03 {H:Hp}:∀ {c:Cd}{v:V},c.tr.At H v []→c.At H v
 | .cmp k x y,v,h=>by
   obtain ⟨a,vs,rfl,e,h⟩:=at_tup0.mp h
   obtain ⟨v1,w1,rfl,h1,h⟩:=ats_cons0.mp h
   obtain ⟨v2,w2,rfl,h2,h⟩:=ats_cons0.mp h
   obtain ⟨v3,w3,rfl,h3,h⟩:=ats_cons0.mp h
   obtain rfl:=ats_nil0.mp h
   obtain rfl:=at_str0.mp h1
   exact ⟨a,v2,v3,rfl,e,at9 h2,at9 h3⟩
 | .nt c,v,h=>by
   obtain ⟨a,vs,rfl,e,h⟩:=at_tup0.mp h
   obtain ⟨v1,w1,rfl,h1,h⟩:=ats_cons0.mp h
   obtain ⟨v2,w2,rfl,h2,h⟩:=ats_cons0.mp h
   obtain rfl:=ats_nil0.mp h
   obtain rfl:=at_str0.mp h1
   exact ⟨a,v2,rfl,e,b03 h2⟩
 | .both x y,v,h=>by
   obtain ⟨a,vs,rfl,e,h⟩:=at_tup0.mp h
   obtain ⟨v1,w1,rfl,h1,h⟩:=ats_cons0.mp h
   obtain ⟨v2,w2,rfl,h2,h⟩:=ats_cons0.mp h
   obtain ⟨v3,w3,rfl,h3,h⟩:=ats_cons0.mp h
   obtain rfl:=ats_nil0.mp h
   obtain rfl:=at_str0.mp h1
   exact ⟨a,v2,v3,rfl,e,b03 h2,b03 h3⟩
theorem Nd.put_at {H:Hp}{v:V}{b:Str}{e:Ex}{n:Nat}(h:(Nd.put b e n).tr.At H v []):∃ a u,v=.ref a∧H a=some (.tup [.str "put",.str b,u,.int (n:Nat)])∧e.tr.At H u []:=by
 obtain ⟨a,vs,rfl,e,h⟩:=at_tup0.mp h
 obtain ⟨v1,w1,rfl,h1,h⟩:=ats_cons0.mp h
 obtain ⟨v2,w2,rfl,h2,h⟩:=ats_cons0.mp h
 obtain ⟨v3,w3,rfl,h3,h⟩:=ats_cons0.mp h
 obtain ⟨v4,w4,rfl,h4,h⟩:=ats_cons0.mp h
 obtain rfl:=ats_nil0.mp h
 obtain rfl:=at_str0.mp h1
 obtain rfl:=at_str0.mp h2
 obtain rfl:=at_int0.mp h4
 exact ⟨a,v3,rfl,e,h3⟩
end L2
namespace L2
end L2
namespace L2
open PySem PySem.Spec PyProof.Rows
section
variable {X:Cx}{σ:St} {H:Hp}{Q:VK}{QT:Bool→Hp→Prop}{td ty tv te:TE}{nn bb cc:St→Hp→Prop}{rr:VK}
theorem bp7 {i:Nat}{a c:Int}{f:Int→Int→Int}(e:σ[i]?=some (some (.int a))) (h:nn (σ.set i (some (.int (f a c)))) H):tAug i (tC (.int c)) (ipI f) ⟨nn,rr,bb,cc⟩ σ H:=⟨_,e,a,c,rfl,rfl,h⟩
end
section
variable {X:Cx}{elts:List Expr}{x1:Nat}{tpos:Pos}
theorem ba0:bootBuiltins "zip"=some (.type "zip"):=by decide +kernel
end
end L2
namespace L2
open PySem
end L2
namespace L2
open PySem PySem.Spec PyProof.Rows
def bw8:R2:=fun x y H Q=>∃ t fs gs,(Tr.lst t).At H x fs∧(Tr.lst t).At H y gs∧Tr.hs t≤60∧Q (.bl false) H
theorem b04 {X:Cx}(hu:X.A.units+64<cLine):OpR X (compareOp .NotEq) bw8:=by
 intro pins s σ H x y v u Q I rx ry h
 obtain ⟨t,fs,gs,h1,h2,hh,q⟩:=h
 simp only [Tr.At] at h1 h2
 obtain ⟨a,vs,_,rfl,e1,c1,_⟩:=h1
 obtain ⟨b,ws,_,rfl,e2,c2,_⟩:=h2
 cases rx
 cases ry
 obtain ⟨is1,q1,p1,_⟩:=I.list (SqL.of e1)
 obtain ⟨is2,q2,p2,_⟩:=I.list (SqL.of e2)
 have hl:is1.length=is2.length:=by rw [← q1.length,←q2.length,c1.len,c2.len]
 have:=SeqAt.RcNeAt.lists (A:=X.A) (s:=s) (e:=fun _=>true) p1.isList p2.isList (by simpa using hl) (by omega) (fun j h1 h2=>by
  have:=Tr.eqAts I (A:=X.A.in1) c1 c2 q1 q2 (by rw [a47]; omega) j (by simpa using h1) (by simpa using h2)
  simpa using this) X.prog X.w X.xe (EP X pins σ Q)
 refine this ⟨.bl false,H,I,?_,q⟩
 rw [show ((List.range is1.toArray.size).all fun _=>true)=true by simp]
 rfl
theorem cc2 {H:Hp}{Q:VK}{x y:V}{t:List Tr}{fs gs:List Addr}(h1:(Tr.lst t).At H x fs) (h2:(Tr.lst t).At H y gs) (hh:Tr.hs t≤60) (h:Q (.bl false) H):bw8 x y H Q:=⟨t,fs,gs,h1,h2,hh,h⟩
noncomputable instance trDec:DecidableEq Tr:=fun _ _=>Classical.propDecidable _
def ba1 (z:Int) (u:Value):Prop:=(∃ t,u=.int z t)∨∃ b:Bool,u=.bool b∧z=(if b=true then 1 else 0)
mutual
def Tr.In (h:Heap):Tr→Value→Prop
 | .non,u=>u=.none
 | .int z,u=>ba1 z u
 | .str x,u=>∃ t,u=.str x t
 | .tup ts,u=>∃ a us,u=.ref a∧h.IsTuple a us∧Tr.Ins h ts us.toList
 | .lst _,_=>False
def Tr.Ins (h:Heap):List Tr→List Value→Prop
 | [],us=>us=[]
 | t::ts,us=>∃ u r,us=u::r∧Tr.In h t u∧Tr.Ins h ts r
end
theorem Tr.Ins.len {h:Heap}:∀ {ts:List Tr}{us:List Value},Tr.Ins h ts us→us.length=ts.length
 | [],us,e=>by simp only [Tr.Ins] at e; rw [e]; rfl
 | t::ts,us,e=>by
   simp only [Tr.Ins] at e
   obtain ⟨u,r,rfl,_,e⟩:=e
   simp [e.len]
theorem Tr.Ins.get {h:Heap}:∀ {ts:List Tr}{us:List Value},Tr.Ins h ts us→∀ (j:Nat) (h1:j<us.length) (h2:j<ts.length),Tr.In h ts[j] us[j]
 | [],us,e,j,h1,h2=>absurd h2 (Nat.not_lt_zero _)
 | t::ts,us,e,j,h1,h2=>by
   simp only [Tr.Ins] at e
   obtain ⟨u,r,rfl,e1,e⟩:=e
   cases j with
   | zero=>exact e1
   | succ j=>exact e.get j (by simpa using h1) (by simpa using h2)
theorem aw9 {h:Heap}{a:Addr}{us vs:Array Value}(x:h.IsTuple a us) (y:h.IsTuple a vs):us=vs:=by
 obtain ⟨o,e,_,n,d⟩:=x
 obtain ⟨o',e',_,n',d'⟩:=y
 rw [e] at e'; cases e'
 rw [d] at d'
 injection d' with d1 _
mutual
theorem Tr.In.inj {h:Heap}:∀ {t r:Tr}{u:Value},Tr.In h t u→Tr.In h r u→t=r
 | .non,r,u,e,f=>by
   simp only [Tr.In] at e
   subst e
   cases r <;> simp [Tr.In,ba1] at f ⊢
 | .int z,r,u,e,f=>by
   simp only [Tr.In] at e
   rcases e with ⟨t,rfl⟩ | ⟨b,rfl,rfl⟩
   · cases r <;> simp [Tr.In,ba1] at f ⊢
     exact f
   · cases r <;> simp [Tr.In,ba1] at f ⊢
     exact f.symm
 | .str x,r,u,e,f=>by
   simp only [Tr.In] at e
   obtain ⟨t,rfl⟩:=e
   cases r <;> simp [Tr.In,ba1] at f ⊢
   exact f
 | .lst _,r,u,e,f=>e.elim
 | .tup ts,.tup rs,u,e,f=>by
   simp only [Tr.In] at e f
   obtain ⟨a,us,rfl,e2,e3⟩:=e
   obtain ⟨b,vs,hb,f2,f3⟩:=f
   cases hb
   cases aw9 e2 f2
   rw [Tr.Ins.inj e3 f3]
 | .tup ts,.non,u,e,f=>by
   simp only [Tr.In] at e f
   obtain ⟨a,us,rfl,e2,e3⟩:=e
   cases f
 | .tup ts,.int _,u,e,f=>by
   simp only [Tr.In] at e f
   obtain ⟨a,us,rfl,e2,e3⟩:=e
   rcases f with ⟨_,f⟩ | ⟨_,f,_⟩ <;> cases f
 | .tup ts,.str _,u,e,f=>by
   simp only [Tr.In] at e f
   obtain ⟨a,us,rfl,e2,e3⟩:=e
   obtain ⟨_,f⟩:=f
   cases f
 | .tup ts,.lst _,u,e,f=>f.elim
theorem Tr.Ins.inj {h:Heap}:∀ {ts rs:List Tr}{us:List Value},Tr.Ins h ts us→Tr.Ins h rs us→ts=rs
 | [],rs,us,e,f=>by
   simp only [Tr.Ins] at e
   subst e
   cases rs with
   | nil=>rfl
   | cons r rs=>simp [Tr.Ins] at f
 | t::ts,rs,us,e,f=>by
   simp only [Tr.Ins] at e
   obtain ⟨u,r,rfl,e1,e2⟩:=e
   cases rs with
   | nil=>simp [Tr.Ins] at f
   | cons q qs =>
     simp only [Tr.Ins] at f
     obtain ⟨u',r',hh,f1,f2⟩:=f
     cases hh
     rw [e1.inj f1,Tr.Ins.inj e2 f2]
end
theorem au0 {H:Hp}{ts:List Tr}{v:V}{h:(Tr.lst ts).At H v []}:False:=by
 simp only [Tr.At] at h
 obtain ⟨a,vs,_,rfl,e1,c1,e⟩:=h
 simp at e
section
variable {X:Cx}{pins:List (Addr×Obj)}{σ:St} {H:Hp}{s:Shared}
mutual
theorem Tr.At.isIn (I:Inv X pins σ H s):∀ {t:Tr}{v:V}{u:Value},t.At H v []→RelV v u→Tr.In s.heap t u
 | .non,v,u,h,r=>by
   obtain ⟨rfl,-⟩:=(by simpa only [Tr.At] using h)
   cases r
   exact rfl
 | .int z,v,u,h,r=>by
   obtain ⟨rfl,-⟩:=(by simpa only [Tr.At] using h)
   obtain ⟨t,rfl⟩:=r
   exact .inl ⟨t,rfl⟩
 | .str z,v,u,h,r=>by
   obtain ⟨rfl,-⟩:=(by simpa only [Tr.At] using h)
   obtain ⟨t,rfl⟩:=r
   exact ⟨t,rfl⟩
 | .lst _,v,u,h,r=>(au0 (h:=h)).elim
 | .tup ts,v,u,h,r=>by
   simp only [Tr.At] at h
   obtain ⟨a,vs,rfl,e1,c1⟩:=h
   cases r
   obtain ⟨is1,q1,p1,_⟩:=I.tuple (SqT.of e1)
   simp only [Tr.In]
   exact ⟨a,is1.toArray,rfl,p1,by simpa using Tr.Ats.isIns I c1 q1⟩
theorem Tr.Ats.isIns (I:Inv X pins σ H s):∀ {ts:List Tr}{vs:List V}{us:List Value},Tr.Ats H ts vs []→Vals vs us→Tr.Ins s.heap ts us
 | [],vs,us,c,q=>by
   simp only [Tr.Ats] at c
   obtain ⟨rfl,-⟩:=c
   cases q
   exact rfl
 | t::ts,vs,us,c,q=>by
   simp only [Tr.Ats] at c
   obtain ⟨v,vs,f,g,rfl,e,a1,b1⟩:=c
   have hf:f=[]∧g=[]:=by simpa using e.symm
   obtain ⟨rfl,rfl⟩:=hf
   cases q with
   | cons r1 q1 =>
   simp only [Tr.Ins]
   exact ⟨_,_,rfl,a1.isIn I r1,b1.isIns I q1⟩
end
end
theorem ba2 {n:Nat}{e:Nat→Bool}:(List.range n).all e=true↔∀ j,j<n→e j=true:=by simp [List.all_eq_true]
theorem ba3 {ts rs:List Tr}:((List.range (min ts.length rs.length)).all (fun j=>decide (ts.getD j .non=rs.getD j .non)) && ts.length == rs.length)=decide (ts=rs):=by
 rw [Bool.eq_iff_iff,Bool.and_eq_true,ba2,decide_eq_true_iff,beq_iff_eq]
 constructor
 · rintro ⟨h1,h2⟩
   refine List.ext_getElem h2 fun j h3 h4=>?_
   have:=of_decide_eq_true (h1 j (by omega))
   simpa [h3,h4] using this
 · rintro rfl
   exact ⟨fun j _=>decide_eq_true rfl,rfl⟩
section
variable {s:Shared}
mutual
theorem Tr.In.eqAt:∀ {t r:Tr}{A:Around}{u z:Value},Tr.In s.heap t u→Tr.In s.heap r z→A.units+t.h+r.h<cLine→SeqAt.EqAt A s u z (decide (t=r))
 | .non,r,A,u,z,h1,h2,hu=>by
   simp only [Tr.In] at h1
   subst h1
   cases r with
   | non =>
     simp only [Tr.In] at h2
     subst h2
     rw [decide_eq_true rfl]
     exact SeqAt.EqAt.same _
   | int i =>
     rw [decide_eq_false (by simp)]
     rcases h2 with ⟨t2,rfl⟩ | ⟨b2,rfl,rfl⟩
     · exact SeqAt.EqAt.none_int _ _
     · exact SeqAt.EqAt.none_bool _
   | str i =>
     obtain ⟨t2,rfl⟩:=h2
     rw [decide_eq_false (by simp)]
     exact SeqAt.EqAt.none_str _ _
   | tup rs =>
     simp only [Tr.In] at h2
     obtain ⟨a,us,rfl,p,_⟩:=h2
     rw [decide_eq_false (by simp)]
     exact SeqAt.EqAt.none_tuple p (by omega)
   | lst rs=>exact h2.elim
 | .int i,r,A,u,z,h1,h2,hu=>by
   cases r with
   | non =>
     simp only [Tr.In] at h2
     subst h2
     rw [decide_eq_false (by simp)]
     rcases h1 with ⟨t1,rfl⟩ | ⟨b1,rfl,rfl⟩
     · exact SeqAt.EqAt.int_none _ _
     · exact SeqAt.EqAt.bool_none _
   | int j =>
     rw [show decide (Tr.int i=Tr.int j)=(i == j) from Bool.eq_iff_iff.mpr (by simp)]
     rcases h1 with ⟨t1,rfl⟩ | ⟨b1,rfl,rfl⟩
     · rcases h2 with ⟨t2,rfl⟩ | ⟨b2,rfl,rfl⟩
       · exact SeqAt.EqAt.int_int _ _ _ _
       · exact SeqAt.EqAt.int_bool _ _ _
     · rcases h2 with ⟨t2,rfl⟩ | ⟨b2,rfl,rfl⟩
       · exact SeqAt.EqAt.bool_int _ _ _
       · have:=SeqAt.EqAt.bool_bool (A:=A) (s:=s) b1 b2
         cases b1 <;> cases b2 <;> exact this
   | str j =>
     obtain ⟨t2,rfl⟩:=h2
     rw [decide_eq_false (by simp)]
     rcases h1 with ⟨t1,rfl⟩ | ⟨b1,rfl,rfl⟩
     · exact SeqAt.EqAt.int_str _ _ _ _
     · exact SeqAt.EqAt.bool_str _ _ _
   | tup rs =>
     simp only [Tr.In] at h2
     obtain ⟨a,us,rfl,p,_⟩:=h2
     rw [decide_eq_false (by simp)]
     rcases h1 with ⟨t1,rfl⟩ | ⟨b1,rfl,rfl⟩
     · exact SeqAt.EqAt.int_tuple _ _ p (by omega)
     · exact SeqAt.EqAt.bool_tuple _ p (by omega)
   | lst rs=>exact h2.elim
 | .str i,r,A,u,z,h1,h2,hu=>by
   obtain ⟨t1,rfl⟩:=h1
   cases r with
   | non =>
     simp only [Tr.In] at h2
     subst h2
     rw [decide_eq_false (by simp)]
     exact SeqAt.EqAt.str_none _ _
   | int j =>
     rw [decide_eq_false (by simp)]
     rcases h2 with ⟨t2,rfl⟩ | ⟨b2,rfl,rfl⟩
     · exact SeqAt.EqAt.str_int _ _ _ _
     · exact SeqAt.EqAt.str_bool _ _ _
   | str j =>
     obtain ⟨t2,rfl⟩:=h2
     have:=SeqAt.EqAt.str_str (A:=A) (s:=s) i t1 j t2
     rw [show (i == j)=decide (Tr.str i=Tr.str j) from Bool.eq_iff_iff.mpr (by simp)] at this
     exact this
   | tup rs =>
     simp only [Tr.In] at h2
     obtain ⟨a,us,rfl,p,_⟩:=h2
     rw [decide_eq_false (by simp)]
     exact SeqAt.EqAt.str_tuple _ _ p (by omega)
   | lst rs=>exact h2.elim
 | .lst _,r,A,u,z,h1,h2,hu=>h1.elim
 | .tup ts,r,A,u,z,h1,h2,hu=>by
   have h1':=h1
   simp only [Tr.In] at h1
   obtain ⟨a,us,rfl,p1,c1⟩:=h1
   cases r with
   | non =>
     simp only [Tr.In] at h2
     subst h2
     rw [decide_eq_false (by simp)]
     exact SeqAt.EqAt.tuple_none p1 (by omega)
   | int j =>
     rw [decide_eq_false (by simp)]
     rcases h2 with ⟨t2,rfl⟩ | ⟨b2,rfl,rfl⟩
     · exact SeqAt.EqAt.tuple_int _ _ p1 (by omega)
     · exact SeqAt.EqAt.tuple_bool _ p1 (by omega)
   | str j =>
     obtain ⟨t2,rfl⟩:=h2
     rw [decide_eq_false (by simp)]
     exact SeqAt.EqAt.tuple_str _ _ p1 (by omega)
   | lst rs=>exact h2.elim
   | tup rs =>
     have h2':=h2
     simp only [Tr.In] at h2
     obtain ⟨b,vs,rfl,p2,c2⟩:=h2
     by_cases hab:a=b
     · subst hab
       rw [decide_eq_true (h1'.inj h2')]
       exact SeqAt.EqAt.same _
     refine SeqAt.EqAt.of_refs hab ?_
     simp only [Tr.h] at hu
     have l1:=c1.len
     have l2:=c2.len
     simp only [Array.length_toList] at l1 l2
     have:=SeqAt.RcAt.tuples (A:=A) (s:=s) (e:=fun j=>decide (ts.getD j .non=rs.getD j .non)) p1 p2 (by omega) (fun j h1 h2=>by
      have:=Tr.Ins.eqAts (A:=A.in1) c1 c2 (by rw [a47]; omega) j (by simpa using h1) (by simpa using h2)
      simpa using this)
     rw [l1,l2,ba3] at this
     rw [show decide (Tr.tup ts=Tr.tup rs)=decide (ts=rs) from Bool.eq_iff_iff.mpr (by simp)]
     exact this
theorem Tr.Ins.eqAts:∀ {ts rs:List Tr}{A:Around}{us zs:List Value},Tr.Ins s.heap ts us→Tr.Ins s.heap rs zs→A.units+Tr.hs ts+Tr.hs rs<cLine →
 ∀ (j:Nat) (h1:j<us.length) (h2:j<zs.length),SeqAt.EqAt A s us[j] zs[j] (decide (ts.getD j .non=rs.getD j .non))
 | [],rs,A,us,zs,c1,c2,hu,j,h1,h2=>by
   simp only [Tr.Ins] at c1
   subst c1
   exact absurd h1 (by simp)
 | t::ts,[],A,us,zs,c1,c2,hu,j,h1,h2=>by
   simp only [Tr.Ins] at c2
   subst c2
   exact absurd h2 (by simp)
 | t::ts,r::rs,A,us,zs,c1,c2,hu,j,h1,h2=>by
   simp only [Tr.Ins] at c1 c2
   obtain ⟨u,us,rfl,a1,b1⟩:=c1
   obtain ⟨z,zs,rfl,a2,b2⟩:=c2
   simp only [Tr.hs] at hu
   cases j with
   | zero =>
     have:=a1.eqAt a2 (A:=A) (by omega)
     simpa using this
   | succ j =>
     have:=b1.eqAts b2 (A:=A) (by omega) j (by simpa using h1) (by simpa using h2)
     simpa using this
end
end
mutual
def Tr.hash (P:Params):Tr→Int
 | .non=>PySem.W.hashW P .none
 | .int z=>PySem.W.hashW P (.int z)
 | .str x=>PySem.W.hashW P (.str x)
 | .tup ts=>reduceHash (Builtin.Tuple.tupleHashOf (Tr.hashes P ts))
 | .lst _=>0
def Tr.hashes (P:Params):List Tr→List Int
 | []=>[]
 | t::ts=>Tr.hash P t::Tr.hashes P ts
end
section
variable {prog:Program}{w:World}{E:Value→Shared→Prop}
mutual
theorem Tr.In.pyHash:∀ {t:Tr}{A:Around}{s:Shared}{u:Value}{Q:Int→Shared→Prop},Tr.In s.heap t u→A.units+t.h<cLine→(∀ n,Q (t.hash w.params) { s with toks:=n })→wpAny (model prog w) A (pyHash u) Q E s
 | .non,A,s,u,Q,e,hu,h=>by
   simp only [Tr.In] at e
   subst e
   exact PySem.W.pyHash_laid .none _ A s Q rfl .none (by simp only [PySem.W.WData.depth]; omega) h
 | .int z,A,s,u,Q,e,hu,h=>by
   rcases e with ⟨t,rfl⟩ | ⟨b,rfl,rfl⟩
   · exact PySem.W.pyHash_laid (.int z) _ A s Q rfl (.int z t) (by simp only [PySem.W.WData.depth]; omega) h
   · refine PySem.W.pyHash_laid (.bool b) _ A s Q rfl (.bool b) (by simp only [PySem.W.WData.depth]; omega) fun tk=>?_
     have:=h tk
     cases b <;> exact this
 | .str z,A,s,u,Q,e,hu,h=>by
   obtain ⟨t,rfl⟩:=e
   exact PySem.W.pyHash_laid (.str z) _ A s Q rfl (.str z t) (by simp only [PySem.W.WData.depth]; omega) h
 | .lst _,A,s,u,Q,e,hu,h=>e.elim
 | .tup ts,A,s,u,Q,e,hu,h=>by
   simp only [Tr.In] at e
   obtain ⟨a,us,rfl,⟨o,p1,p2,n,p3⟩,c⟩:=e
   simp only [Tr.h] at hu
   refine PySem.W.pyHash_slot (T:="tuple") ⟨o,p1,p2⟩ F.slot_tuple_hash F.entry_tuple_hash (F.args_tuple_hash_1 _) (beq_builtin_none _) (.inr (by omega)) ?_
   show wpAny _ A.in1 (Builtin.Tuple.tupleItemsOf (.ref a) >>= _) _ _ s
   refine wpAny_bind (wpAny_tupleItemsOf p1 p3 (wpAny_bind ?_))
   rw [← Array.forIn_toList]
   refine Tr.Ins.pyHashes (b:=#[]) c (by rw [a47]; omega) fun tk b hb=>?_
   have hb':b.toList=Tr.hashes w.params ts:=by simpa using hb
   show wpAny _ A.in1 (retInt (Builtin.Tuple.tupleHashOf b.toList)) _ _ _
   rw [hb']
   exact wpAny_bind (wpAny_mkInt (wpAny_pure ⟨_,_,rfl,h (_)⟩))
theorem Tr.Ins.pyHashes:∀ {ts:List Tr}{A:Around}{s:Shared}{us:List Value}{b:Array Int}{Q:Array Int→Shared→Prop},Tr.Ins s.heap ts us→A.units+Tr.hs ts<cLine →
 (∀ n b',b'.toList=b.toList++Tr.hashes w.params ts→Q b' { s with toks:=n }) →
 wpAny (model prog w) A (forIn us b fun x r=>do let h←pyHash x; pure PUnit.unit; pure (ForInStep.yield (r.push h))) Q E s
 | [],A,s,us,b,Q,e,hu,h=>by
   simp only [Tr.Ins] at e
   subst e
   exact wpAny_pure (h s.toks b (by simp [Tr.hashes]))
 | t::ts,A,s,us,b,Q,e,hu,h=>by
   simp only [Tr.Ins] at e
   obtain ⟨u,us,rfl,a1,b1⟩:=e
   simp only [Tr.hs] at hu
   rw [List.forIn_cons]
   refine wpAny_bind (wpAny_bind (a1.pyHash (by omega) fun tk=>wpAny_bind (wpAny_pure (wpAny_pure ?_))))
   exact b1.pyHashes (s:={ s with toks:=tk }) (by omega) fun n b' hb=>h n b' (by simp [hb,Tr.hashes])
end
end
section
variable {prog:Program}{w:World}{E:Value→Shared→Prop}
mutual
theorem Tr.In.quiet:∀ {t:Tr}{A:Around}{s:Shared}{u:Value}{Q:Bool→Shared→Prop}{n:Nat},Tr.In s.heap t u→t.h≤n→Q true s→wpAny (model prog w) A (eqIsQuiet n u) Q E s
 | .non,A,s,u,Q,n,e,hn,h=>by
   simp only [Tr.In] at e
   subst e
   rw [eqIsQuiet_byValue n (v:=.none) rfl]
   exact wpAny_pure h
 | .int z,A,s,u,Q,n,e,hn,h=>by
   rcases e with ⟨t,rfl⟩ | ⟨b,rfl,rfl⟩
   · rw [eqIsQuiet_byValue n (v:=.int z t) rfl]
     exact wpAny_pure h
   · rw [eqIsQuiet_byValue n (v:=.bool b) rfl]
     exact wpAny_pure h
 | .str z,A,s,u,Q,n,e,hn,h=>by
   obtain ⟨t,rfl⟩:=e
   rw [eqIsQuiet_byValue n (v:=.str z t) rfl]
   exact wpAny_pure h
 | .lst _,A,s,u,Q,n,e,hn,h=>e.elim
 | .tup ts,A,s,u,Q,n,e,hn,h=>by
   simp only [Tr.In] at e
   obtain ⟨a,us,rfl,⟨o,p1,p2,m,p3⟩,c⟩:=e
   simp only [Tr.h] at hn
   obtain ⟨n,rfl⟩:∃ k,n=k+1:=⟨n - 1,by omega⟩
   have hT:s.TypeIs (.ref a) "tuple":=⟨o,p1,p2⟩
   unfold eqIsQuiet
   refine wpAny_bind (wpAny_specialOf hT (F.slot_tuple_eq.lookup) ?_)
   show wpAny _ A (isInstance (.ref a) (.type "tuple") >>= _) _ _ s
   refine wpAny_bind (wpAny_isInstance hT (isSubtype_tuple_tuple) ?_)
   simp only [Bool.false_eq_true,Bool.not_true,if_false]
   refine wpAny_bind (wpAny_seqItems p1 p3 (wpAny_bind ?_))
   show wpAny _ _ (forIn us _ _) _ _ s
   rw [← Array.forIn_toList]
   refine wpAny_forIn_list _ (fun rest r s'=>r.1=none∧s'=s∧∃ ts',Tr.Ins s.heap ts' rest∧∀ t∈ts',∃ k,∃ hk:k<ts.length,t=ts[k]) _ ?_ ?_ _ _ ⟨rfl,rfl,ts,c,fun t ht=>by
    obtain ⟨k,hk,e⟩:=List.mem_iff_getElem.mp ht
    exact ⟨k,hk,e.symm⟩⟩
   · rintro v rest r s' ⟨hr,rfl,ts',c',hm⟩
     cases ts' with
     | nil=>simp [Tr.Ins] at c'
     | cons t ts' =>
       simp only [Tr.Ins] at c'
       obtain ⟨u',r',hh,a1,b1⟩:=c'
       cases hh
       obtain ⟨k,hk,rfl⟩:=hm t List.mem_cons_self
       refine wpAny_bind (Tr.Ins.quietAt (n:=n) c k hk a1 (by omega) ?_)
       simp only [Bool.false_eq_true,Bool.not_true,if_false]
       exact wpAny_pure ⟨rfl,rfl,ts',b1,fun t' ht'=>hm t' (List.mem_cons_of_mem _ ht')⟩
   · rintro ⟨r1,r2⟩ s' ⟨hr,rfl,_⟩
     simp only at hr
     subst hr
     exact wpAny_pure h
theorem Tr.Ins.quietAt:∀ {ts:List Tr}{A:Around}{s:Shared}{us:List Value}{u:Value}{Q:Bool→Shared→Prop}{n:Nat},Tr.Ins s.heap ts us→∀ (k:Nat) (hk:k<ts.length),Tr.In s.heap ts[k] u→Tr.hs ts≤n→Q true s →
 wpAny (model prog w) A (eqIsQuiet n u) Q E s
 | [],A,s,us,u,Q,n,e,k,hk,a1,hn,h=>absurd hk (Nat.not_lt_zero _)
 | t::ts,A,s,us,u,Q,n,e,k,hk,a1,hn,h=>by
   simp only [Tr.Ins] at e
   obtain ⟨u',us,rfl,a2,b2⟩:=e
   simp only [Tr.hs] at hn
   cases k with
   | zero=>exact Tr.In.quiet (t:=t) a1 (by omega) h
   | succ k=>exact Tr.Ins.quietAt b2 k (by simpa using hk) a1 (by omega) h
end
end
structure Ents (P:Params) (h:Heap) (es:Array DictEntry) (ts:List Tr):Prop where
 len:es.size=ts.length
 at_:∀ (j:Nat) (e:DictEntry),es[j]?=some e→∃ t:Tr,ts[j]?=some t∧e.hash=t.hash P∧Tr.In h t e.key∧t.h≤8
 nd:ts.Nodup
theorem Ents.of {P:Params}{h:Heap}{es:Array DictEntry}{ts:List Tr}(x:Ents P h es ts) {j:Nat}{t:Tr}(e:ts[j]?=some t):∃ en,es[j]?=some en∧en.hash=t.hash P∧Tr.In h t en.key∧t.h≤8:=by
 have hj:j<es.size:=by rw [x.len]; exact (List.getElem?_eq_some_iff.mp e).1
 obtain ⟨t',e',h2⟩:=x.at_ j es[j] (Array.getElem?_eq_getElem hj)
 rw [e] at e'
 cases e'
 exact ⟨_,Array.getElem?_eq_getElem hj,h2⟩
theorem Ents.one {P:Params}{h:Heap}{es:Array DictEntry}{ts:List Tr}(x:Ents P h es ts) {i j:Nat}{t:Tr}(e:ts[i]?=some t) (f:ts[j]?=some t):i=j:=by
 obtain ⟨h1,e⟩:=List.getElem?_eq_some_iff.mp e
 obtain ⟨h2,f⟩:=List.getElem?_eq_some_iff.mp f
 have pw:=List.pairwise_iff_getElem.mp x.nd
 rcases Nat.lt_trichotomy i j with h | h | h
 · exact absurd (e.trans f.symm) (pw i j h1 h2 h)
 · exact h
 · exact absurd (f.trans e.symm) (pw j i h2 h1 h)
section
variable {prog:Program}{w:World}{E:Value→Shared→Prop}{A:Around}{s:Shared}{d:Addr}{o:Obj}{es:Array DictEntry}{ep:Nat}{ts:List Tr}{t:Tr}{u:Value}
theorem mem_places {f:Nat→Option Int}{n i:Nat}{h:Int}:i∈placesWithHash n f h↔i<n∧f i=some h:=by simp [placesWithHash,List.mem_filter]
theorem ba4 {f:Nat→Option Int}{n:Nat}{h:Int}:(placesWithHash n f h).Nodup:=List.Pairwise.filter _ List.nodup_range
theorem ba5 {Q:Option Nat→Shared→Prop}(ho:s.heap.get? d=some o) (hd:o.data=.dict es ep) (x:Ents w.params s.heap es ts) (hk:Tr.In s.heap t u) (h8:t.h≤8) (hu:A.units+16<cLine)
 (hnone:(∀ j:Nat,ts[j]?≠some t)→Q none s) (hsome:∀ j:Nat,ts[j]?=some t→Q (some j) s):wpAny (model prog w) A (dictFind d u (t.hash w.params)) Q E s:=by
 have hin:∀ j:Nat,ts[j]?=some t→j∈placesWithHash es.size (fun i=>es[i]?.map (·.hash)) (t.hash w.params):=fun j hj=>by
  obtain ⟨en,e1,e2,_⟩:=x.of hj
  exact mem_places.mpr ⟨(Array.getElem?_eq_some_iff.mp e1).1,by rw [e1]; exact congrArg some e2⟩
 have hex:∀ i∈placesWithHash es.size (fun i=>es[i]?.map (·.hash)) (t.hash w.params),∃ en t',es[i]?=some en∧ts[i]?=some t'∧en.hash=t.hash w.params∧Tr.In s.heap t' en.key∧t'.h≤8:=fun i hi=>by
  obtain ⟨hi,h2⟩:=mem_places.mp hi
  have e1:=Array.getElem?_eq_getElem hi
  obtain ⟨t',e2,e3,e4,e5⟩:=x.at_ i _ e1
  rw [e1] at h2
  exact ⟨_,t',e1,e2,Option.some.inj h2,e4,e5⟩
 have hnd:(placesWithHash es.size (fun i=>es[i]?.map (·.hash)) (t.hash w.params)).Nodup:=ba4
 generalize hP:placesWithHash es.size (fun i=>es[i]?.map (·.hash)) (t.hash w.params)=ps at hin hex hnd
 have eqa:∀ {t':Tr}{z:Value},Tr.In s.heap t' z→t'.h≤8→SeqAt.EqAt A s z u (decide (t'=t)):=fun a b=>a.eqAt hk (by omega)
 have plain:wpAny (model prog w) A (dictWalkPlain d u (t.hash w.params) es ps) Q E s:=by
  unfold dictWalkPlain
  refine wpAny_bind ?_
  refine wpAny_forIn_list _ (fun rest b s'=>s'=s∧b=(none,())∧(∀ i∈rest,i∈ps)∧∀ j:Nat,ts[j]?=some t→j∈rest) _ ?_ ?_ _ _ ⟨rfl,rfl,fun _ z=>z,hin⟩
  · rintro i rest b s' ⟨rfl,rfl,hr,hj⟩
    obtain ⟨en,t',e1,e2,e3,e4,e5⟩:=hex i (hr i List.mem_cons_self)
    rw [e1]
    dsimp only
    rw [if_pos (by rw [e3]; exact beq_self_eq_true _)]
    refine wpAny_bind (wpAny_dictEpoch ho hd (wpAny_bind (eqa e4 e5 _ _ _ _ (wpAny_bind (wpAny_dictEpoch ho hd ?_)))))
    show wpAny _ A (if (ep != ep)=true then _ else _) _ E _
    rw [if_neg (by simp)]
    by_cases hkk:t'=t
    · subst hkk
      rw [decide_eq_true rfl]
      exact wpAny_bind (wpAny_rule (wpAny_pure (wpAny_pure (hsome i e2))))
    · rw [decide_eq_false hkk]
      refine wpAny_bind (wpAny_rule (wpAny_pure ⟨rfl,rfl,fun i hi=>hr i (List.mem_cons_of_mem _ hi),fun j h2=>?_⟩))
      rcases List.mem_cons.mp (hj j h2) with rfl | h3
      · rw [e2] at h2
        exact absurd (Option.some.inj h2) hkk
      · exact h3
  · rintro b s' ⟨rfl,rfl,_,hj⟩
    exact wpAny_pure (hnone fun j h2=>absurd (hj j h2) (by simp))
 have hany:∀ a,u=.ref a→¬ (es.any fun e=>e.key == u && e.hash != t.hash w.params)=true:=by
  rintro a rfl
  rw [← Array.any_toList,List.any_eq_true]
  rintro ⟨e,hin',hc⟩
  obtain ⟨j,hj,rfl⟩:=Array.mem_iff_getElem.mp (Array.mem_toList_iff.mp hin')
  obtain ⟨t',_,f2,f3,_⟩:=x.at_ j _ (Array.getElem?_eq_getElem hj)
  simp only [Bool.and_eq_true,beq_iff_eq,bne_iff_ne,ne_eq] at hc
  rw [hc.1] at f3
  exact hc.2 (by rw [f2,f3.inj hk])
 have hst:∀ v∈ps.filterMap (fun i=>es[i]?.map (·.key)),∃ t',Tr.In s.heap t' v∧t'.h≤8:=by
  intro v hv
  obtain ⟨i,hi,hv⟩:=List.mem_filterMap.mp hv
  obtain ⟨en,t',e1,_,_,e4,e5⟩:=hex i hi
  rw [e1] at hv
  cases hv
  exact ⟨t',e4,e5⟩
 have tell:∀ {Q:Bool→Shared→Prop},Q false s→wpAny (model prog w) A (tableMayTell u (ps.filterMap fun i=>es[i]?.map (·.key))) Q E s:=by
  intro Q q
  unfold tableMayTell
  split
  · exact wpAny_pure q
  · refine wpAny_bind (hk.quiet h8 ?_)
    simp only [Bool.false_eq_true,Bool.not_true,if_false]
    refine wpAny_bind (wpAny_forIn_list _ (fun rest r s'=>s'=s∧r=(none,())∧∀ v∈rest,∃ t',Tr.In s.heap t' v∧t'.h≤8) _ ?_ ?_ _ _ ⟨rfl,rfl,hst⟩)
    · rintro v rest r s' ⟨rfl,rfl,hr⟩
      obtain ⟨t',b1,b2⟩:=hr v List.mem_cons_self
      refine wpAny_bind (b1.quiet b2 ?_)
      simp only [Bool.false_eq_true,Bool.not_true,if_false]
      exact wpAny_pure ⟨rfl,rfl,fun z hz=>hr z (List.mem_cons_of_mem _ hz)⟩
    · rintro r s' ⟨rfl,rfl,_⟩
      exact wpAny_pure q
 unfold dictFind
 try (with_reducible refine wpAny_holding ?_)
 refine wpAny_bind (wpAny_dictEntries ho (hd) ?_)
 extract_lets places st hit0 jp3 jp2 jp1
 have hpl:places=ps:=hP
 have hS:ps.filterMap (fun i=>es[i]?.map (·.key))=st:=by rw [← hpl]
 rw [hS] at tell
 clear hst
 have h3:wpAny (model prog w) A (jp3 false) Q E s:=by
  dsimp only [jp3]
  rw [if_neg (by simp),hpl]
  refine wpAny_bind (wpAny_forIn_list _ (fun rest b s'=>s'=s∧rest.Nodup∧∃ hit:Option Nat,b=(none,hit)∧(∀ i∈rest,i∈ps) ∧
   ((hit=none∧∀ j:Nat,ts[j]?=some t→j∈rest)∨∃ j:Nat,hit=some j∧ts[j]?=some t∧j∉rest)) _ ?_ ?_ _ _ ⟨rfl,hnd,none,rfl,fun _ z=>z,.inl ⟨rfl,hin⟩⟩)
  · rintro i rest b s' ⟨rfl,hnd',hit,rfl,hr,hH⟩
    have hni:i∉rest:=(List.nodup_cons.mp hnd').1
    have hnr:rest.Nodup:=(List.nodup_cons.mp hnd').2
    have hr':∀ j∈rest,j∈ps:=fun j hj=>hr j (List.mem_cons_of_mem _ hj)
    obtain ⟨en,t',e1,e2,e3,e4,e5⟩:=hex i (hr i List.mem_cons_self)
    rw [e1]
    dsimp only
    rw [if_pos (by rw [e3]; exact beq_self_eq_true _)]
    refine wpAny_bind (wpAny_dictEpoch ho hd (wpAny_bind (eqa e4 e5 _ _ _ _ (wpAny_bind (wpAny_dictEpoch ho hd ?_)))))
    show wpAny _ A (if (ep != ep)=true then _ else _) _ E _
    rw [if_neg (by simp)]
    by_cases hkk:t'=t
    · subst hkk
      rw [decide_eq_true rfl]
      rcases hH with ⟨rfl,hj⟩ | ⟨j,rfl,hj,hjr⟩
      · rw [if_pos rfl]
        simp only [Bool.false_eq_true,Option.isSome_none,if_false]
        refine wpAny_bind ((wpAny_rule) ?_)
        split
        · exact wpAny_pure (wpAny_pure (hsome i e2))
        · exact wpAny_pure ⟨rfl,hnr,some i,rfl,hr',.inr ⟨i,rfl,e2,hni⟩⟩
      · exact absurd (x.one e2 hj ▸ List.mem_cons_self) hjr
    · rw [decide_eq_false hkk]
      rw [if_neg (by simp)]
      refine wpAny_bind ((wpAny_rule) ?_)
      rw [if_neg (by simp)]
      refine wpAny_pure ⟨rfl,hnr,hit,rfl,hr',?_⟩
      rcases hH with ⟨rfl,hj⟩ | ⟨j,rfl,hj,hjr⟩
      · refine .inl ⟨rfl,fun j h2=>?_⟩
        rcases List.mem_cons.mp (hj j h2) with rfl | h3
        · rw [e2] at h2
          exact absurd (Option.some.inj h2) hkk
        · exact h3
      · exact .inr ⟨j,rfl,hj,fun z=>hjr (List.mem_cons_of_mem _ z)⟩
  · rintro b s' ⟨rfl,_,hit,rfl,_,hH⟩
    rcases hH with ⟨rfl,hj⟩ | ⟨j,rfl,hj,_⟩
    · exact wpAny_pure (hnone fun j h2=>absurd (hj j h2) (by simp))
    · exact wpAny_pure (hsome j hj)
 clear_value jp3
 have h2:wpAny (model prog w) A (jp2 ()) Q E s:=by
  dsimp only [jp2]
  by_cases hone:(st == [u])=true
  · rw [if_pos hone]
    exact wpAny_bind (wpAny_pure h3)
  · rw [if_neg hone]
    exact wpAny_bind (tell h3)
 clear_value jp2
 have h1:wpAny (model prog w) A (jp1 ()) Q E s:=by
  dsimp only [jp1]
  by_cases hall:(u::st).all carriedByValue=true
  · rw [if_pos hall,hpl]
    exact plain
  rw [if_neg hall]
  split
  · rename_i a
    rw [if_neg (hany a rfl)]
    exact h2
  · exact h2
 clear_value jp1
 split
 · rename_i y tk
   by_cases hx:(es.all fun e=>isExactStrKey e.key)=true
   · rw [if_pos hx]
     have ht:t=.str y:=hk.inj (r:=.str y) ⟨tk,rfl⟩
     subst ht
     have hstr:∀ (j:Nat) (hj:j<es.size),es[j].key.isStr y=decide (ts[j]?=some (.str y)):=fun j hj=>by
      obtain ⟨t',f1,f2,f3,_⟩:=x.at_ j _ (Array.getElem?_eq_getElem hj)
      have hx':=Array.all_eq_true.mp hx j hj
      rw [f1]
      cases hq:es[j].key with
      | str z tz =>
        rw [hq] at f3
        obtain rfl:t'=.str z:=f3.inj (r:=.str z) ⟨tz,rfl⟩
        show (z == y)=_
        exact Bool.eq_iff_iff.mpr (by simp)
      | _=>rw [hq] at hx'; cases hx'
     unfold foundByValue
     cases hf:es.findIdx? (fun e=>e.key.isStr y) with
     | none =>
       refine wpAny_pure (hnone fun j hj=>?_)
       obtain ⟨en,g1,_⟩:=x.of hj
       obtain ⟨hl,_⟩:=Array.getElem?_eq_some_iff.mp g1
       have:=Array.findIdx?_eq_none_iff.mp hf es[j] (Array.getElem_mem hl)
       rw [hstr j hl,decide_eq_true hj] at this
       cases this
     | some i =>
       obtain ⟨hlt,hi,_⟩:=Array.findIdx?_eq_some_iff_getElem.mp hf
       rw [hstr i hlt] at hi
       have hi:=of_decide_eq_true hi
       obtain ⟨t',f1,f2,f3,f4⟩:=x.at_ i _ (Array.getElem?_eq_getElem hlt)
       rw [hi] at f1
       cases f1
       simp only [Array.getElem?_eq_getElem hlt]
       refine wpAny_bind (wpAny_dictEpoch ho hd (wpAny_bind (eqa f3 f4 _ _ _ _ (wpAny_bind (wpAny_dictEpoch ho hd ?_)))))
       show wpAny _ A (if (ep != ep)=true then _ else _) _ E _
       rw [if_neg (by simp),decide_eq_true rfl]
       exact wpAny_bind (wpAny_rule (wpAny_pure (hsome i hi)))
   · rw [if_neg hx]
     exact h1
 · exact h1
end
structure DtR (P:Params) (m:List (Tr×V×V)) (es:Array DictEntry):Prop where
 len:es.size=m.length
 at_:∀ (j:Nat) (x:Tr×V×V),m[j]?=some x→∃ e,es[j]?=some e∧e.hash=x.1.hash P∧RelV x.2.1 e.key∧RelV x.2.2 e.val
def DtP (P:Params) (a:Addr) (m:List (Tr×V×V)):Heap→Prop:=fun h=>m.length≤sizeLine∧(a == sysModules)=false∧∃ o es ep,h.get? a=some o∧o.ExactDict∧o.data=.dict es ep∧DtR P m es
abbrev DtO (P:Params) (a:Addr) (m:List (Tr×V×V)):HO:=.ext (DtP P a m)
theorem DtP.one {P:Params}{a:Addr}{m:List (Tr×V×V)}(h1 h2:Heap) (x:DtP P a m h1) (k:∀ o,h1.get? a=some o→h2.get? a=some o):DtP P a m h2:=by
 obtain ⟨z,y,o,es,ep,e,r⟩:=x
 exact ⟨z,y,o,es,ep,k _ e,r⟩
theorem ba6 {Pr:Program}{w:World}{H:Hp}{h:Heap}{P:Params}{a:Addr}{m:List (Tr×V×V)}(x:DtP P a m h):ObjOk Pr w H h a (DtO P a m):=by
 refine ⟨x,?_,DtP.one⟩
 obtain ⟨_,_,o,_,_,e,_⟩:=x
 exact ⟨o,e⟩
def DtE (P:Params) (H:Hp) (a:Addr) (m:List (Tr×V×V)):Prop:=∃ φ,H a=some (.ext φ)∧∀ h,φ h→DtP P a m h
theorem DtE.of {P:Params}{H:Hp}{a:Addr}{m:List (Tr×V×V)}(h:H a=some (DtO P a m)):DtE P H a m:=⟨_,h,fun _ x=>x⟩
theorem DtE.mut {P:Params}{H:Hp}{a:Addr}{m:List (Tr×V×V)}(h:DtE P H a m):Mut (H a):=by
 obtain ⟨φ,e,_⟩:=h
 rw [e]
 exact True.intro
def DtAt (P:Params) (H:Hp) (a:Addr) (kvs:List (Tr×V)):Prop:=∃ m:List (Tr×V×V),m.map (fun x=>(x.1,x.2.2))=kvs∧DtE P H a m∧(∀ x∈m,x.1.At H x.2.1 []∧x.1.h≤8)∧(m.map (·.1)).Nodup
noncomputable def putM (m:List (Tr×V×V)) (t:Tr) (y v:V):List (Tr×V×V):=if t∈m.map (·.1) then m.map (fun x=>if x.1=t then (x.1,x.2.1,v) else x) else m++[(t,y,v)]
theorem bj3 (m:List (Tr×V×V)) (t:Tr) (y v:V):(putM m t y v).map (fun x=>(x.1,x.2.2))=putK (m.map fun x=>(x.1,x.2.2)) t v:=by
 have hany:((m.map fun x=>(x.1,x.2.2)).any fun kv=>decide (kv.1=t))=decide (t∈m.map (·.1)):=by
  rw [Bool.eq_iff_iff,List.any_eq_true,decide_eq_true_iff,List.mem_map]
  constructor
  · rintro ⟨p,hp,e⟩
    obtain ⟨x,hx,rfl⟩:=List.mem_map.mp hp
    exact ⟨x,hx,of_decide_eq_true e⟩
  · rintro ⟨x,hx,e⟩
    exact ⟨_,List.mem_map_of_mem hx,decide_eq_true e⟩
 unfold putM putK
 rw [hany]
 by_cases h:t∈m.map (·.1)
 · rw [if_pos h,if_pos (decide_eq_true h),List.map_map,List.map_map]
   refine List.map_congr_left fun x _=>?_
   simp only [Function.comp]
   split <;> rfl
 · rw [if_neg h,if_neg (by rw [decide_eq_false h]; exact Bool.false_ne_true),List.map_append]
   rfl
theorem bw9 {m:List (Tr×V×V)}(t:Tr) (y v:V) (h:(m.map (·.1)).Nodup):((putM m t y v).map (·.1)).Nodup:=by
 unfold putM
 by_cases ht:t∈m.map (·.1)
 · rw [if_pos ht,List.map_map]
   rw [show m.map ((·.1)∘fun x=>if x.1=t then (x.1,x.2.1,v) else x)=m.map (·.1) from List.map_congr_left fun x _=>by simp only [Function.comp]; split <;> rfl]
   exact h
 · rw [if_neg ht,List.map_append]
   exact b85 h ht
theorem bj4 {m:List (Tr×V×V)}{t:Tr}{y v:V}{p:Tr→V→Prop}(h:∀ x∈m,p x.1 x.2.1) (hy:p t y):∀ x∈putM m t y v,p x.1 x.2.1:=by
 intro x hx
 unfold putM at hx
 by_cases ht:t∈m.map (·.1)
 · rw [if_pos ht] at hx
   obtain ⟨z,hz,rfl⟩:=List.mem_map.mp hx
   split <;> exact h z hz
 · rw [if_neg ht] at hx
   rcases List.mem_append.mp hx with hx | hx
   · exact h x hx
   · rw [List.mem_singleton.mp hx]; exact hy
theorem bj5 (m:List (Tr×V×V)) (t:Tr) (y v:V):(putM m t y v).length≤m.length+1:=by
 unfold putM
 split <;> simp
theorem ap7 {P:Params}{H H':Hp}{a:Addr}{kvs:List (Tr×V)}(x:DtAt P H a kvs) (s:Same H H'):DtAt P H' a kvs:=by
 obtain ⟨m,e1,⟨φ,e2,hφ⟩,e3,e4⟩:=x
 exact ⟨m,e1,⟨φ,s _ _ e2,hφ⟩,fun x hx=>⟨(e3 x hx).1.mono (s.keep _),(e3 x hx).2⟩,e4⟩
def TK (H:Hp) (t:Tr) (y:V):Prop:=t.At H y []∧t.h≤8
theorem bj6 {m:List (Tr×V×V)}(hn:(m.map (·.1)).Nodup) {j:Nat}{x:Tr×V×V}(e:m[j]?=some x):valV (m.map fun x=>(x.1,x.2.2)) x.1=some x.2.2:=by
 induction m generalizing j with
 | nil=>simp at e
 | cons z m ih =>
   rw [List.map_cons,List.nodup_cons] at hn
   cases j with
   | zero =>
     obtain rfl:z=x:=by simpa using e
     exact a46 rfl
   | succ j =>
     have e':m[j]?=some x:=by simpa using e
     rw [List.map_cons,a50 (fun q=>hn.1 (by
      show z.1∈_
      rw [show z.1=x.1 from q]
      exact List.mem_map_of_mem (List.mem_of_getElem? e')))]
     exact ih hn.2 e'
theorem au1 {m:List (Tr×V×V)}{t:Tr}(h:∀ j:Nat,(m.map (·.1))[j]?≠some t):valV (m.map fun x=>(x.1,x.2.2)) t=none∧t∉m.map (·.1):=by
 have hn:t∉m.map (·.1):=fun z=>by
  obtain ⟨j,hj,e⟩:=List.mem_iff_getElem.mp z
  exact h j (by rw [List.getElem?_eq_getElem hj,e])
 refine ⟨?_,hn⟩
 unfold valV
 rw [List.find?_eq_none.mpr]
 · rfl
 · intro p hp
   obtain ⟨x,hx,rfl⟩:=List.mem_map.mp hp
   simp only [decide_eq_true_iff]
   exact fun z=>hn (z ▸ List.mem_map_of_mem hx)
section
variable {X:Cx}{pins:List (Addr×Obj)}{σ:St} {H:Hp}{s:Shared}{a:Addr}{t:Tr}{y v:V}{u r:Value}{A:Around}{E:Value→Shared→Prop}{kvs:List (Tr×V)}{m:List (Tr×V×V)}
theorem ax0 (I:Inv X pins σ H s) (e2:DtE X.w.params H a m) (e3:∀ x∈m,x.1.At H x.2.1 []∧x.1.h≤8) (e4:(m.map (·.1)).Nodup) :
 ∃ o es ep,s.heap.get? a=some o∧o.ExactDict∧o.data=.dict es ep∧DtR X.w.params m es∧Ents X.w.params s.heap es (m.map (·.1))∧m.length≤sizeLine∧(a == sysModules)=false:=by
 obtain ⟨φ,e2,hφ⟩:=e2
 obtain ⟨z1,z2,o,es,ep,q1,q2,q3,q4⟩:=hφ _ (I.hok a _ e2).1
 refine ⟨o,es,ep,q1,q2,q3,q4,⟨by rw [q4.len,List.length_map],fun j e he=>?_,e4⟩,z1,z2⟩
 have hj:j<m.length:=by rw [← q4.len]; exact (Array.getElem?_eq_some_iff.mp he).1
 obtain ⟨e',f1,f2,f3,f4⟩:=q4.at_ j m[j] (List.getElem?_eq_getElem hj)
 rw [he] at f1
 cases f1
 have:=e3 m[j] (List.getElem_mem hj)
 exact ⟨m[j].1,by rw [List.getElem?_map,List.getElem?_eq_getElem hj]; rfl,f2,this.1.isIn I f3,this.2⟩
theorem bp8 {Q:Option Value→Shared→Prop}(hu:A.units+16<cLine) (I:Inv X pins σ H s) (g:DtAt X.w.params H a kvs) (hk:TK H t y) (ry:RelV y u) (h:∀ o s',Inv X pins σ H s'→RelO (valV kvs t) o→Q o s') :
 wpAny (model X.prog X.w) A (dictGet a u) Q E s:=by
 obtain ⟨m,rfl,e2,e3,e4⟩:=g
 obtain ⟨o,es,ep,q1,q2,q3,q4,q5,_⟩:=ax0 I e2 e3 e4
 have hin:=hk.1.isIn I ry
 unfold dictGet
 try (with_reducible refine wpAny_holding ?_)
 refine wpAny_bind (hin.pyHash (by have:=hk.2; omega) fun n=>wpAny_bind (ba5 (s:={ s with toks:=n }) q1 q3 q5 hin hk.2 hu (fun hn=>?_) fun j hj=>?_))
 · refine wpAny_pure (h _ _ (I.tok _) ?_)
   rw [(au1 hn).1]
   exact True.intro
 · rw [List.getElem?_map] at hj
   obtain ⟨x,hx,rfl⟩:=Option.map_eq_some_iff.mp hj
   obtain ⟨en,f1,f2,f3,f4⟩:=q4.at_ j x hx
   refine wpAny_bind (wpAny_dictEntries (s:={ s with toks:=n }) q1 q3 ?_)
   rw [f1]
   refine wpAny_pure (h _ _ (I.tok _) ?_)
   rw [bj6 e4 hx]
   exact f4
theorem bj7 {P:Params}{es:Array DictEntry}{e:DictEntry}(x:DtR P m es) (h1:e.hash=t.hash P) (h2:RelV y e.key) (h3:RelV v e.val):DtR P (m++[(t,y,v)]) (es.push e):=by
 refine ⟨by simp [x.len],fun j z hz=>?_⟩
 by_cases hj:j<m.length
 · rw [List.getElem?_append_left hj] at hz
   obtain ⟨e',f1,f2⟩:=x.at_ j z hz
   exact ⟨e',by rw [Array.getElem?_push,if_neg (by rw [x.len]; omega)]; exact f1,f2⟩
 · rw [List.getElem?_append_right (by omega)] at hz
   have hj2:j - m.length=0:=by
    refine Nat.eq_zero_of_not_pos fun z=>?_
    rw [List.getElem?_eq_none (by simp; omega)] at hz
    cases hz
   rw [hj2] at hz
   cases hz
   exact ⟨e,by rw [Array.getElem?_push,if_pos (by rw [x.len]; omega)],h1,h2,h3⟩
theorem bx0 {P:Params}{es:Array DictEntry}{j:Nat}{x:Tr×V×V}(R:DtR P m es) (hn:(m.map (·.1)).Nodup) (hx:m[j]?=some x) (h3:RelV v r) :
 DtR P (m.map fun z=>if z.1=x.1 then (z.1,z.2.1,v) else z) (es.modify j fun e=>{ e with val:=r }):=by
 refine ⟨by simp [R.len],fun i z hz=>?_⟩
 rw [List.getElem?_map] at hz
 obtain ⟨z0,hz0,rfl⟩:=Option.map_eq_some_iff.mp hz
 obtain ⟨e',f1,f2,f3,f4⟩:=R.at_ i z0 hz0
 have hi:i<es.size:=(Array.getElem?_eq_some_iff.mp f1).1
 rw [Array.getElem?_modify,f1]
 by_cases hij:j=i
 · subst hij
   rw [hz0] at hx
   cases hx
   rw [if_pos rfl,if_pos rfl]
   exact ⟨_,rfl,f2,f3,h3⟩
 · rw [if_neg hij,if_neg]
   · exact ⟨_,rfl,f2,f3,f4⟩
   · intro e
     have pw:=List.pairwise_iff_getElem.mp hn
     obtain ⟨l1,g1⟩:=List.getElem?_eq_some_iff.mp hx
     obtain ⟨l2,g2⟩:=List.getElem?_eq_some_iff.mp hz0
     rcases Nat.lt_trichotomy j i with h | h | h
     · exact pw j i (by simpa using l1) (by simpa using l2) h (by simp [g1,g2,e])
     · exact hij h
     · exact pw i j (by simpa using l2) (by simpa using l1) h (by simp [g1,g2,e])
theorem bp9 {Q:Unit→Shared→Prop}(hu:A.units+16<cLine) (I:Inv X pins σ H s) (e2:DtE X.w.params H a m) (e3:∀ x∈m,x.1.At H x.2.1 []∧x.1.h≤8) (e4:(m.map (·.1)).Nodup) (hz:m.length<sizeLine)
 (hk:TK H t y) (ry:RelV y u) (rv:RelV v r) (h:∀ s',Inv X pins σ (upd H a (DtO X.w.params a (putM m t y v))) s'→Q () s') :
 wpAny (model X.prog X.w) A (dictSet a u r) Q E s:=by
 obtain ⟨o,es,ep,q1,q2,q3,q4,q5,z1,z2⟩:=ax0 I e2 e3 e4
 have hin:=hk.1.isIn I ry
 have hl:(putM m t y v).length≤sizeLine:=by have:=bj5 m t y v; omega
 unfold dictSet
 try (with_reducible refine wpAny_holding ?_)
 refine wpAny_bind (hin.pyHash (by have:=hk.2; omega) fun n=>?_)
 unfold dictSetHashed
 try (with_reducible refine wpAny_holding ?_)
 refine wpAny_bind (ba5 (s:={ s with toks:=n }) q1 q3 q5 hin hk.2 hu (fun hn=>?_) fun j hj=>?_)
 · refine wpAny_bind (wpAny_rule (wpAny_updateDictKeys (s:={ s with toks:=n }) q1 q3 (h _ (ap1 (I.tok n) e2.mut (Heap.SameBut.update ..) ?_ (ba6 ⟨hl,z2,_,_,ep+1,Heap.get?_update_self _ q1 (Obj.isFreed_of_dict (Obj.data_mapDictKeys q3 _)),q2.mapDictKeys _,Obj.data_mapDictKeys q3 _,?_⟩))) (by rw [q4.len]; omega)))
   · exact ⟨_,Heap.get?_update_self _ q1 (Obj.isFreed_of_dict (Obj.data_mapDictKeys q3 _))⟩
   · unfold putM
     rw [if_neg (au1 hn).2]
     exact bj7 q4 rfl ry rv
 · rw [List.getElem?_map] at hj
   obtain ⟨x,hx,rfl⟩:=Option.map_eq_some_iff.mp hj
   refine wpAny_bind (wpAny_rule (wpAny_bind (wpAny_updateDict (s:={ s with toks:=n }) q1 q3 (wpAny_point (h _ (ap1 (I.tok n) e2.mut (Heap.SameBut.update ..) ?_ (ba6 ⟨hl,z2,_,_,ep,Heap.get?_update_self _ q1 (Obj.isFreed_of_dict (Obj.data_mapDict q3 _)),q2.mapDict _,Obj.data_mapDict q3 _,?_⟩)))))))
   · exact ⟨_,Heap.get?_update_self _ q1 (Obj.isFreed_of_dict (Obj.data_mapDict q3 _))⟩
   · unfold putM
     rw [if_pos (List.mem_map_of_mem (List.mem_of_getElem? hx))]
     exact bx0 q4 e4 hx rv
end
def RawD (h:Heap) (d:Addr) (es:Array DictEntry) (ep:Nat):Prop:=∃ o,h.get? d=some o∧o.ExactDict∧o.data=.dict es ep
theorem RawD.ty {s:Shared}{d:Addr}{es:Array DictEntry}{ep:Nat}(x:RawD s.heap d es ep):s.TypeIs (.ref d) "dict":=let ⟨o,e,c,_⟩:=x; ⟨o,e,c.1⟩
section
variable {prog:Program}{w:World}{A:Around}{E:Value→Shared→Prop}{s:Shared}{d it:Addr}{es:Array DictEntry}{ep i:Nat}
end
theorem ba7:∀ {xs:List V}{us:List Value},xs.length=us.length→(∀ (j:Nat) x u,xs[j]?=some x→us[j]?=some u→RelV x u)→Vals xs us
 | [],[],_,_=>.nil
 | x::xs,u::us,hl,h=>.cons (h 0 x u rfl rfl) (ba7 (by simpa using hl) fun j y z hy hz=>h (j+1) y z (by simpa using hy) (by simpa using hz))
 | [],_::_,hl,_=>by simp at hl
 | _::_,[],hl,_=>by simp at hl
section
variable {X:Cx}{pins:List (Addr×Obj)}{σ:St} {H:Hp}{s:Shared}{a:Addr}{t:Tr}{y v z:V}{u r:Value}{A:Around}{E:Value→Shared→Prop}{kvs:List (Tr×V)}{m:List (Tr×V×V)}
theorem b05 (I:Inv X pins σ H s) (g:DtAt X.w.params H a kvs):∃ es ep,RawD s.heap a es ep∧(a == sysModules)=false∧es.size=kvs.length∧kvs.length≤sizeLine:=by
 obtain ⟨m,rfl,e2,e3,e4⟩:=g
 obtain ⟨o,es,ep,q1,q2,q3,q4,q5,z1,z2⟩:=ax0 I e2 e3 e4
 exact ⟨es,ep,⟨o,q1,q2,q3⟩,z2,by rw [q4.len,List.length_map],by rw [List.length_map]; exact z1⟩
theorem b45 {Q:Value→Shared→Prop}(hu:A.units+20<cLine) (I:Inv X pins σ H s) (g:DtAt X.w.params H a kvs) (hk:TK H t y) (ry:RelV y u) (hv:valV kvs t=some v) (h:∀ w' s',Inv X pins σ H s'→RelV v w'→Q w' s') :
 wpAny (model X.prog X.w) A (getItem (.ref a) u) Q E s:=by
 obtain ⟨_,_,x,_,_,_⟩:=b05 I g
 have T:=x.ty
 unfold getItem
 try (with_reducible refine wpAny_holding ?_)
 refine wpAny_bind (wpAny_sequenceKey T (by decide) (wpAny_bind (wpAny_callSpecial?_slot (name:=Str.ofString "__getitem__") T slot_dict_getitem (wpAny_call_entry slot_dict_getitem T entry_dict_getitem ?_ (args_dict_getitem _ _)))))
 show wpAny _ A.in1 (dictGet a u >>= _) _ _ s
 refine wpAny_bind (bp8 (by rw [a47]; omega) I g hk ry fun o s' I' ro=>?_)
 rw [hv] at ro
 obtain ⟨w',rfl,rw'⟩:=ro.some_of
 exact wpAny_pure ⟨w',rfl,wpAny_pure (h w' s' I' rw')⟩
theorem aj3 {Q:Bool→Shared→Prop}(hu:A.units+20<cLine) (I:Inv X pins σ H s) (g:DtAt X.w.params H a kvs) (hk:TK H t y) (ry:RelV y u) (h:∀ s',Inv X pins σ H s'→Q (valV kvs t).isSome s') :
 wpAny (model X.prog X.w) A (contains (.ref a) u) Q E s:=by
 obtain ⟨_,_,x,lo,_,_⟩:=b05 I g
 have T:=x.ty
 unfold contains
 try (with_reducible refine wpAny_holding ?_)
 refine wpAny_bind (wpAny_specialOf T slot_dict_contains.lookup ?_)
 show wpAny _ A (if (some (Value.builtin "dict.__contains__") == some Value.none)=true then _ else _) _ E s
 rw [if_neg (by rw [beq_builtin_none]; simp)]
 refine wpAny_bind (wpAny_callSpecialUnlessNone?_slot (name:=Str.ofString "__contains__") T slot_dict_contains (wpAny_call_entry slot_dict_contains T entry_dict_contains ?_ (args_dict_contains _ _)))
 show wpAny _ A.in1 (dictGet a u >>= _) _ _ s
 refine wpAny_bind (bp8 (by rw [a47]; omega) I g hk ry fun o s' I' ro=>?_)
 have h:=h s' I'
 rw [ro.isSome_eq] at h
 cases o with
 | some w'=>exact (show wpAny _ _ (ret (.bool true)) _ _ _ from wpAny_pure ⟨_,rfl,wpAny_truthy_bool h⟩)
 | none=>exact (show wpAny _ _ (Builtin.Dict.pendingKey? a u >>= _) _ _ _ from wpAny_bind (wpAny_pendingKey_other lo (wpAny_pure ⟨_,rfl,wpAny_truthy_bool h⟩)))
theorem ck8 {Q:Value→Shared→Prop}(hu:A.units+20<cLine) (I:Inv X pins σ H s) (g:DtAt X.w.params H a kvs) (hk:TK H t y) (ry:RelV y u) (h:∀ s',Inv X pins σ H s'→Q (.bool (valV kvs t).isSome) s') :
 wpAny (model X.prog X.w) A (compareOp .In u (.ref a)) Q E s :=
 (show wpAny _ _ (do return .bool (← contains (.ref a) u)) Q E s from wpAny_bind (aj3 hu I g hk ry fun s' I'=>wpAny_pure (h s' I')))
theorem bj8 {Q:Value→Shared→Prop}(hu:A.units+20<cLine) (I:Inv X pins σ H s) (g:DtAt X.w.params H a kvs) (hk:TK H t y) (ry:RelV y u) (h:∀ s',Inv X pins σ H s'→Q (.bool (!(valV kvs t).isSome)) s') :
 wpAny (model X.prog X.w) A (compareOp .NotIn u (.ref a)) Q E s :=
 (show wpAny _ _ (do return .bool (!(← contains (.ref a) u))) Q E s from wpAny_bind (aj3 hu I g hk ry fun s' I'=>wpAny_pure (h s' I')))
theorem b46 {Q:Unit→Shared→Prop}(hu:A.units+20<cLine) (I:Inv X pins σ H s) (e2:DtE X.w.params H a m) (e3:∀ x∈m,x.1.At H x.2.1 []∧x.1.h≤8) (e4:(m.map (·.1)).Nodup) (hz:m.length<sizeLine)
 (hk:TK H t y) (ry:RelV y u) (rv:RelV v r) (h:∀ s',Inv X pins σ (upd H a (DtO X.w.params a (putM m t y v))) s'→Q () s'):wpAny (model X.prog X.w) A (setItem (.ref a) u r) Q E s:=by
 obtain ⟨_,_,x,lo,_,_⟩:=b05 I ⟨m,rfl,e2,e3,e4⟩
 have T:=x.ty
 unfold setItem
 try (with_reducible refine wpAny_holding ?_)
 refine wpAny_bind (wpAny_sequenceKey T (by decide) (wpAny_bind (wpAny_callSpecial?_slot (name:=Str.ofString "__setitem__") T slot_dict_setitem (wpAny_call_entry slot_dict_setitem T entry_dict_setitem ?_ (args_dict_setitem _ _ _)))))
 show wpAny _ A.in1 (Builtin.Dict.notOrdered "__setitem__" ⟨[.ref a,u,r],[]⟩ >>= _) _ _ s
 refine wpAny_bind (wpAny_notOrdered_dict T ?_)
 show wpAny _ A.in1 (dictSet a u r >>= _) _ _ s
 exact wpAny_bind (bp9 (by rw [a47]; omega) I e2 e3 e4 hz hk ry rv fun s' I'=>wpAny_pure ⟨.none,rfl,wpAny_pure (h s' I')⟩)
end
theorem aj4 {H:Hp}{a:Addr}{φ:Heap→Prop} {o:HO}(h:H a=some (.ext φ)):Tups H (upd H a o):=fun b ys e=>by rw [a14 (b56 e h (fun z=>nomatch z))]; exact e
theorem ap8 {H H':Hp}{t:Tr}{v:V}(h:t.At H v []) (k:Tups H H'):t.At H' v []:=h.mono ⟨k,fun _ m=>absurd m (by simp)⟩
theorem a51 {H H':Hp}{ts:List Tr}{vs:List V}(h:Tr.Ats H ts vs []) (k:Tups H H'):Tr.Ats H' ts vs []:=h.mono ⟨k,fun _ m=>absurd m (by simp)⟩
theorem DtAt.ext {P:Params}{H:Hp}{a:Addr}{kvs:List (Tr×V)}(g:DtAt P H a kvs):∃ φ,H a=some (.ext φ):=let ⟨_,_,⟨φ,e,_⟩,_⟩:=g; ⟨φ,e⟩
theorem DtAt.mono {P:Params}{H H':Hp}{a:Addr}{kvs:List (Tr×V)}(g:DtAt P H a kvs) (k:Tups H H') (e:H' a=H a):DtAt P H' a kvs:=by
 obtain ⟨m,e1,⟨φ,e2,hφ⟩,e3,e4⟩:=g
 exact ⟨m,e1,⟨φ,e.trans e2,hφ⟩,fun x hx=>⟨ap8 (e3 x hx).1 k,(e3 x hx).2⟩,e4⟩
theorem ba8 {P:Params}{H:Hp}{a:Addr}{m:List (Tr×V×V)}{t:Tr}{y v:V}(e2:DtE P H a m) (e3:∀ x∈m,x.1.At H x.2.1 []∧x.1.h≤8) (e4:(m.map (·.1)).Nodup) (hk:TK H t y) :
 DtAt P (upd H a (DtO P a (putM m t y v))) a (putK (m.map fun x=>(x.1,x.2.2)) t v):=by
 obtain ⟨φ,e2,hφ⟩:=e2
 refine ⟨_,bj3 m t y v,.of a18,?_,bw9 t y v e4⟩
 exact bj4 (p:=fun t y=>t.At (upd H a (DtO P a (putM m _ _ _))) y []∧t.h≤8) (fun x hx=>⟨ap8 (e3 x hx).1 (aj4 e2),(e3 x hx).2⟩) ⟨ap8 hk.1 (aj4 e2),hk.2⟩
def cc3 (P:Params) (td ty:TE):TE:=fun σ H Q=>td σ H fun x H1=>ty σ H1 fun y H2=>∃ a kvs t v,x=.ref a∧DtAt P H2 a kvs∧TK H2 t y∧valV kvs t=some v∧Q v H2
def tTIn (P:Params) (ty td:TE):TE:=fun σ H Q=>ty σ H fun y H1=>td σ H1 fun x H2=>∃ a kvs t,x=.ref a∧DtAt P H2 a kvs∧TK H2 t y∧Q (.bl (valV kvs t).isSome) H2
def ba9 (P:Params) (ty td:TE):TE:=fun σ H Q=>ty σ H fun y H1=>td σ H1 fun x H2=>∃ a kvs t,x=.ref a∧DtAt P H2 a kvs∧TK H2 t y∧Q (.bl (!(valV kvs t).isSome)) H2
def cc4 (P:Params) (td ty tv:TE):TS:=fun D σ H=>tv σ H fun v H1=>td σ H1 fun x H2=>ty σ H2 fun y H3=>∃ a kvs t,x=.ref a∧DtAt P H3 a kvs∧TK H3 t y∧kvs.length<sizeLine∧∀ o,DtAt P (upd H3 a o) a (putK kvs t v)→D.nx σ (upd H3 a o)
section
variable {X:Cx}{o i e f value:Expr}{pos pos' apos cpos:Pos}{td ty tv tx:TE}{P:Params}
theorem bx3 (h:Heap) (P:Params) (hb:sysModules<h.objs.size):DtP P h.objs.size [] (h.push { cls:=.type "dict",data:=.dict #[] }) :=
 ⟨Nat.zero_le _,beq_eq_false_iff_ne.mpr (Ne.symm (Nat.ne_of_lt hb)),_,#[],0,Heap.get?_push_size _ rfl,⟨rfl,rfl,rfl⟩,rfl,rfl,fun j x hx=>by simp at hx⟩
theorem bx4 (hP:X.w.params=P) (hu:X.A.units+64<cLine) (ho:PE X o td) (hi:PE X i ty) (hs:NoSl i):PE X (.Subscript o i pos) (cc3 P td ty):=by
 subst hP
 intro pins s σ H Q I h
 refine bu2 PySem.F.slot_dict_getitem.lookup hs (thn (ho pins s σ H _ I h) ?_)
 rintro u s1 ⟨x,H1,I1,rx,q1⟩
 refine thn (hi pins s1 σ H1 _ I1 q1) ?_
 rintro iv s2 ⟨y,H2,I2,ry,a,kvs,t,v,ex,g,hk,hv,q2⟩
 subst ex
 obtain rfl:u=Value.ref a:=rx
 obtain ⟨_,_,x,_⟩:=b05 I2 g
 exact ⟨x.ty,b45 (by omega) I2 g hk ry hv fun w' s3 I3 rw'=>⟨v,H2,I3,rw',q2⟩⟩
theorem cc5 (hP:X.w.params=P) (hu:X.A.units+64<cLine) (hi:PE X i ty) (ho:PE X o td):PC X .In i o (tTIn P ty td):=by
 subst hP
 intro pins s σ H Q I h
 refine thn (hi pins s σ H _ I h) ?_
 rintro iv s1 ⟨y,H1,I1,ry,q1⟩
 refine thn (ho pins s1 σ H1 _ I1 q1) ?_
 rintro u s2 ⟨x,H2,I2,rx,a,kvs,t,ex,g,hk,q2⟩
 subst ex
 obtain rfl:u=Value.ref a:=rx
 exact ck8 (by omega) I2 g hk ry fun s3 I3=>⟨.bl _,H2,I3,rfl,q2⟩
theorem bb0 (hP:X.w.params=P) (hu:X.A.units+64<cLine) (hi:PE X i ty) (ho:PE X o td):PC X .NotIn i o (ba9 P ty td):=by
 subst hP
 intro pins s σ H Q I h
 refine thn (hi pins s σ H _ I h) ?_
 rintro iv s1 ⟨y,H1,I1,ry,q1⟩
 refine thn (ho pins s1 σ H1 _ I1 q1) ?_
 rintro u s2 ⟨x,H2,I2,rx,a,kvs,t,ex,g,hk,q2⟩
 subst ex
 obtain rfl:u=Value.ref a:=rx
 exact bj8 (by omega) I2 g hk ry fun s3 I3=>⟨.bl _,H2,I3,rfl,q2⟩
theorem bb1 (hP:X.w.params=P) (hu:X.A.units+64<cLine) (ho:PE X o td) (hi:PE X i ty) (hv:PE X value tv) (hs:swapsWith value (some (.Subscript o i pos')) pos.line X.env=pure false) :
 PS X (.Assign [.Subscript o i pos'] value pos) (cc4 P td ty tv):=by
 subst hP
 intro pins s σ H D I h
 refine wpAny_Assign_Subscript (thn (hv pins s σ H _ I h) ?_) hs
 rintro r s1 ⟨v,H1,I1,rv,q1⟩
 refine thn (ho pins s1 σ H1 _ I1 q1) ?_
 rintro u s2 ⟨x,H2,I2,rx,q2⟩
 refine thn (hi pins s2 σ H2 _ I2 q2) ?_
 rintro iv s3 ⟨y,H3,I3,ry,a,kvs,t,ex,g,hk,hz,q3⟩
 subst ex
 obtain rfl:u=Value.ref a:=rx
 obtain ⟨m,rfl,e2,e3,e4⟩:=g
 rw [List.length_map] at hz
 exact b46 (by omega) I3 e2 e3 e4 hz hk ry rv fun s4 I4=>⟨σ,_,I4,q3 _ (ba8 e2 e3 e4 hk)⟩
end
def bb2 (K:PySem.W.Frag):R2:=fun x y H Q=>∃ (t:Tr) (ts:List Tr) (a:Addr) (vs:List V),t.At H x []∧y=.ref a∧SqL K H a vs∧Tr.Ats H ts vs []∧t.h≤20∧Tr.hs ts≤20∧Q (.bl (!decide (t∈ts))) H
section
variable {X:Cx}
theorem bq0 {ts:List Tr}{t:Tr}(h:t∈ts):t.h≤Tr.hs ts:=by
 induction ts with
 | nil=>cases h
 | cons x xs ih =>
   simp only [Tr.hs]
   rcases List.mem_cons.mp h with rfl | h
   · omega
   · have:=ih h; omega
theorem ap9 {h:Heap}{ts:List Tr}{us:List Value}(x:Tr.Ins h ts us) {z:Value}(hz:z∈us):∃ t∈ts,Tr.In h t z:=by
 obtain ⟨j,hj,rfl⟩:=List.mem_iff_getElem.mp hz
 have hj':j<ts.length:=by rw [← x.len]; exact hj
 exact ⟨ts[j],List.getElem_mem hj',x.get j hj hj'⟩
theorem Tr.In.rcAt {s:Shared}{t r:Tr}{A:Around}{u z:Value}(h1:Tr.In s.heap t u) (h2:Tr.In s.heap r z) (hu:A.units+t.h+r.h+2<cLine):SeqAt.RcAt A s u z (decide (t=r)):=by
 cases t with
 | lst _=>exact h1.elim
 | non =>
   simp only [Tr.In] at h1
   subst h1
   cases r with
   | lst _=>exact h2.elim
   | non=>simp only [Tr.In] at h2; subst h2; rw [decide_eq_true rfl]; exact SeqAt.RcAt.none_none
   | int j =>
     rw [decide_eq_false (by simp)]
     rcases h2 with ⟨t2,rfl⟩ | ⟨b2,rfl,rfl⟩
     · exact SeqAt.RcAt.none_int _ _
     · exact SeqAt.RcAt.none_bool _
   | str j=>obtain ⟨t2,rfl⟩:=h2; rw [decide_eq_false (by simp)]; exact SeqAt.RcAt.none_str _ _
   | tup rs=>simp only [Tr.In] at h2; obtain ⟨b,vs,rfl,p,_⟩:=h2; rw [decide_eq_false (by simp)]; exact SeqAt.RcAt.none_tuple p (by omega)
 | int i =>
   cases r with
   | lst _=>exact h2.elim
   | non =>
     simp only [Tr.In] at h2
     subst h2
     rw [decide_eq_false (by simp)]
     rcases h1 with ⟨t1,rfl⟩ | ⟨b1,rfl,rfl⟩
     · exact SeqAt.RcAt.int_none _ _
     · exact SeqAt.RcAt.bool_none _
   | int j =>
     rw [show decide (Tr.int i=Tr.int j)=(i == j) from Bool.eq_iff_iff.mpr (by simp)]
     rcases h1 with ⟨t1,rfl⟩ | ⟨b1,rfl,rfl⟩
     · rcases h2 with ⟨t2,rfl⟩ | ⟨b2,rfl,rfl⟩
       · exact SeqAt.RcAt.int_int _ _ _ _
       · exact SeqAt.RcAt.int_bool _ _ _
     · rcases h2 with ⟨t2,rfl⟩ | ⟨b2,rfl,rfl⟩
       · exact SeqAt.RcAt.bool_int _ _ _
       · have:=SeqAt.RcAt.bool_bool (A:=A) (s:=s) b1 b2
         cases b1 <;> cases b2 <;> exact this
   | str j =>
     obtain ⟨t2,rfl⟩:=h2
     rw [decide_eq_false (by simp)]
     rcases h1 with ⟨t1,rfl⟩ | ⟨b1,rfl,rfl⟩
     · exact SeqAt.RcAt.int_str _ _ _ _
     · exact SeqAt.RcAt.bool_str _ _ _
   | tup rs =>
     simp only [Tr.In] at h2
     obtain ⟨b,vs,rfl,p,_⟩:=h2
     rw [decide_eq_false (by simp)]
     rcases h1 with ⟨t1,rfl⟩ | ⟨b1,rfl,rfl⟩
     · exact SeqAt.RcAt.int_tuple _ _ p (by omega)
     · exact SeqAt.RcAt.bool_tuple _ p (by omega)
 | str i =>
   obtain ⟨t1,rfl⟩:=h1
   cases r with
   | lst _=>exact h2.elim
   | non=>simp only [Tr.In] at h2; subst h2; rw [decide_eq_false (by simp)]; exact SeqAt.RcAt.str_none _ _
   | int j =>
     rw [decide_eq_false (by simp)]
     rcases h2 with ⟨t2,rfl⟩ | ⟨b2,rfl,rfl⟩
     · exact SeqAt.RcAt.str_int _ _ _ _
     · exact SeqAt.RcAt.str_bool _ _ _
   | str j =>
     obtain ⟨t2,rfl⟩:=h2
     have:=SeqAt.RcAt.str_str (A:=A) (s:=s) i t1 j t2
     rw [show (i == j)=decide (Tr.str i=Tr.str j) from Bool.eq_iff_iff.mpr (by simp)] at this
     exact this
   | tup rs=>simp only [Tr.In] at h2; obtain ⟨b,vs,rfl,p,_⟩:=h2; rw [decide_eq_false (by simp)]; exact SeqAt.RcAt.str_tuple _ _ p (by omega)
 | tup ts =>
   simp only [Tr.In] at h1
   obtain ⟨a,us,rfl,p1,c1⟩:=h1
   cases r with
   | lst _=>exact h2.elim
   | non=>simp only [Tr.In] at h2; subst h2; rw [decide_eq_false (by simp)]; exact SeqAt.RcAt.tuple_none p1 (by omega)
   | int j =>
     rw [decide_eq_false (by simp)]
     rcases h2 with ⟨t2,rfl⟩ | ⟨b2,rfl,rfl⟩
     · exact SeqAt.RcAt.tuple_int _ _ p1 (by omega)
     · exact SeqAt.RcAt.tuple_bool _ p1 (by omega)
   | str j=>obtain ⟨t2,rfl⟩:=h2; rw [decide_eq_false (by simp)]; exact SeqAt.RcAt.tuple_str _ _ p1 (by omega)
   | tup rs =>
     simp only [Tr.In] at h2
     obtain ⟨b,vs,rfl,p2,c2⟩:=h2
     simp only [Tr.h] at hu
     have l1:=c1.len
     have l2:=c2.len
     simp only [Array.length_toList] at l1 l2
     have:=SeqAt.RcAt.tuples (A:=A) (s:=s) (e:=fun j=>decide (ts.getD j .non=rs.getD j .non)) p1 p2 (by omega) (fun j h1 h2=>by
      have:=Tr.Ins.eqAts (A:=A.in1) c1 c2 (by rw [a47]; omega) j (by simpa using h1) (by simpa using h2)
      simpa using this)
     rw [l1,l2,ba3] at this
     rw [show decide (Tr.tup ts=Tr.tup rs)=decide (ts=rs) from Bool.eq_iff_iff.mpr (by simp)]
     exact this
theorem an5 (K:PySem.W.Frag) (hu:X.A.units+64<cLine) (hK:X.K=K:=by rfl):OpR X (compareOp .NotIn) (bb2 K):=by
 classical
 subst hK
 intro pins s σ H x y v u Q I rx ry h
 obtain ⟨t,ts,a,vs,h1,rfl,h2,h3,l1,l2,q⟩:=h
 cases ry
 obtain ⟨its,v1,p1,_⟩:=I.list h2
 have hin:=h1.isIn I rx
 have his:=h3.isIns I v1
 refine SeqAt.notIn_listAt (fun z=>decide (∃ r,Tr.In s.heap r z∧r=t)) p1.isList (fun z hz=>?_) ?_
 · obtain ⟨r,hr,hz'⟩:=ap9 his (by simpa using hz)
   have:=hz'.eqAt hin (A:=X.A.in1) (by have:=bq0 hr; rw [a47]; omega)
   rw [show decide (∃ q,Tr.In s.heap q z∧q=t)=decide (r=t) from Bool.eq_iff_iff.mpr (by
    simp only [decide_eq_true_iff]
    exact ⟨(by rintro ⟨q,a,b⟩; exact (hz'.inj a).trans b),fun e=>⟨r,hz',e⟩⟩)]
   exact this
 · refine ⟨.bl (!decide (t∈ts)),H,I,?_,q⟩
   rw [show its.toArray.any (fun z=>decide (∃ r,Tr.In s.heap r z∧r=t))=decide (t∈ts) from ?_]
   · rfl
   rw [← Array.any_toList,Bool.eq_iff_iff,List.any_eq_true,decide_eq_true_iff]
   constructor
   · rintro ⟨z,hz,e⟩
     obtain ⟨r,hr,rfl⟩:=of_decide_eq_true e
     obtain ⟨r',hm,hr'⟩:=ap9 his (by simpa using hz)
     exact hr'.inj hr ▸ hm
   · intro hm
     obtain ⟨j,hj,rfl⟩:=List.mem_iff_getElem.mp hm
     have hj':j<its.length:=by rw [his.len]; exact hj
     exact ⟨its[j],by simp,decide_eq_true ⟨_,his.get j hj' hj,rfl⟩⟩
end
section
variable {P:Params}{σ:St} {H:Hp}{Q:VK}{td ty tx tv:TE}{nn bb cc:St→Hp→Prop}{rr:VK}
theorem cc6 (h:td σ H fun x H1=>ty σ H1 fun y H2=>∃ a kvs t v,x=.ref a∧DtAt P H2 a kvs∧TK H2 t y∧valV kvs t=some v∧Q v H2):cc3 P td ty σ H Q:=h
theorem ck9 (h:ty σ H fun y H1=>td σ H1 fun x H2=>∃ a kvs t,x=.ref a∧DtAt P H2 a kvs∧TK H2 t y∧Q (.bl (valV kvs t).isSome) H2):tTIn P ty td σ H Q:=h
theorem bj9 (h:ty σ H fun y H1=>td σ H1 fun x H2=>∃ a kvs t,x=.ref a∧DtAt P H2 a kvs∧TK H2 t y∧Q (.bl (!(valV kvs t).isSome)) H2):ba9 P ty td σ H Q:=h
theorem cc7 (h:tv σ H fun v H1=>td σ H1 fun x H2=>ty σ H2 fun y H3=>∃ a kvs t,x=.ref a∧DtAt P H3 a kvs∧TK H3 t y∧kvs.length<sizeLine∧∀ o,DtAt P (upd H3 a o) a (putK kvs t v)→nn σ (upd H3 a o)):cc4 P td ty tv ⟨nn,rr,bb,cc⟩ σ H:=h
end
def bq1 (K:PySem.W.Frag):R2:=fun x y H Q=>∃ a b xs,x=.ref a∧y=.ref b∧SqL K H a xs∧SqL K H b []∧Q (.bl (!xs.isEmpty)) H
section
variable {X:Cx}
theorem bb3 (K:PySem.W.Frag) (hu:X.A.units+64<cLine) (hK:X.K=K:=by rfl):OpR X (compareOp .NotEq) (bq1 K):=by
 subst hK
 intro pins s σ H x y v u Q I rx ry h
 obtain ⟨a,b,xs,rfl,rfl,h1,h2,q⟩:=h
 cases rx
 cases ry
 obtain ⟨is1,q1,p1,_⟩:=I.list h1
 obtain ⟨is2,q2,p2,_⟩:=I.list h2
 cases q2
 cases q1 with
 | nil =>
   have:=SeqAt.RcNeAt.lists (A:=X.A) (s:=s) (e:=fun _=>true) p1.isList p2.isList rfl (by omega) (fun j h1 _=>absurd h1 (by simp))
   exact this X.prog X.w X.xe (EP X pins σ Q) ⟨.bl false,H,I,rfl,q⟩
 | cons r1 r2 =>
   have:=SeqAt.RcNeAt.lists_lengths (A:=X.A) (s:=s) p1.isList p2.isList (by simp) (by omega)
   exact this X.prog X.w X.xe (EP X pins σ Q) ⟨.bl true,H,I,rfl,q⟩
end
section
variable {K:PySem.W.Frag}{H:Hp}{Q:VK}
theorem bx5 {a b:Addr}{xs:List V}(h1:SqL K H a xs) (h2:SqL K H b []) (h:Q (.bl (!xs.isEmpty)) H):bq1 K (.ref a) (.ref b) H Q:=⟨a,b,xs,rfl,rfl,h1,h2,h⟩
theorem b06 {x:V}{a:Addr}{t:Tr}{ts:List Tr}{vs:List V}(h1:t.At H x []) (h2:SqL K H a vs) (h3:Tr.Ats H ts vs []) (l1:t.h≤20) (l2:Tr.hs ts≤20) (h:Q (.bl (!decide (t∈ts))) H):bb2 K x (.ref a) H Q:=⟨t,ts,a,vs,h1,rfl,h2,h3,l1,l2,h⟩
end
section
variable {X:Cx}{o e value:Expr}{f:Str}{pos pos':Pos}{ta tv:TE}
theorem ac6 (K:PySem.W.Frag) (he:PE X e ta) (hb:attributeBase e f X.env (eval e X.env)=eval e X.env) (hK:X.K=K:=by rfl):PE X (.Attribute e f pos) (tFld K ta f):=hK ▸ c51 he hb
theorem ax1 (K:PySem.W.Frag) (ha:PE X o ta) (hv:PE X value tv) (hs:swapsWith value (some (.Attribute o f pos')) pos.line X.env=pure false) (hK:X.K=K:=by rfl):PS X (.Assign [.Attribute o f pos'] value pos) (sFld K ta tv f):=hK ▸ c52 ha hv hs
end
section
variable {K:PySem.W.Frag}{σ:St} {H:Hp}{Q:VK}{ta tv:TE}{t:TA}{f m:Str}{C:Addr}{sp:Sp}{dvs:List V}{E:XK}{nn bb cc:St→Hp→Prop}{rr:VK}
theorem cl0 (h:ta σ H fun x H1=>∃ a C dx fs v,x=.ref a∧H1 a=some (.ins C dx fs)∧Cls K C∧NoAttr K C f∧fs.lookup f=some v∧Q v H1):tFld K ta f σ H Q:=h
theorem cc8 (h:tv σ H fun y H1=>ta σ H1 fun x H2=>∃ a C dx fs,x=.ref a∧H2 a=some (.ins C dx fs)∧Cls K C∧NoAttr K C f∧fs.length<1000∧nn σ (upd H2 a (.ins C dx (putF f y fs)))):sFld K ta tv f ⟨nn,rr,bb,cc⟩ σ H:=h
theorem cc9 (h:ta σ H fun x H1=>∃ a dx fs,x=.ref a∧H1 a=some (.ins C dx fs)∧fs.lookup m=none∧t σ H1 fun vs H2=>sp (x::(vs++dvs)) H2 Q E):bt4 C m sp dvs E ta t σ H Q:=h
theorem cd0 (h:t σ H fun vs H1=>∀ x dx,H1 x=none→H1 dx=none→dx≠x→sp (.ref x::(vs++dvs)) (upd (upd H1 dx (.own x)) x (.ins C dx [])) (fun v H2=>v=.non∧Q (.ref x) H2) E):c54 C sp dvs E t σ H Q:=h
end
section
variable {X:Cx}{pins:List (Addr×Obj)}{σ:St} {H:Hp}{s:Shared}
end
def rInF (K:PySem.W.Frag):R2:=fun x y H Q=>∃ (t:Tr) (ts:List Tr) (a:Addr) (vs:List V),t.At H x []∧y=.ref a∧SqL K H a vs∧Tr.Ats H ts vs []∧t.h≤20∧Tr.hs ts≤20∧Q (.bl (decide (t∈ts))) H
def bx6:List V→Hp→VK→Prop:=fun xs H Q=>∃ n:Nat,xs=[.int (n:Nat)]∧n≤1000000∧New H (.rng 0 (n:Nat)) Q
def bq2:List V→Hp→VK→Prop:=fun xs H Q=>∃ (a:Addr) (n:Nat),xs=[.ref a]∧H a=some (.rng 0 (n:Nat))∧n≤1000000∧New H (.lst (a48 (List.range n))) Q
section
variable {X:Cx}
theorem bx7 (K:PySem.W.Frag) (hu:X.A.units+64<cLine) (hK:X.K=K:=by rfl):OpR X (compareOp .In) (rInF K):=by
 classical
 subst hK
 intro pins s σ H x y v u Q I rx ry h
 obtain ⟨t,ts,a,vs,h1,rfl,h2,h3,l1,l2,q⟩:=h
 cases ry
 obtain ⟨its,v1,p1,_⟩:=I.list h2
 have hin:=h1.isIn I rx
 have his:=h3.isIns I v1
 refine SeqAt.in_listAt (fun z=>decide (∃ r,Tr.In s.heap r z∧r=t)) p1.isList (fun z hz=>?_) ?_
 · obtain ⟨r,hr,hz'⟩:=ap9 his (by simpa using hz)
   have:=hz'.eqAt hin (A:=X.A.in1) (by have:=bq0 hr; rw [a47]; omega)
   rw [show decide (∃ q,Tr.In s.heap q z∧q=t)=decide (r=t) from Bool.eq_iff_iff.mpr (by
    simp only [decide_eq_true_iff]
    exact ⟨(by rintro ⟨q,a,b⟩; exact (hz'.inj a).trans b),fun e=>⟨r,hz',e⟩⟩)]
   exact this
 · refine ⟨.bl (decide (t∈ts)),H,I,?_,q⟩
   rw [show its.toArray.any (fun z=>decide (∃ r,Tr.In s.heap r z∧r=t))=decide (t∈ts) from ?_]
   · rfl
   rw [← Array.any_toList,Bool.eq_iff_iff,List.any_eq_true,decide_eq_true_iff]
   constructor
   · rintro ⟨z,hz,e⟩
     obtain ⟨r,hr,rfl⟩:=of_decide_eq_true e
     obtain ⟨r',hm,hr'⟩:=ap9 his (by simpa using hz)
     exact hr'.inj hr ▸ hm
   · intro hm
     obtain ⟨j,hj,rfl⟩:=List.mem_iff_getElem.mp hm
     have hj':j<its.length:=by rw [his.len]; exact hj
     exact ⟨its[j],by simp,decide_eq_true ⟨_,his.get j hj' hj,rfl⟩⟩
theorem bb4:CallR X (.type "range") bx6:=by
 intro pins s σ H xs us Q I r h
 obtain ⟨n,rfl,hn,q⟩:=h
 cases r with
 | cons r1 r2 =>
 cases r2
 obtain ⟨t,rfl⟩:=r1
 refine call_range_1 ⟨.ref s.heap.objs.size,upd H s.heap.objs.size (.rng 0 (n:Nat)),I.laid (fun b o e=>Heap.get?_push_of_some _ e) (Nat.le_refl _) ⟨_,_,_,Heap.get?_push_size _ rfl⟩,rfl,New.to q _ I.fresh⟩
theorem bk0 (hc:X.calm=true):CallR X (.type "list") bq2:=by
 intro pins s σ H xs us Q I r h
 obtain ⟨a,n,rfl,e,hn,q⟩:=h
 cases r with
 | cons r1 r2 =>
 cases r2
 cases r1
 obtain ⟨t,u,v,hg⟩:=I.hok a _ e
 refine call_list_range (n:=n) (I.ok.hd hc) hg (small_one (by omega) (by omega) (by omega) (by omega)) (by rw [rangeSize_one]; split <;> omega) (by omega) fun h' tk acc c hk hS hacc=>⟨.ref s.heap.objs.size,_,I.laid (a:=s.heap.objs.size) (t':=tk) hk (Nat.le_refl _) ?_,rfl,New.to q _ I.fresh⟩
 refine ⟨le_line (by simp [a48]; omega),acc.toList,c,?_,by simpa using hS⟩
 refine ba7 (by simp [a48,hacc.1]) fun j x1 x2 hx1 hx2=>?_
 have hj:j<n:=by
  have:=(List.getElem?_eq_some_iff.mp hx1).1
  simpa [a48] using this
 obtain ⟨t2,rfl⟩:=hacc.2 j x2 (by rw [← Array.getElem?_toList]; exact hx2)
 have:x1=.int (j:Nat):=by simpa [a48,hj] using hx1.symm
 subst this
 exact ⟨t2,by simp⟩
end
theorem bk1 {K:PySem.W.Frag}{a:Addr}{xs:List V}{g:TG}{tb:TS}{D:Ends}{σ:St} {H:Hp}(Pv:Nat→St→Hp→Prop) (h0:Pv 0 σ H) (hl:∀ i σ H,i≤xs.length→Pv i σ H→SqL K H a xs)
 (hs:∀ i x σ H q H2,xs[i]?=some x→Pv i σ H→Same H H2→H2 q=some (.tup [.int (i:Nat),x])→g (.ref q) σ H2 fun σ1 H1=>tb { D with nx:=Pv (i+1),ct:=Pv (i+1),bk:=D.nx } σ1 H1)
 (hd:∀ σ H,Pv xs.length σ H→D.nx σ H):bp1 (Ite K a) g tb D σ H:=by
 refine ⟨fun i m σ H=>m=xs.length - i∧i≤xs.length∧Pv i σ H,⟨xs.length,by simp,Nat.zero_le _,h0⟩,?_⟩
 rintro i m σ' H' ⟨rfl,hi,p⟩
 have hq:=hl i σ' H' hi p
 by_cases hlt:i<xs.length
 · refine .inr ⟨⟨xs,xs[i],hq,by simp [hlt]⟩,Pv (i+1),fun σ2 H2 p'=>⟨xs.length - (i+1),by omega,rfl,hlt,p'⟩,fun v H2 y=>?_⟩
   obtain ⟨q,x,rfl,hn,sm,hT,hx⟩:=y
   exact hs i x σ' H' q H2 (hx xs hq) p sm hT
 · have e:i=xs.length:=by omega
   subst e
   exact .inl ⟨⟨xs,hq,Nat.le_refl _⟩,hd σ' H' p⟩
section
variable {K:PySem.W.Frag}{H:Hp}{Q:VK}
theorem cl1 {x:V}{a:Addr}{t:Tr}{ts:List Tr}{vs:List V}(h1:t.At H x []) (h2:SqL K H a vs) (h3:Tr.Ats H ts vs []) (l1:t.h≤20) (l2:Tr.hs ts≤20) (h:Q (.bl (decide (t∈ts))) H):rInF K x (.ref a) H Q:=⟨t,ts,a,vs,h1,rfl,h2,h3,l1,l2,h⟩
theorem bx8 {a:Addr}{n:Nat}(e:H a=some (.rng 0 (n:Nat))) (hn:n≤1000000) (h:New H (.lst (a48 (List.range n))) Q):bq2 [.ref a] H Q:=⟨a,n,rfl,e,hn,h⟩
end
section
variable {X:Cx}{tg:Expr}
end
section
variable {σ:St} {H:Hp}{R:It→Hp→Prop}{ts:TA}
end
section
variable {X:Cx}
end
section
variable {K:PySem.W.Frag}{H:Hp}{Q:VK}
end
section
variable {X:Cx}{e st:Expr}{te ts:TE}{p2 pos:Pos}
end
structure ItS (prog:Program) (w:World) (it l:Addr) (xs:Array Value) (st:Nat→Heap→Prop):Prop where
 keep:∀ {k:Nat}{h h':Heap},st k h→(∀ c o,c=it∨c=l→h.get? c=some o→h'.get? c=some o)→st k h'
 item:∀ {A:Around}{E:Value→Shared→Prop}{s:Shared}{k:Nat}{x:Value}{Q:Value→Shared→Prop},st k s.heap→xs[k]?=some x→(∀ h':Heap,st (k+1) h'→Heap.SameBut it s.heap h'→Q x { s with heap:=h' })→wpAny (model prog w) A (Builtin.SmallTypes.nextOf (.ref it)) Q E s
 done:∀ {A:Around}{E:Value→Shared→Prop}{s:Shared}{k:Nat}{Q:Value→Shared→Prop},A.handled=none→st k s.heap→xs[k]?=none→(∀ (h':Heap) (e:Addr),Heap.ExtBut it s.heap h'→(∃ o,h'.get? e=some o∧o.cls=.type "StopIteration")→E (.ref e) { s with heap:=h' })→wpAny (model prog w) A (Builtin.SmallTypes.nextOf (.ref it)) Q E s
theorem b07 {prog:Program}{w:World}{it l:Addr}{xs:Array Value}(hn:l≠it):ItS prog w it l xs (fun k h=>h.IsListIter it l k∧h.IsList l xs) where
 keep:=fun ⟨h1,h2⟩ k=>⟨h1.at fun o e=>k it o (.inl rfl) e,by obtain ⟨o,e,r⟩:=h2; exact ⟨o,k l o (.inr rfl) e,r⟩⟩
 item:=fun ⟨h1,h2⟩ e q=>wpAny_nextOf_list_item h1 h2 e fun h' a b=>q h' ⟨a,h2.extBut b.extBut hn⟩ b
 done:=fun hA ⟨h1,h2⟩ e q=>wpAny_nextOf_list_end hA h1 h2 e q
theorem a08 {a b:Addr}{h h':Heap}{o:Obj}(s:Heap.SameBut a h h') (hn:b≠a) (e:h.get? b=some o):h'.get? b=some o:=(s.2 b hn).trans e
section
variable {prog:Program}{w:World}{z TI TO i1 i2 i3 l1 l2 l3:Addr}{xs ys us:Array Value}{st1 st2 st3:Nat→Heap→Prop}
end
structure SrcO (l:Addr) (o:Obj) (P:Heap→Prop):Prop where
 push:∀ {h:Heap}{o':Obj},P h→P (h.push o')
 iter:∀ {prog:Program}{w:World}{A:Around}{E:Value→Shared→Prop}{s:Shared}{Q:Value→Shared→Prop},P s.heap→Q (.ref s.heap.objs.size) { s with heap:=s.heap.push o }→wpAny (model prog w) A (pyIter (.ref l)) Q E s
theorem bk2 (l:Addr) (xs:Array Value):SrcO l { cls:=.type "list_iterator",data:=.fields #[.ref l,.int 0 0] } (fun h=>h.IsList l xs) where
 push:=fun h=>h.push _
 iter:=fun p q=>wpAny_pyIter_list p q
section
variable {X:Cx}{elts:List Expr}{x1:Nat}{tpos:Pos}
end
def bq3 (P:Params) (tk tv:TE):TE:=fun σ H Q=>∀ p o,H p=none→tk σ (upd H p o) fun y H1=>tv σ H1 fun v H2=>H2 p=some o∧∃ t,TK H2 t y∧∀ o2,DtAt P (upd H2 p o2) p [(t,v)]→Q (.ref p) (upd H2 p o2)
section
variable {X:Cx}{k v:Expr}{pos:Pos}{tk tv:TE}{P:Params}
theorem b08 (hP:X.w.params=P) (hu:X.A.units+64<cLine) (hk:PE X k tk) (hv:PE X v tv):PE X (.Dict [some k] [v] pos) (bq3 P tk tv):=by
 subst hP
 intro pins s σ H Q I h
 have hn:=I.hok.fresh (Nat.le_refl s.heap.objs.size)
 have I1:=I.laid (a:=s.heap.objs.size) (o:=DtO X.w.params s.heap.objs.size []) (h':=s.heap.push { cls:=.type "dict",data:=.dict #[] }) (t':=s.toks) (fun _ _ q=>Heap.get?_push_of_some _ q) (Nat.le_refl _) (ba6 (bx3 s.heap X.w.params I.big))
 refine wpAny_Dict_any rfl rfl (by simp) (by simp) (pairTrees_cons_walk (thn (hk pins _ σ _ _ I1 (h _ _ hn)) ?_))
 rintro u s1 ⟨y,H1,I1',ry,q1⟩
 refine thn (hv pins s1 σ H1 _ I1' q1) ?_
 rintro w2 s2 ⟨vv,H2,I2,rv,e,t,ht,q2⟩
 refine pairTrees_nil_walk ?_
 unfold storeAll
 rw [List.forIn_cons]
 refine wpAny_bind (wpAny_bind (bp9 (m:=[]) (by omega) I2 (.of e) (fun x hx=>absurd hx (by simp)) (by simp) (by simp [sizeLine_eq]) ht ry rv fun s' I'=>wpAny_pure ?_))
 dsimp only
 rw [List.forIn_nil]
 refine wpAny_pure ⟨.ref _,_,I',rfl,q2 _ ?_⟩
 exact ba8 (m:=[]) (.of e) (fun x hx=>absurd hx (by simp)) (by simp) ht
end
theorem bx9 {P:Params}{σ:St} {H:Hp}{Q:VK}{tk tv:TE}(h:∀ p o,H p=none→tk σ (upd H p o) fun y H1=>tv σ H1 fun v H2=>H2 p=some o∧∃ t,TK H2 t y∧∀ o2,DtAt P (upd H2 p o2) p [(t,v)]→Q (.ref p) (upd H2 p o2)):bq3 P tk tv σ H Q:=h
def Each {α β:Type}(R:α→β→Prop) (vs:List α) (xs:List β):Prop:=vs.length=xs.length∧∀ (j:Nat) (v:α) (x:β),vs[j]?=some v→xs[j]?=some x→R v x
section
variable {α β:Type}{R:α→β→Prop}{vs:List α}{xs:List β}
theorem Each.nil:Each R ([]:List α) ([]:List β):=⟨rfl,fun j v x h=>by simp at h⟩
theorem Each.mono {R':α→β→Prop}(h:Each R vs xs) (k:∀ v x,R v x→R' v x):Each R' vs xs:=⟨h.1,fun j v x h1 h2=>k v x (h.2 j v x h1 h2)⟩
theorem Each.append {ws:List α}{ys:List β}(h:Each R vs xs) (k:Each R ws ys):Each R (vs++ws) (xs++ys):=by
 refine ⟨by simp [h.1,k.1],fun j v x h1 h2=>?_⟩
 by_cases hj:j<vs.length
 · rw [List.getElem?_append_left hj] at h1
   rw [List.getElem?_append_left (by rw [← h.1]; exact hj)] at h2
   exact h.2 j v x h1 h2
 · rw [List.getElem?_append_right (by omega)] at h1
   rw [List.getElem?_append_right (by rw [← h.1]; omega),←h.1] at h2
   exact k.2 _ v x h1 h2
theorem Each.snoc {v:α}{x:β}(h:Each R vs xs) (k:R v x):Each R (vs++[v]) (xs++[x]):=h.append ⟨rfl,fun j w y h1 h2=>by
 cases j with
 | zero=>cases h1; cases h2; exact k
 | succ j=>simp at h1⟩
theorem Each.get {j:Nat}{x:β}(h:Each R vs xs) (k:xs[j]?=some x):∃ v,vs[j]?=some v∧R v x:=by
 have hj:j<vs.length:=by rw [h.1]; exact (List.getElem?_eq_some_iff.mp k).1
 exact ⟨vs[j],List.getElem?_eq_getElem hj,h.2 j _ x (List.getElem?_eq_getElem hj) k⟩
end
abbrev RRow:=List Str×Nat
abbrev cl2:=Bool×List RRow
section
variable {f:Nat→Option Nat}{rep rk:Nat→Nat}
end
def hF (d:Addr):List (Str×V):=putF "heads" (.ref d) []
abbrev Pr:=Nat×Nat
section
variable {X:Cx}
end
section
variable {H:Hp}{Q:VK}
end
def TupK (K:PySem.W.Frag) (a:Addr) (xs:List V):Prop:=∃ (o:Obj) (its:Array Value) (n:Nat),K.lookup a=some o∧o.cls=.type "tuple"∧o.data=.seq its n∧its.size≤sizeLine∧Vals xs its.toList
theorem TupK.sq {K:PySem.W.Frag}{a:Addr}{xs:List V}(h:TupK K a xs) (H:Hp):SqT K H a xs:=.inr h
mutual
def Tr.AtK (K:PySem.W.Frag) (H:Hp):Tr→V→Prop
 | .non,v=>v=.non
 | .int i,v=>v=.int i
 | .str s,v=>v=.str s
 | .tup xs,v=>∃ a vs,v=.ref a∧(H a=some (.tup vs)∨TupK K a vs)∧Tr.AtsK K H xs vs
 | .lst _,_=>False
def Tr.AtsK (K:PySem.W.Frag) (H:Hp):List Tr→List V→Prop
 | [],vs=>vs=[]
 | x::xs,vs=>∃ v ws,vs=v::ws∧Tr.AtK K H x v∧Tr.AtsK K H xs ws
end
mutual
theorem Tr.AtK.mono {K:PySem.W.Frag}{H H':Hp}:∀ {x:Tr}{v:V},x.AtK K H v→Tups H H'→x.AtK K H' v
 | .non,_,h,_=>by simpa only [Tr.AtK] using h
 | .int _,_,h,_=>by simpa only [Tr.AtK] using h
 | .str _,_,h,_=>by simpa only [Tr.AtK] using h
 | .tup xs,v,h,k=>by
   simp only [Tr.AtK] at h ⊢
   obtain ⟨a,vs,e,g,r⟩:=h
   exact ⟨a,vs,e,g.imp (fun z=>k _ _ z) id,Tr.AtsK.mono r k⟩
 | .lst xs,v,h,k=>by simp only [Tr.AtK] at h
theorem Tr.AtsK.mono {K:PySem.W.Frag}{H H':Hp}:∀ {xs:List Tr}{vs:List V},Tr.AtsK K H xs vs→Tups H H'→Tr.AtsK K H' xs vs
 | [],_,h,_=>by simpa only [Tr.AtsK] using h
 | x::xs,vs,h,k=>by
   simp only [Tr.AtsK] at h ⊢
   obtain ⟨v,ws,e,a,b⟩:=h
   exact ⟨v,ws,e,Tr.AtK.mono a k,Tr.AtsK.mono b k⟩
end
mutual
theorem Tr.At.toK (K:PySem.W.Frag) {H:Hp}:∀ {x:Tr}{v:V},x.At H v []→x.AtK K H v
 | .non,_,h=>by simp only [Tr.At] at h; simp only [Tr.AtK]; exact h.1
 | .int _,_,h=>by simp only [Tr.At] at h; simp only [Tr.AtK]; exact h.1
 | .str _,_,h=>by simp only [Tr.At] at h; simp only [Tr.AtK]; exact h.1
 | .tup xs,v,h=>by
   simp only [Tr.At] at h
   simp only [Tr.AtK]
   obtain ⟨a,vs,e,g,r⟩:=h
   exact ⟨a,vs,e,.inl g,Tr.Ats.toK K r⟩
 | .lst xs,v,h=>(au0 (h:=h)).elim
theorem Tr.Ats.toK (K:PySem.W.Frag) {H:Hp}:∀ {xs:List Tr}{vs:List V},Tr.Ats H xs vs []→Tr.AtsK K H xs vs
 | [],_,h=>by simp only [Tr.Ats] at h; simp only [Tr.AtsK]; exact h.1
 | x::xs,vs,h=>by
   simp only [Tr.Ats] at h
   simp only [Tr.AtsK]
   obtain ⟨v,ws,f,g,e,e2,a,b⟩:=h
   have hf:f=[]∧g=[]:=by simpa using e2.symm
   obtain ⟨rfl,rfl⟩:=hf
   exact ⟨v,ws,e,Tr.At.toK K a,Tr.Ats.toK K b⟩
end
section
variable {X:Cx}{pins:List (Addr×Obj)}{σ:St} {H:Hp}{s:Shared}
mutual
theorem Tr.AtK.isIn (I:Inv X pins σ H s):∀ {t:Tr}{v:V}{u:Value},t.AtK X.K H v→RelV v u→Tr.In s.heap t u
 | .non,v,u,h,r=>by
   simp only [Tr.AtK] at h
   subst h
   cases r
   exact rfl
 | .int z,v,u,h,r=>by
   simp only [Tr.AtK] at h
   subst h
   obtain ⟨t,rfl⟩:=r
   exact .inl ⟨t,rfl⟩
 | .str z,v,u,h,r=>by
   simp only [Tr.AtK] at h
   subst h
   obtain ⟨t,rfl⟩:=r
   exact ⟨t,rfl⟩
 | .lst _,v,u,h,r=>by simp only [Tr.AtK] at h
 | .tup ts,v,u,h,r=>by
   simp only [Tr.AtK] at h
   obtain ⟨a,vs,rfl,e1,c1⟩:=h
   cases r
   obtain ⟨is1,q1,p1,_⟩:=I.tuple (show SqT X.K H a vs from e1.elim SqT.of (fun z=>z.sq H))
   simp only [Tr.In]
   exact ⟨a,is1.toArray,rfl,p1,by simpa using Tr.AtsK.isIns I c1 q1⟩
theorem Tr.AtsK.isIns (I:Inv X pins σ H s):∀ {ts:List Tr}{vs:List V}{us:List Value},Tr.AtsK X.K H ts vs→Vals vs us→Tr.Ins s.heap ts us
 | [],vs,us,c,q=>by
   simp only [Tr.AtsK] at c
   subst c
   cases q
   exact rfl
 | t::ts,vs,us,c,q=>by
   simp only [Tr.AtsK] at c
   obtain ⟨v,vs,rfl,a1,b1⟩:=c
   cases q with
   | cons r1 r2 =>
     simp only [Tr.Ins]
     exact ⟨_,_,rfl,Tr.AtK.isIn I a1 r1,Tr.AtsK.isIns I b1 r2⟩
end
end
def cd2 (K:PySem.W.Frag):R2:=fun x y H Q=>∃ (t r:Tr),t.AtK K H x∧r.AtK K H y∧t.h≤20∧r.h≤20∧Q (.bl (decide (t=r))) H
section
variable {X:Cx}{pins:List (Addr×Obj)}{σ:St} {H:Hp}{s:Shared}{a:Addr}{t:Tr}{y v z:V}{u r:Value}{A:Around}{E:Value→Shared→Prop}{kvs:List (Tr×V)}{m:List (Tr×V×V)}
end
section
variable {X:Cx}{o i e f value:Expr}{pos pos' apos cpos:Pos}{td ty tv tx:TE}{P:Params}
theorem b09 (K:PySem.W.Frag) (hu:X.A.units+64<cLine) (hK:X.K=K:=by rfl):OpR X (compareOp .Eq) (cd2 K):=by
 subst hK
 intro pins s σ H x y v u Q I rx ry h
 obtain ⟨t,r,h1,h2,l1,l2,q⟩:=h
 exact (h1.isIn I rx).rcAt (h2.isIn I ry) (A:=X.A) (by omega) X.prog X.w X.xe (EP X pins σ Q) ⟨.bl _,H,I,rfl,q⟩
end
section
variable {K:PySem.W.Frag}{P:Params}{σ:St} {H:Hp}{Q:VK}{td ty tx tv:TE}
theorem bq4 {x y:V}{t r:Tr}(h1:t.AtK K H x) (h2:r.AtK K H y) (l1:t.h≤20) (l2:r.h≤20) (h:Q (.bl (decide (t=r))) H):cd2 K x y H Q:=⟨t,r,h1,h2,l1,l2,h⟩
end
section
variable {prog:Program}{w:World}{A:Around}{E:Value→Shared→Prop}{s:Shared}
theorem af4 {it l:Addr}{i:Nat}{items}{x:Value}{Q:Value→Shared→Prop}(hit:s.heap.IsTupleIter it l i)
 (hl:s.heap.IsTuple l items) (hx:items[i]?=some x)
 (hQ:∀ h',h'.IsTupleIter it l (i+1)→Heap.SameBut it s.heap h'→Q x { s with heap:=h' }) :
 wpAny (model prog w) A (Builtin.SmallTypes.nextOf (.ref it)) Q E s:=by
 obtain ⟨o,ho,hc,hd⟩:=id hit
 obtain ⟨ol,hol,_,nl,hdl⟩:=hl
 unfold Builtin.SmallTypes.nextOf
 refine wpAny_bind (wpAny_callSpecial?_slot (name:=Str.ofString "__next__") hit.typeIs F.slot_tuple_iterator_next
  (wpAny_call_entry F.slot_tuple_iterator_next hit.typeIs F.entry_tuple_iterator_next ?_ (F.args_tuple_iterator_next_1 _)))
 show wpAny _ _ (field (.ref it) 0 >>= _) _ _ s
 refine wpAny_bind (wpAny_field ho hd (x:=.ref l) rfl ?_)
 show wpAny _ _ (if (Value.ref l == Value.none)=true then _ else _) _ _ s
 rw [if_neg (show ¬ ((Value.ref l == Value.none)=true) from Bool.false_ne_true)]
 show wpAny _ _ (field (.ref it) 1 >>= _) _ _ s
 refine wpAny_bind (wpAny_field ho hd (x:=.int i 0) rfl ?_)
 show wpAny _ _ (seqItems? (.ref l) >>= _) _ _ s
 refine wpAny_bind (wpAny_seqItems hol hdl ?_)
 simp only [Int.toNat_natCast,hx]
 refine wpAny_bind (wpAny_setField ho hd (by simp) (wpAny_pure ⟨x,rfl,wpAny_pure (hQ _ ?_ (Heap.SameBut.update ..))⟩))
 exact ⟨_,Heap.get?_update_self _ ho (Obj.isFreed_of_fields (Obj.data_mapFields hd _)),(Obj.cls_mapFields ..).trans hc,by
  rw [Obj.data_mapFields hd]; simp [rawInt]⟩
theorem ag7 {it l:Addr}{i:Nat}{items}{Q:Value→Shared→Prop}(hh:A.handled=none)
 (hit:s.heap.IsTupleIter it l i) (hl:s.heap.IsTuple l items) (hx:items[i]?=none)
 (hE:∀ h' e,Heap.ExtBut it s.heap h'→(∃ o,h'.get? e=some o∧o.cls=.type "StopIteration")→E (.ref e) { s with heap:=h' }) :
 wpAny (model prog w) A (Builtin.SmallTypes.nextOf (.ref it)) Q E s:=by
 obtain ⟨o,ho,hc,hd⟩:=id hit
 obtain ⟨ol,hol,_,nl,hdl⟩:=hl
 unfold Builtin.SmallTypes.nextOf
 refine wpAny_bind (wpAny_callSpecial?_slot (name:=Str.ofString "__next__") hit.typeIs F.slot_tuple_iterator_next
  (wpAny_call_entry F.slot_tuple_iterator_next hit.typeIs F.entry_tuple_iterator_next ?_ (F.args_tuple_iterator_next_1 _)))
 show wpAny _ _ (field (.ref it) 0 >>= _) _ _ s
 refine wpAny_bind (wpAny_field ho hd (x:=.ref l) rfl ?_)
 show wpAny _ _ (if (Value.ref l == Value.none)=true then _ else _) _ _ s
 rw [if_neg (show ¬ ((Value.ref l == Value.none)=true) from Bool.false_ne_true)]
 show wpAny _ _ (field (.ref it) 1 >>= _) _ _ s
 refine wpAny_bind (wpAny_field ho hd (x:=.int i 0) rfl ?_)
 show wpAny _ _ (seqItems? (.ref l) >>= _) _ _ s
 refine wpAny_bind (wpAny_seqItems hol hdl ?_)
 simp only [Int.toNat_natCast,hx]
 refine wpAny_bind (wpAny_rule (wpAny_bind (wpAny_setField ho hd (by simp) ?_)))
 show wpAny _ _ (newExc (.type "StopIteration") [] >>= _) _ _ _
 refine wpAny_bind ?_
 simp only [newExc,newTuple]
 refine wpAny_bind (wpAny_newObj_type ?_ (by size_fits))
 refine wpAny_bind (m:=firstArgMember _ _) (wpAny_of_eq (a:=Value.none) (by first | rfl | (simp only [firstArgMember]; rfl)) ?_)
 refine wpAny_newObj_type ?_ (by size_fits)
 simp only [raiseNew]
 refine wpAny_bind (wpAny_handled ?_)
 first | rw [show A.in1.handled=none from hh] | rw [hh]
 refine wpAny_bind (wpAny_pure (wpAny_throw ?_))
 exact hE _ _ (((Heap.SameBut.update ..).extBut.push _).push _) ⟨_,Heap.get?_push_size _ rfl,rfl⟩
end
theorem an6 {h h':Heap}{a t:Addr}{i:Nat}(x:h.IsTupleIter a t i) (k:∀ o,h.get? a=some o→h'.get? a=some o):h'.IsTupleIter a t i:=let ⟨o,ho,r⟩:=x; ⟨o,k o ho,r⟩
theorem au2 {prog:Program}{w:World}{it l:Addr}{xs:Array Value}(hn:l≠it):ItS prog w it l xs (fun k h=>h.IsTupleIter it l k∧h.IsTuple l xs) where
 keep:=fun ⟨h1,h2⟩ k=>⟨an6 h1 fun o e=>k it o (.inl rfl) e,by obtain ⟨o,e,r⟩:=h2; exact ⟨o,k l o (.inr rfl) e,r⟩⟩
 item:=fun ⟨h1,h2⟩ e q=>af4 h1 h2 e fun h' a b=>q h' ⟨a,h2.extBut b.extBut hn⟩ b
 done:=fun hA ⟨h1,h2⟩ e q=>ag7 hA h1 h2 e q
theorem bb5 (l:Addr) (xs:Array Value):SrcO l { cls:=.type "tuple_iterator",data:=.fields #[.ref l,.int 0 0] } (fun h=>h.IsTuple l xs) where
 push:=fun h=>h.push _
 iter:=fun p q=>wpAny_pyIter_tuple p q
section
variable {X:Cx}{elts:List Expr}{x1:Nat}{tpos:Pos}
end
theorem Tr.In.rcNeAt {s:Shared}{ts rs:List Tr}{A:Around}{u z:Value}(h1:Tr.In s.heap (.tup ts) u) (h2:Tr.In s.heap (.tup rs) z) (hu:A.units+(Tr.tup ts).h+(Tr.tup rs).h+2<cLine):SeqAt.RcNeAt A s u z (!decide (Tr.tup ts=Tr.tup rs)):=by
 simp only [Tr.In] at h1 h2
 obtain ⟨a,us,rfl,p1,c1⟩:=h1
 obtain ⟨b,vs,rfl,p2,c2⟩:=h2
 simp only [Tr.h] at hu
 have l1:=c1.len
 have l2:=c2.len
 simp only [Array.length_toList] at l1 l2
 have:=SeqAt.RcNeAt.tuples (A:=A) (s:=s) (e:=fun j=>decide (ts.getD j .non=rs.getD j .non)) p1 p2 (by omega) (fun j h1 h2=>by
  have:=Tr.Ins.eqAts (A:=A.in1) c1 c2 (by rw [a47]; omega) j (by simpa using h1) (by simpa using h2)
  simpa using this)
 rw [l1,l2,ba3] at this
 rw [show decide (Tr.tup ts=Tr.tup rs)=decide (ts=rs) from Bool.eq_iff_iff.mpr (by simp)]
 exact this
def cd3 (K:PySem.W.Frag):R2:=fun x y H Q=>∃ (ts rs:List Tr),(Tr.tup ts).AtK K H x∧(Tr.tup rs).AtK K H y∧(Tr.tup ts).h≤20∧(Tr.tup rs).h≤20∧Q (.bl (!decide (Tr.tup ts=Tr.tup rs))) H
theorem bk3 {X:Cx}(K:PySem.W.Frag) (hu:X.A.units+64<cLine) (hK:X.K=K:=by rfl):OpR X (compareOp .NotEq) (cd3 K):=by
 subst hK
 intro pins s σ H x y v u Q I rx ry h
 obtain ⟨t,r,h1,h2,l1,l2,q⟩:=h
 exact (h1.isIn I rx).rcNeAt (h2.isIn I ry) (A:=X.A) (by omega) X.prog X.w X.xe (EP X pins σ Q) ⟨.bl _,H,I,rfl,q⟩
theorem cd4 {K:PySem.W.Frag}{H:Hp}{Q:VK}{x y:V}{ts rs:List Tr}(h1:(Tr.tup ts).AtK K H x) (h2:(Tr.tup rs).AtK K H y) (l1:(Tr.tup ts).h≤20) (l2:(Tr.tup rs).h≤20) (h:Q (.bl (!decide (Tr.tup ts=Tr.tup rs))) H):cd3 K x y H Q:=⟨ts,rs,h1,h2,l1,l2,h⟩
section
variable {prog:Program}{w:World}{A:Around}{E:Value→Shared→Prop}{s:Shared}{d:Addr}{es:Array DictEntry}{ep:Nat}
end
def bk4 (K:PySem.W.Frag):V→List V→Hp→VK→Prop:=fun x vs H Q=>∃ l b xs zs,x=.ref l∧vs=[.ref b]∧H l=some (.lst xs)∧SqT K H b zs∧xs.length+zs.length≤sizeLine∧Q .non (upd H l (.lst (xs++zs)))
theorem ax2 {X:Cx}(K:PySem.W.Frag) (hK:X.K=K:=by rfl):MtM X "list.extend" (bk4 K):=by
 subst hK
 intro pins s σ H x vs v us Q I rx rv h
 obtain ⟨l,b,xs,zs,rfl,rfl,hH,hB,hz,q⟩:=h
 cases rx
 obtain ⟨u,rfl,ru⟩:=rv.one
 cases ru
 obtain ⟨z,its,n,r,hl,e⟩:=I.lstM hH
 obtain ⟨its2,r2,⟨ob,eb,cb,n2,db⟩,z2⟩:=I.tuple hB
 have hl2:=r2.length
 have hsz:its.toArray.size+its2.toArray.size≤sizeLine:=by rw [List.size_toArray,List.size_toArray]; omega
 have hne:l≠b:=fun z=>by
  subst z
  rw [e] at eb
  injection eb with eb
  rw [← eb] at cb
  exact absurd (show Value.type "list"=Value.type "tuple" from cb) (by decide)
 have h1:Builtin.List.listSameRef (.ref l) (.ref b)=false:=by simp [Builtin.List.listSameRef,hne]
 refine wpAny_call_entry F.slot_list_extend ⟨_,e,rfl⟩ F.entry_list_extend ?_ (F.args_list_extend_2 _ _)
 unfold Builtin.«list.extend»
 show wpAny _ _ (Builtin.List.listExtendWith (.ref l) (.ref b) .none) _ _ s
 unfold Builtin.List.listExtendWith
 refine wpAny_bind (wpAny_typeOf (T:="tuple") ⟨ob,eb,cb⟩ ?_)
 simp only [h1,show (Value.type "tuple" == Value.type "list")=false by decide,show (Value.type "tuple" == Value.type "tuple")=true by decide,Bool.or_false,Bool.or_true,if_true]
 refine wpAny_bind (listItems_at eb db ?_)
 refine wpAny_bind (listItems_at e rfl ?_)
 have hlong:¬ (!its.toArray.isEmpty && Builtin.List.listTooLong (its.toArray.size+its2.toArray.size))=true:=by
  rw [bh2 hsz,Bool.and_false]
  exact Bool.false_ne_true
 rw [if_neg hlong]
 show wpAny _ _ (updateSeq l (·++its2.toArray) >>= _) _ _ s
 refine wpAny_bind (wpAny_updateSeq (hz:=by rw [List.size_toArray]; omega) (_hz':=by rw [Array.size_append]; omega) e rfl ?_)
 refine wpAny_pure ⟨_,rfl,.non,_,I.lset (its':=its++its2) (t':=s.toks) hH e (by simp) (r.append r2) (by rw [List.length_append]; omega),rfl,q⟩
section
variable {prog:Program}{w:World}{A:Around}{E:Value→Shared→Prop}{s:Shared}{d it:Addr}{es:Array DictEntry}{ep i:Nat}
end
section
variable {X:Cx}{P:Params}{o:Expr}{td:TE}{apos cpos:Pos}
end
section
variable {prog:Program}{w:World}{A:Around}{E:Value→Shared→Prop}{s:Shared}{d v:Addr}{es:Array DictEntry}{ep:Nat}
end
section
variable {X:Cx}{P:Params}
end
open AutoSeq1 (wpAny_loadPart')
section
variable {X:Cx}{elts:List Expr}{x1:Nat}{tpos:Pos}
end
section
variable {prog:Program}{w:World}
variable {A:Around}{E:Value→Shared→Prop}{s:Shared}
end
section
variable {prog:Program}{w:World}{A:Around}{R:Result→Shared→Prop}{I:Addr}{fp wr:List Addr}{G:Array GenState→Array GenState→Prop}{n:Nat}{P:Nat→Value→Prop}{St:Nat→Shared→Prop}
end
section
variable {prog:Program}{w:World}{A:Around}{E:Value→Shared→Prop}{s:Shared}
end
section
variable {M:Model}{A:Around}{E:Value→Shared→Prop}{s:Shared}
end
section
variable {prog:Program}{w:World}{A:Around}{E:Value→Shared→Prop}{s:Shared}{S it:Addr}{o:Obj}{es:Array (Int×Value)}{ep:Nat}{t:SetTable}
end
section
variable {prog:Program}{w:World}{A:Around}{E:Value→Shared→Prop}{s:Shared}{S it tp:Addr}{o:Obj}{es:Array (Int×Value)}{ep i:Nat}{t:SetTable}{first:Value}
end
section
variable {prog:Program}{w:World}{A:Around}{E:Value→Shared→Prop}{s:Shared}{S it tp:Addr}{o:Obj}{es:Array (Int×Value)}{ep i:Nat}{t:SetTable}{first:Value}
end
section
variable {prog:Program}{w:World}{A:Around}{E:Value→Shared→Prop}{s:Shared}{S it tp:Addr}{o:Obj}{es:Array (Int×Value)}{ep i:Nat}{t:SetTable}{first:Value}
end
section
variable {prog:Program}{w:World}{A:Around}{E:Value→Shared→Prop}{s:Shared}{S:Addr}{es:Array (Int×Value)}
end
section
variable {prog:Program}{w:World}{A:Around}{E:Value→Shared→Prop}{s:Shared}{S:Addr}{es:Array (Int×Value)}
end
section
variable {X:Cx}{P:Program}{w:World}
end
section
variable {X:Cx}
end
section
variable {rs:List cl2}{many:Nat}{p:Pr}
variable {N k:Nat}{dv:Pr→Option Nat}
end
section
variable {prog:Program}{w:World}{A:Around}{E:Value→Shared→Prop}{s:Shared}
end
section
variable {X:Cx}{P:Params}
end
section
variable {prog:Program}{w:World}{A:Around}{R:Result→Shared→Prop}{J:Addr}{fp wr:List Addr}{n:Nat}{P:Nat→Value→Prop}{St:Nat→Heap→Prop}
end
section
variable {prog:Program}{w:World}{A:Around}{E:Value→Shared→Prop}{s:Shared}
end
section
variable {X:Cx}{e d:Expr}{t tk:TA}{p kp pos:Pos}
end
section
variable {X:Cx}
end
structure Cov (fs:List Addr) (H H':Hp) (h h' B:Heap):Prop where
 old:∀ b o,h.get? b=some o→H b=none→b∉fs→B.get? b=some o
 ther:∀ b o,h.get? b=some o→b∉fs→∃ o',B.get? b=some o'
 abs:∀ b o,H' b≠none→h'.get? b=some o→B.get? b=some o
def CXE (P:Program) (w:World) (C:Addr):CXT:=fun outer H s E e s'=>∃ (a tt:Addr) (H':Hp) (B:Heap) (vs:List Value),e=.ref a∧s'.os=s.os∧AllBare s'.gens∧Un (frs outer) [] H H' s.heap s'.heap∧HOk P w H' s'.heap ∧
 Cov (frs outer) H H' s.heap s'.heap B∧Heap.FlyingW B outer a (.ref C) (.ref tt) s'.heap∧s'.heap.TupAt tt vs∧E (.ref C) none H'
theorem ObjOk.ther {P:Program}{w:World}{H:Hp}{h:Heap}{a:Addr}{o:HO}(x:ObjOk P w H h a o):∃ u,h.get? a=some u:=by
 cases o with
 | lst xs=>obtain ⟨_,_,_,_,e⟩:=x; exact ⟨_,e⟩
 | tup xs=>obtain ⟨_,_,_,ob,e,_⟩:=x; exact ⟨_,e⟩
 | dK kvs=>obtain ⟨_,_,_,_,o,_,_,e,_⟩:=x; exact ⟨_,e⟩
 | dT kvs=>obtain ⟨_,_,_,_,o,_,_,e,_⟩:=x; exact ⟨_,e⟩
 | set S n=>obtain ⟨o,_,_,_,e,_⟩:=x; exact ⟨_,e⟩
 | ins C dx fs=>obtain ⟨_,_,_,e,_⟩:=x; exact ⟨_,e⟩
 | own y=>obtain ⟨_,e⟩:=x; exact ⟨_,e⟩
 | xd fs=>obtain ⟨_,⟨_,_,_,e,_⟩,_⟩:=x; exact ⟨_,e⟩
 | rng lo hi=>obtain ⟨_,_,_,e⟩:=x; exact ⟨_,e⟩
 | frz ob u=>obtain ⟨e,_⟩:=x; exact ⟨_,e⟩
 | tbl ps=>exact ⟨_,(show h.get? a=some _ from x)⟩
 | met f y=>exact ⟨_,(show h.get? a=some _ from x)⟩
 | ext φ=>obtain ⟨_,⟨_,e⟩,_⟩:=x; exact ⟨_,e⟩
theorem an7 {P:Program}{w:World}{fs:List Addr}{H H':Hp}{h h1 h2 B:Heap}(u:Un fs [] H H' h h1) (ok:HOk P w H' h1) (c:Cov fs H H' h h1 B) (st:B.StaysIn h2) (up:h1.UpToSlots h2)
 (fr:∀ b∈fs,H b=none∧∀ o,h1.get? b=some o→∀ vs,o.data≠.fields vs) (fr2:∀ b∈fs,H' b=none):Un fs [] H H' h h2∧HOk P w H' h2∧Cov fs H H' h h2 B:=by
 have slot:∀ b o,h.get? b=some o→H b=none→b∈fs→∃ sl,h2.get? b=some { o with slots:=sl }:=fun b o e n hb=>by
  obtain ⟨sl,e1⟩:=u.slot b o e n hb (by simp)
  obtain ⟨sl2,e2⟩:=up b _ e1 ((fr b hb).2 _ e1)
  exact ⟨sl2,e2⟩
 have ab:∀ b o,H' b≠none→h1.get? b=some o→h2.get? b=some o:=fun b o n e=>st b o (c.abs b o n e)
 refine ⟨⟨fun b o e n hb _=>st b o (c.old b o e n hb),fun b o e n hb _=>slot b o e n hb,u.free,fun b o e _=>?_,u.tups,u.frzs,u.tbls⟩,fun a o e=>?_,⟨c.old,c.ther,fun b o n e=>?_⟩⟩
 · by_cases hb:b∈fs
   · obtain ⟨sl,e2⟩:=slot b o e (fr b hb).1 hb
     exact ⟨_,e2⟩
   · obtain ⟨o',e'⟩:=c.ther b o e hb
     exact ⟨o',st b o' e'⟩
 · refine (ok a o e).stay (fun b v hb ev=>?_) (fun _ z=>z) (fun _ _ z=>z)
   rcases hb with rfl | hb
   · exact ab _ _ (by rw [e]; simp) ev
   · exact ab _ _ (by rw [hb]; simp) ev
 · obtain ⟨o',e'⟩:∃ o',h1.get? b=some o':=by
    cases eH:H' b with
    | none=>exact absurd eH n
    | some ho=>exact (ok b ho eH).ther
   have:=ab b o' n e'
   rw [e] at this
   cases this
   exact c.abs b o n e'
theorem bk5 {P:Program}{w:World}{K:PySem.W.Frag}{mg:Str→Option Value}{base:Heap}{N:List Str}{qual:Str}{scope:Scope}{f C:Addr}{cd:Value}{A:Around}{outer:List Env}{s:Shared}{H H1:Hp}{E:XK}{pins:List (Addr×Obj)}{σ:St} {s1:Shared}{h':Heap}{e:Addr}{vs:List Value}
 (I:Inv (cxOf (CXE P w C) P w K mg base N qual scope f cd A outer s H E) pins σ H1 s1) (hx:Heap.MadeExcOf s1.heap h' e (.ref C) vs) (q:E (.ref C) none H1) :
 (cxOf (CXE P w C) P w K mg base N qual scope f cd A outer s H E).xe (.ref e) { s1 with heap:=h' }:=by
 have hstk:=I.stack
 have hfree:=I.stkFree
 have hfrm:=I.ok.frames
 have habv:=I.ok.above
 have hun:=I.base
 have hok:=I.hok
 have hos:=I.os
 have hbare:=I.bare
 have hfun:=I.ok.funs
 have hfrf:=I.ok.frf
 dsimp only [cxOf,Cx.fs] at hstk hfree hfrm habv hun hok hos hfun hfrf ⊢
 have hin:∀ env∈(envOfC qual scope s.heap.objs.size f cd::outer),∀ b,env.frame=some b→b∈frs (envOfC qual scope s.heap.objs.size f cd::outer):=fun env he b hb=>List.mem_filterMap.mpr ⟨env,he,hb⟩
 refine wpAny_leaves_madeW (base:=PySem.W.hideAll s1.heap (frs (envOfC qual scope s.heap.objs.size f cd::outer))) (h:=s1.heap) hfrm rfl (fun b o q=>PySem.W.of_hideAll _ q) (PySem.W.funFrames_hide hstk hin) hx fun h2 t x1 x2 x3 x4=>?_
 have hmem:∀ b,b∈frs outer→b∈frs (envOfC qual scope s.heap.objs.size f cd::outer):=fun b hb=>by
  obtain ⟨env,he,hf⟩:=List.mem_filterMap.mp hb
  exact hin env (List.mem_cons_of_mem _ he) b hf
 have notin:∀ b o,s.heap.get? b=some o→b∉frs outer→b∉frs (envOfC qual scope s.heap.objs.size f cd::outer):=fun b o e hb hm=>by
  obtain ⟨env,he,hf⟩:=List.mem_filterMap.mp hm
  rcases List.mem_cons.mp he with rfl | he
  · have z:s.heap.objs.size=b:=Option.some.inj hf
    rw [← z] at e
    exact absurd (Heap.lt_size e) (Nat.lt_irrefl _)
  · exact hb (List.mem_filterMap.mpr ⟨env,he,hf⟩)
 have cov:Cov (frs outer) H H1 s.heap s1.heap (PySem.W.hideAll s1.heap (frs (envOfC qual scope s.heap.objs.size f cd::outer))) :=
  ⟨fun b o e n hb=>PySem.W.hideAll_get _ (hun.keep b o e n hb (by simp)) (notin b o e hb),fun b o e hb=>by
   obtain ⟨o',e'⟩:=hun.there b o e (by simp)
   exact ⟨o',PySem.W.hideAll_get _ e' (notin b o e hb)⟩,fun b o n e=>PySem.W.hideAll_get _ e fun hm=>n (hfree b hm)⟩
 obtain ⟨u2,ok2,c2⟩:=an7 hun hok cov x1.1 ((Heap.UpToSlots.of_keeps hx.keeps).trans x4) (fun b hb=>⟨hfrf b hb,fun o e=>by
  obtain ⟨_,o',e',hd⟩:=hstk.mem (hmem b hb)
  rw [e] at e'
  cases e'
  exact hd⟩) fun b hb=>hfree b (hmem b hb)
 exact ⟨e,t,H1,_,vs,rfl,hos,hbare,u2,ok2,c2,x1,x2,q⟩
theorem bb6 {K:PySem.W.Frag}{h₀:Heap}{mg:Str→Option Value}{x:Str}{C:Addr}{bmB:List Value}{newId:String}(X:K.In h₀) (hm:mg x=some (.ref C)) (q:PySem.W.excIn K C bmB newId=true):OwnCls x C bmB newId mg h₀:=by
 refine ⟨hm,?_⟩
 unfold PySem.W.excIn at q
 split at q
 · rename_i dd cd sl ho
   split at q
   · rename_i C' bm k0 k1 k2 k3 n k5 hm hs
     simp only [Bool.and_eq_true,beq_iff_eq,Bool.not_eq_true'] at q
     obtain ⟨⟨⟨⟨⟨rfl,rfl⟩,hdel⟩,ht⟩,hok⟩,hni⟩:=q
     obtain ⟨nm,bs,mro,ns,qn,hd,sn,sub,ab,col,del⟩:=cd
     dsimp only at hm hdel hok hni
     subst hm hdel
     have hsl:sl=#[k0,k1,k2,k3,some (.builtin n),k5]:=by
      obtain ⟨l⟩:=sl
      simp only at hs
      rw [hs]
     subst hsl
     exact ⟨bm,ns,nm,qn,bs,hd,sn,sub,ab,col,dd,k0,k1,k2,k3,k5,_,X _ _ ho,.of_isNs (PySem.W.isNs_of_in X hok),PySem.W.nsMap_none_of_in X hok hni,PySem.W.tail_of_in X ht⟩
   · cases q
 · cases q
def bq5 (C:Addr) (E:XK) (t:TA):TS:=fun _ σ H=>t σ H fun vs H1=>vs.length≤sizeLine∧E (.ref C) none H1
theorem b10 {P:Program}{w:World}{K:PySem.W.Frag}{mg:Str→Option Value}{base:Heap}{N:List Str}{qual:Str}{scope:Scope}{f C:Addr}{cd:Value}{A:Around}{outer:List Env}{s:Shared}{H:Hp}{E:XK}{x:Str}{np cpos pos:Pos}{e₀:Expr}{rest:List Expr}{t:TA}{B Bn newId nid initId inN:String}{bm bmN:List Value}
 (Fn:ExcBaseFacts Bn newId inN bmN) (hBn:bm.contains (.type Bn)=true) (FB:ExcBaseFacts B nid initId bm) (q:PySem.W.excIn K C bm newId=true) (hm:mg x=some (.ref C))
 (hg:Gl (cxOf (CXE P w C) P w K mg base N qual scope f cd A outer s H E) x) (ha:PA (cxOf (CXE P w C) P w K mg base N qual scope f cd A outer s H E) (e₀::rest) t)
 (he:starEach (e₀::rest) (envOfC qual scope s.heap.objs.size f cd)=(false,eval e₀ (envOfC qual scope s.heap.objs.size f cd))::starEach rest (envOfC qual scope s.heap.objs.size f cd):=by rfl)
 (hplain:(backTo cpos (starEach rest (envOfC qual scope s.heap.objs.size f cd))).any (·.1)=false:=by rfl) (hd:(x == ("__debug__":Str))=false:=by decide) :
 PS (cxOf (CXE P w C) P w K mg base N qual scope f cd A outer s H E) (.Raise (some (.Call (.Name x np) (e₀::rest) [] cpos)) none pos) (bq5 C E t):=by
 intro pins s1 σ H1 D I h
 have O:OwnCls x C bm newId mg s1.heap:=bb6 I.kIn hm q
 have hbs:=I.bk
 obtain ⟨tl,NN,nm,qq,bs,hdct,sn,sub,ab,col,dd,k0,k1,k2,k3,k5,mN,hC,hN,hni,T⟩:=(bb6 (h₀:=base) I.ok.mod.kin hm q:OwnCls x C bm newId mg base).obj
 refine wpAny_Raise_call_subU (C:=C) (nm:=nm) (q:=qq) (N:=NN) (bs:=bs) (bm:=tl) (hdct:=hdct) (sn:=sn) (sub:=sub) (ab:=ab) (col:=col) (dd:=dd) (k0:=k0) (k1:=k1) (k2:=k2) (k3:=k3) (k5:=k5)
  Fn hBn FB (mN:=mN) (T.hasType FB.hasBase) (I.ok.hd rfl) (by show (backTo cpos (starEach (e₀::rest) (envOfC qual scope s.heap.objs.size f cd))).any (·.1)=false; rw [he]; show (false || (backTo cpos (starEach rest (envOfC qual scope s.heap.objs.size f cd))).any (·.1))=false; rw [hplain]; rfl) hni (ac0 I hg hm ⟨rfl,?_⟩ hd)
 have hh:=ha cpos pins s1 σ H1 _ I h
 change wpAny _ _ (evalArgs _ true (backTo cpos (starEach (e₀::rest) (envOfC qual scope s.heap.objs.size f cd))) []) _ _ _
 change wpAny _ _ (spliced (backTo cpos (starEach (e₀::rest) (envOfC qual scope s.heap.objs.size f cd)))) _ _ _ at hh
 rw [he] at hh ⊢
 refine Calls.evalArgs_plain (wpAny_mono hh (fun vs s₂ h₂=>?_) fun _ _ y=>y)
 obtain ⟨us,H2,I2,r,hl,hE⟩:=h₂
 have kp:∀ b o,base.get? b=some o→s₂.heap.get? b=some o:=I2.bk
 exact ⟨rfl,by rw [← r.length]; exact hl,kp _ _ hC,hN.keeps kp,T.keeps kp,fun h' e hx=>bk5 I2 hx hE⟩
section
variable {P:Program}{w:World}{K:PySem.W.Frag}{mg:Str→Option Value}{base:Heap}
theorem Fun.okE {x qual:Str}{st:Stmt}{f C:Addr}{fd:FuncData}{N ps:List Str}{k:Nat}{sp:Sp}(F:Fun K x qual st f fd) (S:FnScope N ps (a07 st)) (len:∀ vs H Q E,sp vs H Q E→vs.length=ps.length)
 (hbody:∀ (cdv:Value) (A:Around) (outer:List Env) (s:Shared) (H:Hp) (vs:List V) (Q:VK) (E:XK),Room k (A.deeper (envOfC qual (a07 st) s.heap.objs.size f cdv))→sp vs H Q E →
  ∃ t,PSs (cxOf (CXE P w C) P w K mg base N qual (a07 st) f cdv A outer s H E) (a87 st) t∧t { nx:=fun _ H'=>Q .non H',rt:=Q } (start N vs) H):FnOk P w K mg base (CXE P w C) (k+1) f fd ps sp:=by
 obtain ⟨oc,od,kV,doc,pm,an,cdv,ct,osl,rfl,lk,hcd⟩:=F.ex
 exact c55 lk hcd S len fun A outer s H vs Q E hr hsp=>hbody cdv A outer s H vs Q E hr hsp
end
theorem Inv.re {X:Cx}{pins:List (Addr×Obj)}{σ:St} {H:Hp}{s:Shared}(I:Inv X pins σ H s) {pn pins':List (Addr×Obj)}{xe:Value→Shared→Prop}{A:Around}{calm:Bool}(hA:calm=true→A.handled=none) (hf:A.frames=some X.stack) (hp:∀ p∈pn++pins',p∈X.pn++pins) :
 Inv { X with pn:=pn,xe:=xe,A:=A,calm:=calm } pins' σ H s :=
 ⟨⟨I.ok.mod,I.ok.kind,I.ok.glob,I.ok.blt,I.ok.above,I.ok.inj,I.ok.has,I.ok.cab,hA,hf,I.ok.stk,I.ok.exf,I.ok.bs,I.ok.bsz,I.ok.noex,I.ok.exfs,I.ok.funs,I.ok.frf⟩,I.os,I.bare,I.base,I.loc,I.cell,I.free,I.freeC,fun p h=>I.pin p (hp p h),I.hok,I.len⟩
theorem SP.re {X:Cx}{pins:List (Addr×Obj)}{D:Ends}{f:Flow}{s:Shared}{pn pins':List (Addr×Obj)}{xe:Value→Shared→Prop}{A:Around}{calm:Bool}(hA:calm=true→A.handled=none) (hf:A.frames=some X.stack) (hp:∀ p∈pn++pins',p∈X.pn++pins) (h:SP X pins D f s):SP { X with pn:=pn,xe:=xe,A:=A,calm:=calm } pins' D f s:=by
 cases f with
 | next=>obtain ⟨σ',H',I,q⟩:=h; exact ⟨σ',H',I.re hA hf hp,q⟩
 | brk=>obtain ⟨σ',H',I,q⟩:=h; exact ⟨σ',H',I.re hA hf hp,q⟩
 | cont=>obtain ⟨σ',H',I,q⟩:=h; exact ⟨σ',H',I.re hA hf hp,q⟩
 | ret u=>obtain ⟨v,σ',H',I,r,q⟩:=h; exact ⟨v,σ',H',I.re hA hf hp,r,q⟩
def tTry (n:Nat) (tb:XK→TS) (ts:TS):TS:=fun D σ H=>tb (fun _ _ H'=>∀ σ':St,σ'.length=n→ts D σ' H') D σ H
theorem cd5 {X:Cx}{C:Addr}{x:Str}{np hpos pos:Pos}{body suite:List Stmt}{b₀:Stmt}{tb:XK→TS}{ts:TS}{bm:List Value}{newId:String}(hstk:X.stack=X.env::X.outer) (hfrm:X.env.frame=some X.env.locals)
 (hbase:bm.contains (.type "BaseException")=true) (q:PySem.W.excIn X.K C bm newId=true) (hm:X.mg x=some (.ref C)) (hg:Gl X x)
 (hb:∀ (E:XK) (pn:List (Addr×Obj)) (xe:Value→Shared→Prop),a99 (CXE X.prog X.w C) { X with pn:=pn,xe:=xe } E→PSs { X with pn:=pn,xe:=xe } body (tb E))
 (hs:∀ a:Addr,PSs { X with A:=X.A.mark (some (.ref a)),calm:=false,xe:=fun _ _=>False } (b₀::suite) ts) (hd:(x == ("__debug__":Str))=false:=by decide) :
 PS X (.Try body [.ExceptHandler (some (.Name x np)) none (b₀::suite) hpos] [] [] pos) (tTry X.N.length tb ts):=by
 intro pins s σ H D I h
 have hfr:=I.ok.frames
 obtain ⟨E,hE⟩:∃ E:XK,E=(fun _ _ H'=>∀ σ':St,σ'.length=X.N.length→ts D σ' H'):=⟨_,rfl⟩
 obtain ⟨XE,hXE⟩:∃ XE:Value→Shared→Prop,XE=(fun e s'=>∃ (pins':List (Addr×Obj)) (σ':St) (H0:Hp) (s0:Shared),Inv { X with pn:=X.pn++pins } pins' σ' H0 s0∧CXE X.prog X.w C X.stack H0 s0 E e s'):=⟨_,rfl⟩
 have hbd:=hb E (X.pn++pins) XE (fun pins' σ' H0 s0 e s' I0 hc=>by
  rw [hXE]
  exact ⟨pins',σ',H0,s0,I0.re I0.ok.hd I0.ok.frames (fun _ z=>z),hc⟩)
 have I1:Inv { X with pn:=X.pn++pins,xe:=XE } [] σ H s:=I.re I.ok.hd hfr (by simp)
 unfold tTry at h
 rw [← hE] at h
 refine wpAny_Try_except (wpAny_mono (hbd [] s σ H D I1 h) (fun f s₁ hf=>?_) fun e s₁ he=>?_)
 · have hf':SP X pins D f s₁:=SP.re (X:={ X with pn:=X.pn++pins,xe:=XE }) (pins:=[]) I.ok.hd hfr (by simp) hf
   cases f with
   | next=>obtain ⟨σ',H',I',hq⟩:=hf'; exact a20 pins s₁ σ' H' D I' hq
   | brk=>exact hf'
   | cont=>exact hf'
   | ret u=>exact hf'
 · have he:XE e s₁:=he
   rw [hXE] at he
   obtain ⟨pins',σ',H0,s0,I0,a,tt,H',B,vs,rfl,os,bare,un,ok,cov,fl,tup,hq⟩:=he
   have fr:∀ {h:Heap},h.FunFrames B X.stack→∀ b∈frs X.stack,H0 b=none∧∀ o,h.get? b=some o→∀ vs,o.data≠.fields vs:=fun ff b hb=>⟨I0.stkFree b hb,fun o e=>by
    obtain ⟨_,o',e',hd⟩:=ff.mem hb
    rw [e] at e'
    cases e'
    exact hd⟩
   have fr2:∀ b∈frs X.stack,H' b=none:=fun b hb=>by
    obtain ⟨_,o',e',_⟩:=I0.stack.mem hb
    exact un.free b o' e' (I0.stkFree b hb) (by simp)
   have fl0:=fl
   rw [hstk] at fl hfr
   refine wpAny_looks_onW hfr hfrm fl fun h₄ held₄ up₄=>?_
   refine wpAny_landsW held₄ fun h₅ fl₅ up₅=>?_
   obtain ⟨un5,ok5,cov5⟩:=an7 un ok cov fl₅.1 (up₄.trans up₅) (fr fl0.2.2.1) fr2
   have J5:Inv { X with pn:=X.pn++pins,A:=X.A.mark (some (.ref a)),calm:=false } pins' σ' H0 s0:=I0.re (fun z=>nomatch z) (by exact I.ok.frames) (fun _ z=>z)
   have I5:Inv { X with pn:=X.pn++pins,A:=X.A.mark (some (.ref a)),calm:=false } pins' σ' H' { s₁ with heap:=h₅ }:=J5.call' (ch:=[]) os un5 ok5 bare (fun b z=>absurd z (by simp))
   obtain ⟨bm',NN,nm,qn,bs,hdct,sn,sub,ab,col,dd,k0,k1,k2,k3,k5,mN,hC,hN,hni,TL⟩:=(bb6 (h₀:=h₅) I5.kIn hm q:OwnCls x C bm newId X.mg h₅).obj
   obtain ⟨ob,hob,hobc⟩:=fl₅.there
   refine wpAny_handleBy_cons (codeAny_handlers_test (ac0 I5 hg hm ?_ hd)) (by intro q; cases q)
   refine wpAny_excMatches_sub_self hC hob hobc (TL.hasType hbase) (codeAny_handlers_suite ?_)
   refine lands_againW fl₅ fun h₆ fl₆ up₆=>?_
   have fl5:h₅.FunFrames B X.stack:=by rw [hstk]; exact fl₅.2.2.1
   obtain ⟨un6,ok6,cov6⟩:=an7 un5 ok5 cov5 fl₆.1 up₆ (fr fl5) fr2
   have J6:Inv { X with A:=X.A.mark (some (.ref a)),calm:=false,xe:=fun _ _=>False } pins σ' H0 s0:=I0.re (X:={ X with pn:=X.pn++pins }) (fun z=>nomatch z) (by exact I.ok.frames) (fun p z=>List.mem_append_left _ z)
   have I6:Inv { X with A:=X.A.mark (some (.ref a)),calm:=false,xe:=fun _ _=>False } pins σ' H' { s₁ with heap:=h₆ }:=J6.call' (ch:=[]) os un6 ok6 bare (fun b z=>absurd z (by simp))
   rw [hE] at hq
   exact wpAny_mono (hs a pins _ σ' H' D I6 (hq σ' I0.len)) (fun f s2 hf=>SP.re (X:={ X with A:=X.A.mark (some (.ref a)),calm:=false,xe:=fun _ _=>False }) (pins:=pins) I.ok.hd I.ok.frames (fun _ z=>z) hf) fun e s2 z=>False.elim z
section
variable {σ:St} {H:Hp}{D:Ends}{C:Addr}{E:XK}{t:TA}{n:Nat}{tb:XK→TS}{ts:TS}
theorem by0 (h:t σ H fun vs H1=>vs.length≤sizeLine∧E (.ref C) none H1):bq5 C E t D σ H:=h
theorem cl3 (h:tb (fun _ _ H'=>∀ σ':St,σ'.length=n→ts D σ' H') D σ H):tTry n tb ts D σ H:=h
end
section
variable {X:Cx}{k k':Nat}{f f' C C':Addr}{fd fd':FuncData}{ps ps':List Str}{sp sp':Sp}{m:Str}{pos apos:Pos}{e o:Expr}{es:List Expr}{ta:TE}{t:TA}
end
section
variable {σ:St} {H:Hp}{Q:VK}{ta:TE}{t:TA}{m:Str}{C1 C2:Addr}{sp1 sp2:Sp}
end
section
variable {X:Cx}{tg:Expr}
end
section
variable {σ:St} {H:Hp}{R:It→Hp→Prop}{ts:TA}
end
end L2
namespace L2
end L2
namespace L2
open PySem PySem.Spec PyProof.Rows
@[reducible] def a83 (h:Heap) (T:Addr) (a b:Value):Prop:=h.get? T=some { cls:=.type "tuple",data:=.seq #[a,b] }
theorem a94 {prog:Program}{w:World}{A:Around}{E:Value→Shared→Prop}{s:Shared}{T:Addr}{a b x:Value}{k:Nat}{Q:Unit→Shared→Prop}(h:a83 s.heap T a b)
 (q:∀ h':Heap,h'.get? T=some { cls:=.type "tuple",data:=.seq (#[a,b].setIfInBounds k x) }→Heap.SameBut T s.heap h'→Q () { s with heap:=h' }):wpAny (model prog w) A (updateSeq T fun v=>v.setIfInBounds k x) Q E s:=by
 refine wpAny_updateSeq h rfl (q _ ?_ (Heap.SameBut.update _ _ _)) (by simp [sizeLine_eq]) (by simp [sizeLine_eq])
 rw [Heap.get?_update_self _ h rfl]
 simp [Obj.mapSeq]
structure Apt2 (z TI TO i1 i2 l1 l2:Addr):Prop where
 nd:[z,TI,TO,i1,i2].Nodup
 ls:∀ l∈[l1,l2],l∉[z,TO,i1,i2]
section
variable {prog:Program}{w:World}{z TI TO i1 i2 l1 l2:Addr}{xs ys:Array Value}{st1 st2:Nat→Heap→Prop}
theorem Apt2.all (D:[z,TI,TO,i1,i2].Nodup):z≠TI∧z≠TO∧z≠i1∧z≠i2∧TI≠TO∧TI≠i1∧TI≠i2∧TO≠i1∧TO≠i2∧i1≠i2:=by
 simp only [List.nodup_cons,List.mem_cons,List.not_mem_nil,or_false,not_or,List.nodup_nil,and_true] at D
 obtain ⟨⟨a1,a2,a3,a4⟩,⟨a6,a7,a8⟩,⟨a10,a11⟩,a13,_⟩:=D
 exact ⟨a1,a2,a3,a4,a6,a7,a8,a10,a11,a13⟩
theorem ItS.mv {it l p:Addr}{X:Array Value}{st:Nat→Heap→Prop}{j:Nat}{h h':Heap}(J:ItS prog w it l X st) (hs:st j h) (b:Heap.SameBut p h h') (x1:it≠p) (x2:l≠p):st j h':=J.keep hs fun c o hc e=>by
 rcases hc with rfl | rfl
 · exact a08 b x1 e
 · exact a08 b x2 e
theorem bb7 {A:Around}{E:Value→Shared→Prop}{s:Shared}{k:Nat}{x y a b:Value}{Q:Value→Shared→Prop}
 (D:Apt2 z TI TO i1 i2 l1 l2) (J1:ItS prog w i1 l1 xs st1) (J2:ItS prog w i2 l2 ys st2) (hz:IsZip s.heap z TI TO .none) (hTI:a83 s.heap TI (.ref i1) (.ref i2)) (hTO:a83 s.heap TO a b)
 (h1:st1 k s.heap) (h2:st2 k s.heap) (e1:xs[k]?=some x) (e2:ys[k]?=some y)
 (q:∀ h':Heap,IsZip h' z TI TO (rawInt s.heap.objs.size)→a83 h' TO x y→st1 (k+1) h'→st2 (k+1) h'→a83 h' s.heap.objs.size x y→h'.objs.size=s.heap.objs.size+1→(∀ (c:Addr) (o:Obj),c∉[z,TO,i1,i2]→s.heap.get? c=some o→h'.get? c=some o)→Q (.ref s.heap.objs.size) { s with heap:=h' }) :
 wpAny (model prog w) A (Builtin.«zip.__next__» { pos:=[.ref z] }) (fun fin s'=>∃ v,fin=Fin.done (Flow.ret v)∧Q v s') E s:=by
 obtain ⟨D,D2⟩:=D
 unfold Builtin.«zip.__next__»
 refine wpAny_bind (wpAny_pure ?_)
 refine wpAny_bind (wpAny_field (x:=.bool false) hz rfl rfl ?_)
 refine wpAny_bind (wpAny_field (x:=.ref TI) hz rfl rfl ?_)
 refine wpAny_bind (wpAny_seqItems hTI rfl ?_)
 dsimp only
 rw [if_neg (show ¬ (#[Value.ref i1,Value.ref i2].isEmpty=true) by simp)]
 refine wpAny_bind (wpAny_bind (wpAny_field (x:=.none) hz rfl rfl (wpAny_pure ?_)))
 rw [if_pos rfl]
 refine wpAny_bind (wpAny_rule ?_)
 refine wpAny_bind (wpAny_field (x:=.ref TO) hz rfl rfl ?_)
 dsimp only
 refine wpAny_bind (wpAny_setField_rec hz (by simp) fun g1 z1 b1=>?_)
 refine wpAny_bind ?_
 obtain ⟨n1,n2,n3,n4,n6,n7,n8,n10,n11,n13⟩:=Apt2.all D
 obtain ⟨m1,m2,m3,m4⟩:l1≠z∧l1≠TO∧l1≠i1∧l1≠i2:=by simpa using D2 l1 (by simp)
 obtain ⟨m6,m7,m8,m9⟩:l2≠z∧l2≠TO∧l2≠i1∧l2≠i2:=by simpa using D2 l2 (by simp)
 show wpAny (model prog w) A (forIn [(Value.ref i1,0),(Value.ref i2,1)] (none,()) _) _ E _
 rw [List.forIn_cons]
 refine wpAny_bind (wpAny_bind (wpAny_onRaise ?_))
 refine wpAny_bind (m:=Builtin.SmallTypes.nextOf (.ref i1)) (f:=fun v=>pure (some v)) ?_
 refine J1.item (J1.mv h1 b1 n3.symm m1) e1 fun g2 z2 b2=>wpAny_pure ?_
 dsimp only
 refine wpAny_bind (wpAny_seqItems (items:=#[a,b]) (a08 b2 n10 (a08 b1 n2.symm hTO)) rfl ?_)
 dsimp only
 refine wpAny_bind (a94 (a08 b2 n10 (a08 b1 n2.symm hTO)) fun g3 t3 b3=>?_)
 refine wpAny_bind (wpAny_letGo (wpAny_pure ?_))
 dsimp only
 rw [List.forIn_cons]
 refine wpAny_bind (wpAny_bind (wpAny_onRaise ?_))
 refine wpAny_bind (m:=Builtin.SmallTypes.nextOf (.ref i2)) (f:=fun v=>pure (some v)) ?_
 refine J2.item (J2.mv (J2.mv (J2.mv h2 b1 n4.symm m6) b2 n13.symm m8) b3 n11.symm m7) e2 fun g4 z4 b4=>wpAny_pure ?_
 dsimp only
 have t4:a83 g4 TO x b:=a08 b4 n11 (by rw [t3]; rfl)
 refine wpAny_bind (wpAny_seqItems (items:=#[x,b]) t4 rfl ?_)
 dsimp only
 refine wpAny_bind (a94 t4 fun g5 t5 b5=>?_)
 refine wpAny_bind (wpAny_letGo (wpAny_pure ?_))
 dsimp only
 rw [List.forIn_nil]
 refine wpAny_pure ?_
 dsimp only
 have t5':a83 g5 TO x y:=by rw [a83,t5]; rfl
 refine wpAny_bind (wpAny_seqItems (items:=#[x,y]) t5' rfl ?_)
 dsimp only
 refine wpAny_bind (wpAny_newTuple ?_ (by simp [sizeLine_eq]))
 have sz:g5.objs.size=s.heap.objs.size:=by rw [b5.1,b4.1,b3.1,b2.1,b1.1]
 have zz:g5.get? z=some { cls:=.type "zip",data:=.fields #[.ellipsis,.bool false,.bool false,.ref TI,.ref TO] }:=a08 b5 n2 (a08 b4 n4 (a08 b3 n2 (a08 b2 n3 z1)))
 refine wpAny_bind (wpAny_bind ?_)
 refine wpAny_setField_rec (Heap.get?_push_of_some _ zz) (by simp) fun g8 z8 b8=>?_
 refine wpAny_setField_rec z8 (by simp) fun g9 z9 b9=>?_
 refine wpAny_pure ⟨_,rfl,?_⟩
 have lt:∀ {c:Addr}{o:Obj},g5.get? c=some o→c≠g5.objs.size:=fun e=>Nat.ne_of_lt (Heap.lt_size e)
 have mvp:∀ {it l:Addr}{X:Array Value}{st:Nat→Heap→Prop}{j:Nat},ItS prog w it l X st→st j g5→it≠z→l≠z→st j g9:=fun J hs x1 x2=>J.keep hs fun c o hc e=>by
  rcases hc with rfl | rfl
  · exact a08 b9 x1 (a08 b8 x1 (Heap.get?_push_of_some _ e))
  · exact a08 b9 x2 (a08 b8 x2 (Heap.get?_push_of_some _ e))
 have zne:g5.objs.size≠z:=(lt zz).symm
 rw [sz]
 refine q g9 ?_ ?_ (mvp J1 ?_ n3.symm m1) (mvp J2 ?_ n4.symm m6) ?_ ?_ ?_
 · rw [IsZip,z9]
   simp [sz]
 · exact a08 b9 n2.symm (a08 b8 n2.symm (Heap.get?_push_of_some _ t5'))
 · exact J1.mv (J1.mv (J1.mv z2 b3 n10.symm m2) b4 n13 m4) b5 n10.symm m2
 · exact J2.mv z4 b5 n11.symm m7
 · have:=a08 b9 zne (a08 b8 zne (Heap.get?_push_size g5 rfl))
   rw [← sz]
   exact this
 · rw [b9.1,b8.1,Heap.size_push,sz]
 · intro c o hc e
   simp only [List.mem_cons,List.not_mem_nil,or_false,not_or] at hc
   obtain ⟨c1,c2,c3,c4⟩:=hc
   exact a08 b9 c1 (a08 b8 c1 (Heap.get?_push_of_some _ (a08 b5 c2 (a08 b4 c4 (a08 b3 c2 (a08 b2 c3 (a08 b1 c1 e)))))))
theorem bk6 {A:Around}{E:Value→Shared→Prop}{s:Shared}{k:Nat}{a b:Value}{Q:PySem.Fin→Shared→Prop}(hA:A.handled=none)
 (D:Apt2 z TI TO i1 i2 l1 l2) (J1:ItS prog w i1 l1 xs st1) (J2:ItS prog w i2 l2 ys st2) (hz:IsZip s.heap z TI TO .none) (hTI:a83 s.heap TI (.ref i1) (.ref i2)) (hTO:a83 s.heap TO a b)
 (h1:st1 k s.heap) (h2:st2 k s.heap) (e:xs[k]?=none∨ys[k]?=none)
 (q:∀ (h':Heap) (ex:Addr),(∀ (c:Addr) (o:Obj),c∉[z,TO,i1,i2]→s.heap.get? c=some o→h'.get? c=some o)→(∃ o,h'.get? ex=some o∧o.cls=.type "StopIteration")→E (.ref ex) { s with heap:=h' }) :
 wpAny (model prog w) A (Builtin.«zip.__next__» { pos:=[.ref z] }) Q E s:=by
 obtain ⟨D,D2⟩:=D
 unfold Builtin.«zip.__next__»
 refine wpAny_bind (wpAny_pure ?_)
 refine wpAny_bind (wpAny_field (x:=.bool false) hz rfl rfl ?_)
 refine wpAny_bind (wpAny_field (x:=.ref TI) hz rfl rfl ?_)
 refine wpAny_bind (wpAny_seqItems hTI rfl ?_)
 dsimp only
 rw [if_neg (show ¬ (#[Value.ref i1,Value.ref i2].isEmpty=true) by simp)]
 refine wpAny_bind (wpAny_bind (wpAny_field (x:=.none) hz rfl rfl (wpAny_pure ?_)))
 rw [if_pos rfl]
 refine wpAny_bind (wpAny_rule ?_)
 refine wpAny_bind (wpAny_field (x:=.ref TO) hz rfl rfl ?_)
 dsimp only
 refine wpAny_bind (wpAny_setField_rec hz (by simp) fun g1 z1 b1=>?_)
 refine wpAny_bind ?_
 obtain ⟨n1,n2,n3,n4,n6,n7,n8,n10,n11,n13⟩:=Apt2.all D
 obtain ⟨m1,m2,m3,m4⟩:l1≠z∧l1≠TO∧l1≠i1∧l1≠i2:=by simpa using D2 l1 (by simp)
 obtain ⟨m6,m7,m8,m9⟩:l2≠z∧l2≠TO∧l2≠i1∧l2≠i2:=by simpa using D2 l2 (by simp)
 have fin:∀ {it l p:Addr}{X:Array Value}{st:Nat→Heap→Prop}{g:Heap}{Q':Option Value→Shared→Prop},it∈[i1,i2]→ItS prog w it l X st→st k g→X[k]?=none→(∀ (c:Addr) (o:Obj),c∉[z,TO,i1,i2]→s.heap.get? c=some o→g.get? c=some o)→g.get? z=some { cls:=.type "zip",data:=.fields #[.ellipsis,.bool false,.bool false,.ref TI,.ref TO] }→z≠it →
  wpAny (model prog w) A (Builtin.SmallTypes.nextOf (.ref it) >>= fun v=>pure (some v)) Q' (fun e s'=>wpAny (model prog w) A (setField (.ref z) 0 .none) (fun _ s''=>E e s'') E s') { s with heap:=g }:=fun {it l p X st g Q'} hit J hs hx hk hzz hne=>by
  refine wpAny_bind (J.done hA hs hx fun g' ex b' hex=>?_)
  refine wpAny_setField_rec (b' _ _ hne hzz) (by simp) fun g'' z'' b''=>q g'' ex (fun c o hc e=>?_) ?_
  · have hc':=hc
    simp only [List.mem_cons,List.not_mem_nil,or_false,not_or] at hc
    refine a08 b'' hc.1 (b' c o (fun hq=>?_) (hk c o hc' e))
    subst hq
    simp only [List.mem_cons,List.not_mem_nil,or_false] at hit
    rcases hit with h | h
    · exact hc.2.2.1 h
    · exact hc.2.2.2 h
  · obtain ⟨o,e1,e2⟩:=hex
    by_cases hq:ex=z
    · subst hq
      rw [b' _ _ hne hzz] at e1
      cases e1
      simp at e2
    · exact ⟨o,a08 b'' hq e1,e2⟩
 show wpAny (model prog w) A (forIn [(Value.ref i1,0),(Value.ref i2,1)] (none,()) _) _ E _
 rw [List.forIn_cons]
 refine wpAny_bind (wpAny_bind (wpAny_onRaise ?_))
 have k1:∀ (c:Addr) (o:Obj),c∉[z,TO,i1,i2]→s.heap.get? c=some o→g1.get? c=some o:=fun c o hc e=>by
  simp only [List.mem_cons,List.not_mem_nil,or_false,not_or] at hc
  exact a08 b1 hc.1 e
 cases hx1:xs[k]? with
 | none=>exact fin (p:=z) (by simp) J1 (J1.mv h1 b1 n3.symm m1) hx1 k1 z1 n3
 | some x =>
   refine wpAny_bind (m:=Builtin.SmallTypes.nextOf (.ref i1)) (f:=fun v=>pure (some v)) ?_
   refine J1.item (J1.mv h1 b1 n3.symm m1) hx1 fun g2 z2 b2=>wpAny_pure ?_
   dsimp only
   refine wpAny_bind (wpAny_seqItems (items:=#[a,b]) (a08 b2 n10 (a08 b1 n2.symm hTO)) rfl ?_)
   dsimp only
   refine wpAny_bind (a94 (a08 b2 n10 (a08 b1 n2.symm hTO)) fun g3 t3 b3=>?_)
   refine wpAny_bind (wpAny_letGo (wpAny_pure ?_))
   dsimp only
   rw [List.forIn_cons]
   refine wpAny_bind (wpAny_bind (wpAny_onRaise ?_))
   have k3:∀ (c:Addr) (o:Obj),c∉[z,TO,i1,i2]→s.heap.get? c=some o→g3.get? c=some o:=fun c o hc e=>by
    have hc':=hc
    simp only [List.mem_cons,List.not_mem_nil,or_false,not_or] at hc
    exact a08 b3 hc.2.1 (a08 b2 hc.2.2.1 (k1 c o hc' e))
   have zz3:=a08 b3 n2 (a08 b2 n3 z1)
   have hx2:ys[k]?=none:=by
    rcases e with e | e
    · rw [hx1] at e; cases e
    · exact e
   exact fin (p:=z) (by simp) J2 (J2.mv (J2.mv (J2.mv h2 b1 n4.symm m6) b2 n13.symm m8) b3 n11.symm m7) hx2 k3 zz3 n4
theorem ag8 {A:Around}{E:Value→Shared→Prop}{s:Shared}{k:Nat}{x y a b:Value}{Q:Option Value→Shared→Prop}
 (D:Apt2 z TI TO i1 i2 l1 l2) (J1:ItS prog w i1 l1 xs st1) (J2:ItS prog w i2 l2 ys st2) (hz:IsZip s.heap z TI TO .none) (hTI:a83 s.heap TI (.ref i1) (.ref i2)) (hTO:a83 s.heap TO a b)
 (h1:st1 k s.heap) (h2:st2 k s.heap) (e1:xs[k]?=some x) (e2:ys[k]?=some y)
 (q:∀ h':Heap,IsZip h' z TI TO (rawInt s.heap.objs.size)→a83 h' TO x y→st1 (k+1) h'→st2 (k+1) h'→a83 h' s.heap.objs.size x y→h'.objs.size=s.heap.objs.size+1→(∀ (c:Addr) (o:Obj),c∉[z,TO,i1,i2]→s.heap.get? c=some o→h'.get? c=some o)→Q (some (.ref s.heap.objs.size)) { s with heap:=h' }) :
 wpAny (model prog w) A (pyNext (.ref z)) Q E s:=by
 unfold pyNext
 refine wpAny_bind (wpAny_attempt (wpAny_callSpecial?_slot (T:="zip") ⟨_,hz,rfl⟩ F.slot_zip_next (wpAny_call_entry F.slot_zip_next ⟨_,hz,rfl⟩ F.entry_zip_next ?_ (F.args_zip_next_1 _))))
 exact bb7 D J1 J2 hz hTI hTO h1 h2 e1 e2 fun h' a1 a2 a3 a4 a6 a7 a8=>wpAny_pure (q h' a1 a2 a3 a4 a6 a7 a8)
theorem aj5 {A:Around}{E:Value→Shared→Prop}{s:Shared}{k:Nat}{a b:Value}{Q:Option Value→Shared→Prop}(hA:A.handled=none)
 (D:Apt2 z TI TO i1 i2 l1 l2) (J1:ItS prog w i1 l1 xs st1) (J2:ItS prog w i2 l2 ys st2) (hz:IsZip s.heap z TI TO .none) (hTI:a83 s.heap TI (.ref i1) (.ref i2)) (hTO:a83 s.heap TO a b)
 (h1:st1 k s.heap) (h2:st2 k s.heap) (e:xs[k]?=none∨ys[k]?=none)
 (q:∀ h':Heap,(∀ (c:Addr) (o:Obj),c∉[z,TO,i1,i2]→s.heap.get? c=some o→h'.get? c=some o)→Q none { s with heap:=h' }):wpAny (model prog w) A (pyNext (.ref z)) Q E s:=by
 unfold pyNext
 refine wpAny_bind (wpAny_attempt (wpAny_callSpecial?_slot (T:="zip") ⟨_,hz,rfl⟩ F.slot_zip_next (wpAny_call_entry F.slot_zip_next ⟨_,hz,rfl⟩ F.entry_zip_next ?_ (F.args_zip_next_1 _))))
 refine bk6 (by exact hA) D J1 J2 hz hTI hTO h1 h2 e ?_
 rintro h' ex hk ⟨o,x1,x2⟩
 refine wpAny_bind (wpAny_isInstance (T:="StopIteration") ⟨o,x1,x2⟩ isSubtype_stop ?_)
 rw [if_pos rfl]
 exact wpAny_pure (q h' hk)
end
@[reducible] def z2H (h:Heap) (o1 o2:Obj):Heap:=((((h.push o1).push o2).push { cls:=.type "tuple",data:=.seq #[.ref h.objs.size,.ref (h.objs.size+1)] }).push { cls:=.type "tuple",data:=.seq #[.none,.none] }).push { cls:=.type "zip",data:=.fields #[.none,.bool false,.bool false,.ref (h.objs.size+2),.ref (h.objs.size+3)] }
theorem b47 {l1 l2:Addr}{o1 o2:Obj}{P1 P2:Heap→Prop}(S1:SrcO l1 o1 P1) (S2:SrcO l2 o2 P2):Meets (Builtin.«zip.__new__» { pos:=[.type "zip",.ref l1,.ref l2] }) fun _ R s=>P1 s.heap∧P2 s.heap∧R (.ok (.ret (.ref (s.heap.objs.size+4)))) { s with heap:=z2H s.heap o1 o2 }:=by
 refine Meets.of_wp ?_
 rintro prog w A R s ⟨p1,p2,r⟩
 unfold Builtin.«zip.__new__»
 refine wpAny_bind ?_
 unfold Builtin.SmallTypes.newClass
 dsimp only
 refine wpAny_bind (wpAny_pure ?_)
 rw [if_neg (by decide)]
 refine wpAny_bind ?_
 rw [sub_zip]
 refine wpAny_pure ?_
 rw [if_neg (by decide)]
 refine wpAny_pure ?_
 dsimp only
 rw [if_neg (by decide)]
 refine wpAny_bind ?_
 unfold Builtin.SmallTypes.iterAll
 refine wpAny_bind ?_
 rw [List.forIn_cons]
 refine wpAny_bind (wpAny_bind (wpAny_holding (S1.iter p1 (wpAny_pure ?_))))
 dsimp only
 rw [List.forIn_cons]
 refine wpAny_bind (wpAny_bind (wpAny_holding (S2.iter (S2.push p2) (wpAny_pure ?_))))
 dsimp only
 rw [List.forIn_nil]
 refine wpAny_pure (wpAny_pure ?_)
 refine wpAny_bind (wpAny_newTuple ?_ (by simp [sizeLine_eq]))
 refine wpAny_bind (wpAny_newTuple ?_ (by simp [sizeLine_eq]))
 refine wpAny_bind ?_
 refine wpAny_bind (wpAny_alloc' ?_)
 refine wpAny_pure ?_
 refine wpAny_pure ⟨_,rfl,?_⟩
 simp only [Heap.size_push]
 exact r
theorem aj6 (a b:Value):checkTypeCall "zip" { pos:=[a,b] }=pure ():=by
 with_unfolding_all rfl
theorem al5 (a b:Value):checkBuiltinCall "zip.__new__" { pos:=[.type "zip",a,b] }=pure ():=by
 with_unfolding_all rfl
theorem au3 (a b c:Value):argsOk "object.__init__" { pos:=[a,b,c] }:=by
 with_unfolding_all rfl
theorem ax3 {prog:Program}{w:World}{A:Around}{E:Value→Shared→Prop}{s:Shared}{l1 l2:Addr}{xs ys:Array Value}{Q:Value→Shared→Prop}(p1:s.heap.IsList l1 xs) (p2:s.heap.IsTuple l2 ys)
 (q:∀ h':Heap,IsZip h' (s.heap.objs.size+4) (s.heap.objs.size+2) (s.heap.objs.size+3) .none→a83 h' (s.heap.objs.size+2) (.ref s.heap.objs.size) (.ref (s.heap.objs.size+1))→a83 h' (s.heap.objs.size+3) .none .none →
  h'.IsListIter s.heap.objs.size l1 0→h'.IsTupleIter (s.heap.objs.size+1) l2 0→(∀ (c:Addr) (o:Obj),s.heap.get? c=some o→h'.get? c=some o)→Q (.ref (s.heap.objs.size+4)) { s with heap:=h' }) :
 wpAny (model prog w) A (call (.type "zip") [.ref l1,.ref l2]) Q E s:=by
 refine callType_new F.called_zip (by decide) (aj6 _ _) (al5 _ _) (fun obj=>au3 _ _ _) F.entry_zip_new (b47 (bk2 l1 xs) (bb5 l2 ys)) ⟨p1,p2,?_⟩
 have e4:(z2H s.heap { cls:=.type "list_iterator",data:=.fields #[.ref l1,.int 0 0] } { cls:=.type "tuple_iterator",data:=.fields #[.ref l2,.int 0 0] }).get? (s.heap.objs.size+4)=some { cls:=.type "zip",data:=.fields #[.none,.bool false,.bool false,.ref (s.heap.objs.size+2),.ref (s.heap.objs.size+3)] }:=by
  have:=Heap.get?_push_size ((((s.heap.push { cls:=.type "list_iterator",data:=.fields #[.ref l1,.int 0 0] }).push { cls:=.type "tuple_iterator",data:=.fields #[.ref l2,.int 0 0] }).push { cls:=.type "tuple",data:=.seq #[.ref s.heap.objs.size,.ref (s.heap.objs.size+1)] }).push { cls:=.type "tuple",data:=.seq #[.none,.none] }) (o:={ cls:=.type "zip",data:=.fields #[.none,.bool false,.bool false,.ref (s.heap.objs.size+2),.ref (s.heap.objs.size+3)] }) rfl
  simp only [Heap.size_push] at this
  exact this
 refine ⟨⟨_,e4,rfl⟩,q _ e4 ?_ ?_ ?_ ?_ ?_⟩
 · have:=Heap.get?_push_size ((s.heap.push { cls:=.type "list_iterator",data:=.fields #[.ref l1,.int 0 0] }).push { cls:=.type "tuple_iterator",data:=.fields #[.ref l2,.int 0 0] }) (o:={ cls:=.type "tuple",data:=.seq #[.ref s.heap.objs.size,.ref (s.heap.objs.size+1)] }) rfl
   simp only [Heap.size_push] at this
   exact Heap.get?_push_of_some _ (Heap.get?_push_of_some _ this)
 · have:=Heap.get?_push_size (((s.heap.push { cls:=.type "list_iterator",data:=.fields #[.ref l1,.int 0 0] }).push { cls:=.type "tuple_iterator",data:=.fields #[.ref l2,.int 0 0] }).push { cls:=.type "tuple",data:=.seq #[.ref s.heap.objs.size,.ref (s.heap.objs.size+1)] }) (o:={ cls:=.type "tuple",data:=.seq #[.none,.none] }) rfl
   simp only [Heap.size_push] at this
   exact Heap.get?_push_of_some _ this
 · refine ⟨_,Heap.get?_push_of_some _ (Heap.get?_push_of_some _ (Heap.get?_push_of_some _ (Heap.get?_push_of_some _ (Heap.get?_push_size s.heap rfl)))),rfl,rfl⟩
 · have:=Heap.get?_push_size (s.heap.push { cls:=.type "list_iterator",data:=.fields #[.ref l1,.int 0 0] }) (o:={ cls:=.type "tuple_iterator",data:=.fields #[.ref l2,.int 0 0] }) rfl
   simp only [Heap.size_push] at this
   exact ⟨_,Heap.get?_push_of_some _ (Heap.get?_push_of_some _ (Heap.get?_push_of_some _ this)),rfl,rfl⟩
 · intro c o e
   exact Heap.get?_push_of_some _ (Heap.get?_push_of_some _ (Heap.get?_push_of_some _ (Heap.get?_push_of_some _ (Heap.get?_push_of_some _ e))))
def bk7 (K:PySem.W.Frag) (a b:Addr):It :=
 ⟨fun i H=>∃ xs ys x y,SqL K H a xs∧SqT K H b ys∧xs[i]?=some x∧ys[i]?=some y,
  fun i H v H'=>∃ p x y,v=.ref p∧H p=none∧Same H H'∧H' p=some (.tup [x,y])∧(∀ xs,SqL K H a xs→xs[i]?=some x)∧(∀ ys,SqT K H b ys→ys[i]?=some y),
  fun i H=>∃ xs ys,SqL K H a xs∧SqT K H b ys∧(xs.length≤i∨ys.length≤i)⟩
theorem b48 {P:Program}{w:World}{K:PySem.W.Frag}{elts:List Expr}{x1:Nat}{pos:Pos}(a b z TI TO i1 i2:Addr) (D:Apt2 z TI TO i1 i2 a b) (E1:a≠i1) (E2:b≠i2) :
 Turn P w K (.Tuple elts x1 pos) (bk7 K a b) [z,TI,TO,i1,i2] z (fun i h=>IsZip h z TI TO .none∧a83 h TI (.ref i1) (.ref i2)∧(∃ a b,a83 h TO a b)∧h.IsListIter i1 a i∧h.IsTupleIter i2 b i) where
 mem:=by simp
 obj:=fun i h st d hd=>by
  obtain ⟨hz,hTI,⟨a,b,hTO⟩,⟨o1,h1,_,d1⟩,⟨o2,h2,_,d2⟩⟩:=st
  rcases (by simpa using hd:d=z∨d=TI∨d=TO∨d=i1∨d=i2) with rfl | rfl | rfl | rfl | rfl
  · exact ⟨_,hz,fun v q=>by cases q⟩
  · exact ⟨_,hTI,fun v q=>by cases q⟩
  · exact ⟨_,hTO,fun v q=>by cases q⟩
  · exact ⟨_,h1,fun v q=>by rw [d1] at q; cases q⟩
  · exact ⟨_,h2,fun v q=>by rw [d2] at q; cases q⟩
 keep:=fun i h h' st k=>by
  obtain ⟨hz,hTI,⟨a,b,hTO⟩,h1,h2⟩:=st
  exact ⟨k z (by simp) _ hz,k TI (by simp) _ hTI,⟨a,b,k TO (by simp) _ hTO⟩,h1.at fun o x=>k i1 (by simp) o x,an6 h2 fun o x=>k i2 (by simp) o x⟩
 item:=by
  intro X hP hw hK hc i pins s σ H E I hf st hg
  subst hP hw hK
  obtain ⟨xs,ys,x,y,hqa,hqb,hx,hy⟩:=hg
  obtain ⟨it1,rv1,p1,hz1⟩:=I.list hqa
  obtain ⟨it2,rv2,p2,hz2⟩:=I.tuple hqb
  obtain ⟨u1,hu1,ru1⟩:=rv1.get hx
  obtain ⟨u2,hu2,ru2⟩:=rv2.get hy
  obtain ⟨hz,hTI,⟨a',b',hTO⟩,h1,h2⟩:=st
  have fr:H s.heap.objs.size=none:=I.hok.fresh (Nat.le_refl _)
  have lt:∀ d∈[z,TI,TO,i1,i2],d<s.heap.objs.size:=fun d hd=>by
   obtain ⟨o1,e1,_⟩:=h1
   obtain ⟨o2,e2,_⟩:=h2
   rcases (by simpa using hd:d=z∨d=TI∨d=TO∨d=i1∨d=i2) with rfl | rfl | rfl | rfl | rfl
   · exact Heap.lt_size hz
   · exact Heap.lt_size hTI
   · exact Heap.lt_size hTO
   · exact Heap.lt_size e1
   · exact Heap.lt_size e2
  refine ag8 (k:=i) D (b07 (xs:=it1.toArray) E1) (au2 (xs:=it2.toArray) E2) hz hTI hTO ⟨h1,p1.isList⟩ ⟨h2,p2⟩ (x:=u1) (y:=u2) (by simpa using hu1) (by simpa using hu2) fun h' a1 a2 a3 a4 a6 a7 hk=>?_
  have I1:Inv X pins σ H { s with heap:=h' }:=I.turnedL (t':=s.toks) (ch:=[z,TI,TO,i1,i2]) (fun d o hd q=>hk d o (fun e=>hd (by simp at e ⊢; rcases e with e | e | e | e <;> simp [e])) q) hf
  have I2:Inv X pins σ (upd H s.heap.objs.size (.tup [x,y])) { s with heap:=h' }:=I1.adopt (o:=.tup [x,y]) fr I.sz (Nat.ne_of_gt I.lt) (fun n c ec e=>by
   obtain ⟨v,q⟩:=I.cell n c ec
   exact absurd q.lt (by rw [e]; exact Nat.lt_irrefl _)) (fun q hq e=>absurd (Heap.lt_size (I.pin q hq).1) (by rw [e]; exact Nat.lt_irrefl _))
   ⟨le_line (by simp),[u1,u2],.cons ru1 (.cons ru2 .nil),⟨_,a6,rfl,_,rfl⟩⟩
  have hf2:∀ d∈[z,TI,TO,i1,i2],FpOk X pins (upd H s.heap.objs.size (.tup [x,y])) d:=fun d hd=>⟨by rw [a14 (Nat.ne_of_lt (lt d hd))]; exact (hf d hd).1,(hf d hd).2⟩
  obtain ⟨nd,_⟩:=D
  obtain ⟨n1,n2,n3,n4,n6,n7,n8,n10,n11,n13⟩:=Apt2.all nd
  refine ⟨_,rfl,wpAny_letOwnedTupleGo_zip a1 fun h2' hz' hs'=>⟨.ref s.heap.objs.size,_,I2.turnedL (t':=s.toks) (ch:=[z]) (fun d o hd q=>(hs'.2 d (fun e=>hd (by simp [e]))).trans q) (fun d hd=>hf2 d (by simp at hd; simp [hd])),rfl,⟨s.heap.objs.size,x,y,rfl,fr,Same.new fr,a18,fun q hq=>by rw [I.list_inj hq hqa]; exact hx,fun q hq=>by rw [I.tuple_inj hq hqb]; exact hy⟩,⟨hz',a08 hs' (Ne.symm n1) (hk _ _ (by simp [Ne.symm n1,n6,n7,n8]) hTI),⟨_,_,a08 hs' (Ne.symm n2) a2⟩,a3.1.extBut hs'.extBut (Ne.symm n3),a4.1.extBut hs'.extBut (Ne.symm n4)⟩,fun d hd=>(hf2 d hd).1⟩⟩
 done:=by
  intro X hP hw hK hc i pins s σ H E I hf st hg
  subst hP hw hK
  obtain ⟨xs,ys,hqa,hqb,hx⟩:=hg
  obtain ⟨it1,rv1,p1,hz1⟩:=I.list hqa
  obtain ⟨it2,rv2,p2,hz2⟩:=I.tuple hqb
  obtain ⟨hz,hTI,⟨a',b',hTO⟩,h1,h2⟩:=st
  have l1:=rv1.length
  have l2:=rv2.length
  refine aj5 (k:=i) (I.ok.hd hc) D (b07 (xs:=it1.toArray) E1) (au2 (xs:=it2.toArray) E2) hz hTI hTO ⟨h1,p1.isList⟩ ⟨h2,p2⟩ ?_ fun h' hk=>⟨rfl,I.turnedL (t':=s.toks) (ch:=[z,TI,TO,i1,i2]) (fun d o hd q=>hk d o (fun e=>hd (by simp at e ⊢; rcases e with e | e | e | e <;> simp [e])) q) hf⟩
  rcases hx with e | e
  · exact .inl (by simp; omega)
  · exact .inr (by simp; omega)
 self:=fun A i s Q E st h=>wpAny_pyIter_zip st.1 h
section
variable {X:Cx}{elts:List Expr}{x1:Nat}{tpos:Pos}
def bq6 (K:PySem.W.Frag) (ta:TA):TI:=fun σ H R=>ta σ H fun vs H1=>∃ a b,vs=[.ref a,.ref b]∧(∃ xs,SqL K H1 a xs)∧(∃ ys,SqT K H1 b ys)∧R (bk7 K a b) H1
theorem bk8 (K:PySem.W.Frag) {a b:Expr}{ta:TA}{p pos:Pos}(hg:Gl X "zip") (hm:X.mg "zip"=none) (ha:PA X [a,b] ta) (hs:starEach [a,b] X.env=[(false,eval a X.env),(false,eval b X.env)]:=by rfl) (hs2:starEach [b] X.env=[(false,eval b X.env)]:=by rfl) (hK:X.K=K:=by rfl) :
 PI X (.Tuple elts x1 tpos) (.Call (.Name "zip" p) [a,b] [] pos) (bq6 K ta):=by
 subst hK
 intro pins s σ H R I h
 refine Call_ (am0 I hg hm ba0 (PyProof.Rows.callWith_type1 (thn (ha pos pins s σ H _ I h) fun us s1 ⟨vs,H1,I1,r1,q1⟩=>?_) (by rw [hs,hs2]) (by rw [hs2]; rfl)))
 obtain ⟨l1,l2,e,⟨xs,hq1⟩,⟨ys,hq2⟩,q⟩:=q1
 subst e
 obtain ⟨u1,u2,rfl,r2,r3⟩:=vals2 r1
 cases r2
 cases r3
 obtain ⟨it1,rv1,p1,hz1⟩:=I1.list hq1
 obtain ⟨it2,rv2,p2,hz2⟩:=I1.tuple hq2
 have a1:l1<s1.heap.objs.size:=by obtain ⟨_,e,_⟩:=p1.isList; exact Heap.lt_size e
 have a2:l2<s1.heap.objs.size:=by obtain ⟨_,e,_⟩:=p2; exact Heap.lt_size e
 refine ax3 p1.isList p2 fun h' b1 b2 b3 b4 b5 hk=>?_
 refine wpAny_pyIter_zip b1 ?_
 have fp:∀ d,s1.heap.objs.size≤d→FpOk X pins H1 d:=fun d hd=>I1.fpOk hd (I1.hok.fresh hd)
 generalize s1.heap.objs.size=m at a1 a2 b1 b2 b3 b4 b5 fp ⊢
 have hA1:l1<m:=a1
 have hA2:l2<m:=a2
 have ne:∀ {l k:Addr},l<m→l≠m+k:=fun {l k} h=>Nat.ne_of_lt (Nat.lt_of_lt_of_le h (Nat.le_add_right _ _))
 have D:Apt2 (m+4) (m+2) (m+3) m (m+1) l1 l2:=by
  constructor
  · simp
  · intro l hl
    have hlm:l<m:=by
     simp only [List.mem_cons,List.not_mem_nil,or_false] at hl
     rcases hl with rfl | rfl
     · exact hA1
     · exact hA2
    simp only [List.mem_cons,List.not_mem_nil,or_false,not_or]
    exact ⟨ne hlm,ne hlm,Nat.ne_of_lt hlm,ne hlm⟩
 refine ⟨m+4,[m+4,m+2,m+3,m,m+1],_,_,H1,rfl,I1.kept (t':=s1.toks) hk,b48 l1 l2 _ _ _ _ _ D (Nat.ne_of_lt hA1) (ne hA2),⟨b1,b2,⟨_,_,b3⟩,b4,b5⟩,fun d hd=>fp d ?_,q⟩
 simp only [List.mem_cons,List.not_mem_nil,or_false] at hd
 rcases hd with rfl | rfl | rfl | rfl | rfl
 · exact Nat.le_add_right _ _
 · exact Nat.le_add_right _ _
 · exact Nat.le_add_right _ _
 · exact Nat.le_refl _
 · exact Nat.le_add_right _ _
end
theorem by1 {K:PySem.W.Frag}{σ:St} {H:Hp}{R:It→Hp→Prop}{ts:TA}(h:ts σ H fun vs H1=>∃ a b,vs=[.ref a,.ref b]∧(∃ xs,SqL K H1 a xs)∧(∃ ys,SqT K H1 b ys)∧R (bk7 K a b) H1):bq6 K ts σ H R:=h
theorem bk9 {K:PySem.W.Frag}{a b:Addr}{xs ys:List V}{te:TE}{tt:TT}{caps:List Nat}{σ:St} {H:Hp}{Q:VK}(hl2:xs.length=ys.length) (hz:xs.length≤sizeLine) (Pv:Nat→List V→Hp→Prop) (h0:Pv 0 [] H) (hl:∀ i acc H,Pv i acc H→acc.length≤i∧SqL K H a xs∧SqT K H b ys)
 (hs:∀ i x z acc H H2,xs[i]?=some x→ys[i]?=some z→Pv i acc H→Same H H2→tt (some x::some z::capV caps σ) H2 fun b H4=>if b=true then te (some x::some z::capV caps σ) H4 fun y H5=>Pv (i+1) (acc++[y]) H5 else Pv (i+1) acc H4)
 (hd:∀ acc H,Pv xs.length acc H→New H (.lst acc) Q):ap3 (bk7 K a b) (gTup K 2 (bg1 (al3 0) (bg1 (al3 1) gNil))) tt te 2 caps σ H Q:=by
 refine ⟨fun i m acc σ' H=>m=xs.length - i∧i≤xs.length∧(∃ u v,σ'=u::v::capV caps σ)∧Pv i acc H,⟨xs.length,by simp,Nat.zero_le _,⟨none,none,rfl⟩,h0⟩,?_⟩
 rintro i m acc σ' H' ⟨rfl,hi,⟨u0,v0,rfl⟩,p⟩
 obtain ⟨hl1,hq,hq2⟩:=hl i acc H' p
 by_cases hlt:i<xs.length
 · have hlt2:i<ys.length:=by omega
   refine .inr ⟨⟨xs,ys,xs[i],ys[i],hq,hq2,by simp [hlt],by simp [hlt2]⟩,by omega,fun ac σ2 H2=>(∃ u v,σ2=u::v::capV caps σ)∧Pv (i+1) ac H2,fun ac σ2 H2 ⟨e,p'⟩=>⟨xs.length - (i+1),by omega,rfl,hlt,e,p'⟩,fun x H2 y=>?_⟩
   obtain ⟨q,x,z,rfl,hn,sm,hT,hx,hy⟩:=y
   have hst:=hs i x z acc H' H2 (hx xs hq) (hy ys hq2) p sm
   have eN:∀ ac H5,((∃ u1 v1,some x::some z::capV caps σ=u1::v1::capV caps σ)∧Pv (i+1) ac H5)=Pv (i+1) ac H5:=fun ac H5=>propext ⟨And.right,fun p=>⟨⟨_,_,rfl⟩,p⟩⟩
   refine ⟨q,[x,z],rfl,SqT.of hT,rfl,x,[z],rfl,z,[],rfl,rfl,?_⟩
   show tt (some x::some z::capV caps σ) _ fun b H4=>if b=true then te (some x::some z::capV caps σ) H4 fun y H5=>((∃ u1 v1,some x::some z::capV caps σ=u1::v1::capV caps σ)∧Pv (i+1) (acc++[y]) H5) else ((∃ u1 v1,some x::some z::capV caps σ=u1::v1::capV caps σ)∧Pv (i+1) acc H4)
   simp only [eN]
   exact hst
 · have e:i=xs.length:=by omega
   subst e
   exact .inl ⟨⟨xs,ys,hq,hq2,.inl (Nat.le_refl _)⟩,New.to (hd acc H' p)⟩
section
variable {X:Cx}
end
theorem aq0 {P:Program}{w:World}{K:PySem.W.Frag}{mg:Str→Option Value}{base:Heap}{N:List Str}{qual:Str}{scope:Scope}{f C:Addr}{cd:Value}{A:Around}{outer:List Env}{s:Shared}{H:Hp}{E:XK} :
 a99 (CXE P w C) (cxOf (CXE P w C) P w K mg base N qual scope f cd A outer s H E) E:=by
 intro pins σ H0 s0 e s' I hc
 obtain ⟨a,tt,H',B,vs,rfl,os,bare,un,ok,cov,fl,tup,q⟩:=hc
 have I1:Inv (cxOf (CXE P w C) P w K mg base N qual scope f cd A outer s H E) pins σ H' s':=I.call' (ch:=[]) os un ok bare (fun b z=>absurd z (by simp))
 have hstk:=I1.stack
 have hfree:=I1.stkFree
 have hfrm:=I1.ok.frames
 have hun0:=I.base
 have hun:=I1.base
 have hok:=I1.hok
 have hos:=I1.os
 have hbare:=I1.bare
 have hfrf:=I1.ok.frf
 dsimp only [cxOf,Cx.fs] at hstk hfree hfrm hun hun0 hok hos hfrf un cov fl ⊢
 have hin:∀ env∈(envOfC qual scope s.heap.objs.size f cd::outer),∀ b,env.frame=some b→b∈frs (envOfC qual scope s.heap.objs.size f cd::outer):=fun env he b hb=>List.mem_filterMap.mpr ⟨env,he,hb⟩
 have hmem:∀ b,b∈frs outer→b∈frs (envOfC qual scope s.heap.objs.size f cd::outer):=fun b hb=>by
  obtain ⟨env,he,hf⟩:=List.mem_filterMap.mp hb
  exact hin env (List.mem_cons_of_mem _ he) b hf
 have notin:∀ b o,s.heap.get? b=some o→b∉frs outer→b∉frs (envOfC qual scope s.heap.objs.size f cd::outer):=fun b o e hb hm=>by
  obtain ⟨env,he,hf⟩:=List.mem_filterMap.mp hm
  rcases List.mem_cons.mp he with rfl | he
  · have z:s.heap.objs.size=b:=Option.some.inj hf
    rw [← z] at e
    exact absurd (Heap.lt_size e) (Nat.lt_irrefl _)
  · exact hb (List.mem_filterMap.mpr ⟨env,he,hf⟩)
 refine wpAny_leaves_onW hfrm rfl fl fun h2 fl2 up=>?_
 have cov2:Cov (frs outer) H H' s.heap s'.heap B :=
  ⟨fun b o e n hb=>cov.old b o (hun0.keep b o e n hb (by simp)) (hun0.free b o e n (by simp)) (notin b o e hb),fun b o e hb=>by
   obtain ⟨o',e'⟩:=hun0.there b o e (by simp)
   exact cov.ther b o' e' (notin b o e hb),cov.abs⟩
 obtain ⟨u2,ok2,c2⟩:=an7 hun hok cov2 fl2.1 up (fun b hb=>⟨hfrf b hb,fun o e=>by
  obtain ⟨_,o',e',hd⟩:=hstk.mem (hmem b hb)
  rw [e] at e'
  cases e'
  exact hd⟩) fun b hb=>hfree b (hmem b hb)
 exact ⟨a,tt,H',B,vs,rfl,hos,hbare,u2,ok2,c2,fl2,tup.of_slots up,q⟩
section
variable {X:Cx}
end
section
variable {X:Cx}{P:Params}
theorem b11 {H:Hp}{a:Addr}{o o':HO}:upd (upd H a o) a o'=upd H a o':=by
 funext b
 by_cases h:b=a
 · subst h; rw [a18,a18]
 · rw [a14 h,a14 h,a14 h]
end
end L2
namespace HT
open PySem PySem.Spec PyProof.Rows
section
variable {prog:Program}{w:World}{A:Around}{E:Value→Shared→Prop}{s:Shared}
theorem b49 (n:Nat):Builtin.Slice.sliceAdjust none none (-1) (n:Int)=((n:Int) - 1,-1):=by
 unfold Builtin.Slice.sliceAdjust
 simp
theorem b50 (n:Nat):Builtin.Slice.slicePlaces ((n:Int) - 1) (-1) (-1)=n:=by
 unfold Builtin.Slice.slicePlaces
 simp
 omega
theorem ag9 {sl:Addr}{u:Tok}{n:Nat}{Q:Int×Int×Nat→Shared→Prop}(hs:s.heap.IsSliceOf sl .none .none (.int (-1) u))
 (h:Q ((n:Int) - 1,-1,n) s):wpAny (model prog w) A (Builtin.Slice.sliceApplied (.ref sl) (pure (n:Int))) Q E s:=by
 obtain ⟨os,hos,hcs,hds⟩:=id hs
 unfold Builtin.Slice.sliceApplied Builtin.Slice.sliceFields
 refine wpAny_bind (wpAny_bind (wpAny_field hos hds (x:=.none) rfl (wpAny_bind (wpAny_field hos hds (x:=.none) rfl (wpAny_bind (wpAny_field hos hds (x:=.int (-1) u) rfl (wpAny_pure ?_)))))))
 refine wpAny_bind (slicePart_int ?_)
 show wpAny _ _ (if ((-1:Int) == 0)=true then _ else _) _ _ s
 rw [if_neg (by decide)]
 refine wpAny_bind (slicePart_none (wpAny_bind (slicePart_none (wpAny_bind (wpAny_pure ?_)))))
 show wpAny _ _ (match Builtin.Slice.sliceAdjust none none (-1) (n:Int) with | (lo,hi)=>pure (lo,(-1:Int),Builtin.Slice.slicePlaces lo hi (-1))) _ _ s
 rw [b49 n]
 show wpAny _ _ (pure ((n:Int) - 1,(-1:Int),Builtin.Slice.slicePlaces ((n:Int) - 1) (-1) (-1))) _ _ s
 rw [b50]
 exact wpAny_pure h
theorem bb8 (xs:Array Value):((List.range xs.size).filterMap fun (m:Nat)=>xs[(((xs.size:Int) - 1)+(m:Int)*(-1)).toNat]?).toArray=xs.toList.reverse.toArray:=by
 congr 1
 refine List.ext_getElem? fun k=>?_
 have key:∀ n,n≤xs.size→(List.range n).filterMap (fun (m:Nat)=>xs[(((xs.size:Int) - 1)+(m:Int)*(-1)).toNat]?)=xs.toList.reverse.take n:=fun n=>by
  induction n with
  | zero=>intro _; simp
  | succ n ih =>
    intro hn
    rw [List.range_succ,List.filterMap_append,ih (by omega),List.take_add_one]
    congr 1
    have e:(((xs.size:Int) - 1)+(n:Int)*(-1)).toNat=xs.size - 1 - n:=by omega
    rw [List.getElem?_reverse (by simpa using (show n<xs.size by omega))]
    simp only [List.filterMap_cons,List.filterMap_nil,e]
    simp [show xs.size - 1 - n<xs.size by omega]
 rw [key _ (Nat.le_refl _),List.take_of_length_le (by simp)]
theorem getItem_tuple_rev {t sl:Addr}{items:Array Value}{u:Tok}{Q:Value→Shared→Prop}(ht:IsTup s.heap t items) (hs:s.heap.IsSliceOf sl .none .none (.int (-1) u))
 (h:Q (.ref s.heap.objs.size) { s with heap:=s.heap.push { cls:=.type "tuple",data:=.seq items.toList.reverse.toArray } })
 (hsz:items.size≤sizeLine):wpAny (model prog w) A (getItem (.ref t) (.ref sl)) Q E s:=by
 have htake:sizeOk (.seq items.toList.reverse.toArray):=by
  show items.toList.reverse.toArray.size≤sizeLine
  rw [List.size_toArray,List.length_reverse,Array.length_toList]
  exact hsz
 obtain ⟨os,hos,hcs,hds⟩:=id hs
 have hTs:s.TypeIs (.ref sl) "slice":=⟨os,hos,hcs⟩
 unfold getItem
 try with_reducible refine wpAny_holding ?_
 first | refine wpAny_bind (wpAny_pure ?_) | skip
 refine wpAny_bind (wpAny_sequenceKey ht.typeIs (by decide) ?_)
 refine wpAny_bind (wpAny_callSpecial?_slot (name:=Str.ofString "__getitem__") ht.typeIs PyProof.Rows.slot_tuple_getitem
  (wpAny_call_entry PyProof.Rows.slot_tuple_getitem ht.typeIs entry_tuple_getitem ?_ (args_tuple_getitem _ _)))
 show wpAny _ _ (Builtin.Tuple.tupleItemsOf (.ref t) >>= _) _ _ s
 refine wpAny_bind (tupleItemsOf_ ht ?_)
 refine wpAny_bind (wpAny_typeOf hTs ?_)
 rw [if_pos (by decide)]
 refine wpAny_bind (ag9 hs ?_)
 have hno:¬ ((((items.size:Int) - 1) == 0 && (-1:Int) == 1 && items.size == items.size)=true):=by
  intro q
  rw [Bool.and_eq_true,Bool.and_eq_true] at q
  exact absurd (eq_of_beq q.1.2) (by decide)
 show wpAny _ _ (if (((items.size:Int) - 1) == 0 && (-1:Int) == 1 && items.size == items.size)=true then _ else _) _ _ s
 rw [if_neg hno,bb8]
 first
  | exact wpAny_bind (m:=Builtin.Tuple.tupleExact _) (wpAny_newObj_type (wpAny_pure ⟨_,rfl,wpAny_pure h⟩) htake)
  | exact wpAny_bind (m:=Builtin.Tuple.tupleExact _) (wpAny_newObj_type (wpAny_bind (wpAny_pure (wpAny_pure ⟨_,rfl,wpAny_pure h⟩))) htake)
  | exact wpAny_bind (wpAny_bind (m:=Builtin.Tuple.tupleExact _) (wpAny_newObj_type (wpAny_pure (wpAny_pure ⟨_,rfl,wpAny_pure h⟩)) htake))
  | exact wpAny_bind (wpAny_bind (m:=Builtin.Tuple.tupleExact _) (wpAny_newObj_type (wpAny_pure ⟨_,rfl,wpAny_pure h⟩) htake))
end
end HT
namespace L2
open PySem PySem.Spec PyProof.Rows
def cd6 (K:PySem.W.Frag) (te ts:TE):TE:=fun σ H Q=>te σ H fun x H1=>ts σ H1 fun y H2=>y=.int (-1)∧∃ a xs,x=.ref a∧SqT K H2 a xs∧New H2 (.tup xs.reverse) Q
section
variable {X:Cx}{e st:Expr}{te ts:TE}{p2 pos:Pos}
theorem by2 (K:PySem.W.Frag) (he:PE X e te) (hs:PE X st ts) (ht:∀ (o r:Value),letTemporaryGo e o r=pure ():=by intro _ _; rfl) (hK:X.K=K:=by rfl):PE X (.Subscript e (.Slice none none (some st) p2) pos) (cd6 K te ts):=by
 subst hK
 intro pins s σ H Q I h
 refine wpAny_Subscript_Slice_step PyProof.Rows.slot_tuple_getitem.lookup (thn (he pins s σ H _ I h) ?_) ht
 rintro v s1 ⟨x,H1,I1,r1,q1⟩
 refine wpAny_Slice ?_
 rw [evalPart_none]
 refine wpAny_pure ?_
 refine wpAny_pure ?_
 rw [evalPart_some]
 refine thn (hs pins s1 σ H1 _ I1 q1) ?_
 rintro w2 s2 ⟨y,H2,I2,r2,q2⟩
 obtain ⟨rfl,a,xs,rfl,hS,q⟩:=q2
 cases r1
 obtain ⟨t,rfl⟩:=r2
 have I3:Inv X pins σ H2 { s2 with heap:=s2.heap.push { cls:=.type "slice",data:=.fields #[.none,.none,.int (-1) t] } }:=I2.kept (t':=s2.toks) fun b ob q=>Heap.get?_push_of_some _ q
 obtain ⟨its,v1,p1,hz⟩:=I3.tuple hS
 refine ⟨p1.typeIs,HT.getItem_tuple_rev p1 (Heap.IsSliceOf.new ..) ?_ (by rw [List.size_toArray,←v1.length]; exact hz)⟩
 refine ⟨.ref _,_,I3.laid (t':=s2.toks) (o:=.tup xs.reverse) (fun b ob q=>Heap.get?_push_of_some _ q) (Nat.le_refl _) ?_,rfl,New.to q _ (I3.hok.fresh (Nat.le_refl _))⟩
 exact ⟨by rw [List.length_reverse]; exact hz,its.reverse,v1.reverse,IsTup.new _ _⟩
end
def cl4:List V→Hp→VK→Prop:=fun vs H Q=>∃ x,vs=[.str x]∧(reprText x).length≤sizeLine∧Q (.str (reprText x)) H
theorem by3 {X:Cx}:CallR X (.builtin "repr") cl4:=by
 intro pins s σ H xs us Q I r h
 obtain ⟨x,rfl,hz,q⟩:=h
 obtain ⟨u,rfl,t,rfl⟩:=ao5 r
 exact P.repr_of_str ⟨.str _,H,I.kept (h':=s.heap) (t':=s.toks+1) fun b o e=>e,⟨_,rfl⟩,q⟩ hz
theorem by4:bootBuiltins "repr"=some (.builtin "repr"):=by decide +kernel
theorem passE0 {X:Cx}{P:Program}{w:World}{C:Addr}:a99 (CXE P w C) X E0:=by
 intro pins σ H0 s0 e s' I hc
 obtain ⟨a,tt,H',B,vs,rfl,os,bare,un,ok,cov,fl,tup,q⟩:=hc
 exact q.elim
section
variable {K:PySem.W.Frag}{H:Hp}{Q:VK}
theorem by5 {z:Str}(h:Q (.bl false) H):rIsi K [V.str z,V.ty "tuple"] H Q:=⟨_,_,_,false,rfl,.str z,by rfl,h⟩
theorem by6 {z:Int}(h:Q (.bl false) H):rIsi K [V.int z,V.ty "tuple"] H Q:=⟨_,_,_,false,rfl,.int z,by rfl,h⟩
theorem by7 {z:Int}(h:Q (.bl false) H):rIsi K [V.int z,V.ty "str"] H Q:=⟨_,_,_,false,rfl,.int z,by rfl,h⟩
end
section
variable {prog:Program}{w:World}
variable {A:Around}{E:Value→Shared→Prop}{s:Shared}
end
section
variable {prog:Program}{w:World}{A:Around}{R:Result→Shared→Prop}{I:Addr}{fp wr:List Addr}{G:Array GenState→Array GenState→Prop}{n:Nat}{P:Nat→Value→Prop}{St:Nat→Shared→Prop}
end
section
variable {prog:Program}{w:World}{A:Around}{E:Value→Shared→Prop}{s:Shared}
end
section
variable {prog:Program}{w:World}{A:Around}{E:Value→Shared→Prop}{s:Shared}{S it tp:Addr}{o:Obj}{es:Array (Int×Value)}{ep i:Nat}{t:SetTable}{first:Value}
end
section
variable {prog:Program}{w:World}{A:Around}{E:Value→Shared→Prop}{s:Shared}{S:Addr}{es:Array (Int×Value)}
end
section
variable {prog:Program}{w:World}{A:Around}{E:Value→Shared→Prop}{s:Shared}{S:Addr}{es:Array (Int×Value)}
end
section
variable {X:Cx}{P:Program}{w:World}
end
section
variable {X:Cx}
end
section
variable {X:Cx}
end
section
variable {σ:St} {H:Hp}{nn bb cc:St→Hp→Prop}{rr:VK}{t u:TS}
theorem bq7 (h:∀ N:St→Hp→Prop,(∀ σ H,u ⟨nn,rr,bb,cc⟩ σ H→N σ H)→t ⟨N,rr,bb,cc⟩ σ H):tSeq t u ⟨nn,rr,bb,cc⟩ σ H:=h _ fun _ _ x=>x
theorem bq8 {P N:St→Hp→Prop}(e:∀ σ H,P σ H→N σ H) (h:P σ H):N σ H:=e σ H h
end
def BxAt (H:Hp) (v:V) (b:Str×Int):Prop:=∃ p,v=.ref p∧H p=some (.tup [.str b.1,.int b.2])
theorem BxAt.same {H H':Hp}{v:V}{b:Str×Int}(h:BxAt H v b) (s:Same H H'):BxAt H' v b:=by
 obtain ⟨p,h1,h2⟩:=h
 exact ⟨p,h1,s _ _ h2⟩
theorem aq1 {H:Hp}:∀ {vs:List V}{bs:List (Str×Int)},Each (BxAt H) vs bs→Boxes H vs (bs.map (·.1))
 | [],[],_=>.nil
 | v::vs,b::bs,h=>by
   obtain ⟨p,rfl,e⟩:=h.2 0 v b rfl rfl
   exact .cons e (aq1 (vs:=vs) (bs:=bs) ⟨by simpa using h.1,fun j a b e1 e2=>h.2 (j+1) a b (by simpa using e1) (by simpa using e2)⟩)
 | [],b::bs,h=>absurd h.1 (by simp)
 | v::vs,[],h=>absurd h.1 (by simp)
def sayS (l:Int) (w:Str):Str:=Str.ofString (toString l)++":"++w
def vput (bs:List (Str×Int)) (vs:List Int) (n:Str) (k:Int):List Int:=List.zipWith (fun b v=>if b.1=n then k % b.2 else v) bs vs
abbrev StG:=Nat×List Nat×List Int×Int
def Nd.sd2:Nd→List Str
 | .say w _=>[w]
 | .hand l w _=>[sayS l w]
 | _=>[]
def Nd.vals2 (bs:List (Str×Int)) (ws:List Int):Nd→List Int
 | .put n e _=>vput bs ws n (e.ev (bs.map (·.1)) ws)
 | _=>ws
def bb9 (ns:List Nd) (k:Nat):Bool:=match ns[k]? with
 | some .back=>true
 | _=>false
def behF (ns:List Nd) (nm:List Str) (ws:List Int) (stk:List Nat):Nd→Option Nat×List Nat
 | .test c a b=>(some (if c.ev nm ws then a else b),stk)
 | .call a b=>(some a,if bb9 ns b then stk else stk++[b])
 | .back=>match stk.getLast? with
   | none=>(none,stk)
   | some k=>(some k,stk.dropLast)
 | .stop=>(none,stk)
 | .say _ k=>(some k,stk)
 | .hand _ _ k=>(some k,stk)
 | .put _ _ k=>(some k,stk)
 | .wait _ _ k=>(some k,stk)
def Nd.w2:Nd→Option Int
 | .wait l _ _=>some l
 | _=>none
def grF (ns:List Nd) (bs:List (Str×Int)):Nat→Option Nat→List Nat→List Int→Option (List Str×Option StG)
 | 0,_,_,_=>none
 | _+1,none,_,_=>some ([],none)
 | n+1,some k,stk,ws=>match ns[k]? with
   | none=>none
   | some d=>match d.w2 with
     | some l=>some ([],some (k,stk,ws,l))
     | none=>(grF ns bs n (behF ns (bs.map (·.1)) (d.vals2 bs ws) stk d).1 (behF ns (bs.map (·.1)) (d.vals2 bs ws) stk d).2 (d.vals2 bs ws)).map fun x=>(d.sd2++x.1,x.2)
def Nd.ok3 (ns:List Str):Nd→Prop
 | .say w _=>w.length≤100
 | .hand l w _=>0≤l∧l<10∧w.length≤100
 | .put b e _=>e.ok ns∧e.h<8∧b∈ns
 | .test c _ _=>c.ok ns 5∧c.h<4
 | .wait l br _=>0≤l∧br.length≤100
 | _=>True
structure GrOk (bs:List (Str×Int)) (ns:List Nd):Prop where
 ok:∀ d∈ns,d.ok3 (bs.map (·.1))
 nx:∀ d∈ns,∀ k∈d.nexts,k<ns.length
 bz:∀ b∈bs,0<b.2∧b.2<1000
 bl:bs.length≤100
 nl:ns.length≤1000
def gmS (x y z:V):List (Str×V):=putF "first" z (putF "nodes" y (putF "boxes" x []))
theorem aj7 (x y z:V):(gmS x y z).lookup ("boxes":Str)=some x:=by
 unfold gmS
 rw [a36,if_neg (by decide +kernel),a36,if_neg (by decide +kernel),a36,if_pos rfl]
theorem aj8 (x y z:V):(gmS x y z).lookup ("nodes":Str)=some y:=by
 unfold gmS
 rw [a36,if_neg (by decide +kernel),a36,if_pos rfl]
theorem bc0 (x y z:V):(gmS x y z).lookup ("first":Str)=some z:=by
 unfold gmS
 rw [a36,if_pos rfl]
theorem an8 {m:Str}(x y z:V) (h1:m≠"first") (h2:m≠"nodes") (h3:m≠"boxes"):(gmS x y z).lookup m=none:=by
 unfold gmS
 rw [a36,if_neg h1,a36,if_neg h2,a36,if_neg h3]
 rfl
structure GmAt (C:Addr) (H:Hp) (p:Addr) (bs:List (Str×Int)) (ns:List Nd) (f:Nat):Prop where
 ex:∃ dx bl nl bvs un,H p=some (.ins C dx (gmS (.ref bl) (.ref nl) (.int (f:Nat))))∧H bl=some (.lst bvs)∧Each (BxAt H) bvs bs∧H nl=some (.lst un)∧Tr.Ats H (ns.map Nd.tr) un []
theorem GmAt.same {C:Addr}{H H':Hp}{p:Addr}{bs:List (Str×Int)}{ns:List Nd}{f:Nat}(h:GmAt C H p bs ns f) (s:Same H H'):GmAt C H' p bs ns f:=by
 obtain ⟨dx,bl,nl,bvs,un,h1,h2,h3,h4,h5⟩:=h.ex
 exact ⟨dx,bl,nl,bvs,un,s _ _ h1,s _ _ h2,h3.mono fun _ _ z=>z.same s,s _ _ h4,h5.same s⟩
def SgAt (H:Hp) (v:V):Option StG→Prop
 | none=>v=.non
 | some (k,stk,ws,l)=>∃ q ps pa,v=.ref q∧H q=some (.tup [.int (k:Nat),.ref ps,.ref pa,.int l])∧H ps=some (.tup (a48 stk))∧H pa=some (.tup (ws.map V.int))
theorem SgAt.tups {H H':Hp}{v:V}{r:Option StG}(h:SgAt H v r) (s:Tups H H'):SgAt H' v r:=by
 cases r with
 | none=>exact h
 | some x =>
   obtain ⟨p,stk,vs,l⟩:=x
   obtain ⟨q,ps,pa,h1,h2,h3,h4⟩:=h
   exact ⟨q,ps,pa,h1,s _ _ h2,s _ _ h3,s _ _ h4⟩
theorem SgAt.same {H H':Hp}{v:V}{r:Option StG}(h:SgAt H v r) (s:Same H H'):SgAt H' v r:=h.tups s.tups
theorem bc1 {bs:List (Str×Int)}{ws:List Int}{n:Str}{k:Int}(h:ws.length=bs.length):(vput bs ws n k).length=bs.length:=by
 simp [vput,h]
theorem au4 {d:Nd}{bs:List (Str×Int)}{ws:List Int}(h:ws.length=bs.length):(d.vals2 bs ws).length=bs.length:=by
 cases d <;> first | exact h | exact bc1 h
theorem by8 (d:Nd):d.sd2.length≤1:=by
 cases d <;> simp [Nd.sd2]
theorem bl0 {ns:List Nd}{nm:List Str}{ws:List Int}{stk:List Nat}{d:Nd}:(behF ns nm ws stk d).2.length≤stk.length+1:=by
 cases d with
 | call a b =>
   simp only [behF]
   split
   · omega
   · simp
 | back =>
   simp only [behF]
   split
   · simp
   · simp only [List.length_dropLast]; omega
 | _=>simp [behF]
section
variable {α:Type} [DecidableEq α]
def addL (most:Nat):List α→List α→Option (List α)
 | row,[]=>some row
 | row,k::ks=>if k∈row then addL most row ks else if row.length=most then none else addL most (row++[k]) ks
def srL (nx:α→List α) (most:Nat):Nat→Nat→List α→Option (List α)
 | 0,_,row=>some row
 | n+1,p,row=>match row[p]? with
   | none=>some row
   | some k=>(addL most row (nx k)).bind (srL nx most n (p+1))
theorem bc2 {most j:Nat}{row ks:List α}{k:α}(e:ks[j]?=some k):addL most row (ks.drop j)=if k∈row then addL most row (ks.drop (j+1)) else if row.length=most then none else addL most (row++[k]) (ks.drop (j+1)):=by
 obtain ⟨h1,h2⟩:=List.getElem?_eq_some_iff.mp e
 rw [List.drop_eq_getElem_cons h1,h2]
 rfl
theorem bc3 {nx:α→List α}{most n p:Nat}{row:List α}{k:α}(e:row[p]?=some k):srL nx most (n+1) p row=(addL most row (nx k)).bind (srL nx most n (p+1)):=by
 conv=>lhs; unfold srL
 rw [e]
theorem aq2 {nx:α→List α}{most n p:Nat}{row:List α}(e:row.length≤p):srL nx most n p row=some row:=by
 cases n with
 | zero=>rfl
 | succ n =>
   unfold srL
   rw [List.getElem?_eq_none e]
end
theorem ax4 {α β:Type}{f:α→β}(hf:∀ x y,f x=f y→x=y):∀ {l m:List α},l.map f=m.map f→l=m
 | [],[],_=>rfl
 | [],_::_,h=>by simp at h
 | _::_,[],h=>by simp at h
 | x::l,y::m,h=>by
   simp only [List.map_cons,List.cons.injEq] at h
   rw [hf x y h.1,ax4 hf h.2]
theorem bc4 {n:Nat}:∀ {l:List Tr},(∀ x∈l,x.h≤n)→Tr.hs l≤n
 | [],_=>by simp [Tr.hs]
 | x::l,h=>by
   simp only [Tr.hs]
   exact Nat.max_le.mpr ⟨h x (by simp),bc4 fun y hy=>h y (by simp [hy])⟩
theorem Same.tupsExt {H:Hp}{d:Addr}{φ:Heap→Prop} {o:HO}(h:H d=some (.ext φ)):Tups H (upd H d o):=fun b ys e=>by
 rw [a14 (b56 e h (fun z=>nomatch z))]
 exact e
section
variable {α:Type} [DecidableEq α]
theorem ax5 {most:Nat}:∀ {ks row row':List α},addL most row ks=some row'→row.length≤most→(∃ t,row'=row++t)∧(∀ k∈ks,k∈row')∧(row.Nodup→row'.Nodup)∧row'.length≤most
 | [],row,row',h,hl=>by
   obtain rfl:=Option.some.inj h
   exact ⟨⟨[],by simp⟩,by simp,fun z=>z,hl⟩
 | k::ks,row,row',h,hl=>by
   unfold addL at h
   by_cases hm:k∈row
   · rw [if_pos hm] at h
     obtain ⟨⟨t,rfl⟩,h2,h3,h4⟩:=ax5 h hl
     refine ⟨⟨t,rfl⟩,fun x hx=>?_,h3,h4⟩
     rcases List.mem_cons.mp hx with rfl | hx
     · exact List.mem_append_left _ hm
     · exact h2 x hx
   · rw [if_neg hm] at h
     by_cases hf:row.length=most
     · rw [if_pos hf] at h
       cases h
     · rw [if_neg hf] at h
       obtain ⟨⟨t,rfl⟩,h2,h3,h4⟩:=ax5 h (by rw [List.length_append,List.length_singleton]; omega)
       refine ⟨⟨[k]++t,by simp⟩,fun x hx=>?_,fun hn=>h3 ?_,h4⟩
       · rcases List.mem_cons.mp hx with rfl | hx
         · simp
         · exact h2 x hx
       · rw [List.nodup_append]
         exact ⟨hn,by simp,fun a ha b hb z=>hm (by rw [← List.mem_singleton.mp hb,←z]; exact ha)⟩
theorem bq9 {nx:α→List α}{most:Nat}:∀ {n p:Nat}{row row':List α},srL nx most n p row=some row'→n+p=most+1→p≤row.length→row.length≤most→row.Nodup→(∀ (i:Nat) (k:α),i<p→row[i]?=some k→∀ x∈nx k,x∈row)→row'.Nodup∧(∀ k∈row',∀ x∈nx k,x∈row')∧(∃ t,row'=row++t)∧row'.length≤most
 | 0,p,row,row',h,hn,hp,hl,_,_=>by omega
 | n+1,p,row,row',h,hn,hp,hl,hd,hc=>by
   cases e:row[p]? with
   | none =>
     have hle:=List.getElem?_eq_none_iff.mp e
     rw [aq2 hle] at h
     obtain rfl:=Option.some.inj h
     refine ⟨hd,fun k hk x hx=>?_,⟨[],by simp⟩,hl⟩
     obtain ⟨i,hi⟩:=List.mem_iff_getElem?.mp hk
     exact hc i k (by have:=(List.getElem?_eq_some_iff.mp hi).1; omega) hi x hx
   | some k =>
     rw [bc3 e] at h
     obtain ⟨row1,h1,h2⟩:=Option.bind_eq_some_iff.mp h
     have hpl:=(List.getElem?_eq_some_iff.mp e).1
     obtain ⟨⟨t,rfl⟩,a2,a3,a4⟩:=ax5 h1 hl
     obtain ⟨b1,b2,⟨t',rfl⟩,b4⟩:=bq9 h2 (by omega) (by rw [List.length_append]; omega) a4 (a3 hd) fun i k' hi hk' x hx=>by
      rw [List.getElem?_append_left (by omega)] at hk'
      by_cases hip:i=p
      · rw [hip,e] at hk'
        obtain rfl:=Option.some.inj hk'
        exact a2 x hx
      · exact List.mem_append_left _ (hc i k' (by omega) hk' x hx)
     exact ⟨b1,b2,⟨t++t',by simp⟩,b4⟩
end
structure ExcI (K:PySem.W.Frag) (C:Addr):Prop where
 ga:PySem.W.findIn K (.ref C) "__getattribute__"=some (some (.builtin "BaseException.__getattribute__"))
 gt:PySem.W.findIn K (.ref C) "__getattr__"=some none
 ha:PySem.W.findIn K (.ref C) "__class__"=some (some (.builtin "object.__class__"))
 hn:PySem.W.specialIn K (.builtin "object.__class__") "__get__"=some (some (.builtin "getset_descriptor.__get__"))
 htk:PySem.W.takesIn K (.builtin "object.__class__")=some true
 hm:PySem.W.mroIn K C (.type "object")=some true
 hb:PySem.W.mroIn K C (.type "BaseException")=some true
 hc:(PySem.W.clsIn K C).isSome=true
def cd7 (K:PySem.W.Frag) (C:Addr):Bool:=PySem.W.findIn K (.ref C) "__getattribute__" == some (some (.builtin "BaseException.__getattribute__")) && PySem.W.findIn K (.ref C) "__getattr__" == some none && PySem.W.findIn K (.ref C) "__class__" == some (some (.builtin "object.__class__")) && PySem.W.specialIn K (.builtin "object.__class__") "__get__" == some (some (.builtin "getset_descriptor.__get__")) && PySem.W.takesIn K (.builtin "object.__class__") == some true && PySem.W.mroIn K C (.type "object") == some true && PySem.W.mroIn K C (.type "BaseException") == some true && (PySem.W.clsIn K C).isSome
theorem by9 {K:PySem.W.Frag}{C:Addr}(h:cd7 K C=true):ExcI K C:=by
 simp only [cd7,Bool.and_eq_true] at h
 obtain ⟨⟨⟨⟨⟨⟨⟨h1,h2⟩,h3⟩,h4⟩,h5⟩,h6⟩,h7⟩,h8⟩:=h
 exact ⟨beq_iff_eq.mp h1,beq_iff_eq.mp h2,beq_iff_eq.mp h3,beq_iff_eq.mp h4,beq_iff_eq.mp h5,beq_iff_eq.mp h6,beq_iff_eq.mp h7,h8⟩
theorem aq3:bootBuiltins "ValueError"=some (.type "ValueError"):=by decide +kernel
section
variable {prog:Program}{w:World}{A:Around}{E:Value→Shared→Prop}{s:Shared}{K:PySem.W.Frag}{x C:Addr}{ox:Obj}
open PySem.W PySem.Calls PySem.Builtin PySem.Builtin.ObjectAttr PySem.Builtin.Getset_descriptor
theorem bl1 {M:Model}{hp:Heap}(X:K.In hp) (c:ExcI K C):Looks M hp (find (.ref x) (.ref C) "__class__") (.bind (.builtin "getset_descriptor.__get__") (.builtin "object.__class__")) :=
 (looks_findIn X c.ha).andThen ((show Looks M hp (getOf (some (.builtin "object.__class__"))) _ from looks_specialIn X c.hn).andThen ((show Looks M hp (dataDescriptor? (some (.builtin "object.__class__")) (some (.builtin "getset_descriptor.__get__"))) (some (.builtin "getset_descriptor.__get__",.builtin "object.__class__")) from (looks_takesIn X c.htk).andThen .now).andThen (Looks.tag .now)))
theorem bz0 {R:Result→Shared→Prop}{tp:Value}(X:K.In s.heap) (T0:Looks (model prog w) s.heap (typeOf (.ref x)) (.ref C)) (c:ExcI K C) (q:R (.ok (.ret (.ref C))) s) :
 codeAny (model prog w) A (.call (.builtin "getset_descriptor.__get__") ⟨[.builtin "object.__class__",.ref x,tp],[]⟩) R s:=by
 obtain ⟨hp,gn,dw,tk,os⟩:=s
 have T1:=looks_mroIn (M:=model prog w) X c.hm
 refine codeAny_call_builtin KF.slot_gs.plain KF.entry_gs (KF.slot_gs.check _ _ _ _ _ _ _ _ KF.type_class (KF.args_gs _ _ _) ?_)
 unfold Builtin.«getset_descriptor.__get__» descrGet; rw [dga_obj]
 refine wpAny_bind (wpAny_pure ?_); unfold descrGetter descrCheckInstance descrNameAndClass isInstance
 simp only [KF.owner_class]
 repeat lk
 refine ⟨Code.quiet_builtin _ (by decide +kernel),codeAny_builtin KF.entry_class ?_⟩; unfold Builtin.«object.__class__» shownTypeOf
 repeat lk
 exact q
theorem bc5 {M:Model}{nameV:Value}{Q:Unit→Shared→Prop}(T0:Looks M s.heap (typeOf (.ref x)) (.ref C)) (L4:Looks M s.heap (isSubtype (.ref C) (.type "BaseException")) true) (q:Q () s):wpAny M A (checkBuiltinCall "BaseException.__getattribute__" ⟨[.ref x,nameV],[]⟩) Q E s:=by
 have k1:builtinKind "BaseException.__getattribute__"=some .slot:=by decide +kernel
 have k2:splitId "BaseException.__getattribute__"=some ("BaseException","__getattribute__"):=by decide +kernel
 have k3:=F.args_bexc_ga (.ref x) nameV
 simp only [checkBuiltinCall,k1,k2]
 have LI:Looks M s.heap (isInstance (.ref x) (.type "BaseException")) true:=T0.andThen L4
 refine wpAny_bind (LI.at ?_)
 repeat wp_step
 exact q
theorem bc6 {Q:Option Value→Shared→Prop}(X:K.In s.heap) (c:ExcI K C) (T0:Looks (model prog w) s.heap (typeOf (.ref x)) (.ref C)) (h:Q (some (.ref C)) { s with toks:=s.toks+1 }):wpAny (model prog w) A (getAttr? (.ref x) "__class__") Q E s:=by
 obtain ⟨hh,g,d,t,os⟩:=s
 have L1:=looks_findIn (M:=model prog w) X c.ga
 have L2:=looks_findIn (M:=model prog w) X c.gt
 have L3:=bl1 (M:=model prog w) (x:=x) X c
 have L4:=looks_mroIn (M:=model prog w) X c.hb
 unfold getAttr? getAttrBy? getAttrBy
 refine wpAny_bind (wpAny_mkText (wpAny_bind (wpAny_attempt (wpAny_holding (wpAny_bind (T0.at (wpAny_bind (L1.at ?_))))))))
 dsimp only
 have hx2:(Value.builtin "BaseException.__getattribute__" == Value.builtin "object.__getattribute__")=false:=by decide +kernel
 have hx1:(onTheHeap (Value.ref C) && Value.builtin "BaseException.__getattribute__" == Value.builtin "object.__getattribute__")=false:=by rw [hx2]; rfl
 rw [hx1,if_neg Bool.false_ne_true]
 unfold getAttrByItsOwn hookBefore
 rw [show onTheHeap (Value.ref C)=true from rfl,if_pos rfl]
 refine wpAny_bind (L2.at (wpAny_bind (wpAny_attempt (wpAny_holding ?_))))
 unfold callGetattribute boundAndCalled
 rw [show (false && onTheHeap (Value.builtin "BaseException.__getattribute__"))=false from rfl,if_neg Bool.false_ne_true,F.attr_ValueError.ga.bind]
 refine wpAny_bind (wpAny_pure (wpAny_call (codeAny_call_builtin F.attr_ValueError.ga.plain F.entry_bexc_ga ?_)))
 refine bc5 T0 L4 ?_
 unfold «object.__getattribute__»
 refine wpAny_bind (wpAny_pure (wpAny_bind (wpAny_pure (wpAny_bind (T0.at (wpAny_bind (L3.at ?_)))))))
 show wpAny _ _ (holding [Value.builtin "object.__class__"] (call (Value.builtin "getset_descriptor.__get__") [Value.builtin "object.__class__",Value.ref x,Value.ref C]) >>= ret) _ _ _
 refine wpAny_bind (wpAny_holding (wpAny_call (bz0 (s:=⟨hh,g,d,t+1,os⟩) X T0 c ?_)))
 exact wpAny_pure (handed_on rfl (wpAny_pure h))
theorem bl2 (c:ExcI K C):KitX K (.ref x) (.ref C) (fun h=>∃ o,h.get? x=some o∧o.cls=.ref C) where
 ty:=fun M h X p=>by
  obtain ⟨o,e,hc⟩:=p
  exact hc ▸ (Looks.ld e).andThen .now
 it:=fun M h X _=>by
  obtain ⟨cd,hcd⟩:=Option.isSome_iff_exists.mp c.hc
  unfold clsIn at hcd
  split at hcd
  · rename_i c1 d1 cd1 sl1 ho; intro A1 Q1 E1 s1 k1 q1
    unfold isType loadHead; exact wpAny_bind (wpAny_loadPart (k1 _ _ (X _ _ ho)) (wpAny_pure q1))
  · cases hcd
 ne:=fun h tp dd its n sl X htp=>by
  obtain ⟨cd,hcd⟩:=Option.isSome_iff_exists.mp c.hc
  refine Bool.eq_false_iff.mpr fun q1=>?_
  obtain rfl:C=tp:=Value.ref.inj (beq_iff_eq.mp q1)
  unfold clsIn at hcd
  split at hcd
  · rename_i c1 d1 cd1 sl1 ho; cases (X _ _ ho).symm.trans htp
  · cases hcd
 ca:=fun {prog w A E Q s} X p k=>by
  obtain ⟨o,e,hc⟩:=p
  exact bc6 X c (hc ▸ (Looks.ld e).andThen .now) k
def ExcP (a C:Addr):Heap→Prop:=fun h=>∃ o,h.get? a=some o∧o.cls=.ref C
end
section
variable {X:Cx}
def bl3 (K:PySem.W.Frag):List V→Hp→VK→Prop:=fun xs H Q=>∃ a C M b,xs=[.ref a,M]∧H a=some (.ext (ExcP a C))∧ExcI K C∧(∃ u,RelV M u∧(∀ u',RelV M u'→u'=u)∧PySem.W.kitOne K (.ref C) u=some b)∧Q (.bl b) H
theorem bz1:CallR X (.builtin "isinstance") (bl3 X.K):=by
 intro pins s σ H xs us Q I r h
 obtain ⟨a,C,M,b,rfl,e,c,⟨u,ru,uu,k⟩,q⟩:=h
 cases r with
 | cons r1 r2 =>
 cases r2 with
 | cons r2 r3 =>
 cases r3
 obtain rfl:=uu _ r2
 cases r1
 obtain ⟨p,_⟩:=(show ObjOk X.prog X.w H s.heap a (.ext (ExcP a C)) from I.hok a _ e)
 exact PySem.W.kia_one (bl2 c) I.kIn p k (fun z=>nomatch z) fun tk=>⟨.bl b,H,I.tok _,rfl,q⟩
theorem ae0 (K:PySem.W.Frag) (hK:X.K=K:=by rfl):CallR X (.builtin "isinstance") (bl3 K):=hK ▸ bz1
theorem Inv.seen {pins:List (Addr×Obj)}{σ:St} {H:Hp}{s:Shared}{a:Addr}{φ:Heap→Prop} (I:Inv X pins σ H s) (hn:H a=none) (hφ:φ s.heap) (ho:∃ o,s.heap.get? a=some o) (st:∀ h1 h2:Heap,φ h1→(∀ o,h1.get? a=some o→h2.get? a=some o)→φ h2)
 (n0:X.s₀.heap.get? a=none) (nl:a≠X.env.locals) (nc:∀ x c,X.env.cells.lookup x=some c→c≠a) (np:∀ p∈X.pn++pins,p.1≠a):Inv X pins σ (upd H a (.ext φ)) s:=by
 have ne:∀ {b:Addr}{u:HO},H b=some u→b≠a:=fun e z=>by rw [z,hn] at e; cases e
 refine ⟨I.ok,I.os,I.bare,⟨I.base.keep,I.base.slot,fun b o e n hx=>?_,I.base.there,fun b xs e=>?_,fun b o u e=>?_,fun b ps e=>?_⟩,I.loc,I.cell,by rw [a14 nl.symm]; exact I.free,fun x c e=>by rw [a14 (nc x c e)]; exact I.freeC x c e,fun p hp=>?_,fun b u e=>?_,I.len⟩
 · rw [a14 (fun z=>by rw [z,n0] at e; cases e)]
   exact I.base.free b o e n hx
 · have:=I.base.tups b xs e
   rw [a14 (ne this)]
   exact this
 · have:=I.base.frzs b o u e
   rw [a14 (ne this)]
   exact this
 · obtain ⟨more,this⟩:=I.base.tbls b ps e
   exact ⟨more,by rw [a14 (ne this)]; exact this⟩
 · obtain ⟨e,n,nl',nf,d⟩:=I.pin p hp
   exact ⟨e,by rw [a14 (np p hp)]; exact n,nl',nf,d⟩
 · by_cases hb:b=a
   · subst hb
     rw [a18] at e
     cases e
     exact ⟨hφ,ho,st⟩
   · rw [a14 hb] at e
     refine (I.hok b u e).stay (fun _ _ _ q=>q) (fun c q=>?_) fun c ps q=>?_
     · rw [a14 (ne q)]; exact q
     · rw [a14 (ne q)]; exact q
theorem ae1 {M:Model}{A:Around}{E:Value→Shared→Prop}{pins:List (Addr×Obj)}{σ:St} {H:Hp}{s:Shared}{i:Nat}{n:Str}{pos:Pos}{Q:Unit→Shared→Prop}(I:Inv X pins σ H s) (hN:X.N.Nodup) (hi:X.N[i]?=some n) (hk:X.env.kindOf n=some .local) (hk2:X.env.scope.names.lookup n=some .local)
 (h:∀ s',Inv X pins (σ.set i none) H s'→Q () s'):wpAny M A (do bindName X.env n .none; unbindBehindTheSuite X.env n pos) Q E s:=by
 have hcls:(X.env.scope.kind == .class || (X.env.scope.kind == .module && X.env.locals != X.env.globals))=false:=by rw [I.ok.kind]; rfl
 refine wpAny_bind (wpAny_bindName (a85 (v:=.non) I hN hi (.inl hk) rfl (fun s1 I1=>?_) (.inr hk2)))
 unfold unbindBehindTheSuite; refine wpAny_onRaise ?_
 unfold unbindName; refine wpAny_bind (wpAny_point (wpAny_bind ?_))
 unfold deleteName
 simp only [hk,hcls]
 rw [if_neg (by decide)]
 obtain ⟨m,hn,hl⟩:=id I1.loc
 refine wpAny_bind (wpAny_nsDel_keeps hn fun h2 v2 hn2 hs=>?_)
 have hmn:(m n).isSome=true:=by
  have hiσ:i<σ.length:=by rw [I.len]; exact (List.getElem?_eq_some_iff.mp hi).1
  obtain ⟨u,_,l⟩:=hl i n .non hi (by rw [List.getElem?_set_self hiσ]) (.inl hk2)
  rcases l with ⟨_,e⟩ | ⟨k,_⟩
  · rw [e]; rfl
  · rw [hk] at k
    rcases k with k | k <;> cases k
 rw [hmn]
 simp only [if_true,Option.isSome_some,Bool.not_true,Bool.false_eq_true,if_false]
 refine wpAny_pure (wpAny_point (h _ ?_))
 have cne:=I1.cne
 obtain ⟨oL,_,_,hoL,_⟩:=id hn
 have nb:∀ {b:Addr}{o:Obj},X.s₀.heap.get? b=some o→b≠X.env.locals:=fun e=>Nat.ne_of_lt (Nat.lt_of_lt_of_le (Heap.lt_size e) I1.ok.above)
 refine ⟨I1.ok,I1.os,I1.bare,⟨fun b o e n' hb hx=>(hs.2 b (nb e)).trans (I1.base.keep b o e n' hb hx),fun b o e n' hb hx=>?_,I1.base.free,fun b o e hx=>?_,I1.base.tups,I1.base.frzs,I1.base.tbls⟩,⟨_,hn2,fun j y v' e1 e2 e3=>?_⟩,fun y c e=>?_,I1.free,I1.freeC,fun p hp=>?_,fun b ob e=>?_,by simpa using I.len⟩
 · obtain ⟨sl,e1⟩:=I1.base.slot b o e n' hb hx
   exact ⟨sl,(hs.2 b (nb e)).trans e1⟩
 · obtain ⟨o',e1⟩:=I1.base.there b o e hx
   exact ⟨o',(hs.2 b (nb e)).trans e1⟩
 · have hj:j≠i:=fun z=>by
    subst z
    rw [List.getElem?_set_self (by rw [I.len]; exact (List.getElem?_eq_some_iff.mp hi).1)] at e2
    cases e2
   rw [List.getElem?_set_ne hj.symm] at e2
   obtain ⟨u',r',q⟩:=hl j y v' e1 (by rw [List.getElem?_set_ne hj.symm]; exact e2) e3
   refine ⟨u',r',?_⟩
   rcases q with ⟨k,e⟩ | ⟨k,c,e,z⟩
   · have hyn:y≠n:=fun e=>hj (ao1 hN e1 (by rw [e]; exact hi))
     exact .inl ⟨k,by show (if y=n then v2 else m y)=some u'; rw [if_neg hyn]; exact e⟩
   · exact .inr ⟨k,c,e,z.sameBut hs (cne y c e)⟩
 · obtain ⟨w',z⟩:=I1.cell y c e
   exact ⟨w',z.sameBut hs (cne y c e)⟩
 · obtain ⟨e,n',ne,nf,d⟩:=I1.pin p hp
   exact ⟨(hs.2 p.1 ne).trans e,n',ne,nf,d⟩
 · have hfree:=I1.free
   refine (I1.hok b ob e).stay (fun c w' hc q=>(hs.2 c ?_).trans q) (fun _ q=>q) fun _ _ q=>q
   rintro rfl
   rcases hc with rfl | hc
   · rw [hfree] at e; cases e
   · rw [hfree] at hc; cases hc
def Ends.fgt (D:Ends) (i:Nat):Ends:=⟨fun τ G=>D.nx (τ.set i none) G,D.rt,fun τ G=>D.bk (τ.set i none) G,fun τ G=>D.ct (τ.set i none) G⟩
end
section
variable {σ:St} {H:Hp}{D:Ends}{C:Addr}{n i:Nat}{tb:XK→TS}{ts:TS}{K:PySem.W.Frag}{Q:VK}
theorem b12 {a M:Addr}{b:Bool}(e:H a=some (.ext (ExcP a C))) (c:ExcI K C) (k:PySem.W.kitOne K (.ref C) (.ref M)=some b) (h:Q (.bl b) H):bl3 K [.ref a,.ref M] H Q:=⟨a,C,.ref M,b,rfl,e,c,⟨_,rfl,fun _ z=>z,k⟩,h⟩
theorem bz2 {a:Addr}{M:String}{b:Bool}(e:H a=some (.ext (ExcP a C))) (c:ExcI K C) (k:PySem.W.kitOne K (.ref C) (.type M)=some b) (h:Q (.bl b) H):bl3 K [.ref a,.ty M] H Q:=⟨a,C,.ty M,b,rfl,e,c,⟨_,rfl,fun _ z=>z,k⟩,h⟩
end
end L2
namespace L2
end L2
namespace L2
open PySem PySem.Spec PyProof.Rows
def ntTr (k:Nat):Tr:=.int (k:Nat)
def sgT:Option StG→Tr
 | none=>.non
 | some (k,stk,ws,l)=>.tup [.int (k:Nat),.tup (stk.map ntTr),.tup (ws.map Tr.int),.int l]
theorem bz3 {r q:Option StG}(h:sgT r=sgT q):r=q:=by
 cases r with
 | none =>
   cases q with
   | none=>rfl
   | some y=>obtain ⟨a,b,c,d⟩:=y; simp [sgT] at h
 | some x =>
   obtain ⟨k,stk,ws,l⟩:=x
   cases q with
   | none=>simp [sgT] at h
   | some y =>
     obtain ⟨a,b,c,d⟩:=y
     simp only [sgT,Tr.tup.injEq,List.cons.injEq,Tr.int.injEq] at h
     obtain ⟨h1,h2,h3,h4,_⟩:=h
     rw [ax4 (fun x y z=>by simp only [ntTr,Tr.int.injEq] at z; omega) h2,ax4 (fun x y z=>Tr.int.inj z) h3,h4,show k=a by omega]
theorem b13 {H:Hp}:∀ ks:List Nat,Tr.Ats H (ks.map ntTr) (a48 ks) []
 | []=>by simp [a48,Tr.Ats]
 | k::ks=>ats_cons0.mpr ⟨_,_,rfl,aj2,b13 ks⟩
theorem cl5 {H:Hp}{v:V}{r:Option StG}(h:SgAt H v r):(sgT r).At H v []:=by
 cases r with
 | none =>
   obtain rfl:v=.non:=h
   simp [sgT,Tr.At]
 | some x =>
   obtain ⟨k,stk,ws,l⟩:=x
   obtain ⟨q,ps,pa,rfl,h1,h2,h3⟩:=h
   simp only [sgT,Tr.At,Tr.Ats]
   exact ⟨q,_,rfl,h1,_,_,[],[],rfl,rfl,⟨rfl,rfl⟩,_,_,[],[],rfl,rfl,⟨ps,_,rfl,h2,b13 stk⟩,_,_,[],[],rfl,rfl,⟨pa,_,rfl,h3,b02 ws⟩,_,_,[],[],rfl,rfl,⟨rfl,rfl⟩,rfl,rfl⟩
theorem sg_h (r:Option StG):(sgT r).h≤4:=by
 cases r with
 | none=>simp [sgT,Tr.h]
 | some x =>
   obtain ⟨p,stk,ws,l⟩:=x
   have h1:Tr.hs (stk.map ntTr)≤1:=bc4 fun y hy=>by
    obtain ⟨q,_,rfl⟩:=List.mem_map.mp hy
    simp [ntTr,Tr.h]
   have h2:Tr.hs (ws.map Tr.int)≤1:=bc4 fun y hy=>by
    obtain ⟨q,_,rfl⟩:=List.mem_map.mp hy
    simp [Tr.h]
   simp only [sgT,Tr.h,Tr.hs]
   omega
theorem cl6 {H:Hp}{v:V}{r:Option StG}(h:SgAt H v r):TK H (sgT r) v:=⟨cl5 h,by have:=sg_h r; omega⟩
def knF {α:Type}(T:α→Tr) (row:List α):List (Tr×V):=row.map fun r=>(T r,.bl true)
section
variable {α:Type} [DecidableEq α] {T:α→Tr}
theorem ax6 (hT:∀ a b,T a=T b→a=b) (row:List α) (k:α):(valV (knF T row) (T k)).isSome=decide (k∈row):=by
 induction row with
 | nil=>simp [knF,valV]
 | cons r row ih =>
   by_cases e:T r=T k
   · have e2:=hT _ _ e
     rw [show knF T (r::row)=(T r,.bl true)::knF T row from rfl,a46 (by exact e),e2]
     simp
   · rw [show knF T (r::row)=(T r,.bl true)::knF T row from rfl,a50 (by exact e),ih]
     have:k≠r:=fun z=>e (by rw [z])
     simp [this]
theorem bz4 (hT:∀ a b,T a=T b→a=b) {row:List α}{k:α}(h:k∈row):(valV (knF T row) (T k)).isSome=true:=by rw [ax6 hT,decide_eq_true h]
theorem cd8 (hT:∀ a b,T a=T b→a=b) {row:List α}{k:α}(h:k∉row):(valV (knF T row) (T k)).isSome=false:=by rw [ax6 hT,decide_eq_false h]
theorem bz5 (hT:∀ a b,T a=T b→a=b) {row:List α}{k:α}(h:k∉row):putK (knF T row) (T k) (.bl true)=knF T (row++[k]):=by
 have h0:valV (knF T row) (T k)=none:=by
  have:=ax6 hT row k
  rw [decide_eq_false h] at this
  cases e:valV (knF T row) (T k) with
  | none=>rfl
  | some y=>rw [e] at this; cases this
 rw [bh5 _ h0]
 simp [knF]
theorem bz6 (row:List α):(knF T row).length=row.length:=by simp [knF]
abbrev Wy (α:Type):=Option (α×Tr)
def stpP (ps:α→Tr→Option α) (most:Nat) (x:α):List (α×Wy α)×Wy α→List Tr→Option (List (α×Wy α)×Wy α)
 | s,[]=>some s
 | s,e::es=>match ps x e with
   | none=>stpP ps most x (s.1,if s.2=none then some (x,e) else s.2) es
   | some y=>if y∈s.1.map (·.1) then stpP ps most x s es else if s.1.length=most then none else stpP ps most x (s.1++[(y,some (x,e))],s.2) es
def goP (ps:α→Tr→Option α) (es:List Tr) (most:Nat):Nat→Nat→List (α×Wy α)×Wy α→Option (List (α×Wy α)×Wy α)
 | 0,_,s=>some s
 | n+1,p,s=>match s.1[p]? with
   | none=>some s
   | some k=>(stpP ps most k.1 s es).bind (goP ps es most n (p+1))
inductive ChP (F:List (α×Wy α)):Wy α→List Tr→Prop
 | nil:ChP F none []
 | cons {x:α}{e:Tr}{w:Wy α}{ws:List Tr}(h:(x,w)∈F) (h2:ChP F w ws):ChP F (some (x,e)) (e::ws)
theorem ChP.mono {F G:List (α×Wy α)}{w:Wy α}{ws:List Tr}(h:ChP F w ws) (hs:∀ x∈F,x∈G):ChP G w ws:=by
 induction h with
 | nil=>exact .nil
 | cons h1 _ ih=>exact .cons (hs _ h1) ih
structure FdOk (ps:α→Tr→Option α) (x0:α) (most:Nat) (s:List (α×Wy α)×Wy α):Prop where
 nd:(s.1.map (·.1)).Nodup
 z:s.1[0]?=some (x0,none)
 ln:s.1.length≤most
 w:∀ (i:Nat) (x:α) (w:Wy α),s.1[i]?=some (x,w)→∃ ws,ChP s.1 w ws∧ws.length≤i
 p:∀ x e,s.2=some (x,e)→(∃ w,(x,w)∈s.1)∧ps x e=none
theorem aj9 {ps:α→Tr→Option α}{x0:α}{most:Nat}{x:α}:∀ {es:List Tr}{s s':List (α×Wy α)×Wy α},stpP ps most x s es=some s'→(∃ w,(x,w)∈s.1)→FdOk ps x0 most s→FdOk ps x0 most s'∧(∃ t,s'.1=s.1++t)∧(∀ e∈es,∀ y,ps x e=some y→y∈s'.1.map (·.1))∧(s'.2=none↔s.2=none∧∀ e∈es,ps x e≠none)
 | [],s,s',h,hx,ok=>by
   obtain rfl:=Option.some.inj h
   exact ⟨ok,⟨[],by simp⟩,by simp,by simp⟩
 | e::es,s,s',h,hx,ok=>by
   unfold stpP at h
   cases he:ps x e with
   | none =>
     rw [he] at h
     have ok2:FdOk ps x0 most (s.1,if s.2=none then some (x,e) else s.2):=⟨ok.nd,ok.z,ok.ln,ok.w,fun x' e' z=>by
      dsimp only at z
      by_cases hp:s.2=none
      · rw [if_pos hp] at z
        cases z
        exact ⟨hx,he⟩
      · rw [if_neg hp] at z
        exact ok.p x' e' z⟩
     obtain ⟨a1,a2,a3,a4⟩:=aj9 h hx ok2
     refine ⟨a1,a2,fun e' h' y hy=>?_,?_⟩
     · rcases List.mem_cons.mp h' with rfl | h'
       · rw [he] at hy; cases hy
       · exact a3 e' h' y hy
     · rw [a4]
       constructor
       · rintro ⟨z,_⟩
         dsimp only at z
         by_cases hp:s.2=none
         · rw [if_pos hp] at z; cases z
         · rw [if_neg hp] at z; exact absurd z hp
       · rintro ⟨_,z⟩
         exact absurd he (z e (by simp))
   | some y =>
     rw [he] at h
     simp only at h
     have fin:∀ {s2:List (α×Wy α)×Wy α},stpP ps most x s2 es=some s'→(∃ t,s2.1=s.1++t)→s2.2=s.2→y∈s2.1.map (·.1)→FdOk ps x0 most s2→FdOk ps x0 most s'∧(∃ t,s'.1=s.1++t)∧(∀ e'∈e::es,∀ y,ps x e'=some y→y∈s'.1.map (·.1))∧(s'.2=none↔s.2=none∧∀ e'∈e::es,ps x e'≠none):=fun {s2} h ⟨t,ht⟩ h2 hy ok2=>by
      obtain ⟨w,hw⟩:=hx
      obtain ⟨a1,⟨t',a2⟩,a3,a4⟩:=aj9 h ⟨w,by rw [ht]; exact List.mem_append_left _ hw⟩ ok2
      refine ⟨a1,⟨t++t',by rw [a2,ht,List.append_assoc]⟩,fun e' h' y' hy'=>?_,?_⟩
      · rcases List.mem_cons.mp h' with rfl | h'
        · rw [he] at hy'
          obtain rfl:=Option.some.inj hy'
          rw [a2,List.map_append]
          exact List.mem_append_left _ hy
        · exact a3 e' h' y' hy'
      · rw [a4,h2]
        constructor
        · rintro ⟨z1,z2⟩
          refine ⟨z1,fun e' h'=>?_⟩
          rcases List.mem_cons.mp h' with rfl | h'
          · rw [he]; simp
          · exact z2 e' h'
        · rintro ⟨z1,z2⟩
          exact ⟨z1,fun e' h'=>z2 e' (by simp [h'])⟩
     by_cases hm:y∈s.1.map (·.1)
     · rw [if_pos hm] at h
       exact fin h ⟨[],by simp⟩ rfl hm ok
     · rw [if_neg hm] at h
       by_cases hf:s.1.length=most
       · rw [if_pos hf] at h; cases h
       · rw [if_neg hf] at h
         refine fin h ⟨_,rfl⟩ rfl (by simp) ?_
         obtain ⟨w,hw⟩:=hx
         obtain ⟨ix,hix⟩:=List.mem_iff_getElem?.mp hw
         have hixl:=(List.getElem?_eq_some_iff.mp hix).1
         have hl:=ok.ln
         refine ⟨?_,?_,?_,fun i x' w' hi=>?_,fun x' e' z=>?_⟩
         · rw [List.map_append,List.nodup_append]
           refine ⟨ok.nd,by simp,fun a ha b hb z=>hm ?_⟩
           simp only [List.map_cons,List.map_nil,List.mem_singleton] at hb
           rw [← hb,←z]
           exact ha
         · dsimp only
           rw [List.getElem?_append_left (by omega)]
           exact ok.z
         · dsimp only
           rw [List.length_append,List.length_singleton]
           omega
         · dsimp only at hi ⊢
           by_cases hil:i<s.1.length
           · rw [List.getElem?_append_left hil] at hi
             obtain ⟨ws,h1,h2⟩:=ok.w i x' w' hi
             exact ⟨ws,h1.mono fun x hx=>List.mem_append_left _ hx,h2⟩
           · have hie:i=s.1.length:=by
              have:=(List.getElem?_eq_some_iff.mp hi).1
              rw [List.length_append,List.length_singleton] at this
              omega
             subst hie
             rw [List.getElem?_append_right (Nat.le_refl _)] at hi
             simp at hi
             obtain ⟨rfl,rfl⟩:=hi
             obtain ⟨ws,h1,h2⟩:=ok.w ix x w hix
             exact ⟨e::ws,.cons (List.mem_append_left _ hw) (h1.mono fun x hx=>List.mem_append_left _ hx),by simp; omega⟩
         · obtain ⟨⟨w2,h1⟩,h2⟩:=ok.p x' e' z
           exact ⟨⟨w2,List.mem_append_left _ h1⟩,h2⟩
theorem ae2 {ps:α→Tr→Option α}{most:Nat}{x:α}{e:Tr}{es:List Tr}{s:List (α×Wy α)×Wy α}(h:ps x e=none):stpP ps most x s (e::es)=stpP ps most x (s.1,if s.2=none then some (x,e) else s.2) es:=by
 conv=>lhs; unfold stpP
 rw [h]
theorem ae3 {ps:α→Tr→Option α}{most:Nat}{x y:α}{e:Tr}{es:List Tr}{s:List (α×Wy α)×Wy α}(h:ps x e=some y):stpP ps most x s (e::es)=if y∈s.1.map (·.1) then stpP ps most x s es else if s.1.length=most then none else stpP ps most x (s.1++[(y,some (x,e))],s.2) es:=by
 conv=>lhs; unfold stpP
 rw [h]
theorem ab1 {ps:α→Tr→Option α}{most:Nat}{x:α}:∀ {l1 l2:List Tr}{s:List (α×Wy α)×Wy α},stpP ps most x s (l1++l2)=(stpP ps most x s l1).bind fun s'=>stpP ps most x s' l2
 | [],l2,s=>rfl
 | e::l1,l2,s=>by
   rw [List.cons_append]
   cases h:ps x e with
   | none =>
     rw [ae2 h,ae2 h]
     exact ab1
   | some y =>
     rw [ae3 h,ae3 h]
     split
     · exact ab1
     · split
       · rfl
       · exact ab1
theorem aq4 {ps:α→Tr→Option α}{es:List Tr}{most n p:Nat}{s:List (α×Wy α)×Wy α}(e:s.1.length≤p):goP ps es most n p s=some s:=by
 cases n with
 | zero=>rfl
 | succ n =>
   unfold goP
   rw [List.getElem?_eq_none e]
theorem bc7 {ps:α→Tr→Option α}{es:List Tr}{most n p:Nat}{s:List (α×Wy α)×Wy α}{k:α×Wy α}(e:s.1[p]?=some k):goP ps es most (n+1) p s=(stpP ps most k.1 s es).bind (goP ps es most n (p+1)):=by
 conv=>lhs; unfold goP
 rw [e]
theorem br0 {ps:α→Tr→Option α}{es:List Tr}{x0:α}{most:Nat}:∀ {n p:Nat}{s s':List (α×Wy α)×Wy α},goP ps es most n p s=some s'→n+p=most+1→p≤s.1.length→FdOk ps x0 most s→(∀ (i:Nat) (x:α) (w:Wy α),i<p→s.1[i]?=some (x,w)→∀ e∈es,∀ y,ps x e=some y→y∈s.1.map (·.1))→(s.2=none↔∀ (i:Nat) (x:α) (w:Wy α),i<p→s.1[i]?=some (x,w)→∀ e∈es,ps x e≠none)→FdOk ps x0 most s'∧(∃ t,s'.1=s.1++t)∧(∀ x w,(x,w)∈s'.1→∀ e∈es,∀ y,ps x e=some y→y∈s'.1.map (·.1))∧(s'.2=none↔∀ x w,(x,w)∈s'.1→∀ e∈es,ps x e≠none)
 | 0,p,s,s',h,hn,hp,ok,_,_=>by have:=ok.ln; omega
 | n+1,p,s,s',h,hn,hp,ok,hc,hq=>by
   cases e:s.1[p]? with
   | none =>
     have hle:=List.getElem?_eq_none_iff.mp e
     rw [aq4 hle] at h
     obtain rfl:=Option.some.inj h
     refine ⟨ok,⟨[],by simp⟩,fun x w hx=>?_,?_⟩
     · obtain ⟨i,hi⟩:=List.mem_iff_getElem?.mp hx
       exact hc i x w (by have:=(List.getElem?_eq_some_iff.mp hi).1; omega) hi
     · rw [hq]
       constructor
       · intro z x w hx
         obtain ⟨i,hi⟩:=List.mem_iff_getElem?.mp hx
         exact z i x w (by have:=(List.getElem?_eq_some_iff.mp hi).1; omega) hi
       · intro z i x w _ hi
         exact z x w (List.mem_of_getElem? hi)
   | some k =>
     obtain ⟨k,kw⟩:=k
     rw [bc7 e] at h
     obtain ⟨s1,h1,h2⟩:=Option.bind_eq_some_iff.mp h
     have hpl:=(List.getElem?_eq_some_iff.mp e).1
     obtain ⟨a1,⟨t,a2⟩,a3,a4⟩:=aj9 h1 ⟨kw,List.mem_of_getElem? e⟩ ok
     have hold:∀ (i:Nat) (x:α) (w:Wy α),i<p+1→s1.1[i]?=some (x,w)→(i<p∧s.1[i]?=some (x,w))∨(x=k):=fun i x w hi hx=>by
      rw [a2,List.getElem?_append_left (by omega)] at hx
      by_cases hip:i=p
      · rw [hip,e] at hx
        cases hx
        exact .inr rfl
      · exact .inl ⟨by omega,hx⟩
     obtain ⟨b1,⟨t',b2⟩,b3,b4⟩:=br0 h2 (by omega) (by rw [a2,List.length_append]; omega) a1 (fun i x w hi hx e' he' y hy=>by
      rcases hold i x w hi hx with ⟨z1,z2⟩ | rfl
      · have:=hc i x w z1 z2 e' he' y hy
        rw [a2,List.map_append]
        exact List.mem_append_left _ this
      · exact a3 e' he' y hy) (by
      rw [a4,hq]
      constructor
      · rintro ⟨z1,z2⟩ i x w hi hx e' he'
        rcases hold i x w hi hx with ⟨y1,y2⟩ | rfl
        · exact z1 i x w y1 y2 e' he'
        · exact z2 e' he'
      · intro z
        refine ⟨fun i x w hi hx=>z i x w (by omega) (by rw [a2,List.getElem?_append_left (by omega)]; exact hx),fun e' he'=>z p k kw (by omega) (by rw [a2,List.getElem?_append_left hpl]; exact e) e' he'⟩)
     exact ⟨b1,⟨t++t',by rw [b2,a2,List.append_assoc]⟩,b3,b4⟩
theorem br1 {f:Nat→α}:∀ {N:Nat},(∀ i j,i<N→j<N→f i=f j→i=j)→((List.range N).map f).Nodup
 | 0,_=>by simp
 | N+1,h=>by
   rw [List.range_succ,List.map_append,List.nodup_append]
   refine ⟨br1 fun i j hi hj=>h i j (by omega) (by omega),by simp,fun a ha b hb z=>?_⟩
   obtain ⟨i,hi,rfl⟩:=List.mem_map.mp ha
   have hi:=List.mem_range.mp hi
   simp only [List.map_cons,List.map_nil,List.mem_singleton] at hb
   have:=h i N (by omega) (by omega) (z.trans hb)
   omega
theorem bc8 {f:Nat→α}{N:Nat}{row:List α}(inj:∀ i j,i<N→j<N→f i=f j→i=j) (h:∀ i,i<N→f i∈row):N≤row.length:=by
 have:=List.Nodup.length_le_of_subset (br1 inj) (l₂:=row) (fun x hx=>by
  obtain ⟨i,hi,rfl⟩:=List.mem_map.mp hx
  exact h i (List.mem_range.mp hi))
 simpa using this
theorem bc9 {row S:List α}{x:α}(hd:row.Nodup) (hr:∀ y∈row,y∈S) (hx:x∈S) (hn:x∉row):row.length<S.length:=by
 have:(x::row).Nodup:=List.nodup_cons.mpr ⟨hn,hd⟩
 have:=List.Nodup.length_le_of_subset this (l₂:=S) (fun y hy=>by
  rcases List.mem_cons.mp hy with rfl | hy
  · exact hx
  · exact hr y hy)
 rw [List.length_cons] at this
 omega
theorem ax7 {S:List α}{most:Nat}(hS:S.length≤most):∀ {ks row:List α},(∀ k∈ks,k∈S)→(∀ k∈row,k∈S)→row.Nodup→∃ row',addL most row ks=some row'∧(∀ k∈row',k∈S)∧row'.Nodup
 | [],row,_,hr,hd=>⟨row,rfl,hr,hd⟩
 | k::ks,row,hk,hr,hd=>by
   unfold addL
   by_cases hm:k∈row
   · rw [if_pos hm]
     exact ax7 hS (fun x hx=>hk x (by simp [hx])) hr hd
   · have:=bc9 hd hr (hk k (by simp)) hm
     rw [if_neg hm,if_neg (by omega)]
     refine ax7 hS (fun x hx=>hk x (by simp [hx])) (fun x hx=>?_) ?_
     · rcases List.mem_append.mp hx with hx | hx
       · exact hr x hx
       · rw [List.mem_singleton.mp hx]; exact hk k (by simp)
     · rw [List.nodup_append]
       exact ⟨hd,by simp,fun a ha b hb z=>hm (by rw [← List.mem_singleton.mp hb,←z]; exact ha)⟩
theorem br2 {nx:α→List α}{S:List α}{most:Nat}(hS:S.length≤most) (hc:∀ x∈S,∀ y∈nx x,y∈S):∀ {n p:Nat}{row:List α},(∀ k∈row,k∈S)→row.Nodup→∃ row',srL nx most n p row=some row'∧∀ k∈row',k∈S
 | 0,p,row,hr,_=>⟨row,rfl,hr⟩
 | n+1,p,row,hr,hd=>by
   cases e:row[p]? with
   | none =>
     rw [aq2 (List.getElem?_eq_none_iff.mp e)]
     exact ⟨row,rfl,hr⟩
   | some k =>
     rw [bc3 e]
     obtain ⟨row1,h1,h2,h3⟩:=ax7 hS (hc k (hr k (List.mem_of_getElem? e))) hr hd
     rw [h1]
     exact br2 hS hc h2 h3
theorem aq5 {ps:α→Tr→Option α}{S:List α}{most:Nat}{x:α}(hS:S.length≤most):∀ {es:List Tr}{s:List (α×Wy α)×Wy α},(∀ e∈es,∀ y,ps x e=some y→y∈S)→(∀ k∈s.1.map (·.1),k∈S)→(s.1.map (·.1)).Nodup→∃ s',stpP ps most x s es=some s'∧(∀ k∈s'.1.map (·.1),k∈S)∧(s'.1.map (·.1)).Nodup
 | [],s,_,hr,hd=>⟨s,rfl,hr,hd⟩
 | e::es,s,hc,hr,hd=>by
   cases he:ps x e with
   | none =>
     rw [ae2 he]
     exact aq5 hS (fun e' h'=>hc e' (by simp [h'])) hr hd
   | some y =>
     rw [ae3 he]
     have hy:=hc e (by simp) y he
     by_cases hm:y∈s.1.map (·.1)
     · rw [if_pos hm]
       exact aq5 hS (fun e' h'=>hc e' (by simp [h'])) hr hd
     · have:=bc9 hd hr hy hm
       rw [List.length_map] at this
       rw [if_neg hm,if_neg (by omega)]
       refine aq5 hS (fun e' h'=>hc e' (by simp [h'])) (fun k hk=>?_) ?_
       · rw [List.map_append] at hk
         rcases List.mem_append.mp hk with hk | hk
         · exact hr k hk
         · simp only [List.map_cons,List.map_nil,List.mem_singleton] at hk
           rw [hk]
           exact hy
       · rw [List.map_append,List.nodup_append]
         refine ⟨hd,by simp,fun a ha b hb z=>hm ?_⟩
         simp only [List.map_cons,List.map_nil,List.mem_singleton] at hb
         rw [← hb,←z]
         exact ha
theorem br3 {ps:α→Tr→Option α}{es:List Tr}{S:List α}{most:Nat}(hS:S.length≤most) (hc:∀ x∈S,∀ e∈es,∀ y,ps x e=some y→y∈S):∀ {n p:Nat}{s:List (α×Wy α)×Wy α},(∀ k∈s.1.map (·.1),k∈S)→(s.1.map (·.1)).Nodup→∃ s',goP ps es most n p s=some s'∧∀ k∈s'.1.map (·.1),k∈S
 | 0,p,s,hr,_=>⟨s,rfl,hr⟩
 | n+1,p,s,hr,hd=>by
   cases e:s.1[p]? with
   | none =>
     rw [aq4 (List.getElem?_eq_none_iff.mp e)]
     exact ⟨s,rfl,hr⟩
   | some k =>
     rw [bc7 e]
     obtain ⟨s1,h1,h2,h3⟩:=aq5 (ps:=ps) (x:=k.1) hS (hc k.1 (hr _ (List.mem_map.mpr ⟨k,List.mem_of_getElem? e,rfl⟩))) hr hd
     rw [h1]
     exact br3 hS hc h2 h3
end
def bd0 (CX:CXT) (X:Cx) (E:XK) (σ:St):Prop:=∀ (pins:List (Addr×Obj)) (H:Hp) (s:Shared) (e:Value) (s':Shared),Inv X pins σ H s→CX X.stack H s E e s'→X.xe e s'
def br4 (sp:Sp) (dvs:List V) (E:St→XK) (t:TA):TE:=fun σ H Q=>t σ H fun vs H1=>sp (vs++dvs) H1 Q (E σ)
def bd1 (n i:Nat) (C:Addr) (tb:(St→XK)→TS) (ts:TS):TS:=fun D σ H=>tb (fun σ' _ _ H'=>∀ (a:Addr),σ'.length=n→H' a=none→ts (D.fgt i) (σ'.set i (some (.ref a))) (upd H' a (.ext (ExcP a C)))) D σ H
section
variable {X:Cx}{CX:CXT}{k:Nat}{f:Addr}{fd:FuncData}{ps:List Str}{sp:Sp}{dvs:List V}{ds:List Value}{E:St→XK}{x:Str}{p pos:Pos}{e:Expr}{es:List Expr}{t:TA}
theorem bz7 {pins:List (Addr×Obj)}{σ:St} {H:Hp}{s:Shared}{Q:VK}{us:List Value}{vs:List V}(F:FnOk X.prog X.w X.K X.mg X.base CX k f fd ps sp) (hr:Room k X.A) (hb:Binds X.K fd ps ds) (hd:Vals dvs ds) (hx:bd0 CX X (E σ) σ)
 (I:Inv X pins σ H s) (r:Vals vs us) (h:sp (vs++dvs) H Q (E σ)):wpAny (model X.prog X.w) X.A (call (.ref f) us) (EP X pins σ Q) X.xe s:=by
 have r2:Vals (vs++dvs) (us++ds):=r.append hd
 have hl:(us++ds).length=ps.length:=by rw [← r2.length]; exact F.len _ _ _ _ h
 refine wpAny_call (codeAny_mono (F.run X.A X.stack s H ⟨us,[]⟩ (us++ds) (vs++dvs) Q (E σ) hr I.env0 (hb s us I.kIn hl) r2 h) fun r s' hq=>?_)
 cases r with
 | error e=>exact hx pins H s e s' I hq
 | ok fl =>
   cases fl with
   | ret u=>exact I.after hq
   | next=>exact False.elim hq
   | brk=>exact False.elim hq
   | cont=>exact False.elim hq
theorem bl4 (F:FnOk X.prog X.w X.K X.mg X.base CX k f fd ps sp) (hr:Room k X.A) (hg:Gl X x) (hm:X.mg x=some (.ref f)) (hk:PySem.W.keepIn X.K (.ref f)=true) (hb:Binds X.K fd ps ds) (hd:Vals dvs ds) (hx:∀ τ,bd0 CX X (E τ) τ)
 (ha:PA X (e::es) t) (hdb:(x == ("__debug__":Str))=false:=by decide) (he:starEach (e::es) X.env=(false,eval e X.env)::starEach es X.env:=by rfl) (hpl:(backTo pos (starEach es X.env)).any (·.1)=false:=by rfl) :
 PE X (.Call (.Name x p) (e::es) [] pos) (br4 sp dvs E t):=by
 intro pins s σ H Q I h
 refine wpAny_Call_Name_kw (ac0 I hg hm ?_ hdb)
 refine PySem.W.callWith_K (h₀:=X.base) I.ok.mod.kin hk (thn (ha pos pins s σ H _ I h) ?_) he hpl
 rintro us s1 ⟨vs,H1,I1,r,q⟩
 refine ⟨I1.kIn,?_⟩
 exact bz7 F hr hb hd (hx σ) I1 r q
end
section
variable {X:Cx}
theorem bl5 {C B0:Addr}{i:Nat}{x n:Str}{np hpos pos:Pos}{body suite:List Stmt}{b₀:Stmt}{tb:(St→XK)→TS}{ts:TS}(hstk:X.stack=X.env::X.outer) (hfrm:X.env.frame=some X.env.locals) (hex:X.ex=[])
 (q:PySem.W.exmOne X.K (.ref C) (.ref B0)=some true) (hm:X.mg x=some (.ref B0)) (hg:Gl X x) (hN:X.N.Nodup) (hi:X.N[i]?=some n) (hk:X.env.kindOf n=some .local) (hk2:X.env.scope.names.lookup n=some .local)
 (hb:∀ (E:St→XK) (pn:List (Addr×Obj)) (xe:Value→Shared→Prop),(∀ τ,bd0 (CXE X.prog X.w C) { X with pn:=pn,xe:=xe } (E τ) τ)→PSs { X with pn:=pn,xe:=xe } body (tb E))
 (hs:∀ a:Addr,PSs { X with A:=X.A.mark (some (.ref a)),calm:=false,xe:=fun _ _=>False } (b₀::suite) ts) (hd:(x == ("__debug__":Str))=false:=by decide) :
 PS X (.Try body [.ExceptHandler (some (.Name x np)) (some n) (b₀::suite) hpos] [] [] pos) (bd1 X.N.length i C tb ts):=by
 intro pins s σ H D I h
 have hfr:=I.ok.frames
 obtain ⟨E,hE⟩:∃ E:St→XK,E=(fun σ' _ _ H'=>∀ (a:Addr),σ'.length=X.N.length→H' a=none→ts (D.fgt i) (σ'.set i (some (.ref a))) (upd H' a (.ext (ExcP a C)))):=⟨_,rfl⟩
 obtain ⟨XE,hXE⟩:∃ XE:Value→Shared→Prop,XE=(fun e s'=>∃ (pins':List (Addr×Obj)) (σ':St) (H0:Hp) (s0:Shared),Inv { X with pn:=X.pn++pins } pins' σ' H0 s0∧CXE X.prog X.w C X.stack H0 s0 (E σ') e s'):=⟨_,rfl⟩
 have hbd:=hb E (X.pn++pins) XE (fun σ' pins' H0 s0 e s' I0 hc=>by
  rw [hXE]
  exact ⟨pins',σ',H0,s0,I0.re I0.ok.hd I0.ok.frames (fun _ z=>z),hc⟩)
 have I1:Inv { X with pn:=X.pn++pins,xe:=XE } [] σ H s:=I.re I.ok.hd hfr (by simp)
 unfold bd1 at h
 rw [← hE] at h
 refine wpAny_Try_except (wpAny_mono (hbd [] s σ H D I1 h) (fun f s₁ hf=>?_) fun e s₁ he=>?_)
 · have hf':SP X pins D f s₁:=SP.re (X:={ X with pn:=X.pn++pins,xe:=XE }) (pins:=[]) I.ok.hd hfr (by simp) hf
   cases f with
   | next=>obtain ⟨σ',H',I',hq⟩:=hf'; exact a20 pins s₁ σ' H' D I' hq
   | brk=>exact hf'
   | cont=>exact hf'
   | ret u=>exact hf'
 · have he:XE e s₁:=he
   rw [hXE] at he
   obtain ⟨pins',σ',H0,s0,I0,a,tt,H',B,vs,rfl,os,bare,un,ok,cov,fl,tup,hq⟩:=he
   have fr:∀ {h:Heap},h.FunFrames B X.stack→∀ b∈frs X.stack,H0 b=none∧∀ o,h.get? b=some o→∀ vs,o.data≠.fields vs:=fun ff b hb=>⟨I0.stkFree b hb,fun o e=>by
    obtain ⟨_,o',e',hd⟩:=ff.mem hb
    rw [e] at e'
    cases e'
    exact hd⟩
   have fr2:∀ b∈frs X.stack,H' b=none:=fun b hb=>by
    obtain ⟨_,o',e',_⟩:=I0.stack.mem hb
    exact un.free b o' e' (I0.stkFree b hb) (by simp)
   have fl0:=fl
   rw [hstk] at fl hfr
   refine wpAny_looks_onW hfr hfrm fl fun h₄ held₄ up₄=>?_
   refine wpAny_landsW held₄ fun h₅ fl₅ up₅=>?_
   obtain ⟨un5,ok5,cov5⟩:=an7 un ok cov fl₅.1 (up₄.trans up₅) (fr fl0.2.2.1) fr2
   have J5:Inv { X with pn:=X.pn++pins,A:=X.A.mark (some (.ref a)),calm:=false } pins' σ' H0 s0:=I0.re (fun z=>nomatch z) (by exact I.ok.frames) (fun _ z=>z)
   have I5:Inv { X with pn:=X.pn++pins,A:=X.A.mark (some (.ref a)),calm:=false } pins' σ' H' { s₁ with heap:=h₅ }:=J5.call' (ch:=[]) os un5 ok5 bare (fun b z=>absurd z (by simp))
   obtain ⟨ob,hob,hobc⟩:=fl₅.there
   refine wpAny_handleBy_cons (codeAny_handlers_test (ac0 I5 hg hm ?_ hd)) (by intro q; cases q)
   refine (PySem.W.exm_one (K:=X.K) (h:=h₅) I5.kIn (hobc ▸ (PySem.W.Looks.ld hob).andThen .now) q).at ?_
   refine codeAny_handlers_suite_as ?_
   refine lands_againW fl₅ fun h₆ fl₆ up₆=>?_
   have fl5:h₅.FunFrames B X.stack:=by rw [hstk]; exact fl₅.2.2.1
   have fl6:h₆.FunFrames B X.stack:=by rw [hstk]; exact fl₆.2.2.1
   obtain ⟨un6,ok6,cov6⟩:=an7 un5 ok5 cov5 fl₆.1 up₆ (fr fl5) fr2
   have J6:Inv { X with A:=X.A.mark (some (.ref a)),calm:=false,xe:=fun _ _=>False } pins σ' H0 s0:=I0.re (X:={ X with pn:=X.pn++pins }) (fun z=>nomatch z) (by exact I.ok.frames) (fun p z=>List.mem_append_left _ z)
   have I6:Inv { X with A:=X.A.mark (some (.ref a)),calm:=false,xe:=fun _ _=>False } pins σ' H' { s₁ with heap:=h₆ }:=J6.call' (ch:=[]) os un6 ok6 bare (fun b z=>absurd z (by simp))
   obtain ⟨oe,ws,hoe,hoec,hoed,_⟩:=fl₆.first
   have hna:a∉frs X.stack:=fun z=>(fr fl6 a z).2 oe hoe ws hoed
   have hBa:B.get? a=none:=fl₆.2.1
   have new0:∀ {b:Addr}{o:Obj},s0.heap.get? b=some o→b≠a:=fun {b o} e z=>by
    subst z
    obtain ⟨o',e'⟩:=cov.ther b o e hna
    rw [hBa] at e'
    cases e'
   have hHa:H' a=none:=by
    cases eH:H' a with
    | none=>rfl
    | some u =>
      have:=cov6.abs a oe (by rw [eH]; simp) hoe
      rw [hBa] at this
      cases this
   have I7:=Inv.seen (φ:=ExcP a C) I6 hHa ⟨oe,hoe,hoec⟩ ⟨oe,hoe⟩ (fun h1 h2 p k=>by
    obtain ⟨o,e,hc⟩:=p
    exact ⟨o,k o e,hc⟩) (by
    cases e0:X.s₀.heap.get? a with
    | none=>rfl
    | some o =>
      obtain ⟨o',e'⟩:=I0.base.there a o e0 (by show a∉X.ex; rw [hex]; simp)
      exact absurd rfl (new0 e')) (by
    obtain ⟨m,⟨o,_,_,ho,_⟩,_⟩:=I0.loc
    exact (new0 ho).symm) (fun y c e=>by
    obtain ⟨v,o,ho,_⟩:=I0.cell y c e
    exact new0 ho) fun p hp=>new0 (J6.pin p hp).1
   rw [hE] at hq
   refine a85 (X:={ X with A:=X.A.mark (some (.ref a)),calm:=false,xe:=fun _ _=>False }) (v:=.ref a) I7 hN hi (.inl hk2) rfl (fun s8 I8=>?_) (.inr hk2)
   refine wpAny_mono (hs a pins s8 _ _ (D.fgt i) I8 (hq a I0.len hHa)) (fun f s2 hf=>?_) fun e s2 z=>False.elim z
   have hf2:SP X pins (D.fgt i) f s2:=SP.re (X:={ X with A:=X.A.mark (some (.ref a)),calm:=false,xe:=fun _ _=>False }) (pins:=pins) I.ok.hd I.ok.frames (fun _ z=>z) hf
   cases f with
   | next=>obtain ⟨τ,G,J,hq2⟩:=hf2; exact ae1 J hN hi hk hk2 fun s3 J3=>⟨_,_,J3,hq2⟩
   | brk=>obtain ⟨τ,G,J,hq2⟩:=hf2; exact ae1 J hN hi hk hk2 fun s3 J3=>⟨_,_,J3,hq2⟩
   | cont=>obtain ⟨τ,G,J,hq2⟩:=hf2; exact ae1 J hN hi hk hk2 fun s3 J3=>⟨_,_,J3,hq2⟩
   | ret u=>obtain ⟨v,τ,G,J,r,hq2⟩:=hf2; exact ae1 J hN hi hk hk2 fun s3 J3=>⟨v,_,_,J3,r,hq2⟩
end
section
variable {σ:St} {H:Hp}{D:Ends}{C:Addr}{n i:Nat}{tb:(St→XK)→TS}{ts:TS}{Q:VK}{sp:Sp}{dvs:List V}{E:St→XK}{t:TA}
theorem bz8 (h:tb (fun σ' _ _ H'=>∀ (a:Addr),σ'.length=n→H' a=none→ts (D.fgt i) (σ'.set i (some (.ref a))) (upd H' a (.ext (ExcP a C)))) D σ H):bd1 n i C tb ts D σ H:=h
theorem bz9 (h:t σ H fun vs H1=>sp (vs++dvs) H1 Q (E σ)):br4 sp dvs E t σ H Q:=h
end
end L2
local macro_rules | `(tactic| walk_at "side") => `(tactic| first | exact ⟨by decide, by decide, by decide⟩ | exact ⟨by decide, by decide⟩ | exact .inr (.inr ⟨by decide, by decide⟩) | exact .inr (.inl ⟨by decide, by decide⟩) | decide | omega | exact L2.le_line (by simp only [List.length_cons, List.length_nil]; omega))
local macro_rules | `(tactic| walk_at "o") => `(tactic| first | exact Or.inl rfl | exact Or.inr rfl)
local macro_rules | `(tactic| walk_at "step") => do
  let mut acc ← `(tactic| ((with_reducible refine L2.i_rgA ?k ?l ?_); (case k => walk_at "side"); (case l => walk_at "side")))
  for s in ("i_rI ad9 bq7 ch8 i_c i_op i_un i_rU ch9 bv5 ci0 ci1 ci2 ci3 ci4 c85 i_bl ci5 i_if ci6 c86 c87 c88 c89 ci7 i_cb c90 ci8 ci9 cj0 c92 cj1 i_or c93 c94 cj2 i_lc c95 bv7 c96 bw5 ck3 ck4 ck5 cj3 cj4 i_sx i_bm cj5 cj6 i_sl bj0 c97 cj7 cj9 ck0 c98 c99 ca3 bv8 ca5 ca0 bv9 ca1 ck1 ca6 ck7 cb6 cb2 cb3 cb8 i_tB bj2 cc1 cc0 cc6 ck9 bj9 cc7 cl0 cc8 cc9 cd0 bx9 by1 by0 cl3 bz8 bz9 c91 bq8".splitOn " ").reverse do
    let n := Lean.mkIdent (Lean.Name.str `L2 s)
    if s == "i_rI" || s == "ad9" || s == "c91" then acc ← `(tactic| first | ((with_reducible refine $n ?k ?_); (case k => walk_at "side")) | $acc:tactic)
    else if s == "bq7" then acc ← `(tactic| first | ((with_reducible refine $n ?_); intro _ _) | $acc:tactic)
    else if s == "bq8" then acc ← `(tactic| first | ((with_reducible refine' $n ?k ?_); (case k => assumption)) | $acc:tactic)
    else acc ← `(tactic| first | with_reducible refine $n ?_ | $acc:tactic)
  `(tactic| first | ((with_reducible refine L2.i_name ?_); dsimp only [List.set_cons_zero, List.set_cons_succ]) | ((with_reducible refine' L2.i_var ?k ?_); (case k => rfl)) | $acc:tactic)
local macro_rules | `(tactic| walk_at "run") => `(tactic| (repeat walk_at "step"))
local macro_rules | `(tactic| walk_at "go") => do
  let ids := (("L2.start List.map_cons List.map_nil List.length_cons List.length_nil List.replicate List.cons_append List.nil_append Nat.reduceSub Nat.reduceAdd L2.nox_K L2.wish_K L2.cxOf_K L2.cxC_K".splitOn " ").map fun s => Lean.mkIdent s.toName).toArray
  `(tactic| (simp only [$[$ids:term],*]; walk_at "run"))
namespace K30
open PySem L2
theorem sc_value_of_box:FnScope ["name","boxes","values","names"] ["name","boxes","values"] (a07 a79):=⟨rfl,rfl,rfl,by decide +kernel,rfl,by decide +kernel,by decide +kernel⟩
theorem sc_worth:FnScope ["expression","boxes","values","kind","one","other"] ["expression","boxes","values"] (a07 b78):=⟨rfl,rfl,rfl,by decide +kernel,rfl,by decide +kernel,by decide +kernel⟩
theorem sc_holds:FnScope ["condition","boxes","values","kind","one","other"] ["condition","boxes","values"] (a07 b79):=⟨rfl,rfl,rfl,by decide +kernel,rfl,by decide +kernel,by decide +kernel⟩
theorem au5:FnScope ["line","word"] ["line","word"] (a07 ai4):=⟨rfl,rfl,rfl,by decide +kernel,rfl,by decide +kernel,by decide +kernel⟩
theorem sc_standings:FnScope ["machine","events","found","known","place","event","standing"] ["machine","events"] (a07 ac3):=⟨rfl,rfl,rfl,by decide +kernel,rfl,by decide +kernel,by decide +kernel⟩
theorem ak0:FnScope ["boxes"] ["boxes"] (a07 a80):=⟨rfl,rfl,rfl,by decide +kernel,rfl,by decide +kernel,by decide +kernel⟩
theorem sc_values_put:FnScope ["boxes","values","name","expression","number"] ["boxes","values","name","expression"] (a07 aa0):=⟨rfl,rfl,rfl,by decide +kernel,rfl,by decide +kernel,by decide +kernel⟩
theorem au6:FnScope ["thing"] ["thing"] (a07 ai5):=⟨rfl,rfl,rfl,by decide +kernel,rfl,by decide +kernel,by decide +kernel⟩
theorem sc_rested_on:FnScope ["standing","left"] ["standing"] (a07 ai6):=⟨rfl,rfl,rfl,by decide +kernel,rfl,by decide +kernel,by decide +kernel⟩
theorem sc_way_of_pattern:FnScope ["branches","pattern","own","way"] ["branches","pattern"] (a07 a95):=⟨rfl,rfl,rfl,by decide +kernel,rfl,by decide +kernel,by decide +kernel⟩
theorem sc_way_of_event:FnScope ["branches","event","way"] ["branches","event"] (a07 ab5):=⟨rfl,rfl,rfl,by decide +kernel,rfl,by decide +kernel,by decide +kernel⟩
theorem sc_stepped:FnScope ["machine","wait","standing","event","way","rest"] ["machine","wait","standing","event"] (a07 as6):=⟨rfl,rfl,rfl,by decide +kernel,rfl,by decide +kernel,by decide +kernel⟩
theorem a84:FnScope ["self","graph"] ["self","graph"] (a07 a61):=⟨rfl,rfl,rfl,by decide +kernel,rfl,by decide +kernel,by decide +kernel⟩
theorem aa5:FnScope ["self"] ["self"] (a07 a72):=⟨rfl,rfl,rfl,by decide +kernel,rfl,by decide +kernel,by decide +kernel⟩
theorem ab3:FnScope ["self","standing","event"] ["self","standing","event"] (a07 a74):=⟨rfl,rfl,rfl,by decide +kernel,rfl,by decide +kernel,by decide +kernel⟩
theorem ab4:FnScope ["self","standing"] ["self","standing"] (a07 a75):=⟨rfl,rfl,rfl,by decide +kernel,rfl,by decide +kernel,by decide +kernel⟩
theorem sc_GraphMachine_gone_on:FnScope ["self","number","stack","values","said","kept","node","kind"] ["self","number","stack","values"] (a07 a64):=⟨rfl,rfl,rfl,by decide +kernel,rfl,by decide +kernel,by decide +kernel⟩
theorem sc_GraphMachine_node_behind:FnScope ["self","node","kept","values","kind"] ["self","node","kept","values"] (a07 a54):=⟨rfl,rfl,rfl,by decide +kernel,rfl,by decide +kernel,by decide +kernel⟩
theorem sc_begun_pair:FnScope ["one","other","told","said"] ["one","other"] (a07 af9):=⟨rfl,rfl,rfl,by decide +kernel,rfl,by decide +kernel,by decide +kernel⟩
theorem sc_stepped_pair:FnScope ["one","other","pair","event","told","said"] ["one","other","pair","event"] (a07 ab6):=⟨rfl,rfl,rfl,by decide +kernel,rfl,by decide +kernel,by decide +kernel⟩
theorem b51:FnScope ["one","other","told","told_beside"] ["one","other","told","told_beside"] (a07 as7):=⟨rfl,rfl,rfl,by decide +kernel,rfl,by decide +kernel,by decide +kernel⟩
theorem sc_found_paper:FnScope ["one","other","events","told"] ["one","other","events"] (a07 ad2):=⟨rfl,rfl,rfl,by decide +kernel,rfl,by decide +kernel,by decide +kernel⟩
theorem sc_gone_through:FnScope ["one","other","events","first","found","ways","parted","place","event","pair"] ["one","other","events"] (a07 ab7):=⟨rfl,rfl,rfl,by decide +kernel,rfl,by decide +kernel,by decide +kernel⟩
theorem sc_row_by:FnScope ["ways","way","row"] ["ways","way"] (a07 az6):=⟨rfl,rfl,rfl,by decide +kernel,rfl,by decide +kernel,by decide +kernel⟩
theorem sc_map_paper:FnScope ["one","other","stands_for","events","paper","standing","ended"] ["one","other","stands_for","events"] (a07 ai7):=⟨rfl,rfl,rfl,by decide +kernel,rfl,by decide +kernel,by decide +kernel⟩
theorem ae4:FnScope ["one","other","stands_for","standing","nodes","kept","stack","names","values"] ["one","other","stands_for","standing"] (a07 a82):=⟨rfl,rfl,rfl,by decide +kernel,rfl,by decide +kernel,by decide +kernel⟩
theorem ax8:FnScope ["script","k"] ["script","k"] (a07 am5):=⟨rfl,rfl,rfl,by decide +kernel,rfl,by decide +kernel,by decide +kernel⟩
theorem sc_law_stir:FnScope ["cell","k","number"] ["cell","k"] (a07 am6):=⟨rfl,rfl,rfl,by decide +kernel,rfl,by decide +kernel,by decide +kernel⟩
theorem sc_law_drawn:FnScope ["cell","sizes","found","rest","k","size"] ["cell","sizes"] (a07 ai8):=⟨rfl,rfl,rfl,by decide +kernel,rfl,by decide +kernel,by decide +kernel⟩
theorem sc_law_key:FnScope ["thing","found","pile","one"] ["thing"] (a07 as8):=⟨rfl,rfl,rfl,by decide +kernel,rfl,by decide +kernel,by decide +kernel⟩
theorem sc_law_is_right:FnScope ["one","other","events","paper","seen","pair","said","here","told","there","mine","yours","event"] ["one","other","events","paper"] (a07 ab8):=⟨rfl,rfl,rfl,by decide +kernel,rfl,by decide +kernel,by decide +kernel⟩
theorem sc_law_round:FnScope ["many","said","nodes"] ["many","said"] (a07 ac4):=⟨rfl,rfl,rfl,by decide +kernel,rfl,by decide +kernel,by decide +kernel⟩
theorem sc_law_endless:FnScope ["key","word","nodes"] ["key","word"] (a07 ad3):=⟨rfl,rfl,rfl,by decide +kernel,rfl,by decide +kernel,by decide +kernel⟩
theorem sc_law_made:FnScope ["cell","way","many","key","said","near","events"] ["cell"] (a07 am7):=⟨rfl,rfl,rfl,by decide +kernel,rfl,by decide +kernel,by decide +kernel⟩
theorem sc_law_divisor:FnScope ["one","other"] ["one","other"] (a07 ad4):=⟨rfl,rfl,rfl,by decide +kernel,rfl,by decide +kernel,by decide +kernel⟩
theorem sc_law_by_map:FnScope ["graph","events","found"] ["graph","events"] (a07 ag0):=⟨rfl,rfl,rfl,by decide +kernel,rfl,by decide +kernel,by decide +kernel⟩
theorem sc_law:FnScope ["script","one","other","events","mine","yours","caught","found","e","silent","pairs"] ["script"] (a07 bt8):=⟨rfl,rfl,rfl,by decide +kernel,rfl,by decide +kernel,by decide +kernel⟩
theorem Txt.xi_TooMany {K:PySem.W.Frag}{mg:Str→Option Value}{t:Adr}(T:Txt K mg t):ExcI K t.c_TooMany:=by9 T.xb_TooMany
theorem Txt.d_QUIET {K:PySem.W.Frag}{mg:Str→Option Value}{t:Adr}(T:Txt K mg t):TupK K t.ad_QUIET [.str "quiet"]:=by obtain ⟨_,its,nn,_,h1,h2,h3⟩:=T.dd_QUIET; exact ⟨_,its,nn,h1,rfl,rfl,h2,h3⟩
theorem Txt.d_OTHER {K:PySem.W.Frag}{mg:Str→Option Value}{t:Adr}(T:Txt K mg t):TupK K t.ad_OTHER [.str "other"]:=by obtain ⟨_,its,nn,_,h1,h2,h3⟩:=T.dd_OTHER; exact ⟨_,its,nn,h1,rfl,rfl,h2,h3⟩
section
variable {P:Program}{w:World}{K:PySem.W.Frag}{mg:Str→Option Value}{base:Heap}{t:Adr}
def cd9 (K:PySem.W.Frag):Sp:=fun vs H Q _=>∃ (n:Str) (bx vl:Addr) (xs:List V) (ns:List Str) (ws:List Int),vs=[.str n,.ref bx,.ref vl]∧SqL K H bx xs∧Boxes H xs ns∧SqT K H vl (ws.map V.int)∧ns.length≤ws.length∧ns.length≤1000∧n∈ns∧∀ H',Same H H'→Q (.int (bval ns ws n)) H'
theorem ak1 (T:Txt K mg t):FnOk P w K mg base CX0 1 t.a_value_of_box t.fd_value_of_box ["name","boxes","values"] (cd9 K):=by
 refine T.f_value_of_box.F.ok sc_value_of_box (fun vs H Q E h=>?_) (fun cdv A outer s H vs Q E hr h=>?_)
 · obtain ⟨n,bx,vl,xs,ns,ws,rfl,_⟩:=h
   rfl
 · obtain ⟨n,bx,vl,xs,ns,ws,rfl,hb,hB,hv,hl,hl2,hn,q⟩:=h
   refine ⟨_,(@a01 _ _ _ _ _ (c75 (i:=3) (Nt:=["box"]) (Nf:=[]) (caps:=[]) rfl (af2 (sc:=a07 a79) rfl rfl (by decide +kernel) (by decide +kernel) (by decide +kernel) rfl (by decide +kernel)) (a69 K (pv 1)) (fun _ _ _ _ _=>(a24 (i:=0) (show (["box"]:List Str).Nodup by decide +kernel) rfl (by walk_at "o"))) (fun _ _ _ _ _=>(@ai9 _)) (fun _ _ _ _ _=>(@a12 _ _ _ _ _ _ _ (a06 K) (pv 0) (@a03 _ _ _ _) (fun _ _=>rfl))) sc_value_of_box.nd rfl (by walk_at "o") rfl)
    (@a05 _ _ _ (@a17 _ _ _ _ (@a12 _ _ _ _ _ _ _ (a06 K) (pv 2) (@a70 _ K _ _ _ _ _ _ _ _ _ _ _ PySem.F.plainAttrs_list PySem.F.slot_list_index PySem.F.type_list_index (b93 K) (pv 3) (@a00 _ _ _ _ _ (pv 0) (@a02 _) (by rfl)) (by rfl) (by rfl) (by rfl) (by rfl) (by rfl) (by rfl)) (fun _ _=>rfl))))),?_⟩
   walk_at "go"
   refine ⟨⟨_,hb⟩,ap4 (xs:=xs) (le_line (by rw [hB.len]; omega)) (fun i acc H2=>H2=H∧i≤xs.length∧acc=a34 (ns.take i)) ⟨rfl,Nat.zero_le _,rfl⟩ (fun i acc H2 ⟨e0,hi,e⟩=>⟨?_,e0 ▸ hb⟩) ?_ ?_⟩
   · subst e
     simp only [a34,List.length_map,List.length_take]
     omega
   · rintro i x acc H2 hx ⟨rfl,hi,rfl⟩
     obtain ⟨p,m,z,rfl,hm,hp⟩:=hB.get i x hx
     have hi':i<xs.length:=(List.getElem?_eq_some_iff.mp hx).1
     walk_at "run"
     refine a23 (SqT.of hp) (a04 (j:=0) rfl) ?_
     exact ⟨rfl,hi',b44 hm⟩
   · rintro acc H2 ⟨rfl,_,rfl⟩ l H3 f3 s3 e3
     walk_at "run"
     rw [hB.len,List.take_length] at e3
     refine aa3 (SqL.of e3) ?_
     walk_at "run"
     obtain ⟨j,h1,h2,h3⟩:=b94 hn hl
     refine bw0 (SqL.of e3) h1 h2 ?_
     refine a23 (s3.seqT hv) (bw1 h3) ?_
     exact q _ s3
def bl6 (K:PySem.W.Frag) (d:Nat):Sp:=fun vs H Q _=>∃ (v:V) (e:Ex) (bx vl:Addr) (xs:List V) (ns:List Str) (ws:List Int),vs=[v,.ref bx,.ref vl]∧e.At H v∧e.h<d∧e.ok ns∧SqL K H bx xs∧Boxes H xs ns∧SqT K H vl (ws.map V.int)∧ns.length≤ws.length∧ns.length≤1000 ∧
 ∀ H',Same H H'→Q (.int (e.ev ns ws)) H'
theorem b14 (T:Txt K mg t):∀ d:Nat,FnOk P w K mg base CX0 (d+2) t.a_worth t.fd_worth ["expression","boxes","values"] (bl6 K d):=by
 intro d
 induction d with
 | zero=>exact vac (fun vs H Q E ⟨_,_,_,_,_,_,_,_,_,h,_⟩=>Nat.not_lt_zero _ h)
 | succ d G_worth =>
   have G_value_of_box:=ak1 (P:=P) (w:=w) (base:=base) T
   refine T.f_worth.F.ok sc_worth (fun vs H Q E h=>?_) (fun cdv A outer s H vs Q E hr h=>?_)
   · obtain ⟨v,e,bx,vl,xs,ns,ws,rfl,_⟩:=h
     rfl
   · obtain ⟨v,e,bx,vl,xs,ns,ws,rfl,he,hh,ho,hb,hB,hv,hl,hl2,q⟩:=h
     refine ⟨_,(@a01 _ _ _ _ _ (@a16 _ _ 3 _ _ _ _ sc_worth.nd rfl (by walk_at "o") (@a12 _ _ _ _ _ _ _ (a06 K) (pv 0) (@a03 _ _ _ _) (fun _ _=>rfl)) (by rfl) (by walk_at "o"))
     (@a01 _ _ _ _ _ (@a32 _ _ _ _ _ _ _ _ (@a09 _ _ _ _ _ _ _ _ a60 (pv 3) (@a22 _ _ _ _) (nomark _)) (@a05 _ _ _ (@a17 _ _ _ _ (@a12 _ _ _ _ _ _ _ (a06 K) (pv 0) (@a03 _ _ _ _) (fun _ _=>rfl)))) (@a20 _))
     (@a01 _ _ _ _ _ (@a32 _ _ _ _ _ _ _ _ (@a09 _ _ _ _ _ _ _ _ a60 (pv 3) (@a22 _ _ _ _) (nomark _)) (@a05 _ _ _ (@a17 _ _ _ _ (@a21 _ _ _ _ _ _ _ _ _ _ _ _ _ _ _ _ G_value_of_box (hr.mono (by omega)) rfl T.f_value_of_box.m T.f_value_of_box.F.kp T.f_value_of_box.b .nil a27 (@a00 _ _ _ _ _ (@a12 _ _ _ _ _ _ _ (a06 K) (pv 0) (@a03 _ _ _ _) (fun _ _=>rfl)) (@a00 _ _ _ _ _ (pv 1) (@a00 _ _ _ _ _ (pv 2) (@a02 _) (by rfl)) (by rfl)) (by rfl)) (by decide) (by rfl) (by rfl)))) (@a20 _))
     (@a01 _ _ _ _ _ (@a16 _ _ 4 _ _ _ _ sc_worth.nd rfl (by walk_at "o") (@a21 _ _ _ _ _ _ _ _ _ _ _ _ _ _ _ _ G_worth (hr.mono (by omega)) rfl T.f_worth.m T.f_worth.F.kp T.f_worth.b .nil a27 (@a00 _ _ _ _ _ (@a12 _ _ _ _ _ _ _ (a06 K) (pv 0) (@a03 _ _ _ _) (fun _ _=>rfl)) (@a00 _ _ _ _ _ (pv 1) (@a00 _ _ _ _ _ (pv 2) (@a02 _) (by rfl)) (by rfl)) (by rfl)) (by decide) (by rfl) (by rfl)) (by rfl) (by walk_at "o"))
     (@a01 _ _ _ _ _ (@a16 _ _ 5 _ _ _ _ sc_worth.nd rfl (by walk_at "o") (@a21 _ _ _ _ _ _ _ _ _ _ _ _ _ _ _ _ G_worth (hr.mono (by omega)) rfl T.f_worth.m T.f_worth.F.kp T.f_worth.b .nil a27 (@a00 _ _ _ _ _ (@a12 _ _ _ _ _ _ _ (a06 K) (pv 0) (@a03 _ _ _ _) (fun _ _=>rfl)) (@a00 _ _ _ _ _ (pv 1) (@a00 _ _ _ _ _ (pv 2) (@a02 _) (by rfl)) (by rfl)) (by rfl)) (by decide) (by rfl) (by rfl)) (by rfl) (by walk_at "o"))
     (@a01 _ _ _ _ _ (@a32 _ _ _ _ _ _ _ _ (@a09 _ _ _ _ _ _ _ _ a60 (pv 3) (@a22 _ _ _ _) (nomark _)) (@a05 _ _ _ (@a17 _ _ _ _ (@a45 _ _ _ _ _ _ _ _ a66 (pv 4) (pv 5)))) (@a20 _))
     (@a05 _ _ _ (@a17 _ _ _ _ (@a45 _ _ _ _ _ _ _ _ ar6 (pv 4) (pv 5)))))))))),?_⟩
     walk_at "go"
     cases e with
     | num i =>
       obtain ⟨a,rfl,ha⟩:=he
       refine a23 (SqT.of ha) (a04 (j:=0) rfl) ?_
       walk_at "run"
       refine a26 rfl ?_
       walk_at "run"
       refine a23 (SqT.of ha) (a04 (j:=1) rfl) ?_
       exact q _ (Same.refl _)
     | box n =>
       obtain ⟨a,rfl,ha⟩:=he
       refine a23 (SqT.of ha) (a04 (j:=0) rfl) ?_
       walk_at "run"
       refine a25 (by decide +kernel) ?_
       walk_at "run"
       refine a26 rfl ?_
       walk_at "run"
       refine a23 (SqT.of ha) (a04 (j:=1) rfl) ?_
       walk_at "run"
       exact ⟨n,bx,vl,xs,ns,ws,rfl,hb,hB,hv,hl,hl2,ho,q⟩
     | two k e f =>
       obtain ⟨a,x,y,rfl,ha,h1,h2⟩:=he
       simp only [Ex.h] at hh
       refine a23 (SqT.of ha) (a04 (j:=0) rfl) ?_
       walk_at "run"
       refine a25 (by cases k <;> decide +kernel) ?_
       walk_at "run"
       refine a25 (by cases k <;> decide +kernel) ?_
       walk_at "run"
       refine a23 (SqT.of ha) (a04 (j:=1) rfl) ?_
       walk_at "run"
       refine ⟨x,e,bx,vl,xs,ns,ws,rfl,h1,by omega,ho.1,hb,hB,hv,hl,hl2,fun H1 s1=>?_⟩
       walk_at "run"
       refine a23 (SqT.of (s1 _ _ ha)) (a04 (j:=2) rfl) ?_
       walk_at "run"
       refine ⟨y,f,bx,vl,xs,ns,ws,rfl,h2.mono s1.tups,by omega,ho.2,s1.seq hb,hB.mono s1.tups,s1.seqT hv,hl,hl2,fun H2 s2=>?_⟩
       walk_at "run"
       have:=q H2 (s1.trans s2)
       cases k with
       | true =>
         refine a26 rfl ?_
         walk_at "run"
         exact this
       | false =>
         refine a25 (by decide +kernel) ?_
         walk_at "run"
         exact this
def bl7 (K:PySem.W.Frag) (d:Nat):Sp:=fun vs H Q _=>∃ (v:V) (c:Cd) (bx vl:Addr) (xs:List V) (ns:List Str) (ws:List Int),vs=[v,.ref bx,.ref vl]∧c.At H v∧c.h<d∧c.ok ns 5∧SqL K H bx xs∧Boxes H xs ns∧SqT K H vl (ws.map V.int)∧ns.length≤ws.length∧ns.length≤1000 ∧
 ∀ H',Same H H'→Q (.bl (c.ev ns ws)) H'
theorem bl8 (T:Txt K mg t):∀ d:Nat,FnOk P w K mg base CX0 (d+10) t.a_holds t.fd_holds ["condition","boxes","values"] (bl7 K d):=by
 intro d
 induction d with
 | zero=>exact vac (fun vs H Q E ⟨_,_,_,_,_,_,_,_,_,h,_⟩=>Nat.not_lt_zero _ h)
 | succ d G_holds =>
   have G_worth:=b14 (P:=P) (w:=w) (base:=base) T
   refine T.f_holds.F.ok sc_holds (fun vs H Q E h=>?_) (fun cdv A outer s H vs Q E hr h=>?_)
   · obtain ⟨v,c,bx,vl,xs,ns,ws,rfl,_⟩:=h
     rfl
   · obtain ⟨v,c,bx,vl,xs,ns,ws,rfl,he,hh,ho,hb,hB,hv,hl,hl2,q⟩:=h
     have G_worth:=G_worth 7
     refine ⟨_,(@a01 _ _ _ _ _ (@a16 _ _ 3 _ _ _ _ sc_holds.nd rfl (by walk_at "o") (@a12 _ _ _ _ _ _ _ (a06 K) (pv 0) (@a03 _ _ _ _) (fun _ _=>rfl)) (by rfl) (by walk_at "o"))
     (@a01 _ _ _ _ _ (@a32 _ _ _ _ _ _ _ _ (@a09 _ _ _ _ _ _ _ _ a60 (pv 3) (@a22 _ _ _ _) (nomark _)) (@a05 _ _ _ (@a17 _ _ _ _ (@c39 _ _ _ _ (@a21 _ _ _ _ _ _ _ _ _ _ _ _ _ _ _ _ G_holds (hr.mono (by omega)) rfl T.f_holds.m T.f_holds.F.kp T.f_holds.b .nil a27 (@a00 _ _ _ _ _ (@a12 _ _ _ _ _ _ _ (a06 K) (pv 0) (@a03 _ _ _ _) (fun _ _=>rfl)) (@a00 _ _ _ _ _ (pv 1) (@a00 _ _ _ _ _ (pv 2) (@a02 _) (by rfl)) (by rfl)) (by rfl)) (by decide) (by rfl) (by rfl))))) (@a20 _))
     (@a01 _ _ _ _ _ (@a32 _ _ _ _ _ _ _ _ (@a09 _ _ _ _ _ _ _ _ a60 (pv 3) (@a22 _ _ _ _) (nomark _)) (@a05 _ _ _ (@a17 _ _ _ _ (@b59 _ _ _ _ _ _ _ (@a21 _ _ _ _ _ _ _ _ _ _ _ _ _ _ _ _ G_holds (hr.mono (by omega)) rfl T.f_holds.m T.f_holds.F.kp T.f_holds.b .nil a27 (@a00 _ _ _ _ _ (@a12 _ _ _ _ _ _ _ (a06 K) (pv 0) (@a03 _ _ _ _) (fun _ _=>rfl)) (@a00 _ _ _ _ _ (pv 1) (@a00 _ _ _ _ _ (pv 2) (@a02 _) (by rfl)) (by rfl)) (by rfl)) (by decide) (by rfl) (by rfl)) (@b58 _ _ _ _ _ (@a21 _ _ _ _ _ _ _ _ _ _ _ _ _ _ _ _ G_holds (hr.mono (by omega)) rfl T.f_holds.m T.f_holds.F.kp T.f_holds.b .nil a27 (@a00 _ _ _ _ _ (@a12 _ _ _ _ _ _ _ (a06 K) (pv 0) (@a03 _ _ _ _) (fun _ _=>rfl)) (@a00 _ _ _ _ _ (pv 1) (@a00 _ _ _ _ _ (pv 2) (@a02 _) (by rfl)) (by rfl)) (by rfl)) (by decide) (by rfl) (by rfl)))))) (@a20 _))
     (@a01 _ _ _ _ _ (@a16 _ _ 4 _ _ _ _ sc_holds.nd rfl (by walk_at "o") (@a21 _ _ _ _ _ _ _ _ _ _ _ _ _ _ _ _ G_worth (hr.mono (by omega)) rfl T.f_worth.m T.f_worth.F.kp T.f_worth.b .nil a27 (@a00 _ _ _ _ _ (@a12 _ _ _ _ _ _ _ (a06 K) (pv 0) (@a03 _ _ _ _) (fun _ _=>rfl)) (@a00 _ _ _ _ _ (pv 1) (@a00 _ _ _ _ _ (pv 2) (@a02 _) (by rfl)) (by rfl)) (by rfl)) (by decide) (by rfl) (by rfl)) (by rfl) (by walk_at "o"))
     (@a01 _ _ _ _ _ (@a16 _ _ 5 _ _ _ _ sc_holds.nd rfl (by walk_at "o") (@a21 _ _ _ _ _ _ _ _ _ _ _ _ _ _ _ _ G_worth (hr.mono (by omega)) rfl T.f_worth.m T.f_worth.F.kp T.f_worth.b .nil a27 (@a00 _ _ _ _ _ (@a12 _ _ _ _ _ _ _ (a06 K) (pv 0) (@a03 _ _ _ _) (fun _ _=>rfl)) (@a00 _ _ _ _ _ (pv 1) (@a00 _ _ _ _ _ (pv 2) (@a02 _) (by rfl)) (by rfl)) (by rfl)) (by decide) (by rfl) (by rfl)) (by rfl) (by walk_at "o"))
     (@a01 _ _ _ _ _ (@a32 _ _ _ _ _ _ _ _ (@a09 _ _ _ _ _ _ _ _ a60 (pv 3) (@a22 _ _ _ _) (nomark _)) (@a05 _ _ _ (@a17 _ _ _ _ (@a86 _ _ _ _ _ _ _ _ a60 (pv 4) (pv 5) (nomark _)))) (@a20 _))
     (@a05 _ _ _ (@a17 _ _ _ _ (@a86 _ _ _ _ _ _ _ _ bg3 (pv 4) (pv 5) (nomark _)))))))))),?_⟩
     walk_at "go"
     cases c with
     | nt c =>
       obtain ⟨a,x,rfl,ha,h1⟩:=he
       simp only [Cd.h] at hh
       refine a23 (SqT.of ha) (a04 (j:=0) rfl) ?_
       walk_at "run"
       refine a26 rfl ?_
       walk_at "run"
       refine a23 (SqT.of ha) (a04 (j:=1) rfl) ?_
       walk_at "run"
       refine ⟨x,c,bx,vl,xs,ns,ws,rfl,h1,by omega,ho,hb,hB,hv,hl,hl2,fun H1 s1=>?_⟩
       walk_at "run"
       exact q H1 s1
     | both c d' =>
       obtain ⟨a,x,y,rfl,ha,h1,h2⟩:=he
       simp only [Cd.h] at hh
       refine a23 (SqT.of ha) (a04 (j:=0) rfl) ?_
       walk_at "run"
       refine a25 (by decide +kernel) ?_
       walk_at "run"
       refine a26 rfl ?_
       walk_at "run"
       refine a23 (SqT.of ha) (a04 (j:=1) rfl) ?_
       walk_at "run"
       refine ⟨x,c,bx,vl,xs,ns,ws,rfl,h1,by omega,ho.1,hb,hB,hv,hl,hl2,fun H1 s1=>?_⟩
       walk_at "run"
       have qq:=fun H' s'=>q H' s'
       simp only [Cd.ev] at qq
       cases e:c.ev ns ws with
       | true =>
         rw [e] at qq
         refine iteT ?_
         walk_at "run"
         refine a23 (SqT.of (s1 _ _ ha)) (a04 (j:=2) rfl) ?_
         walk_at "run"
         refine ⟨y,d',bx,vl,xs,ns,ws,rfl,h2.mono s1.tups,by omega,ho.2,s1.seq hb,hB.mono s1.tups,s1.seqT hv,hl,hl2,fun H2 s2=>?_⟩
         exact qq H2 (s1.trans s2)
       | false =>
         rw [e] at qq
         refine iteF ?_
         exact qq H1 s1
     | cmp k e f =>
       obtain ⟨a,x,y,rfl,ha,h1,h2⟩:=he
       obtain ⟨⟨o1,o2⟩,o3,o4⟩:=ho
       refine a23 (SqT.of ha) (a04 (j:=0) rfl) ?_
       walk_at "run"
       refine a25 (by cases k <;> decide +kernel) ?_
       walk_at "run"
       refine a25 (by cases k <;> decide +kernel) ?_
       walk_at "run"
       refine a23 (SqT.of ha) (a04 (j:=1) rfl) ?_
       walk_at "run"
       refine ⟨x,e,bx,vl,xs,ns,ws,rfl,h1,by omega,o1,hb,hB,hv,hl,hl2,fun H1 s1=>?_⟩
       walk_at "run"
       refine a23 (SqT.of (s1 _ _ ha)) (a04 (j:=2) rfl) ?_
       walk_at "run"
       refine ⟨y,f,bx,vl,xs,ns,ws,rfl,h2.mono s1.tups,by omega,o3,s1.seq hb,hB.mono s1.tups,s1.seqT hv,hl,hl2,fun H2 s2=>?_⟩
       walk_at "run"
       have:=q H2 (s1.trans s2)
       cases k with
       | true =>
         refine a26 rfl ?_
         walk_at "run"
         exact this
       | false =>
         refine a25 (by decide +kernel) ?_
         walk_at "run"
         exact this
def bl9 (K:PySem.W.Frag):Sp:=fun vs H Q _=>∃ (a:Addr) (xs:List V),vs=[.ref a]∧H a=some (.lst xs)∧xs.length≤1000∧∀ p H',Same H H'→H' p=some (.tup ((List.replicate xs.length (0:Int)).map V.int))→Q (.ref p) H'
theorem ak2 (T:Txt K mg t):FnOk P w K mg base CX0 1 t.a_first_values t.fd_first_values ["boxes"] (bl9 K):=by
 refine T.f_first_values.F.ok ak0 (fun vs H Q E h=>?_) (fun cdv A outer s H vs Q E hr h=>?_)
 · obtain ⟨a,xs,rfl,_⟩:=h
   rfl
 · obtain ⟨a,xs,rfl,ha,hl,q⟩:=h
   refine ⟨_,(@a05 _ _ _ (@a17 _ _ _ _ (@a33 _ _ _ _ _ _ _ _ _ (aj0 K) (by rfl) T.z_tuple ah1 (@a00 _ _ _ _ _ (bh8 (Nt:=["box"]) (Nf:=[]) (caps:=[]) rfl (af2 (sc:=a07 a80) rfl rfl (by decide +kernel) (by decide +kernel) (by decide +kernel) rfl (by decide +kernel)) (a69 K (pv 0)) (fun _ _ _ _ _=>(a24 (i:=0) (show (["box"]:List Str).Nodup by decide +kernel) rfl (by walk_at "o"))) (fun _ _ _ _ _=>(@ai9 _)) (fun _ _ _ _ _=>(@a03 _ _ _ _))) (@a02 _) (by rfl)) (by decide) (by decide) (by rfl) (by rfl)))),?_⟩
   walk_at "go"
   refine ⟨⟨_,SqL.of ha⟩,ap4 (xs:=xs) (le_line (by omega)) (fun i acc H2=>H2=H∧i≤xs.length∧acc=(List.replicate i (0:Int)).map V.int) ⟨rfl,Nat.zero_le _,rfl⟩ (fun i acc H2 ⟨e0,hi,e⟩=>⟨by rw [e]; simp,e0 ▸ SqL.of ha⟩) ?_ ?_⟩
   · rintro i x acc H2 hx ⟨rfl,hi,rfl⟩
     walk_at "run"
     exact ⟨rfl,(List.getElem?_eq_some_iff.mp hx).1,by rw [List.replicate_succ',List.map_append]; rfl⟩
   · rintro acc H2 ⟨rfl,_,rfl⟩ l H3 f3 s3 e3
     walk_at "run"
     refine ap6 (SqL.of e3) ?_
     intro p H4 f4 s4 e4
     exact q p H4 (s3.trans s4) e4
def c00 (K:PySem.W.Frag):Sp:=fun vs H Q _=>∃ (a va:Addr) (xs:List V) (bs:List (Str×Int)) (ws:List Int) (n:Str) (e:Ex) (v:V),vs=[.ref a,.ref va,.str n,v]∧H a=some (.lst xs)∧Each (BxAt H) xs bs∧(∀ b∈bs,0<b.2∧b.2<1000)∧bs.length≤100∧H va=some (.tup (ws.map V.int))∧ws.length=bs.length∧e.At H v∧e.h<8∧e.ok (bs.map (·.1)) ∧
 ∀ p H',Same H H'→H' p=some (.tup ((vput bs ws n (e.ev (bs.map (·.1)) ws)).map V.int))→Q (.ref p) H'
theorem bm0 {bs:List (Str×Int)}{ws:List Int}{n:Str}{k:Int}{i:Nat}{b:Str×Int}{w:Int}(h1:bs[i]?=some b) (h2:ws[i]?=some w):(vput bs ws n k)[i]?=some (if b.1=n then k % b.2 else w):=by
 unfold vput
 rw [List.getElem?_zipWith,h1,h2]
theorem bm1 {bs:List (Str×Int)}{ws:List Int}{n:Str}{k:Int}(h:ws.length=bs.length):(vput bs ws n k).length=bs.length:=by
 simp [vput,h]
theorem aq6 (T:Txt K mg t):FnOk P w K mg base CX0 11 t.a_values_put t.fd_values_put ["boxes","values","name","expression"] (c00 K):=by
 have G_worth:=b14 (P:=P) (w:=w) (base:=base) T
 refine T.f_values_put.F.ok sc_values_put (fun vs H Q E h=>?_) (fun cdv A outer s H vs Q E hr h=>?_)
 · obtain ⟨a,va,xs,bs,ws,n,e,v,rfl,_⟩:=h
   rfl
 · obtain ⟨a,va,xs,bs,ws,n,e,v,rfl,ha,hb,hz,hl,hpv,hwl,he,hh,ho,q⟩:=h
   have G_worth:=G_worth 8
   refine ⟨_,(@a01 _ _ _ _ _ (@a16 _ _ 4 _ _ _ _ sc_values_put.nd rfl (by walk_at "o") (@a21 _ _ _ _ _ _ _ _ _ _ _ _ _ _ _ _ G_worth (hr.mono (by omega)) rfl T.f_worth.m T.f_worth.F.kp T.f_worth.b .nil a27 (@a00 _ _ _ _ _ (pv 3) (@a00 _ _ _ _ _ (pv 0) (@a00 _ _ _ _ _ (pv 1) (@a02 _) (by rfl)) (by rfl)) (by rfl)) (by decide) (by rfl) (by rfl)) (by rfl) (by walk_at "o"))
    (@a05 _ _ _ (@a17 _ _ _ _ (@a33 _ _ _ _ _ _ _ _ _ (aj0 K) (by rfl) T.z_tuple ah1 (@a00 _ _ _ _ _ (bh8 (Nt:=["box","value"]) (Nf:=["name","number"]) (caps:=[2,4]) rfl (af2 (sc:=a07 aa0) rfl rfl (by decide +kernel) (by decide +kernel) (by decide +kernel) rfl (by decide +kernel)) (bk8 K rfl T.z_zip (@a00 _ _ _ _ _ (pv 0) (@a00 _ _ _ _ _ (pv 1) (@a02 _) (by rfl)) (by rfl))) (fun _ _ _ _ _=>(a93 K (n:=2) rfl (a28 (a24 (i:=0) (show (["box","value","name","number"]:List Str).Nodup by decide +kernel) rfl (by walk_at "o")) (a28 (a24 (i:=1) (show (["box","value","name","number"]:List Str).Nodup by decide +kernel) rfl (by walk_at "o")) (@a78 _))))) (fun _ _ _ _ _=>(@ai9 _)) (fun _ _ _ _ _=>(@ah0 _ _ _ _ _ _ _ _ (@a09 _ _ _ _ _ _ _ _ a60 (@a12 _ _ _ _ _ _ _ (a06 K) (pv 0) (@a03 _ _ _ _) (fun _ _=>rfl)) (pv 2) (nomark _)) (@a45 _ _ _ _ _ _ _ _ a98 (pv 3) (@a12 _ _ _ _ _ _ _ (a06 K) (pv 0) (@a03 _ _ _ _) (fun _ _=>rfl))) (pv 1)))) (@a02 _) (by rfl)) (by decide) (by decide) (by rfl) (by rfl))))),?_⟩
   have hxl:xs.length=bs.length:=hb.1
   have hvl:=bm1 (n:=n) (k:=e.ev (bs.map (·.1)) ws) hwl
   walk_at "go"
   refine ⟨v,e,a,va,xs,bs.map (·.1),ws,rfl,he,hh,ho,SqL.of ha,aq1 hb,SqT.of hpv,by simp [hwl],by simp; omega,fun H1 s1=>?_⟩
   walk_at "run"
   refine ⟨a,va,rfl,⟨_,SqL.of (s1 _ _ ha)⟩,⟨_,SqT.of (s1 _ _ hpv)⟩,bk9 (xs:=xs) (ys:=ws.map V.int) (by simp [hxl,hwl]) (le_line (by omega)) (fun i acc H2=>Same H H2∧i≤xs.length∧acc=((vput bs ws n (e.ev (bs.map (·.1)) ws)).take i).map V.int) ⟨s1,Nat.zero_le _,rfl⟩ (fun i acc H2 ⟨s2,hi,e⟩=>⟨by rw [e]; simp; omega,SqL.of (s2 _ _ ha),SqT.of (s2 _ _ hpv)⟩) ?_ ?_⟩
   · rintro i x z acc H2 H3 hx hz' ⟨s2,hi,rfl⟩ s3
     have hi':i<xs.length:=(List.getElem?_eq_some_iff.mp hx).1
     obtain ⟨b,hbi⟩:∃ b,bs[i]?=some b:=⟨_,List.getElem?_eq_getElem (by omega)⟩
     obtain ⟨w,hwi⟩:∃ w,ws[i]?=some w:=⟨_,List.getElem?_eq_getElem (by omega)⟩
     obtain ⟨p,rfl,hp⟩:=hb.2 i x b hx hbi
     rw [List.getElem?_map,hwi] at hz'
     obtain rfl:=Option.some.inj hz'
     obtain ⟨z1,z2⟩:=hz b (List.mem_of_getElem? hbi)
     have s23:=s2.trans s3
     have hg:=bm0 (n:=n) (k:=e.ev (bs.map (·.1)) ws) hbi hwi
     walk_at "run"
     refine a23 (SqT.of (s23 _ _ hp)) (a04 (j:=0) rfl) ?_
     walk_at "run"
     by_cases hn:b.1=n
     · refine a26 hn ?_
       walk_at "run"
       refine a23 (SqT.of (s23 _ _ hp)) (a04 (j:=1) rfl) ?_
       refine i_rI z1 ?_
       rw [if_pos hn] at hg
       exact ⟨s23,hi',by rw [List.take_add_one,hg,Option.toList_some,List.map_append]; rfl⟩
     · refine a25 hn ?_
       walk_at "run"
       rw [if_neg hn] at hg
       exact ⟨s23,hi',by rw [List.take_add_one,hg,Option.toList_some,List.map_append]; rfl⟩
   · rintro acc H2 ⟨s2,_,rfl⟩ l H3 f3 s3 e3
     walk_at "run"
     refine ap6 (SqL.of e3) ?_
     intro p H4 f4 s4 e4
     refine q p H4 (s2.trans (s3.trans s4)) ?_
     rw [e4,hxl,←hvl,List.take_length]
def c01:Sp:=fun vs H Q _=>∃ (k:Int) (w:Str),vs=[.int k,.str w]∧0≤k∧k<10∧w.length≤100∧Q (.str (sayS k w)) H
theorem au7 (T:Txt K mg t):FnOk P w K mg base CX0 1 t.a_hand_text t.fd_hand_text ["line","word"] c01:=by
 refine T.f_hand_text.F.ok au5 (fun vs H Q E h=>?_) (fun cdv A outer s H vs Q E hr h=>?_)
 · obtain ⟨k,w,rfl,_⟩:=h
   rfl
 · obtain ⟨k,w,rfl,hk0,hk1,hw,q⟩:=h
   refine ⟨_,(@a05 _ _ _ (@a17 _ _ _ _ (@bu8 _ _ _ _ _ _ (.cons (@bo8 _ _ _ _ (pv 0)) (.cons (@a22 _ _ _ _) (.cons (@bo8 _ _ _ _ (pv 1)) .nil)))))),?_⟩
   have e1:=bv4 hk0 hk1
   have e2:(Str.ofString ":").length=1:=by decide +kernel
   walk_at "go"
   simp only [bi9]
   refine ⟨b91 (by omega),_,rfl,le_line (by omega),?_⟩
   walk_at "run"
   refine ⟨le_line (by rw [strLen_append]; omega),?_⟩
   walk_at "run"
   refine ⟨le_line (by omega),?_⟩
   walk_at "run"
   have hz:=le_line (n:=(Str.ofString (toString k)++Str.ofString ":"++w).length) (by rw [strLen_append,strLen_append]; omega)
   exact ⟨hz,bw4 hz q⟩
def c02 (K:PySem.W.Frag):Sp:=fun vs H Q _=>∃ (a:Addr) (us:List V) (w:Str),vs=[.ref a]∧((H a=some (.tup (.str "say"::.str w::us)))∨∃ l x,H a=some (.tup (.str "hand"::.int l::.str x::us))∧0≤l∧l<10∧x.length≤100∧w=sayS l x)∧Q (.str w) H
theorem au8 (T:Txt K mg t):FnOk P w K mg base CX0 2 t.a_said_text t.fd_said_text ["thing"] (c02 K):=by
 have G_hand_text:=au7 (P:=P) (w:=w) (base:=base) T
 refine T.f_said_text.F.ok au6 (fun vs H Q E h=>?_) (fun cdv A outer s H vs Q E hr h=>?_)
 · obtain ⟨a,us,w,rfl,_⟩:=h
   rfl
 · obtain ⟨a,us,w,rfl,ha,q⟩:=h
   refine ⟨_,(@a01 _ _ _ _ _ (@a32 _ _ _ _ _ _ _ _ (@a09 _ _ _ _ _ _ _ _ a60 (@a12 _ _ _ _ _ _ _ (a06 K) (pv 0) (@a03 _ _ _ _) (fun _ _=>rfl)) (@a22 _ _ _ _) (nomark _)) (@a05 _ _ _ (@a17 _ _ _ _ (@a12 _ _ _ _ _ _ _ (a06 K) (pv 0) (@a03 _ _ _ _) (fun _ _=>rfl)))) (@a20 _))
    (@a05 _ _ _ (@a17 _ _ _ _ (@a21 _ _ _ _ _ _ _ _ _ _ _ _ _ _ _ _ G_hand_text (hr.mono (by omega)) rfl T.f_hand_text.m T.f_hand_text.F.kp T.f_hand_text.b .nil a27 (@a00 _ _ _ _ _ (@a12 _ _ _ _ _ _ _ (a06 K) (pv 0) (@a03 _ _ _ _) (fun _ _=>rfl)) (@a00 _ _ _ _ _ (@a12 _ _ _ _ _ _ _ (a06 K) (pv 0) (@a03 _ _ _ _) (fun _ _=>rfl)) (@a02 _) (by rfl)) (by rfl)) (by decide) (by rfl) (by rfl))))),?_⟩
   walk_at "go"
   rcases ha with ha | ⟨l,x,ha,l0,l1,hx,rfl⟩
   · refine a23 (SqT.of ha) (a04 (j:=0) rfl) ?_
     walk_at "run"
     refine a26 rfl ?_
     walk_at "run"
     exact a23 (SqT.of ha) (a04 (j:=1) rfl) q
   · refine a23 (SqT.of ha) (a04 (j:=0) rfl) ?_
     walk_at "run"
     refine a25 (show Str.ofString "hand"≠Str.ofString "say" by decide +kernel) ?_
     walk_at "run"
     refine a23 (SqT.of ha) (a04 (j:=1) rfl) ?_
     walk_at "run"
     refine a23 (SqT.of ha) (a04 (j:=2) rfl) ?_
     exact ⟨l,x,rfl,l0,l1,hx,q⟩
def c03 (K:PySem.W.Frag):Sp:=fun vs H Q _=>∃ (a:Addr) (u0 u1 u2:V) (l:Int),vs=[.ref a]∧H a=some (.tup [u0,u1,u2,.int l])∧(l=0→Q (.ref a) H)∧(l=1→Q .non H)∧(l≠0→l≠1→New H (.tup [u0,u1,u2,.int (l - 1)]) Q)
theorem au9 (T:Txt K mg t):FnOk P w K mg base CX0 1 t.a_rested_on t.fd_rested_on ["standing"] (c03 K):=by
 refine T.f_rested_on.F.ok sc_rested_on (fun vs H Q E h=>?_) (fun cdv A outer s H vs Q E hr h=>?_)
 · obtain ⟨a,u0,u1,u2,l,rfl,_⟩:=h
   rfl
 · obtain ⟨a,u0,u1,u2,l,rfl,ha,q0,q1,q2⟩:=h
   refine ⟨_,(@a01 _ _ _ _ _ (@a16 _ _ 1 _ _ _ _ sc_rested_on.nd rfl (by walk_at "o") (@a12 _ _ _ _ _ _ _ (a06 K) (pv 0) (@a03 _ _ _ _) (fun _ _=>rfl)) (by rfl) (by walk_at "o"))
    (@a01 _ _ _ _ _ (@a32 _ _ _ _ _ _ _ _ (@a09 _ _ _ _ _ _ _ _ a60 (pv 1) (@a03 _ _ _ _) (nomark _)) (@a05 _ _ _ (@a17 _ _ _ _ (pv 0))) (@a20 _))
    (@a01 _ _ _ _ _ (@a32 _ _ _ _ _ _ _ _ (@a09 _ _ _ _ _ _ _ _ a60 (pv 1) (@a03 _ _ _ _) (nomark _)) (@a05 _ _ _ (@a17 _ _ _ _ (@a31 _ _ _))) (@a20 _))
    (@a05 _ _ _ (@a17 _ _ _ _ (@a19 _ _ _ _ _ (@a00 _ _ _ _ _ (@a12 _ _ _ _ _ _ _ (a06 K) (pv 0) (@a03 _ _ _ _) (fun _ _=>rfl)) (@a00 _ _ _ _ _ (@a12 _ _ _ _ _ _ _ (a06 K) (pv 0) (@a03 _ _ _ _) (fun _ _=>rfl)) (@a00 _ _ _ _ _ (@a12 _ _ _ _ _ _ _ (a06 K) (pv 0) (@a03 _ _ _ _) (fun _ _=>rfl)) (@a00 _ _ _ _ _ (@a45 _ _ _ _ _ _ _ _ ar6 (pv 1) (@a03 _ _ _ _)) (@a02 _) (by rfl)) (by rfl)) (by rfl)) (by rfl)))))))),?_⟩
   walk_at "go"
   refine a23 (SqT.of ha) (a04 (j:=3) rfl) ?_
   walk_at "run"
   by_cases l0:l=0
   · refine a26 l0 ?_
     walk_at "run"
     exact q0 l0
   · refine a25 l0 ?_
     walk_at "run"
     by_cases l1:l=1
     · refine a26 l1 ?_
       walk_at "run"
       exact q1 l1
     · refine a25 l1 ?_
       walk_at "run"
       refine a23 (SqT.of ha) (a04 (j:=0) rfl) ?_
       walk_at "run"
       refine a23 (SqT.of ha) (a04 (j:=1) rfl) ?_
       walk_at "run"
       refine a23 (SqT.of ha) (a04 (j:=2) rfl) ?_
       walk_at "run"
       exact q2 l0 l1
def patK (p:List Pt):Tr:=.tup (p.map Pt.tr)
noncomputable def fndN (br:List (List Pt×Nat)) (e:Tr):Option Nat:=(br.find? fun b=>decide (patK b.1=e)).map (·.2)
theorem ae5 {H:Hp}{xs:List Tr}{vs:List V}(h:Tr.Ats H xs vs []) {i:Nat}{v:V}(e:vs[i]?=some v):∃ x,xs[i]?=some x∧x.At H v []:=by
 obtain ⟨x,f,h1,h2,h3⟩:=h.get i v e
 have:f=[]:=List.eq_nil_iff_forall_not_mem.mpr fun a m=>by simpa using h3 a m
 subst this
 exact ⟨x,h1,h2⟩
theorem cl7 {H:Hp}{x:V}{b:List Pt×Nat}(h:(brT b).At H x []):∃ a u,x=.ref a∧H a=some (.tup [u,.int (b.2:Nat)])∧(patK b.1).At H u []:=by
 obtain ⟨a,vs,rfl,e,h⟩:=at_tup0.mp h
 obtain ⟨v1,w1,rfl,h1,h⟩:=ats_cons0.mp h
 obtain ⟨v2,w2,rfl,h2,h⟩:=ats_cons0.mp h
 obtain rfl:=ats_nil0.mp h
 obtain rfl:=at_int0.mp h2
 exact ⟨a,v1,rfl,e,h1⟩
theorem ce0 (p:List Pt):(patK p).h≤5:=by
 have:Tr.hs (p.map Pt.tr)=0:=b99 p
 simp only [patK,Tr.h,this]
 omega
theorem c04 {α:Type}{p:α→Bool}{l:List α}{i:Nat}{b:α}(h:(l.take i).find? p=none) (e:l[i]?=some b) (hp:p b=true):l.find? p=some b:=by
 have hi:=(List.getElem?_eq_some_iff.mp e).1
 have h2:l=l.take i++b::l.drop (i+1):=by
  conv=>lhs; rw [← List.take_append_drop i l]
  rw [List.drop_eq_getElem_cons hi,(List.getElem?_eq_some_iff.mp e).2]
 rw [h2,List.find?_append,h,Option.none_or,List.find?_cons,hp]
theorem bd2 {α:Type}{p:α→Bool}{l:List α}{i:Nat}{b:α}(h:(l.take i).find? p=none) (e:l[i]?=some b) (hp:p b=false):(l.take (i+1)).find? p=none:=by
 rw [List.take_add_one,e,Option.toList_some,List.find?_append,h,Option.none_or,List.find?_cons,hp]
 rfl
theorem ce1 {K:PySem.W.Frag}{H:Hp}{a:Addr}{z:Str}(h:TupK K a [.str z]):(Tr.tup [.str z]).AtK K H (.ref a):=by
 simp only [Tr.AtK,Tr.AtsK]
 exact ⟨_,_,rfl,.inr h,_,_,rfl,rfl,rfl⟩
def ce2 (K:PySem.W.Frag):Sp:=fun vs H Q _=>∃ (u v:V) (br:List (List Pt×Nat)) (e:Tr),vs=[u,v]∧(Tr.tup (br.map brT)).At H u []∧e.AtK K H v∧e.h≤5∧Q (wayV (fndN br e)) H
theorem af5 (T:Txt K mg t):FnOk P w K mg base CX0 1 t.a_way_of_pattern t.fd_way_of_pattern ["branches","pattern"] (ce2 K):=by
 refine T.f_way_of_pattern.F.ok sc_way_of_pattern (fun vs H Q E h=>?_) (fun cdv A outer s H vs Q E hr h=>?_)
 · obtain ⟨u,v,br,e,rfl,_⟩:=h
   rfl
 · obtain ⟨u,v,br,e,rfl,hbr,hev,heh,q⟩:=h
   refine ⟨_,(@a01 _ _ _ _ _ (@af7 _ _ _ _ _ _ _ _ PassesOwn.never rfl (bv3 K (pv 0)) (a93 K (n:=2) rfl (a28 (a24 (i:=2) sc_way_of_pattern.nd rfl (by walk_at "o")) (a28 (a24 (i:=3) sc_way_of_pattern.nd rfl (by walk_at "o")) (@a78 _)))) (@a05 _ _ _ (@a32 _ _ _ _ _ _ _ _ (@a09 _ _ _ _ _ _ _ _ (b09 K (by exact hr.units)) (pv 2) (pv 1) (nomark _)) (@a05 _ _ _ (@a17 _ _ _ _ (pv 3))) (@a20 _))) (by intro _; rfl))
    (@a05 _ _ _ (@a17 _ _ _ _ (@a31 _ _ _)))),?_⟩
   obtain ⟨ua,uv,rfl,hu,hat⟩:=at_tup0.mp hbr
   have hul:uv.length=br.length:=by rw [hat.len,List.length_map]
   walk_at "go"
   refine ⟨⟨_,SqT.of hu⟩,bs8 (K:=K) (a:=ua) (xs:=uv) (fun i σ H'=>H=H'∧(∃ y1 y2,σ=[some (.ref ua),some v,y1,y2])∧(br.take i).find? (fun b=>decide (patK b.1=e))=none) ⟨rfl,⟨_,_,rfl⟩,rfl⟩ (fun i σ H' _ zz=>by obtain ⟨s',_⟩:=zz; exact s' ▸ SqT.of hu) ?_ ?_⟩
   · rintro i x σ H2 hx ⟨rfl,⟨y1,y2,rfl⟩,hf⟩
     have hi:i<br.length:=by rw [← hul]; exact (List.getElem?_eq_some_iff.mp hx).1
     obtain ⟨b,hb⟩:∃ b,br[i]?=some b:=⟨_,List.getElem?_eq_getElem hi⟩
     obtain ⟨t,ht,hxt⟩:=ae5 hat hx
     rw [List.getElem?_map,hb] at ht
     rw [← Option.some.inj ht] at hxt
     obtain ⟨a,u,rfl,ha,hp⟩:=cl7 hxt
     walk_at "run"
     refine ⟨a,_,rfl,SqT.of ha,rfl,_,_,rfl,_,_,rfl,rfl,?_⟩
     walk_at "run"
     refine bq4 (hp.toK K) hev (Nat.le_trans (ce0 _) (by decide)) (Nat.le_trans heh (by decide)) ?_
     walk_at "run"
     by_cases hc:patK b.1=e
     · refine a26 hc ?_
       walk_at "run"
       unfold fndN at q
       rw [c04 hf hb (decide_eq_true hc)] at q
       exact q
     · refine a25 hc ?_
       walk_at "run"
       exact ⟨rfl,⟨_,_,rfl⟩,bd2 hf hb (decide_eq_false hc)⟩
   · rintro σ H2 ⟨rfl,⟨y1,y2,rfl⟩,hf⟩
     rw [hul,List.take_length] at hf
     walk_at "run"
     unfold fndN at q
     rw [hf] at q
     exact q
noncomputable def weN (br:List (List Pt×Nat)) (e:Tr):Option Nat:=if e=.tup [.str "quiet"] then none else match fndN br e with
 | some p=>some p
 | none=>fndN br (.tup [.str "other"])
def ce3 (K:PySem.W.Frag):Sp:=fun vs H Q _=>∃ (u v:V) (br:List (List Pt×Nat)) (e:Tr),vs=[u,v]∧(Tr.tup (br.map brT)).At H u []∧e.AtK K H v∧e.h≤5∧Q (wayV (weN br e)) H
theorem ak3 (T:Txt K mg t):FnOk P w K mg base CX0 2 t.a_way_of_event t.fd_way_of_event ["branches","event"] (ce3 K):=by
 have G_way_of_pattern:=af5 (P:=P) (w:=w) (base:=base) T
 refine T.f_way_of_event.F.ok sc_way_of_event (fun vs H Q E h=>?_) (fun cdv A outer s H vs Q E hr h=>?_)
 · obtain ⟨u,v,br,e,rfl,_⟩:=h
   rfl
 · obtain ⟨u,v,br,e,rfl,hbr,hev,heh,q⟩:=h
   refine ⟨_,(@a01 _ _ _ _ _ (@a32 _ _ _ _ _ _ _ _ (@a09 _ _ _ _ _ _ _ _ (b09 K (by exact hr.units)) (pv 1) (a96 (by rfl) T.m_QUIET (by exact T.r_QUIET)) (nomark _)) (@a05 _ _ _ (@a17 _ _ _ _ (@a31 _ _ _))) (@a20 _))
    (@a01 _ _ _ _ _ (@a16 _ _ 2 _ _ _ _ sc_way_of_event.nd rfl (by walk_at "o") (@a21 _ _ _ _ _ _ _ _ _ _ _ _ _ _ _ _ G_way_of_pattern (hr.mono (by omega)) rfl T.f_way_of_pattern.m T.f_way_of_pattern.F.kp T.f_way_of_pattern.b .nil a27 (@a00 _ _ _ _ _ (pv 0) (@a00 _ _ _ _ _ (pv 1) (@a02 _) (by rfl)) (by rfl)) (by decide) (by rfl) (by rfl)) (by rfl) (by walk_at "o"))
    (@a62 _ _ _ _ _ (@a32 _ _ _ _ _ _ _ _ (@a09 _ _ _ _ _ _ _ _ a71 (pv 2) (@a31 _ _ _) (nomark _)) (@a05 _ _ _ (@a16 _ _ 2 _ _ _ _ sc_way_of_event.nd rfl (by walk_at "o") (@a21 _ _ _ _ _ _ _ _ _ _ _ _ _ _ _ _ G_way_of_pattern (hr.mono (by omega)) rfl T.f_way_of_pattern.m T.f_way_of_pattern.F.kp T.f_way_of_pattern.b .nil a27 (@a00 _ _ _ _ _ (pv 0) (@a00 _ _ _ _ _ (a96 (by rfl) T.m_OTHER (by exact T.r_OTHER)) (@a02 _) (by rfl)) (by rfl)) (by decide) (by rfl) (by rfl)) (by rfl) (by walk_at "o"))) (@a20 _))
    (@a05 _ _ _ (@a17 _ _ _ _ (pv 2)))))),?_⟩
   walk_at "go"
   refine bq4 hev (ce1 T.d_QUIET) (Nat.le_trans heh (by decide)) (by decide) ?_
   walk_at "run"
   by_cases hq:e=.tup [.str "quiet"]
   · refine a26 hq ?_
     walk_at "run"
     unfold weN at q
     rw [if_pos hq] at q
     exact q
   · refine a25 hq ?_
     walk_at "run"
     refine ⟨u,v,br,e,rfl,hbr,hev,heh,?_⟩
     walk_at "run"
     refine ab9 (fun σ' H'=>H=H'∧σ'=[some u,some v,some (wayV (weN br e))]) ?_ ?_
     · walk_at "run"
       cases hf:fndN br e with
       | some p =>
         refine a25 (fun z=>nomatch z) ?_
         walk_at "run"
         exact ⟨rfl,by unfold weN; rw [if_neg hq,hf]⟩
       | none =>
         refine a26 rfl ?_
         walk_at "run"
         exact ⟨u,_,br,_,rfl,hbr,ce1 T.d_OTHER,by decide,rfl,by unfold weN; rw [if_neg hq,hf]; rfl⟩
     · rintro σ' H' ⟨rfl,rfl⟩
       walk_at "run"
       exact q
theorem c05 {d:Nd}(h:d.word=Str.ofString "wait"):∃ l br k,d=.wait l br k:=by
 cases d <;> first | exact ⟨_,_,_,rfl⟩ | (simp only [Nd.word] at h; exact absurd h (by decide +kernel))
theorem ce4 {d:Nd}(h:d.word=Str.ofString "put"):∃ b x k,d=.put b x k:=by
 cases d <;> first | exact ⟨_,_,_,rfl⟩ | (simp only [Nd.word] at h; exact absurd h (by decide +kernel))
theorem c06 {d:Nd}(h:d.word=Str.ofString "test"):∃ c a b,d=.test c a b:=by
 cases d <;> first | exact ⟨_,_,_,rfl⟩ | (simp only [Nd.word] at h; exact absurd h (by decide +kernel))
theorem c07 {d:Nd}(h:d.word=Str.ofString "call"):∃ a b,d=.call a b:=by
 cases d <;> first | exact ⟨_,_,rfl⟩ | (simp only [Nd.word] at h; exact absurd h (by decide +kernel))
theorem ax9 {d:Nd}(h:d.word=Str.ofString "back"):d=.back:=by
 cases d <;> first | rfl | (simp only [Nd.word] at h; exact absurd h (by decide +kernel))
theorem c08 {d:Nd}(h:d.word=Str.ofString "stop"):d=.stop:=by
 cases d <;> first | rfl | (simp only [Nd.word] at h; exact absurd h (by decide +kernel))
theorem cl8 {d:Nd}(h:d.word≠Str.ofString "wait"):d.w2=none:=by
 cases d <;> first | rfl | exact absurd rfl h
theorem c09 {d:Nd}{bs:List (Str×Int)}{ws:List Int}(h:d.word≠Str.ofString "put"):d.vals2 bs ws=ws:=by
 cases d <;> first | rfl | exact absurd rfl h
theorem c10 {d:Nd}(h1:d.word≠Str.ofString "test") (h2:d.word≠Str.ofString "call") (h3:d.word≠Str.ofString "back") (h4:d.word≠Str.ofString "stop"):∃ k r,d.its=r++[.int (k:Nat)]∧∀ ns nm ws stk,behF ns nm ws stk d=(some k,stk):=by
 cases d with
 | say w n=>exact ⟨n,[.str "say",.str w],rfl,fun _ _ _ _=>rfl⟩
 | hand l w n=>exact ⟨n,[.str "hand",.int l,.str w],rfl,fun _ _ _ _=>rfl⟩
 | put b e n=>exact ⟨n,[.str "put",.str b,e.tr],rfl,fun _ _ _ _=>rfl⟩
 | wait l bs n=>exact ⟨n,[.str "wait",.int l,.tup (bs.map brT)],rfl,fun _ _ _ _=>rfl⟩
 | test c a b=>exact absurd rfl h1
 | call a b=>exact absurd rfl h2
 | back=>exact absurd rfl h3
 | stop=>exact absurd rfl h4
theorem ah2 {H:Hp}{t:Tr}:∀ {xs:List Tr}{vs:List V},Tr.Ats H (xs++[t]) vs []→∃ ws v,vs=ws++[v]∧t.At H v []
 | [],vs,h=>by
   obtain ⟨v,w,rfl,h1,h2⟩:=ats_cons0.mp h
   obtain rfl:=ats_nil0.mp h2
   exact ⟨[],v,rfl,h1⟩
 | x::xs,vs,h=>by
   obtain ⟨v,w,rfl,h1,h2⟩:=ats_cons0.mp (show Tr.Ats H (x::(xs++[t])) vs [] from h)
   obtain ⟨ws,v',rfl,h3⟩:=ah2 h2
   exact ⟨v::ws,v',rfl,h3⟩
theorem bd3 {ns:List Nd}{k:Nat}{d:Nd}(h:ns[k]?=some d):bb9 ns k=decide (d.word=Str.ofString "back"):=by
 unfold bb9
 rw [h]
 by_cases e:d.word=Str.ofString "back"
 · obtain rfl:=ax9 e
   rw [decide_eq_true e]
 · rw [decide_eq_false e]
   cases d <;> first | rfl | exact absurd rfl e
def ce5 (K:PySem.W.Frag) (C:Addr):Sp:=fun vs H Q _=>∃ (p ks pa:Addr) (v:V) (bs:List (Str×Int)) (ns:List Nd) (f:Nat) (d:Nd) (stk:List Nat) (ws:List Int),vs=[.ref p,v,.ref ks,.ref pa]∧GmAt C H p bs ns f∧GrOk bs ns∧d∈ns∧d.tr.At H v []∧H ks=some (.lst (a48 stk))∧stk.length≤900000∧H pa=some (.tup (ws.map V.int))∧ws.length=bs.length ∧
 ∀ H1 H',Same H H1→H1 ks=some (.lst (a48 stk))→H'=upd H1 ks (.lst (a48 (behF ns (bs.map (·.1)) ws stk d).2))→Q (wayV (behF ns (bs.map (·.1)) ws stk d).1) H'
theorem br5 {H:Hp}{a:Addr}{o:HO}(e:H a=some o):upd H a o=H:=by
 funext b
 by_cases h:b=a
 · subst h
   rw [a18,e]
 · rw [a14 h]
theorem a76 (T:Txt K mg t):FnOk P w K mg base CX0 15 t.a_GraphMachine_node_behind t.fd_GraphMachine_node_behind ["self","node","kept","values"] (ce5 K t.c_GraphMachine):=by
 have G_holds:=bl8 (P:=P) (w:=w) (base:=base) T
 refine T.f_GraphMachine_node_behind.F.ok sc_GraphMachine_node_behind (fun vs H Q E h=>?_) (fun cdv A outer s H vs Q E hr h=>?_)
 · obtain ⟨p,ks,pa,v,bs,ns,f,d,stk,ws,rfl,_⟩:=h
   rfl
 · obtain ⟨p,ks,pa,v,bs,ns,f,d,stk,ws,rfl,hG,hok,hmem,hd,hks,hsl,hpa,hwl,q⟩:=h
   have G_holds:=G_holds 4
   refine ⟨_,(@a01 _ _ _ _ _ (@a16 _ _ 4 _ _ _ _ sc_GraphMachine_node_behind.nd rfl (by walk_at "o") (@a12 _ _ _ _ _ _ _ (a06 K) (pv 1) (@a03 _ _ _ _) (fun _ _=>rfl)) (by rfl) (by walk_at "o"))
    (@a01 _ _ _ _ _ (@a32 _ _ _ _ _ _ _ _ (@a09 _ _ _ _ _ _ _ _ a60 (pv 4) (@a22 _ _ _ _) (nomark _)) (@a05 _ _ _ (@a17 _ _ _ _ (@ah0 _ _ _ _ _ _ _ _ (a67 K (@a21 _ _ _ _ _ _ _ _ _ _ _ _ _ _ _ _ G_holds (hr.mono (by omega)) rfl T.f_holds.m T.f_holds.F.kp T.f_holds.b .nil a27 (@a00 _ _ _ _ _ (@a12 _ _ _ _ _ _ _ (a06 K) (pv 1) (@a03 _ _ _ _) (fun _ _=>rfl)) (@a00 _ _ _ _ _ (ac6 K (pv 0) rfl) (@a00 _ _ _ _ _ (pv 3) (@a02 _) (by rfl)) (by rfl)) (by rfl)) (by decide) (by rfl) (by rfl)) (fun _=>rfl)) (@a12 _ _ _ _ _ _ _ (a06 K) (pv 1) (@a03 _ _ _ _) (fun _ _=>rfl)) (@a12 _ _ _ _ _ _ _ (a06 K) (pv 1) (@a03 _ _ _ _) (fun _ _=>rfl))))) (@a20 _))
    (@a01 _ _ _ _ _ (@a32 _ _ _ _ _ _ _ _ (@a09 _ _ _ _ _ _ _ _ a60 (pv 4) (@a22 _ _ _ _) (nomark _)) (@a62 _ _ _ _ _ (@a32 _ _ _ _ _ _ _ _ (@a09 _ _ _ _ _ _ _ _ b29 (@a12 _ _ _ _ _ _ _ (a06 K) (@a12 _ _ _ _ _ _ _ (a15 K) (ac6 K (pv 0) rfl) (@a12 _ _ _ _ _ _ _ (a06 K) (pv 1) (@a03 _ _ _ _) (fun _ _=>rfl)) (fun _ _=>rfl)) (@a03 _ _ _ _) (fun _ _=>rfl)) (@a22 _ _ _ _) (nomark _)) (@a05 _ _ _ (@a49 _ _ _ _ (@a70 _ K _ _ _ _ _ _ _ _ _ _ _ PySem.F.plainAttrs_list PySem.F.slot_list_append PySem.F.type_list_append a40 (pv 2) (@a00 _ _ _ _ _ (@a12 _ _ _ _ _ _ _ (a06 K) (pv 1) (@a03 _ _ _ _) (fun _ _=>rfl)) (@a02 _) (by rfl)) (by rfl) (by rfl) (by rfl) (by rfl) (by rfl) (by rfl)) (by rfl))) (@a20 _))
     (@a05 _ _ _ (@a17 _ _ _ _ (@a12 _ _ _ _ _ _ _ (a06 K) (pv 1) (@a03 _ _ _ _) (fun _ _=>rfl))))) (@a20 _))
    (@a01 _ _ _ _ _ (@a32 _ _ _ _ _ _ _ _ (@a81 _ _ _ (@PW.pt _ _ _ (@ac9 _ _ _ _ _ _ _ (@a09 _ _ _ _ _ _ _ _ a60 (pv 4) (@a22 _ _ _ _) (nomark _)) (@a97 _ _ _ _ (@a09 _ _ _ _ _ _ _ _ bg4 (@a39 _ _ _ _ _ _ _ _ _ (aa2 K) (by rfl) T.z_len ag1 (@a00 _ _ _ _ _ (pv 2) (@a02 _) (by rfl)) (by decide) (by decide) (by rfl) (by rfl)) (@a03 _ _ _ _) (nomark _)))))) (@a05 _ _ _ (@a17 _ _ _ _ (aw7 K PySem.F.plainAttrs_list PySem.F.slot_list_pop PySem.F.type_list_pop bo5 (pv 2)))) (@a20 _))
    (@a01 _ _ _ _ _ (@a32 _ _ _ _ _ _ _ _ (@a81 _ _ _ (@PW.pt _ _ _ (@ao3 _ _ _ _ _ _ _ (@a09 _ _ _ _ _ _ _ _ a60 (pv 4) (@a22 _ _ _ _) (nomark _)) (@ah9 _ _ _ _ (@a09 _ _ _ _ _ _ _ _ a60 (pv 4) (@a22 _ _ _ _) (nomark _)))))) (@a05 _ _ _ (@a17 _ _ _ _ (@a31 _ _ _))) (@a20 _))
    (@a05 _ _ _ (@a17 _ _ _ _ (@a12 _ _ _ _ _ _ _ (a06 K) (pv 1) (@ar5 _ _ _ _ _ _ af8 (@a03 _ _ _ _)) (fun _ _=>rfl))))))))),?_⟩
   have sl:(1000000:Nat)≤sizeLine:=le_line (Nat.le_refl _)
   obtain ⟨dx,bl,nl,bvs,un,h1,h2,h3,h4,h5⟩:=hG.ex
   obtain ⟨na,us,rfl,hna⟩:=Nd.word_at hd
   have hdok:=hok.ok d hmem
   have qs:∀ H1,Same H H1→(behF ns (bs.map (·.1)) ws stk d).2=stk→Q (wayV (behF ns (bs.map (·.1)) ws stk d).1) H1:=fun H1 s1 e=>q H1 H1 s1 (s1 _ _ hks) (by rw [e]; exact (br5 (s1 _ _ hks)).symm)
   walk_at "go"
   refine a23 (SqT.of hna) (a04 (j:=0) rfl) ?_
   walk_at "run"
   by_cases w1:d.word=Str.ofString "test"
   · refine a26 w1 ?_
     walk_at "run"
     obtain ⟨c,x,y,rfl⟩:=c06 w1
     obtain ⟨a,u,hz,ha,hc⟩:=Nd.test_at hd
     cases hz
     refine a23 (SqT.of ha) (a04 (j:=1) rfl) ?_
     walk_at "run"
     refine ⟨p,_,dx,_,_,rfl,h1,T.cl_GraphMachine,T.n_GraphMachine_boxes,aj7 _ _ _,?_⟩
     walk_at "run"
     refine ⟨u,c,bl,pa,bvs,bs.map (·.1),ws,rfl,b03 hc,hdok.2,hdok.1,SqL.of h2,aq1 h3,SqT.of hpa,by simp [hwl],by have:=hok.bl; simp; omega,fun H1 s1=>?_⟩
     walk_at "run"
     have hq:=qs H1 s1 rfl
     simp only [behF] at hq
     cases hc:c.ev (bs.map (·.1)) ws with
     | true =>
       rw [hc] at hq
       walk_at "run"
       exact a23 (SqT.of (s1 _ _ ha)) (a04 (j:=2) rfl) hq
     | false =>
       rw [hc] at hq
       walk_at "run"
       exact a23 (SqT.of (s1 _ _ ha)) (a04 (j:=3) rfl) hq
   refine a25 w1 ?_
   walk_at "run"
   by_cases w2:d.word=Str.ofString "call"
   · refine a26 w2 ?_
     walk_at "run"
     obtain ⟨x,y,rfl⟩:=c07 w2
     obtain ⟨a,hz,ha⟩:=Nd.call_at hd
     cases hz
     have hy:y<ns.length:=hok.nx _ hmem y (by simp [Nd.nexts])
     have hul:un.length=ns.length:=by rw [h5.len,List.length_map]
     obtain ⟨u,hu⟩:∃ u,un[y]?=some u:=⟨_,List.getElem?_eq_getElem (by omega)⟩
     obtain ⟨d2,hd2⟩:∃ d2,ns[y]?=some d2:=⟨_,List.getElem?_eq_getElem hy⟩
     obtain ⟨t,ht,hxt⟩:=ae5 h5 hu
     rw [List.getElem?_map,hd2] at ht
     rw [← Option.some.inj ht] at hxt
     obtain ⟨nb,us2,rfl,hnb⟩:=Nd.word_at hxt
     have hbk:=bd3 hd2
     refine ab9 (fun σ' H'=>σ'=[some (.ref p),some (.ref na),some (.ref ks),some (.ref pa),some (.str "call")]∧H'=upd H ks (.lst (a48 (if bb9 ns y then stk else stk++[y])))) ?_ ?_
     · walk_at "run"
       refine ⟨p,_,dx,_,_,rfl,h1,T.cl_GraphMachine,T.n_GraphMachine_nodes,aj8 _ _ _,?_⟩
       walk_at "run"
       refine a23 (SqT.of ha) (a04 (j:=2) rfl) ?_
       walk_at "run"
       refine a42 (SqL.of h4) (a04 hu) ?_
       walk_at "run"
       refine a23 (SqT.of hnb) (a04 (j:=0) rfl) ?_
       walk_at "run"
       by_cases hb:d2.word=Str.ofString "back"
       · refine at7 hb ?_
         walk_at "run"
         exact ⟨rfl,by rw [hbk,decide_eq_true hb,if_pos rfl,br5 hks]⟩
       · refine an3 hb ?_
         walk_at "run"
         refine aa3 (SqL.of hks) ?_
         walk_at "run"
         refine a23 (SqT.of ha) (a04 (j:=2) rfl) ?_
         walk_at "run"
         refine a57 hks (by simp only [a48,List.length_map]; omega) ?_
         exact ⟨rfl,by rw [hbk,decide_eq_false hb,if_neg (by simp)]; simp [a48]⟩
     · rintro σ' H' ⟨rfl,rfl⟩
       walk_at "run"
       refine a23 (SqT.of ((Tups.upd hks) _ _ ha)) (a04 (j:=1) rfl) ?_
       exact q H _ (Same.refl _) hks rfl
   refine a25 w2 ?_
   walk_at "run"
   refine ag2 (d.word=Str.ofString "back"∧stk≠[]) (fun R hR=>?_) ?_
   · walk_at "run"
     by_cases hh:d.word=Str.ofString "back"
     · refine a26 hh ?_
       walk_at "run"
       refine aj1 (SqL.of hks) ?_
       walk_at "run"
       rw [b98]
       by_cases h7:stk=[]
       · subst h7
         exact rF hR (fun z=>z.2 rfl)
       · have:0<stk.length:=List.length_pos_iff.mpr h7
         rw [decide_eq_true (by omega)]
         exact rT hR ⟨hh,h7⟩
     · refine a25 hh ?_
       exact rF hR (fun z=>hh z.1)
   by_cases w3:d.word=Str.ofString "back"∧stk≠[]
   · refine a26 w3 ?_
     walk_at "run"
     obtain rfl:=ax9 w3.1
     obtain ⟨t',z,rfl⟩:∃ t' z,stk=t'++[z]:=by
      rcases List.eq_nil_or_concat stk with e | ⟨x,y,e⟩
      · exact absurd e w3.2
      · exact ⟨x,y,by rw [e,List.concat_eq_append]⟩
     refine aa3 (SqL.of hks) ?_
     walk_at "run"
     refine ca7 (xs:=a48 t') (y:=.int (z:Nat)) (by rw [hks]; simp [a48]) ?_
     have:=q H _ (Same.refl _) hks rfl
     simp [behF] at this
     exact this
   refine a25 w3 ?_
   walk_at "run"
   refine ag2 (d.word=Str.ofString "back"∨d.word=Str.ofString "stop") (fun R hR=>?_) ?_
   · walk_at "run"
     by_cases hh:d.word=Str.ofString "back"
     · refine a26 hh ?_
       exact rT hR (.inl hh)
     · refine a25 hh ?_
       walk_at "run"
       by_cases h7:d.word=Str.ofString "stop"
       · rw [decide_eq_true h7]
         exact rT hR (.inr h7)
       · rw [decide_eq_false h7]
         exact rF hR (fun z=>by rcases z with z | z; exact hh z; exact h7 z)
   by_cases w4:d.word=Str.ofString "back"∨d.word=Str.ofString "stop"
   · refine a26 w4 ?_
     walk_at "run"
     rcases w4 with w4 | w4
     · have hst:stk=[]:=Classical.byContradiction fun z=>w3 ⟨w4,z⟩
       subst hst
       obtain rfl:=ax9 w4
       exact qs H (Same.refl _) rfl
     · obtain rfl:=c08 w4
       exact qs H (Same.refl _) rfl
   refine a25 w4 ?_
   walk_at "run"
   obtain ⟨k,r,hr',hb⟩:=c10 w1 w2 (fun z=>w4 (.inl z)) (fun z=>w4 (.inr z))
   obtain ⟨a',vs,hz,ha,hat⟩:=at_tup0.mp hd
   cases hz
   rw [hr'] at hat
   obtain ⟨ws',v',rfl,hv'⟩:=ah2 hat
   obtain rfl:=at_int0.mp hv'
   refine a23 (SqT.of ha) (aa9 _ _) ?_
   have:=qs H (Same.refl _) (by rw [hb])
   rw [hb] at this
   exact this
theorem ce6 {ns:List Nd}{bs:List (Str×Int)}{m k:Nat}{stk:List Nat}{ws:List Int}{x:List Str×Option StG}(h:grF ns bs m (some k) stk ws=some x):∃ m' d,m=m'+1∧ns[k]?=some d∧((∃ l,d.w2=some l∧x=([],some (k,stk,ws,l)))∨(d.w2=none∧∃ y,grF ns bs m' (behF ns (bs.map (·.1)) (d.vals2 bs ws) stk d).1 (behF ns (bs.map (·.1)) (d.vals2 bs ws) stk d).2 (d.vals2 bs ws)=some y∧x=(d.sd2++y.1,y.2))):=by
 cases m with
 | zero=>cases h
 | succ m =>
   unfold grF at h
   cases hk:ns[k]? with
   | none=>rw [hk] at h; cases h
   | some d =>
     rw [hk] at h
     refine ⟨m,d,rfl,rfl,?_⟩
     simp only at h
     cases hw:d.w2 with
     | some l=>rw [hw] at h; exact .inl ⟨l,rfl,(Option.some.inj h).symm⟩
     | none =>
       rw [hw] at h
       obtain ⟨y,hy,hz⟩:=Option.map_eq_some_iff.mp h
       exact .inr ⟨rfl,y,hy,hz.symm⟩
theorem bm2 {d:Nd}{H:Hp}{v:V}{nm:List Str}(h:d.word=Str.ofString "say"∨d.word=Str.ofString "hand") (hd:d.tr.At H v []) (ho:d.ok3 nm):∃ (a:Addr) (us:List V) (w:Str),v=.ref a∧d.sd2=[w]∧((H a=some (.tup (.str "say"::.str w::us)))∨∃ l x,H a=some (.tup (.str "hand"::.int l::.str x::us))∧0≤l∧l<10∧x.length≤100∧w=sayS l x):=by
 obtain ⟨a,vs,rfl,ha,hat⟩:=at_tup0.mp hd
 cases d with
 | say w n =>
   obtain ⟨v1,w1,rfl,k1,hat⟩:=ats_cons0.mp hat
   obtain ⟨v2,w2,rfl,k2,hat⟩:=ats_cons0.mp hat
   obtain rfl:=at_str0.mp k1
   obtain rfl:=at_str0.mp k2
   exact ⟨a,_,w,rfl,rfl,.inl ha⟩
 | hand l w n =>
   obtain ⟨v1,w1,rfl,k1,hat⟩:=ats_cons0.mp hat
   obtain ⟨v2,w2,rfl,k2,hat⟩:=ats_cons0.mp hat
   obtain ⟨v3,w3,rfl,k3,hat⟩:=ats_cons0.mp hat
   obtain rfl:=at_str0.mp k1
   obtain rfl:=at_int0.mp k2
   obtain rfl:=at_str0.mp k3
   exact ⟨a,_,_,rfl,rfl,.inr ⟨l,w,ha,ho.1,ho.2.1,ho.2.2,rfl⟩⟩
 | _=>rcases h with h | h <;> simp only [Nd.word] at h <;> exact absurd h (by decide +kernel)
theorem ce7 {d:Nd}(h:¬ (d.word=Str.ofString "say"∨d.word=Str.ofString "hand")):d.sd2=[]:=by
 cases d <;> first | rfl | exact absurd (.inl rfl) h | exact absurd (.inr rfl) h
def ce8 (K:PySem.W.Frag) (C:Addr):Sp:=fun vs H Q _=>∃ (p ps pa:Addr) (bs:List (Str×Int)) (ns:List Nd) (f:Nat) (o:Option Nat) (stk:List Nat) (ws:List Int) (n:Nat) (sd:List Str) (r:Option StG),vs=[.ref p,wayV o,.ref ps,.ref pa]∧GmAt C H p bs ns f∧GrOk bs ns∧H ps=some (.tup (a48 stk))∧H pa=some (.tup (ws.map V.int))∧ws.length=bs.length∧grF ns bs n o stk ws=some (sd,r)∧stk.length+n≤900000 ∧
 ∀ p' l v' H',Same H H'→H' p'=some (.tup [.ref l,v'])→H l=none→H' l=some (.lst (a34 sd))→SgAt H' v' r→Q (.ref p') H'
theorem a63 (T:Txt K mg t):FnOk P w K mg base CX0 16 t.a_GraphMachine_gone_on t.fd_GraphMachine_gone_on ["self","number","stack","values"] (ce8 K t.c_GraphMachine):=by
 have G_GraphMachine_node_behind:=a76 (P:=P) (w:=w) (base:=base) T
 have G_said_text:=au8 (P:=P) (w:=w) (base:=base) T
 have G_values_put:=aq6 (P:=P) (w:=w) (base:=base) T
 refine T.f_GraphMachine_gone_on.F.ok sc_GraphMachine_gone_on (fun vs H Q E h=>?_) (fun cdv A outer s H vs Q E hr h=>?_)
 · obtain ⟨p,ps,pa,bs,ns,f,o,stk,ws,n,sd,r,rfl,_⟩:=h
   rfl
 · obtain ⟨p,ps,pa,bs,ns,f,o,stk,ws,n,sd,r,rfl,hG,hok,hps,hpa,hwl,hgo,hsl,q⟩:=h
   refine ⟨_,(@a01 _ _ _ _ _ (@a16 _ _ 4 _ _ _ _ sc_GraphMachine_gone_on.nd rfl (by walk_at "o") (@a30 _ _ _ _ (@a02 _)) (by rfl) (by walk_at "o"))
    (@a01 _ _ _ _ _ (@a16 _ _ 5 _ _ _ _ sc_GraphMachine_gone_on.nd rfl (by walk_at "o") (@a33 _ _ _ _ _ _ _ _ _ (ad8 K) (by rfl) T.z_list ac5 (@a00 _ _ _ _ _ (pv 2) (@a02 _) (by rfl)) (by decide) (by decide) (by rfl) (by rfl)) (by rfl) (by walk_at "o"))
    (@a01 _ _ _ _ _ (@aa7 _ _ _ _ _ _ PassesOwn.never (@a09 _ _ _ _ _ _ _ _ ab0 (pv 1) (@a31 _ _ _) (nomark _)) (@a01 _ _ _ _ _ (@a16 _ _ 6 _ _ _ _ sc_GraphMachine_gone_on.nd rfl (by walk_at "o") (@a12 _ _ _ _ _ _ _ (a15 K) (ac6 K (pv 0) rfl) (pv 1) (fun _ _=>rfl)) (by rfl) (by walk_at "o"))
     (@a01 _ _ _ _ _ (@a16 _ _ 7 _ _ _ _ sc_GraphMachine_gone_on.nd rfl (by walk_at "o") (@a12 _ _ _ _ _ _ _ (a06 K) (pv 6) (@a03 _ _ _ _) (fun _ _=>rfl)) (by rfl) (by walk_at "o"))
     (@a01 _ _ _ _ _ (@a32 _ _ _ _ _ _ _ _ (@a09 _ _ _ _ _ _ _ _ a60 (pv 7) (@a22 _ _ _ _) (nomark _)) (@a05 _ _ _ (@a17 _ _ _ _ (@a19 _ _ _ _ _ (@a00 _ _ _ _ _ (pv 4) (@a00 _ _ _ _ _ (@a19 _ _ _ _ _ (@a00 _ _ _ _ _ (pv 1) (@a00 _ _ _ _ _ (@a33 _ _ _ _ _ _ _ _ _ (aj0 K) (by rfl) T.z_tuple ah1 (@a00 _ _ _ _ _ (pv 5) (@a02 _) (by rfl)) (by decide) (by decide) (by rfl) (by rfl)) (@a00 _ _ _ _ _ (pv 3) (@a00 _ _ _ _ _ (@a12 _ _ _ _ _ _ _ (a06 K) (pv 6) (@a03 _ _ _ _) (fun _ _=>rfl)) (@a02 _) (by rfl)) (by rfl)) (by rfl)) (by rfl))) (@a02 _) (by rfl)) (by rfl))))) (@a20 _))
     (@a62 _ _ _ _ _ (@a32 _ _ _ _ _ _ _ _ (@a81 _ _ _ (@PW.pt _ _ _ (@ao3 _ _ _ _ _ _ _ (@a09 _ _ _ _ _ _ _ _ a60 (pv 7) (@a22 _ _ _ _) (nomark _)) (@ah9 _ _ _ _ (@a09 _ _ _ _ _ _ _ _ a60 (pv 7) (@a22 _ _ _ _) (nomark _)))))) (@a05 _ _ _ (@a49 _ _ _ _ (@a70 _ K _ _ _ _ _ _ _ _ _ _ _ PySem.F.plainAttrs_list PySem.F.slot_list_append PySem.F.type_list_append a40 (pv 4) (@a00 _ _ _ _ _ (@a21 _ _ _ _ _ _ _ _ _ _ _ _ _ _ _ _ G_said_text (hr.mono (by omega)) rfl T.f_said_text.m T.f_said_text.F.kp T.f_said_text.b .nil a27 (@a00 _ _ _ _ _ (pv 6) (@a02 _) (by rfl)) (by decide) (by rfl) (by rfl)) (@a02 _) (by rfl)) (by rfl) (by rfl) (by rfl) (by rfl) (by rfl) (by rfl)) (by rfl))) (@a20 _))
     (@a62 _ _ _ _ _ (@a32 _ _ _ _ _ _ _ _ (@a09 _ _ _ _ _ _ _ _ a60 (pv 7) (@a22 _ _ _ _) (nomark _)) (@a05 _ _ _ (@a16 _ _ 3 _ _ _ _ sc_GraphMachine_gone_on.nd rfl (by walk_at "o") (@a21 _ _ _ _ _ _ _ _ _ _ _ _ _ _ _ _ G_values_put (hr.mono (by omega)) rfl T.f_values_put.m T.f_values_put.F.kp T.f_values_put.b .nil a27 (@a00 _ _ _ _ _ (ac6 K (pv 0) rfl) (@a00 _ _ _ _ _ (pv 3) (@a00 _ _ _ _ _ (@a12 _ _ _ _ _ _ _ (a06 K) (pv 6) (@a03 _ _ _ _) (fun _ _=>rfl)) (@a00 _ _ _ _ _ (@a12 _ _ _ _ _ _ _ (a06 K) (pv 6) (@a03 _ _ _ _) (fun _ _=>rfl)) (@a02 _) (by rfl)) (by rfl)) (by rfl)) (by rfl)) (by decide) (by rfl) (by rfl)) (by rfl) (by walk_at "o"))) (@a20 _))
     (@a05 _ _ _ (@a16 _ _ 1 _ _ _ _ sc_GraphMachine_gone_on.nd rfl (by walk_at "o") (a65 (pv 0) T.cl_GraphMachine T.f_GraphMachine_node_behind.M G_GraphMachine_node_behind (hr.mono (by omega)) T.f_GraphMachine_node_behind.b .nil a27 (@a00 _ _ _ _ _ (pv 6) (@a00 _ _ _ _ _ (pv 5) (@a00 _ _ _ _ _ (pv 3) (@a02 _) (by rfl)) (by rfl)) (by rfl))) (by rfl) (by walk_at "o")))))))))
    (@a05 _ _ _ (@a17 _ _ _ _ (@a19 _ _ _ _ _ (@a00 _ _ _ _ _ (pv 4) (@a00 _ _ _ _ _ (@a31 _ _ _) (@a02 _) (by rfl)) (by rfl)))))))),?_⟩
   have sl:(1000000:Nat)≤sizeLine:=le_line (Nat.le_refl _)
   obtain ⟨dx,bl,nl,bvs,un,h1,h2,h3,h4,h5⟩:=hG.ex
   have hul:un.length=ns.length:=by rw [h5.len,List.length_map]
   walk_at "go"
   intro ls H1 f1 s1 e1
   walk_at "run"
   refine ⟨ps,_,rfl,.inr (SqT.of (s1 _ _ hps)),?_⟩
   intro lk H2 f2 s2 e2
   walk_at "run"
   have hlk:H lk=none:=s1.free f2
   have hll:ls≠lk:=fun z=>by rw [← z,e1] at f2; cases f2
   have s12:=s1.trans s2
   obtain ⟨Pv,hPv⟩:∃ Pv:Nat→St→Hp→Prop,Pv=(fun m σ H'=>∃ (o:Option Nat) (stk':List Nat) (ws':List Int) (sd':List Str) (pa':Addr) (y1 y2:Option V),σ=[some (.ref p),some (wayV o),some (.ref ps),some (.ref pa'),some (.ref ls),some (.ref lk),y1,y2]∧Same H H'∧H' ls=some (.lst (a34 sd'))∧H' lk=some (.lst (a48 stk'))∧H' pa'=some (.tup (ws'.map V.int))∧ws'.length=bs.length∧(∃ sd1,grF ns bs m o stk' ws'=some (sd1,r)∧sd=sd'++sd1)∧stk'.length+m≤900000∧sd'.length+m≤900000):=⟨_,rfl⟩
   refine af3 Pv n (by rw [hPv]; exact ⟨o,stk,ws,[],pa,_,_,rfl,s12,s2 _ _ e1,e2,s12 _ _ hpa,hwl,⟨sd,hgo,rfl⟩,hsl,by simp; omega⟩) ?_
   intro m σ H3 hI
   rw [hPv] at hI
   obtain ⟨o,stk',ws',sd',pa',y1,y2,rfl,s3,hls,hlk3,hpa3,hwl3,⟨sd1,hg,rfl⟩,hsm,hdm⟩:=hI
   walk_at "run"
   cases o with
   | none =>
     refine at7 rfl ?_
     walk_at "run"
     have hx:sd1=[]∧r=none:=by
      cases m with
      | zero=>cases hg
      | succ m=>cases hg; exact ⟨rfl,rfl⟩
     obtain ⟨rfl,rfl⟩:=hx
     intro po H4 f4 s4 e4
     exact q po ls .non H4 (s3.trans s4) e4 f1 (by rw [List.append_nil]; exact s4 _ _ hls) rfl
   | some k =>
     refine an3 (fun z=>nomatch z) ?_
     obtain ⟨m',d,rfl,hd,hcs⟩:=ce6 hg
     refine ⟨fun σ' H'=>∃ m2,m2<m'+1∧Pv m2 σ' H',fun σ' H' h'=>h',?_⟩
     have hkl:=(List.getElem?_eq_some_iff.mp hd).1
     have hmem:=List.mem_of_getElem? hd
     have hdok:=hok.ok d hmem
     obtain ⟨u,hu⟩:∃ u,un[k]?=some u:=⟨_,List.getElem?_eq_getElem (by omega)⟩
     have hut:d.tr.At H3 u []:=by
      obtain ⟨t,ht,hxt⟩:=ae5 (h5.same s3) hu
      rw [List.getElem?_map,hd] at ht
      rw [← Option.some.inj ht] at hxt
      exact hxt
     walk_at "run"
     refine ⟨p,_,dx,_,_,rfl,s3 _ _ h1,T.cl_GraphMachine,T.n_GraphMachine_nodes,aj8 _ _ _,?_⟩
     walk_at "run"
     refine a42 (SqL.of (s3 _ _ h4)) (a04 hu) ?_
     walk_at "run"
     obtain ⟨na,us,rfl,hna⟩:=Nd.word_at hut
     refine a23 (SqT.of hna) (a04 (j:=0) rfl) ?_
     walk_at "run"
     by_cases w1:d.word=Str.ofString "wait"
     · refine a26 w1 ?_
       walk_at "run"
       obtain ⟨l,br,j,rfl⟩:=c05 w1
       obtain ⟨a,vs,hz,ha,hat⟩:=at_tup0.mp hut
       cases hz
       obtain ⟨v1,z1,rfl,k1,hat⟩:=ats_cons0.mp hat
       obtain ⟨v2,z2,rfl,k2,hat⟩:=ats_cons0.mp hat
       obtain rfl:=at_int0.mp k2
       obtain ⟨l',hl',hx⟩:∃ l',(Nd.wait l br j).w2=some l'∧(sd1,r)=([],some (k,stk',ws',l')):=by
        rcases hcs with z | ⟨hn,_⟩
        · exact z
        · cases hn
       cases hl'
       injection hx with hx1 hx2
       subst hx1 hx2
       refine ap6 (SqL.of hlk3) ?_
       intro pt H4 f4 s4 e4
       walk_at "run"
       refine a23 (SqT.of (s4 _ _ ha)) (a04 (j:=1) rfl) ?_
       walk_at "run"
       intro p5 H5 f5 s5 e5
       walk_at "run"
       intro p6 H6 f6 s6 e6
       have s46:=s4.trans (s5.trans s6)
       exact q p6 ls _ H6 (s3.trans s46) e6 f1 (by rw [List.append_nil]; exact s46 _ _ hls) ⟨p5,pt,pa',rfl,s6 _ _ e5,(s5.trans s6) _ _ e4,s46 _ _ hpa3⟩
     refine a25 w1 ?_
     walk_at "run"
     rcases hcs with ⟨l',hl',_⟩ | ⟨_,y,hy,hx⟩
     · rw [cl8 w1] at hl'
       cases hl'
     injection hx with hx1 hx2
     subst hx1 hx2
     refine ab9 (fun σ' H'=>σ'=[some (.ref p),some (.int (k:Nat)),some (.ref ps),some (.ref pa'),some (.ref ls),some (.ref lk),some (.ref na),some (.str d.word)]∧Same H H'∧H' ls=some (.lst (a34 (sd'++d.sd2)))∧H' lk=some (.lst (a48 stk'))∧H' pa'=some (.tup (ws'.map V.int))∧d.tr.At H' (.ref na) []) ?_ ?_
     · walk_at "run"
       refine ag2 (d.word=Str.ofString "say"∨d.word=Str.ofString "hand") (fun R hR=>?_) ?_
       · walk_at "run"
         by_cases hh:d.word=Str.ofString "say"
         · refine a26 hh ?_
           exact rT hR (.inl hh)
         · refine a25 hh ?_
           walk_at "run"
           by_cases h7:d.word=Str.ofString "hand"
           · rw [decide_eq_true h7]
             exact rT hR (.inr h7)
           · rw [decide_eq_false h7]
             exact rF hR (fun z=>by rcases z with z | z; exact hh z; exact h7 z)
       by_cases w3:d.word=Str.ofString "say"∨d.word=Str.ofString "hand"
       · refine a26 w3 ?_
         walk_at "run"
         obtain ⟨a,us',w',hz,hw',hor⟩:=bm2 w3 hut hdok
         cases hz
         refine aa3 (SqL.of hls) ?_
         walk_at "run"
         refine ⟨na,us',w',rfl,hor,?_⟩
         walk_at "run"
         refine a57 hls (by simp only [a34,List.length_map]; omega) ?_
         have tU:Tups H3 (upd H3 ls (.lst (a34 sd'++[V.str w']))):=Tups.upd hls
         exact ⟨rfl,s3.updNew f1,by rw [a18,hw']; simp [a34],by rw [a14 hll.symm]; exact hlk3,tU _ _ hpa3,hut.mono (Keep.upd hls (by simp))⟩
       · refine a25 w3 ?_
         walk_at "run"
         exact ⟨rfl,s3,by rw [ce7 w3,List.append_nil]; exact hls,hlk3,hpa3,hut⟩
     rintro σ' H5 ⟨rfl,s5,hls5,hlk5,hpa5,hut5⟩
     refine ab9 (fun σ' H'=>∃ pa6,σ'=[some (.ref p),some (.int (k:Nat)),some (.ref ps),some (.ref pa6),some (.ref ls),some (.ref lk),some (.ref na),some (.str d.word)]∧Same H5 H'∧H' pa6=some (.tup ((d.vals2 bs ws').map V.int))) ?_ ?_
     · walk_at "run"
       by_cases w4:d.word=Str.ofString "put"
       · refine a26 w4 ?_
         walk_at "run"
         obtain ⟨nm,e,j,rfl⟩:=ce4 w4
         obtain ⟨a,u',hz,ha,he⟩:=Nd.put_at hut5
         cases hz
         refine ⟨p,_,dx,_,_,rfl,s5 _ _ h1,T.cl_GraphMachine,T.n_GraphMachine_boxes,aj7 _ _ _,?_⟩
         walk_at "run"
         refine a23 (SqT.of ha) (a04 (j:=1) rfl) ?_
         walk_at "run"
         refine a23 (SqT.of ha) (a04 (j:=2) rfl) ?_
         walk_at "run"
         exact ⟨bl,pa',bvs,bs,ws',nm,e,u',rfl,s5 _ _ h2,h3.mono fun _ _ z=>z.same s5,hok.bz,hok.bl,hpa5,hwl3,by first | exact at9 he | exact he,hdok.2.1,hdok.1,fun p6 H6 s6 e6=>⟨p6,rfl,s6,e6⟩⟩
       · refine a25 w4 ?_
         walk_at "run"
         exact ⟨pa',rfl,Same.refl _,by rw [c09 w4]; exact hpa5⟩
     rintro σ' H6 ⟨pa6,rfl,s6,hpa6⟩
     have s56:=s5.trans s6
     walk_at "run"
     refine ⟨p,dx,_,rfl,s56 _ _ h1,an8 _ _ _ (by decide +kernel) (by decide +kernel) (by decide +kernel),?_⟩
     walk_at "run"
     refine ⟨p,lk,pa6,_,bs,ns,f,d,stk',_,rfl,hG.same s56,hok,hmem,hut5.same s6,s6 _ _ hlk5,by omega,hpa6,au4 hwl3,fun H7 H8 s7 e7 e8=>?_⟩
     subst e8
     rw [hPv]
     have hbl:=bl0 (ns:=ns) (nm:=bs.map (·.1)) (ws:=d.vals2 bs ws') (stk:=stk') (d:=d)
     have hdl:=by8 d
     have tU:Tups H7 (upd H7 lk (.lst (a48 (behF ns (bs.map (·.1)) (d.vals2 bs ws') stk' d).2))):=Tups.upd e7
     exact ⟨m',by omega,_,_,_,_,pa6,_,_,rfl,(s56.trans s7).updNew hlk,by rw [a14 hll]; exact (s6.trans s7) _ _ hls5,a18,tU _ _ (s7 _ _ hpa6),au4 hwl3,⟨y.1,hy,by rw [List.append_assoc]⟩,by omega,by rw [List.length_append]; omega⟩
noncomputable def waG (ns:List Nd) (bs:List (Str×Int)) (n:Nat) (x:StG) (br:List (List Pt×Nat)) (m:Nat) (e:Tr):Option (List Str×Option StG):=match weN br e with
 | some j=>grF ns bs n (some j) x.2.1 x.2.2.1
 | none=>if x.2.2.2=0 then some ([],some x) else if x.2.2.2=1 then grF ns bs n (some m) x.2.1 x.2.2.1 else some ([],some (x.1,x.2.1,x.2.2.1,x.2.2.2 - 1))
noncomputable def ay0 (ns:List Nd) (bs:List (Str×Int)) (n:Nat):Option StG→Tr→Option (List Str×Option StG)
 | none,_=>some ([],none)
 | some x,e=>match ns[x.1]? with
   | some (.wait _ br m)=>waG ns bs n x br m e
   | _=>none
theorem bm3 {ns:List Nd}{bs:List (Str×Int)}{n:Nat}{x:StG}{e:Tr}{y:List Str×Option StG}(h:ay0 ns bs n (some x) e=some y):∃ l br m,ns[x.1]?=some (.wait l br m)∧waG ns bs n x br m e=some y:=by
 simp only [ay0] at h
 split at h
 · rename_i l br m hs
   exact ⟨l,br,m,hs,h⟩
 · cases h
def bd4 (K:PySem.W.Frag) (C:Addr):Sp:=fun vs H Q _=>∃ (p:Addr) (wv sv ev:V) (bs:List (Str×Int)) (ns:List Nd) (f:Nat) (x:StG) (l:Int) (br:List (List Pt×Nat)) (m:Nat) (e:Tr) (n:Nat) (sd:List Str) (r:Option StG),vs=[.ref p,wv,sv,ev]∧GmAt C H p bs ns f∧GrOk bs ns∧(Nd.wait l br m).tr.At H wv []∧SgAt H sv (some x)∧e.AtK K H ev∧e.h≤5∧x.2.2.1.length=bs.length∧x.2.1.length+n≤900000∧waG ns bs n x br m e=some (sd,r) ∧
 ∀ p' l v' H',Same H H'→H' p'=some (.tup [.ref l,v'])→H l=none→H' l=some (.lst (a34 sd))→SgAt H' v' r→Q (.ref p') H'
theorem b52 (T:Txt K mg t):FnOk P w K mg base CX0 17 t.a_stepped t.fd_stepped ["machine","wait","standing","event"] (bd4 K t.c_GraphMachine):=by
 have G_GraphMachine_gone_on:=a63 (P:=P) (w:=w) (base:=base) T
 have G_rested_on:=au9 (P:=P) (w:=w) (base:=base) T
 have G_way_of_event:=ak3 (P:=P) (w:=w) (base:=base) T
 refine T.f_stepped.F.ok sc_stepped (fun vs H Q E h=>?_) (fun cdv A outer s H vs Q E hr h=>?_)
 · obtain ⟨p,wv,sv,ev,bs,ns,f,x,l,br,m,e,n,sd,r,rfl,_⟩:=h
   rfl
 · obtain ⟨p,wv,sv,ev,bs,ns,f,x,l,br,m,e,n,sd,r,rfl,hG,hok,hw,hs,he,heh,hwl,hsl,hst,q⟩:=h
   refine ⟨_,(@a01 _ _ _ _ _ (@a16 _ _ 4 _ _ _ _ sc_stepped.nd rfl (by walk_at "o") (@a21 _ _ _ _ _ _ _ _ _ _ _ _ _ _ _ _ G_way_of_event (hr.mono (by omega)) rfl T.f_way_of_event.m T.f_way_of_event.F.kp T.f_way_of_event.b .nil a27 (@a00 _ _ _ _ _ (@a12 _ _ _ _ _ _ _ (a06 K) (pv 1) (@a03 _ _ _ _) (fun _ _=>rfl)) (@a00 _ _ _ _ _ (pv 3) (@a02 _) (by rfl)) (by rfl)) (by decide) (by rfl) (by rfl)) (by rfl) (by walk_at "o"))
    (@a62 _ _ _ _ _ (@a32 _ _ _ _ _ _ _ _ (@a09 _ _ _ _ _ _ _ _ a71 (pv 4) (@a31 _ _ _) (nomark _)) (@a01 _ _ _ _ _ (@a16 _ _ 5 _ _ _ _ sc_stepped.nd rfl (by walk_at "o") (@a21 _ _ _ _ _ _ _ _ _ _ _ _ _ _ _ _ G_rested_on (hr.mono (by omega)) rfl T.f_rested_on.m T.f_rested_on.F.kp T.f_rested_on.b .nil a27 (@a00 _ _ _ _ _ (pv 2) (@a02 _) (by rfl)) (by decide) (by rfl) (by rfl)) (by rfl) (by walk_at "o"))
     (@a01 _ _ _ _ _ (@a32 _ _ _ _ _ _ _ _ (@a09 _ _ _ _ _ _ _ _ ab0 (pv 5) (@a31 _ _ _) (nomark _)) (@a05 _ _ _ (@a17 _ _ _ _ (@a19 _ _ _ _ _ (@a00 _ _ _ _ _ (@a30 _ _ _ _ (@a02 _)) (@a00 _ _ _ _ _ (pv 5) (@a02 _) (by rfl)) (by rfl))))) (@a20 _))
     (@a05 _ _ _ (@a16 _ _ 4 _ _ _ _ sc_stepped.nd rfl (by walk_at "o") (@a12 _ _ _ _ _ _ _ (a06 K) (pv 1) (@a03 _ _ _ _) (fun _ _=>rfl)) (by rfl) (by walk_at "o"))))) (@a20 _))
    (@a05 _ _ _ (@a17 _ _ _ _ (a65 (pv 0) T.cl_GraphMachine T.f_GraphMachine_gone_on.M G_GraphMachine_gone_on (hr.mono (by omega)) T.f_GraphMachine_gone_on.b .nil a27 (@a00 _ _ _ _ _ (pv 4) (@a00 _ _ _ _ _ (@a12 _ _ _ _ _ _ _ (a06 K) (pv 2) (@a03 _ _ _ _) (fun _ _=>rfl)) (@a00 _ _ _ _ _ (@a12 _ _ _ _ _ _ _ (a06 K) (pv 2) (@a03 _ _ _ _) (fun _ _=>rfl)) (@a02 _) (by rfl)) (by rfl)) (by rfl))))))),?_⟩
   obtain ⟨dx,bl,nl,bvs,un,h1,h2,h3,h4,h5⟩:=hG.ex
   obtain ⟨wa,vs,rfl,hwa,hat⟩:=at_tup0.mp hw
   obtain ⟨v1,u1,rfl,j1,hat⟩:=ats_cons0.mp hat
   obtain ⟨v2,u2,rfl,j2,hat⟩:=ats_cons0.mp hat
   obtain ⟨v3,u3,rfl,j3,hat⟩:=ats_cons0.mp hat
   obtain ⟨v4,u4,rfl,j4,hat⟩:=ats_cons0.mp hat
   obtain rfl:=at_int0.mp j4
   obtain ⟨k,stk,ws,lf⟩:=x
   obtain ⟨sa,ps,pa,rfl,hsa,i1,i2⟩:=hs
   dsimp only at hwl hsl
   walk_at "go"
   refine a23 (SqT.of hwa) (a04 (j:=2) rfl) ?_
   walk_at "run"
   refine ⟨v3,ev,br,e,rfl,j3,he,heh,?_⟩
   walk_at "run"
   refine ab9 (fun σ' H'=>∃ (j:Nat) (y:Option V),σ'=[some (.ref p),some (.ref wa),some (.ref sa),some ev,some (.int (j:Nat)),y]∧H=H'∧grF ns bs n (some j) stk ws=some (sd,r)) ?_ ?_
   · walk_at "run"
     unfold waG at hst
     cases hwe:weN br e with
     | some j =>
       rw [hwe] at hst
       refine a25 (fun z=>nomatch z) ?_
       walk_at "run"
       exact ⟨j,_,rfl,rfl,hst⟩
     | none =>
       rw [hwe] at hst
       refine a26 rfl ?_
       walk_at "run"
       dsimp only at hst
       refine ⟨sa,_,_,_,lf,rfl,hsa,fun l0=>?_,fun l1=>?_,fun l0 l1=>?_⟩
       · rw [if_pos l0] at hst
         injection hst with hst
         injection hst with z1 z2
         subst z1 z2
         walk_at "run"
         refine an3 (fun z=>nomatch z) ?_
         walk_at "run"
         intro p6 H6 f6 s6 e6
         walk_at "run"
         intro p7 H7 f7 s7 e7
         exact q p7 p6 _ H7 (s6.trans s7) e7 f6 (s7 _ _ e6) ⟨sa,ps,pa,rfl,(s6.trans s7) _ _ hsa,(s6.trans s7) _ _ i1,(s6.trans s7) _ _ i2⟩
       · rw [if_neg (by omega),if_pos l1] at hst
         walk_at "run"
         refine at7 rfl ?_
         walk_at "run"
         refine a23 (SqT.of hwa) (a04 (j:=3) rfl) ?_
         exact ⟨m,_,rfl,rfl,hst⟩
       · rw [if_neg l0,if_neg l1] at hst
         injection hst with hst
         injection hst with z1 z2
         subst z1 z2
         intro p5 H5 f5 s5 e5
         walk_at "run"
         refine an3 (fun z=>nomatch z) ?_
         walk_at "run"
         intro p6 H6 f6 s6 e6
         walk_at "run"
         intro p7 H7 f7 s7 e7
         have s57:=s5.trans (s6.trans s7)
         exact q p7 p6 _ H7 s57 e7 (s5.free f6) (s7 _ _ e6) ⟨p5,ps,pa,rfl,(s6.trans s7) _ _ e5,s57 _ _ i1,s57 _ _ i2⟩
   rintro σ' H' ⟨j,y,rfl,rfl,hgo⟩
   walk_at "run"
   refine ⟨p,dx,_,rfl,h1,an8 _ _ _ (by decide +kernel) (by decide +kernel) (by decide +kernel),?_⟩
   walk_at "run"
   refine a23 (SqT.of hsa) (a04 (j:=1) rfl) ?_
   walk_at "run"
   refine a23 (SqT.of hsa) (a04 (j:=2) rfl) ?_
   walk_at "run"
   exact ⟨p,ps,pa,bs,ns,f,some j,stk,ws,n,sd,r,rfl,hG,hok,i1,i2,hwl,hgo,hsl,q⟩
def bd5 (K:PySem.W.Frag) (C:Addr):Sp:=fun vs H Q _=>∃ (p:Addr) (bs:List (Str×Int)) (ns:List Nd) (f n:Nat) (sd:List Str) (r:Option StG),vs=[.ref p]∧GmAt C H p bs ns f∧GrOk bs ns∧n≤900000∧grF ns bs n (some f) [] (List.replicate bs.length 0)=some (sd,r) ∧
 ∀ p' l v' H',Same H H'→H' p'=some (.tup [.ref l,v'])→H l=none→H' l=some (.lst (a34 sd))→SgAt H' v' r→Q (.ref p') H'
theorem a52 (T:Txt K mg t):FnOk P w K mg base CX0 18 t.a_GraphMachine_begin t.fd_GraphMachine_begin ["self"] (bd5 K t.c_GraphMachine):=by
 have G_GraphMachine_gone_on:=a63 (P:=P) (w:=w) (base:=base) T
 have G_first_values:=ak2 (P:=P) (w:=w) (base:=base) T
 refine T.f_GraphMachine_begin.F.ok aa5 (fun vs H Q E h=>?_) (fun cdv A outer s H vs Q E hr h=>?_)
 · obtain ⟨p,bs,ns,f,n,sd,r,rfl,_⟩:=h
   rfl
 · obtain ⟨p,bs,ns,f,n,sd,r,rfl,hG,hok,hn,hgo,q⟩:=h
   refine ⟨_,(@a05 _ _ _ (@a17 _ _ _ _ (a65 (pv 0) T.cl_GraphMachine T.f_GraphMachine_gone_on.M G_GraphMachine_gone_on (hr.mono (by omega)) T.f_GraphMachine_gone_on.b .nil a27 (@a00 _ _ _ _ _ (ac6 K (pv 0) rfl) (@a00 _ _ _ _ _ (@a19 _ _ _ _ _ (@a02 _)) (@a00 _ _ _ _ _ (@a21 _ _ _ _ _ _ _ _ _ _ _ _ _ _ _ _ G_first_values (hr.mono (by omega)) rfl T.f_first_values.m T.f_first_values.F.kp T.f_first_values.b .nil a27 (@a00 _ _ _ _ _ (ac6 K (pv 0) rfl) (@a02 _) (by rfl)) (by decide) (by rfl) (by rfl)) (@a02 _) (by rfl)) (by rfl)) (by rfl))))),?_⟩
   obtain ⟨dx,bl,nl,bvs,un,h1,h2,h3,h4,h5⟩:=hG.ex
   walk_at "go"
   refine ⟨p,dx,_,rfl,h1,an8 _ _ _ (by decide +kernel) (by decide +kernel) (by decide +kernel),?_⟩
   walk_at "run"
   refine ⟨p,_,dx,_,_,rfl,h1,T.cl_GraphMachine,T.n_GraphMachine_first,bc0 _ _ _,?_⟩
   walk_at "run"
   intro p2 H2 f2 s2 e2
   walk_at "run"
   refine ⟨p,_,dx,_,_,rfl,s2 _ _ h1,T.cl_GraphMachine,T.n_GraphMachine_boxes,aj7 _ _ _,?_⟩
   walk_at "run"
   refine ⟨bl,bvs,rfl,s2 _ _ h2,by have:=h3.1; have:=hok.bl; omega,fun p3 H3 s3 e3=>?_⟩
   walk_at "run"
   have s13:=s2.trans s3
   rw [h3.1] at e3
   exact ⟨p,p2,p3,bs,ns,f,some f,[],_,n,sd,r,rfl,hG.same s13,hok,s3 _ _ e2,e3,by simp,hgo,by simpa using hn,fun p6 l6 v6 H6 s6 e1 e2 e3 e4=>q p6 l6 v6 H6 (s13.trans s6) e1 (s13.free e2) e3 e4⟩
def b15 (K:PySem.W.Frag) (C:Addr):Sp:=fun vs H Q _=>∃ (p:Addr) (sv ev:V) (bs:List (Str×Int)) (ns:List Nd) (f:Nat) (r0:Option StG) (e:Tr) (n:Nat) (sd:List Str) (r:Option StG),vs=[.ref p,sv,ev]∧GmAt C H p bs ns f∧GrOk bs ns∧SgAt H sv r0∧e.AtK K H ev∧e.h≤5∧(∀ x,r0=some x→x.2.2.1.length=bs.length∧x.2.1.length+n≤900000)∧ay0 ns bs n r0 e=some (sd,r) ∧
 ∀ p' l v' H',Same H H'→H' p'=some (.tup [.ref l,v'])→H l=none→H' l=some (.lst (a34 sd))→SgAt H' v' r→Q (.ref p') H'
theorem a55 (T:Txt K mg t):FnOk P w K mg base CX0 18 t.a_GraphMachine_step t.fd_GraphMachine_step ["self","standing","event"] (b15 K t.c_GraphMachine):=by
 have G_stepped:=b52 (P:=P) (w:=w) (base:=base) T
 refine T.f_GraphMachine_step.F.ok ab3 (fun vs H Q E h=>?_) (fun cdv A outer s H vs Q E hr h=>?_)
 · obtain ⟨p,sv,ev,bs,ns,f,r0,e,n,sd,r,rfl,_⟩:=h
   rfl
 · obtain ⟨p,sv,ev,bs,ns,f,r0,e,n,sd,r,rfl,hG,hok,hs,he,heh,hb,hst,q⟩:=h
   refine ⟨_,(@a01 _ _ _ _ _ (@a32 _ _ _ _ _ _ _ _ (@a09 _ _ _ _ _ _ _ _ a71 (pv 1) (@a31 _ _ _) (nomark _)) (@a05 _ _ _ (@a17 _ _ _ _ (@a19 _ _ _ _ _ (@a00 _ _ _ _ _ (@a30 _ _ _ _ (@a02 _)) (@a00 _ _ _ _ _ (@a31 _ _ _) (@a02 _) (by rfl)) (by rfl))))) (@a20 _))
    (@a05 _ _ _ (@a17 _ _ _ _ (@a21 _ _ _ _ _ _ _ _ _ _ _ _ _ _ _ _ G_stepped (hr.mono (by omega)) rfl T.f_stepped.m T.f_stepped.F.kp T.f_stepped.b .nil a27 (@a00 _ _ _ _ _ (pv 0) (@a00 _ _ _ _ _ (@a12 _ _ _ _ _ _ _ (a15 K) (ac6 K (pv 0) rfl) (@a12 _ _ _ _ _ _ _ (a06 K) (pv 1) (@a03 _ _ _ _) (fun _ _=>rfl)) (fun _ _=>rfl)) (@a00 _ _ _ _ _ (pv 1) (@a00 _ _ _ _ _ (pv 2) (@a02 _) (by rfl)) (by rfl)) (by rfl)) (by rfl)) (by decide) (by rfl) (by rfl))))),?_⟩
   obtain ⟨dx,bl,nl,bvs,un,h1,h2,h3,h4,h5⟩:=hG.ex
   walk_at "go"
   cases r0 with
   | none =>
     obtain rfl:sv=.non:=hs
     injection hst with hst
     injection hst with z1 z2
     subst z1 z2
     refine a26 rfl ?_
     walk_at "run"
     intro p6 H6 f6 s6 e6
     walk_at "run"
     intro p7 H7 f7 s7 e7
     exact q p7 p6 _ H7 (s6.trans s7) e7 f6 (s7 _ _ e6) rfl
   | some x =>
     obtain ⟨b1,b2⟩:=hb _ rfl
     obtain ⟨l,br,m,hw,hm⟩:=bm3 hst
     have hs0:=hs
     obtain ⟨k,stk,ws,lf⟩:=x
     obtain ⟨sa,ps,pa,rfl,hsa,i1,i2⟩:=hs
     dsimp only at hw
     have hul:un.length=ns.length:=by rw [h5.len,List.length_map]
     obtain ⟨u,hu⟩:∃ u,un[k]?=some u:=⟨_,List.getElem?_eq_getElem (by have:=(List.getElem?_eq_some_iff.mp hw).1; omega)⟩
     have hut:(Nd.wait l br m).tr.At H u []:=by
      obtain ⟨t,ht,hxt⟩:=ae5 h5 hu
      rw [List.getElem?_map,hw] at ht
      rw [← Option.some.inj ht] at hxt
      exact hxt
     refine a25 (fun z=>nomatch z) ?_
     walk_at "run"
     refine ⟨p,_,dx,_,_,rfl,h1,T.cl_GraphMachine,T.n_GraphMachine_nodes,aj8 _ _ _,?_⟩
     walk_at "run"
     refine a23 (SqT.of hsa) (a04 (j:=0) rfl) ?_
     walk_at "run"
     refine a42 (SqL.of h4) (a04 hu) ?_
     walk_at "run"
     exact ⟨p,u,_,ev,bs,ns,f,(k,stk,ws,lf),l,br,m,e,n,sd,r,rfl,hG,hok,hut,hs0,he,heh,b1,b2,hm,q⟩
def b16 (K:PySem.W.Frag):Sp:=fun vs H Q _=>∃ (u sv:V) (r:Option StG),vs=[u,sv]∧SgAt H sv r∧Q (.bl r.isNone) H
theorem a56 (T:Txt K mg t):FnOk P w K mg base CX0 1 t.a_GraphMachine_over t.fd_GraphMachine_over ["self","standing"] (b16 K):=by
 refine T.f_GraphMachine_over.F.ok ab4 (fun vs H Q E h=>?_) (fun cdv A outer s H vs Q E hr h=>?_)
 · obtain ⟨u,sv,r,rfl,_⟩:=h
   rfl
 · obtain ⟨u,sv,r,rfl,hs,q⟩:=h
   refine ⟨_,(@a05 _ _ _ (@a17 _ _ _ _ (@a86 _ _ _ _ _ _ _ _ a71 (pv 1) (@a31 _ _ _) (nomark _)))),?_⟩
   walk_at "go"
   cases r with
   | none =>
     obtain rfl:sv=.non:=hs
     exact q
   | some x =>
     obtain ⟨k,stk,ws,lf⟩:=x
     obtain ⟨sa,ps,pa,rfl,hsa,i1,i2⟩:=hs
     exact q
def c11 (K:PySem.W.Frag) (C:Addr):Sp:=fun vs H Q _=>∃ (p dx g bl nl:Addr) (bvs un:List V) (bs:List (Str×Int)) (ns:List Nd) (f:Nat),vs=[.ref p,.ref g]∧H p=some (.ins C dx [])∧H g=some (.tup [.ref bl,.ref nl,.int (f:Nat)])∧H bl=some (.lst bvs)∧Each (BxAt H) bvs bs∧H nl=some (.lst un)∧Tr.Ats H (ns.map Nd.tr) un [] ∧
 ∀ dx' bl' nl' H',H bl'=none→H nl'=none→H' p=some (.ins C dx' (gmS (.ref bl') (.ref nl') (.int (f:Nat))))→H' bl'=some (.lst bvs)→H' nl'=some (.lst un)→(∀ x o,H x=some o→x≠p→H' x=some o)→Q .non H'
theorem a58 (T:Txt K mg t):FnOk P w K mg base CX0 1 t.a_GraphMachine___init__ t.fd_GraphMachine___init__ ["self","graph"] (c11 K t.c_GraphMachine):=by
 refine T.f_GraphMachine___init__.F.ok a84 (fun vs H Q E h=>?_) (fun cdv A outer s H vs Q E hr h=>?_)
 · obtain ⟨p,dx,g,bl,nl,bvs,un,bs,ns,f,rfl,_⟩:=h
   rfl
 · obtain ⟨p,dx,g,bl,nl,bvs,un,bs,ns,f,rfl,hp,hg,hbl,hbs,hnl,hun,q⟩:=h
   refine ⟨_,(@a01 _ _ _ _ _ (ax1 K (pv 0) (@a33 _ _ _ _ _ _ _ _ _ (ad8 K) (by rfl) T.z_list ac5 (@a00 _ _ _ _ _ (@a12 _ _ _ _ _ _ _ (a06 K) (pv 1) (@a03 _ _ _ _) (fun _ _=>rfl)) (@a02 _) (by rfl)) (by decide) (by decide) (by rfl) (by rfl)) rfl)
    (@a01 _ _ _ _ _ (ax1 K (pv 0) (@a33 _ _ _ _ _ _ _ _ _ (ad8 K) (by rfl) T.z_list ac5 (@a00 _ _ _ _ _ (@a12 _ _ _ _ _ _ _ (a06 K) (pv 1) (@a03 _ _ _ _) (fun _ _=>rfl)) (@a02 _) (by rfl)) (by decide) (by decide) (by rfl) (by rfl)) rfl)
    (@a05 _ _ _ (ax1 K (pv 0) (@a12 _ _ _ _ _ _ _ (a06 K) (pv 1) (@a03 _ _ _ _) (fun _ _=>rfl)) rfl)))),?_⟩
   have np:∀ {x:Addr}{o:HO},H x=some o→(∀ C dx fs,o≠.ins C dx fs)→x≠p:=fun e z=>b56 e hp (z _ _ _)
   have ng:=np hg (fun _ _ _ z=>nomatch z)
   have nnl:=np hnl (fun _ _ _ z=>nomatch z)
   walk_at "go"
   refine a23 (SqT.of hg) (a04 (j:=0) rfl) ?_
   walk_at "run"
   refine ap5 (SqL.of hbl) ?_
   intro b1 H1 f1 s1 e1
   walk_at "run"
   refine ⟨p,_,dx,_,rfl,s1 _ _ hp,T.cl_GraphMachine,T.n_GraphMachine_boxes,by decide,?_⟩
   walk_at "run"
   have hb1:b1≠p:=(a29 hp f1).symm
   refine a23 (SqT.of (show upd H1 p _ g=some (.tup _) by rw [a14 ng]; exact s1 _ _ hg)) (a04 (j:=1) rfl) ?_
   walk_at "run"
   refine ap5 (SqL.of (show upd H1 p _ nl=some (.lst un) by rw [a14 nnl]; exact s1 _ _ hnl)) ?_
   intro n1 H2 f2 s2 e2
   have ep:=s2 p _ a18
   have hn1:n1≠p:=fun z=>by rw [z,a18] at f2; cases f2
   have eb1:=s2 b1 _ (by rw [a14 hb1]; exact e1)
   have eg:=s2 g _ (by rw [a14 ng]; exact s1 _ _ hg)
   have fn1:H n1=none:=by
    rw [a14 hn1] at f2
    exact s1.free f2
   have k2:∀ x o,H x=some o→x≠p→H2 x=some o:=fun x o e z=>s2 _ _ (by rw [a14 z]; exact s1 _ _ e)
   walk_at "run"
   refine ⟨p,_,dx,_,rfl,ep,T.cl_GraphMachine,T.n_GraphMachine_nodes,(by have h1:=a73 "boxes" (V.ref b1) []; rw [List.length_nil] at h1; omega),?_⟩
   walk_at "run"
   refine a23 (SqT.of (show upd H2 p _ g=some (.tup _) by rw [a14 ng]; exact eg)) (a04 (j:=2) rfl) ?_
   walk_at "run"
   refine ⟨p,_,dx,_,rfl,a18,T.cl_GraphMachine,T.n_GraphMachine_first,(by have h1:=a73 "boxes" (V.ref b1) []; have h2:=a73 "nodes" (V.ref n1) (putF "boxes" (V.ref b1) []); rw [List.length_nil] at h1; omega),?_⟩
   exact q dx b1 n1 _ f1 fn1 a18 (by rw [a14 hb1,a14 hb1]; exact eb1) (by rw [a14 hn1,a14 hn1]; exact e2) fun x o e hx=>by rw [a14 hx,a14 hx]; exact k2 x o e hx
abbrev SY:=Option StG
abbrev SA (H:Hp) (v:V) (r:SY):Prop:=SgAt H v r
abbrev sT:SY→Tr:=sgT
structure Mc where
 bs:List (Str×Int)
 ns:List Nd
 f:Nat
 n:Nat
 ok:SY→Prop
 lev:SY→Nat
 st:SY→Tr→List Str×SY
 sd0:List Str
 r0:SY
structure MPre (K:PySem.W.Frag) (C:Addr) (H:Hp) (p ev:Addr) (us:List V) (es:List Tr) (m:Mc):Prop where
 te:GmAt C H p m.bs m.ns m.f
 kok:GrOk m.bs m.ns
 hev:H ev=some (.lst us)
 hes:Tr.AtsK K H es us
 heh:∀ e∈es,e.h≤5
 hel:es.length≤100
 hn:m.n≤800000
 b0:grF m.ns m.bs m.n (some m.f) [] (List.replicate m.bs.length 0)=some (m.sd0,m.r0)
 k0:m.ok m.r0∧m.lev m.r0=0
 hkb:∀ r,m.ok r→∀ x,r=some x→x.2.2.1.length=m.bs.length∧x.2.1.length≤m.lev r
 hks:∀ r,m.ok r→∀ e∈es,ay0 m.ns m.bs m.n r e=some (m.st r e)∧m.ok (m.st r e).2∧m.lev (m.st r e).2≤m.lev r+1
section
variable {K:PySem.W.Frag}{C:Addr}{H H':Hp}{p ev:Addr}{us:List V}{es:List Tr}{m:Mc}{Q:VK}{E:XK}
theorem MPre.same (h:MPre K C H p ev us es m) (s:Same H H'):MPre K C H' p ev us es m :=
 ⟨h.te.same s,h.kok,s _ _ h.hev,h.hes.mono s.tups,h.heh,h.hel,h.hn,h.b0,h.k0,h.hkb,h.hks⟩
theorem MPre.ins (h:MPre K C H p ev us es m):∃ dx fs,H p=some (.ins C dx fs)∧fs.lookup ("begin":Str)=none∧fs.lookup ("step":Str)=none∧fs.lookup ("over":Str)=none:=by
 obtain ⟨dx,bl,nl,bvs,un,h1,_⟩:=h.te.ex
 exact ⟨dx,_,h1,an8 _ _ _ (by decide +kernel) (by decide +kernel) (by decide +kernel),an8 _ _ _ (by decide +kernel) (by decide +kernel) (by decide +kernel),an8 _ _ _ (by decide +kernel) (by decide +kernel) (by decide +kernel)⟩
theorem MPre.beg (h:MPre K C H p ev us es m) (q:∀ k l v H',Same H H'→H' k=some (.tup [.ref l,v])→H l=none→H' l=some (.lst (a34 m.sd0))→SA H' v m.r0→Q (.ref k) H'):bd5 K C [.ref p] H Q E:=⟨p,m.bs,m.ns,m.f,m.n,m.sd0,m.r0,rfl,h.te,h.kok,by have:=h.hn; omega,h.b0,q⟩
theorem MPre.stp (h:MPre K C H p ev us es m) {sv v:V}{r:SY}{e:Tr}(hs:SA H sv r) (hr:m.ok r) (hl:m.lev r≤5000) (hm:e∈es) (he:e.AtK K H v) (q:∀ k l v' H',Same H H'→H' k=some (.tup [.ref l,v'])→H l=none→H' l=some (.lst (a34 (m.st r e).1))→SA H' v' (m.st r e).2→Q (.ref k) H'):b15 K C [.ref p,sv,v] H Q E :=
 ⟨p,sv,v,m.bs,m.ns,m.f,r,e,m.n,_,_,rfl,h.te,h.kok,hs,he,h.heh e hm,fun x hx=>⟨(h.hkb r hr x hx).1,by have:=(h.hkb r hr x hx).2; have:=h.hn; omega⟩,(h.hks r hr e hm).1,q⟩
theorem ovr {u sv:V}{r:SY}(hs:SA H sv r) (q:Q (.bl r.isNone) H):b16 K [u,sv] H Q E:=⟨u,sv,r,rfl,hs,q⟩
theorem af6 {v:V}{r:SY}(h:SA H v r) (s:Tups H H'):SA H' v r:=h.tups s
theorem a53 {v:V}{r:SY}(h:SA H v r) (s:Same H H'):SA H' v r:=h.same s
theorem bd6 {v:V}{r:SY}(h:SA H v r):TK H (sT r) v:=cl6 h
theorem av0 (a b:SY) (h:sT a=sT b):a=b:=bz3 h
theorem sT_h (r:SY):(sT r).h≤4:=sg_h r
end
def nxM (es:List Tr) (m:Mc) (r:SY):List SY:=es.map fun e=>(m.st r e).2
def srM (es:List Tr) (m:Mc):Option (List SY):=srL (nxM es m) 2000 2001 0 [m.r0]
def FmAt (H:Hp) (v:V) (r:SY):Prop:=∃ k sv,v=.ref k∧H k=some (.tup [sv,.bl r.isNone])∧SA H sv r
theorem ah3 {K:PySem.W.Frag}{H:Hp}:∀ {xs:List Tr}{vs:List V},Tr.AtsK K H xs vs→∀ {i:Nat}{v:V},vs[i]?=some v→∃ x,xs[i]?=some x∧x.AtK K H v
 | [],vs,h,i,v,e=>by
   simp only [Tr.AtsK] at h
   subst h
   simp at e
 | x::xs,vs,h,i,v,e=>by
   simp only [Tr.AtsK] at h
   obtain ⟨v',ws,rfl,h1,h2⟩:=h
   cases i with
   | zero=>simp at e; subst e; exact ⟨x,rfl,h1⟩
   | succ i=>simpa using ah3 h2 (by simpa using e)
theorem ah4 {K:PySem.W.Frag}{H:Hp}:∀ {xs:List Tr}{vs:List V},Tr.AtsK K H xs vs→vs.length=xs.length
 | [],vs,h=>by
   simp only [Tr.AtsK] at h
   subst h
   rfl
 | x::xs,vs,h=>by
   simp only [Tr.AtsK] at h
   obtain ⟨v',ws,rfl,h1,h2⟩:=h
   simp [ah4 h2]
theorem bd7 {H H':Hp}{v:V}{r:SY}(h:FmAt H v r) (s:Same H H'):FmAt H' v r:=by
 obtain ⟨k,sv,h1,h2,h3⟩:=h
 exact ⟨k,sv,h1,s _ _ h2,a53 h3 s⟩
theorem c12 {es:List Tr}{m:Mc}{k:SY}{j:Nat}{e:Tr}(h:es[j]?=some e):(nxM es m k)[j]?=some (m.st k e).2:=by
 unfold nxM
 rw [List.getElem?_map,h]
 rfl
def RwOk (m:Mc) (row:List SY):Prop:=∀ (i:Nat) (r:SY),row[i]?=some r→m.ok r∧m.lev r≤i
theorem RwOk.snoc {m:Mc}{row:List SY}{r:SY}(h:RwOk m row) (hr:m.ok r) (hl:m.lev r≤row.length):RwOk m (row++[r]):=fun i x hx=>by
 by_cases hi:i<row.length
 · rw [List.getElem?_append_left hi] at hx
   exact h i x hx
 · have hie:i=row.length:=by
    have:=(List.getElem?_eq_some_iff.mp hx).1
    rw [List.length_append,List.length_singleton] at this
    omega
   subst hie
   rw [List.getElem?_append_right (Nat.le_refl _)] at hx
   simp at hx
   subst hx
   exact ⟨hr,hl⟩
def c13 (K:PySem.W.Frag) (C Cx:Addr):Sp:=fun vs H Q E=>∃ (p ev:Addr) (us:List V) (es:List Tr) (m:Mc),vs=[.ref p,.ref ev]∧MPre K C H p ev us es m ∧
 (∀ row,srM es m=some row→RwOk m row→row.length≤2000→∀ pf ws H',H pf=none→Same H H'→H' pf=some (.lst ws)→Each (FmAt H') ws row→Q (.ref pf) H') ∧
 (srM es m=none→∀ H',Same H H'→E (.ref Cx) none H')
theorem ag3 (T:Txt K mg t):FnOk P w K mg base (CXE P w t.c_TooMany) 19 t.a_standings t.fd_standings ["machine","events"] (c13 K t.c_GraphMachine t.c_TooMany):=by
 have G_GraphMachine_begin:=a52 (P:=P) (w:=w) (base:=base) T
 have G_GraphMachine_over:=a56 (P:=P) (w:=w) (base:=base) T
 have G_GraphMachine_step:=a55 (P:=P) (w:=w) (base:=base) T
 refine T.f_standings.F.okE sc_standings (fun vs H Q E h=>?_) (fun cdv A outer s H vs Q E hr h=>?_)
 · obtain ⟨p,ev,us,es,m,rfl,_⟩:=h
   rfl
 · obtain ⟨p,ev,us,es,m,rfl,hP,q,qe⟩:=h
   refine ⟨_,(@a01 _ _ _ _ _ (@a16 _ _ 2 _ _ _ _ sc_standings.nd rfl (by walk_at "o") (@a30 _ _ _ _ (@a00 _ _ _ _ _ (@a12 _ _ _ _ _ _ _ (a06 K) (ad1 (pv 0) T.cl_GraphMachine T.f_GraphMachine_begin.M G_GraphMachine_begin (hr.mono (by omega)) T.f_GraphMachine_begin.b .nil a27) (@a03 _ _ _ _) (fun _ _=>rfl)) (@a02 _) (by rfl))) (by rfl) (by walk_at "o"))
    (@a01 _ _ _ _ _ (@a16 _ _ 3 _ _ _ _ sc_standings.nd rfl (by walk_at "o") (b08 (P:=w.params) rfl (by exact hr.units) (@a12 _ _ _ _ _ _ _ (a15 K) (pv 2) (@a03 _ _ _ _) (fun _ _=>rfl)) (@ag4 _ _ _ _)) (by rfl) (by walk_at "o"))
    (@a01 _ _ _ _ _ (@a16 _ _ 4 _ _ _ _ sc_standings.nd rfl (by walk_at "o") (@a03 _ _ _ _) (by rfl) (by walk_at "o"))
    (@a01 _ _ _ _ _ (@aa7 _ _ _ _ _ _ PassesOwn.leaving (@a09 _ _ _ _ _ _ _ _ bg3 (pv 4) (@a39 _ _ _ _ _ _ _ _ _ (aa2 K) (by rfl) T.z_len ag1 (@a00 _ _ _ _ _ (pv 2) (@a02 _) (by rfl)) (by decide) (by decide) (by rfl) (by rfl)) (nomark _)) (@a01 _ _ _ _ _ (@af7 _ _ _ _ _ _ _ _ PassesOwn.leaving rfl (a69 K (pv 1)) (a24 (i:=5) sc_standings.nd rfl (by walk_at "o")) (@a01 _ _ _ _ _ (@a16 _ _ 6 _ _ _ _ sc_standings.nd rfl (by walk_at "o") (@a12 _ _ _ _ _ _ _ (a06 K) (a65 (pv 0) T.cl_GraphMachine T.f_GraphMachine_step.M G_GraphMachine_step (hr.mono (by omega)) T.f_GraphMachine_step.b .nil a27 (@a00 _ _ _ _ _ (@a12 _ _ _ _ _ _ _ (a15 K) (pv 2) (pv 4) (fun _ _=>rfl)) (@a00 _ _ _ _ _ (pv 5) (@a02 _) (by rfl)) (by rfl))) (@a03 _ _ _ _) (fun _ _=>rfl)) (by rfl) (by walk_at "o"))
     (@a01 _ _ _ _ _ (@a32 _ _ _ _ _ _ _ _ (az2 (cc5 (P:=w.params) rfl (by exact hr.units) (pv 6) (pv 3))) (@a05 _ _ _ (@av9 _ _)) (@a20 _))
     (@a01 _ _ _ _ _ (@a32 _ _ _ _ _ _ _ _ (@a09 _ _ _ _ _ _ _ _ a60 (@a39 _ _ _ _ _ _ _ _ _ (aa2 K) (by rfl) T.z_len ag1 (@a00 _ _ _ _ _ (pv 2) (@a02 _) (by rfl)) (by decide) (by decide) (by rfl) (by rfl)) (a96 (by rfl) T.m_MOST_STANDINGS (by exact T.r_MOST_STANDINGS)) (nomark _)) (@a05 _ _ _ (b10 PySem.F.excBase_ValueError (by decide +kernel) PySem.F.excBase_ValueError T.xe_TooMany T.m_TooMany rfl (@a00 _ _ _ _ _ (@a22 _ _ _ _) (@a02 _) (by rfl)))) (@a20 _))
     (@a01 _ _ _ _ _ (bb1 (P:=w.params) rfl (by exact hr.units) (pv 3) (pv 6) (@ag4 _ _ _ _) rfl)
     (@a05 _ _ _ (@a49 _ _ _ _ (@a70 _ K _ _ _ _ _ _ _ _ _ _ _ PySem.F.plainAttrs_list PySem.F.slot_list_append PySem.F.type_list_append a40 (pv 2) (@a00 _ _ _ _ _ (pv 6) (@a02 _) (by rfl)) (by rfl) (by rfl) (by rfl) (by rfl) (by rfl) (by rfl)) (by rfl))))))) (by intro _; rfl))
     (@a05 _ _ _ (@bn9 _ _ 4 _ _ _ _ _ _ sc_standings.nd rfl (by walk_at "o") (@a03 _ _ _ _) bo0 (by walk_at "o")))))
    (@a05 _ _ _ (@a17 _ _ _ _ (bh8 (Nt:=["standing"]) (Nf:=["machine"]) (caps:=[0]) rfl (af2 (sc:=a07 ac3) rfl rfl (by decide +kernel) (by decide +kernel) (by decide +kernel) rfl (by decide +kernel)) (a69 K (pv 2)) (fun _ _ _ _ _=>(a24 (i:=0) (show (["standing","machine"]:List Str).Nodup by decide +kernel) rfl (by walk_at "o"))) (fun _ _ _ _ _=>(@ai9 _)) (fun _ _ _ _ _=>(@a19 _ _ _ _ _ (@a00 _ _ _ _ _ (pv 0) (@a00 _ _ _ _ _ (a65 (pv 1) T.cl_GraphMachine T.f_GraphMachine_over.M G_GraphMachine_over (hr.mono (by omega)) T.f_GraphMachine_over.b .nil a27 (@a00 _ _ _ _ _ (pv 0) (@a02 _) (by rfl))) (@a02 _) (by rfl)) (by rfl))))))))))),?_⟩
   have sl:(1000000:Nat)≤sizeLine:=le_line (Nat.le_refl _)
   have hel:=hP.hel
   have hul:us.length=es.length:=ah4 hP.hes
   obtain ⟨dx,fs,g1,g2,_⟩:=hP.ins
   walk_at "go"
   refine ⟨p,dx,fs,rfl,g1,g2,?_⟩
   walk_at "run"
   refine hP.beg fun pb lb vb H1 s1 e1 fb elb hvb=>?_
   walk_at "run"
   refine a23 (SqT.of e1) (a04 (j:=1) rfl) ?_
   walk_at "run"
   intro pf H2 f2 s2 e2
   walk_at "run"
   intro pk o3 f3
   have s3:Same H2 (upd H2 pk o3):=Same.new f3
   have e3:upd H2 pk o3 pk=some o3:=a18
   generalize upd H2 pk o3=H3 at s3 e3 ⊢
   walk_at "run"
   refine a42 (SqL.of (s3 _ _ e2)) (a04 (j:=0) rfl) ?_
   walk_at "run"
   have s02:=s1.trans s2
   refine ⟨e3,sT m.r0,bd6 (a53 hvb (s2.trans s3)),fun o4 hd4=>?_⟩
   have s4:Same H2 (upd H3 pk o4):=s3.updNew f3
   generalize upd H3 pk o4=H4 at hd4 s4 ⊢
   walk_at "run"
   have s04:=s02.trans s4
   have fpf:H pf=none:=s1.free f2
   have fpk:H pk=none:=s02.free f3
   have hne:pf≠pk:=a29 e2 f3
   obtain ⟨W,hW⟩:∃ W:Nat→St→Hp→Prop,W=(fun n σ H'=>∃ (pl:Nat) (row:List SY) (fvs:List V) (y z:Option V),n=2001 - pl∧row.length≤2000∧pl≤row.length∧srL (nxM es m) 2000 (2001 - pl) pl row=srM es m∧RwOk m row∧Same H H'∧H' pf=some (.lst fvs)∧Each (SA H') fvs row∧DtAt w.params H' pk (knF sT row)∧σ=[some (.ref p),some (.ref ev),some (.ref pf),some (.ref pk),some (.int (pl:Nat)),y,z]):=⟨_,rfl⟩
   refine af3 W 2001 ?_ ?_
   · rw [hW]
     exact ⟨0,[m.r0],_,_,_,rfl,by simp,by simp,rfl,fun i r hr=>by
      cases i with
      | zero=>simp at hr; subst hr; exact ⟨hP.k0.1,by rw [hP.k0.2]; exact Nat.le_refl _⟩
      | succ i=>simp at hr,s04,s4 _ _ e2,Each.snoc Each.nil (a53 hvb (s2.trans s4)),hd4,rfl⟩
   intro n σ H5 hI
   rw [hW] at hI
   obtain ⟨pl,row,fvs,y,z,rfl,hrl,hpl,hsr,hok,s5,hpf,hfv,hd5,rfl⟩:=hI
   have hfl:=hfv.1
   walk_at "run"
   refine aj1 (SqL.of hpf) ?_
   walk_at "run"
   rw [hfl]
   refine ite2 (fun hc=>?_) (fun hc=>?_)
   · have hlt:pl<row.length:=by have:=of_decide_eq_true hc; omega
     obtain ⟨k,hk⟩:∃ k,row[pl]?=some k:=⟨_,List.getElem?_eq_getElem hlt⟩
     obtain ⟨hokk,hlvk⟩:=hok pl k hk
     rw [show 2001 - pl=(2001 - (pl+1))+1 by omega,bc3 hk] at hsr
     refine ⟨fun σ' H''=>W (2001 - (pl+1)) σ' H'',fun σ' H'' h=>⟨_,by omega,h⟩,?_⟩
     walk_at "run"
     refine ⟨⟨_,SqL.of (s5 _ _ hP.hev)⟩,ad0 (K:=K) (a:=ev) (xs:=us) (fun j σ H'=>Same H H'∧j≤es.length∧∃ (t':List SY) (fvs:List V) (y z:Option V),(row++t').length≤2000∧RwOk m (row++t')∧addL 2000 (row++t') ((nxM es m k).drop j)=addL 2000 row (nxM es m k)∧H' pf=some (.lst fvs)∧Each (SA H') fvs (row++t')∧DtAt w.params H' pk (knF sT (row++t'))∧σ=[some (.ref p),some (.ref ev),some (.ref pf),some (.ref pk),some (.int (pl:Nat)),y,z]) ⟨s5,Nat.zero_le _,[],fvs,_,_,by simpa using hrl,by simpa using hok,by simp,hpf,by simpa using hfv,by simpa using hd5,rfl⟩ (fun j σ H' _ zz=>by obtain ⟨s',_⟩:=zz; exact SqL.of (s' _ _ hP.hev)) ?_ ?_⟩
     · rintro j v σ H6 hj ⟨s6,hjl,t',fvs,y,z,hrl6,hok6,had,hpf6,hfv6,hd6,rfl⟩
       obtain ⟨e,he,hve⟩:=ah3 (hP.hes.mono s6.tups) hj
       have hj':j<es.length:=(List.getElem?_eq_some_iff.mp he).1
       have hem:=List.mem_of_getElem? he
       obtain ⟨hst,hok',hlv'⟩:=hP.hks k hokk e hem
       rw [bc2 (c12 he)] at had
       obtain ⟨sv,hsv,hsk⟩:=hfv6.get (j:=pl) (x:=k) (by rw [List.getElem?_append_left hlt,hk])
       have P6:=hP.same s6
       obtain ⟨dx6,fs6,g6,_,g7,_⟩:=P6.ins
       walk_at "run"
       refine ⟨p,dx6,_,rfl,g6,g7,?_⟩
       walk_at "run"
       refine a42 (SqL.of hpf6) (a04 hsv) ?_
       walk_at "run"
       refine P6.stp hsk hokk (by omega) hem hve fun p7 l7 v7 H7 s7 e7 f7 el7 hv7=>?_
       walk_at "run"
       refine a23 (SqT.of e7) (a04 (j:=1) rfl) ?_
       walk_at "run"
       have s07:=s6.trans s7
       have hd7:=ap7 hd6 s7
       have hpf7:=s7 _ _ hpf6
       have hfv7:Each (SA H7) fvs (row++t'):=hfv6.mono fun _ _ z=>a53 z s7
       refine ⟨pk,_,sT (m.st k e).2,rfl,hd7,bd6 hv7,?_⟩
       by_cases hm:(m.st k e).2∈row++t'
       · rw [if_pos hm] at had
         rw [bz4 av0 hm]
         refine ⟨true,rfl,iteT ?_⟩
         walk_at "run"
         exact ⟨s07,hj',t',fvs,_,_,hrl6,hok6,had,hpf7,hfv7,hd7,rfl⟩
       · rw [if_neg hm] at had
         rw [cd8 av0 hm]
         refine ⟨false,rfl,iteF ?_⟩
         walk_at "run"
         refine aj1 (SqL.of hpf7) ?_
         walk_at "run"
         rw [hfv7.1]
         by_cases h2:(row++t').length=2000
         · rw [if_pos h2] at had
           refine a26 (by omega) ?_
           walk_at "run"
           exact qe (by rw [← hsr,←had]; rfl) _ s07
         · rw [if_neg h2] at had
           refine a25 (by omega) ?_
           walk_at "run"
           refine ⟨pk,_,sT (m.st k e).2,rfl,hd7,bd6 hv7,by rw [bz6]; omega,fun o8 hd8=>?_⟩
           rw [bz5 av0 hm] at hd8
           obtain ⟨φ,eφ⟩:=hd7.ext
           have t8:=Same.tupsExt (o:=o8) eφ
           have hpf8:upd H7 pk o8 pf=some (.lst fvs):=by rw [a14 hne]; exact hpf7
           have s8:Same H (upd H7 pk o8):=s07.updNew fpk
           have hfv8:Each (SA (upd H7 pk o8)) fvs (row++t'):=hfv7.mono fun _ _ z=>af6 z t8
           have hv8:=af6 hv7 t8
           generalize upd H7 pk o8=H8 at hd8 t8 hpf8 s8 hfv8 hv8 ⊢
           walk_at "run"
           refine aa3 (SqL.of hpf8) ?_
           walk_at "run"
           refine a57 hpf8 (by rw [hfv8.1]; omega) ?_
           have t9:Tups H8 (upd H8 pf (.lst (fvs++[v7]))):=Tups.upd hpf8
           refine ⟨s8.updNew fpf,hj',t'++[(m.st k e).2],fvs++[v7],_,_,?_,?_,?_,a18,?_,?_,rfl⟩
           · rw [← List.append_assoc,List.length_append,List.length_singleton]
             omega
           · rw [← List.append_assoc]
             exact hok6.snoc hok' (by rw [List.length_append]; omega)
           · rw [← List.append_assoc]
             exact had
           · rw [← List.append_assoc]
             exact (hfv8.mono fun _ _ z=>af6 z t9).snoc (af6 hv8 t9)
           · rw [← List.append_assoc]
             exact hd8.mono t9 (a14 hne.symm)
     · rintro σ H6 ⟨s6,hjl,t',fvs,y,z,hrl6,hok6,had,hpf6,hfv6,hd6,rfl⟩
       rw [hul,List.drop_of_length_le (by simp [nxM])] at had
       walk_at "run"
       refine bp7 rfl ?_
       rw [hW]
       exact ⟨pl+1,row++t',fvs,_,_,rfl,hrl6,by rw [List.length_append]; omega,by rw [← hsr,←had]; rfl,hok6,s6,hpf6,hfv6,hd6,rfl⟩
   · have hge:row.length≤pl:=Nat.le_of_not_lt fun z=>hc (decide_eq_true (by omega))
     rw [aq2 hge] at hsr
     walk_at "run"
     refine ⟨⟨_,SqL.of hpf⟩,ap4 (xs:=fvs) (le_line (by omega)) (fun i acc H'=>Same H5 H'∧i≤fvs.length∧Each (FmAt H') acc (row.take i)) ⟨Same.refl _,Nat.zero_le _,Each.nil⟩ (fun i acc H' zz=>by obtain ⟨s',hi,he⟩:=zz; exact ⟨by rw [he.1]; simp; omega,SqL.of (s' _ _ hpf)⟩) ?_ ?_⟩
     · rintro i x acc H6 hx ⟨s6,hi,hE⟩
       have hi':=(List.getElem?_eq_some_iff.mp hx).1
       obtain ⟨r,hr⟩:∃ r,row[i]?=some r:=⟨_,List.getElem?_eq_getElem (by omega)⟩
       have hxr:=a53 (hfv.2 i x r hx hr) s6
       walk_at "run"
       obtain ⟨dx6,fs6,g6,_,_,g7⟩:=(hP.same (s5.trans s6)).ins
       refine ⟨p,dx6,_,rfl,g6,g7,?_⟩
       walk_at "run"
       refine ovr hxr ?_
       walk_at "run"
       intro p7 H7 f7 s7 e7
       refine ⟨s6.trans s7,hi',?_⟩
       rw [List.take_add_one,hr]
       exact (hE.mono fun _ _ z=>bd7 z s7).snoc ⟨p7,x,rfl,e7,a53 hxr s7⟩
     · rintro acc H6 ⟨s6,_,hE⟩ p7 H7 f7 s7 e7
       rw [hfl,List.take_length] at hE
       exact q row hsr.symm hok hrl p7 acc H7 ((s5.trans s6).free f7) ((s5.trans s6).trans s7) e7 (hE.mono fun _ _ z=>bd7 z s7)
abbrev PR:=SY×SY
noncomputable instance prDec:DecidableEq PR:=fun _ _=>Classical.propDecidable _
def mk2 (x y:List Str×SY):Option PR:=if x.1=y.1∧x.2.isNone=y.2.isNone then some (x.2,y.2) else none
def psM (m1 m2:Mc) (p:PR) (e:Tr):Option PR:=mk2 (m1.st p.1 e) (m2.st p.2 e)
def p0M (m1 m2:Mc):Option PR:=mk2 (m1.sd0,m1.r0) (m2.sd0,m2.r0)
def PrA (H:Hp) (v:V) (p:PR):Prop:=∃ k a b,v=.ref k∧H k=some (.tup [a,b])∧SA H a p.1∧SA H b p.2
def PrV (H:Hp) (v:V):Option PR→Prop
 | none=>v=.non
 | some p=>PrA H v p
def pT (p:PR):Tr:=.tup [sT p.1,sT p.2]
theorem bd8 (p q:PR) (h:pT p=pT q):p=q:=by
 simp only [pT,Tr.tup.injEq,List.cons.injEq] at h
 exact Prod.ext (av0 _ _ h.1) (av0 _ _ h.2.1)
theorem a43 {H H':Hp}{v:V}{p:PR}(h:PrA H v p) (s:Tups H H'):PrA H' v p:=by
 obtain ⟨k,a,b,h1,h2,h3,h4⟩:=h
 exact ⟨k,a,b,h1,s _ _ h2,af6 h3 s,af6 h4 s⟩
theorem ay1 {H:Hp}{v:V}{p:PR}(h:PrA H v p):TK H (pT p) v:=by
 obtain ⟨k,a,b,rfl,h2,h3,h4⟩:=h
 refine ⟨aa4 h2 (bd6 h3).1 (bd6 h4).1,?_⟩
 have h1:=sT_h p.1
 have h2:=sT_h p.2
 simp only [pT,Tr.h,Tr.hs]
 omega
theorem nnr (k:Addr):decide (V.ref k=V.non)=false:=decide_eq_false (fun z=>nomatch z)
theorem nnn:decide (V.non=V.non)=true:=decide_eq_true rfl
def bd9 (K:PySem.W.Frag) (C:Addr):Sp:=fun vs H Q _=>∃ (o1 o2 ev t1 t2 l1 l2:Addr) (us:List V) (es:List Tr) (m1 m2:Mc) (a b:V) (x y:List Str×SY),vs=[.ref o1,.ref o2,.ref t1,.ref t2]∧MPre K C H o1 ev us es m1∧MPre K C H o2 ev us es m2∧H t1=some (.tup [.ref l1,a])∧H l1=some (.lst (a34 x.1))∧SA H a x.2∧H t2=some (.tup [.ref l2,b])∧H l2=some (.lst (a34 y.1))∧SA H b y.2∧∀ v H',Same H H'→PrV H' v (mk2 x y)→Q v H'
theorem an9 (T:Txt K mg t):FnOk P w K mg base CX0 2 t.a_pair_of t.fd_pair_of ["one","other","told","told_beside"] (bd9 K t.c_GraphMachine):=by
 have G_GraphMachine_over:=a56 (P:=P) (w:=w) (base:=base) T
 refine T.f_pair_of.F.ok b51 (fun vs H Q E h=>?_) (fun cdv A outer s H vs Q E hr h=>?_)
 · obtain ⟨o1,o2,ev,t1,t2,l1,l2,us,es,m1,m2,a,b,x,y,rfl,_⟩:=h
   rfl
 · obtain ⟨o1,o2,ev,t1,t2,l1,l2,us,es,m1,m2,a,b,x,y,rfl,hT,hP,h1,h2,ha,h3,h4,hb,q⟩:=h
   refine ⟨_,(@a01 _ _ _ _ _ (@a32 _ _ _ _ _ _ _ _ (@PW.pt _ _ _ (@ao3 _ _ _ _ _ _ _ (@a09 _ _ _ _ _ _ _ _ (bw2 K (by exact hr.units0)) (@a12 _ _ _ _ _ _ _ (a06 K) (pv 2) (@a03 _ _ _ _) (fun _ _=>rfl)) (@a12 _ _ _ _ _ _ _ (a06 K) (pv 3) (@a03 _ _ _ _) (fun _ _=>rfl)) (nomark _)) (@ah9 _ _ _ _ (@a09 _ _ _ _ _ _ _ _ b29 (a65 (pv 0) T.cl_GraphMachine T.f_GraphMachine_over.M G_GraphMachine_over (hr.mono (by omega)) T.f_GraphMachine_over.b .nil a27 (@a00 _ _ _ _ _ (@a12 _ _ _ _ _ _ _ (a06 K) (pv 2) (@a03 _ _ _ _) (fun _ _=>rfl)) (@a02 _) (by rfl))) (a65 (pv 1) T.cl_GraphMachine T.f_GraphMachine_over.M G_GraphMachine_over (hr.mono (by omega)) T.f_GraphMachine_over.b .nil a27 (@a00 _ _ _ _ _ (@a12 _ _ _ _ _ _ _ (a06 K) (pv 3) (@a03 _ _ _ _) (fun _ _=>rfl)) (@a02 _) (by rfl))) (nomark _))))) (@a05 _ _ _ (@a17 _ _ _ _ (@a31 _ _ _))) (@a20 _))
    (@a05 _ _ _ (@a17 _ _ _ _ (@a19 _ _ _ _ _ (@a00 _ _ _ _ _ (@a12 _ _ _ _ _ _ _ (a06 K) (pv 2) (@a03 _ _ _ _) (fun _ _=>rfl)) (@a00 _ _ _ _ _ (@a12 _ _ _ _ _ _ _ (a06 K) (pv 3) (@a03 _ _ _ _) (fun _ _=>rfl)) (@a02 _) (by rfl)) (by rfl)))))),?_⟩
   obtain ⟨dx1,fs1,g1,_,_,g2⟩:=hT.ins
   obtain ⟨dx2,fs2,g3,_,_,g4⟩:=hP.ins
   walk_at "go"
   refine a23 (SqT.of h1) (a04 (j:=0) rfl) ?_
   walk_at "run"
   refine a23 (SqT.of h3) (a04 (j:=0) rfl) ?_
   walk_at "run"
   refine ck2 (SqL.of h2) (SqL.of h4) ?_
   walk_at "run"
   by_cases hs:x.1=y.1
   · rw [decide_eq_true hs]
     walk_at "run"
     refine ⟨o1,dx1,fs1,rfl,g1,g2,?_⟩
     walk_at "run"
     refine a23 (SqT.of h1) (a04 (j:=1) rfl) ?_
     walk_at "run"
     refine ovr ha ?_
     walk_at "run"
     refine ⟨o2,dx2,fs2,rfl,g3,g4,?_⟩
     walk_at "run"
     refine a23 (SqT.of h3) (a04 (j:=1) rfl) ?_
     walk_at "run"
     refine ovr hb ?_
     walk_at "run"
     by_cases ho:x.2.isNone=y.2.isNone
     · rw [decide_eq_true ho]
       walk_at "run"
       refine a23 (SqT.of h1) (a04 (j:=1) rfl) ?_
       walk_at "run"
       refine a23 (SqT.of h3) (a04 (j:=1) rfl) ?_
       walk_at "run"
       intro p5 H5 f5 s5 e5
       refine q _ H5 s5 ?_
       rw [mk2,if_pos ⟨hs,ho⟩]
       exact ⟨p5,a,b,rfl,e5,a53 ha s5,a53 hb s5⟩
     · rw [decide_eq_false ho]
       walk_at "run"
       refine q _ H (Same.refl _) ?_
       rw [mk2,if_neg fun z=>ho z.2]
       rfl
   · rw [decide_eq_false hs]
     walk_at "run"
     refine q _ H (Same.refl _) ?_
     rw [mk2,if_neg fun z=>hs z.1]
     rfl
def bm4 (K:PySem.W.Frag) (C:Addr):Sp:=fun vs H Q _=>∃ (o1 o2 ev:Addr) (us:List V) (es:List Tr) (m1 m2:Mc),vs=[.ref o1,.ref o2]∧MPre K C H o1 ev us es m1∧MPre K C H o2 ev us es m2∧∀ v H',Same H H'→PrV H' v (p0M m1 m2)→Q v H'
theorem aq7 (T:Txt K mg t):FnOk P w K mg base CX0 19 t.a_begun_pair t.fd_begun_pair ["one","other"] (bm4 K t.c_GraphMachine):=by
 have G_GraphMachine_begin:=a52 (P:=P) (w:=w) (base:=base) T
 have G_pair_of:=an9 (P:=P) (w:=w) (base:=base) T
 refine T.f_begun_pair.F.ok sc_begun_pair (fun vs H Q E h=>?_) (fun cdv A outer s H vs Q E hr h=>?_)
 · obtain ⟨o1,o2,ev,us,es,m1,m2,rfl,_⟩:=h
   rfl
 · obtain ⟨o1,o2,ev,us,es,m1,m2,rfl,hT,hP,q⟩:=h
   refine ⟨_,(@a01 _ _ _ _ _ (@a16 _ _ 2 _ _ _ _ sc_begun_pair.nd rfl (by walk_at "o") (ad1 (pv 0) T.cl_GraphMachine T.f_GraphMachine_begin.M G_GraphMachine_begin (hr.mono (by omega)) T.f_GraphMachine_begin.b .nil a27) (by rfl) (by walk_at "o"))
    (@a01 _ _ _ _ _ (@a16 _ _ 3 _ _ _ _ sc_begun_pair.nd rfl (by walk_at "o") (@a33 _ _ _ _ _ _ _ _ _ (ad8 K) (by rfl) T.z_list ac5 (@a00 _ _ _ _ _ (@a12 _ _ _ _ _ _ _ (a06 K) (pv 2) (@a03 _ _ _ _) (fun _ _=>rfl)) (@a02 _) (by rfl)) (by decide) (by decide) (by rfl) (by rfl)) (by rfl) (by walk_at "o"))
    (@a05 _ _ _ (@a17 _ _ _ _ (@a21 _ _ _ _ _ _ _ _ _ _ _ _ _ _ _ _ G_pair_of (hr.mono (by omega)) rfl T.f_pair_of.m T.f_pair_of.F.kp T.f_pair_of.b .nil a27 (@a00 _ _ _ _ _ (pv 0) (@a00 _ _ _ _ _ (pv 1) (@a00 _ _ _ _ _ (@a19 _ _ _ _ _ (@a00 _ _ _ _ _ (pv 3) (@a00 _ _ _ _ _ (@a12 _ _ _ _ _ _ _ (a06 K) (pv 2) (@a03 _ _ _ _) (fun _ _=>rfl)) (@a02 _) (by rfl)) (by rfl))) (@a00 _ _ _ _ _ (ad1 (pv 1) T.cl_GraphMachine T.f_GraphMachine_begin.M G_GraphMachine_begin (hr.mono (by omega)) T.f_GraphMachine_begin.b .nil a27) (@a02 _) (by rfl)) (by rfl)) (by rfl)) (by rfl)) (by decide) (by rfl) (by rfl)))))),?_⟩
   obtain ⟨dx1,fs1,g1,g2,_⟩:=hT.ins
   walk_at "go"
   refine ⟨o1,dx1,fs1,rfl,g1,g2,?_⟩
   walk_at "run"
   refine hT.beg fun k l v1 H1 s1 e1 f1 e1' hv1=>?_
   walk_at "run"
   refine a23 (SqT.of e1) (a04 (j:=0) rfl) ?_
   walk_at "run"
   refine ap5 (SqL.of e1') ?_
   intro l2 H2 f2 s2 e2
   walk_at "run"
   refine a23 (SqT.of (s2 _ _ e1)) (a04 (j:=1) rfl) ?_
   walk_at "run"
   intro t3 H3 f3 s3 e3
   have s03:=s1.trans (s2.trans s3)
   have hP3:=hP.same s03
   obtain ⟨dx2,fs2,g3,g4,_⟩:=hP3.ins
   walk_at "run"
   refine ⟨o2,dx2,fs2,rfl,g3,g4,?_⟩
   walk_at "run"
   refine hP3.beg fun k4 l4 v4 H4 s4 e4 f4 e4' hv4=>?_
   exact ⟨o1,o2,ev,t3,k4,l2,l4,us,es,m1,m2,v1,v4,(m1.sd0,m1.r0),(m2.sd0,m2.r0),rfl,hT.same (s03.trans s4),hP3.same s4,s4 _ _ e3,(s3.trans s4) _ _ e2,a53 hv1 (s2.trans (s3.trans s4)),e4,e4',hv4,fun v H5 s5 hv=>q v H5 (s03.trans (s4.trans s5)) hv⟩
def be0 (K:PySem.W.Frag) (C:Addr):Sp:=fun vs H Q _=>∃ (o1 o2 ev:Addr) (us:List V) (es:List Tr) (m1 m2:Mc) (qv v:V) (p:PR) (e:Tr),vs=[.ref o1,.ref o2,qv,v]∧MPre K C H o1 ev us es m1∧MPre K C H o2 ev us es m2∧PrA H qv p∧m1.ok p.1∧m1.lev p.1≤5000∧m2.ok p.2∧m2.lev p.2≤5000∧e∈es∧e.AtK K H v∧∀ v' H',Same H H'→PrV H' v' (psM m1 m2 p e)→Q v' H'
theorem ak4 (T:Txt K mg t):FnOk P w K mg base CX0 19 t.a_stepped_pair t.fd_stepped_pair ["one","other","pair","event"] (be0 K t.c_GraphMachine):=by
 have G_GraphMachine_step:=a55 (P:=P) (w:=w) (base:=base) T
 have G_pair_of:=an9 (P:=P) (w:=w) (base:=base) T
 refine T.f_stepped_pair.F.ok sc_stepped_pair (fun vs H Q E h=>?_) (fun cdv A outer s H vs Q E hr h=>?_)
 · obtain ⟨o1,o2,ev,us,es,m1,m2,qv,v,p,e,rfl,_⟩:=h
   rfl
 · obtain ⟨o1,o2,ev,us,es,m1,m2,qv,v,p,e,rfl,hT,hP,hp,k1,k2,k3,k4,hem,hev,q⟩:=h
   refine ⟨_,(@a01 _ _ _ _ _ (@a16 _ _ 4 _ _ _ _ sc_stepped_pair.nd rfl (by walk_at "o") (a65 (pv 0) T.cl_GraphMachine T.f_GraphMachine_step.M G_GraphMachine_step (hr.mono (by omega)) T.f_GraphMachine_step.b .nil a27 (@a00 _ _ _ _ _ (@a12 _ _ _ _ _ _ _ (a06 K) (pv 2) (@a03 _ _ _ _) (fun _ _=>rfl)) (@a00 _ _ _ _ _ (pv 3) (@a02 _) (by rfl)) (by rfl))) (by rfl) (by walk_at "o"))
    (@a01 _ _ _ _ _ (@a16 _ _ 5 _ _ _ _ sc_stepped_pair.nd rfl (by walk_at "o") (@a33 _ _ _ _ _ _ _ _ _ (ad8 K) (by rfl) T.z_list ac5 (@a00 _ _ _ _ _ (@a12 _ _ _ _ _ _ _ (a06 K) (pv 4) (@a03 _ _ _ _) (fun _ _=>rfl)) (@a02 _) (by rfl)) (by decide) (by decide) (by rfl) (by rfl)) (by rfl) (by walk_at "o"))
    (@a05 _ _ _ (@a17 _ _ _ _ (@a21 _ _ _ _ _ _ _ _ _ _ _ _ _ _ _ _ G_pair_of (hr.mono (by omega)) rfl T.f_pair_of.m T.f_pair_of.F.kp T.f_pair_of.b .nil a27 (@a00 _ _ _ _ _ (pv 0) (@a00 _ _ _ _ _ (pv 1) (@a00 _ _ _ _ _ (@a19 _ _ _ _ _ (@a00 _ _ _ _ _ (pv 5) (@a00 _ _ _ _ _ (@a12 _ _ _ _ _ _ _ (a06 K) (pv 4) (@a03 _ _ _ _) (fun _ _=>rfl)) (@a02 _) (by rfl)) (by rfl))) (@a00 _ _ _ _ _ (a65 (pv 1) T.cl_GraphMachine T.f_GraphMachine_step.M G_GraphMachine_step (hr.mono (by omega)) T.f_GraphMachine_step.b .nil a27 (@a00 _ _ _ _ _ (@a12 _ _ _ _ _ _ _ (a06 K) (pv 2) (@a03 _ _ _ _) (fun _ _=>rfl)) (@a00 _ _ _ _ _ (pv 3) (@a02 _) (by rfl)) (by rfl))) (@a02 _) (by rfl)) (by rfl)) (by rfl)) (by rfl)) (by decide) (by rfl) (by rfl)))))),?_⟩
   obtain ⟨pk,a,b,rfl,hp,ha,hb⟩:=hp
   obtain ⟨dx1,fs1,g1,_,g2,_⟩:=hT.ins
   walk_at "go"
   refine ⟨o1,dx1,fs1,rfl,g1,g2,?_⟩
   walk_at "run"
   refine a23 (SqT.of hp) (a04 (j:=0) rfl) ?_
   walk_at "run"
   refine hT.stp ha k1 k2 hem hev fun k l v1 H1 s1 e1 f1 e1' hv1=>?_
   walk_at "run"
   refine a23 (SqT.of e1) (a04 (j:=0) rfl) ?_
   walk_at "run"
   refine ap5 (SqL.of e1') ?_
   intro l2 H2 f2 s2 e2
   walk_at "run"
   refine a23 (SqT.of (s2 _ _ e1)) (a04 (j:=1) rfl) ?_
   walk_at "run"
   intro t3 H3 f3 s3 e3
   have s03:=s1.trans (s2.trans s3)
   have hP3:=hP.same s03
   obtain ⟨dx2,fs2,g3,_,g4,_⟩:=hP3.ins
   walk_at "run"
   refine ⟨o2,dx2,fs2,rfl,g3,g4,?_⟩
   walk_at "run"
   refine a23 (SqT.of (s03 _ _ hp)) (a04 (j:=1) rfl) ?_
   walk_at "run"
   refine hP3.stp (a53 hb s03) k3 k4 hem (hev.mono s03.tups) fun k4 l4 v4 H4 s4 e4 f4 e4' hv4=>?_
   exact ⟨o1,o2,ev,t3,k4,l2,l4,us,es,m1,m2,v1,v4,_,_,rfl,hT.same (s03.trans s4),hP3.same s4,s4 _ _ e3,(s3.trans s4) _ _ e2,a53 hv1 (s2.trans (s3.trans s4)),e4,e4',hv4,fun v H5 s5 hv=>q v H5 (s03.trans (s4.trans s5)) hv⟩
def WyV (K:PySem.W.Frag) (H:Hp) (v:V):Wy PR→Prop
 | none=>v=.non
 | some x=>∃ q a b,v=.ref q∧H q=some (.tup [a,b])∧PrA H a x.1∧x.2.AtK K H b
theorem ac7 {K:PySem.W.Frag}{H H':Hp}{v:V}{w:Wy PR}(h:WyV K H v w) (s:Tups H H'):WyV K H' v w:=by
 cases w with
 | none=>exact h
 | some x =>
   obtain ⟨q,a,b,h1,h2,h3,h4⟩:=h
   exact ⟨q,a,b,h1,s _ _ h2,a43 h3 s,h4.mono s⟩
abbrev FL:=List (PR×Wy PR)
structure WyAt (K:PySem.W.Frag) (P:Params) (H:Hp) (wd:Addr) (F:FL):Prop where
 ex:∃ kvs,DtAt P H wd kvs∧kvs.length≤F.length∧(∀ p,(valV kvs (pT p)).isSome=true↔p∈F.map (·.1))∧∀ x w,(x,w)∈F→∃ v,valV kvs (pT x)=some v∧WyV K H v w
theorem WyAt.mono {K:PySem.W.Frag}{P:Params}{H H':Hp}{wd:Addr}{F:FL}(h:WyAt K P H wd F) (s:Tups H H') (e:H' wd=H wd):WyAt K P H' wd F:=by
 obtain ⟨kvs,k1,k2,k3,k4⟩:=h.ex
 refine ⟨kvs,k1.mono s e,k2,k3,fun x w hx=>?_⟩
 obtain ⟨v,z1,z2⟩:=k4 x w hx
 exact ⟨v,z1,ac7 z2 s⟩
theorem WyAt.same {K:PySem.W.Frag}{P:Params}{H H':Hp}{wd:Addr}{F:FL}(h:WyAt K P H wd F) (s:Same H H'):WyAt K P H' wd F:=by
 obtain ⟨kvs,k1,k2,k3,k4⟩:=h.ex
 refine ⟨kvs,ap7 k1 s,k2,k3,fun x w hx=>?_⟩
 obtain ⟨v,z1,z2⟩:=k4 x w hx
 exact ⟨v,z1,ac7 z2 s.tups⟩
def EvA (K:PySem.W.Frag) (H:Hp) (v:V) (e:Tr):Prop:=e.AtK K H v
theorem b17 {α β:Type}{R:α→β→Prop}:∀ {vs:List α}{xs:List β},Each R vs xs→Each R vs.reverse xs.reverse
 | [],[],_=>.nil
 | v::vs,x::xs,h=>by
   rw [List.reverse_cons,List.reverse_cons]
   exact (b17 ⟨by simpa using h.1,fun j a b h1 h2=>h.2 (j+1) a b h1 h2⟩).snoc (h.2 0 v x rfl rfl)
 | [],x::xs,h=>by simp [Each] at h
 | v::vs,[],h=>by simp [Each] at h
def bm5 (K:PySem.W.Frag) (P:Params):Sp:=fun vs H Q _=>∃ (wd:Addr) (v:V) (F:FL) (w:Wy PR) (ws:List Tr),vs=[.ref wd,v]∧WyAt K P H wd F∧WyV K H v w∧ChP F w ws∧ws.length≤10000 ∧
 ∀ l vs H',H l=none→Same H H'→H' l=some (.lst vs)→Each (EvA K H') vs ws.reverse→Q (.ref l) H'
theorem be1 (T:Txt K mg t):FnOk P w K mg base CX0 1 t.a_row_by t.fd_row_by ["ways","way"] (bm5 K w.params):=by
 refine T.f_row_by.F.ok sc_row_by (fun vs H Q E h=>?_) (fun cdv A outer s H vs Q E hr h=>?_)
 · obtain ⟨wd,v,F,w0,ws,rfl,_⟩:=h
   rfl
 · obtain ⟨wd,v,F,w0,ws,rfl,hW,hv,hc,hjl,q⟩:=h
   refine ⟨_,(@a01 _ _ _ _ _ (@a16 _ _ 2 _ _ _ _ sc_row_by.nd rfl (by walk_at "o") (@a30 _ _ _ _ (@a02 _)) (by rfl) (by walk_at "o"))
    (@a01 _ _ _ _ _ (@aa7 _ _ _ _ _ _ PassesOwn.never (@a09 _ _ _ _ _ _ _ _ ab0 (pv 1) (@a31 _ _ _) (nomark _)) (@a01 _ _ _ _ _ (@a49 _ _ _ _ (@a70 _ K _ _ _ _ _ _ _ _ _ _ _ PySem.F.plainAttrs_list PySem.F.slot_list_append PySem.F.type_list_append a40 (pv 2) (@a00 _ _ _ _ _ (@a12 _ _ _ _ _ _ _ (a06 K) (pv 1) (@a03 _ _ _ _) (fun _ _=>rfl)) (@a02 _) (by rfl)) (by rfl) (by rfl) (by rfl) (by rfl) (by rfl) (by rfl)) (by rfl))
     (@a05 _ _ _ (@a16 _ _ 1 _ _ _ _ sc_row_by.nd rfl (by walk_at "o") (bx4 (P:=w.params) rfl (by exact hr.units) (pv 0) (@a12 _ _ _ _ _ _ _ (a06 K) (pv 1) (@a03 _ _ _ _) (fun _ _=>rfl)) (fun _ _=>rfl)) (by rfl) (by walk_at "o")))))
    (@a01 _ _ _ _ _ (@a49 _ _ _ _ (aw7 K PySem.F.plainAttrs_list PySem.F.slot_list_reverse PySem.F.type_list_reverse b40 (pv 2)) (by rfl))
    (@a05 _ _ _ (@a17 _ _ _ _ (pv 2)))))),?_⟩
   have sl:(1000000:Nat)≤sizeLine:=le_line (Nat.le_refl _)
   walk_at "go"
   intro pr H1 f1 s1 e1
   walk_at "run"
   refine af3 (fun n σ H'=>Same H H'∧∃ v w ws' dn vs,σ=[some (.ref wd),some v,some (.ref pr)]∧n=ws'.length∧WyV K H' v w∧ChP F w ws'∧ws=dn++ws'∧H' pr=some (.lst vs)∧Each (EvA K H') vs dn) ws.length ⟨s1,v,w0,ws,[],[],rfl,rfl,ac7 hv s1.tups,hc,rfl,e1,.nil⟩ ?_
   rintro n σ H2 ⟨s2,v2,w2,ws2,dn,vs2,rfl,rfl,hv2,hc2,hjs,hp2,he2⟩
   have hl:vs2.length≤10000:=by
    rw [he2.1]
    rw [hjs,List.length_append] at hjl
    omega
   walk_at "run"
   cases w2 with
   | none =>
     obtain rfl:v2=.non:=hv2
     refine at7 rfl ?_
     cases hc2
     rw [List.append_nil] at hjs
     subst hjs
     walk_at "run"
     refine aa3 (SqL.of hp2) ?_
     refine ⟨pr,vs2,rfl,rfl,hp2,?_⟩
     walk_at "run"
     have t9:=Tups.upd (o:=.lst vs2.reverse) hp2
     exact q pr _ _ f1 (s2.updNew f1) a18 ((b17 he2).mono fun _ _ z=>Tr.AtK.mono z t9)
   | some x =>
     obtain ⟨p,e⟩:=x
     obtain ⟨qa,qv,u,rfl,hq,hpv,hu⟩:=hv2
     refine an3 (by simp) ?_
     cases hc2 with
     | @cons _ _ w3 ws3 hw3 hc3 =>
     refine ⟨fun σ' H'=>Same H H'∧∃ v3,σ'=[some (.ref wd),some v3,some (.ref pr)]∧WyV K H' v3 w3∧H' pr=some (.lst (vs2++[u]))∧Each (EvA K H') (vs2++[u]) (dn++[e]),fun σ' H' ⟨s',v3,e',h1,h2,h3⟩=>⟨ws3.length,by simp,s',v3,w3,ws3,dn++[e],vs2++[u],e',rfl,h1,hc3,by rw [hjs]; simp,h2,h3⟩,?_⟩
     walk_at "run"
     refine aa3 (SqL.of hp2) ?_
     walk_at "run"
     refine a23 (SqT.of hq) (a04 (j:=1) rfl) ?_
     walk_at "run"
     refine a57 hp2 (by omega) ?_
     have s3:Same H (upd H2 pr (.lst (vs2++[u]))):=s2.updNew f1
     have t3:Tups H2 (upd H2 pr (.lst (vs2++[u]))):=Tups.upd hp2
     have e3:upd H2 pr (.lst (vs2++[u])) pr=some (.lst (vs2++[u])):=a18
     generalize upd H2 pr (.lst (vs2++[u]))=H3 at s3 t3 e3
     obtain ⟨kvs,k1,k2,k3,k4⟩:=(hW.same s3).ex
     obtain ⟨v3,k5,k6⟩:=k4 p w3 hw3
     walk_at "run"
     refine a23 (SqT.of (t3 _ _ hq)) (a04 (j:=0) rfl) ?_
     refine ⟨wd,kvs,pT p,v3,rfl,k1,ay1 (a43 hpv t3),k5,?_⟩
     walk_at "run"
     exact ⟨s3,v3,rfl,k6,e3,((he2.mono fun _ _ z=>Tr.AtK.mono z t3).snoc (Tr.AtK.mono hu t3))⟩
noncomputable def grM (es:List Tr) (m1 m2:Mc) (x0:PR):Option (FL×Wy PR):=goP (psM m1 m2) es 2000 2001 0 ([(x0,none)],none)
def RpOk (m1 m2:Mc) (F:FL):Prop:=∀ (i:Nat) (x:PR×Wy PR),F[i]?=some x→(m1.ok x.1.1∧m1.lev x.1.1≤i)∧m2.ok x.1.2∧m2.lev x.1.2≤i
theorem RpOk.snoc {m1 m2:Mc}{F:FL}{y:PR}{w:Wy PR}(h:RpOk m1 m2 F) (h1:m1.ok y.1∧m1.lev y.1≤F.length) (h2:m2.ok y.2∧m2.lev y.2≤F.length):RpOk m1 m2 (F++[(y,w)]):=fun i x hx=>by
 by_cases hi:i<F.length
 · rw [List.getElem?_append_left hi] at hx
   exact h i x hx
 · have hie:i=F.length:=by
    have:=(List.getElem?_eq_some_iff.mp hx).1
    rw [List.length_append,List.length_singleton] at this
    omega
   subst hie
   rw [List.getElem?_append_right (Nat.le_refl _)] at hx
   simp at hx
   subst hx
   exact ⟨h1,h2⟩
theorem ah5 {x y:List Str×SY}{p:PR}(h:mk2 x y=some p):p=(x.2,y.2):=by
 unfold mk2 at h
 split at h
 · exact (Option.some.inj h).symm
 · cases h
theorem WyAt.put {K:PySem.W.Frag}{P:Params}{H H':Hp}{wd:Addr}{F:FL}{kvs:List (Tr×V)}{y:PR}{w:Wy PR}{v:V}(k2:kvs.length≤F.length) (k3:∀ p,(valV kvs (pT p)).isSome=true↔p∈F.map (·.1)) (k4:∀ x w,(x,w)∈F→∃ v,valV kvs (pT x)=some v∧WyV K H v w) (hy:y∉F.map (·.1)) (hd:DtAt P H' wd (putK kvs (pT y) v)) (t:Tups H H') (hv:WyV K H' v w):WyAt K P H' wd (F++[(y,w)]):=by
 refine ⟨_,hd,?_,fun p=>?_,fun x w' hx=>?_⟩
 · have:=a88 kvs (pT y) v
   rw [List.length_append,List.length_singleton]
   omega
 · rw [ap0,List.map_append,List.mem_append]
   by_cases h:pT p=pT y
   · rw [if_pos h,bd8 _ _ h]
     simp
   · rw [if_neg h,k3]
     constructor
     · exact .inl
     · rintro (z | z)
       · exact z
       · simp only [List.map_cons,List.map_nil,List.mem_singleton] at z
         exact absurd (by rw [z]) h
 · rw [ap0]
   rcases List.mem_append.mp hx with hx | hx
   · have hne:pT x≠pT y:=fun z=>hy (by rw [← bd8 _ _ z]; exact List.mem_map.mpr ⟨_,hx,rfl⟩)
     rw [if_neg hne]
     obtain ⟨v',z1,z2⟩:=k4 x w' hx
     exact ⟨v',z1,ac7 z2 t⟩
   · simp only [List.mem_singleton,Prod.mk.injEq] at hx
     rw [hx.1,hx.2,if_pos rfl]
     exact ⟨v,rfl,hv⟩
structure GoneAt (K:PySem.W.Frag) (H:Hp) (s:FL×Wy PR) (pf:Addr) (v:V):Prop where
 f:∃ fvs,H pf=some (.lst fvs)∧Each (PrA H) fvs (s.1.map (·.1))
 n:s.2=none→v=.non
 w:∀ x,s.2=some x→∃ l us ws,v=.ref l∧H l=some (.lst us)∧ChP s.1 (some x) ws∧Each (EvA K H) us ws.reverse
def c14 (K:PySem.W.Frag) (C Cx:Addr):Sp:=fun vs H Q E=>∃ (o1 o2 ev:Addr) (us:List V) (es:List Tr) (m1 m2:Mc),vs=[.ref o1,.ref o2,.ref ev]∧MPre K C H o1 ev us es m1∧MPre K C H o2 ev us es m2 ∧
 (srM es m1=none∨srM es m2=none→∀ H',Same H H'→E (.ref Cx) none H') ∧
 (srM es m1≠none→srM es m2≠none →
  (p0M m1 m2=none→∀ tt pf pr H',Same H H'→H' tt=some (.tup [.ref pf,.ref pr])→H' pf=some (.lst [])→H' pr=some (.lst [])→H pf=none→H pr=none→Q (.ref tt) H') ∧
  (∀ x0,p0M m1 m2=some x0→(grM es m1 m2 x0=none→∀ H',Same H H'→E (.ref Cx) none H') ∧
   (∀ s,grM es m1 m2 x0=some s→FdOk (psM m1 m2) x0 2000 s→RpOk m1 m2 s.1→∀ tt pf v H',Same H H'→H' tt=some (.tup [.ref pf,v])→H pf=none→(∀ l,v=.ref l→H l=none)→GoneAt K H' s pf v→Q (.ref tt) H')))
theorem ak5 (T:Txt K mg t):FnOk P w K mg base (CXE P w t.c_TooMany) 20 t.a_gone_through t.fd_gone_through ["one","other","events"] (c14 K t.c_GraphMachine t.c_TooMany):=by
 have G_begun_pair:=aq7 (P:=P) (w:=w) (base:=base) T
 have G_row_by:=be1 (P:=P) (w:=w) (base:=base) T
 have G_standings:=ag3 (P:=P) (w:=w) (base:=base) T
 have G_stepped_pair:=ak4 (P:=P) (w:=w) (base:=base) T
 refine T.f_gone_through.F.okE sc_gone_through (fun vs H Q E h=>?_) (fun cdv A outer s H vs Q E hr h=>?_)
 · obtain ⟨o1,o2,ev,us,es,m1,m2,rfl,_⟩:=h
   rfl
 · obtain ⟨o1,o2,ev,us,es,m1,m2,rfl,hT,hP,qe,q⟩:=h
   refine ⟨_,(@a01 _ _ _ _ _ (@a49 _ _ _ _ (@a21 _ _ _ _ _ _ _ _ _ _ _ _ _ _ _ _ G_standings (hr.mono (by omega)) rfl T.f_standings.m T.f_standings.F.kp T.f_standings.b .nil aq0 (@a00 _ _ _ _ _ (pv 0) (@a00 _ _ _ _ _ (pv 2) (@a02 _) (by rfl)) (by rfl)) (by decide) (by rfl) (by rfl)) (by rfl))
    (@a01 _ _ _ _ _ (@a49 _ _ _ _ (@a21 _ _ _ _ _ _ _ _ _ _ _ _ _ _ _ _ G_standings (hr.mono (by omega)) rfl T.f_standings.m T.f_standings.F.kp T.f_standings.b .nil aq0 (@a00 _ _ _ _ _ (pv 1) (@a00 _ _ _ _ _ (pv 2) (@a02 _) (by rfl)) (by rfl)) (by decide) (by rfl) (by rfl)) (by rfl))
    (@a01 _ _ _ _ _ (@a16 _ _ 3 _ _ _ _ sc_gone_through.nd rfl (by walk_at "o") (@a21 _ _ _ _ _ _ _ _ _ _ _ _ _ _ _ _ G_begun_pair (hr.mono (by omega)) rfl T.f_begun_pair.m T.f_begun_pair.F.kp T.f_begun_pair.b .nil a27 (@a00 _ _ _ _ _ (pv 0) (@a00 _ _ _ _ _ (pv 1) (@a02 _) (by rfl)) (by rfl)) (by decide) (by rfl) (by rfl)) (by rfl) (by walk_at "o"))
    (@a01 _ _ _ _ _ (@a32 _ _ _ _ _ _ _ _ (@a09 _ _ _ _ _ _ _ _ a71 (pv 3) (@a31 _ _ _) (nomark _)) (@a05 _ _ _ (@a17 _ _ _ _ (@a19 _ _ _ _ _ (@a00 _ _ _ _ _ (@a30 _ _ _ _ (@a02 _)) (@a00 _ _ _ _ _ (@a30 _ _ _ _ (@a02 _)) (@a02 _) (by rfl)) (by rfl))))) (@a20 _))
    (@a01 _ _ _ _ _ (@a16 _ _ 4 _ _ _ _ sc_gone_through.nd rfl (by walk_at "o") (@a30 _ _ _ _ (@a00 _ _ _ _ _ (pv 3) (@a02 _) (by rfl))) (by rfl) (by walk_at "o"))
    (@a01 _ _ _ _ _ (@a16 _ _ 5 _ _ _ _ sc_gone_through.nd rfl (by walk_at "o") (b08 (P:=w.params) rfl (by exact hr.units) (pv 3) (@a31 _ _ _)) (by rfl) (by walk_at "o"))
    (@a01 _ _ _ _ _ (@a16 _ _ 6 _ _ _ _ sc_gone_through.nd rfl (by walk_at "o") (@a31 _ _ _) (by rfl) (by walk_at "o"))
    (@a01 _ _ _ _ _ (@a16 _ _ 7 _ _ _ _ sc_gone_through.nd rfl (by walk_at "o") (@a03 _ _ _ _) (by rfl) (by walk_at "o"))
    (@a01 _ _ _ _ _ (@aa7 _ _ _ _ _ _ PassesOwn.leaving (@a09 _ _ _ _ _ _ _ _ bg3 (pv 7) (@a39 _ _ _ _ _ _ _ _ _ (aa2 K) (by rfl) T.z_len ag1 (@a00 _ _ _ _ _ (pv 4) (@a02 _) (by rfl)) (by decide) (by decide) (by rfl) (by rfl)) (nomark _)) (@a01 _ _ _ _ _ (@af7 _ _ _ _ _ _ _ _ PassesOwn.leaving rfl (a69 K (pv 2)) (a24 (i:=8) sc_gone_through.nd rfl (by walk_at "o")) (@a01 _ _ _ _ _ (@a16 _ _ 9 _ _ _ _ sc_gone_through.nd rfl (by walk_at "o") (@a21 _ _ _ _ _ _ _ _ _ _ _ _ _ _ _ _ G_stepped_pair (hr.mono (by omega)) rfl T.f_stepped_pair.m T.f_stepped_pair.F.kp T.f_stepped_pair.b .nil a27 (@a00 _ _ _ _ _ (pv 0) (@a00 _ _ _ _ _ (pv 1) (@a00 _ _ _ _ _ (@a12 _ _ _ _ _ _ _ (a15 K) (pv 4) (pv 7) (fun _ _=>rfl)) (@a00 _ _ _ _ _ (pv 8) (@a02 _) (by rfl)) (by rfl)) (by rfl)) (by rfl)) (by decide) (by rfl) (by rfl)) (by rfl) (by walk_at "o"))
     (@a62 _ _ _ _ _ (@a32 _ _ _ _ _ _ _ _ (@PW.pt _ _ _ (@ac9 _ _ _ _ _ _ _ (@a09 _ _ _ _ _ _ _ _ a71 (pv 9) (@a31 _ _ _) (nomark _)) (@a97 _ _ _ _ (@a09 _ _ _ _ _ _ _ _ a71 (pv 6) (@a31 _ _ _) (nomark _))))) (@a05 _ _ _ (@a16 _ _ 6 _ _ _ _ sc_gone_through.nd rfl (by walk_at "o") (@a19 _ _ _ _ _ (@a00 _ _ _ _ _ (@a12 _ _ _ _ _ _ _ (a15 K) (pv 4) (pv 7) (fun _ _=>rfl)) (@a00 _ _ _ _ _ (pv 8) (@a02 _) (by rfl)) (by rfl))) (by rfl) (by walk_at "o"))) (@a20 _))
     (@a05 _ _ _ (@a32 _ _ _ _ _ _ _ _ (@PW.pt _ _ _ (@ac9 _ _ _ _ _ _ _ (@a09 _ _ _ _ _ _ _ _ ab0 (pv 9) (@a31 _ _ _) (nomark _)) (@a97 _ _ _ _ (az2 (bb0 (P:=w.params) rfl (by exact hr.units) (pv 9) (pv 5)))))) (@a01 _ _ _ _ _ (@a32 _ _ _ _ _ _ _ _ (@a09 _ _ _ _ _ _ _ _ a60 (@a39 _ _ _ _ _ _ _ _ _ (aa2 K) (by rfl) T.z_len ag1 (@a00 _ _ _ _ _ (pv 4) (@a02 _) (by rfl)) (by decide) (by decide) (by rfl) (by rfl)) (a96 (by rfl) T.m_MOST_STANDINGS (by exact T.r_MOST_STANDINGS)) (nomark _)) (@a05 _ _ _ (b10 PySem.F.excBase_ValueError (by decide +kernel) PySem.F.excBase_ValueError T.xe_TooMany T.m_TooMany rfl (@a00 _ _ _ _ _ (@a22 _ _ _ _) (@a02 _) (by rfl)))) (@a20 _))
      (@a01 _ _ _ _ _ (bb1 (P:=w.params) rfl (by exact hr.units) (pv 5) (pv 9) (@a19 _ _ _ _ _ (@a00 _ _ _ _ _ (@a12 _ _ _ _ _ _ _ (a15 K) (pv 4) (pv 7) (fun _ _=>rfl)) (@a00 _ _ _ _ _ (pv 8) (@a02 _) (by rfl)) (by rfl))) rfl)
      (@a05 _ _ _ (@a49 _ _ _ _ (@a70 _ K _ _ _ _ _ _ _ _ _ _ _ PySem.F.plainAttrs_list PySem.F.slot_list_append PySem.F.type_list_append a40 (pv 4) (@a00 _ _ _ _ _ (pv 9) (@a02 _) (by rfl)) (by rfl) (by rfl) (by rfl) (by rfl) (by rfl) (by rfl)) (by rfl))))) (@a20 _))))) (by intro _; rfl))
     (@a05 _ _ _ (@bn9 _ _ 7 _ _ _ _ _ _ sc_gone_through.nd rfl (by walk_at "o") (@a03 _ _ _ _) bo0 (by walk_at "o")))))
    (@a05 _ _ _ (@a17 _ _ _ _ (@a19 _ _ _ _ _ (@a00 _ _ _ _ _ (pv 4) (@a00 _ _ _ _ _ (@ah0 _ _ _ _ _ _ _ _ (@a09 _ _ _ _ _ _ _ _ a71 (pv 6) (@a31 _ _ _) (nomark _)) (@a31 _ _ _) (@a21 _ _ _ _ _ _ _ _ _ _ _ _ _ _ _ _ G_row_by (hr.mono (by omega)) rfl T.f_row_by.m T.f_row_by.F.kp T.f_row_by.b .nil a27 (@a00 _ _ _ _ _ (pv 5) (@a00 _ _ _ _ _ (pv 6) (@a02 _) (by rfl)) (by rfl)) (by decide) (by rfl) (by rfl))) (@a02 _) (by rfl)) (by rfl)))))))))))))),?_⟩
   have sl:(1000000:Nat)≤sizeLine:=le_line (Nat.le_refl _)
   have hel:=hT.hel
   have hul:us.length=es.length:=ah4 hT.hes
   walk_at "go"
   refine ⟨o1,ev,us,es,m1,rfl,hT,fun row1 hr1 _ _ pf1 ws1 H1 f1 s1 e1 _=>?_,fun hn=>qe (.inl hn)⟩
   walk_at "run"
   refine ⟨o2,ev,us,es,m2,rfl,hP.same s1,fun row2 hr2 _ _ pf2 ws2 H2 f2 s2 e2 _=>?_,fun hn H' s'=>qe (.inr hn) H' (s1.trans s')⟩
   walk_at "run"
   have s02:=s1.trans s2
   obtain ⟨q0,q1⟩:=q (by rw [hr1]; simp) (by rw [hr2]; simp)
   refine ⟨o1,o2,ev,us,es,m1,m2,rfl,hT.same s02,hP.same s02,fun v3 H3 s3 hv3=>?_⟩
   have s03:=s02.trans s3
   walk_at "run"
   cases hp0:p0M m1 m2 with
   | none =>
     rw [hp0] at hv3
     obtain rfl:v3=.non:=hv3
     refine a26 rfl ?_
     walk_at "run"
     intro p4 H4 f4 s4 e4
     walk_at "run"
     intro p5 H5 f5 s5 e5
     walk_at "run"
     intro p6 H6 f6 s6 e6
     exact q0 hp0 p6 p4 p5 H6 (s03.trans (s4.trans (s5.trans s6))) e6 (s6 _ _ (s5 _ _ e4)) (s6 _ _ e5) (s03.free f4) ((s03.trans s4).free f5)
   | some x0 =>
   rw [hp0] at hv3
   obtain ⟨q2,q3⟩:=q1 x0 hp0
   obtain ⟨k3,a3,b3,rfl,e3,ha3,hb3⟩:=id hv3
   refine a25 (fun z=>nomatch z) ?_
   walk_at "run"
   intro pf H4 f4 s4 e4
   walk_at "run"
   intro wd o5 f5
   walk_at "run"
   have s5:Same H4 (upd H4 wd o5):=Same.new f5
   refine ⟨a18,pT x0,ay1 (a43 hv3 (s4.trans s5).tups),fun o6 hD=>?_⟩
   rw [b11] at hD
   have s6:Same H4 (upd H4 wd o6):=Same.new f5
   walk_at "run"
   rw [b11]
   have s06:=s03.trans (s4.trans s6)
   have fpf:H pf=none:=s03.free f4
   have fwd:H wd=none:=(s03.trans s4).free f5
   have hne:pf≠wd:=a29 e4 f5
   have hx0:=ah5 hp0
   have hf6:=s6 _ _ e4
   have hv6:=a43 hv3 (s4.trans s6).tups
   have hw6:WyAt K w.params (upd H4 wd o6) wd [(x0,none)]:=⟨_,hD,Nat.le_refl _,fun p=>by
    by_cases h:pT p=pT x0
    · rw [a46 h.symm,bd8 _ _ h]
      simp
    · rw [a50 (fun z=>h z.symm)]
      simp only [List.map_cons,List.map_nil,List.mem_singleton]
      constructor
      · intro z; simp [valV] at z
      · intro z; exact absurd (by rw [z]) h,fun x w' hx=>by
    simp only [List.mem_singleton,Prod.mk.injEq] at hx
    rw [hx.1,hx.2]
    exact ⟨_,a46 rfl,rfl⟩⟩
   generalize upd H4 wd o6=H6 at s06 hf6 hv6 hw6
   have ok0:FdOk (psM m1 m2) x0 2000 ([(x0,none)],none):=⟨by simp,rfl,by simp,fun i x w hi=>by
    cases i with
    | zero=>simp at hi; obtain ⟨rfl,rfl⟩:=hi; exact ⟨[],.nil,by simp⟩
    | succ i=>simp at hi,fun x e z=>by cases z⟩
   have rp0:RpOk m1 m2 [(x0,none)]:=fun i x hx=>by
    cases i with
    | zero =>
      simp at hx
      subst hx
      rw [hx0]
      exact ⟨⟨hT.k0.1,by rw [hT.k0.2]; exact Nat.le_refl _⟩,hP.k0.1,by rw [hP.k0.2]; exact Nat.le_refl _⟩
    | succ i=>simp at hx
   obtain ⟨W,hW⟩:∃ W:Nat→St→Hp→Prop,W=(fun n σ H'=>∃ (pl:Nat) (s:FL×Wy PR) (fvs:List V) (v:V) (y z:Option V),n=2001 - pl∧pl≤s.1.length∧goP (psM m1 m2) es 2000 (2001 - pl) pl s=grM es m1 m2 x0∧FdOk (psM m1 m2) x0 2000 s∧RpOk m1 m2 s.1∧Same H H'∧H' pf=some (.lst fvs)∧Each (PrA H') fvs (s.1.map (·.1))∧WyAt K w.params H' wd s.1∧WyV K H' v s.2∧σ=[some (.ref o1),some (.ref o2),some (.ref ev),some (.ref k3),some (.ref pf),some (.ref wd),some v,some (.int (pl:Nat)),y,z]):=⟨_,rfl⟩
   refine af3 W 2001 ?_ ?_
   · rw [hW]
     exact ⟨0,([(x0,none)],none),_,_,_,_,rfl,Nat.zero_le _,rfl,ok0,rp0,s06,hf6,Each.snoc Each.nil hv6,hw6,rfl,rfl⟩
   intro n σ H7 hI
   rw [hW] at hI
   obtain ⟨pl,s,fvs,v,y,z,rfl,hpl,hgo,hok,hrp,s7,hpf,hfv,hwy,hv,rfl⟩:=hI
   have hfl:fvs.length=s.1.length:=by rw [hfv.1,List.length_map]
   have hsl:=hok.ln
   walk_at "run"
   refine aj1 (SqL.of hpf) ?_
   walk_at "run"
   rw [hfl]
   refine ite2 (fun hc=>?_) (fun hc=>?_)
   · have hlt:pl<s.1.length:=by have:=of_decide_eq_true hc; omega
     obtain ⟨k,hk⟩:∃ k,s.1[pl]?=some k:=⟨_,List.getElem?_eq_getElem hlt⟩
     obtain ⟨⟨hk1,hl1⟩,hk2,hl2⟩:=hrp pl k hk
     rw [show 2001 - pl=(2001 - (pl+1))+1 by omega,bc7 hk] at hgo
     have hkm:∃ w,(k.1,w)∈s.1:=⟨k.2,List.mem_of_getElem? hk⟩
     refine ⟨fun σ' H''=>W (2001 - (pl+1)) σ' H'',fun σ' H'' h=>⟨_,by omega,h⟩,?_⟩
     walk_at "run"
     refine ⟨⟨_,SqL.of (s7 _ _ hT.hev)⟩,ad0 (K:=K) (a:=ev) (xs:=us) (fun j σ H'=>Same H H'∧j≤es.length∧∃ (s':FL×Wy PR) (fvs:List V) (v:V) (y z:Option V),stpP (psM m1 m2) 2000 k.1 s (es.take j)=some s'∧RpOk m1 m2 s'.1∧H' pf=some (.lst fvs)∧Each (PrA H') fvs (s'.1.map (·.1))∧WyAt K w.params H' wd s'.1∧WyV K H' v s'.2∧σ=[some (.ref o1),some (.ref o2),some (.ref ev),some (.ref k3),some (.ref pf),some (.ref wd),some v,some (.int (pl:Nat)),y,z]) ⟨s7,Nat.zero_le _,s,fvs,v,_,_,rfl,hrp,hpf,hfv,hwy,hv,rfl⟩ (fun j σ H' _ zz=>by obtain ⟨s',_⟩:=zz; exact SqL.of (s' _ _ hT.hev)) ?_ ?_⟩
     · rintro j vv σ H8 hj ⟨s8,hjl,s',fvs,v,y,z,hst,hrp8,hpf8,hfv8,hwy8,hv8,rfl⟩
       obtain ⟨e,he,hve⟩:=ah3 (hT.hes.mono s8.tups) hj
       have hj':j<es.length:=(List.getElem?_eq_some_iff.mp he).1
       have hem:=List.mem_of_getElem? he
       have htk:es.take (j+1)=es.take j++[e]:=by rw [List.take_add_one,he]; rfl
       have hdr:es=es.take j++e::es.drop (j+1):=by
        conv=>lhs; rw [← List.take_append_drop j es]
        rw [List.drop_eq_getElem_cons hj',(List.getElem?_eq_some_iff.mp he).2]
       obtain ⟨ok8,⟨t8,ht8⟩,_,_⟩:=aj9 hst hkm hok
       have hsl8:=ok8.ln
       have hfl8:fvs.length=s'.1.length:=by rw [hfv8.1,List.length_map]
       obtain ⟨kv,hkv,hkp⟩:=hfv8.get (j:=pl) (x:=k.1) (by rw [ht8,List.map_append,List.getElem?_append_left (by simpa using hlt),List.getElem?_map,hk]; rfl)
       walk_at "run"
       refine a42 (SqL.of hpf8) (a04 hkv) ?_
       walk_at "run"
       refine ⟨o1,o2,ev,us,es,m1,m2,kv,vv,k.1,e,rfl,hT.same s8,hP.same s8,hkp,hk1,by omega,hk2,by omega,hem,hve,fun v9 H9 s9 hv9=>?_⟩
       walk_at "run"
       have s89:=s8.trans s9
       have hpf9:=s9 _ _ hpf8
       have hkp9:=a43 hkp s9.tups
       have hve9:=hve.mono s9.tups
       have hfv9:Each (PrA H9) fvs (s'.1.map (·.1)):=hfv8.mono fun _ _ z=>a43 z s9.tups
       have hwy9:=hwy8.same s9
       have hvv9:=ac7 hv8 s9.tups
       cases hps:psM m1 m2 k.1 e with
       | none =>
         rw [hps] at hv9
         obtain rfl:v9=.non:=hv9
         have hst2:stpP (psM m1 m2) 2000 k.1 s (es.take (j+1))=some (s'.1,if s'.2=none then some (k.1,e) else s'.2):=by
          rw [htk,ab1,hst]
          show stpP (psM m1 m2) 2000 k.1 s' [e]=_
          rw [ae2 hps]
          rfl
         refine ab9 (fun σ' H'=>Same H9 H'∧∃ v',σ'=[some (.ref o1),some (.ref o2),some (.ref ev),some (.ref k3),some (.ref pf),some (.ref wd),some v',some (.int (pl:Nat)),some vv,some .non]∧WyV K H' v' (if s'.2=none then some (k.1,e) else s'.2)) ?_ ?_
         · walk_at "run"
           rw [nnn]
           walk_at "run"
           cases hs2:s'.2 with
           | none =>
             rw [hs2] at hvv9
             obtain rfl:v=.non:=hvv9
             rw [nnn]
             walk_at "run"
             refine a42 (SqL.of hpf9) (a04 hkv) ?_
             walk_at "run"
             intro p10 H10 f10 s10 e10
             refine ⟨s10,_,rfl,?_⟩
             rw [if_pos rfl]
             exact ⟨p10,kv,vv,rfl,e10,a43 hkp9 s10.tups,hve9.mono s10.tups⟩
           | some x =>
             rw [hs2] at hvv9
             obtain ⟨qx,ax,bx,rfl,_⟩:=id hvv9
             rw [nnr]
             walk_at "run"
             refine ⟨Same.refl _,_,rfl,?_⟩
             rw [if_neg (fun z=>by cases z)]
             exact hvv9
         rintro σ' H' ⟨s10,v',rfl,hv10⟩
         walk_at "run"
         rw [nnn]
         walk_at "run"
         exact ⟨s89.trans s10,hj',_,fvs,v',_,_,hst2,hrp8,s10 _ _ hpf9,hfv9.mono fun _ _ z=>a43 z s10.tups,hwy9.same s10,hv10,rfl⟩
       | some p9 =>
         rw [hps] at hv9
         obtain ⟨a9,b9,c9,rfl,e9,_⟩:=id hv9
         refine ab9 (fun σ' H'=>H9=H'∧σ'=[some (.ref o1),some (.ref o2),some (.ref ev),some (.ref k3),some (.ref pf),some (.ref wd),some v,some (.int (pl:Nat)),some vv,some (.ref a9)]) ?_ ?_
         · walk_at "run"
           rw [nnr]
           walk_at "run"
           exact ⟨rfl,rfl⟩
         rintro σ' H' ⟨rfl,rfl⟩
         walk_at "run"
         rw [nnr]
         walk_at "run"
         obtain ⟨kvs9,d91,d92,d93,d94⟩:=hwy9.ex
         refine ⟨wd,_,pT p9,rfl,d91,ay1 hv9,?_⟩
         have hst1:stpP (psM m1 m2) 2000 k.1 s (es.take (j+1))=stpP (psM m1 m2) 2000 k.1 s' [e]:=by
          rw [htk,ab1,hst]
          rfl
         rw [ae3 hps] at hst1
         by_cases hm:p9∈s'.1.map (·.1)
         · have hst2:stpP (psM m1 m2) 2000 k.1 s (es.take (j+1))=some s':=by rw [hst1,if_pos hm]; rfl
           rw [(d93 p9).mpr hm]
           walk_at "run"
           exact ⟨s89,hj',s',fvs,v,_,_,hst2,hrp8,hpf9,hfv9,hwy9,hvv9,rfl⟩
         · rw [if_neg hm] at hst1
           rw [show (valV kvs9 (pT p9)).isSome=false from Bool.eq_false_iff.mpr fun z=>hm ((d93 p9).mp z)]
           walk_at "run"
           refine aj1 (SqL.of hpf9) ?_
           walk_at "run"
           rw [hfl8]
           by_cases hf:s'.1.length=2000
           · have hst2:stpP (psM m1 m2) 2000 k.1 s (es.take (j+1))=none:=by rw [hst1,if_pos hf]
             refine a26 (by omega) ?_
             walk_at "run"
             refine q2 ?_ _ s89
             rw [← hgo,show stpP (psM m1 m2) 2000 k.1 s es=none from by
              rw [hdr,show es.take j++e::es.drop (j+1)=es.take (j+1)++es.drop (j+1) from by rw [htk]; simp,ab1,hst2]
              rfl]
             rfl
           · have hst2:stpP (psM m1 m2) 2000 k.1 s (es.take (j+1))=some (s'.1++[(p9,some (k.1,e))],s'.2):=by rw [hst1,if_neg hf]; rfl
             refine a25 (by omega) ?_
             walk_at "run"
             refine a42 (SqL.of hpf9) (a04 hkv) ?_
             walk_at "run"
             intro p10 H10 f10 s10 e10
             walk_at "run"
             refine ⟨wd,_,pT p9,rfl,ap7 d91 s10,ay1 (a43 hv9 s10.tups),by omega,fun o11 hd11=>?_⟩
             have t11:Tups H10 (upd H10 wd o11):=by
              obtain ⟨φ,hφ⟩:=(ap7 d91 s10).ext
              exact aj4 hφ
             have f11:upd H10 wd o11 pf=some (.lst fvs):=by rw [a14 hne]; exact s10 _ _ hpf9
             have s11:Same H (upd H10 wd o11):=(s89.trans s10).updNew fwd
             have w11:WyV K (upd H10 wd o11) (.ref p10) (some (k.1,e)):=⟨p10,kv,vv,rfl,t11 _ _ e10,a43 hkp9 (s10.tups.trans t11),hve9.mono (s10.tups.trans t11)⟩
             have hwy11:=WyAt.put (K:=K) d92 d93 d94 hm hd11 (s10.tups.trans t11) w11
             have hv11:=a43 hv9 (s10.tups.trans t11)
             have hfv11:Each (PrA (upd H10 wd o11)) fvs (s'.1.map (·.1)):=hfv9.mono fun _ _ z=>a43 z (s10.tups.trans t11)
             have hvv11:=ac7 hvv9 (s10.tups.trans t11)
             generalize upd H10 wd o11=H11 at f11 s11 hwy11 hv11 hfv11 hvv11 ⊢
             walk_at "run"
             refine aa3 (SqL.of f11) ?_
             walk_at "run"
             refine a57 f11 (by omega) ?_
             have t12:Tups H11 (upd H11 pf (.lst (fvs++[.ref a9]))):=Tups.upd f11
             have hkpl:pl<s'.1.length:=by rw [ht8,List.length_append]; omega
             have hpsx:=ah5 hps
             obtain ⟨_,hks1,hls1⟩:=hT.hks _ hk1 e hem
             obtain ⟨_,hks2,hls2⟩:=hP.hks _ hk2 e hem
             refine ⟨s11.updNew fpf,hj',_,fvs++[.ref a9],v,_,_,hst2,hrp8.snoc ?_ ?_,a18,?_,hwy11.mono t12 (a14 hne.symm),ac7 hvv11 t12,rfl⟩
             · rw [hpsx]
               show m1.ok (m1.st k.1.1 e).2∧m1.lev (m1.st k.1.1 e).2≤s'.1.length
               exact ⟨hks1,by omega⟩
             · rw [hpsx]
               show m2.ok (m2.st k.1.2 e).2∧m2.lev (m2.st k.1.2 e).2≤s'.1.length
               exact ⟨hks2,by omega⟩
             · rw [List.map_append]
               exact (hfv11.mono fun _ _ z=>a43 z t12).snoc (a43 hv11 t12)
     · rintro σ H8 ⟨s8,hjl,s',fvs,v,y,z,hst,hrp8,hpf8,hfv8,hwy8,hv8,rfl⟩
       rw [hul,List.take_length] at hst
       obtain ⟨ok8,⟨t8,ht8⟩,_,_⟩:=aj9 hst hkm hok
       walk_at "run"
       refine bp7 rfl ?_
       rw [hW]
       exact ⟨pl+1,s',fvs,v,_,_,rfl,by rw [ht8,List.length_append]; omega,by rw [← hgo,hst]; rfl,ok8,hrp8,s8,hpf8,hfv8,hwy8,hv8,rfl⟩
   · have hge:s.1.length≤pl:=Nat.le_of_not_lt fun z=>hc (decide_eq_true (by omega))
     rw [aq4 hge] at hgo
     have hgs:grM es m1 m2 x0=some s:=hgo.symm
     walk_at "run"
     cases hs2:s.2 with
     | none =>
       rw [hs2] at hv
       obtain rfl:v=.non:=hv
       rw [nnn]
       walk_at "run"
       intro pt H8 f8 s8 e8
       exact q3 s hgs hok hrp pt pf .non H8 (s7.trans s8) e8 fpf (fun l z=>nomatch z) ⟨⟨fvs,s8 _ _ hpf,hfv.mono fun _ _ z=>a43 z s8.tups⟩,fun _=>rfl,fun x hx=>by rw [hs2] at hx; cases hx⟩
     | some x =>
       rw [hs2] at hv
       obtain ⟨qx,ax,bx,rfl,ex,hax,hbx⟩:=id hv
       rw [nnr]
       walk_at "run"
       obtain ⟨⟨w',hxw⟩,_⟩:=hok.p x.1 x.2 (by rw [hs2])
       obtain ⟨ix,hix⟩:=List.mem_iff_getElem?.mp hxw
       have hixl:=(List.getElem?_eq_some_iff.mp hix).1
       obtain ⟨ws,hws,hwl⟩:=hok.w ix x.1 w' hix
       have hch:ChP s.1 (some x) (x.2::ws):=.cons hxw hws
       refine ⟨wd,_,s.1,some x,x.2::ws,rfl,hwy,hv,hch,by simp; omega,fun l us2 H8 f8 s8 e8 hE=>?_⟩
       walk_at "run"
       intro pt H9 f9 s9 e9
       refine q3 s hgs hok hrp pt pf _ H9 (s7.trans (s8.trans s9)) e9 fpf (fun l' z=>by cases z; exact s7.free f8) ⟨⟨fvs,(s8.trans s9) _ _ hpf,hfv.mono fun _ _ z=>a43 z (s8.trans s9).tups⟩,fun z=>(by rw [hs2] at z; cases z),fun x' hx=>?_⟩
       rw [hs2] at hx
       cases hx
       exact ⟨l,us2,_,rfl,s9 _ _ e8,hch,hE.mono fun _ _ z=>Tr.AtK.mono z s9.tups⟩
def c15 (K:PySem.W.Frag) (C Cx:Addr):Sp:=fun vs H Q E=>∃ (o1 o2 ev:Addr) (us:List V) (es:List Tr) (m1 m2:Mc),vs=[.ref o1,.ref o2,.ref ev]∧MPre K C H o1 ev us es m1∧MPre K C H o2 ev us es m2 ∧
 (srM es m1=none∨srM es m2=none→∀ H',Same H H'→E (.ref Cx) none H') ∧
 (srM es m1≠none→srM es m2≠none →
  (p0M m1 m2=none→∀ H',Same H H'→Q .non H') ∧
  (∀ x0,p0M m1 m2=some x0→(grM es m1 m2 x0=none→∀ H',Same H H'→E (.ref Cx) none H') ∧
   (∀ s,grM es m1 m2 x0=some s→FdOk (psM m1 m2) x0 2000 s→RpOk m1 m2 s.1→∀ H',Same H H'→(s.2≠none→Q .non H')∧(s.2=none→∀ pf fvs,H' pf=some (.lst fvs)→Each (PrA H') fvs (s.1.map (·.1))→H pf=none→Q (.ref pf) H'))))
theorem al6 (T:Txt K mg t):FnOk P w K mg base (CXE P w t.c_TooMany) 21 t.a_found_paper t.fd_found_paper ["one","other","events"] (c15 K t.c_GraphMachine t.c_TooMany):=by
 have G_gone_through:=ak5 (P:=P) (w:=w) (base:=base) T
 refine T.f_found_paper.F.okE sc_found_paper (fun vs H Q E h=>?_) (fun cdv A outer s H vs Q E hr h=>?_)
 · obtain ⟨o1,o2,ev,us,es,m1,m2,rfl,_⟩:=h
   rfl
 · obtain ⟨o1,o2,ev,us,es,m1,m2,rfl,hT,hP,qe,q⟩:=h
   refine ⟨_,(@a01 _ _ _ _ _ (@a16 _ _ 3 _ _ _ _ sc_found_paper.nd rfl (by walk_at "o") (@a21 _ _ _ _ _ _ _ _ _ _ _ _ _ _ _ _ G_gone_through (hr.mono (by omega)) rfl T.f_gone_through.m T.f_gone_through.F.kp T.f_gone_through.b .nil aq0 (@a00 _ _ _ _ _ (pv 0) (@a00 _ _ _ _ _ (pv 1) (@a00 _ _ _ _ _ (pv 2) (@a02 _) (by rfl)) (by rfl)) (by rfl)) (by decide) (by rfl) (by rfl)) (by rfl) (by walk_at "o"))
    (@a05 _ _ _ (@a17 _ _ _ _ (@ah0 _ _ _ _ _ _ _ _ (@a09 _ _ _ _ _ _ _ _ a71 (@a12 _ _ _ _ _ _ _ (a06 K) (pv 3) (@a03 _ _ _ _) (fun _ _=>rfl)) (@a31 _ _ _) (nomark _)) (@a12 _ _ _ _ _ _ _ (a06 K) (pv 3) (@a03 _ _ _ _) (fun _ _=>rfl)) (@a31 _ _ _))))),?_⟩
   walk_at "go"
   refine ⟨o1,o2,ev,us,es,m1,m2,rfl,hT,hP,qe,fun n1 n2=>?_⟩
   obtain ⟨q0,q1⟩:=q n1 n2
   refine ⟨fun hp tt pf pr H1 s1 e1 e2 e3 _ _=>?_,fun x0 hp=>⟨(q1 x0 hp).1,fun s hs hok hrp tt pf v H1 s1 e1 fpf _ hG=>?_⟩⟩
   · walk_at "run"
     refine a23 (SqT.of e1) (a04 (j:=1) rfl) ?_
     walk_at "run"
     rw [nnr]
     walk_at "run"
     exact q0 hp H1 s1
   · obtain ⟨q2,q3⟩:=(q1 x0 hp).2 s hs hok hrp H1 s1
     walk_at "run"
     refine a23 (SqT.of e1) (a04 (j:=1) rfl) ?_
     walk_at "run"
     cases hs2:s.2 with
     | none =>
       obtain rfl:=hG.n hs2
       rw [nnn]
       walk_at "run"
       refine a23 (SqT.of e1) (a04 (j:=0) rfl) ?_
       obtain ⟨fvs,h1,h2⟩:=hG.f
       exact q3 hs2 pf fvs h1 h2 fpf
     | some x =>
       obtain ⟨l,us2,ws,rfl,_⟩:=hG.w x hs2
       rw [nnr]
       walk_at "run"
       exact q2 (by rw [hs2]; simp)
def c16 (K:PySem.W.Frag):Sp:=fun vs H Q _=>∃ (a:Addr) (ns:List Int) (k:Nat),vs=[.ref a,.int (k:Nat)]∧SqL K H a (ns.map V.int)∧∀ z:Int,Q (.int z) H
theorem ay2 (T:Txt K mg t):FnOk P w K mg base CX0 1 t.a__law_cell t.fd__law_cell ["script","k"] (c16 K):=by
 refine T.f__law_cell.F.ok ax8 (fun vs H Q E h=>?_) (fun cdv A outer s H vs Q E hr h=>?_)
 · obtain ⟨a,ns,k,rfl,_⟩:=h
   rfl
 · obtain ⟨a,ns,k,rfl,hS,q⟩:=h
   refine ⟨_,(@a01 _ _ _ _ _ (@a32 _ _ _ _ _ _ _ _ (bg5 cg6 bg3 (@a03 _ _ _ _) (pv 1) (@a39 _ _ _ _ _ _ _ _ _ (aa2 K) (by rfl) T.z_len ag1 (@a00 _ _ _ _ _ (pv 0) (@a02 _) (by rfl)) (by decide) (by decide) (by rfl) (by rfl))) (@a05 _ _ _ (@a17 _ _ _ _ (@a12 _ _ _ _ _ _ _ (a15 K) (pv 0) (pv 1) (fun _ _=>rfl)))) (@a20 _))
    (@a05 _ _ _ (@a17 _ _ _ _ (@a03 _ _ _ _)))),?_⟩
   walk_at "go"
   refine a26 (by omega) ?_
   walk_at "run"
   refine aj1 hS ?_
   walk_at "run"
   rw [List.length_map]
   by_cases hk:k<ns.length
   · refine a26 (by omega) ?_
     walk_at "run"
     exact a42 hS (a04 (j:=k) (v:=.int ns[k]) (by simp [hk])) (q _)
   · refine a25 (by omega) ?_
     walk_at "run"
     exact q 0
def c17:Sp:=fun vs H Q _=>∃ (c:Int) (k:Nat),vs=[.int c,.int (k:Nat)]∧k≤100∧∀ r:Int,Q (.int r) H
theorem p60:(10:Int) ^ Int.toNat 60=1000000000000000000000000000000000000000000000000000000000000:=by decide
theorem c18 (c:Int) {k:Nat}(hk:k≤100):Bd 210 (c % 10 ^ Int.toNat 60+7919*(k:Int)+1):=by
 rw [p60]
 have a1:=Int.emod_nonneg c (show (1000000000000000000000000000000000000000000000000000000000000:Int)≠0 by decide)
 have a2:=Int.emod_lt_of_pos c (show (0:Int)<1000000000000000000000000000000000000000000000000000000000000 by decide)
 refine Bd.of (by omega) ?_
 have e2:(2:Int) ^ 210=1645504557321206042154969182557350504982735865633579863348609024:=by decide
 rw [e2]
 omega
theorem be2 (c:Int):Bd 128 (c % 170141183460469231731687303715884105727):=by
 have a1:=Int.emod_nonneg c (show (170141183460469231731687303715884105727:Int)≠0 by decide)
 have a2:=Int.emod_lt_of_pos c (show (0:Int)<170141183460469231731687303715884105727 by decide)
 refine Bd.of a1 ?_
 have e2:(2:Int) ^ 128=340282366920938463463374607431768211456:=by decide
 rw [e2]
 omega
theorem ay3 (T:Txt K mg t):FnOk P w K mg base CX0 1 t.a__law_stir t.fd__law_stir ["cell","k"] c17:=by
 refine T.f__law_stir.F.ok sc_law_stir (fun vs H Q E h=>?_) (fun cdv A outer s H vs Q E hr h=>?_)
 · obtain ⟨c,k,rfl,_⟩:=h
   rfl
 · obtain ⟨c,k,rfl,hk,q⟩:=h
   refine ⟨_,(@a01 _ _ _ _ _ (@a16 _ _ 2 _ _ _ _ sc_law_stir.nd rfl (by walk_at "o") (@a45 _ _ _ _ _ _ _ _ ad7 (@a45 _ _ _ _ _ _ _ _ a66 (@a45 _ _ _ _ _ _ _ _ a66 (@a45 _ _ _ _ _ _ _ _ a98 (pv 0) (@a45 _ _ _ _ _ _ _ _ c48 (@a03 _ _ _ _) (@a03 _ _ _ _))) (@a45 _ _ _ _ _ _ _ _ ad7 (@a03 _ _ _ _) (pv 1))) (@a03 _ _ _ _)) (@a03 _ _ _ _)) (by rfl) (by walk_at "o"))
    (@a01 _ _ _ _ _ (@a16 _ _ 2 _ _ _ _ sc_law_stir.nd rfl (by walk_at "o") (@a45 _ _ _ _ _ _ _ _ a98 (pv 2) (@a03 _ _ _ _)) (by rfl) (by walk_at "o"))
    (@a05 _ _ _ (@a17 _ _ _ _ (@a45 _ _ _ _ _ _ _ _ ao4 (@a45 _ _ _ _ _ _ _ _ a98 (@a45 _ _ _ _ _ _ _ _ ad7 (pv 2) (pv 2)) (@a03 _ _ _ _)) (@a03 _ _ _ _)))))),?_⟩
   walk_at "go"
   refine ad9 (Bd.big (c18 c hk) (show Bd 120 27182818284590452353602874713527 by unfold Bd; decide)) ?_
   walk_at "run"
   refine ad9 (Bd.big (be2 _) (be2 _)) ?_
   walk_at "run"
   exact q _
theorem ce9 {ks:List Nat}{i:Nat}{v:V}(h:(a48 ks)[i]?=some v):∃ k,ks[i]?=some k∧v=.int (k:Nat):=by
 unfold a48 at h
 rw [List.getElem?_map] at h
 obtain ⟨k,h1,h2⟩:=Option.map_eq_some_iff.mp h
 exact ⟨k,h1,h2.symm⟩
def bm6 (K:PySem.W.Frag):Sp:=fun vs H Q _=>∃ (c:Int) (a:Addr) (sz:List Nat),vs=[.int c,.ref a]∧H a=some (.lst (a48 sz))∧(∀ s∈sz,0<s∧s≤1000)∧sz.length≤100∧∀ l ds H',H l=none→Same H H'→H' l=some (.lst (a48 ds))→ds.length=sz.length→(∀ (i d s:Nat),ds[i]?=some d→sz[i]?=some s→d<s)→Q (.ref l) H'
theorem av1 (T:Txt K mg t):FnOk P w K mg base CX0 2 t.a__law_drawn t.fd__law_drawn ["cell","sizes"] (bm6 K):=by
 have G__law_stir:=ay3 (P:=P) (w:=w) (base:=base) T
 refine T.f__law_drawn.F.ok sc_law_drawn (fun vs H Q E h=>?_) (fun cdv A outer s H vs Q E hr h=>?_)
 · obtain ⟨c,a,sz,rfl,_⟩:=h
   rfl
 · obtain ⟨c,a,sz,rfl,ha,hs,hl,q⟩:=h
   refine ⟨_,(@a01 _ _ _ _ _ (@a16 _ _ 2 _ _ _ _ sc_law_drawn.nd rfl (by walk_at "o") (@a30 _ _ _ _ (@a02 _)) (by rfl) (by walk_at "o"))
    (@a01 _ _ _ _ _ (@a16 _ _ 3 _ _ _ _ sc_law_drawn.nd rfl (by walk_at "o") (@a45 _ _ _ _ _ _ _ _ ao4 (pv 0) (@a03 _ _ _ _)) (by rfl) (by walk_at "o"))
    (@a01 _ _ _ _ _ (@af7 _ _ _ _ _ _ _ _ PassesOwn.never rfl (bw6 K rfl T.z_enumerate (@a00 _ _ _ _ _ (pv 1) (@a02 _) (by rfl))) (a93 K (n:=2) rfl (a28 (a24 (i:=4) sc_law_drawn.nd rfl (by walk_at "o")) (a28 (a24 (i:=5) sc_law_drawn.nd rfl (by walk_at "o")) (@a78 _)))) (@a05 _ _ _ (@a32 _ _ _ _ _ _ _ _ (@a09 _ _ _ _ _ _ _ _ a60 (@a45 _ _ _ _ _ _ _ _ a98 (pv 0) (@a03 _ _ _ _)) (@a03 _ _ _ _) (nomark _)) (@a01 _ _ _ _ _ (@a49 _ _ _ _ (@a70 _ K _ _ _ _ _ _ _ _ _ _ _ PySem.F.plainAttrs_list PySem.F.slot_list_append PySem.F.type_list_append a40 (pv 2) (@a00 _ _ _ _ _ (@a45 _ _ _ _ _ _ _ _ a98 (pv 3) (pv 5)) (@a02 _) (by rfl)) (by rfl) (by rfl) (by rfl) (by rfl) (by rfl) (by rfl)) (by rfl))
     (@a05 _ _ _ (@a16 _ _ 3 _ _ _ _ sc_law_drawn.nd rfl (by walk_at "o") (@a45 _ _ _ _ _ _ _ _ ao4 (pv 3) (pv 5)) (by rfl) (by walk_at "o")))) (@a05 _ _ _ (@a49 _ _ _ _ (@a70 _ K _ _ _ _ _ _ _ _ _ _ _ PySem.F.plainAttrs_list PySem.F.slot_list_append PySem.F.type_list_append a40 (pv 2) (@a00 _ _ _ _ _ (@a45 _ _ _ _ _ _ _ _ a98 (@a21 _ _ _ _ _ _ _ _ _ _ _ _ _ _ _ _ G__law_stir (hr.mono (by omega)) rfl T.f__law_stir.m T.f__law_stir.F.kp T.f__law_stir.b .nil a27 (@a00 _ _ _ _ _ (pv 3) (@a00 _ _ _ _ _ (pv 4) (@a02 _) (by rfl)) (by rfl)) (by decide) (by rfl) (by rfl)) (pv 5)) (@a02 _) (by rfl)) (by rfl) (by rfl) (by rfl) (by rfl) (by rfl) (by rfl)) (by rfl))))) (by intro _; rfl))
    (@a05 _ _ _ (@a17 _ _ _ _ (pv 2)))))),?_⟩
   have sl:(1000000:Nat)≤sizeLine:=le_line (Nat.le_refl _)
   walk_at "go"
   intro l H1 f1 s1 e1
   walk_at "run"
   refine ⟨⟨_,SqL.of (s1 _ _ ha)⟩,bk1 (K:=K) (a:=a) (xs:=a48 sz) (fun i σ H'=>∃ (rest:Int) (ds:List Nat) (y1 y2:Option V),σ=[some (.int c),some (.ref a),some (.ref l),some (.int rest),y1,y2]∧Same H H'∧H' l=some (.lst (a48 ds))∧ds.length=i∧i≤sz.length∧∀ (i d s:Nat),ds[i]?=some d→sz[i]?=some s→d<s) ⟨_,[],_,_,rfl,s1,e1,rfl,Nat.zero_le _,by simp⟩ (fun i σ H' _ zz=>by obtain ⟨_,_,_,_,_,s',_⟩:=zz; exact SqL.of (s' _ _ ha)) ?_ ?_⟩
   · rintro i v σ H2 pq H3 hv ⟨rest,ds,y1,y2,rfl,s2,e2,hdl,hi,hd⟩ s3 e3
     obtain ⟨x,hx,rfl⟩:=ce9 hv
     have hi':i<sz.length:=(List.getElem?_eq_some_iff.mp hx).1
     obtain ⟨x1,x2⟩:=hs x (List.mem_of_getElem? hx)
     have s23:=s2.trans s3
     have e23:=s3 _ _ e2
     have fin:∀ (z:Int) (r:Int) (y1 y2:Option V),0≤z→z<x→∃ (rest:Int) (ds':List Nat) (y1' y2':Option V),[some (V.int c),some (.ref a),some (.ref l),some (.int r),y1,y2]=[some (V.int c),some (.ref a),some (.ref l),some (.int rest),y1',y2']∧Same H (upd H3 l (.lst (a48 ds++[.int z])))∧upd H3 l (.lst (a48 ds++[.int z])) l=some (.lst (a48 ds'))∧ds'.length=i+1∧i+1≤sz.length∧∀ (i d s:Nat),ds'[i]?=some d→sz[i]?=some s→d<s:=fun z r y1 y2 z0 z1=>by
      refine ⟨r,ds++[z.toNat],y1,y2,rfl,s23.updNew f1,?_,by simp [hdl],hi',fun j d s e4 e5=>?_⟩
      · rw [a18]
        simp only [a48,List.map_append,List.map_cons,List.map_nil]
        rw [Int.toNat_of_nonneg z0]
      · rcases Nat.lt_or_ge j ds.length with hj | hj
        · rw [List.getElem?_append_left hj] at e4
          exact hd j d s e4 e5
        · rw [List.getElem?_append_right hj] at e4
          have:=(List.getElem?_eq_some_iff.mp e4).1
          simp only [List.length_cons,List.length_nil] at this
          have hji:j=i:=by omega
          rw [show j - ds.length=0 by omega] at e4
          obtain rfl:=Option.some.inj e4
          rw [hji,hx] at e5
          obtain rfl:=Option.some.inj e5
          omega
     refine ⟨_,_,rfl,SqT.of e3,rfl,?_⟩
     walk_at "run"
     by_cases hc:c % 2=0
     · refine a26 hc ?_
       walk_at "run"
       refine aa3 (SqL.of e23) ?_
       walk_at "run"
       refine a57 e23 (by simp only [a48,List.length_map]; omega) ?_
       walk_at "run"
       refine i_rI (show CDiv _ _ from ⟨by omega,by omega⟩) ?_
       exact fin _ _ _ _ (Int.emod_nonneg _ (by omega)) (Int.emod_lt_of_pos _ (by omega))
     · refine a25 hc ?_
       walk_at "run"
       refine aa3 (SqL.of e23) ?_
       walk_at "run"
       refine ⟨_,i,rfl,by omega,fun r=>?_⟩
       walk_at "run"
       refine a57 e23 (by simp only [a48,List.length_map]; omega) ?_
       walk_at "run"
       exact fin _ _ _ _ (Int.emod_nonneg _ (by omega)) (Int.emod_lt_of_pos _ (by omega))
   · rintro σ H2 ⟨rest,ds,y1,y2,rfl,s2,e2,hdl,hi,hd⟩
     walk_at "run"
     rw [show (a48 sz).length=sz.length by simp [a48]] at hdl
     exact q l ds H2 f1 s2 e2 hdl hd
def figS (l:Nat):Str:=Str.ofString (toString ((l:Nat):Int))
inductive Tk where
 | op (n:Nat)
 | num (n:Nat)
 | wd (w:Str)
 | nn
def T8:List Str:=["quiet","key","word","a","b","go","yes","no"]
def Tk.ok:Tk→Prop
 | .op n=>n<101
 | .num n=>n<101
 | .wd w=>w∈T8
 | .nn=>True
def Tk.txt:Tk→Str
 | .op n=>Str.ofString "("++figS n
 | .num n=>figS n
 | .wd w=>reprText w
 | .nn=>Str.ofString "None"
mutual
def tok:Tr→List Tk
 | .non=>[.nn]
 | .int z=>[.num z.toNat]
 | .str s=>[.wd s]
 | .tup xs=>.op xs.length::toks xs
 | .lst _=>[]
def toks:List Tr→List Tk
 | []=>[]
 | x::xs=>tok x++toks xs
end
mutual
def okT:Tr→Prop
 | .non=>True
 | .int z=>0≤z∧z<101
 | .str s=>s∈T8
 | .tup xs=>xs.length<101∧okTs xs
 | .lst _=>False
def okTs:List Tr→Prop
 | []=>True
 | x::xs=>okT x∧okTs xs
end
theorem ab2:∀ xs ys:List Tr,toks (xs++ys)=toks xs++toks ys
 | [],ys=>rfl
 | x::xs,ys=>by simp only [List.cons_append,toks,ab2 xs ys,List.append_assoc]
theorem okTs_app:∀ {xs ys:List Tr},okTs (xs++ys)↔okTs xs∧okTs ys
 | [],ys=>by simp [okTs]
 | x::xs,ys=>by simp only [List.cons_append,okTs,okTs_app (xs:=xs),and_assoc]
theorem b18:∀ {xs:List Tr},okTs xs→okTs xs.reverse
 | [],h=>h
 | x::xs,h=>by
   rw [List.reverse_cons,okTs_app]
   exact ⟨b18 h.2,h.1,trivial⟩
mutual
theorem c19:∀ {t:Tr},okT t→0<(tok t).length
 | .int z,_=>by simp [tok]
 | .str s,_=>by simp [tok]
 | .tup xs,_=>by simp [tok]
 | .non,_=>by simp [tok]
 | .lst _,h=>by simp [okT] at h
theorem ay4:∀ {ts:List Tr},okTs ts→ts.length≤(toks ts).length
 | [],_=>by simp
 | t::ts,h=>by
   have a:=c19 h.1
   have b:=ay4 h.2
   simp only [List.length_cons,toks,List.length_append]
   omega
end
mutual
theorem br6:∀ {t:Tr},okT t→∀ k∈tok t,k.ok
 | .int z,h,k,hk=>by
   simp only [tok,List.mem_singleton] at hk
   subst hk
   have:=h.2
   show z.toNat<101
   omega
 | .str s,h,k,hk=>by
   simp only [tok,List.mem_singleton] at hk
   subst hk
   exact h
 | .tup xs,h,k,hk=>by
   simp only [tok,List.mem_cons] at hk
   rcases hk with rfl | hk
   · exact h.1
   · exact be3 h.2 k hk
 | .non,h,k,hk=>by
   simp only [tok,List.mem_singleton] at hk
   subst hk
   trivial
 | .lst _,h,_,_=>by simp [okT] at h
theorem be3:∀ {ts:List Tr},okTs ts→∀ k∈toks ts,k.ok
 | [],_,k,hk=>by simp [toks] at hk
 | t::ts,h,k,hk=>by
   rcases List.mem_append.mp hk with hk | hk
   · exact br6 h.1 k hk
   · exact be3 h.2 k hk
end
def allK:List Tk:=(List.range 101).map Tk.op++(List.range 101).map Tk.num++T8.map Tk.wd++[Tk.nn]
theorem bm7 {k:Tk}(h:k.ok):k∈allK:=by
 unfold allK
 cases k with
 | op n=>simp only [List.mem_append,List.mem_map,List.mem_range]; exact .inl (.inl (.inl ⟨n,h,rfl⟩))
 | num n=>simp only [List.mem_append,List.mem_map,List.mem_range]; exact .inl (.inl (.inr ⟨n,h,rfl⟩))
 | wd w=>simp only [List.mem_append,List.mem_map]; exact .inl (.inr ⟨w,h,rfl⟩)
 | nn=>simp
def chK (k:Tk):Bool:=k.txt.cps.toList.all (fun c=>c != 32) && decide (k.txt.length≤20)
theorem c20:allK.all chK=true:=by decide +kernel
theorem ay5 {k:Tk}(h:k.ok):(32:Nat)∉k.txt.cps.toList∧k.txt.length≤20:=by
 have:=List.all_eq_true.mp c20 k (bm7 h)
 unfold chK at this
 rw [Bool.and_eq_true] at this
 refine ⟨fun z=>?_,of_decide_eq_true this.2⟩
 have:=List.all_eq_true.mp this.1 32 z
 simp at this
def keyY (t:Tr):Str:=Str.join (Str.ofString " ") ((tok t).map Tk.txt)
theorem av2 {H:Hp}:∀ {ts:List Tr}{t:Tr}{vs:List V},Tr.Ats H (ts++[t]) vs []→∃ us x,vs=us++[x]∧Tr.Ats H ts us []∧t.At H x []
 | [],t,vs,h=>by
   obtain ⟨v,r,rfl,a,b⟩:=ats_cons0.mp h
   obtain rfl:=ats_nil0.mp b
   exact ⟨[],v,rfl,ats_nil0.mpr rfl,a⟩
 | u::ts,t,vs,h=>by
   obtain ⟨v,r,rfl,a,b⟩:=ats_cons0.mp h
   obtain ⟨us,x,rfl,c,d⟩:=av2 b
   exact ⟨v::us,x,rfl,ats_cons0.mpr ⟨v,us,rfl,a,c⟩,d⟩
theorem ay6 {H:Hp}:∀ {ts rs:List Tr}{vs us:List V},Tr.Ats H ts vs []→Tr.Ats H rs us []→Tr.Ats H (ts++rs) (vs++us) []
 | [],rs,vs,us,h,g=>by
   obtain rfl:=ats_nil0.mp h
   exact g
 | t::ts,rs,vs,us,h,g=>by
   obtain ⟨v,r,rfl,a,b⟩:=ats_cons0.mp h
   exact ats_cons0.mpr ⟨v,r++us,rfl,a,ay6 b g⟩
theorem be4 {H:Hp}:∀ {ts:List Tr}{vs:List V},Tr.Ats H ts vs []→Tr.Ats H ts.reverse vs.reverse []
 | [],vs,h=>by
   obtain rfl:=ats_nil0.mp h
   exact ats_nil0.mpr rfl
 | t::ts,vs,h=>by
   obtain ⟨v,r,rfl,a,b⟩:=ats_cons0.mp h
   rw [List.reverse_cons,List.reverse_cons]
   exact ay6 (be4 b) (ats_cons0.mpr ⟨v,[],rfl,a,ats_nil0.mpr rfl⟩)
theorem aa6:∀ ts:List Tr,(toks ts.reverse).length=(toks ts).length
 | []=>rfl
 | t::ts=>by
   rw [List.reverse_cons,ab2,List.length_append,aa6 ts]
   simp only [toks,List.length_append,List.length_nil]
   omega
def cf0 (K:PySem.W.Frag):Sp:=fun vs H Q _=>∃ (v:V) (t:Tr),vs=[v]∧t.At H v []∧okT t∧(tok t).length≤5000∧∀ H',Same H H'→Q (.str (keyY t)) H'
theorem b53 (T:Txt K mg t):FnOk P w K mg base CX0 1 t.a__law_key t.fd__law_key ["thing"] (cf0 K):=by
 refine T.f__law_key.F.ok sc_law_key (fun vs H Q E h=>?_) (fun cdv A outer s H vs Q E hr h=>?_)
 · obtain ⟨v,t0,rfl,_⟩:=h
   rfl
 · obtain ⟨v,t0,rfl,hv,ho,hl,q⟩:=h
   refine ⟨_,(@a01 _ _ _ _ _ (@a16 _ _ 1 _ _ _ _ sc_law_key.nd rfl (by walk_at "o") (@a30 _ _ _ _ (@a02 _)) (by rfl) (by walk_at "o"))
    (@a01 _ _ _ _ _ (@a16 _ _ 2 _ _ _ _ sc_law_key.nd rfl (by walk_at "o") (@a30 _ _ _ _ (@a00 _ _ _ _ _ (pv 0) (@a02 _) (by rfl))) (by rfl) (by walk_at "o"))
    (@a01 _ _ _ _ _ (@aa7 _ _ _ _ _ _ PassesOwn.never (@a09 _ _ _ _ _ _ _ _ (bb3 K (by exact hr.units)) (pv 2) (@a30 _ _ _ _ (@a02 _)) (nomark _)) (@a01 _ _ _ _ _ (@a16 _ _ 3 _ _ _ _ sc_law_key.nd rfl (by walk_at "o") (aw7 K PySem.F.plainAttrs_list PySem.F.slot_list_pop PySem.F.type_list_pop bo5 (pv 2)) (by rfl) (by walk_at "o"))
     (@a05 _ _ _ (@a32 _ _ _ _ _ _ _ _ (a67 K (@a39 _ _ _ _ _ _ _ _ _ (aw6 K) (by rfl) T.z_isinstance a41 (@a00 _ _ _ _ _ (pv 3) (@a00 _ _ _ _ _ (ao2 (v:=.ty "tuple") (by rfl) T.z_tuple ah1 rfl) (@a02 _) (by rfl)) (by rfl)) (by decide) (by decide) (by rfl) (by rfl)) (fun _=>rfl)) (@a01 _ _ _ _ _ (@a49 _ _ _ _ (@a70 _ K _ _ _ _ _ _ _ _ _ _ _ PySem.F.plainAttrs_list PySem.F.slot_list_append PySem.F.type_list_append a40 (pv 1) (@a00 _ _ _ _ _ (@a45 _ _ _ _ _ _ _ _ a66 (@a22 _ _ _ _) (@a33 _ _ _ _ _ _ _ _ _ az9 (by rfl) T.z_str b90 (@a00 _ _ _ _ _ (@a39 _ _ _ _ _ _ _ _ _ (aa2 K) (by rfl) T.z_len ag1 (@a00 _ _ _ _ _ (pv 3) (@a02 _) (by rfl)) (by decide) (by decide) (by rfl) (by rfl)) (@a02 _) (by rfl)) (by decide) (by decide) (by rfl) (by rfl))) (@a02 _) (by rfl)) (by rfl) (by rfl) (by rfl) (by rfl) (by rfl) (by rfl)) (by rfl))
      (@a05 _ _ _ (@a49 _ _ _ _ (@a70 _ K _ _ _ _ _ _ _ _ _ _ _ PySem.F.plainAttrs_list PySem.F.slot_list_extend PySem.F.type_list_extend (ax2 K) (pv 2) (@a00 _ _ _ _ _ (by2 K (pv 3) (@ar5 _ _ _ _ _ _ af8 (@a03 _ _ _ _))) (@a02 _) (by rfl)) (by rfl) (by rfl) (by rfl) (by rfl) (by rfl) (by rfl)) (by rfl)))) (@a05 _ _ _ (@a32 _ _ _ _ _ _ _ _ (a67 K (@a39 _ _ _ _ _ _ _ _ _ (aw6 K) (by rfl) T.z_isinstance a41 (@a00 _ _ _ _ _ (pv 3) (@a00 _ _ _ _ _ (ao2 (v:=.ty "str") (by rfl) T.z_str b90 rfl) (@a02 _) (by rfl)) (by rfl)) (by decide) (by decide) (by rfl) (by rfl)) (fun _=>rfl)) (@a05 _ _ _ (@a49 _ _ _ _ (@a70 _ K _ _ _ _ _ _ _ _ _ _ _ PySem.F.plainAttrs_list PySem.F.slot_list_append PySem.F.type_list_append a40 (pv 1) (@a00 _ _ _ _ _ (@a39 _ _ _ _ _ _ _ _ _ by3 (by rfl) T.z_repr by4 (@a00 _ _ _ _ _ (pv 3) (@a02 _) (by rfl)) (by decide) (by decide) (by rfl) (by rfl)) (@a02 _) (by rfl)) (by rfl) (by rfl) (by rfl) (by rfl) (by rfl) (by rfl)) (by rfl))) (@a05 _ _ _ (@a32 _ _ _ _ _ _ _ _ (@a09 _ _ _ _ _ _ _ _ a71 (pv 3) (@a31 _ _ _) (nomark _)) (@a05 _ _ _ (@a49 _ _ _ _ (@a70 _ K _ _ _ _ _ _ _ _ _ _ _ PySem.F.plainAttrs_list PySem.F.slot_list_append PySem.F.type_list_append a40 (pv 1) (@a00 _ _ _ _ _ (@a22 _ _ _ _) (@a02 _) (by rfl)) (by rfl) (by rfl) (by rfl) (by rfl) (by rfl) (by rfl)) (by rfl))) (@a05 _ _ _ (@a49 _ _ _ _ (@a70 _ K _ _ _ _ _ _ _ _ _ _ _ PySem.F.plainAttrs_list PySem.F.slot_list_append PySem.F.type_list_append a40 (pv 1) (@a00 _ _ _ _ _ (@a33 _ _ _ _ _ _ _ _ _ az9 (by rfl) T.z_str b90 (@a00 _ _ _ _ _ (@a33 _ _ _ _ _ _ _ _ _ az8 (by rfl) T.z_int b00 (@a00 _ _ _ _ _ (pv 3) (@a02 _) (by rfl)) (by decide) (by decide) (by rfl) (by rfl)) (@a02 _) (by rfl)) (by decide) (by decide) (by rfl) (by rfl)) (@a02 _) (by rfl)) (by rfl) (by rfl) (by rfl) (by rfl) (by rfl) (by rfl)) (by rfl)))))))))))
    (@a05 _ _ _ (@a17 _ _ _ _ (@a70 _ K _ _ _ _ _ _ _ _ _ _ _ PySem.F.plainAttrs_str PySem.F.slot_str_join PySem.F.type_str_join (bi7 K) (@a22 _ _ _ _) (@a00 _ _ _ _ _ (pv 1) (@a02 _) (by rfl)) (by rfl) (by rfl) (by rfl) (by rfl) (by rfl) (by rfl))))))),?_⟩
   have sl:(1000000:Nat)≤sizeLine:=le_line (Nat.le_refl _)
   walk_at "go"
   intro lf H1 f1 s1 e1
   walk_at "run"
   intro lp H2 f2 s2 e2
   walk_at "run"
   have hne:lf≠lp:=fun z=>by rw [z] at e1; rw [e1] at f2; cases f2
   obtain ⟨Pv,hPv⟩:∃ Pv:Nat→St→Hp→Prop,Pv=fun m σ H'=>∃ (fs:List Tk) (ts:List Tr) (vs:List V) (y:Option V),σ=[some v,some (.ref lf),some (.ref lp),y]∧Same H H'∧H' lf=some (.lst (a34 (fs.map Tk.txt)))∧H' lp=some (.lst vs)∧Tr.Ats H' ts vs []∧okTs ts∧fs++toks ts.reverse=tok t0∧m=(toks ts).length:=⟨_,rfl⟩
   refine af3 Pv _ (by rw [hPv]; exact ⟨[],[t0],[v],none,rfl,s1.trans s2,s2 _ _ e1,e2,ats_cons0.mpr ⟨v,[],rfl,hv.same (s1.trans s2),ats_nil0.mpr rfl⟩,⟨ho,trivial⟩,by simp [toks],rfl⟩) ?_
   intro m σ H3 hP
   rw [hPv] at hP
   obtain ⟨fs,ts,vs,y,rfl,s3,e3,e4,hat,hok,htk,rfl⟩:=hP
   have hfl:fs.length+(toks ts).length≤5000:=by
    have:=congrArg List.length htk
    rw [List.length_append,aa6] at this
    omega
   have htl:=ay4 hok
   have hvl:vs.length=ts.length:=hat.len
   have hfo:∀ k∈fs,k.ok:=fun k hk=>br6 ho k (by rw [← htk]; simp [hk])
   walk_at "run"
   intro p5 H4 f4 s4 e5
   refine bx5 (SqL.of (s4 _ _ e4)) (SqL.of e5) ?_
   walk_at "run"
   have s04:=s3.trans s4
   rcases List.eq_nil_or_concat ts with rfl | ⟨tz,t,rfl⟩
   · obtain rfl:=ats_nil0.mp hat
     rw [if_neg (by simp)]
     walk_at "run"
     have e6:fs=tok t0:=by simpa [toks] using htk
     refine ⟨_,lf,fs.map Tk.txt,rfl,rfl,SqL.of (s4 _ _ e3),?_,?_⟩
     · have:∀ l:List Tk,(∀ k∈l,k.ok)→((l.map Tk.txt).map (·.length)).sum≤20*l.length:=fun l=>by
        induction l with
        | nil=>intro _; simp
        | cons k l ih =>
          intro hk
          have a:=(ay5 (hk k (by simp))).2
          have b:=ih fun x hx=>hk x (by simp [hx])
          simp only [List.map_cons,List.sum_cons,List.length_cons]
          omega
       have h1:=this fs hfo
       have h2:(Str.ofString " ").length=1:=by decide +kernel
       rw [h2,List.length_map]
       omega
     · have e7:Txt.join (Str.ofString " ") (fs.map Tk.txt)=keyY t0:=by
        unfold keyY
        rw [← e6]
        exact StrLaws.glued_eq_join _ _
       rw [e7]
       exact q _ s04
   rw [List.concat_eq_append] at hat hok htk htl hfl hvl ⊢
   obtain ⟨us,x,rfl,ha,hx⟩:=av2 hat
   obtain ⟨o1,o2,_⟩:=okTs_app.mp hok
   rw [if_pos (by simp)]
   rw [List.reverse_append,List.reverse_singleton] at htk
   refine ⟨fun σ' H'=>∃ m',m'<(toks (tz++[t])).length∧Pv m' σ' H',fun _ _ h=>h,?_⟩
   have htok:(toks (tz++[t])).length=(toks tz).length+(tok t).length:=by
    rw [ab2]
    simp [toks]
   have hul:us.length=tz.length:=ha.len
   rw [List.length_append,List.length_singleton] at htl
   walk_at "run"
   refine aa3 (SqL.of (s4 _ _ e4)) ?_
   walk_at "run"
   refine ca7 (s4 _ _ e4) ?_
   have t5:Tups H4 (upd H4 lp (.lst us)):=Tups.upd (s4 _ _ e4)
   have e35:upd H4 lp (.lst us) lf=some (.lst (a34 (fs.map Tk.txt))):=by rw [a14 hne]; exact s4 _ _ e3
   have e45:upd H4 lp (.lst us) lp=some (.lst us):=a18
   have s05:Same H (upd H4 lp (.lst us)):=s04.updNew (s1.free f2)
   have ha5:=a51 (ha.same s4) t5
   have hx5:=ap8 (hx.same s4) t5
   generalize upd H4 lp (.lst us)=H5 at e35 e45 s05 ha5 hx5
   have fin:∀ (k:Tk) (H6:Hp) (zs:List Tr) (ws:List V),tok t=k::toks zs→Same H H6→H6 lf=some (.lst (a34 (fs.map Tk.txt)++[.str k.txt]))→H6 lp=some (.lst (us++ws.reverse))→Tr.Ats H6 tz us []→Tr.Ats H6 zs ws []→okTs zs→∃ m',m'<(toks (tz++[t])).length∧Pv m' [some v,some (.ref lf),some (.ref lp),some x] H6:=fun k H6 zs ws hk s6 g1 g2 g3 g4 g5=>by
    refine ⟨(toks (tz++zs.reverse)).length,?_,?_⟩
    · rw [htok,ab2,List.length_append,aa6,hk,List.length_cons]
      omega
    · rw [hPv]
      refine ⟨fs++[k],tz++zs.reverse,us++ws.reverse,_,rfl,s6,by rw [g1]; simp [a34],g2,ay6 g3 (be4 g4),okTs_app.mpr ⟨o1,b18 g5⟩,?_,rfl⟩
      rw [List.reverse_append,List.reverse_reverse,ab2,←htk,List.append_assoc]
      simp only [ab2,toks,List.append_nil]
      rw [hk]
      simp
   have strl:(a34 (fs.map Tk.txt)).length<1000000:=by simp [a34]; omega
   walk_at "run"
   cases t with
   | non =>
     have hxv:x=.non:=by simp only [Tr.At] at hx5; exact hx5.1
     subst hxv
     refine ⟨_,_,_,false,rfl,.non,rfl,?_⟩
     walk_at "run"
     refine ⟨_,_,_,false,rfl,.non,rfl,?_⟩
     walk_at "run"
     rw [if_pos (by simp)]
     walk_at "run"
     refine aa3 (SqL.of e35) ?_
     walk_at "run"
     refine a57 e35 (Nat.lt_of_lt_of_le strl sl) ?_
     refine fin .nn _ [] [] (by simp [tok,toks]) (s05.updNew f1) a18 ?_ (a51 ha5 (Tups.upd e35)) (ats_nil0.mpr rfl) trivial
     rw [a14 hne.symm,e45]
     simp
   | lst _=>simp [okT] at o2
   | int z =>
     obtain ⟨z1,z2⟩:=o2
     have hxv:x=.int z:=by simp only [Tr.At] at hx5; exact hx5.1
     subst hxv
     refine by6 ?_
     walk_at "run"
     refine by7 ?_
     walk_at "run"
     rw [if_neg (by simp)]
     walk_at "run"
     refine aa3 (SqL.of e35) ?_
     walk_at "run"
     refine bp2 (Nat.lt_of_le_of_lt (Nat.log2_le_self _) (by omega)) ?_
     walk_at "run"
     refine a57 e35 (Nat.lt_of_lt_of_le strl sl) ?_
     refine fin (.num z.toNat) _ [] [] (by simp [tok,toks]) (s05.updNew f1) ?_ ?_ (a51 ha5 (Tups.upd e35)) (ats_nil0.mpr rfl) trivial
     · rw [a18]
       show _=some (HO.lst (_++[V.str (Str.ofString (toString ((z.toNat:Nat):Int)))]))
       rw [show ((z.toNat:Nat):Int)=z by omega]
     · rw [a14 hne.symm,e45]
       simp
   | str s =>
     have hxv:x=.str s:=by simp only [Tr.At] at hx5; exact hx5.1
     subst hxv
     have hz:=(ay5 (k:=.wd s) o2).2
     refine by5 ?_
     walk_at "run"
     refine aa3 (SqL.of e35) ?_
     walk_at "run"
     refine ⟨s,rfl,Nat.le_trans hz (le_line (by decide)),?_⟩
     walk_at "run"
     refine a57 e35 (Nat.lt_of_lt_of_le strl sl) ?_
     refine fin (.wd s) _ [] [] (by simp [tok,toks]) (s05.updNew f1) a18 ?_ (a51 ha5 (Tups.upd e35)) (ats_nil0.mpr rfl) trivial
     rw [a14 hne.symm,e45]
     simp
   | tup zs =>
     obtain ⟨z1,z2⟩:=o2
     simp only [Tr.At] at hx5
     obtain ⟨a,ws,rfl,ea,hz⟩:=hx5
     have hwl:ws.length=zs.length:=by have:=hz.len; simpa using this
     refine cb7 ea ?_
     walk_at "run"
     refine aa3 (SqL.of e35) ?_
     walk_at "run"
     refine ca4 (SqT.of ea) ?_
     walk_at "run"
     refine bp2 (Nat.lt_of_le_of_lt (Nat.log2_le_self _) (by omega)) ?_
     have hz2:=(ay5 (k:=.op zs.length) z1).2
     have etx:Str.ofString "("++Str.ofString (toString ((ws.length:Nat):Int))=(Tk.op zs.length).txt:=by rw [hwl]; rfl
     refine bv6 ?_ ?_
     · have h1:(Str.ofString "("++Str.ofString (toString ((ws.length:Nat):Int))).length=(Str.ofString "(").length+(Str.ofString (toString ((ws.length:Nat):Int))).length:=Array.size_append
       rw [etx] at h1
       omega
     rw [etx]
     walk_at "run"
     refine a57 e35 (Nat.lt_of_lt_of_le strl sl) ?_
     have e36:upd H5 lf (.lst (a34 (fs.map Tk.txt)++[.str (Tk.op zs.length).txt])) lf=some (.lst (a34 (fs.map Tk.txt)++[.str (Tk.op zs.length).txt])):=a18
     have e46:upd H5 lf (.lst (a34 (fs.map Tk.txt)++[.str (Tk.op zs.length).txt])) lp=some (.lst us):=by rw [a14 hne.symm]; exact e45
     have t6:Tups H5 (upd H5 lf (.lst (a34 (fs.map Tk.txt)++[.str (Tk.op zs.length).txt]))):=Tups.upd e35
     have s06:Same H (upd H5 lf (.lst (a34 (fs.map Tk.txt)++[.str (Tk.op zs.length).txt]))):=s05.updNew f1
     have ha6:=a51 ha5 t6
     have hz6:=a51 hz t6
     have ea6:=t6 _ _ ea
     generalize upd H5 lf (.lst (a34 (fs.map Tk.txt)++[.str (Tk.op zs.length).txt]))=H6 at e36 e46 s06 ha6 hz6 ea6
     walk_at "run"
     refine aa3 (SqL.of e46) ?_
     walk_at "run"
     unfold cd6
     walk_at "run"
     refine ⟨rfl,a,ws,rfl,SqT.of ea6,?_⟩
     intro pr H7 f7 s7 e7
     walk_at "run"
     refine ⟨lp,pr,us,ws.reverse,rfl,rfl,s7 _ _ e46,SqT.of e7,?_,?_⟩
     · rw [List.length_reverse]
       have:=ay4 z2
       have:(tok (.tup zs)).length=(toks zs).length+1:=by simp [tok]
       omega
     have t8:Tups H7 (upd H7 lp (.lst (us++ws.reverse))):=Tups.upd (s7 _ _ e46)
     exact fin (.op zs.length) _ zs ws (by simp [tok]) ((s06.trans s7).updNew (s1.free f2)) (by rw [a14 hne]; exact s7 _ _ e36) a18 (a51 (ha6.same s7) t8) (a51 (hz6.same s7) t8) z2
def rndB (m:Nat):List Nd:=(List.range m).map fun i=>.wait 1 [] (i+1)
def k1P:List Pt:=[.s "key",.i 1]
def rnd1 (m sd:Nat):List Nd:=(rndB m).set (m - 1) (.wait 1 [] (if sd=3 then m else 0))
def rnd2 (m sd:Nat):List Nd:=if sd=2 then (rnd1 m sd).set 0 (.wait 1 [(k1P,m)] (if m=1 then 0 else 1)) else rnd1 m sd
def rndN (m sd:Nat):List Nd:=rnd2 m sd++(if 1<sd then [.say (if sd=2 then "tock" else "tick") 0] else [])
theorem ah6 (m sd:Nat):(rnd2 m sd).length=m:=by
 unfold rnd2 rnd1 rndB
 split <;> simp
theorem ah7 {H:Hp}{a q:Addr}{l:Int}{n:Nat}{bs:List (List Pt×Nat)}{us:List V}(h:H a=some (.tup [.str "wait",.int l,.ref q,.int (n:Nat)])) (hq:H q=some (.tup us)) (hu:Tr.Ats H (bs.map brT) us []):(Nd.wait l bs n).tr.At H (.ref a) []:=by
 simp only [Nd.tr,Nd.its,Tr.At,Tr.Ats]
 exact ⟨a,_,rfl,h,_,_,[],[],rfl,rfl,⟨rfl,rfl⟩,_,_,[],[],rfl,rfl,⟨rfl,rfl⟩,_,_,[],[],rfl,rfl,⟨q,us,rfl,hq,hu⟩,_,_,[],[],rfl,rfl,⟨rfl,rfl⟩,rfl,rfl⟩
theorem ak6 {H:Hp}{a:Addr}{n:Nat}{w:Str}(h:H a=some (.tup [.str "say",.str w,.int (n:Nat)])):(Nd.say w n).tr.At H (.ref a) []:=by
 simp only [Nd.tr,Nd.its,Tr.At,Tr.Ats]
 exact ⟨a,_,rfl,h,_,_,[],[],rfl,rfl,⟨rfl,rfl⟩,_,_,[],[],rfl,rfl,⟨rfl,rfl⟩,_,_,[],[],rfl,rfl,⟨rfl,rfl⟩,rfl,rfl⟩
theorem b19 {H:Hp}{a:Addr}{m n:Nat}(h:H a=some (.tup [.str "call",.int (m:Nat),.int (n:Nat)])):(Nd.call m n).tr.At H (.ref a) []:=by
 simp only [Nd.tr,Nd.its,Tr.At,Tr.Ats]
 exact ⟨a,_,rfl,h,_,_,[],[],rfl,rfl,⟨rfl,rfl⟩,_,_,[],[],rfl,rfl,⟨rfl,rfl⟩,_,_,[],[],rfl,rfl,⟨rfl,rfl⟩,rfl,rfl⟩
theorem bm8 {H:Hp}{a:Addr}(h:H a=some (.tup [.str "stop"])):Nd.stop.tr.At H (.ref a) []:=by
 simp only [Nd.tr,Nd.its,Tr.At,Tr.Ats]
 exact ⟨a,_,rfl,h,_,_,[],[],rfl,rfl,⟨rfl,rfl⟩,rfl,rfl⟩
theorem be5 {H:Hp}{a q:Addr}{k:Int}{n:Nat}(h:H a=some (.tup [.ref q,.int (n:Nat)])) (hq:H q=some (.tup [.str "key",.int k])):(brT ([.s "key",.i k],n)).At H (.ref a) []:=aa4 h (aa4 hq a68 aj2) aj2
theorem ay7 {H:Hp}{t:Tr}{v:V}(ht:t.At H v []):∀ {ts:List Tr}{vs:List V}(j:Nat),Tr.Ats H ts vs []→Tr.Ats H (ts.set j t) (vs.set j v) []
 | [],vs,j,h=>by
   obtain rfl:=ats_nil0.mp h
   simpa using h
 | x::xs,vs,j,h=>by
   obtain ⟨w,ws,rfl,h1,h2⟩:=ats_cons0.mp h
   cases j with
   | zero=>exact ats_cons0.mpr ⟨v,ws,rfl,ht,h2⟩
   | succ j=>exact ats_cons0.mpr ⟨w,ws.set j v,rfl,h1,ay7 ht j h2⟩
def bm9 (K:PySem.W.Frag):Sp:=fun vs H Q _=>∃ (m sd:Nat),vs=[.int (m:Nat),.int (sd:Nat)]∧1≤m∧m≤60∧sd<4∧∀ p us H',H p=none→Same H H'→H' p=some (.lst us)→Tr.Ats H' ((rndN m sd).map Nd.tr) us []→Q (.ref p) H'
theorem av3 (T:Txt K mg t):FnOk P w K mg base CX0 1 t.a__law_round t.fd__law_round ["many","said"] (bm9 K):=by
 refine T.f__law_round.F.ok sc_law_round (fun vs H Q E h=>?_) (fun cdv A outer s H vs Q E hr h=>?_)
 · obtain ⟨m,sd,rfl,_⟩:=h
   rfl
 · obtain ⟨m,sd,rfl,hm,hm2,hsd,q⟩:=h
   refine ⟨_,(@a01 _ _ _ _ _ (c75 (i:=2) (Nt:=["k"]) (Nf:=[]) (caps:=[]) rfl (af2 (sc:=a07 ac4) rfl rfl (by decide +kernel) (by decide +kernel) (by decide +kernel) rfl (by decide +kernel)) (b61 rfl T.z_range (@a00 _ _ _ _ _ (pv 0) (@a02 _) (by rfl))) (fun _ _ _ _ _=>(a24 (i:=0) (show (["k"]:List Str).Nodup by decide +kernel) rfl (by walk_at "o"))) (fun _ _ _ _ _=>(@ai9 _)) (fun _ _ _ _ _=>(@a19 _ _ _ _ _ (@a00 _ _ _ _ _ (@a22 _ _ _ _) (@a00 _ _ _ _ _ (@a03 _ _ _ _) (@a00 _ _ _ _ _ (@a19 _ _ _ _ _ (@a02 _)) (@a00 _ _ _ _ _ (@a45 _ _ _ _ _ _ _ _ a66 (pv 0) (@a03 _ _ _ _)) (@a02 _) (by rfl)) (by rfl)) (by rfl)) (by rfl)))) sc_law_round.nd rfl (by walk_at "o") rfl)
    (@a01 _ _ _ _ _ (@ai0 _ _ _ _ _ _ (@a19 _ _ _ _ _ (@a00 _ _ _ _ _ (@a22 _ _ _ _) (@a00 _ _ _ _ _ (@a03 _ _ _ _) (@a00 _ _ _ _ _ (@a19 _ _ _ _ _ (@a02 _)) (@a00 _ _ _ _ _ (@a12 _ _ _ _ _ _ _ (a15 K) (@a30 _ _ _ _ (@a00 _ _ _ _ _ (@a03 _ _ _ _) (@a00 _ _ _ _ _ (pv 0) (@a02 _) (by rfl)) (by rfl))) (@a33 _ _ _ _ _ _ _ _ _ az8 (by rfl) T.z_int b00 (@a00 _ _ _ _ _ (@a86 _ _ _ _ _ _ _ _ a60 (pv 1) (@a03 _ _ _ _) (nomark _)) (@a02 _) (by rfl)) (by decide) (by decide) (by rfl) (by rfl)) (fun _ _=>rfl)) (@a02 _) (by rfl)) (by rfl)) (by rfl)) (by rfl))) (bn8 (pv 2) (@ar5 _ _ _ _ _ _ af8 (@a03 _ _ _ _)) az4) (by rfl) (by rfl) (by rfl))
    (@a62 _ _ _ _ _ (@a32 _ _ _ _ _ _ _ _ (@a09 _ _ _ _ _ _ _ _ a60 (pv 1) (@a03 _ _ _ _) (nomark _)) (@a05 _ _ _ (@ai0 _ _ _ _ _ _ (@a19 _ _ _ _ _ (@a00 _ _ _ _ _ (@a22 _ _ _ _) (@a00 _ _ _ _ _ (@a03 _ _ _ _) (@a00 _ _ _ _ _ (@a19 _ _ _ _ _ (@a00 _ _ _ _ _ (@a19 _ _ _ _ _ (@a00 _ _ _ _ _ (@a19 _ _ _ _ _ (@a00 _ _ _ _ _ (@a22 _ _ _ _) (@a00 _ _ _ _ _ (@a03 _ _ _ _) (@a02 _) (by rfl)) (by rfl))) (@a00 _ _ _ _ _ (pv 0) (@a02 _) (by rfl)) (by rfl))) (@a02 _) (by rfl))) (@a00 _ _ _ _ _ (@a12 _ _ _ _ _ _ _ (a15 K) (@a30 _ _ _ _ (@a00 _ _ _ _ _ (@a03 _ _ _ _) (@a00 _ _ _ _ _ (@a03 _ _ _ _) (@a02 _) (by rfl)) (by rfl))) (@a33 _ _ _ _ _ _ _ _ _ az8 (by rfl) T.z_int b00 (@a00 _ _ _ _ _ (@a86 _ _ _ _ _ _ _ _ a60 (pv 0) (@a03 _ _ _ _) (nomark _)) (@a02 _) (by rfl)) (by decide) (by decide) (by rfl) (by rfl)) (fun _ _=>rfl)) (@a02 _) (by rfl)) (by rfl)) (by rfl)) (by rfl))) (bn8 (pv 2) (@a03 _ _ _ _) az4) (by rfl) (by rfl) (by rfl))) (@a20 _))
    (@a62 _ _ _ _ _ (@a32 _ _ _ _ _ _ _ _ (@a09 _ _ _ _ _ _ _ _ bg4 (pv 1) (@a03 _ _ _ _) (nomark _)) (@a05 _ _ _ (@a49 _ _ _ _ (@a70 _ K _ _ _ _ _ _ _ _ _ _ _ PySem.F.plainAttrs_list PySem.F.slot_list_append PySem.F.type_list_append a40 (pv 2) (@a00 _ _ _ _ _ (@a19 _ _ _ _ _ (@a00 _ _ _ _ _ (@a22 _ _ _ _) (@a00 _ _ _ _ _ (@a12 _ _ _ _ _ _ _ (a15 K) (@a30 _ _ _ _ (@a00 _ _ _ _ _ (@a22 _ _ _ _) (@a00 _ _ _ _ _ (@a22 _ _ _ _) (@a02 _) (by rfl)) (by rfl))) (@a45 _ _ _ _ _ _ _ _ ar6 (pv 1) (@a03 _ _ _ _)) (fun _ _=>rfl)) (@a00 _ _ _ _ _ (@a03 _ _ _ _) (@a02 _) (by rfl)) (by rfl)) (by rfl))) (@a02 _) (by rfl)) (by rfl) (by rfl) (by rfl) (by rfl) (by rfl) (by rfl)) (by rfl))) (@a20 _))
    (@a05 _ _ _ (@a17 _ _ _ _ (pv 2))))))),?_⟩
   have sl:(1000000:Nat)≤sizeLine:=le_line (Nat.le_refl _)
   walk_at "go"
   rw [show ((m:Nat):Int).toNat=m by omega]
   refine bi5 (n:=m) (le_line (by omega)) (fun i acc H'=>Same H H'∧i≤m∧acc.length=i∧Tr.Ats H' (((rndB m).take i).map Nd.tr) acc []) ⟨Same.refl _,Nat.zero_le _,rfl,by simp [Tr.Ats]⟩ (fun i acc H' ⟨_,_,e,_⟩=>by omega) ?_ ?_
   · rintro i acc H1 hi ⟨s1,him,ha,hat⟩
     walk_at "run"
     intro p2 H2 f2 s2 e2
     walk_at "run"
     intro p3 H3 f3 s3 e3
     have hb:(rndB m)[i]?=some (.wait 1 [] (i+1)):=by unfold rndB; rw [List.getElem?_map,List.getElem?_range hi]; rfl
     refine ⟨s1.trans (s2.trans s3),by omega,by simp [ha],?_⟩
     rw [List.take_add_one,hb,List.map_append]
     exact Tr.Ats.snoc (fs:=[]) (gs:=[]) (hat.same (s2.trans s3)) (ah7 (n:=i+1) (bs:=[]) (by rw [e3]; simp) (s3 _ _ e2) (ats_nil0.mpr rfl))
   rintro us H1 ⟨s1,_,hul,hat⟩ p2 H2 f2 s2 e2
   rw [List.take_of_length_le (by simp [rndB])] at hat
   walk_at "run"
   intro q3 H3 f3 s3 e3
   walk_at "run"
   intro q4 H4 f4 s4 e4
   obtain ⟨lv,hlv,hlvn⟩:∃ lv:Nat,atI [V.int 0,V.int (m:Nat)] (if decide ((sd:Int)=3)=true then 1 else 0)=some (.int (lv:Nat))∧lv=if sd=3 then m else 0:=by
    by_cases h3:sd=3
    · rw [if_pos (decide_eq_true (by omega)),if_pos h3]
      exact ⟨m,rfl,rfl⟩
    · rw [if_neg (by simp; omega),if_neg h3]
      exact ⟨0,rfl,rfl⟩
   walk_at "run"
   refine a42 (SqL.of e4) hlv ?_
   walk_at "run"
   intro q5 H5 f5 s5 e5
   walk_at "run"
   have s25:=s3.trans (s4.trans s5)
   have hp5:=s25 _ _ e2
   have hix:ixN us.length (-1)=some (m - 1):=by
    unfold ixN
    rw [if_neg (by omega),if_pos (by omega),hul]
    congr 1
    omega
   refine bp5 hp5 (j:=m - 1) hix ?_
   have hw5:(Nd.wait 1 [] lv).tr.At H5 (.ref q5) []:=ah7 e5 ((s4.trans s5) _ _ e3) (ats_nil0.mpr rfl)
   have hat5:Tr.Ats H5 ((rnd1 m sd).map Nd.tr) (us.set (m - 1) (.ref q5)) []:=by
    unfold rnd1
    rw [List.map_set,←hlvn]
    exact ay7 hw5 _ (hat.same (s2.trans s25))
   have s05:=s1.trans (s2.trans s25)
   have hat6:=a51 hat5 (Tups.upd (o:=.lst (us.set (m - 1) (.ref q5))) hp5)
   have s06:Same H (upd H5 p2 (.lst (us.set (m - 1) (.ref q5)))):=s05.updNew (s1.free f2)
   have e6:upd H5 p2 (.lst (us.set (m - 1) (.ref q5))) p2=some (.lst (us.set (m - 1) (.ref q5))):=a18
   have hul6:(us.set (m - 1) (V.ref q5)).length=m:=by rw [List.length_set,hul]
   generalize us.set (m - 1) (.ref q5)=us6 at hat6 e6 s06 hul6 ⊢
   generalize upd H5 p2 (.lst us6)=H6 at hat6 e6 s06 ⊢
   have fp2:H p2=none:=s1.free f2
   walk_at "run"
   refine ab9 (fun σ' H'=>∃ us7,Same H H'∧H' p2=some (.lst us7)∧us7.length=m∧Tr.Ats H' ((rnd2 m sd).map Nd.tr) us7 []∧σ'=[some (.int (m:Nat)),some (.int (sd:Nat)),some (.ref p2)]) ?_ ?_
   · walk_at "run"
     by_cases h2:sd=2
     · refine a26 (by omega) ?_
       walk_at "run"
       intro q7 H7 f7 s7 e7
       walk_at "run"
       intro q8 H8 f8 s8 e8
       walk_at "run"
       intro q9 H9 f9 s9 e9
       walk_at "run"
       intro q10 H10 f10 s10 e10
       obtain ⟨lw,hlw,hlwn⟩:∃ lw:Nat,atI [V.int 1,V.int 0] (if decide ((m:Int)=1)=true then 1 else 0)=some (.int (lw:Nat))∧lw=if m=1 then 0 else 1:=by
        by_cases h3:m=1
        · rw [if_pos (decide_eq_true (by omega)),if_pos h3]
          exact ⟨0,rfl,rfl⟩
        · rw [if_neg (by simp; omega),if_neg h3]
          exact ⟨1,rfl,rfl⟩
       walk_at "run"
       refine a42 (SqL.of e10) hlw ?_
       walk_at "run"
       intro q11 H11 f11 s11 e11
       walk_at "run"
       have s911:=s10.trans s11
       have s811:=s9.trans s911
       have hp11:=(s7.trans (s8.trans s811)) _ _ e6
       refine bp5 hp11 (j:=0) (by unfold ixN; rw [if_pos (by omega),if_pos (by omega)]; rfl) ?_
       have hw11:(Nd.wait 1 [(k1P,m)] lw).tr.At H11 (.ref q11) []:=ah7 e11 (s911 _ _ e9) (ats_cons0.mpr ⟨_,_,rfl,be5 (s811 _ _ e8) ((s8.trans s811) _ _ e7),ats_nil0.mpr rfl⟩)
       have s611:=s7.trans (s8.trans s811)
       refine ⟨_,(s06.trans s611).updNew fp2,a18,by rw [List.length_set,hul6],a51 ?_ (Tups.upd hp11),rfl⟩
       unfold rnd2
       rw [if_pos h2,List.map_set,←hlwn]
       exact ay7 hw11 0 (hat6.same s611)
     · refine a25 (by omega) ?_
       walk_at "run"
       refine ⟨us6,s06,e6,hul6,?_,rfl⟩
       unfold rnd2
       rw [if_neg h2]
       exact hat6
   rintro σ' H7 ⟨us7,s07,e7,hul7,hat7,rfl⟩
   walk_at "run"
   refine ab9 (fun σ' H'=>∃ us8,Same H H'∧H' p2=some (.lst us8)∧Tr.Ats H' ((rndN m sd).map Nd.tr) us8 []∧σ'=[some (.int (m:Nat)),some (.int (sd:Nat)),some (.ref p2)]) ?_ ?_
   · walk_at "run"
     by_cases h1:1<sd
     · refine a26 (by omega) ?_
       walk_at "run"
       refine aa3 (SqL.of e7) ?_
       walk_at "run"
       intro q8 H8 f8 s8 e8
       walk_at "run"
       obtain ⟨wd,hwd,hwn⟩:∃ wd:Str,atI [V.str "tock",V.str "tick"] ((sd:Int) - 2)=some (.str wd)∧wd=if sd=2 then Str.ofString "tock" else Str.ofString "tick":=by
        have:sd=2∨sd=3:=by omega
        rcases this with rfl | rfl
        · exact ⟨_,rfl,rfl⟩
        · exact ⟨_,rfl,rfl⟩
       refine a42 (SqL.of e8) hwd ?_
       walk_at "run"
       intro q9 H9 f9 s9 e9
       walk_at "run"
       have h9:=(s8.trans s9) _ _ e7
       refine a57 h9 (by omega) ?_
       refine ⟨_,(s07.trans (s8.trans s9)).updNew fp2,a18,a51 ?_ (Tups.upd h9),rfl⟩
       unfold rndN
       rw [if_pos h1,List.map_append,←hwn]
       exact Tr.Ats.snoc (fs:=[]) (gs:=[]) (hat7.same (s8.trans s9)) (ak6 (n:=0) e9)
     · refine a25 (by omega) ?_
       walk_at "run"
       refine ⟨us7,s07,e7,?_,rfl⟩
       unfold rndN
       rw [if_neg h1,List.append_nil]
       exact hat7
   rintro σ' H8 ⟨us8,s08,e8,hat8,rfl⟩
   walk_at "run"
   exact q p2 us8 H8 fp2 s08 e8 hat8
def endN (k:Nat):List Nd:=[.wait 0 [([.s "key",.i (k:Nat)],1),([.s "key",.i (k+1:Nat)],2)] 0,.call 0 3,.call 0 4,.say "a" 5,.say "b" 5,.stop,.say "hello" 0]
def c21 (K:PySem.W.Frag):Sp:=fun vs H Q _=>∃ (k:Nat),vs=[.int (k:Nat),.str "hello"]∧k≤100∧∀ p us H',H p=none→Same H H'→H' p=some (.lst us)→Tr.Ats H' ((endN k).map Nd.tr) us []→Q (.ref p) H'
theorem al7 (T:Txt K mg t):FnOk P w K mg base CX0 1 t.a__law_endless t.fd__law_endless ["key","word"] (c21 K):=by
 refine T.f__law_endless.F.ok sc_law_endless (fun vs H Q E h=>?_) (fun cdv A outer s H vs Q E hr h=>?_)
 · obtain ⟨k,rfl,_⟩:=h
   rfl
 · obtain ⟨k,rfl,hk,q⟩:=h
   refine ⟨_,(@a01 _ _ _ _ _ (@a16 _ _ 2 _ _ _ _ sc_law_endless.nd rfl (by walk_at "o") (@a30 _ _ _ _ (@a00 _ _ _ _ _ (@a19 _ _ _ _ _ (@a00 _ _ _ _ _ (@a22 _ _ _ _) (@a00 _ _ _ _ _ (@a03 _ _ _ _) (@a00 _ _ _ _ _ (@a19 _ _ _ _ _ (@a00 _ _ _ _ _ (@a19 _ _ _ _ _ (@a00 _ _ _ _ _ (@a19 _ _ _ _ _ (@a00 _ _ _ _ _ (@a22 _ _ _ _) (@a00 _ _ _ _ _ (pv 0) (@a02 _) (by rfl)) (by rfl))) (@a00 _ _ _ _ _ (@a03 _ _ _ _) (@a02 _) (by rfl)) (by rfl))) (@a00 _ _ _ _ _ (@a19 _ _ _ _ _ (@a00 _ _ _ _ _ (@a19 _ _ _ _ _ (@a00 _ _ _ _ _ (@a22 _ _ _ _) (@a00 _ _ _ _ _ (@a45 _ _ _ _ _ _ _ _ a66 (pv 0) (@a03 _ _ _ _)) (@a02 _) (by rfl)) (by rfl))) (@a00 _ _ _ _ _ (@a03 _ _ _ _) (@a02 _) (by rfl)) (by rfl))) (@a02 _) (by rfl)) (by rfl))) (@a00 _ _ _ _ _ (@a03 _ _ _ _) (@a02 _) (by rfl)) (by rfl)) (by rfl)) (by rfl))) (@a00 _ _ _ _ _ (@a19 _ _ _ _ _ (@a00 _ _ _ _ _ (@a22 _ _ _ _) (@a00 _ _ _ _ _ (@a03 _ _ _ _) (@a00 _ _ _ _ _ (@a03 _ _ _ _) (@a02 _) (by rfl)) (by rfl)) (by rfl))) (@a00 _ _ _ _ _ (@a19 _ _ _ _ _ (@a00 _ _ _ _ _ (@a22 _ _ _ _) (@a00 _ _ _ _ _ (@a03 _ _ _ _) (@a00 _ _ _ _ _ (@a03 _ _ _ _) (@a02 _) (by rfl)) (by rfl)) (by rfl))) (@a02 _) (by rfl)) (by rfl)) (by rfl))) (by rfl) (by walk_at "o"))
    (@a05 _ _ _ (@a17 _ _ _ _ (@a45 _ _ _ _ _ _ _ _ a66 (pv 2) (@a30 _ _ _ _ (@a00 _ _ _ _ _ (@a19 _ _ _ _ _ (@a00 _ _ _ _ _ (@a22 _ _ _ _) (@a00 _ _ _ _ _ (@a22 _ _ _ _) (@a00 _ _ _ _ _ (@a03 _ _ _ _) (@a02 _) (by rfl)) (by rfl)) (by rfl))) (@a00 _ _ _ _ _ (@a19 _ _ _ _ _ (@a00 _ _ _ _ _ (@a22 _ _ _ _) (@a00 _ _ _ _ _ (@a22 _ _ _ _) (@a00 _ _ _ _ _ (@a03 _ _ _ _) (@a02 _) (by rfl)) (by rfl)) (by rfl))) (@a00 _ _ _ _ _ (@a19 _ _ _ _ _ (@a00 _ _ _ _ _ (@a22 _ _ _ _) (@a02 _) (by rfl))) (@a00 _ _ _ _ _ (@a19 _ _ _ _ _ (@a00 _ _ _ _ _ (@a22 _ _ _ _) (@a00 _ _ _ _ _ (pv 1) (@a00 _ _ _ _ _ (@a03 _ _ _ _) (@a02 _) (by rfl)) (by rfl)) (by rfl))) (@a02 _) (by rfl)) (by rfl)) (by rfl)) (by rfl))))))),?_⟩
   have sl:(1000000:Nat)≤sizeLine:=le_line (Nat.le_refl _)
   walk_at "go"
   intro p1 H1 f1 s1 e1
   walk_at "run"
   intro p2 H2 f2 s2 e2
   walk_at "run"
   intro p3 H3 f3 s3 e3
   walk_at "run"
   intro p4 H4 f4 s4 e4
   walk_at "run"
   intro p5 H5 f5 s5 e5
   walk_at "run"
   intro p6 H6 f6 s6 e6
   walk_at "run"
   intro p7 H7 f7 s7 e7
   walk_at "run"
   intro p8 H8 f8 s8 e8
   walk_at "run"
   intro p9 H9 f9 s9 e9
   walk_at "run"
   intro q1 H10 f10 s10 e10
   walk_at "run"
   intro q2 H11 f11 s11 e11
   walk_at "run"
   intro q3 H12 f12 s12 e12
   walk_at "run"
   intro q4 H13 f13 s13 e13
   walk_at "run"
   intro q5 H14 f14 s14 e14
   walk_at "run"
   have s914:=s10.trans (s11.trans (s12.trans (s13.trans s14)))
   refine aw8 (s914 _ _ e9) e14 (by simp; omega) ?_
   intro p H15 f15 s15 e15
   have s515:=s6.trans (s7.trans (s8.trans (s9.trans (s914.trans s15))))
   have s115:=s2.trans (s3.trans (s4.trans (s5.trans s515)))
   have s815:=s9.trans (s914.trans s15)
   have s1015:=s11.trans (s12.trans (s13.trans (s14.trans s15)))
   have fp:H p=none:=(s1.trans (s2.trans (s3.trans (s4.trans (s5.trans (s6.trans (s7.trans (s8.trans (s9.trans s914))))))))).free f15
   refine q p _ H15 fp (s1.trans s115) e15 ?_
   have hk1:(1:Int)=((1:Nat):Int):=rfl
   have b1:(brT ([.s "key",.i (k:Nat)],1)).At H15 (.ref p2) []:=be5 ((s3.trans (s4.trans (s5.trans s515))) _ _ e2) (s115 _ _ e1)
   have b2:(brT ([.s "key",.i (k+1:Nat)],2)).At H15 (.ref p4) []:=be5 ((s5.trans s515) _ _ e4) (by rw [(s4.trans (s5.trans s515)) _ _ e3]; simp)
   have w0:(Nd.wait 0 [([.s "key",.i (k:Nat)],1),([.s "key",.i (k+1:Nat)],2)] 0).tr.At H15 (.ref p6) []:=ah7 (n:=0) ((s7.trans (s8.trans s815)) _ _ e6) (s515 _ _ e5) (ats_cons0.mpr ⟨_,_,rfl,b1,ats_cons0.mpr ⟨_,_,rfl,b2,ats_nil0.mpr rfl⟩⟩)
   simp only [List.cons_append,List.nil_append]
   exact ats_cons0.mpr ⟨_,_,rfl,w0,ats_cons0.mpr ⟨_,_,rfl,b19 (m:=0) (n:=3) ((s8.trans s815) _ _ e7),ats_cons0.mpr ⟨_,_,rfl,b19 (m:=0) (n:=4) (s815 _ _ e8),ats_cons0.mpr ⟨_,_,rfl,ak6 (n:=5) (s1015 _ _ e10),ats_cons0.mpr ⟨_,_,rfl,ak6 (n:=5) ((s12.trans (s13.trans (s14.trans s15))) _ _ e11),ats_cons0.mpr ⟨_,_,rfl,bm8 ((s13.trans (s14.trans s15)) _ _ e12),ats_cons0.mpr ⟨_,_,rfl,ak6 (n:=0) ((s14.trans s15) _ _ e13),ats_nil0.mpr rfl⟩⟩⟩⟩⟩⟩⟩
inductive Gk where
 | rnd (m sd:Nat)
 | inf (k:Nat) (hello:Bool)
def Gk.ok:Gk→Prop
 | .rnd m sd=>1≤m∧m≤60∧sd<4
 | .inf k _=>k≤8
def Gk.ns:Gk→List Nd
 | .rnd m sd=>rndN m sd
 | .inf k _=>endN k
def Gk.f:Gk→Nat
 | .rnd _ _=>0
 | .inf _ h=>if h then 6 else 0
def Gk.isI:Gk→Bool
 | .rnd _ _=>false
 | .inf _ _=>true
def Gk.many:Gk→Nat
 | .rnd m _=>m
 | .inf _ _=>0
def quT:Tr:=.tup [.str "quiet"]
def keT (k:Nat):Tr:=.tup [.str "key",.int (k:Nat)]
def Gk.es:Gk→List Tr
 | .rnd _ sd=>if sd=2 then [quT,keT 1] else [quT]
 | .inf k _=>[quT,keT k,keT (k+1)]
structure GkAt (H:Hp) (l:Addr) (g:Gk) (gt bx nd ev:Addr) (un eu:List V):Prop where
 l:H l=some (.lst [.ref gt,.bl g.isI,.int (g.many:Nat),.ref ev])
 t:H gt=some (.tup [.ref bx,.ref nd,.int (g.f:Nat)])
 b:H bx=some (.lst [])
 n:H nd=some (.lst un)
 an:Tr.Ats H (g.ns.map Nd.tr) un []
 e:H ev=some (.lst eu)
 ae:Tr.Ats H g.es eu []
theorem GkAt.same {H H':Hp}{l:Addr}{g:Gk}{gt bx nd ev:Addr}{un eu:List V}(h:GkAt H l g gt bx nd ev un eu) (s:Same H H'):GkAt H' l g gt bx nd ev un eu :=
 ⟨s _ _ h.l,s _ _ h.t,s _ _ h.b,s _ _ h.n,h.an.same s,s _ _ h.e,h.ae.same s⟩
theorem cl9 {ds:List Nat}(h:ds.length=5):∃ a b c d e,ds=[a,b,c,d,e]:=by
 match ds,h with
 | [a,b,c,d,e],_=>exact ⟨a,b,c,d,e,rfl⟩
theorem be6 {us:List V}{k:Nat}:cutV us none (some (k:Int))=us.take k:=by
 unfold cutV
 have h0:HT.sIx us.length 0 (none:Option Int)=0:=rfl
 have h1:HT.sIx us.length us.length (some (k:Int))=min k us.length:=by
  unfold HT.sIx
  simp only
  split <;> omega
 rw [h0,h1,List.drop_zero,Nat.sub_zero]
 rcases Nat.le_total k us.length with h | h
 · rw [Nat.min_eq_left h]
 · rw [Nat.min_eq_right h,List.take_of_length_le (Nat.le_refl _),List.take_of_length_le h]
def c22 (K:PySem.W.Frag):Sp:=fun vs H Q _=>∃ (c:Int),vs=[.int c]∧∀ g gt bx nd ev un eu l H',Same H H'→Gk.ok g→GkAt H' l g gt bx nd ev un eu→Q (.ref l) H'
theorem ay8 (T:Txt K mg t):FnOk P w K mg base CX0 3 t.a__law_made t.fd__law_made ["cell"] (c22 K):=by
 have G__law_drawn:=av1 (P:=P) (w:=w) (base:=base) T
 have G__law_endless:=al7 (P:=P) (w:=w) (base:=base) T
 have G__law_round:=av3 (P:=P) (w:=w) (base:=base) T
 refine T.f__law_made.F.ok sc_law_made (fun vs H Q E h=>?_) (fun cdv A outer s H vs Q E hr h=>?_)
 · obtain ⟨c,rfl,_⟩:=h
   rfl
 · obtain ⟨c,rfl,q⟩:=h
   refine ⟨_,(@a01 _ _ _ _ _ (@ai0 _ _ _ _ _ _ (@a21 _ _ _ _ _ _ _ _ _ _ _ _ _ _ _ _ G__law_drawn (hr.mono (by omega)) rfl T.f__law_drawn.m T.f__law_drawn.F.kp T.f__law_drawn.b .nil a27 (@a00 _ _ _ _ _ (pv 0) (@a00 _ _ _ _ _ (@a30 _ _ _ _ (@a00 _ _ _ _ _ (@a03 _ _ _ _) (@a00 _ _ _ _ _ (@a03 _ _ _ _) (@a00 _ _ _ _ _ (@a03 _ _ _ _) (@a00 _ _ _ _ _ (@a03 _ _ _ _) (@a00 _ _ _ _ _ (@a03 _ _ _ _) (@a02 _) (by rfl)) (by rfl)) (by rfl)) (by rfl)) (by rfl))) (@a02 _) (by rfl)) (by rfl)) (by decide) (by rfl) (by rfl)) (bw3 K (n:=5) rfl (a28 (a24 (i:=1) sc_law_made.nd rfl (by walk_at "o")) (a28 (a24 (i:=2) sc_law_made.nd rfl (by walk_at "o")) (a28 (a24 (i:=3) sc_law_made.nd rfl (by walk_at "o")) (a28 (a24 (i:=4) sc_law_made.nd rfl (by walk_at "o")) (a28 (a24 (i:=5) sc_law_made.nd rfl (by walk_at "o")) (@a78 _))))))) (by rfl) (by rfl) (by rfl))
    (@a01 _ _ _ _ _ (@a32 _ _ _ _ _ _ _ _ (@a81 _ _ _ (@PW.pt _ _ _ (@ac9 _ _ _ _ _ _ _ (@a09 _ _ _ _ _ _ _ _ a60 (pv 1) (@a03 _ _ _ _) (nomark _)) (@a97 _ _ _ _ (@a09 _ _ _ _ _ _ _ _ bg4 (pv 4) (@a03 _ _ _ _) (nomark _)))))) (@a01 _ _ _ _ _ (@a16 _ _ 6 _ _ _ _ sc_law_made.nd rfl (by walk_at "o") (@a30 _ _ _ _ (@a00 _ _ _ _ _ (@a19 _ _ _ _ _ (@a00 _ _ _ _ _ (@a22 _ _ _ _) (@a02 _) (by rfl))) (@a00 _ _ _ _ _ (@a19 _ _ _ _ _ (@a00 _ _ _ _ _ (@a22 _ _ _ _) (@a00 _ _ _ _ _ (pv 3) (@a02 _) (by rfl)) (by rfl))) (@a00 _ _ _ _ _ (@a19 _ _ _ _ _ (@a00 _ _ _ _ _ (@a22 _ _ _ _) (@a00 _ _ _ _ _ (@a45 _ _ _ _ _ _ _ _ a66 (pv 3) (@a03 _ _ _ _)) (@a02 _) (by rfl)) (by rfl))) (@a02 _) (by rfl)) (by rfl)) (by rfl))) (by rfl) (by walk_at "o"))
     (@a05 _ _ _ (@a17 _ _ _ _ (@a30 _ _ _ _ (@a00 _ _ _ _ _ (@a19 _ _ _ _ _ (@a00 _ _ _ _ _ (@a30 _ _ _ _ (@a02 _)) (@a00 _ _ _ _ _ (@a21 _ _ _ _ _ _ _ _ _ _ _ _ _ _ _ _ G__law_endless (hr.mono (by omega)) rfl T.f__law_endless.m T.f__law_endless.F.kp T.f__law_endless.b .nil a27 (@a00 _ _ _ _ _ (pv 3) (@a00 _ _ _ _ _ (@a22 _ _ _ _) (@a02 _) (by rfl)) (by rfl)) (by decide) (by rfl) (by rfl)) (@a00 _ _ _ _ _ (@a45 _ _ _ _ _ _ _ _ ad7 (@a03 _ _ _ _) (@a45 _ _ _ _ _ _ _ _ a98 (pv 4) (@a03 _ _ _ _))) (@a02 _) (by rfl)) (by rfl)) (by rfl))) (@a00 _ _ _ _ _ (@ag4 _ _ _ _) (@a00 _ _ _ _ _ (@a03 _ _ _ _) (@a00 _ _ _ _ _ (pv 6) (@a02 _) (by rfl)) (by rfl)) (by rfl)) (by rfl)))))) (@a20 _))
    (@a01 _ _ _ _ _ (@a16 _ _ 2 _ _ _ _ sc_law_made.nd rfl (by walk_at "o") (@a12 _ _ _ _ _ _ _ (a15 K) (@a30 _ _ _ _ (@a00 _ _ _ _ _ (@a45 _ _ _ _ _ _ _ _ a66 (@a03 _ _ _ _) (pv 2)) (@a00 _ _ _ _ _ (@a45 _ _ _ _ _ _ _ _ a66 (@a03 _ _ _ _) (pv 2)) (@a00 _ _ _ _ _ (@a45 _ _ _ _ _ _ _ _ ar6 (@a03 _ _ _ _) (@a45 _ _ _ _ _ _ _ _ a98 (pv 2) (@a03 _ _ _ _))) (@a00 _ _ _ _ _ (@a45 _ _ _ _ _ _ _ _ ar6 (@a03 _ _ _ _) (@a45 _ _ _ _ _ _ _ _ a98 (pv 2) (@a03 _ _ _ _))) (@a02 _) (by rfl)) (by rfl)) (by rfl)) (by rfl))) (pv 1) (fun _ _=>rfl)) (by rfl) (by walk_at "o"))
    (@a01 _ _ _ _ _ (@a16 _ _ 6 _ _ _ _ sc_law_made.nd rfl (by walk_at "o") (@ao7 _ _ _ _ _ _ _ _ _ _ (bi6 K) (@a30 _ _ _ _ (@a00 _ _ _ _ _ (@a19 _ _ _ _ _ (@a00 _ _ _ _ _ (@a22 _ _ _ _) (@a02 _) (by rfl))) (@a00 _ _ _ _ _ (@a19 _ _ _ _ _ (@a00 _ _ _ _ _ (@a22 _ _ _ _) (@a00 _ _ _ _ _ (@a03 _ _ _ _) (@a02 _) (by rfl)) (by rfl))) (@a02 _) (by rfl)) (by rfl))) (@aw1 _) (@aw2 _ _ _ (@a45 _ _ _ _ _ _ _ _ a66 (@a03 _ _ _ _) (@a33 _ _ _ _ _ _ _ _ _ az8 (by rfl) T.z_int b00 (@a00 _ _ _ _ _ (@a86 _ _ _ _ _ _ _ _ a60 (pv 4) (@a03 _ _ _ _) (nomark _)) (@a02 _) (by rfl)) (by decide) (by decide) (by rfl) (by rfl))))) (by rfl) (by walk_at "o"))
    (@a05 _ _ _ (@a17 _ _ _ _ (@a30 _ _ _ _ (@a00 _ _ _ _ _ (@a19 _ _ _ _ _ (@a00 _ _ _ _ _ (@a30 _ _ _ _ (@a02 _)) (@a00 _ _ _ _ _ (@a21 _ _ _ _ _ _ _ _ _ _ _ _ _ _ _ _ G__law_round (hr.mono (by omega)) rfl T.f__law_round.m T.f__law_round.F.kp T.f__law_round.b .nil a27 (@a00 _ _ _ _ _ (pv 2) (@a00 _ _ _ _ _ (pv 4) (@a02 _) (by rfl)) (by rfl)) (by decide) (by rfl) (by rfl)) (@a00 _ _ _ _ _ (@a03 _ _ _ _) (@a02 _) (by rfl)) (by rfl)) (by rfl))) (@a00 _ _ _ _ _ (@ag4 _ _ _ _) (@a00 _ _ _ _ _ (pv 2) (@a00 _ _ _ _ _ (pv 6) (@a02 _) (by rfl)) (by rfl)) (by rfl)) (by rfl))))))))),?_⟩
   have sl:(1000000:Nat)≤sizeLine:=le_line (Nat.le_refl _)
   walk_at "go"
   intro a H1 f1 s1 e1
   walk_at "run"
   refine ⟨c,a,[4,60,9,4,3],rfl,e1,by decide,by decide,fun l ds H2 f2 s2 e2 hdl hds=>?_⟩
   walk_at "run"
   obtain ⟨d0,d1,d2,d3,d4,rfl⟩:=cl9 (show ds.length=5 from hdl)
   have h0:=hds 0 d0 4 rfl rfl
   have h1:=hds 1 d1 60 rfl rfl
   have h2:=hds 2 d2 9 rfl rfl
   have h3:=hds 3 d3 4 rfl rfl
   rw [show a48 [d0,d1,d2,d3,d4]=[V.int (d0:Nat),V.int (d1:Nat),V.int (d2:Nat),V.int (d3:Nat),V.int (d4:Nat)] from rfl] at e2
   refine cb0 (SqL.of e2) rfl ?_
   walk_at "run"
   refine ag2 (d0=0∧0<d3) (fun R hR=>?_) ?_
   · walk_at "run"
     by_cases c0:d0=0
     · refine a26 (by omega) ?_
       walk_at "run"
       by_cases c1:0<d3
       · rw [decide_eq_true (by omega)]
         exact rT hR ⟨c0,c1⟩
       · rw [decide_eq_false (by omega)]
         exact rF hR (fun z=>c1 z.2)
     · refine a25 (by omega) ?_
       exact rF hR (fun z=>c0 z.1)
   have s02:=s1.trans s2
   by_cases hc:d0=0∧0<d3
   · refine a26 hc ?_
     walk_at "run"
     intro p3 H3 f3 s3 e3
     walk_at "run"
     intro p4 H4 f4 s4 e4
     walk_at "run"
     intro p5 H5 f5 s5 e5
     walk_at "run"
     intro p6 H6 f6 s6 e6
     walk_at "run"
     intro p7 H7 f7 s7 e7
     walk_at "run"
     refine ⟨d2,rfl,by omega,fun p8 us8 H8 f8 s8 e8 hat8=>?_⟩
     walk_at "run"
     intro p9 H9 f9 s9 e9
     walk_at "run"
     intro p10 H10 f10 s10 e10
     have s810:=s9.trans s10
     have s610:=s7.trans (s8.trans s810)
     have s310:=s4.trans (s5.trans (s6.trans s610))
     have hf:((6:Int)*((d3:Int) % 2))=((Gk.f (.inf d2 (decide (d3 % 2=1))):Nat):Int):=by
      show _=(((if decide (d3 % 2=1)=true then 6 else 0:Nat):Nat):Int)
      by_cases h:d3 % 2=1
      · rw [if_pos (decide_eq_true h)]
        omega
      · rw [if_neg (by simp; omega)]
        omega
     refine q (.inf d2 (decide (d3 % 2=1))) p9 p7 p8 p6 us8 _ p10 H10 (s02.trans (s3.trans s310)) (show d2≤8 by omega) ⟨e10,by rw [← hf]; exact s10 _ _ e9,(s8.trans s810) _ _ e7,s810 _ _ e8,hat8.same s810,s610 _ _ e6,?_⟩
     exact ats_cons0.mpr ⟨_,_,rfl,b97 (s310 _ _ e3) a68,ats_cons0.mpr ⟨_,_,rfl,aa4 ((s5.trans (s6.trans s610)) _ _ e4) a68 aj2,ats_cons0.mpr ⟨_,_,rfl,aa4 (by rw [(s6.trans s610) _ _ e5]; simp) a68 aj2,ats_nil0.mpr rfl⟩⟩⟩
   · refine a25 hc ?_
     walk_at "run"
     intro p3 H3 f3 s3 e3
     obtain ⟨mm,hmm,hm1,hm2⟩:∃ mm:Nat,atI [V.int (1+(d1:Int)),V.int (1+(d1:Int)),V.int (60 - (d1:Int) % 15),V.int (60 - (d1:Int) % 15)] (d0:Int)=some (.int (mm:Nat))∧1≤mm∧mm≤60:=by
      have:d0=0∨d0=1∨d0=2∨d0=3:=by omega
      rcases this with rfl | rfl | rfl | rfl
      · exact ⟨1+d1,rfl,by omega,by omega⟩
      · exact ⟨1+d1,rfl,by omega,by omega⟩
      · refine ⟨60 - d1 % 15,?_,by omega,by omega⟩
        rw [show ((60 - d1 % 15:Nat):Int)=60 - (d1:Int) % 15 by omega]
        rfl
      · refine ⟨60 - d1 % 15,?_,by omega,by omega⟩
        rw [show ((60 - d1 % 15:Nat):Int)=60 - (d1:Int) % 15 by omega]
        rfl
     walk_at "run"
     refine a42 (SqL.of e3) hmm ?_
     walk_at "run"
     intro p4 H4 f4 s4 e4
     walk_at "run"
     intro p5 H5 f5 s5 e5
     walk_at "run"
     intro p6 H6 f6 s6 e6
     walk_at "run"
     refine cj8 (SqL.of e6) ?_
     have hcv:(1:Int)+(if decide ((d3:Int)=2)=true then 1 else 0)=((if d3=2 then 2 else 1:Nat):Int):=by
      by_cases h:d3=2
      · rw [if_pos (decide_eq_true (by omega)),if_pos h]; rfl
      · rw [if_neg (by simp; omega),if_neg h]; rfl
     rw [hcv,be6]
     intro p7 H7 f7 s7 e7
     walk_at "run"
     intro p8 H8 f8 s8 e8
     walk_at "run"
     refine ⟨mm,d3,rfl,hm1,hm2,h3,fun p9 us9 H9 f9 s9 e9 hat9=>?_⟩
     walk_at "run"
     intro p10 H10 f10 s10 e10
     walk_at "run"
     intro p11 H11 f11 s11 e11
     have s911:=s10.trans s11
     have s711:=s8.trans (s9.trans s911)
     have s511:=s6.trans (s7.trans s711)
     refine q (.rnd mm d3) p10 p8 p9 p7 us9 _ p11 H11 (s02.trans (s3.trans (s4.trans (s5.trans s511)))) ⟨hm1,hm2,h3⟩ ⟨e11,s11 _ _ e10,(s9.trans s911) _ _ e8,s911 _ _ e9,hat9.same s911,s711 _ _ e7,?_⟩
     have w1:quT.At H11 (.ref p4) []:=b97 ((s5.trans s511) _ _ e4) a68
     have w2:(keT 1).At H11 (.ref p5) []:=aa4 (s511 _ _ e5) a68 aj2
     show Tr.Ats H11 (if d3=2 then [quT,keT 1] else [quT]) _ []
     by_cases h:d3=2
     · rw [if_pos h,if_pos h]
       exact ats_cons0.mpr ⟨_,_,rfl,w1,ats_cons0.mpr ⟨_,_,rfl,w2,ats_nil0.mpr rfl⟩⟩
     · rw [if_neg h,if_neg h]
       exact ats_cons0.mpr ⟨_,_,rfl,w1,ats_nil0.mpr rfl⟩
def cf1:Sp:=fun vs H Q _=>∃ (a b:Nat),vs=[.int (a:Nat),.int (b:Nat)]∧a≤1000∧b≤1000∧∀ H',Same H H'→Q (.int (Nat.gcd a b:Nat)) H'
theorem al8 (T:Txt K mg t):FnOk P w K mg base CX0 1 t.a__law_divisor t.fd__law_divisor ["one","other"] cf1:=by
 refine T.f__law_divisor.F.ok sc_law_divisor (fun vs H Q E h=>?_) (fun cdv A outer s H vs Q E hr h=>?_)
 · obtain ⟨a,b,rfl,_⟩:=h
   rfl
 · obtain ⟨a,b,rfl,ha,hb,q⟩:=h
   refine ⟨_,(@a01 _ _ _ _ _ (@aa7 _ _ _ _ _ _ PassesOwn.never (@a09 _ _ _ _ _ _ _ _ b29 (pv 1) (@a03 _ _ _ _) (nomark _)) (@a05 _ _ _ (c44 (i:=0) (j:=1) rfl sc_law_divisor.nd rfl rfl (by decide) rfl rfl (@a00 _ _ _ _ _ (pv 1) (@a00 _ _ _ _ _ (@a45 _ _ _ _ _ _ _ _ a98 (pv 0) (pv 1)) (@a02 _) (by rfl)) (by rfl)) rfl)))
    (@a05 _ _ _ (@a17 _ _ _ _ (pv 0)))),?_⟩
   walk_at "go"
   refine af3 (fun n σ H'=>Same H H'∧∃ x y:Nat,n=y∧x≤1000∧y≤1000∧Nat.gcd x y=Nat.gcd a b∧σ=[some (.int (x:Nat)),some (.int (y:Nat))]) b ⟨Same.refl _,a,b,rfl,ha,hb,rfl,rfl⟩ ?_
   rintro y σ H1 ⟨s1,x,y',rfl,hx,hy,hg,rfl⟩
   walk_at "run"
   by_cases h0:y=0
   · subst h0
     refine at7 (by rfl) ?_
     walk_at "run"
     rw [Nat.gcd_zero_right] at hg
     rw [hg]
     exact q H1 s1
   · refine an3 (by simp; omega) ?_
     refine ⟨fun σ' H'=>Same H H'∧σ'=[some (.int (y:Nat)),some (.int (x % y:Nat))],fun σ' H' ⟨s',e⟩=>⟨x % y,Nat.mod_lt _ (by omega),s',y,x % y,rfl,hy,Nat.le_trans (Nat.le_of_lt (Nat.mod_lt _ (by omega))) hy,by rw [← hg,Nat.gcd_comm x y,Nat.gcd_comm y (x % y),←Nat.gcd_rec],e⟩,?_⟩
     unfold tPar
     walk_at "run"
     exact ⟨_,_,rfl,s1,by show [some (V.int y),some (V.int ((x:Int) % (y:Int)))]=_; rw [Int.natCast_emod]⟩
def rG (k:Nat):SY:=some (k,[],[],1)
theorem br7 {a b:Nat}(h:rG a=rG b):a=b:=by
 simp only [rG,Option.some.injEq,Prod.mk.injEq] at h
 exact h.1
noncomputable def rstK (m sd k:Nat) (e:Tr):List Str×Nat:=if sd=2∧k=0∧e=keT 1 then ([Str.ofString "tock"],0) else if k+1<m then ([],k+1) else (if sd=3 then [Str.ofString "tick"] else [],0)
noncomputable def rstM (m sd:Nat) (r:SY) (e:Tr):List Str×SY:=match r with
 | none=>([],none)
 | some x=>((rstK m sd x.1 e).1,rG (rstK m sd x.1 e).2)
noncomputable def a37 (m sd:Nat):Mc:=⟨[],rndN m sd,0,20,fun r=>∃ k,k<m∧r=rG k,fun _=>0,rstM m sd,[],rG 0⟩
def aq8 (m sd k:Nat):Nat:=if k+1<m then k+1 else if sd=3 then m else 0
theorem c23 {m k:Nat}(h:k<m):(rndB m)[k]?=some (.wait 1 [] (k+1)):=by
 unfold rndB
 rw [List.getElem?_map,List.getElem?_range h]
 rfl
theorem be7 {m sd k:Nat}(h:k<m):(rnd1 m sd)[k]?=some (.wait 1 [] (aq8 m sd k)):=by
 unfold rnd1 aq8
 rw [List.getElem?_set]
 by_cases hk:m - 1=k
 · rw [if_pos hk,if_pos (by simp [rndB]; omega),if_neg (show ¬ k+1<m by omega)]
 · rw [if_neg hk,c23 h,if_pos (show k+1<m by omega)]
theorem ak7 {m sd k:Nat}(h:k<m):(rndN m sd)[k]?=some (.wait 1 (if sd=2∧k=0 then [(k1P,m)] else []) (aq8 m sd k)):=by
 unfold rndN
 rw [List.getElem?_append_left (by rw [ah6]; exact h)]
 unfold rnd2
 by_cases h2:sd=2
 · rw [if_pos h2,List.getElem?_set]
   by_cases h0:k=0
   · subst h0
     rw [if_pos rfl,if_pos (by simp [rnd1,rndB]; omega),if_pos (show sd=2∧0=0 from ⟨h2,rfl⟩)]
     unfold aq8
     by_cases hm:m=1
     · subst hm
       rw [if_pos (show 1=1 from rfl),if_neg (show ¬ 0+1<1 by omega),if_neg (show ¬ sd=3 by omega)]
     · rw [if_neg hm,if_pos (show 0+1<m by omega)]
   · rw [if_neg (by omega),be7 h,if_neg (fun z=>h0 z.2)]
 · rw [if_neg h2,be7 h,if_neg (fun z=>h2 z.1)]
theorem ak8 {m sd:Nat}(h:1<sd):(rndN m sd)[m]?=some (.say (if sd=2 then Str.ofString "tock" else Str.ofString "tick") 0):=by
 unfold rndN
 rw [List.getElem?_append_right (by rw [ah6]; exact Nat.le_refl _),ah6,Nat.sub_self,if_pos h]
 rfl
theorem ak9 {m sd:Nat}:(rndN m sd).length=m+if 1<sd then 1 else 0:=by
 unfold rndN
 rw [List.length_append,ah6]
 split <;> rfl
theorem ac8 {ns:List Nd}{k n:Nat}{l:Int}{br:List (List Pt×Nat)}{j:Nat}{stk:List Nat}(h:ns[k]?=some (.wait l br j)):grF ns [] (n+1) (some k) stk []=some ([],some (k,stk,[],l)):=by
 unfold grF
 rw [h]
 rfl
theorem br8 {ns:List Nd}{k n j:Nat}{w:Str}{stk:List Nat}(h:ns[k]?=some (.say w j)):grF ns [] (n+1) (some k) stk []=(grF ns [] n (some j) stk []).map fun x=>(w::x.1,x.2):=by
 conv=>lhs; unfold grF
 rw [h]
 rfl
theorem be8 {ns:List Nd}{k n a b:Nat}{stk:List Nat}(h:ns[k]?=some (.call a b)) (hb:bb9 ns b=false):grF ns [] (n+1) (some k) stk []=grF ns [] n (some a) (stk++[b]) []:=by
 conv=>lhs; unfold grF
 rw [h]
 show ((grF ns [] n (behF ns [] [] stk (.call a b)).1 (behF ns [] [] stk (.call a b)).2 []).map fun x=>([]++x.1,x.2))=_
 simp only [behF,hb]
 show (grF ns [] n (some a) (stk++[b]) []).map (fun x=>([]++x.1,x.2))=_
 cases grF ns [] n (some a) (stk++[b]) [] with
 | none=>rfl
 | some y=>rfl
theorem al0 (k:Nat):quT≠keT k:=fun z=>by
 simp [quT,keT] at z
theorem cf2 (e:Tr):weN [] e=none:=by
 unfold weN
 split
 · rfl
 · rfl
theorem be9:patK k1P=keT 1:=rfl
theorem cm0 (m:Nat) (e:Tr):weN [(k1P,m)] e=if e=keT 1 then some m else none:=by
 unfold weN
 by_cases hq:e=.tup [.str "quiet"]
 · rw [if_pos hq,if_neg (fun z=>al0 1 (hq.symm.trans z))]
 · rw [if_neg hq]
   have ho:fndN [(k1P,m)] (.tup [.str "other"])=none:=by
    unfold fndN
    rw [List.find?_cons,decide_eq_false (by rw [be9]; simp [keT])]
    rfl
   by_cases he:e=keT 1
   · rw [if_pos he]
     have:fndN [(k1P,m)] e=some m:=by
      unfold fndN
      rw [List.find?_cons,decide_eq_true (by rw [be9,he])]
      rfl
     rw [this]
   · rw [if_neg he]
     have:fndN [(k1P,m)] e=none:=by
      unfold fndN
      rw [List.find?_cons,decide_eq_false (by rw [be9]; exact fun z=>he z.symm)]
      rfl
     rw [this]
     exact ho
theorem bn0 {m sd k:Nat}(hm:1≤m) (hk:k<m) (e:Tr):ay0 (rndN m sd) [] 20 (rG k) e=some (rstM m sd (rG k) e):=by
 unfold rG
 simp only [ay0,ak7 hk,waG]
 have go:∀ j,j<m→grF (rndN m sd) [] 20 (some j) [] []=some ([],rG j):=fun j hj=>ac8 (ak7 hj)
 have sy:1<sd→grF (rndN m sd) [] 20 (some m) [] []=some ([if sd=2 then Str.ofString "tock" else Str.ofString "tick"],rG 0):=fun h=>by
  rw [br8 (n:=19) (ak8 h),ac8 (n:=18) (ak7 (show 0<m by omega))]
  rfl
 have nx:grF (rndN m sd) [] 20 (some (aq8 m sd k)) [] []=some (if k+1<m then ([],rG (k+1)) else (if sd=3 then [Str.ofString "tick"] else [],rG 0)):=by
  unfold aq8
  by_cases h1:k+1<m
  · rw [if_pos h1,if_pos h1,go _ h1]
  · rw [if_neg h1,if_neg h1]
    by_cases h3:sd=3
    · rw [if_pos h3,if_pos h3,sy (by omega),if_neg (by omega)]
    · rw [if_neg h3,if_neg h3,go 0 (by omega)]
 have fin:(match (none:Option Nat) with
  | some j=>grF (rndN m sd) [] 20 (some j) [] []
  | none=>if (1:Int)=0 then some ([],some (k,[],[],(1:Int))) else if (1:Int)=1 then grF (rndN m sd) [] 20 (some (aq8 m sd k)) [] [] else some ([],some (k,[],[],(1:Int) - 1)))=some (if k+1<m then ([],rG (k+1)) else (if sd=3 then [Str.ofString "tick"] else [],rG 0)):=by
  rw [← nx]
  rfl
 have rs:rstM m sd (some (k,[],[],1)) e=if sd=2∧k=0∧e=keT 1 then ([Str.ofString "tock"],rG 0) else if k+1<m then ([],rG (k+1)) else (if sd=3 then [Str.ofString "tick"] else [],rG 0):=by
  show ((rstK m sd k e).1,rG (rstK m sd k e).2)=_
  unfold rstK
  split
  · rfl
  · split <;> rfl
 rw [rs]
 by_cases hc:sd=2∧k=0
 · rw [if_pos hc,cm0]
   by_cases he:e=keT 1
   · rw [if_pos he,if_pos (show sd=2∧k=0∧e=keT 1 from ⟨hc.1,hc.2,he⟩)]
     show grF (rndN m sd) [] 20 (some m) [] []=_
     rw [sy (by omega),if_pos hc.1]
   · rw [if_neg he,if_neg (show ¬ (sd=2∧k=0∧e=keT 1) from fun z=>he z.2.2)]
     exact fin
 · rw [if_neg hc,cf2,if_neg (show ¬ (sd=2∧k=0∧e=keT 1) from fun z=>hc ⟨z.1,z.2.1⟩)]
   exact fin
theorem cf3 {m sd:Nat}(hm:1≤m) (hm2:m≤60):GrOk [] (rndN m sd):=by
 have all:∀ d∈rndN m sd,(∃ br j,d=.wait 1 br j∧br.length≤1∧j<(rndN m sd).length∧∀ b∈br,b.2<(rndN m sd).length)∨∃ w,d=.say w 0∧w.length≤100:=fun d hd=>by
  obtain ⟨i,hi⟩:=List.mem_iff_getElem?.mp hd
  have hl:=ak9 (m:=m) (sd:=sd)
  have hil:=(List.getElem?_eq_some_iff.mp hi).1
  have hlm:m≤(rndN m sd).length:=by rw [hl]; omega
  by_cases hk:i<m
  · rw [ak7 hk] at hi
    obtain rfl:=Option.some.inj hi
    refine .inl ⟨_,_,rfl,?_,?_,fun b hb=>?_⟩
    · split <;> simp
    · unfold aq8
      by_cases h3:sd=3
      · rw [if_pos h3,hl,if_pos (show 1<sd by omega)]
        split <;> omega
      · rw [if_neg h3]
        split <;> omega
    · by_cases hc:sd=2∧i=0
      · rw [if_pos hc,List.mem_singleton] at hb
        rw [hb,hl,if_pos (by omega)]
        show m<m+1
        omega
      · rw [if_neg hc] at hb
        simp at hb
  · by_cases h1:1<sd
    · rw [hl,if_pos h1] at hil
      obtain rfl:i=m:=by omega
      rw [ak8 h1] at hi
      obtain rfl:=Option.some.inj hi
      refine .inr ⟨_,rfl,?_⟩
      split <;> decide +kernel
    · rw [hl,if_neg h1] at hil
      omega
 have hl:=ak9 (m:=m) (sd:=sd)
 have hl2:m≤(rndN m sd).length∧(rndN m sd).length≤61:=by rw [hl]; split <;> omega
 refine ⟨fun d hd=>?_,fun d hd k hk=>?_,by simp,by simp,by omega⟩
 · rcases all d hd with ⟨br,j,rfl,h1,_⟩ | ⟨w,rfl,h1⟩
   · exact ⟨by decide,by omega⟩
   · exact h1
 · rcases all d hd with ⟨br,j,rfl,_,h2,h3⟩ | ⟨w,rfl,_⟩
   · simp only [Nd.nexts,List.mem_append,List.mem_map,List.mem_singleton] at hk
     rcases hk with ⟨b,hb,rfl⟩ | rfl
     · exact h3 b hb
     · exact h2
   · simp only [Nd.nexts,List.mem_singleton] at hk
     rw [hk]
     omega
def eG (stk:List Nat):SY:=some (0,stk,[],0)
theorem cf4 {a b:List Nat}(h:eG a=eG b):a=b:=by
 simp only [eG,Option.some.injEq,Prod.mk.injEq] at h
 exact h.2.1
noncomputable def estM (k:Nat) (r:SY) (e:Tr):List Str×SY:=match r with
 | none=>([],none)
 | some x=>([],eG (if e=keT k then x.2.1++[3] else if e=keT (k+1) then x.2.1++[4] else x.2.1))
noncomputable def bn1 (k:Nat) (h:Bool):Mc:=⟨[],endN k,if h then 6 else 0,20,fun r=>∃ stk,r=eG stk,fun r=>match r with
 | none=>0
 | some x=>x.2.1.length,estM k,if h then [Str.ofString "hello"] else [],eG []⟩
theorem cm1 (k:Nat) (e:Tr):weN [([Pt.s "key",Pt.i (k:Nat)],1),([Pt.s "key",Pt.i (k+1:Nat)],2)] e=if e=keT k then some 1 else if e=keT (k+1) then some 2 else none:=by
 have p1:patK [Pt.s "key",Pt.i (k:Nat)]=keT k:=rfl
 have p2:patK [Pt.s "key",Pt.i (k+1:Nat)]=keT (k+1):=rfl
 have fd:∀ e:Tr,fndN [([Pt.s "key",Pt.i (k:Nat)],1),([Pt.s "key",Pt.i (k+1:Nat)],2)] e=if e=keT k then some 1 else if e=keT (k+1) then some 2 else none:=fun e=>by
  unfold fndN
  rw [List.find?_cons,p1]
  by_cases h1:e=keT k
  · rw [if_pos h1,decide_eq_true h1.symm]
    rfl
  · rw [if_neg h1,decide_eq_false (fun z=>h1 z.symm)]
    show (List.find? _ [_]).map _=_
    rw [List.find?_cons,p2]
    by_cases h2:e=keT (k+1)
    · rw [if_pos h2,decide_eq_true h2.symm]
      rfl
    · rw [if_neg h2,decide_eq_false (fun z=>h2 z.symm)]
      rfl
 unfold weN
 by_cases hq:e=.tup [.str "quiet"]
 · rw [if_pos hq,if_neg (fun z=>al0 k (hq.symm.trans z)),if_neg (fun z=>al0 (k+1) (hq.symm.trans z))]
 · rw [if_neg hq,fd e,fd (.tup [.str "other"]),if_neg (show Tr.tup [.str "other"]≠keT k by simp [keT]),if_neg (show Tr.tup [.str "other"]≠keT (k+1) by simp [keT])]
   by_cases h1:e=keT k
   · rw [if_pos h1]
   · rw [if_neg h1]
     by_cases h2:e=keT (k+1)
     · rw [if_pos h2]
     · rw [if_neg h2]
theorem bn2 (k:Nat) (stk:List Nat) (e:Tr):ay0 (endN k) [] 20 (eG stk) e=some (estM k (eG stk) e):=by
 show (match weN [([Pt.s "key",Pt.i (k:Nat)],1),([Pt.s "key",Pt.i (k+1:Nat)],2)] e with
  | some j=>grF (endN k) [] 20 (some j) stk []
  | none=>some ([],some (0,stk,[],(0:Int))))=some ([],eG (if e=keT k then stk++[3] else if e=keT (k+1) then stk++[4] else stk))
 rw [cm1]
 by_cases h1:e=keT k
 · rw [if_pos h1,if_pos h1]
   show grF (endN k) [] 20 (some 1) stk []=_
   rw [be8 (n:=19) (a:=0) (b:=3) rfl rfl]
   exact ac8 (n:=18) rfl
 · rw [if_neg h1,if_neg h1]
   by_cases h2:e=keT (k+1)
   · rw [if_pos h2,if_pos h2]
     show grF (endN k) [] 20 (some 2) stk []=_
     rw [be8 (n:=19) (a:=0) (b:=4) rfl rfl]
     exact ac8 (n:=18) rfl
   · rw [if_neg h2,if_neg h2]
     rfl
theorem cf5 (k:Nat):GrOk [] (endN k):=by
 refine ⟨fun d hd=>?_,fun d hd j hj=>?_,by simp,by simp,by simp [endN]⟩
 · simp only [endN,List.mem_cons,List.not_mem_nil,or_false] at hd
   rcases hd with rfl | rfl | rfl | rfl | rfl | rfl | rfl
   · exact ⟨by decide,by simp⟩
   · trivial
   · trivial
   · show (Str.ofString "a").length≤100
     decide +kernel
   · show (Str.ofString "b").length≤100
     decide +kernel
   · trivial
   · show (Str.ofString "hello").length≤100
     decide +kernel
 · have hl:(endN k).length=7:=rfl
   simp only [endN,List.mem_cons,List.not_mem_nil,or_false] at hd
   rcases hd with rfl | rfl | rfl | rfl | rfl | rfl | rfl <;> simp [Nd.nexts] at hj <;> omega
theorem c24 (k:Nat) (h:Bool):grF (endN k) [] 20 (some (if h then 6 else 0)) [] []=some (if h then [Str.ofString "hello"] else [],eG []):=by
 cases h with
 | true =>
   show grF (endN k) [] 20 (some 6) [] []=_
   rw [br8 (n:=19) (w:=Str.ofString "hello") (j:=0) rfl,ac8 (n:=18) (l:=0) rfl]
   rfl
 | false=>exact ac8 (n:=19) rfl
noncomputable def Gk.mc:Gk→Mc
 | .rnd m sd=>a37 m sd
 | .inf k h=>bn1 k h
theorem cf6 {K:PySem.W.Frag}{C:Addr}{H:Hp}{p ev:Addr}{us:List V}{es:List Tr}{g:Gk}(hg:g.ok) (te:GmAt C H p [] g.ns g.f) (hev:H ev=some (.lst us)) (hes:Tr.AtsK K H es us) (heh:∀ e∈es,e.h≤5) (hel:es.length≤100):MPre K C H p ev us es g.mc:=by
 cases g with
 | rnd m sd =>
   obtain ⟨g1,g2,g3⟩:=hg
   refine ⟨te,cf3 g1 g2,hev,hes,heh,hel,show 20≤800000 by decide,ac8 (n:=19) (ak7 (show 0<m by omega)),⟨⟨0,by omega,rfl⟩,rfl⟩,fun r hr x hx=>?_,fun r hr e he=>?_⟩
   · obtain ⟨k,_,rfl⟩:=hr
     obtain rfl:=Option.some.inj hx
     exact ⟨rfl,Nat.le_refl _⟩
   · obtain ⟨k,hk,rfl⟩:=hr
     refine ⟨bn0 g1 hk e,⟨(rstK m sd k e).2,?_,rfl⟩,Nat.zero_le _⟩
     unfold rstK
     split
     · show 0<m; omega
     · split
       · assumption
       · show 0<m; omega
 | inf k h =>
   refine ⟨te,cf5 k,hev,hes,heh,hel,show 20≤800000 by decide,c24 k h,⟨⟨[],rfl⟩,rfl⟩,fun r hr x hx=>?_,fun r hr e he=>?_⟩
   · obtain ⟨stk,rfl⟩:=hr
     obtain rfl:=Option.some.inj hx
     exact ⟨rfl,Nat.le_refl _⟩
   · obtain ⟨stk,rfl⟩:=hr
     refine ⟨bn2 k stk e,⟨_,rfl⟩,?_⟩
     show (if e=keT k then stk++[3] else if e=keT (k+1) then stk++[4] else stk).length≤stk.length+1
     split
     · simp
     · split <;> simp
theorem bf0 {k:Nat}{h:Bool}{es:List Tr}(hk:keT k∈es):srM es (bn1 k h)=none:=by
 cases e:srM es (bn1 k h) with
 | none=>rfl
 | some row =>
   exfalso
   obtain ⟨_,hc,⟨t,ht⟩,hl⟩:=bq9 e (by decide) (Nat.zero_le _) (by simp) (by simp) (fun i k hi=>absurd hi (Nat.not_lt_zero _))
   have all:∀ i,eG (List.replicate i 3)∈row:=fun i=>by
    induction i with
    | zero=>rw [ht]; exact List.mem_append_left _ (by simp [bn1])
    | succ i ih =>
      refine hc _ ih _ (List.mem_map.mpr ⟨keT k,hk,?_⟩)
      show eG (if keT k=keT k then List.replicate i 3++[3] else if keT k=keT (k+1) then List.replicate i 3++[4] else List.replicate i 3)=_
      rw [if_pos rfl,List.replicate_succ']
   have:=bc8 (f:=fun i=>eG (List.replicate i 3)) (N:=2001) (row:=row) (fun i j _ _ e=>by simpa using congrArg List.length (cf4 e)) (fun i _=>all i)
   omega
theorem cf7 {m sd:Nat}(hm:1≤m) (hm2:m≤60) (es:List Tr):srM es (a37 m sd)≠none:=by
 obtain ⟨row,h,_⟩:=br2 (nx:=nxM es (a37 m sd)) (S:=(List.range m).map rG) (most:=2000) (by simp; omega) (fun x hx y hy=>by
  obtain ⟨k,hk,rfl⟩:=List.mem_map.mp hx
  have hk:=List.mem_range.mp hk
  obtain ⟨e,_,rfl⟩:=List.mem_map.mp hy
  refine List.mem_map.mpr ⟨(rstK m sd k e).2,List.mem_range.mpr ?_,rfl⟩
  unfold rstK
  split
  · show 0<m; omega
  · split
    · assumption
    · show 0<m; omega) (n:=2001) (p:=0) (row:=[rG 0]) (fun k hk=>by
  rw [List.mem_singleton.mp hk]
  exact List.mem_map.mpr ⟨0,List.mem_range.mpr (by omega),rfl⟩) (by simp)
 intro z
 have:srM es (a37 m sd)=some row:=h
 rw [z] at this
 cases this
def prG (m n t:Nat):PR:=(rG (t % m),rG (t % n))
theorem bf1 {m n s t:Nat}(h:prG m n s=prG m n t):s % m=t % m∧s % n=t % n:=by
 simp only [prG,Prod.mk.injEq] at h
 exact ⟨br7 h.1,br7 h.2⟩
theorem av4 (m a n b i j:Nat) (e:Tr):psM (a37 m a) (a37 n b) (rG i,rG j) e=if (rstK m a i e).1=(rstK n b j e).1 then some (rG (rstK m a i e).2,rG (rstK n b j e).2) else none:=by
 show mk2 ((rstK m a i e).1,rG (rstK m a i e).2) ((rstK n b j e).1,rG (rstK n b j e).2)=_
 unfold mk2
 by_cases h:(rstK m a i e).1=(rstK n b j e).1
 · rw [if_pos h,if_pos ⟨h,rfl⟩]
 · rw [if_neg h,if_neg fun z=>h z.1]
theorem cf8 {m sd k:Nat}{e:Tr}(h:¬ (sd=2∧k=0∧e=keT 1)):rstK m sd k e=if k+1<m then ([],k+1) else (if sd=3 then [Str.ofString "tick"] else [],0):=if_neg h
theorem ae6 {m sd k:Nat}{e:Tr}(h:sd=2∧k=0∧e=keT 1):rstK m sd k e=([Str.ofString "tock"],0):=if_pos h
theorem b20 {t m:Nat}(hm:0<m):(t+1) % m=if t % m+1<m then t % m+1 else 0:=by
 have h:=Nat.mod_lt t hm
 rw [Nat.add_mod]
 by_cases h1:t % m+1<m
 · rw [if_pos h1]
   by_cases hm1:m=1
   · omega
   · rw [Nat.mod_eq_of_lt (show 1<m by omega),Nat.mod_eq_of_lt h1]
 · rw [if_neg h1]
   have:t % m+1=m:=by omega
   by_cases hm1:m=1
   · subst hm1; exact Nat.mod_one _
   · rw [Nat.mod_eq_of_lt (show 1<m by omega),this,Nat.mod_self]
def a77 (m sd k:Nat):List Str:=if k+1<m then [] else if sd=3 then [Str.ofString "tick"] else []
theorem al1 {m sd t:Nat}{e:Tr}(hm:0<m) (h:¬ (sd=2∧t % m=0∧e=keT 1)):rstK m sd (t % m) e=(a77 m sd (t % m),(t+1) % m):=by
 rw [cf8 h,b20 hm]
 unfold a77
 split <;> rfl
theorem aq9 (m sd k:Nat):a77 m sd k≠[Str.ofString "tock"]:=by
 unfold a77
 split
 · simp
 · split
   · intro z
     have:=List.cons.inj z
     exact absurd this.1 (by decide +kernel)
   · simp
theorem cm2 {m a n b t:Nat}(hm:0<m) (hn:0<n) (e:Tr):psM (a37 m a) (a37 n b) (prG m n t) e=none∨(psM (a37 m a) (a37 n b) (prG m n t) e=some (prG m n 0)∧t % m=0∧t % n=0)∨(psM (a37 m a) (a37 n b) (prG m n t) e=some (prG m n (t+1))∧a77 m a (t % m)=a77 n b (t % n)):=by
 unfold prG
 rw [av4]
 by_cases h1:a=2∧t % m=0∧e=keT 1
 · rw [ae6 h1]
   by_cases h2:b=2∧t % n=0∧e=keT 1
   · rw [ae6 h2,if_pos rfl]
     exact .inr (.inl ⟨by rw [Nat.zero_mod,Nat.zero_mod],h1.2.1,h2.2.1⟩)
   · rw [al1 hn h2,if_neg fun z=>aq9 _ _ _ z.symm]
     exact .inl rfl
 · rw [al1 hm h1]
   by_cases h2:b=2∧t % n=0∧e=keT 1
   · rw [ae6 h2,if_neg fun z=>aq9 _ _ _ z]
     exact .inl rfl
   · rw [al1 hn h2]
     by_cases hs:a77 m a (t % m)=a77 n b (t % n)
     · rw [if_pos hs]
       exact .inr (.inr ⟨rfl,hs⟩)
     · rw [if_neg hs]
       exact .inl rfl
theorem ps_q {m a n b t:Nat}(hm:0<m) (hn:0<n) (hs:a77 m a (t % m)=a77 n b (t % n)):psM (a37 m a) (a37 n b) (prG m n t) quT=some (prG m n (t+1)):=by
 unfold prG
 rw [av4,al1 hm (fun z=>al0 1 z.2.2),al1 hn (fun z=>al0 1 z.2.2),if_pos hs]
theorem a38 {m sd k:Nat}(h:sd≠3∨k+1<m):a77 m sd k=[]:=by
 unfold a77
 rcases h with h | h
 · rw [if_neg h]
   split <;> rfl
 · rw [if_pos h]
theorem ao0 {m k:Nat}(h:¬ k+1<m):a77 m 3 k=[Str.ofString "tick"]:=by
 unfold a77
 rw [if_neg h,if_pos rfl]
def bndL (m a n b:Nat):Nat:=if a=3 then m else if b=3 then n else Nat.lcm m n
theorem cf9 {m a n b:Nat}(hm:0<m) (hn:0<n) (es:List Tr) (hl:bndL m a n b≤2000):∃ s,grM es (a37 m a) (a37 n b) (prG m n 0)=some s∧∀ x∈s.1.map (·.1),∃ t,t<bndL m a n b∧x=prG m n t:=by
 have hb:0<bndL m a n b:=by
  unfold bndL
  split
  · exact hm
  · split
    · exact hn
    · exact Nat.lcm_pos hm hn
 obtain ⟨s,h1,h2⟩:=br3 (ps:=psM (a37 m a) (a37 n b)) (es:=es) (S:=(List.range (bndL m a n b)).map (prG m n)) (most:=2000) (by simpa using hl) (fun x hx e _ y hy=>by
  obtain ⟨t,ht,rfl⟩:=List.mem_map.mp hx
  have ht:=List.mem_range.mp ht
  have z0:prG m n 0∈(List.range (bndL m a n b)).map (prG m n):=List.mem_map.mpr ⟨0,List.mem_range.mpr hb,rfl⟩
  rcases cm2 (a:=a) (b:=b) (t:=t) hm hn e with z | ⟨z,_⟩ | ⟨z,hs⟩
  · rw [z] at hy; cases hy
  · rw [z] at hy
    rw [← Option.some.inj hy]
    exact z0
  · rw [z] at hy
    rw [← Option.some.inj hy]
    by_cases h1:t+1<bndL m a n b
    · exact List.mem_map.mpr ⟨t+1,List.mem_range.mpr h1,rfl⟩
    · have ht1:t+1=bndL m a n b:=by omega
      have:prG m n (t+1)=prG m n 0:=by
       have key:(t+1) % m=0∧(t+1) % n=0:=by
        unfold bndL at ht1
        by_cases h3:a=3
        · rw [if_pos h3] at ht1
          have e1:(t+1) % m=0:=by rw [ht1,Nat.mod_self]
          refine ⟨e1,?_⟩
          have htm:t % m=t:=Nat.mod_eq_of_lt (by omega)
          rw [h3,htm,ao0 (by omega)] at hs
          have hn1:¬ t % n+1<n:=fun q=>by
           rw [a38 (.inr q)] at hs
           simp at hs
          rw [b20 hn,if_neg hn1]
        · rw [if_neg h3] at ht1
          by_cases h4:b=3
          · rw [if_pos h4] at ht1
            have e1:(t+1) % n=0:=by rw [ht1,Nat.mod_self]
            refine ⟨?_,e1⟩
            have htm:t % n=t:=Nat.mod_eq_of_lt (by omega)
            rw [h4,htm,ao0 (by omega),a38 (.inl h3)] at hs
            simp at hs
          · rw [if_neg h4] at ht1
            rw [ht1]
            exact ⟨Nat.mod_eq_zero_of_dvd (Nat.dvd_lcm_left m n),Nat.mod_eq_zero_of_dvd (Nat.dvd_lcm_right m n)⟩
       unfold prG
       rw [key.1,key.2,Nat.zero_mod,Nat.zero_mod]
      rw [this]
      exact z0) (n:=2001) (p:=0) (s:=([(prG m n 0,none)],none)) (fun k hk=>by
  simp only [List.map_cons,List.map_nil,List.mem_singleton] at hk
  rw [hk]
  exact List.mem_map.mpr ⟨0,List.mem_range.mpr hb,rfl⟩) (by simp)
 refine ⟨s,h1,fun x hx=>?_⟩
 obtain ⟨t,ht,rfl⟩:=List.mem_map.mp (h2 x hx)
 exact ⟨t,List.mem_range.mp ht,rfl⟩
theorem ay9 {es:List Tr}{m1 m2:Mc}{x0:PR}{s:FL×Wy PR}(h:grM es m1 m2 x0=some s):x0∈s.1.map (·.1)∧(∀ x∈s.1.map (·.1),∀ e∈es,∀ y,psM m1 m2 x e=some y→y∈s.1.map (·.1))∧(s.2=none↔∀ x∈s.1.map (·.1),∀ e∈es,psM m1 m2 x e≠none)∧s.1.length≤2000:=by
 have ok0:FdOk (psM m1 m2) x0 2000 ([(x0,none)],none):=⟨by simp,rfl,by simp,fun i x w hi=>by
  cases i with
  | zero=>simp at hi; obtain ⟨rfl,rfl⟩:=hi; exact ⟨[],.nil,by simp⟩
  | succ i=>simp at hi,fun x e z=>by cases z⟩
 obtain ⟨h1,_,h3,h4⟩:=br0 h (by decide) (Nat.zero_le _) ok0 (fun i x w hi=>absurd hi (Nat.not_lt_zero _)) ⟨fun _ i x w hi=>absurd hi (Nat.not_lt_zero _),fun _=>rfl⟩
 refine ⟨List.mem_map.mpr ⟨_,List.mem_of_getElem? h1.z,rfl⟩,fun x hx e he y hy=>?_,?_,h1.ln⟩
 · obtain ⟨⟨x',w⟩,hm,rfl⟩:=List.mem_map.mp hx
   exact h3 x' w hm e he y hy
 · rw [h4]
   constructor
   · intro z x hx e he
     obtain ⟨⟨x',w⟩,hm,rfl⟩:=List.mem_map.mp hx
     exact z x' w hm e he
   · intro z x w hm e he
     exact z x (List.mem_map.mpr ⟨_,hm,rfl⟩) e he
theorem ar0 {es:List Tr}{m a n b:Nat}{s:FL×Wy PR}(hm:0<m) (hn:0<n) (hq:quT∈es) (h:grM es (a37 m a) (a37 n b) (prG m n 0)=some s):∀ t,(∀ i,i<t→a77 m a (i % m)=a77 n b (i % n))→prG m n t∈s.1.map (·.1)
 | 0,_=>(ay9 h).1
 | t+1,hs=>(ay9 h).2.1 _ (ar0 hm hn hq h t fun i hi=>hs i (by omega)) quT hq _ (ps_q hm hn (hs t (by omega)))
theorem c25 {m n s t:Nat}(hs:s<Nat.lcm m n) (ht:t<Nat.lcm m n) (h1:s % m=t % m) (h2:s % n=t % n):s=t:=by
 have key:∀ s t:Nat,s≤t→t<Nat.lcm m n→s % m=t % m→s % n=t % n→s=t:=fun s t h ht h1 h2=>by
  have d1:m ∣ t - s:=Nat.dvd_of_mod_eq_zero (Nat.sub_mod_eq_zero_of_mod_eq h1.symm)
  have d2:n ∣ t - s:=Nat.dvd_of_mod_eq_zero (Nat.sub_mod_eq_zero_of_mod_eq h2.symm)
  have d:=Nat.lcm_dvd d1 d2
  rcases Nat.eq_zero_or_pos (t - s) with z | z
  · omega
  · have:=Nat.le_of_dvd z d
    omega
 rcases Nat.le_total s t with h | h
 · exact key s t h ht h1 h2
 · exact (key t s h hs h1.symm h2.symm).symm
theorem c26 {es:List Tr}{m a n b:Nat}(hm:0<m) (hn:0<n) (hq:quT∈es) (ha:a≠3) (hb:b≠3) (hl:2000<Nat.lcm m n):grM es (a37 m a) (a37 n b) (prG m n 0)=none:=by
 cases e:grM es (a37 m a) (a37 n b) (prG m n 0) with
 | none=>rfl
 | some s =>
   exfalso
   have:=bc8 (f:=prG m n) (N:=Nat.lcm m n) (row:=s.1.map (·.1)) (fun i j hi hj h=>c25 hi hj (bf1 h).1 (bf1 h).2) (fun i _=>ar0 hm hn hq e i fun j _=>by rw [a38 (.inl ha),a38 (.inl hb)])
   have:=(ay9 e).2.2.2
   rw [List.length_map] at *
   omega
def cls (sd:Nat):Nat:=if sd<2 then 0 else sd
theorem ae7 {es:List Tr}{m a n b:Nat}{s:FL×Wy PR}(hm:0<m) (hn:0<n) (hq:quT∈es) (h:grM es (a37 m a) (a37 n b) (prG m n 0)=some s) {t:Nat}(hc:∀ i,i<t→a77 m a (i % m)=a77 n b (i % n)) (hk:keT 1∈es) (hd:(a=2∧t % m=0∧¬ (b=2∧t % n=0))∨(b=2∧t % n=0∧¬ (a=2∧t % m=0))):s.2≠none:=fun z=>by
 refine ((ay9 h).2.2.1.mp z) _ (ar0 hm hn hq h t hc) _ hk ?_
 unfold prG
 rw [av4]
 rcases hd with ⟨h1,h2,h3⟩ | ⟨h1,h2,h3⟩
 · rw [ae6 ⟨h1,h2,rfl⟩,al1 hn (fun z=>h3 ⟨z.1,z.2.1⟩),if_neg fun z=>aq9 _ _ _ z.symm]
 · rw [ae6 (k:=t % n) ⟨h1,h2,rfl⟩,al1 hm (fun z=>h3 ⟨z.1,z.2.1⟩),if_neg fun z=>aq9 _ _ _ z]
theorem ae8 {es:List Tr}{m a n b:Nat}{s:FL×Wy PR}(hm:0<m) (hn:0<n) (hq:quT∈es) (h:grM es (a37 m a) (a37 n b) (prG m n 0)=some s) {t:Nat}(hc:∀ i,i<t→a77 m a (i % m)=a77 n b (i % n)) (hd:a77 m a (t % m)≠a77 n b (t % n)):s.2≠none:=fun z=>by
 refine ((ay9 h).2.2.1.mp z) _ (ar0 hm hn hq h t hc) _ hq ?_
 unfold prG
 rw [av4,al1 hm (fun z=>al0 1 z.2.2),al1 hn (fun z=>al0 1 z.2.2),if_neg hd]
theorem bf2 {es:List Tr}{m a n b:Nat}{s:FL×Wy PR}(hm:0<m) (hn:0<n) (ha:a<4) (hb:b<4) (hq:quT∈es) (hk:a=2∨b=2→keT 1∈es) (h:grM es (a37 m a) (a37 n b) (prG m n 0)=some s) (hd:cls a≠cls b∨(cls a=cls b∧2≤cls a∧m≠n)):s.2≠none:=by
 have zm:∀ k,0 % k=0:=Nat.zero_mod
 rcases hd with hd | ⟨hd,h2,hne⟩
 · by_cases a2:a=2
   · exact ae7 hm hn hq h (t:=0) (fun i hi=>absurd hi (Nat.not_lt_zero _)) (hk (.inl a2)) (.inl ⟨a2,zm m,fun z=>hd (by rw [a2,z.1])⟩)
   · by_cases b2:b=2
     · exact ae7 hm hn hq h (t:=0) (fun i hi=>absurd hi (Nat.not_lt_zero _)) (hk (.inr b2)) (.inr ⟨b2,zm n,fun z=>a2 z.1⟩)
     · by_cases a3:a=3
       · have b3:b≠3:=fun z=>hd (by rw [a3,z])
         refine ae8 hm hn hq h (t:=m - 1) (fun i hi=>?_) ?_
         · rw [Nat.mod_eq_of_lt (show i<m by omega),a38 (.inr (by omega)),a38 (.inl b3)]
         · rw [Nat.mod_eq_of_lt (show m - 1<m by omega),a3,ao0 (by omega),a38 (.inl b3)]
           simp
       · have b3:b=3:=by
          have:cls a=0:=if_pos (by omega)
          rw [this] at hd
          unfold cls at hd
          split at hd
          · exact absurd rfl hd
          · omega
         refine ae8 hm hn hq h (t:=n - 1) (fun i hi=>?_) ?_
         · rw [Nat.mod_eq_of_lt (show i<n by omega),a38 (.inl a3),a38 (k:=i) (.inr (by omega))]
         · rw [Nat.mod_eq_of_lt (show n - 1<n by omega),b3,ao0 (k:=n - 1) (by omega),a38 (.inl a3)]
           simp
 · have e1:cls a=a:=by
    unfold cls at h2 ⊢
    split at h2
    · omega
    · rw [if_neg (by omega)]
   have e2:a=b:=by
    rw [e1] at hd h2
    unfold cls at hd
    split at hd <;> omega
   subst e2
   rw [e1] at h2
   have:a=2∨a=3:=by omega
   rcases this with rfl | rfl
   · rcases Nat.lt_or_ge m n with hl | hl
     · refine ae7 hm hn hq h (t:=m) (fun i _=>by rw [a38 (.inl (by decide)),a38 (.inl (by decide))]) (hk (.inl rfl)) (.inl ⟨rfl,Nat.mod_self m,fun z=>?_⟩)
       have:=z.2
       rw [Nat.mod_eq_of_lt hl] at this
       omega
     · refine ae7 hm hn hq h (t:=n) (fun i _=>by rw [a38 (.inl (by decide)),a38 (.inl (by decide))]) (hk (.inl rfl)) (.inr ⟨rfl,Nat.mod_self n,fun z=>?_⟩)
       have:=z.2
       rw [Nat.mod_eq_of_lt (show n<m by omega)] at this
       omega
   · rcases Nat.lt_or_ge m n with hl | hl
     · refine ae8 hm hn hq h (t:=m - 1) (fun i hi=>?_) ?_
       · rw [Nat.mod_eq_of_lt (show i<m by omega),a38 (.inr (by omega)),Nat.mod_eq_of_lt (show i<n by omega),a38 (.inr (by omega))]
       · rw [Nat.mod_eq_of_lt (show m - 1<m by omega),ao0 (by omega),Nat.mod_eq_of_lt (show m - 1<n by omega),a38 (.inr (by omega))]
         simp
     · refine ae8 hm hn hq h (t:=n - 1) (fun i hi=>?_) ?_
       · rw [Nat.mod_eq_of_lt (show i<m by omega),a38 (.inr (by omega)),Nat.mod_eq_of_lt (show i<n by omega),a38 (.inr (by omega))]
       · rw [Nat.mod_eq_of_lt (show n - 1<n by omega),ao0 (m:=n) (by omega),Nat.mod_eq_of_lt (show n - 1<m by omega),a38 (m:=m) (.inr (by omega))]
         simp
theorem bn3 {es:List Tr}{m a n b:Nat}{s:FL×Wy PR}(hm:0<m) (hn:0<n) (ha:a<4) (hb:b<4) (hl:bndL m a n b≤2000) (h:grM es (a37 m a) (a37 n b) (prG m n 0)=some s) (hd:cls a=cls b∧(2≤cls a→m=n)):s.2=none:=by
 obtain ⟨s',hs',hin⟩:=cf9 (a:=a) (b:=b) hm hn es hl
 rw [h] at hs'
 obtain rfl:=Option.some.inj hs'
 refine (ay9 h).2.2.1.mpr fun x hx e he=>?_
 obtain ⟨t,ht,rfl⟩:=hin x hx
 unfold prG
 rw [av4]
 obtain ⟨h1,h2⟩:=hd
 by_cases c0:a<2
 · have cb:b<2:=by
    unfold cls at h1
    rw [if_pos c0] at h1
    split at h1 <;> omega
   rw [al1 hm (fun z=>by omega),al1 hn (fun z=>by omega),a38 (.inl (by omega)),a38 (.inl (by omega)),if_pos rfl]
   simp
 · have e1:cls a=a:=if_neg c0
   have e2:a=b:=by
    rw [e1] at h1
    unfold cls at h1
    split at h1 <;> omega
   obtain rfl:=h2 (by omega)
   subst e2
   rw [if_pos rfl]
   simp
theorem br9 (m a n b:Nat):p0M (a37 m a) (a37 n b)=some (prG m n 0):=by
 unfold p0M mk2 prG
 rw [Nat.zero_mod,Nat.zero_mod,if_pos ⟨rfl,rfl⟩]
 rfl
def c27:Sp:=fun _ _ _ _=>False
theorem ae9 (T:Txt K mg t):FnOk P w K mg base CX0 1 t.a_mapped_standing t.fd_mapped_standing ["one","other","stands_for","standing"] c27:=by
 refine T.f_mapped_standing.F.ok ae4 (fun vs H Q E h=>?_) (fun cdv A outer s H vs Q E hr h=>?_)
 · exact h.elim
 · exact h.elim
structure MapPre (K:PySem.W.Frag) (H:Hp) (gt bx nd ev:Addr) (un us:List V) (g:Gk) (es:List Tr):Prop where
 ok:g.ok
 t:H gt=some (.tup [.ref bx,.ref nd,.int (g.f:Nat)])
 b:H bx=some (.lst [])
 n:H nd=some (.lst un)
 an:Tr.Ats H (g.ns.map Nd.tr) un []
 e:H ev=some (.lst us)
 ae:Tr.AtsK K H es us
 eh:∀ e∈es,e.h≤5
 el:es.length≤100
theorem MapPre.same {K:PySem.W.Frag}{H H':Hp}{gt bx nd ev:Addr}{un us:List V}{g:Gk}{es:List Tr}(h:MapPre K H gt bx nd ev un us g es) (s:Same H H'):MapPre K H' gt bx nd ev un us g es :=
 ⟨h.ok,s _ _ h.t,s _ _ h.b,s _ _ h.n,h.an.same s,s _ _ h.e,h.ae.mono s.tups,h.eh,h.el⟩
theorem az0 {K:PySem.W.Frag}{C:Addr}{H H':Hp}{p ev dx bl nl:Addr}{un us:List V}{g:Gk}{es:List Tr}(gt bx nd:Addr) (h:MapPre K H gt bx nd ev un us g es) (s:Same H H') (e1:H' p=some (.ins C dx (gmS (.ref bl) (.ref nl) (.int (g.f:Nat))))) (e2:H' bl=some (.lst [])) (e3:H' nl=some (.lst un)):MPre K C H' p ev us es g.mc :=
 cf6 h.ok ⟨dx,bl,nl,[],un,e1,e2,Each.nil,e3,h.an.same s⟩ (s _ _ h.e) (h.ae.mono s.tups) h.eh h.el
def c28 (K:PySem.W.Frag) (Cx:Addr):Sp:=fun vs H _ E=>∃ (gt bx nd ev lm:Addr) (un us:List V) (g:Gk) (es:List Tr),vs=[.ref gt,.ref gt,.ref lm,.ref ev]∧MapPre K H gt bx nd ev un us g es∧srM es g.mc=none∧∀ H',Same H H'→E (.ref Cx) none H'
theorem av5 (T:Txt K mg t):FnOk P w K mg base (CXE P w t.c_TooMany) 20 t.a_map_paper t.fd_map_paper ["one","other","stands_for","events"] (c28 K t.c_TooMany):=by
 have G_GraphMachine___init__:=a58 (P:=P) (w:=w) (base:=base) T
 have G_mapped_standing:=ae9 (P:=P) (w:=w) (base:=base) T
 have G_standings:=ag3 (P:=P) (w:=w) (base:=base) T
 refine T.f_map_paper.F.okE sc_map_paper (fun vs H Q E h=>?_) (fun cdv A outer s H vs Q E hr h=>?_)
 · obtain ⟨gt,bx,nd,ev,lm,un,us,g,es,rfl,_⟩:=h
   rfl
 · obtain ⟨gt,bx,nd,ev,lm,un,us,g,es,rfl,hM,hno,qe⟩:=h
   refine ⟨_,(@a01 _ _ _ _ _ (@a16 _ _ 4 _ _ _ _ sc_map_paper.nd rfl (by walk_at "o") (@a30 _ _ _ _ (@a02 _)) (by rfl) (by walk_at "o"))
    (@a01 _ _ _ _ _ (@af7 _ _ _ _ _ _ _ _ PassesOwn.leaving rfl (a69 K (@a21 _ _ _ _ _ _ _ _ _ _ _ _ _ _ _ _ G_standings (hr.mono (by omega)) rfl T.f_standings.m T.f_standings.F.kp T.f_standings.b .nil aq0 (@a00 _ _ _ _ _ (aw0 T.mk_GraphMachine G_GraphMachine___init__ (hr.mono (by omega)) rfl T.m_GraphMachine T.f_GraphMachine___init__.b .nil a27 (@a00 _ _ _ _ _ (pv 0) (@a02 _) (by rfl))) (@a00 _ _ _ _ _ (pv 3) (@a02 _) (by rfl)) (by rfl)) (by decide) (by rfl) (by rfl))) (a93 K (n:=2) rfl (a28 (a24 (i:=5) sc_map_paper.nd rfl (by walk_at "o")) (a28 (a24 (i:=6) sc_map_paper.nd rfl (by walk_at "o")) (@a78 _)))) (@a05 _ _ _ (@a32 _ _ _ _ _ _ _ _ (a67 K (pv 6) (fun _=>rfl)) (@a05 _ _ _ (@a49 _ _ _ _ (@a70 _ K _ _ _ _ _ _ _ _ _ _ _ PySem.F.plainAttrs_list PySem.F.slot_list_append PySem.F.type_list_append a40 (pv 4) (@a00 _ _ _ _ _ (@a19 _ _ _ _ _ (@a00 _ _ _ _ _ (@a31 _ _ _) (@a00 _ _ _ _ _ (@a31 _ _ _) (@a02 _) (by rfl)) (by rfl))) (@a02 _) (by rfl)) (by rfl) (by rfl) (by rfl) (by rfl) (by rfl) (by rfl)) (by rfl))) (@a05 _ _ _ (@a32 _ _ _ _ _ _ _ _ (@a09 _ _ _ _ _ _ _ _ ab0 (@a12 _ _ _ _ _ _ _ (bv2 K) (pv 2) (@a12 _ _ _ _ _ _ _ (a06 K) (pv 5) (@a03 _ _ _ _) (fun _ _=>rfl)) (fun _ _=>rfl)) (@a31 _ _ _) (nomark _)) (@a05 _ _ _ (@a49 _ _ _ _ (@a70 _ K _ _ _ _ _ _ _ _ _ _ _ PySem.F.plainAttrs_list PySem.F.slot_list_append PySem.F.type_list_append a40 (pv 4) (@a00 _ _ _ _ _ (@a19 _ _ _ _ _ (@a00 _ _ _ _ _ (pv 5) (@a00 _ _ _ _ _ (@a21 _ _ _ _ _ _ _ _ _ _ _ _ _ _ _ _ G_mapped_standing (hr.mono (by omega)) rfl T.f_mapped_standing.m T.f_mapped_standing.F.kp T.f_mapped_standing.b .nil a27 (@a00 _ _ _ _ _ (pv 0) (@a00 _ _ _ _ _ (pv 1) (@a00 _ _ _ _ _ (pv 2) (@a00 _ _ _ _ _ (pv 5) (@a02 _) (by rfl)) (by rfl)) (by rfl)) (by rfl)) (by decide) (by rfl) (by rfl)) (@a02 _) (by rfl)) (by rfl))) (@a02 _) (by rfl)) (by rfl) (by rfl) (by rfl) (by rfl) (by rfl) (by rfl)) (by rfl))) (@a20 _))))) (by intro _; rfl))
    (@a05 _ _ _ (@a17 _ _ _ _ (pv 4))))),?_⟩
   walk_at "go"
   intro p1 H1 f1 s1 e1
   walk_at "run"
   intro p dx f2 f3 fn
   have s2:Same H1 (upd (upd H1 dx (.own p)) p (.ins t.c_GraphMachine dx [])):=(Same.new f3).updNew f2
   have hM1:=hM.same s1
   refine ⟨p,dx,gt,bx,nd,[],un,[],g.ns,g.f,rfl,a18,s2 _ _ hM1.t,s2 _ _ hM1.b,Each.nil,s2 _ _ hM1.n,hM1.an.same s2,fun dx' bl' nl' H3 g1 g2 g3 g4 g5 g6=>⟨rfl,?_⟩⟩
   have s3:Same H1 H3:=fun a o e=>g6 a o (s2 _ _ e) (fun z=>by rw [z,f2] at e; cases e)
   walk_at "run"
   exact ⟨p,ev,us,es,g.mc,rfl,az0 gt bx nd hM1 s3 g3 g4 g5,fun row hrow=>(by rw [hno] at hrow; cases hrow),fun _ H4 s4=>qe H4 (s1.trans (s3.trans s4))⟩
def bn4 (K:PySem.W.Frag):Sp:=fun vs H Q _=>∃ (gt bx nd ev:Addr) (un us:List V) (g:Gk) (es:List Tr),vs=[.ref gt,.ref ev]∧MapPre K H gt bx nd ev un us g es∧srM es g.mc=none∧∀ H',Same H H'→Q (.str "many") H'
theorem len3 {α:Type}{xs:List α}(h:xs.length=3):∃ x y z,xs=[x,y,z]:=by
 match xs,h with
 | [x,y,z],_=>exact ⟨x,y,z,rfl⟩
theorem bf3 {g:Gk}(h:g.ok):g.ns.length≤100:=by
 cases g with
 | rnd m sd =>
   show (rndN m sd).length≤100
   have:=h.2.1
   rw [ak9]
   split <;> omega
 | inf k b=>exact show 7≤100 by decide
theorem ar1 (T:Txt K mg t):FnOk P w K mg base CX0 21 t.a__law_by_map t.fd__law_by_map ["graph","events"] (bn4 K):=by
 have G_map_paper:=av5 (P:=P) (w:=w) (base:=base) T
 refine T.f__law_by_map.F.ok sc_law_by_map (fun vs H Q E h=>?_) (fun cdv A outer s H vs Q E hr h=>?_)
 · obtain ⟨gt,bx,nd,ev,un,us,g,es,rfl,_⟩:=h
   rfl
 · obtain ⟨gt,bx,nd,ev,un,us,g,es,rfl,hM,hno,q⟩:=h
   refine ⟨_,(@a01 _ _ _ _ _ (@a16 _ _ 2 _ _ _ _ sc_law_by_map.nd rfl (by walk_at "o") (@a22 _ _ _ _) (by rfl) (by walk_at "o"))
    (@a01 _ _ _ _ _ (cd5 rfl rfl (by decide +kernel) T.xe_TooMany T.m_TooMany rfl (fun E pn xe hx=>(@a05 _ _ _ (@a16 _ _ 2 _ _ _ _ sc_law_by_map.nd rfl (by walk_at "o") (@a21 _ _ _ _ _ _ _ _ _ _ _ _ _ _ _ _ G_map_paper (hr.mono (by omega)) rfl T.f_map_paper.m T.f_map_paper.F.kp T.f_map_paper.b .nil hx (@a00 _ _ _ _ _ (pv 0) (@a00 _ _ _ _ _ (pv 0) (@a00 _ _ _ _ _ (@a33 _ _ _ _ _ _ _ _ _ (bk0 rfl) (by rfl) T.z_list ac5 (@a00 _ _ _ _ _ (@a33 _ _ _ _ _ _ _ _ _ bb4 (by rfl) T.z_range bi8 (@a00 _ _ _ _ _ (@a39 _ _ _ _ _ _ _ _ _ (aa2 K) (by rfl) T.z_len ag1 (@a00 _ _ _ _ _ (@a12 _ _ _ _ _ _ _ (a06 K) (pv 0) (@a03 _ _ _ _) (fun _ _=>rfl)) (@a02 _) (by rfl)) (by decide) (by decide) (by rfl) (by rfl)) (@a02 _) (by rfl)) (by decide) (by decide) (by rfl) (by rfl)) (@a02 _) (by rfl)) (by decide) (by decide) (by rfl) (by rfl)) (@a00 _ _ _ _ _ (pv 1) (@a02 _) (by rfl)) (by rfl)) (by rfl)) (by rfl)) (by decide) (by rfl) (by rfl)) (by rfl) (by walk_at "o")))) (fun _=>(@a05 _ _ _ (@a16 _ _ 2 _ _ _ _ sc_law_by_map.nd rfl (by walk_at "o") (@a22 _ _ _ _) (by rfl) (by walk_at "o")))))
    (@a05 _ _ _ (@a17 _ _ _ _ (pv 2))))),?_⟩
   have sl:(1000000:Nat)≤sizeLine:=le_line (Nat.le_refl _)
   have hul:un.length≤100:=by rw [hM.an.len,List.length_map]; exact bf3 hM.ok
   walk_at "go"
   refine a23 (SqT.of hM.t) (a04 (j:=1) rfl) ?_
   walk_at "run"
   refine aj1 (SqL.of hM.n) ?_
   walk_at "run"
   refine ⟨un.length,rfl,by omega,fun p1 H1 f1 s1 e1=>?_⟩
   walk_at "run"
   refine bx8 e1 (by omega) ?_
   intro p2 H2 f2 s2 e2
   walk_at "run"
   refine ⟨gt,bx,nd,ev,p2,un,us,g,es,rfl,hM.same (s1.trans s2),hno,fun H3 s3 σ' hσ=>?_⟩
   obtain ⟨x,y,z,rfl⟩:=len3 (show List.length σ'=3 from hσ)
   walk_at "run"
   exact q H3 ((s1.trans s2).trans s3)
theorem b21 {H:Hp}:∀ sd:List Str,Tr.Ats H (sd.map Tr.str) (a34 sd) []
 | []=>by simp [Tr.Ats,a34]
 | x::sd=>ats_cons0.mpr ⟨_,_,rfl,a68,b21 sd⟩
theorem av6 {H:Hp}{l:Addr}{sd:List Str}(e:H l=some (.lst (a34 sd))):(Tr.lst (sd.map Tr.str)).At H (.ref l) [l]:=by
 rw [Tr.At]
 exact ⟨l,_,[],rfl,e,b21 sd,rfl⟩
theorem bf4:∀ sd:List Str,Tr.hs (sd.map Tr.str)=0
 | []=>rfl
 | x::sd=>by simp [Tr.hs,Tr.h,bf4 sd]
theorem b22 {H:Hp}{Q:VK}{l l':Addr}{sd:List Str}(h1:H l=some (.lst (a34 sd))) (h2:H l'=some (.lst (a34 sd))) (h:Q (.bl false) H):bw8 (.ref l) (.ref l') H Q:=cc2 (av6 h1) (av6 h2) (by rw [bf4]; omega) h
theorem b23 {x y:List Str×SY}{p:PR}(h:mk2 x y=some p):x.1=y.1∧x.2.isNone=y.2.isNone:=by
 unfold mk2 at h
 split at h
 · assumption
 · cases h
def cg0 (K:PySem.W.Frag) (C:Addr):Sp:=fun vs H Q _=>∃ (o1 o2 ev pa:Addr) (us fvs:List V) (es:List Tr) (m1 m2:Mc) (x0:PR) (ps:List PR),vs=[.ref o1,.ref o2,.ref ev,.ref pa]∧MPre K C H o1 ev us es m1∧MPre K C H o2 ev us es m2∧p0M m1 m2=some x0∧x0∈ps∧(∀ x∈ps,∀ e∈es,∃ y∈ps,psM m1 m2 x e=some y)∧(∀ x∈ps,(m1.ok x.1∧m1.lev x.1≤2000)∧(m2.ok x.2∧m2.lev x.2≤2000)∧x.1.isNone=x.2.isNone∧okT (pT x)∧(tok (pT x)).length≤5000)∧ps.length≤2000∧H pa=some (.lst fvs)∧Each (PrA H) fvs ps∧∀ H',Same H H'→Q (.bl true) H'
theorem al2 (T:Txt K mg t):FnOk P w K mg base CX0 20 t.a__law_is_right t.fd__law_is_right ["one","other","events","paper"] (cg0 K t.c_GraphMachine):=by
 have G_GraphMachine_begin:=a52 (P:=P) (w:=w) (base:=base) T
 have G_GraphMachine_over:=a56 (P:=P) (w:=w) (base:=base) T
 have G_GraphMachine_step:=a55 (P:=P) (w:=w) (base:=base) T
 have G__law_key:=b53 (P:=P) (w:=w) (base:=base) T
 refine T.f__law_is_right.F.ok sc_law_is_right (fun vs H Q E h=>?_) (fun cdv A outer s H vs Q E hr h=>?_)
 · obtain ⟨o1,o2,ev,pa,us,fvs,es,m1,m2,x0,ps,rfl,_⟩:=h
   rfl
 · obtain ⟨o1,o2,ev,pa,us,fvs,es,m1,m2,x0,ps,rfl,hT,hP,hp0,hx0,hcl,hall,hpl,hpa,hfv,q⟩:=h
   refine ⟨_,(@a01 _ _ _ _ _ (@a16 _ _ 4 _ _ _ _ sc_law_is_right.nd rfl (by walk_at "o") (@bj1 _ _) (by rfl) (by walk_at "o"))
    (@a01 _ _ _ _ _ (@af7 _ _ _ _ _ _ _ _ PassesOwn.never rfl (a69 K (pv 3)) (a24 (i:=5) sc_law_is_right.nd rfl (by walk_at "o")) (@a05 _ _ _ (bu3 (by exact bt7 hr) (pv 4) (@a21 _ _ _ _ _ _ _ _ _ _ _ _ _ _ _ _ G__law_key (hr.mono (by omega)) rfl T.f__law_key.m T.f__law_key.F.kp T.f__law_key.b .nil a27 (@a00 _ _ _ _ _ (pv 5) (@a02 _) (by rfl)) (by decide) (by rfl) (by rfl)) (@ag4 _ _ _ _) rfl)) (by intro _; rfl))
    (@a01 _ _ _ _ _ (@ai0 _ _ _ _ _ _ (ad1 (pv 0) T.cl_GraphMachine T.f_GraphMachine_begin.M G_GraphMachine_begin (hr.mono (by omega)) T.f_GraphMachine_begin.b .nil a27) (a93 K (n:=2) rfl (a28 (a24 (i:=6) sc_law_is_right.nd rfl (by walk_at "o")) (a28 (a24 (i:=7) sc_law_is_right.nd rfl (by walk_at "o")) (@a78 _)))) (by rfl) (by rfl) (by rfl))
    (@a01 _ _ _ _ _ (@ai0 _ _ _ _ _ _ (ad1 (pv 1) T.cl_GraphMachine T.f_GraphMachine_begin.M G_GraphMachine_begin (hr.mono (by omega)) T.f_GraphMachine_begin.b .nil a27) (a93 K (n:=2) rfl (a28 (a24 (i:=8) sc_law_is_right.nd rfl (by walk_at "o")) (a28 (a24 (i:=9) sc_law_is_right.nd rfl (by walk_at "o")) (@a78 _)))) (by rfl) (by rfl) (by rfl))
    (@a01 _ _ _ _ _ (@a32 _ _ _ _ _ _ _ _ (@PW.pt _ _ _ (@ao3 _ _ _ _ _ _ _ (@a09 _ _ _ _ _ _ _ _ (b04 (by exact hr.units)) (pv 6) (pv 8) (nomark _)) (@ah9 _ _ _ _ (az2 (at2 (by exact bt7 hr) (@a21 _ _ _ _ _ _ _ _ _ _ _ _ _ _ _ _ G__law_key (hr.mono (by omega)) rfl T.f__law_key.m T.f__law_key.F.kp T.f__law_key.b .nil a27 (@a00 _ _ _ _ _ (@a19 _ _ _ _ _ (@a00 _ _ _ _ _ (pv 7) (@a00 _ _ _ _ _ (pv 9) (@a02 _) (by rfl)) (by rfl))) (@a02 _) (by rfl)) (by decide) (by rfl) (by rfl)) (pv 4)))))) (@a05 _ _ _ (@a17 _ _ _ _ (@ag4 _ _ _ _))) (@a20 _))
    (@a01 _ _ _ _ _ (@af7 _ _ _ _ _ _ _ _ PassesOwn.never rfl (a69 K (pv 3)) (a93 K (n:=2) rfl (a28 (a24 (i:=10) sc_law_is_right.nd rfl (by walk_at "o")) (a28 (a24 (i:=11) sc_law_is_right.nd rfl (by walk_at "o")) (@a78 _)))) (@a01 _ _ _ _ _ (@a32 _ _ _ _ _ _ _ _ (@a09 _ _ _ _ _ _ _ _ b29 (a65 (pv 0) T.cl_GraphMachine T.f_GraphMachine_over.M G_GraphMachine_over (hr.mono (by omega)) T.f_GraphMachine_over.b .nil a27 (@a00 _ _ _ _ _ (pv 10) (@a02 _) (by rfl))) (a65 (pv 1) T.cl_GraphMachine T.f_GraphMachine_over.M G_GraphMachine_over (hr.mono (by omega)) T.f_GraphMachine_over.b .nil a27 (@a00 _ _ _ _ _ (pv 11) (@a02 _) (by rfl))) (nomark _)) (@a05 _ _ _ (@a17 _ _ _ _ (@ag4 _ _ _ _))) (@a20 _))
     (@a05 _ _ _ (@af7 _ _ _ _ _ _ _ _ PassesOwn.never rfl (a69 K (pv 2)) (a24 (i:=12) sc_law_is_right.nd rfl (by walk_at "o")) (@a01 _ _ _ _ _ (@ai0 _ _ _ _ _ _ (a65 (pv 0) T.cl_GraphMachine T.f_GraphMachine_step.M G_GraphMachine_step (hr.mono (by omega)) T.f_GraphMachine_step.b .nil a27 (@a00 _ _ _ _ _ (pv 10) (@a00 _ _ _ _ _ (pv 12) (@a02 _) (by rfl)) (by rfl))) (a93 K (n:=2) rfl (a28 (a24 (i:=6) sc_law_is_right.nd rfl (by walk_at "o")) (a28 (a24 (i:=7) sc_law_is_right.nd rfl (by walk_at "o")) (@a78 _)))) (by rfl) (by rfl) (by rfl))
      (@a01 _ _ _ _ _ (@ai0 _ _ _ _ _ _ (a65 (pv 1) T.cl_GraphMachine T.f_GraphMachine_step.M G_GraphMachine_step (hr.mono (by omega)) T.f_GraphMachine_step.b .nil a27 (@a00 _ _ _ _ _ (pv 11) (@a00 _ _ _ _ _ (pv 12) (@a02 _) (by rfl)) (by rfl))) (a93 K (n:=2) rfl (a28 (a24 (i:=8) sc_law_is_right.nd rfl (by walk_at "o")) (a28 (a24 (i:=9) sc_law_is_right.nd rfl (by walk_at "o")) (@a78 _)))) (by rfl) (by rfl) (by rfl))
      (@a05 _ _ _ (@a32 _ _ _ _ _ _ _ _ (@PW.pt _ _ _ (@ao3 _ _ _ _ _ _ _ (@a09 _ _ _ _ _ _ _ _ (b04 (by exact hr.units)) (pv 6) (pv 8) (nomark _)) (@ah9 _ _ _ _ (az2 (at2 (by exact bt7 hr) (@a21 _ _ _ _ _ _ _ _ _ _ _ _ _ _ _ _ G__law_key (hr.mono (by omega)) rfl T.f__law_key.m T.f__law_key.F.kp T.f__law_key.b .nil a27 (@a00 _ _ _ _ _ (@a19 _ _ _ _ _ (@a00 _ _ _ _ _ (pv 7) (@a00 _ _ _ _ _ (pv 9) (@a02 _) (by rfl)) (by rfl))) (@a02 _) (by rfl)) (by decide) (by rfl) (by rfl)) (pv 4)))))) (@a05 _ _ _ (@a17 _ _ _ _ (@ag4 _ _ _ _))) (@a20 _))))) (by intro _; rfl)))) (by intro _; rfl))
    (@a05 _ _ _ (@a17 _ _ _ _ (@ag4 _ _ _ _))))))))),?_⟩
   have sl:(1000000:Nat)≤sizeLine:=le_line (Nat.le_refl _)
   have hul:us.length=es.length:=ah4 hT.hes
   have hfl:=hfv.1
   walk_at "go"
   intro sd H1 f1 s1 e1
   walk_at "run"
   refine ⟨⟨_,SqL.of (s1 _ _ hpa)⟩,ad0 (K:=K) (a:=pa) (xs:=fvs) (fun i σ H'=>Same H H'∧i≤fvs.length∧(∃ kvs:List (Key×V),H' sd=some (.dK kvs)∧kvs.length≤i∧∀ x∈ps.take i,(valV kvs (Sum.inr (keyY (pT x)))).isSome=true)∧∃ z1 z2 z3 z4 z5 z6 z7 z8,σ=[some (.ref o1),some (.ref o2),some (.ref ev),some (.ref pa),some (.ref sd),z1,z2,z3,z4,z5,z6,z7,z8]) ⟨s1,Nat.zero_le _,⟨[],e1,Nat.le_refl _,by simp⟩,_,_,_,_,_,_,_,_,rfl⟩ (fun i σ H' _ zz=>by obtain ⟨s',_⟩:=zz; exact SqL.of (s' _ _ hpa)) ?_ ?_⟩
   · rintro i x σ H2 hx ⟨s2,hil,⟨kvs,d1,d2,d3⟩,z1,z2,z3,z4,z5,z6,z7,z8,rfl⟩
     have hi':=(List.getElem?_eq_some_iff.mp hx).1
     obtain ⟨y,hy⟩:∃ y,ps[i]?=some y:=⟨_,List.getElem?_eq_getElem (by omega)⟩
     have hym:=List.mem_of_getElem? hy
     obtain ⟨_,_,_,ok1,ok2⟩:=hall y hym
     have hpy:=a43 (hfv.2 i x y hx hy) s2.tups
     walk_at "run"
     refine ⟨x,pT y,rfl,(ay1 hpy).1,ok1,ok2,fun H3 s3=>?_⟩
     walk_at "run"
     refine ⟨sd,_,rfl,DPut.k (k:=Sum.inr (keyY (pT y))) (s3 _ _ d1) (by omega),?_⟩
     refine ⟨(s2.trans s3).updNew f1,hi',⟨_,a18,?_,fun z hz=>?_⟩,_,_,_,_,_,_,_,_,rfl⟩
     · have:=a88 kvs (Sum.inr (keyY (pT y))) (V.bl true)
       omega
     · rw [ap0]
       rw [List.take_add_one,hy] at hz
       rcases List.mem_append.mp hz with hz | hz
       · split
         · rfl
         · exact d3 z hz
       · simp only [Option.toList_some,List.mem_singleton] at hz
         rw [if_pos (by rw [hz])]
         rfl
   · rintro σ H2 ⟨s2,_,⟨kvs,d1,d2,d3⟩,z1,z2,z3,z4,z5,z6,z7,z8,rfl⟩
     rw [hfl,List.take_length] at d3
     have seen:∀ {H3:Hp}{y:PR},Same H2 H3→y∈ps→∃ o:Option V,DGet H3 sd (.str (keyY (pT y))) o∧o.isSome=true:=fun s3 hy=>⟨_,DGet.k (k:=Sum.inr (keyY (pT _))) (s3 _ _ d1),d3 _ hy⟩
     have hT2:=hT.same s2
     obtain ⟨dx1,fs1,g1,g2,_⟩:=hT2.ins
     have q0:=b23 hp0
     have q1:=ah5 hp0
     have hpa2:=s2 _ _ hpa
     have hfv2:Each (PrA H2) fvs ps:=hfv.mono fun _ _ z=>a43 z s2.tups
     have hev2:=s2 _ _ hT.hev
     have hP2:=hP.same s2
     walk_at "run"
     refine ⟨o1,dx1,fs1,rfl,g1,g2,?_⟩
     walk_at "run"
     refine hT2.beg fun k3 l3 v3 H3 s3 e3 f3 e3' hv3=>?_
     refine b01 (SqT.of e3) rfl ?_
     walk_at "run"
     obtain ⟨dx2,fs2,g3,g4,_⟩:=(hP2.same s3).ins
     refine ⟨o2,dx2,fs2,rfl,g3,g4,?_⟩
     walk_at "run"
     refine (hP2.same s3).beg fun k4 l4 v4 H4 s4 e4 f4 e4' hv4=>?_
     refine b01 (SqT.of e4) rfl ?_
     walk_at "run"
     refine b22 (s4 _ _ e3') (by rw [e4',show m2.sd0=m1.sd0 from q0.1.symm]) ?_
     walk_at "run"
     intro k5 H5 f5 s5 e5
     have s45:=s4.trans s5
     have hp5:PrA H5 (.ref k5) x0:=by rw [q1]; exact ⟨k5,v3,v4,rfl,e5,a53 hv3 s45,a53 hv4 s5⟩
     obtain ⟨_,_,_,ok1,ok2⟩:=hall x0 hx0
     walk_at "run"
     refine ⟨_,pT x0,rfl,(ay1 hp5).1,ok1,ok2,fun H6 s6=>?_⟩
     walk_at "run"
     have s36:=s3.trans (s45.trans s6)
     obtain ⟨o6,w1,w2⟩:=seen s36 hx0
     refine ⟨sd,o6,rfl,w1,?_⟩
     rw [w2]
     walk_at "run"
     refine ⟨⟨_,SqL.of (s36 _ _ hpa2)⟩,ad0 (K:=K) (a:=pa) (xs:=fvs) (fun i σ H'=>Same H2 H'∧i≤fvs.length∧∃ z1 z2 z3 z4 z5 z6 z7 z8,σ=[some (.ref o1),some (.ref o2),some (.ref ev),some (.ref pa),some (.ref sd),z1,z2,z3,z4,z5,z6,z7,z8]) ⟨s36,Nat.zero_le _,_,_,_,_,_,_,_,_,rfl⟩ (fun i σ H' _ zz=>by obtain ⟨s',_⟩:=zz; exact SqL.of (s' _ _ hpa2)) ?_ ?_⟩
     · rintro i x σ H7 hx ⟨s7,hil,z1,z2,z3,z4,z5,z6,z7,z8,rfl⟩
       have hi':=(List.getElem?_eq_some_iff.mp hx).1
       obtain ⟨y,hy⟩:∃ y,ps[i]?=some y:=⟨_,List.getElem?_eq_getElem (by omega)⟩
       have hym:=List.mem_of_getElem? hy
       obtain ⟨⟨k11,k12⟩,⟨k21,k22⟩,hov,_,_⟩:=hall y hym
       obtain ⟨qk,va,vb,rfl,eq,hva,hvb⟩:=a43 (hfv2.2 i x y hx hy) s7.tups
       walk_at "run"
       refine ⟨qk,_,rfl,SqT.of eq,rfl,_,_,rfl,_,_,rfl,rfl,?_⟩
       walk_at "run"
       obtain ⟨dx1,fs1,g1,_,g2,g3⟩:=(hT2.same s7).ins
       refine ⟨o1,dx1,fs1,rfl,g1,g3,?_⟩
       walk_at "run"
       refine ovr hva ?_
       walk_at "run"
       obtain ⟨dx2,fs2,j1,_,j2,j3⟩:=(hP2.same s7).ins
       refine ⟨o2,dx2,fs2,rfl,j1,j3,?_⟩
       walk_at "run"
       refine ovr hvb ?_
       walk_at "run"
       rw [decide_eq_true hov]
       walk_at "run"
       refine ⟨⟨_,SqL.of (s7 _ _ hev2)⟩,ad0 (K:=K) (a:=ev) (xs:=us) (fun j σ H'=>Same H7 H'∧j≤us.length∧∃ z1 z2 z3 z4 z5 z6,σ=[some (.ref o1),some (.ref o2),some (.ref ev),some (.ref pa),some (.ref sd),z1,z2,z3,z4,z5,some va,some vb,z6]) ⟨Same.refl _,Nat.zero_le _,_,_,_,_,_,_,rfl⟩ (fun j σ H' _ zz=>by obtain ⟨s',_⟩:=zz; exact SqL.of (s' _ _ (s7 _ _ hev2))) ?_ ?_⟩
       · rintro j vv σ H8 hj ⟨s8,hjl,z1,z2,z3,z4,z5,z6,rfl⟩
         have s28:=s7.trans s8
         obtain ⟨e,he,hve⟩:=ah3 (hT2.hes.mono s28.tups) hj
         have hem:=List.mem_of_getElem? he
         have hjl':=(List.getElem?_eq_some_iff.mp hj).1
         obtain ⟨y2,hy2,hps⟩:=hcl y hym e hem
         have r0:=b23 hps
         have r1:=ah5 hps
         obtain ⟨_,_,_,ok1,ok2⟩:=hall y2 hy2
         obtain ⟨dx1,fs1,g1,_,g2,g3⟩:=(hT2.same s28).ins
         walk_at "run"
         refine ⟨o1,dx1,fs1,rfl,g1,g2,?_⟩
         walk_at "run"
         refine (hT2.same s28).stp (a53 hva s8) k11 (by omega) hem hve fun k3 l3 v3 H9 s9 e9 f9 e9' hv9=>?_
         refine b01 (SqT.of e9) rfl ?_
         walk_at "run"
         have s29:=s28.trans s9
         obtain ⟨dx2,fs2,j1,_,j2,j3⟩:=(hP2.same s29).ins
         refine ⟨o2,dx2,fs2,rfl,j1,j2,?_⟩
         walk_at "run"
         refine (hP2.same s29).stp (a53 hvb (s8.trans s9)) k21 (by omega) hem (hve.mono s9.tups) fun k4 l4 v4 H10 s10 e10 f10 e10' hv10=>?_
         refine b01 (SqT.of e10) rfl ?_
         walk_at "run"
         refine b22 (s10 _ _ e9') (by rw [e10',show (m2.st y.2 e).1=(m1.st y.1 e).1 from r0.1.symm]) ?_
         walk_at "run"
         intro k5 H11 f11 s11 e11
         have hp5:PrA H11 (.ref k5) y2:=by rw [r1]; exact ⟨k5,v3,v4,rfl,e11,a53 hv9 (s10.trans s11),a53 hv10 s11⟩
         walk_at "run"
         refine ⟨_,pT y2,rfl,(ay1 hp5).1,ok1,ok2,fun H12 s12=>?_⟩
         walk_at "run"
         have s912:=s9.trans (s10.trans (s11.trans s12))
         obtain ⟨o6,w1,w2⟩:=seen (s28.trans s912) hy2
         refine ⟨sd,o6,rfl,w1,?_⟩
         rw [w2]
         walk_at "run"
         exact ⟨s8.trans s912,hjl',_,_,_,_,_,_,rfl⟩
       · rintro σ H8 ⟨s8,_,z1,z2,z3,z4,z5,z6,rfl⟩
         exact ⟨s7.trans s8,hi',_,_,_,_,_,_,_,_,rfl⟩
     · rintro σ H7 ⟨s7,_,z1,z2,z3,z4,z5,z6,z7,z8,rfl⟩
       walk_at "run"
       exact q H7 (s2.trans s7)
theorem passE0 {X:Cx}{P:Program}{w:World}{C:Addr}:a99 (CXE P w C) X E0:=by
 intro pins σ H0 s0 e s' I hc
 obtain ⟨a,tt,H',B,vs,rfl,os,bare,un,ok,cov,fl,tup,q⟩:=hc
 exact q.elim
noncomputable def al9 (A B:List Tr):List Tr:=A++B.filter fun e=>!decide (e∈A)
theorem az1 (g:Gk):quT∈g.es∧g.es.length≤3∧(∀ e∈g.es,e.h≤2)∧(∀ k b,g=.inf k b→keT k∈g.es)∧(∀ m,g=.rnd m 2→keT 1∈g.es):=by
 have hq:quT.h≤2:=by simp [quT,Tr.h,Tr.hs]
 have hk:∀ k,(keT k).h≤2:=fun k=>by simp [keT,Tr.h,Tr.hs]
 cases g with
 | rnd m sd =>
   show quT∈(if sd=2 then [quT,keT 1] else [quT])∧(if sd=2 then [quT,keT 1] else [quT]).length≤3∧(∀ e∈(if sd=2 then [quT,keT 1] else [quT]),e.h≤2)∧_∧_
   refine ⟨?_,?_,fun e he=>?_,(by intro k b z; cases z),?_⟩
   · split <;> simp
   · split <;> simp
   · split at he
     · simp only [List.mem_cons,List.not_mem_nil,or_false] at he
       rcases he with rfl | rfl
       · exact hq
       · exact hk 1
     · rw [List.mem_singleton.mp he]
       exact hq
   · intro m' z
     cases z
     show keT 1∈(if 2=2 then [quT,keT 1] else [quT])
     rw [if_pos rfl]
     simp
 | inf k b =>
   refine ⟨by simp [Gk.es],by simp [Gk.es],fun e he=>?_,?_,(by intro m z; cases z)⟩
   · simp only [Gk.es,List.mem_cons,List.not_mem_nil,or_false] at he
     rcases he with rfl | rfl | rfl
     · exact hq
     · exact hk _
     · exact hk _
   · intro k' b' z
     cases z
     simp [Gk.es]
theorem af0 {A B:List Tr}{e:Tr}(h:e∈A∨e∈B):e∈al9 A B:=by
 unfold al9
 by_cases hA:e∈A
 · exact List.mem_append_left _ hA
 · exact List.mem_append_right _ (List.mem_filter.mpr ⟨h.resolve_left hA,by simp [hA]⟩)
theorem bn5 {A B:List Tr}{e:Tr}(h:e∈al9 A B):e∈A∨e∈B:=by
 unfold al9 at h
 rcases List.mem_append.mp h with h | h
 · exact .inl h
 · exact .inr (List.mem_filter.mp h).1
theorem bn6 (A B:List Tr):(al9 A B).length≤A.length+B.length:=by
 unfold al9
 rw [List.length_append]
 have:=List.length_filter_le (fun e=>!decide (e∈A)) B
 omega
theorem bf5 {n:Nat}:∀ {es:List Tr},(∀ x∈es,x.h≤n)→Tr.hs es≤n
 | [],_=>by simp [Tr.hs]
 | e::es,h=>by
   have h1:=h e (by simp)
   have h2:=bf5 (es:=es) fun x hx=>h x (by simp [hx])
   simp only [Tr.hs]
   omega
theorem ar2 {H:Hp}:∀ {xs ys:List Tr}{vs us:List V},Tr.Ats H xs vs []→Tr.Ats H ys us []→Tr.Ats H (xs++ys) (vs++us) []
 | [],ys,vs,us,h,g=>by
   obtain rfl:=ats_nil0.mp h
   exact g
 | t::ts,rs,vs,us,h,g=>by
   obtain ⟨v,r,rfl,a,b⟩:=ats_cons0.mp h
   exact ats_cons0.mpr ⟨v,r++us,rfl,a,ar2 b g⟩
theorem bf6 {t:TT}{σ:St} {H:Hp}{QT:Bool→Hp→Prop}(c:Prop) [Decidable c] (h:∀ R:Bool→Hp→Prop,(∀ H',Same H H'→R (decide c) H')→t σ H R) (h2:∀ H',Same H H'→QT (decide c) H'):bw7 t σ H QT:=h QT h2
def tkG:Gk→Bool
 | .rnd _ sd=>decide (sd=3)
 | .inf _ _=>false
def prsN (g1 g2:Gk):Nat:=if tkG g1=false∧tkG g2=false∧g1.isI=false∧g2.isI=false then Nat.lcm g1.many g2.many else 0
def bf7 (m a n b:Nat):Prop:=cls a≠cls b∨(cls a=cls b∧2≤cls a∧m≠n)
def Outc (CT:Addr) (es:List Tr) (g1 g2:Gk) (H:Hp) (cv fv:V):Prop :=
 (∃ a,cv=.ref a∧H a=some (.ext (ExcP a CT))∧fv=.non∧(g1.isI=true∨g2.isI=true∨2000<prsN g1 g2)) ∨
 (cv=.non∧∃ m a n b,g1=.rnd m a∧g2=.rnd n b∧prsN g1 g2≤2000∧((fv=.non∧bf7 m a n b)∨∃ pf fvs s,fv=.ref pf∧H pf=some (.lst fvs)∧grM es (a37 m a) (a37 n b) (prG m n 0)=some s∧s.2=none∧Each (PrA H) fvs (s.1.map (·.1))∧RpOk (a37 m a) (a37 n b) s.1∧¬ bf7 m a n b))
theorem bf8 {m a n b:Nat}(hm:m≤60) (hn:n≤60):(bndL m a n b≤2000∧(a≠3→b≠3→Nat.lcm m n≤2000))∨(a≠3∧b≠3∧2000<Nat.lcm m n):=by
 unfold bndL
 by_cases h1:a=3
 · rw [if_pos h1]
   exact .inl ⟨by omega,fun z=>absurd h1 z⟩
 · rw [if_neg h1]
   by_cases h2:b=3
   · rw [if_pos h2]
     exact .inl ⟨by omega,fun _ z=>absurd h2 z⟩
   · rw [if_neg h2]
     rcases Nat.lt_or_ge 2000 (Nat.lcm m n) with h | h
     · exact .inr ⟨h1,h2,h⟩
     · exact .inl ⟨h,fun _ _=>h⟩
theorem c29 (m a n b:Nat):prsN (.rnd m a) (.rnd n b)=if a≠3∧b≠3 then Nat.lcm m n else 0:=by
 unfold prsN
 by_cases h:a≠3∧b≠3
 · rw [if_pos h,if_pos ⟨decide_eq_false h.1,decide_eq_false h.2,rfl,rfl⟩]
   rfl
 · rw [if_neg h,if_neg (fun z=>h ⟨of_decide_eq_false z.1,of_decide_eq_false z.2.1⟩)]
theorem bf9 {g:Gk}{es:List Tr}(hg:g.ok) (hk:∀ k b,g=.inf k b→keT k∈es):srM es g.mc=none↔g.isI=true:=by
 cases g with
 | rnd m sd =>
   constructor
   · intro z
     exact absurd z (cf7 hg.1 hg.2.1 es)
   · intro z; cases z
 | inf k b =>
   constructor
   · intro _; rfl
   · intro _; exact bf0 (hk k b rfl)
def tickT:Tr:=(Nd.say "tick" 0).tr
theorem c30:tickT.h≤20:=by simp [tickT,Nd.tr,Nd.its,Tr.h,Tr.hs]
theorem b24 {g:Gk}{d:Nd}(h:d∈g.ns) (ok:g.ok):(∃ br j,d=.wait 1 br j∧(br=[]∨∃ m,br=[(k1P,m)]))∨(∃ k,d=.wait 0 [([.s "key",.i (k:Nat)],1),([.s "key",.i (k+1:Nat)],2)] 0)∨(∃ a b,d=.call a b)∨d=.stop∨∃ w j,d=.say w j∧(w=Str.ofString "tick"→tkG g=true):=by
 cases g with
 | rnd m sd =>
   obtain ⟨i,hi⟩:=List.mem_iff_getElem?.mp (show d∈rndN m sd from h)
   have hl:=ak9 (m:=m) (sd:=sd)
   have hil:=(List.getElem?_eq_some_iff.mp hi).1
   by_cases hk:i<m
   · rw [ak7 hk] at hi
     obtain rfl:=Option.some.inj hi
     refine .inl ⟨_,_,rfl,?_⟩
     split
     · exact .inr ⟨_,rfl⟩
     · exact .inl rfl
   · by_cases h1:1<sd
     · rw [hl,if_pos h1] at hil
       obtain rfl:i=m:=by omega
       rw [ak8 h1] at hi
       obtain rfl:=Option.some.inj hi
       refine .inr (.inr (.inr (.inr ⟨_,_,rfl,fun z=>?_⟩)))
       by_cases h2:sd=2
       · rw [if_pos h2] at z
         exact absurd z (by decide +kernel)
       · have:=ok.2.2
         exact decide_eq_true (by omega)
     · rw [hl,if_neg h1] at hil
       omega
 | inf k b =>
   have h:d∈endN k:=h
   simp only [endN,List.mem_cons,List.not_mem_nil,or_false] at h
   rcases h with rfl | rfl | rfl | rfl | rfl | rfl | rfl
   · exact .inr (.inl ⟨k,rfl⟩)
   · exact .inr (.inr (.inl ⟨_,_,rfl⟩))
   · exact .inr (.inr (.inl ⟨_,_,rfl⟩))
   · exact .inr (.inr (.inr (.inr ⟨_,_,rfl,fun z=>absurd z (by decide +kernel)⟩)))
   · exact .inr (.inr (.inr (.inr ⟨_,_,rfl,fun z=>absurd z (by decide +kernel)⟩)))
   · exact .inr (.inr (.inr (.inl rfl)))
   · exact .inr (.inr (.inr (.inr ⟨_,_,rfl,fun z=>absurd z (by decide +kernel)⟩)))
theorem bs0 {g:Gk}(ok:g.ok):∀ x∈g.ns.map Nd.tr,x.h≤20:=fun x hx=>by
 obtain ⟨d,hd,rfl⟩:=List.mem_map.mp hx
 rcases b24 hd ok with ⟨br,j,rfl,rfl | ⟨m,rfl⟩⟩ | ⟨k,rfl⟩ | ⟨a,b,rfl⟩ | rfl | ⟨w,j,rfl,_⟩ <;> simp [Nd.tr,Nd.its,Tr.h,Tr.hs,brT,k1P,Pt.tr]
theorem cm3 {g1 g2:Gk}(ok1:g1.ok) (ok2:g2.ok):∀ x∈g1.ns.map Nd.tr++g2.ns.map Nd.tr,x.h≤20:=fun x hx=>by
 rcases List.mem_append.mp hx with hx | hx
 · exact bs0 ok1 x hx
 · exact bs0 ok2 x hx
theorem ah8 {g:Gk}(ok:g.ok):tickT∈g.ns.map Nd.tr↔tkG g=true:=by
 constructor
 · intro h
   obtain ⟨d,hd,e⟩:=List.mem_map.mp h
   rcases b24 hd ok with ⟨br,j,rfl,_⟩ | ⟨k,rfl⟩ | ⟨a,b,rfl⟩ | rfl | ⟨w,j,rfl,h5⟩
   · simp [tickT,Nd.tr,Nd.its] at e
   · simp [tickT,Nd.tr,Nd.its] at e
   · simp [tickT,Nd.tr,Nd.its] at e
   · simp [tickT,Nd.tr,Nd.its] at e
   · refine h5 ?_
     simp only [tickT,Nd.tr,Nd.its,Tr.tup.injEq,List.cons.injEq,Tr.str.injEq] at e
     exact e.2.1
 · intro h
   cases g with
   | rnd m sd =>
     have h3:sd=3:=of_decide_eq_true h
     subst h3
     refine List.mem_map.mpr ⟨.say "tick" 0,List.mem_of_getElem? (i:=m) ?_,rfl⟩
     show (rndN m 3)[m]?=_
     rw [ak8 (by decide),if_neg (by decide)]
   | inf k b=>cases h
theorem c31 {g1 g2:Gk}(ok1:g1.ok) (ok2:g2.ok):(!decide (tickT∈g1.ns.map Nd.tr++g2.ns.map Nd.tr))=(!tkG g1 && !tkG g2):=by
 by_cases h:tickT∈g1.ns.map Nd.tr++g2.ns.map Nd.tr
 · rw [decide_eq_true h]
   rcases List.mem_append.mp h with z | z
   · rw [(ah8 ok1).mp z]; rfl
   · rw [(ah8 ok2).mp z]; simp
 · rw [decide_eq_false h]
   have z1:tkG g1=false:=Bool.eq_false_iff.mpr fun z=>h (List.mem_append_left _ ((ah8 ok1).mpr z))
   have z2:tkG g2=false:=Bool.eq_false_iff.mpr fun z=>h (List.mem_append_right _ ((ah8 ok2).mpr z))
   rw [z1,z2]
   rfl
def LN (a:Nat):Nd:=if 1<a then .say (if a=2 then Str.ofString "tock" else Str.ofString "tick") 0 else .wait 1 [] 0
theorem b25 {m a:Nat}(hm:1≤m):∃ xs,rndN m a=xs++[LN a]:=by
 have hl:=ak9 (m:=m) (sd:=a)
 have key:(rndN m a)[(rndN m a).length - 1]?=some (LN a):=by
  unfold LN
  rw [hl]
  by_cases h1:1<a
  · rw [if_pos h1,if_pos h1,Nat.add_sub_cancel,ak8 h1]
  · rw [if_neg h1,if_neg h1,Nat.add_zero,ak7 (show m - 1<m by omega),if_neg (fun z=>by omega)]
    unfold aq8
    rw [if_neg (by omega),if_neg (by omega)]
 rcases List.eq_nil_or_concat (rndN m a) with e | ⟨xs,y,e⟩
 · rw [e] at hl
   simp at hl
   omega
 · rw [List.concat_eq_append] at e
   rw [e] at key
   simp at key
   exact ⟨xs,by rw [e,key]⟩
def hdV (a:Nat):List V:=if 1<a then [.str "say",.str (if a=2 then Str.ofString "tock" else Str.ofString "tick")] else [.str "wait",.int 1]
def hdT (a:Nat):List Tr:=if 1<a then [.str "say",.str (if a=2 then Str.ofString "tock" else Str.ofString "tick")] else [.str "wait",.int 1]
def kdS (a:Nat):Str:=if 1<a then "say" else "wait"
theorem cg1 {H:Hp}{v:V}{a:Nat}(h:(LN a).tr.At H v []):∃ q x z us,v=.ref q∧H q=some (.tup (.str (kdS a)::x::z::us))∧[.str (kdS a),x]=hdV a:=by
 unfold LN at h
 unfold hdV kdS
 obtain ⟨q,us,rfl,e,h⟩:=at_tup0.mp h
 by_cases h1:1<a
 · rw [if_pos h1] at h
   rw [if_pos h1,if_pos h1]
   obtain ⟨v1,w1,rfl,k1,h⟩:=ats_cons0.mp h
   obtain ⟨v2,w2,rfl,k2,h⟩:=ats_cons0.mp h
   obtain ⟨v3,w3,rfl,k3,h⟩:=ats_cons0.mp h
   obtain rfl:=at_str0.mp k1
   obtain rfl:=at_str0.mp k2
   exact ⟨q,_,v3,w3,rfl,e,rfl⟩
 · rw [if_neg h1] at h
   rw [if_neg h1,if_neg h1]
   obtain ⟨v1,w1,rfl,k1,h⟩:=ats_cons0.mp h
   obtain ⟨v2,w2,rfl,k2,h⟩:=ats_cons0.mp h
   obtain ⟨v3,w3,rfl,k3,h⟩:=ats_cons0.mp h
   obtain rfl:=at_str0.mp k1
   obtain rfl:=at_int0.mp k2
   exact ⟨q,_,v3,w3,rfl,e,rfl⟩
theorem cg2 {H:Hp}{q:Addr}{a:Nat}(e:H q=some (.tup (hdV a))):(Tr.tup (hdT a)).At H (.ref q) []:=by
 unfold hdT
 unfold hdV at e
 by_cases h1:1<a
 · rw [if_pos h1] at e ⊢
   exact aa4 e a68 a68
 · rw [if_neg h1] at e ⊢
   exact aa4 e a68 aj2
theorem hd_h (a:Nat):(Tr.tup (hdT a)).h≤20:=by
 unfold hdT
 split <;> simp [Tr.h,Tr.hs]
theorem bs1 {a b:Nat}(ha:a<4) (hb:b<4):Tr.tup (hdT a)=Tr.tup (hdT b)↔cls a=cls b:=by
 have ne1:Str.ofString "tock"≠Str.ofString "tick":=by decide +kernel
 have ne2:Str.ofString "say"≠Str.ofString "wait":=by decide +kernel
 have ca:a=0∨a=1∨a=2∨a=3:=by omega
 have cb:b=0∨b=1∨b=2∨b=3:=by omega
 rcases ca with rfl | rfl | rfl | rfl <;> rcases cb with rfl | rfl | rfl | rfl <;> simp [hdT,cls,ne1,ne2,ne1.symm,ne2.symm]
theorem cg3 {K:PySem.W.Frag}{H:Hp}{Q:VK}{a:Addr}{x y z:V}{us:List V}(h1:SqT K H a (x::y::z::us)) (h:New H (.tup [x,y]) Q):cb4 K (.ref a) none (some 2) H Q:=by
 refine ⟨a,_,rfl,h1,fun w=>?_,?_⟩
 · have hs:HT.sIx (x::y::z::us).length (x::y::z::us).length (some 2)=2:=by
    unfold HT.sIx
    simp only [List.length_cons]
    split <;> omega
   rw [hs] at w
   simp at w
 · rw [show (some (2:Int))=some ((2:Nat):Int) from rfl,be6]
   exact h
theorem bs2 {k:Nat}(h:k<60):okT (sT (rG k))∧(tok (sT (rG k))).length=5:=by
 refine ⟨?_,rfl⟩
 show okT (.tup [.int (k:Nat),.tup [],.tup [],.int 1])
 refine ⟨show 4<101 by decide,⟨by omega,by omega⟩,⟨show 0<101 by decide,trivial⟩,⟨show 0<101 by decide,trivial⟩,⟨by decide,by decide⟩,trivial⟩
theorem cg4 {m a n b:Nat}{x:PR}(hm:m≤60) (hn:n≤60) (h1:(a37 m a).ok x.1) (h2:(a37 n b).ok x.2):x.1.isNone=x.2.isNone∧okT (pT x)∧(tok (pT x)).length≤5000:=by
 obtain ⟨x1,x2⟩:=x
 obtain ⟨k,hk,e1⟩:=h1
 obtain ⟨j,hj,e2⟩:=h2
 dsimp only at e1 e2
 subst e1 e2
 obtain ⟨t1,t2⟩:=bs2 (k:=k) (by omega)
 obtain ⟨u1,u2⟩:=bs2 (k:=j) (by omega)
 refine ⟨rfl,⟨show 2<101 by decide,t1,u1,trivial⟩,?_⟩
 show (tok (.tup [sT (rG k),sT (rG j)])).length≤5000
 simp only [tok,toks,List.length_cons,List.length_append,List.length_nil,t2,u2]
 omega
theorem cg5 (T:Txt K mg t):FnOk P w K mg base CX0 22 t.a_law t.fd_law ["script"] (as9 K):=by
 have G_GraphMachine___init__:=a58 (P:=P) (w:=w) (base:=base) T
 have G__law_by_map:=ar1 (P:=P) (w:=w) (base:=base) T
 have G__law_cell:=ay2 (P:=P) (w:=w) (base:=base) T
 have G__law_divisor:=al8 (P:=P) (w:=w) (base:=base) T
 have G__law_is_right:=al2 (P:=P) (w:=w) (base:=base) T
 have G__law_made:=ay8 (P:=P) (w:=w) (base:=base) T
 have G_found_paper:=al6 (P:=P) (w:=w) (base:=base) T
 refine T.f_law.F.ok sc_law (fun vs H Q E h=>?_) (fun cdv A outer s H vs Q E hr h=>?_)
 · obtain ⟨a,ns,rfl,_⟩:=h
   rfl
 · obtain ⟨a0,ns,rfl,hS,hl,q⟩:=h
   refine ⟨_,(@a01 _ _ _ _ _ (@a16 _ _ 1 _ _ _ _ sc_law.nd rfl (by walk_at "o") (@a21 _ _ _ _ _ _ _ _ _ _ _ _ _ _ _ _ G__law_made (hr.mono (by omega)) rfl T.f__law_made.m T.f__law_made.F.kp T.f__law_made.b .nil a27 (@a00 _ _ _ _ _ (@a21 _ _ _ _ _ _ _ _ _ _ _ _ _ _ _ _ G__law_cell (hr.mono (by omega)) rfl T.f__law_cell.m T.f__law_cell.F.kp T.f__law_cell.b .nil a27 (@a00 _ _ _ _ _ (pv 0) (@a00 _ _ _ _ _ (@a03 _ _ _ _) (@a02 _) (by rfl)) (by rfl)) (by decide) (by rfl) (by rfl)) (@a02 _) (by rfl)) (by decide) (by rfl) (by rfl)) (by rfl) (by walk_at "o"))
    (@a01 _ _ _ _ _ (@a16 _ _ 2 _ _ _ _ sc_law.nd rfl (by walk_at "o") (@a21 _ _ _ _ _ _ _ _ _ _ _ _ _ _ _ _ G__law_made (hr.mono (by omega)) rfl T.f__law_made.m T.f__law_made.F.kp T.f__law_made.b .nil a27 (@a00 _ _ _ _ _ (@a21 _ _ _ _ _ _ _ _ _ _ _ _ _ _ _ _ G__law_cell (hr.mono (by omega)) rfl T.f__law_cell.m T.f__law_cell.F.kp T.f__law_cell.b .nil a27 (@a00 _ _ _ _ _ (pv 0) (@a00 _ _ _ _ _ (@a03 _ _ _ _) (@a02 _) (by rfl)) (by rfl)) (by decide) (by rfl) (by rfl)) (@a02 _) (by rfl)) (by decide) (by rfl) (by rfl)) (by rfl) (by walk_at "o"))
    (@a01 _ _ _ _ _ (@a16 _ _ 3 _ _ _ _ sc_law.nd rfl (by walk_at "o") (@a45 _ _ _ _ _ _ _ _ a66 (@a12 _ _ _ _ _ _ _ (a15 K) (pv 1) (@a03 _ _ _ _) (fun _ _=>rfl)) (bh8 (Nt:=["event"]) (Nf:=["one"]) (caps:=[1]) rfl (af2 (sc:=a07 bt8) rfl rfl (by decide +kernel) (by decide +kernel) (by decide +kernel) rfl (by decide +kernel)) (a69 K (@a12 _ _ _ _ _ _ _ (a15 K) (pv 2) (@a03 _ _ _ _) (fun _ _=>rfl))) (fun _ _ _ _ _=>(a24 (i:=0) (show (["event","one"]:List Str).Nodup by decide +kernel) rfl (by walk_at "o"))) (fun _ _ _ _ _=>(@bu6 _ _ _ (@a09 _ _ _ _ _ _ _ _ (an5 K (by exact hr.units)) (pv 0) (@a12 _ _ _ _ _ _ _ (a15 K) (pv 1) (@a03 _ _ _ _) (fun _ _=>rfl)) (by with_unfolding_all rfl)))) (fun _ _ _ _ _=>(pv 0)))) (by rfl) (by walk_at "o"))
    (@a01 _ _ _ _ _ (@a16 _ _ 4 _ _ _ _ sc_law.nd rfl (by walk_at "o") (aw0 T.mk_GraphMachine G_GraphMachine___init__ (hr.mono (by omega)) rfl T.m_GraphMachine T.f_GraphMachine___init__.b .nil a27 (@a00 _ _ _ _ _ (@a12 _ _ _ _ _ _ _ (a15 K) (pv 1) (@a03 _ _ _ _) (fun _ _=>rfl)) (@a02 _) (by rfl))) (by rfl) (by walk_at "o"))
    (@a01 _ _ _ _ _ (@a16 _ _ 5 _ _ _ _ sc_law.nd rfl (by walk_at "o") (aw0 T.mk_GraphMachine G_GraphMachine___init__ (hr.mono (by omega)) rfl T.m_GraphMachine T.f_GraphMachine___init__.b .nil a27 (@a00 _ _ _ _ _ (@a12 _ _ _ _ _ _ _ (a15 K) (pv 2) (@a03 _ _ _ _) (fun _ _=>rfl)) (@a02 _) (by rfl))) (by rfl) (by walk_at "o"))
    (@a01 _ _ _ _ _ (@a16 _ _ 6 _ _ _ _ sc_law.nd rfl (by walk_at "o") (@a31 _ _ _) (by rfl) (by walk_at "o"))
    (@a01 _ _ _ _ _ (@a16 _ _ 7 _ _ _ _ sc_law.nd rfl (by walk_at "o") (@a31 _ _ _) (by rfl) (by walk_at "o"))
    (@a01 _ _ _ _ _ (bl5 (i:=8) rfl rfl rfl T.xm_TooMany_MillError T.m_MillError rfl sc_law.nd rfl rfl rfl (fun E pn xe hx=>(@a05 _ _ _ (@a16 _ _ 7 _ _ _ _ sc_law.nd rfl (by walk_at "o") (bl4 G_found_paper (hr.mono (by omega)) rfl T.f_found_paper.m T.f_found_paper.F.kp T.f_found_paper.b .nil hx (@a00 _ _ _ _ _ (pv 4) (@a00 _ _ _ _ _ (pv 5) (@a00 _ _ _ _ _ (pv 3) (@a02 _) (by rfl)) (by rfl)) (by rfl)) (by decide) (by rfl) (by rfl)) (by rfl) (by walk_at "o")))) (fun _=>(@a05 _ _ _ (@a16 _ _ 6 _ _ _ _ sc_law.nd rfl (by walk_at "o") (pv 8) (by rfl) (by walk_at "o")))))
    (@a01 _ _ _ _ _ (@a16 _ _ 9 _ _ _ _ sc_law.nd rfl (by walk_at "o") (@a86 _ _ _ _ _ _ _ _ (an5 K (by exact hr.units)) (@a19 _ _ _ _ _ (@a00 _ _ _ _ _ (@a22 _ _ _ _) (@a00 _ _ _ _ _ (@a22 _ _ _ _) (@a00 _ _ _ _ _ (@a03 _ _ _ _) (@a02 _) (by rfl)) (by rfl)) (by rfl))) (@a45 _ _ _ _ _ _ _ _ a66 (@a12 _ _ _ _ _ _ _ (a06 K) (@a12 _ _ _ _ _ _ _ (a15 K) (pv 1) (@a03 _ _ _ _) (fun _ _=>rfl)) (@a03 _ _ _ _) (fun _ _=>rfl)) (@a12 _ _ _ _ _ _ _ (a06 K) (@a12 _ _ _ _ _ _ _ (a15 K) (pv 2) (@a03 _ _ _ _) (fun _ _=>rfl)) (@a03 _ _ _ _) (fun _ _=>rfl))) (by with_unfolding_all rfl)) (by rfl) (by walk_at "o"))
    (@a01 _ _ _ _ _ (@a16 _ _ 10 _ _ _ _ sc_law.nd rfl (by walk_at "o") (@a03 _ _ _ _) (by rfl) (by walk_at "o"))
    (@a62 _ _ _ _ _ (@a32 _ _ _ _ _ _ _ _ (@a81 _ _ _ (@PW.pt _ _ _ (@ac9 _ _ _ _ _ _ _ (a67 K (pv 9) (fun _=>rfl)) (@ac9 _ _ _ _ _ _ _ (@bn7 _ _ _ _ (a67 K (@a12 _ _ _ _ _ _ _ (a15 K) (pv 1) (@a03 _ _ _ _) (fun _ _=>rfl)) (fun _=>rfl))) (@a97 _ _ _ _ (@bn7 _ _ _ _ (a67 K (@a12 _ _ _ _ _ _ _ (a15 K) (pv 2) (@a03 _ _ _ _) (fun _ _=>rfl)) (fun _=>rfl)))))))) (@a05 _ _ _ (@a16 _ _ 10 _ _ _ _ sc_law.nd rfl (by walk_at "o") (@a45 _ _ _ _ _ _ _ _ ao4 (@a45 _ _ _ _ _ _ _ _ ad7 (@a12 _ _ _ _ _ _ _ (a15 K) (pv 1) (@a03 _ _ _ _) (fun _ _=>rfl)) (@a12 _ _ _ _ _ _ _ (a15 K) (pv 2) (@a03 _ _ _ _) (fun _ _=>rfl))) (@a21 _ _ _ _ _ _ _ _ _ _ _ _ _ _ _ _ G__law_divisor (hr.mono (by omega)) rfl T.f__law_divisor.m T.f__law_divisor.F.kp T.f__law_divisor.b .nil a27 (@a00 _ _ _ _ _ (@a12 _ _ _ _ _ _ _ (a15 K) (pv 1) (@a03 _ _ _ _) (fun _ _=>rfl)) (@a00 _ _ _ _ _ (@a12 _ _ _ _ _ _ _ (a15 K) (pv 2) (@a03 _ _ _ _) (fun _ _=>rfl)) (@a02 _) (by rfl)) (by rfl)) (by decide) (by rfl) (by rfl))) (by rfl) (by walk_at "o"))) (@a20 _))
    (@a01 _ _ _ _ _ (@a32 _ _ _ _ _ _ _ _ (@a81 _ _ _ (@PW.pt _ _ _ (@ac9 _ _ _ _ _ _ _ (a67 K (@a12 _ _ _ _ _ _ _ (a15 K) (pv 1) (@a03 _ _ _ _) (fun _ _=>rfl)) (fun _=>rfl)) (@a97 _ _ _ _ (@a09 _ _ _ _ _ _ _ _ b29 (@a21 _ _ _ _ _ _ _ _ _ _ _ _ _ _ _ _ G__law_by_map (hr.mono (by omega)) rfl T.f__law_by_map.m T.f__law_by_map.F.kp T.f__law_by_map.b .nil a27 (@a00 _ _ _ _ _ (@a12 _ _ _ _ _ _ _ (a15 K) (pv 1) (@a03 _ _ _ _) (fun _ _=>rfl)) (@a00 _ _ _ _ _ (pv 3) (@a02 _) (by rfl)) (by rfl)) (by decide) (by rfl) (by rfl)) (@a22 _ _ _ _) (nomark _)))))) (@a05 _ _ _ (@a17 _ _ _ _ (@ag4 _ _ _ _))) (@a20 _))
    (@a01 _ _ _ _ _ (@a32 _ _ _ _ _ _ _ _ (@a81 _ _ _ (@PW.pt _ _ _ (@ao3 _ _ _ _ _ _ _ (a67 K (@a12 _ _ _ _ _ _ _ (a15 K) (pv 1) (@a03 _ _ _ _) (fun _ _=>rfl)) (fun _=>rfl)) (@ao3 _ _ _ _ _ _ _ (a67 K (@a12 _ _ _ _ _ _ _ (a15 K) (pv 2) (@a03 _ _ _ _) (fun _ _=>rfl)) (fun _=>rfl)) (@ah9 _ _ _ _ (@a09 _ _ _ _ _ _ _ _ bg4 (pv 10) (@a03 _ _ _ _) (nomark _))))))) (@a01 _ _ _ _ _ (@a32 _ _ _ _ _ _ _ _ (@a81 _ _ _ (@PW.pt _ _ _ (@ao3 _ _ _ _ _ _ _ (a67 K (@a39 _ _ _ _ _ _ _ _ _ (ae0 K) (by rfl) T.z_isinstance a41 (@a00 _ _ _ _ _ (pv 6) (@a00 _ _ _ _ _ (a96 (v:=.ref t.c_NoForm) (by rfl) T.m_NoForm (by rfl)) (@a02 _) (by rfl)) (by rfl)) (by decide) (by decide) (by rfl) (by rfl)) (fun _=>rfl)) (@ao3 _ _ _ _ _ _ _ (a67 K (@a39 _ _ _ _ _ _ _ _ _ (ae0 K) (by rfl) T.z_isinstance a41 (@a00 _ _ _ _ _ (pv 6) (@a00 _ _ _ _ _ (a96 (v:=.ref t.c_NoneYet) (by rfl) T.m_NoneYet (by rfl)) (@a02 _) (by rfl)) (by rfl)) (by decide) (by decide) (by rfl) (by rfl)) (fun _=>rfl)) (@ah9 _ _ _ _ (a67 K (@a39 _ _ _ _ _ _ _ _ _ (ae0 K) (by rfl) T.z_isinstance a41 (@a00 _ _ _ _ _ (pv 6) (@a00 _ _ _ _ _ (a96 (v:=.ref t.c_NoScript) (by rfl) T.m_NoScript (by rfl)) (@a02 _) (by rfl)) (by rfl)) (by decide) (by decide) (by rfl) (by rfl)) (fun _=>rfl))))))) (@a05 _ _ _ (@a17 _ _ _ _ (@ag4 _ _ _ _))) (@a20 _))
     (@a05 _ _ _ (@a17 _ _ _ _ (@b59 _ _ _ _ _ _ _ (@a39 _ _ _ _ _ _ _ _ _ (ae0 K) (by rfl) T.z_isinstance a41 (@a00 _ _ _ _ _ (pv 6) (@a00 _ _ _ _ _ (a96 (v:=.ref t.c_TooMany) (by rfl) T.m_TooMany (by rfl)) (@a02 _) (by rfl)) (by rfl)) (by decide) (by decide) (by rfl) (by rfl)) (@b58 _ _ _ _ _ (@a39 _ _ _ _ _ _ _ _ _ (ae0 K) (by rfl) T.z_isinstance a41 (@a00 _ _ _ _ _ (pv 6) (@a00 _ _ _ _ _ (ao2 (v:=.ty "ValueError") (by rfl) T.z_ValueError aq3 rfl) (@a02 _) (by rfl)) (by rfl)) (by decide) (by decide) (by rfl) (by rfl))))))) (@a20 _))
    (@a01 _ _ _ _ _ (@a32 _ _ _ _ _ _ _ _ (@a09 _ _ _ _ _ _ _ _ ab0 (pv 6) (@a31 _ _ _) (nomark _)) (@a05 _ _ _ (@a17 _ _ _ _ (@ag4 _ _ _ _))) (@a20 _))
    (@a01 _ _ _ _ _ (@a32 _ _ _ _ _ _ _ _ (@a81 _ _ _ (@PW.pt _ _ _ (@ac9 _ _ _ _ _ _ _ (@a09 _ _ _ _ _ _ _ _ (bk3 K (by exact hr.units)) (@ao7 _ _ _ _ _ _ _ _ _ _ (b96 K) (@a12 _ _ _ _ _ _ _ (a15 K) (@a12 _ _ _ _ _ _ _ (a06 K) (@a12 _ _ _ _ _ _ _ (a15 K) (pv 1) (@a03 _ _ _ _) (fun _ _=>rfl)) (@a03 _ _ _ _) (fun _ _=>rfl)) (@ar5 _ _ _ _ _ _ af8 (@a03 _ _ _ _)) (fun _ _=>rfl)) (@aw1 _) (@aw2 _ _ _ (@a03 _ _ _ _))) (@ao7 _ _ _ _ _ _ _ _ _ _ (b96 K) (@a12 _ _ _ _ _ _ _ (a15 K) (@a12 _ _ _ _ _ _ _ (a06 K) (@a12 _ _ _ _ _ _ _ (a15 K) (pv 2) (@a03 _ _ _ _) (fun _ _=>rfl)) (@a03 _ _ _ _) (fun _ _=>rfl)) (@ar5 _ _ _ _ _ _ af8 (@a03 _ _ _ _)) (fun _ _=>rfl)) (@aw1 _) (@aw2 _ _ _ (@a03 _ _ _ _))) (nomark _)) (@a97 _ _ _ _ (@a09 _ _ _ _ _ _ _ _ (bx7 K (by exact hr.units)) (@a22 _ _ _ _) (@a30 _ _ _ _ (@a00 _ _ _ _ _ (@a12 _ _ _ _ _ _ _ (a06 K) (@a12 _ _ _ _ _ _ _ (a15 K) (@a12 _ _ _ _ _ _ _ (a06 K) (@a12 _ _ _ _ _ _ _ (a15 K) (pv 1) (@a03 _ _ _ _) (fun _ _=>rfl)) (@a03 _ _ _ _) (fun _ _=>rfl)) (@ar5 _ _ _ _ _ _ af8 (@a03 _ _ _ _)) (fun _ _=>rfl)) (@a03 _ _ _ _) (fun _ _=>rfl)) (@a00 _ _ _ _ _ (@a12 _ _ _ _ _ _ _ (a06 K) (@a12 _ _ _ _ _ _ _ (a15 K) (@a12 _ _ _ _ _ _ _ (a06 K) (@a12 _ _ _ _ _ _ _ (a15 K) (pv 2) (@a03 _ _ _ _) (fun _ _=>rfl)) (@a03 _ _ _ _) (fun _ _=>rfl)) (@ar5 _ _ _ _ _ _ af8 (@a03 _ _ _ _)) (fun _ _=>rfl)) (@a03 _ _ _ _) (fun _ _=>rfl)) (@a02 _) (by rfl)) (by rfl))) (by with_unfolding_all rfl)))))) (@a05 _ _ _ (@a17 _ _ _ _ (@a86 _ _ _ _ _ _ _ _ a71 (pv 7) (@a31 _ _ _) (nomark _)))) (@a20 _))
    (@a01 _ _ _ _ _ (@a32 _ _ _ _ _ _ _ _ (@a81 _ _ _ (@PW.pt _ _ _ (@ac9 _ _ _ _ _ _ _ (@a09 _ _ _ _ _ _ _ _ a60 (@a12 _ _ _ _ _ _ _ (a06 K) (@a12 _ _ _ _ _ _ _ (a15 K) (@a12 _ _ _ _ _ _ _ (a06 K) (@a12 _ _ _ _ _ _ _ (a15 K) (pv 1) (@a03 _ _ _ _) (fun _ _=>rfl)) (@a03 _ _ _ _) (fun _ _=>rfl)) (@ar5 _ _ _ _ _ _ af8 (@a03 _ _ _ _)) (fun _ _=>rfl)) (@a03 _ _ _ _) (fun _ _=>rfl)) (@a22 _ _ _ _) (nomark _)) (@a97 _ _ _ _ (@a09 _ _ _ _ _ _ _ _ b29 (@a12 _ _ _ _ _ _ _ (a15 K) (pv 1) (@a03 _ _ _ _) (fun _ _=>rfl)) (@a12 _ _ _ _ _ _ _ (a15 K) (pv 2) (@a03 _ _ _ _) (fun _ _=>rfl)) (nomark _)))))) (@a05 _ _ _ (@a17 _ _ _ _ (@a86 _ _ _ _ _ _ _ _ a71 (pv 7) (@a31 _ _ _) (nomark _)))) (@a20 _))
    (@a05 _ _ _ (@a17 _ _ _ _ (@b59 _ _ _ _ _ _ _ (@a39 _ _ _ _ _ _ _ _ _ (aw6 K) (by rfl) T.z_isinstance a41 (@a00 _ _ _ _ _ (pv 7) (@a00 _ _ _ _ _ (ao2 (v:=.ty "list") (by rfl) T.z_list ac5 rfl) (@a02 _) (by rfl)) (by rfl)) (by decide) (by decide) (by rfl) (by rfl)) (@b58 _ _ _ _ _ (@a21 _ _ _ _ _ _ _ _ _ _ _ _ _ _ _ _ G__law_is_right (hr.mono (by omega)) rfl T.f__law_is_right.m T.f__law_is_right.F.kp T.f__law_is_right.b .nil a27 (@a00 _ _ _ _ _ (pv 4) (@a00 _ _ _ _ _ (pv 5) (@a00 _ _ _ _ _ (pv 3) (@a00 _ _ _ _ _ (pv 7) (@a02 _) (by rfl)) (by rfl)) (by rfl)) (by rfl)) (by decide) (by rfl) (by rfl)))))))))))))))))))))),?_⟩
   have sl:(1000000:Nat)≤sizeLine:=le_line (Nat.le_refl _)
   walk_at "go"
   refine ⟨a0,ns,0,rfl,hS,fun c0=>?_⟩
   walk_at "run"
   refine ⟨c0,rfl,fun g1 gt1 bx1 nd1 ev1 un1 eu1 l1 H1 s1 ok1 k1=>?_⟩
   walk_at "run"
   refine ⟨a0,ns,1,rfl,s1.seq hS,fun c1=>?_⟩
   walk_at "run"
   refine ⟨c1,rfl,fun g2 gt2 bx2 nd2 ev2 un2 eu2 l2 H2 s2 ok2 k2=>?_⟩
   walk_at "run"
   have k12:=k1.same s2
   refine a42 (SqL.of k12.l) (a04 (j:=3) rfl) ?_
   walk_at "run"
   refine a42 (SqL.of k2.l) (a04 (j:=3) rfl) ?_
   obtain ⟨_,a3,a4,_,_⟩:=az1 g1
   obtain ⟨_,b3,b4,_,_⟩:=az1 g2
   have hl1:eu1.length=g1.es.length:=k1.ae.len
   have hl2:eu2.length=g2.es.length:=k2.ae.len
   refine ⟨ev2,rfl,⟨_,SqL.of k2.e⟩,ap4 (xs:=eu2) (le_line (by omega)) (fun i acc H'=>H2=H'∧i≤eu2.length∧acc.length≤i∧Tr.Ats H' ((g2.es.take i).filter fun e=>!decide (e∈g1.es)) acc []) ⟨rfl,Nat.zero_le _,Nat.le_refl _,by simp [Tr.Ats]⟩ (fun i acc H' zz=>by obtain ⟨rfl,_,e,_⟩:=zz; exact ⟨e,SqL.of k2.e⟩) ?_ ?_⟩
   · rintro i x acc H' hx ⟨rfl,hi,ha,hat⟩
     have hi':=(List.getElem?_eq_some_iff.mp hx).1
     obtain ⟨e,he⟩:∃ e,g2.es[i]?=some e:=⟨_,List.getElem?_eq_getElem (by omega)⟩
     obtain ⟨e',he',hxe⟩:=ae5 k2.ae hx
     rw [he] at he'
     obtain rfl:=Option.some.inj he'
     walk_at "run"
     refine a42 (SqL.of k12.l) (a04 (j:=3) rfl) ?_
     refine b06 hxe (SqL.of k12.e) k12.ae (Nat.le_trans (b4 e (List.mem_of_getElem? he)) (by decide)) (Nat.le_trans (bf5 a4) (by decide)) ?_
     have htk:(g2.es.take (i+1)).filter (fun e=>!decide (e∈g1.es))=(g2.es.take i).filter (fun e=>!decide (e∈g1.es))++(if (!decide (e∈g1.es))=true then [e] else []):=by
      rw [List.take_add_one,he,List.filter_append]
      congr 1
      show List.filter _ [e]=_
      rw [List.filter_cons]
      rfl
     refine ⟨_,rfl,?_⟩
     by_cases hm:e∈g1.es
     · rw [decide_eq_true hm] at htk ⊢
       walk_at "run"
       refine ⟨rfl,hi',by omega,?_⟩
       rw [htk]
       simpa using hat
     · rw [decide_eq_false hm] at htk ⊢
       walk_at "run"
       refine ⟨rfl,hi',by simp; omega,?_⟩
       rw [htk]
       exact Tr.Ats.snoc (fs:=[]) (gs:=[]) hat hxe
   rintro acc H' ⟨rfl,_,ha,hat⟩ p3 H3 f3 s3 e3
   rw [List.take_of_length_le (by omega)] at hat
   walk_at "run"
   have k13:=k12.same s3
   have k23:=k2.same s3
   refine aw8 k13.e e3 (by omega) ?_
   intro ev H4 f4 s4 e4
   have hes:Tr.Ats H4 (al9 g1.es g2.es) (eu1++acc) []:=ar2 (k13.ae.same s4) (hat.same (s3.trans s4))
   have heh:∀ e∈al9 g1.es g2.es,e.h≤5:=fun e he=>by
    rcases bn5 he with z | z
    · exact Nat.le_trans (a4 e z) (by decide)
    · exact Nat.le_trans (b4 e z) (by decide)
   have hel:(al9 g1.es g2.es).length≤100:=by have:=bn6 g1.es g2.es; omega
   generalize eu1++acc=us at e4 hes
   obtain ⟨es,hE⟩:∃ es,es=al9 g1.es g2.es:=⟨_,rfl⟩
   rw [← hE] at hes heh hel
   have k14:=k13.same s4
   have k24:=k23.same s4
   have M1:MapPre K H4 gt1 bx1 nd1 ev un1 us g1 es:=⟨ok1,k14.t,k14.b,k14.n,k14.an,e4,Tr.Ats.toK K hes,heh,hel⟩
   have M2:MapPre K H4 gt2 bx2 nd2 ev un2 us g2 es:=⟨ok2,k24.t,k24.b,k24.n,k24.an,e4,Tr.Ats.toK K hes,heh,hel⟩
   walk_at "run"
   refine a42 (SqL.of k14.l) (a04 (j:=0) rfl) ?_
   walk_at "run"
   intro p dx f5 f6 fn
   have s5:Same H4 (upd (upd H4 dx (.own p)) p (.ins t.c_GraphMachine dx [])):=(Same.new f6).updNew f5
   refine ⟨p,dx,gt1,bx1,nd1,[],un1,[],g1.ns,g1.f,rfl,a18,s5 _ _ M1.t,s5 _ _ M1.b,Each.nil,s5 _ _ M1.n,M1.an.same s5,fun dx' bl' nl' H5 x1 x2 x3 x4 x5 x6=>⟨rfl,?_⟩⟩
   have s45:Same H4 H5:=fun a o e=>x6 a o (s5 _ _ e) (fun z=>by rw [z,f5] at e; cases e)
   have P1:=az0 gt1 bx1 nd1 (C:=t.c_GraphMachine) M1 s45 x3 x4 x5
   walk_at "run"
   refine a42 (SqL.of (s45 _ _ k24.l)) (a04 (j:=0) rfl) ?_
   walk_at "run"
   intro p' dx2 f7 f8 fn2
   have s6:Same H5 (upd (upd H5 dx2 (.own p')) p' (.ins t.c_GraphMachine dx2 [])):=(Same.new f8).updNew f7
   have M25:=M2.same s45
   refine ⟨p',dx2,gt2,bx2,nd2,[],un2,[],g2.ns,g2.f,rfl,a18,s6 _ _ M25.t,s6 _ _ M25.b,Each.nil,s6 _ _ M25.n,M25.an.same s6,fun dx' bl' nl' H6 x1 x2 x3 x4 x5 x6=>⟨rfl,?_⟩⟩
   have s56:Same H5 H6:=fun a o e=>x6 a o (s6 _ _ e) (fun z=>by rw [z,f7] at e; cases e)
   have P2:=az0 gt2 bx2 nd2 (C:=t.c_GraphMachine) M25 s56 x3 x4 x5
   have s46:=s45.trans s56
   have P16:=P1.same s56
   have M16:=M1.same s46
   have k16:=k14.same s46
   have k26:=k24.same s46
   walk_at "run"
   have hk1:∀ k b,g1=.inf k b→keT k∈es:=fun k b z=>by rw [hE]; exact af0 (.inl ((az1 g1).2.2.2.1 k b z))
   have hk2:∀ k b,g2=.inf k b→keT k∈es:=fun k b z=>by rw [hE]; exact af0 (.inr ((az1 g2).2.2.2.1 k b z))
   have hq:quT∈es:=by rw [hE]; exact af0 (.inl (az1 g1).1)
   rename_i N hN
   have rest:∀ (cv fv:V) (H7:Hp),Same H6 H7→Outc t.c_TooMany es g1 g2 H7 cv fv→N [some (.ref a0),some (.ref l1),some (.ref l2),some (.ref ev),some (.ref p),some (.ref p'),some cv,some fv,none,none,none] H7:=fun cv fv H7 s7 hO=>by
    refine hN _ _ ?_
    walk_at "run"
    have k17:=k16.same s7
    have k27:=k26.same s7
    intro p8 H8 f8 s8 e8
    walk_at "run"
    have k18:=k17.same s8
    have k28:=k27.same s8
    refine a42 (SqL.of k18.l) (a04 (j:=0) rfl) ?_
    walk_at "run"
    refine a23 (SqT.of k18.t) (a04 (j:=1) rfl) ?_
    walk_at "run"
    refine a42 (SqL.of k28.l) (a04 (j:=0) rfl) ?_
    walk_at "run"
    refine a23 (SqT.of k28.t) (a04 (j:=1) rfl) ?_
    walk_at "run"
    have hn1:un1.length≤100:=by rw [k18.an.len,List.length_map]; exact bf3 ok1
    have hn2:un2.length≤100:=by rw [k28.an.len,List.length_map]; exact bf3 ok2
    refine aw8 k18.n k28.n (by omega) ?_
    intro p9 H9 f9 s9 e9
    have hts:(tickT).At H9 (.ref p8) []:=ak6 (n:=0) (s9 _ _ e8)
    refine b06 hts (SqL.of e9) (ar2 (k18.an.same s9) (k28.an.same s9)) c30 (Nat.le_trans (bf5 (n:=20) (cm3 ok1 ok2)) (by decide)) ?_
    rw [c31 ok1 ok2]
    walk_at "run"
    have s79:=s8.trans s9
    have k19:=k18.same s9
    have k29:=k28.same s9
    have M19:=(M16.same s7).same s79
    refine ab9 (fun σ' H'=>Same H9 H'∧σ'=[some (.ref a0),some (.ref l1),some (.ref l2),some (.ref ev),some (.ref p),some (.ref p'),some cv,some fv,none,some (.bl (!tkG g1 && !tkG g2)),some (.int (prsN g1 g2:Nat))]) ?_ ?_
    · walk_at "run"
      refine ag2 (tkG g1=false∧tkG g2=false∧g1.isI=false∧g2.isI=false) (fun R hR=>?_) ?_
      · by_cases hs:tkG g1=false∧tkG g2=false
        · rw [hs.1,hs.2,show (!false && !false)=true from rfl]
          walk_at "run"
          refine a42 (SqL.of k19.l) (a04 (j:=1) rfl) ?_
          cases h1:g1.isI with
          | true =>
            walk_at "run"
            exact rF hR (fun z=>by rw [h1] at z; exact absurd z.2.2.1 (by decide))
          | false =>
            walk_at "run"
            refine a42 (SqL.of k29.l) (a04 (j:=1) rfl) ?_
            cases h2:g2.isI with
            | true =>
              walk_at "run"
              exact rF hR (fun z=>by rw [h2] at z; exact absurd z.2.2.2 (by decide))
            | false =>
              walk_at "run"
              exact rT hR ⟨hs.1,hs.2,h1,h2⟩
        · have:(!tkG g1 && !tkG g2)=false:=by
           cases h1:tkG g1 with
           | true=>rfl
           | false =>
             cases h2:tkG g2 with
             | true=>rfl
             | false=>exact absurd ⟨h1,h2⟩ hs
          rw [this]
          walk_at "run"
          exact rF hR (fun z=>hs ⟨z.1,z.2.1⟩)
      by_cases hc:tkG g1=false∧tkG g2=false∧g1.isI=false∧g2.isI=false
      · refine a26 hc ?_
        walk_at "run"
        have mk:∀ {g:Gk},g.ok→g.many≤60:=fun {g} z=>by
         cases g with
         | rnd m a=>exact z.2.1
         | inf k b=>exact Nat.zero_le _
        have mp:∀ {g:Gk},g.ok→g.isI=false→1≤g.many:=fun {g} z y=>by
         cases g with
         | rnd m a=>exact z.1
         | inf k b=>cases y
        have m1:=mk ok1
        have m2:=mk ok2
        have p1:=mp ok1 hc.2.2.1
        have p2:=mp ok2 hc.2.2.2
        refine a42 (SqL.of k19.l) (a04 (j:=2) rfl) ?_
        walk_at "run"
        refine a42 (SqL.of k29.l) (a04 (j:=2) rfl) ?_
        walk_at "run"
        refine ad9 (.inr (.inl ⟨by omega,by omega⟩)) ?_
        walk_at "run"
        refine a42 (SqL.of k19.l) (a04 (j:=2) rfl) ?_
        walk_at "run"
        refine a42 (SqL.of k29.l) (a04 (j:=2) rfl) ?_
        refine ⟨g1.many,g2.many,rfl,by omega,by omega,fun H10 s10=>?_⟩
        walk_at "run"
        have gp:0<Nat.gcd g1.many g2.many:=Nat.gcd_pos_of_pos_left _ p1
        have gl:Nat.gcd g1.many g2.many≤g1.many:=Nat.gcd_le_left _ p1
        refine i_rI (show CDiv _ _ from ⟨by omega,by omega⟩) ?_
        walk_at "run"
        refine ⟨s10,?_⟩
        unfold prsN
        rw [if_pos hc]
        have:((g1.many:Nat):Int)*((g2.many:Nat):Int) / ((Nat.gcd g1.many g2.many:Nat):Int)=((Nat.lcm g1.many g2.many:Nat):Int):=by
         rw [Nat.lcm]
         norm_cast
        rw [this]
      · refine a25 hc ?_
        walk_at "run"
        refine ⟨Same.refl _,?_⟩
        unfold prsN
        rw [if_neg hc]
        rfl
    rintro σ' H10 ⟨s10,rfl⟩
    walk_at "run"
    have M10:=M19.same s10
    have kA:=k19.same s10
    have kB:=k29.same s10
    refine bf6 False (fun R hR=>?_) fun H11 s11=>?_
    · walk_at "run"
      refine a42 (SqL.of kA.l) (a04 (j:=1) rfl) ?_
      cases h1:g1.isI with
      | false =>
        walk_at "run"
        exact rF (hR _ (Same.refl _)) id
      | true =>
        walk_at "run"
        refine a42 (SqL.of kA.l) (a04 (j:=0) rfl) ?_
        walk_at "run"
        refine ⟨gt1,bx1,nd1,ev,un1,us,g1,es,rfl,M10,(bf9 ok1 hk1).mpr h1,fun H11 s11=>?_⟩
        walk_at "run"
        exact rF (hR _ s11) id
    refine a25 id ?_
    walk_at "run"
    have kC:=kA.same s11
    have kD:=kB.same s11
    have s711:=s79.trans (s10.trans s11)
    refine ag2 (g1.isI=true∨g2.isI=true∨2000<prsN g1 g2) (fun R hR=>?_) ?_
    · walk_at "run"
      refine a42 (SqL.of kC.l) (a04 (j:=1) rfl) ?_
      cases h1:g1.isI with
      | true =>
        walk_at "run"
        exact rT hR (.inl h1)
      | false =>
        walk_at "run"
        refine a42 (SqL.of kD.l) (a04 (j:=1) rfl) ?_
        cases h2:g2.isI with
        | true =>
          walk_at "run"
          exact rT hR (.inr (.inl h2))
        | false =>
          walk_at "run"
          by_cases h3:2000<prsN g1 g2
          · rw [decide_eq_true (by omega)]
            exact rT hR (.inr (.inr h3))
          · rw [decide_eq_false (by omega)]
            refine rF hR (fun z=>?_)
            rcases z with z | z | z
            · rw [h1] at z; cases z
            · rw [h2] at z; cases z
            · exact h3 z
    rcases hO with ⟨a,rfl,ea,rfl,hbig⟩ | ⟨rfl,m,a,n,b,e1,e2,hprs,hfv⟩
    · refine a26 hbig ?_
      walk_at "run"
      have ea:=s711 _ _ ea
      refine ag2 False (fun R hR=>?_) ?_
      · walk_at "run"
        refine b12 ea T.xi_TooMany T.ik_TooMany_NoForm ?_
        walk_at "run"
        refine b12 ea T.xi_TooMany T.ik_TooMany_NoneYet ?_
        walk_at "run"
        refine b12 ea T.xi_TooMany T.ik_TooMany_NoScript ?_
        walk_at "run"
        exact rF hR id
      refine a25 id ?_
      walk_at "run"
      refine b12 ea T.xi_TooMany T.ik_TooMany_TooMany ?_
      walk_at "run"
      refine bz2 ea T.xi_TooMany T.ik_TooMany_ValueError ?_
      exact q _
    · refine a25 (fun z=>?_) ?_
      · rw [e1,e2] at z
        rcases z with z | z | z
        · cases z
        · cases z
        · rw [← e1,←e2] at z
          omega
      walk_at "run"
      rw [if_neg (by simp)]
      walk_at "run"
      subst e1
      subst e2
      obtain ⟨xs1,hx1⟩:=b25 (m:=m) (a:=a) ok1.1
      obtain ⟨xs2,hx2⟩:=b25 (m:=n) (a:=b) ok2.1
      have an1:=kC.an
      have an2:=kD.an
      rw [show Gk.ns (.rnd m a)=xs1++[LN a] from hx1,List.map_append] at an1
      rw [show Gk.ns (.rnd n b)=xs2++[LN b] from hx2,List.map_append] at an2
      obtain ⟨ws1,v1,rfl,hv1⟩:=ah2 an1
      obtain ⟨ws2,v2,rfl,hv2⟩:=ah2 an2
      obtain ⟨n1,x1,z1,us1,rfl,en1,hh1⟩:=cg1 hv1
      obtain ⟨n2,x2,z2,us2,rfl,en2,hh2⟩:=cg1 hv2
      refine bf6 (cls a≠cls b) (fun R hR=>?_) fun H12 s12=>?_
      · walk_at "run"
        refine a42 (SqL.of kC.l) (a04 (j:=0) rfl) ?_
        walk_at "run"
        refine a23 (SqT.of kC.t) (a04 (j:=1) rfl) ?_
        walk_at "run"
        refine a42 (SqL.of kC.n) (aa9 _ _) ?_
        walk_at "run"
        refine cg3 (SqT.of en1) ?_
        intro p12 H12 f12 s12 e12
        walk_at "run"
        refine a42 (SqL.of (s12 _ _ kD.l)) (a04 (j:=0) rfl) ?_
        walk_at "run"
        refine a23 (SqT.of (s12 _ _ kD.t)) (a04 (j:=1) rfl) ?_
        walk_at "run"
        refine a42 (SqL.of (s12 _ _ kD.n)) (aa9 _ _) ?_
        walk_at "run"
        refine cg3 (SqT.of (s12 _ _ en2)) ?_
        intro p13 H13 f13 s13 e13
        rw [hh1] at e12
        rw [hh2] at e13
        refine cd4 ((cg2 (s13 _ _ e12)).toK K) ((cg2 e13).toK K) (hd_h a) (hd_h b) ?_
        walk_at "run"
        by_cases hcl:cls a=cls b
        · rw [decide_eq_true ((bs1 ok1.2.2 ok2.2.2).mpr hcl),if_neg (by simp)]
          exact rF (hR _ (s12.trans s13)) (fun z=>z hcl)
        · rw [decide_eq_false (fun z=>hcl ((bs1 ok1.2.2 ok2.2.2).mp z)),if_pos (by simp)]
          have s23:=s12.trans s13
          walk_at "run"
          refine a42 (SqL.of (s23 _ _ kC.l)) (a04 (j:=0) rfl) ?_
          walk_at "run"
          refine a23 (SqT.of (s23 _ _ kC.t)) (a04 (j:=1) rfl) ?_
          walk_at "run"
          refine a42 (SqL.of (s23 _ _ kC.n)) (aa9 _ _) ?_
          walk_at "run"
          refine a23 (SqT.of (s23 _ _ en1)) (a04 (j:=0) rfl) ?_
          walk_at "run"
          refine a42 (SqL.of (s23 _ _ kD.l)) (a04 (j:=0) rfl) ?_
          walk_at "run"
          refine a23 (SqT.of (s23 _ _ kD.t)) (a04 (j:=1) rfl) ?_
          walk_at "run"
          refine a42 (SqL.of (s23 _ _ kD.n)) (aa9 _ _) ?_
          walk_at "run"
          refine a23 (SqT.of (s23 _ _ en2)) (a04 (j:=0) rfl) ?_
          walk_at "run"
          intro p14 H14 f14 s14 e14
          refine cl1 (t:=.str "say") (ts:=[.str (kdS a),.str (kdS b)]) a68 (SqL.of e14) (ats_cons0.mpr ⟨_,_,rfl,a68,ats_cons0.mpr ⟨_,_,rfl,a68,ats_nil0.mpr rfl⟩⟩) (by simp [Tr.h]) (by simp [Tr.hs,Tr.h]) ?_
          have hsay:Tr.str (Str.ofString "say")∈[Tr.str (kdS a),Tr.str (kdS b)]:=by
           by_cases h1:1<a
           · rw [show kdS a=Str.ofString "say" from if_pos h1]
             simp
           · by_cases h2:1<b
             · rw [show kdS b=Str.ofString "say" from if_pos h2]
               simp
             · exact absurd (by rw [show cls a=0 from if_pos (by omega),show cls b=0 from if_pos (by omega)]) hcl
          rw [decide_eq_true hsay]
          walk_at "run"
          exact rT (hR _ (s23.trans s14)) hcl
      have kE:=kC.same s12
      have kF:=kD.same s12
      have s712:=s711.trans s12
      by_cases hcl:cls a=cls b
      · refine a25 (fun z=>z hcl) ?_
        walk_at "run"
        refine ag2 (1<a∧m≠n) (fun R hR=>?_) ?_
        · walk_at "run"
          refine a42 (SqL.of kE.l) (a04 (j:=0) rfl) ?_
          walk_at "run"
          refine a23 (SqT.of kE.t) (a04 (j:=1) rfl) ?_
          walk_at "run"
          refine a42 (SqL.of kE.n) (aa9 _ _) ?_
          walk_at "run"
          refine a23 (SqT.of (s12 _ _ en1)) (a04 (j:=0) rfl) ?_
          walk_at "run"
          by_cases h1:1<a
          · refine a26 (show kdS a=Str.ofString "say" from if_pos h1) ?_
            walk_at "run"
            refine a42 (SqL.of kE.l) (a04 (j:=2) rfl) ?_
            walk_at "run"
            refine a42 (SqL.of kF.l) (a04 (j:=2) rfl) ?_
            walk_at "run"
            by_cases hmn:m=n
            · rw [show decide (((Gk.rnd m a).many:Int)=((Gk.rnd n b).many:Int))=true from decide_eq_true (show ((m:Nat):Int)=(n:Nat) by omega)]
              exact rF hR (fun z=>z.2 hmn)
            · rw [show decide (((Gk.rnd m a).many:Int)=((Gk.rnd n b).many:Int))=false from decide_eq_false (show ¬ ((m:Nat):Int)=(n:Nat) by omega)]
              exact rT hR ⟨h1,hmn⟩
          · refine a25 (show kdS a≠Str.ofString "say" from by rw [show kdS a=Str.ofString "wait" from if_neg h1]; decide +kernel) ?_
            exact rF hR (fun z=>h1 z.1)
        by_cases hc2:1<a∧m≠n
        · refine a26 hc2 ?_
          walk_at "run"
          have hP:bf7 m a n b:=.inr ⟨hcl,by rw [show cls a=a from if_neg (by omega)]; omega,hc2.2⟩
          rcases hfv with ⟨rfl,_⟩ | ⟨pf,fvs,s,rfl,_,_,_,_,_,hnp⟩
          · exact q _
          · exact absurd hP hnp
        · refine a25 hc2 ?_
          walk_at "run"
          have hnP:¬ bf7 m a n b:=fun z=>by
           rcases z with z | ⟨_,z1,z2⟩
           · exact z hcl
           · refine hc2 ⟨?_,z2⟩
             unfold cls at z1
             split at z1 <;> omega
          rcases hfv with ⟨rfl,hP⟩ | ⟨pf,fvs,s,rfl,epf,hs,hs2,hE2,hRp,_⟩
          · exact absurd hP hnP
          · refine ca2 (s712 _ _ epf) ?_
            walk_at "run"
            have s612:=s7.trans s712
            obtain ⟨w1,w2,w3,w4⟩:=ay9 hs
            refine ⟨p,p',ev,pf,us,fvs,es,a37 m a,a37 n b,prG m n 0,s.1.map (·.1),rfl,P16.same s612,P2.same s612,br9 m a n b,w1,fun x hx e he=>?_,fun x hx=>?_,by rw [List.length_map]; exact w4,s712 _ _ epf,hE2.mono fun _ _ z=>a43 z s712.tups,fun H' _=>q H'⟩
            · cases hps:psM (a37 m a) (a37 n b) x e with
              | none=>exact absurd hps (w3.mp hs2 x hx e he)
              | some y=>exact ⟨y,w2 x hx e he y hps,rfl⟩
            · obtain ⟨⟨x',w⟩,hxm,rfl⟩:=List.mem_map.mp hx
              obtain ⟨i,hi⟩:=List.mem_iff_getElem?.mp hxm
              obtain ⟨⟨y1,y2⟩,y3,y4⟩:=hRp i _ hi
              obtain ⟨z1,z2,z3⟩:=cg4 ok1.2.1 ok2.2.1 y1 y3
              exact ⟨⟨y1,Nat.zero_le _⟩,⟨y3,Nat.zero_le _⟩,z1,z2,z3⟩
      · refine a26 hcl ?_
        walk_at "run"
        rcases hfv with ⟨rfl,_⟩ | ⟨pf,fvs,s,rfl,_,_,_,_,_,hnp⟩
        · exact q _
        · exact absurd (.inl hcl) hnp
   have exc:(g1.isI=true∨g2.isI=true∨2000<prsN g1 g2)→∀ (H7:Hp),Same H6 H7→∀ a,H7 a=none→N [some (.ref a0),some (.ref l1),some (.ref l2),some (.ref ev),some (.ref p),some (.ref p'),some (.ref a),some .non,none,none,none] (upd H7 a (.ext (ExcP a t.c_TooMany))):=fun hb H7 s7 a ha=>rest _ _ _ (s7.trans (Same.new ha)) (.inl ⟨a,rfl,a18,rfl,hb⟩)
   refine ⟨p,p',ev,us,es,g1.mc,g2.mc,rfl,P16,P2,fun hn H7 s7 a _ ha=>?_,fun n1 n2=>?_⟩
   · walk_at "run"
     refine exc ?_ H7 s7 a ha
     rcases hn with z | z
     · exact .inl ((bf9 ok1 hk1).mp z)
     · exact .inr (.inl ((bf9 ok2 hk2).mp z))
   · obtain ⟨m,a,e1⟩:∃ m a,g1=.rnd m a:=by
      cases g1 with
      | rnd m a=>exact ⟨m,a,rfl⟩
      | inf k b=>exact absurd (bf0 (hk1 k b rfl)) n1
     obtain ⟨n,b,e2⟩:∃ n b,g2=.rnd n b:=by
      cases g2 with
      | rnd m a=>exact ⟨m,a,rfl⟩
      | inf k b=>exact absurd (bf0 (hk2 k b rfl)) n2
     have okm:1≤m∧m≤60∧a<4:=by rw [e1] at ok1; exact ok1
     have okn:1≤n∧n≤60∧b<4:=by rw [e2] at ok2; exact ok2
     have em1:g1.mc=a37 m a:=by rw [e1]; rfl
     have em2:g2.mc=a37 n b:=by rw [e2]; rfl
     have hkk:a=2∨b=2→keT 1∈es:=fun z=>by
      rw [hE]
      rcases z with z | z
      · exact af0 (.inl ((az1 g1).2.2.2.2 m (by rw [e1,z])))
      · exact af0 (.inr ((az1 g2).2.2.2.2 n (by rw [e2,z])))
     have hp0:p0M g1.mc g2.mc=some (prG m n 0):=by rw [em1,em2]; exact br9 m a n b
     refine ⟨fun z=>(by rw [hp0] at z; cases z),fun x0 hx0=>?_⟩
     rw [hp0] at hx0
     obtain rfl:=Option.some.inj hx0
     have hpr:prsN g1 g2=if a≠3∧b≠3 then Nat.lcm m n else 0:=by rw [e1,e2]; exact c29 m a n b
     rw [em1,em2]
     refine ⟨fun hn H7 s7 a' _ ha=>?_,fun s hs hFd hRp H7 s7=>?_⟩
     · walk_at "run"
       refine exc (.inr (.inr ?_)) H7 s7 a' ha
       rcases bf8 (a:=a) (b:=b) okm.2.1 okn.2.1 with ⟨z,_⟩ | ⟨z1,z2,z3⟩
       · obtain ⟨s,hs,_⟩:=cf9 (m:=m) (n:=n) okm.1 okn.1 es z
         rw [hn] at hs
         cases hs
       · rw [hpr,if_pos ⟨z1,z2⟩]
         exact z3
     · have hbp:bndL m a n b≤2000∧prsN g1 g2≤2000:=by
        rcases bf8 (a:=a) (b:=b) okm.2.1 okn.2.1 with ⟨z,z'⟩ | ⟨z1,z2,z3⟩
        · refine ⟨z,?_⟩
          rw [hpr]
          split
          · rename_i h
            exact z' h.1 h.2
          · omega
        · have:=c26 (es:=es) (m:=m) (n:=n) okm.1 okn.1 hq z1 z2 z3
          rw [hs] at this
          cases this
       refine ⟨fun hn=>?_,fun hn pf fvs x1 x2 _=>?_⟩
       · refine rest .non .non H7 s7 (.inr ⟨rfl,m,a,n,b,e1,e2,hbp.2,.inl ⟨rfl,?_⟩⟩)
         refine Classical.byContradiction fun hc=>hn (bn3 okm.1 okn.1 okm.2.2 okn.2.2 hbp.1 hs ?_)
         unfold bf7 at hc
         refine ⟨Classical.byContradiction fun z=>hc (.inl z),fun z=>Classical.byContradiction fun y=>?_⟩
         by_cases hcc:cls a=cls b
         · exact hc (.inr ⟨hcc,z,y⟩)
         · exact hc (.inl hcc)
       · refine rest .non (.ref pf) H7 s7 (.inr ⟨rfl,m,a,n,b,e1,e2,hbp.2,.inr ⟨pf,fvs,s,rfl,x1,hs,hn,x2,hRp,fun hc=>?_⟩⟩)
         exact bf2 okm.1 okn.1 okm.2.2 okn.2.2 hq hkk hs hc hn
end
theorem all_mk {l:PySem.W.OpenLaw}{w:World}{K:PySem.W.Frag}{h:Heap}{mg:Str→Option Value}{fa:Addr}(X:K.In h) (G:h.Ns mainGlobals mg) (hfa:mg "law"=some (.ref fa)) (hF:HF w.params K):∃ fd:FuncData,(∀ (s:Shared) (v:Value),BindsTo s fd ⟨[v],[]⟩ [("script",v)])∧∀ base:Heap,K.In base→base.Ns mainGlobals mg→FnOk l.prog w K mg base CX0 22 fa fd ["script"] (as9 K):=by
 obtain ⟨t,T⟩:=hF
 have T:=T mg h X G
 have e:=hfa.symm.trans T.f_law.m
 cases e
 obtain ⟨_,_,_,_,_,_,_,_,_,e,_⟩:=T.f_law.F.ex
 exact ⟨_,fun s v=>by rw [e]; exact .of_eq rfl,fun base _ _=>cg5 T⟩
end K30
theorem PySem.Challenge.cw_callmill_k30_too_many_pairs_holds : PySem.Challenge.rw_callmill_k30_too_many_pairs.Holds := by
  exact K30.head fun K hF w mg fa h KX G hmg => K30.all_mk KX G hmg (hF w.params)
