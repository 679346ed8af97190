import PyProof.Rows.All
import Wide.All
import OpenK.KLine
import KE.KItem
import KE.KIsAll
import Wide.FinOn
import Lean
import PyProof.EqAt
import PyProof.EqKinds
import PyProof.TupleCall
import PyProof.NeKinds
import PyProof.DictUpdate
import PyProof.AttrMissHeap
import KE.KDictOf
import PyProof.TupleIter
import PyProof.WalksEnum
import PyProof.EnumMake
import PyProof.Rows.EnumRows
import PyProof.Rows.MaxTwoN
import PyProof.ZipIter
import PyProof.IsRules
import PyProof.DictRoadsH
import Wide.Seal
import PyProof.MeetsDict
import PyProof.DictIter
import PyProof.DictWalks
import KE.KDictList
import PyProof.Rows.SumAny
import PyProof.ListRange
import PyProof.AutoSeq1
import PyProof.WalkInts
import PyProof.SeqI3
import KE.KTextTable
import PyProof.MeetsStr
import PyProof.StrCalls5
import PyProof.Rows.TupDisplay
import PyProof.Rows.TupAdd
import PyProof.Rows.StrNews2
import PyProof.StrBlockI
import PyProof.DictTruth
import PyProof.Rows.SortShell
import PyProof.DictValues
import PyProof.ConsumeS
import PyProof.Draws
import PyProof.Rows.SetFrom
import PyProof.FactsAll.set_1
import KE.KDictSum
import PyProof.Rows.SortStr
import PyProof.Rows.SortWalk
import PyProof.Rows.TmSorted
import PyProof.Rows.CallKwBuiltin
import KE.KTryDeep
import PyProof.Rows.CatchBare
import PyProof.Rows.TopTwo
import OpenK.KOwn
import KE.KRevIter
import PyProof.Rows.FactsT2
import PyProof.NeData
import PyProof.ListNew
import PySem.Challenge.RW_callmill_k15_dry_loops
set_option Elab.async false
set_option linter.all false
set_option maxRecDepth 100000
set_option maxHeartbeats 4000000
namespace L2
open PySem PySem.Spec PyProof.Rows
abbrev Key:=Sum Int Str
def az1:Key→Value→Bool
 | .inl k,v=>Value.isInt k v
 | .inr x,v=>Value.isStrOf x v
def keyH (w:World):Key→Int
 | .inl k=>hashInt k
 | .inr x=>hashStr w x
theorem a42:∀ {k:Key}{v:Value},az1 k v=true→(∃ i t,k=Sum.inl i∧v=Value.int i t)∨(∃ x t,k=Sum.inr x∧v=Value.str x t)
 | .inl i,v,h=>by
   obtain ⟨t,e⟩:=Value.isInt_shape (k:=i) (v:=v) h
   exact .inl ⟨i,t,rfl,e⟩
 | .inr x,v,h=>by
   obtain ⟨t,e⟩:=Value.isStrOf_shape (x:=x) (v:=v) h
   exact .inr ⟨x,t,rfl,e⟩
theorem b15 (i:Int) (t:Tok):az1 (.inl i) (.int i t)=true:=by simp [az1,Value.isInt]
theorem b16 (x:Str) (t:Tok):az1 (.inr x) (.str x t)=true:=by simp [az1,Value.isStrOf]
theorem bp5 (a b:Int):decide ((Sum.inl a:Key)=Sum.inl b)=(a == b):=by
 by_cases e:a=b
 · subst e; simp
 · have h:¬ (Sum.inl a:Key)=Sum.inl b:=fun q=>e (Sum.inl.inj q)
   rw [decide_eq_false h]
   exact (beq_eq_false_iff_ne.mpr e).symm
theorem bp6 (a b:Str):decide ((Sum.inr a:Key)=Sum.inr b)=decide (a=b):=by
 by_cases e:a=b
 · subst e; simp
 · have h:¬ (Sum.inr a:Key)=Sum.inr b:=fun q=>e (Sum.inr.inj q)
   rw [decide_eq_false h,decide_eq_false e]
theorem bp7 (a:Int) (b:Str):decide ((Sum.inl a:Key)=Sum.inr b)=false:=decide_eq_false (fun q=>nomatch q)
theorem bp8 (a:Str) (b:Int):decide ((Sum.inr a:Key)=Sum.inl b)=false:=decide_eq_false (fun q=>nomatch q)
def a45 (prog:Program) (w:World):PySem.KeyKind prog w Key where
 is:=az1
 hash:=keyH w
 inj:=fun v a b ha hb=>by
  rcases a42 ha with ⟨i,t,rfl,rfl⟩ | ⟨x,t,rfl,rfl⟩
  · rcases a42 hb with ⟨j,u,rfl,e⟩ | ⟨y,u,rfl,e⟩
    · injection e with e1 _; rw [e1]
    · exact nomatch e
  · rcases a42 hb with ⟨j,u,rfl,e⟩ | ⟨y,u,rfl,e⟩
    · exact nomatch e
    · injection e with e1 _; rw [e1]
 byValue:=fun k v h=>by
  rcases a42 h with ⟨i,t,rfl,rfl⟩ | ⟨x,t,rfl,rfl⟩ <;> rfl
 pyHash:=fun hv h=>by
  rcases a42 hv with ⟨i,t,rfl,rfl⟩ | ⟨x,t,rfl,rfl⟩
  · exact wpAny_pyHash_int h
  · exact wpAny_pyHash_str h
 eqBool:=fun hu hv h=>by
  rcases a42 hu with ⟨i,t,rfl,rfl⟩ | ⟨x,t,rfl,rfl⟩
  · rcases a42 hv with ⟨j,u,rfl,rfl⟩ | ⟨y,u,rfl,rfl⟩
    · rw [bp5] at h; exact wpAny_eqBool_int h
    · rw [bp7] at h; exact SeqAt.EqAt.int_str i t y u _ _ _ _ h
  · rcases a42 hv with ⟨j,u,rfl,rfl⟩ | ⟨y,u,rfl,rfl⟩
    · rw [bp8] at h; exact SeqAt.EqAt.str_int x t j u _ _ _ _ h
    · rw [bp6] at h; exact wpAny_eqBool_str h
 «strs»:=fun k x t v h=>by
  rcases a42 h with ⟨i,u,rfl,e⟩ | ⟨y,u,rfl,e⟩
  · exact nomatch e
  · injection e with e1 _
    subst e1
    cases v <;> rfl
theorem at1 (prog:Program) (w:World) (i:Int) (t:Tok):(a45 prog w).is (.inl i) (.int i t)=true:=b15 i t
theorem at2 (prog:Program) (w:World) (x:Str) (t:Tok):(a45 prog w).is (.inr x) (.str x t)=true:=b16 x t
inductive V where
 | non | bl (b:Bool) | int (i:Int) | str (x:Str) | byt (b:Array UInt8) | flt (b:UInt64) | ref (a:Addr) | ty (n:String)
 deriving DecidableEq
def RelV:V→Value→Prop
 | .non,u=>u=Value.none
 | .bl b,u=>u=Value.bool b
 | .int i,u=>∃ t,u=Value.int i t
 | .str x,u=>∃ t,u=Value.str x t
 | .byt b,u=>∃ t,u=Value.bytes b t
 | .flt b,u=>∃ t,u=Value.float b t
 | .ref a,u=>u=Value.ref a
 | .ty n,u=>u=Value.type n
abbrev Vals:List V→List Value→Prop:=Paired RelV
theorem Vals.length {xs:List V}{us:List Value}(r:Vals xs us):xs.length=us.length:=Paired.length r
theorem Vals.get:∀ {xs:List V}{us:List Value}{i:Nat}{x:V},Vals xs us→xs[i]?=some x→∃ u,us[i]?=some u∧RelV x u
 | _,_,_,_,.nil,e=>by simp at e
 | _,_,0,_,.cons r _,e=>by simp at e; subst e; exact ⟨_,rfl,r⟩
 | _,_,i+1,x,.cons _ t,e=>by
   obtain ⟨u,h1,h2⟩:=Vals.get (i:=i) (x:=x) t (by simpa using e)
   exact ⟨u,by simpa using h1,h2⟩
theorem Vals.set {x:V}{u:Value}(r:RelV x u):∀ {xs:List V}{us:List Value}(i:Nat),Vals xs us→Vals (xs.set i x) (us.set i u)
 | _,_,_,.nil=>.nil
 | _,_,0,.cons _ t=>.cons r t
 | _,_,i+1,.cons q t=>.cons q (Vals.set r i t)
theorem Vals.append:∀ {xs ys:List V}{us ws:List Value},Vals xs us→Vals ys ws→Vals (xs++ys) (us++ws)
 | _,_,_,_,.nil,s=>s
 | _,_,_,_,.cons r t,s=>.cons r (Vals.append t s)
theorem Vals.take:∀ {xs:List V}{us:List Value}(n:Nat),Vals xs us→Vals (xs.take n) (us.take n)
 | _,_,0,_=>.nil
 | _,_,_+1,.nil=>.nil
 | _,_,n+1,.cons r t=>.cons r (Vals.take n t)
theorem Vals.drop:∀ {xs:List V}{us:List Value}(n:Nat),Vals xs us→Vals (xs.drop n) (us.drop n)
 | _,_,0,r=>r
 | _,_,_+1,.nil=>.nil
 | _,_,n+1,.cons _ t=>Vals.drop n t
def RelO:Option V→Option Value→Prop
 | some v,some u=>RelV v u
 | none,none=>True
 | _,_=>False
def KV {κ:Type}:List (κ×V)→List (κ×Value)→Prop:=Paired fun (p:κ×V) (q:κ×Value)=>p.1=q.1∧RelV p.2 q.2
def kV:Key→V
 | .inl i=>.int i
 | .inr x=>.str x
inductive HO where
 | lst (xs:List V)
 | tup (xs:List V)
 | dK (kvs:List (Key×V)) | dT (kvs:List (List Key×V))
 | set (S:Int→Bool) (n:Nat)
 | ins (C dx:Addr) (fs:List (Str×V))
 | own (x:Addr)
 | xd (fs:List (Str×V))
 | met (f x:Addr)
 | rng (lo hi:Int)
 | frz (o:Obj) (u:HO)
 | tbl (ps:Array Value)
 | ext (φ:Heap→Prop)
abbrev Hp:=Addr→Option HO
def upd (H:Hp) (a:Addr) (o:HO):Hp:=fun b=>if b=a then some o else H b
theorem a14 {H:Hp}{a:Addr}{o:HO}:upd H a o a=some o:=by unfold upd; rw [if_pos rfl]
theorem a11 {H:Hp}{a b:Addr}{o:HO}(h:b≠a):upd H a o b=H b:=by unfold upd; rw [if_neg h]
theorem bi4 {H:Hp}{a:Addr}{o u:HO}:upd (upd H a o) a u=upd H a u:=by
 funext b; unfold upd; split <;> rfl
theorem af7 {H:Hp}{a b:Addr}{o u:HO}(h:H a=some o) (h':H b=some u) (d:o≠u):a≠b:=by
 intro e; subst e; rw [h] at h'; exact d (Option.some.inj h')
theorem a39 {H:Hp}{a b:Addr}{o:HO}(h:H a=some o) (h':H b=none):a≠b:=by
 intro e; subst e; rw [h] at h'; cases h'
section
variable (P:Program) (w:World)
def ObjOk (H:Hp) (h:Heap) (a:Addr):HO→Prop
 | .lst xs=>xs.length≤sizeLine∧∃ (its:List Value) (n:Nat),Vals xs its∧h.get? a=some { cls:=.type "list",data:=.seq its.toArray n }
 | .tup xs=>xs.length≤sizeLine∧∃ its:List Value,Vals xs its∧IsTup h a its.toArray
 | .dK kvs=>kvs.length≤sizeLine∧(a == sysModules)=false∧∃ vs,KV kvs vs∧h.DictOf (a45 P w) a vs
 | .dT kvs=>kvs.length≤sizeLine∧(a == sysModules)=false∧∃ xs:List (List Key×Addr×Value),
  Paired (fun (p:List Key×V) (q:List Key×Addr×Value)=>p.1=q.1∧H q.2.1=some (.tup (p.1.map kV))∧RelV p.2 q.2.2) kvs xs ∧
  ∃ o es ep,h.get? a=some o∧o.ExactDict∧o.data=.dict es ep∧es.toList=xs.map (entryOfKey (tupleKind (a45 P w)))∧(xs.map (·.1)).Nodup
 | .set S n=>h.SetOf (intKind P w) a S n
 | .ins C dx fs=>H dx=some (.own a)∧fs.length≤1000∧dx≠a∧h.get? a=some (PySem.W.instObj C dx) ∧
  ∃ mA,h.Ns1 dx mA∧(∀ f,RelO (fs.lookup f) (mA f))∧PySem.Within mA (fs.map (·.1))
 | .own _=>∃ o,h.get? a=some o
 | .xd fs=>∃ mA,h.Ns1 a mA∧∀ f,RelO (fs.lookup f) (mA f)
 | .rng lo hi=>∃ t u v,h.get? a=some { cls:=.type "range",data:=.fields #[.int lo t,.int hi u,.int 1 v] }
 | .frz o u=>h.get? a=some o∧ObjOk H h a u
 | .tbl ps=>h.get? a=some { cls:=.none,data:=.fields ps }
 | .met f x=>h.get? a=some (PySem.W.methodObj (.ref f) (.ref x))
 | .ext φ=>φ h∧(∃ o,h.get? a=some o)∧∀ h1 h2:Heap,φ h1→(∀ o,h1.get? a=some o→h2.get? a=some o)→φ h2
def HOk (H:Hp) (h:Heap):Prop:=∀ a o,H a=some o→ObjOk P w H h a o
end
section
variable {P:Program}{w:World}{H H':Hp}{h h':Heap}{a:Addr}{o:HO}
theorem ObjOk.lt (x:ObjOk P w H h a o):a<h.objs.size:=by
 cases o with
 | lst xs=>obtain ⟨_,_,_,_,e⟩:=x; exact Heap.lt_size e
 | tup xs=>obtain ⟨_,_,_,p⟩:=x; exact p.lt
 | dK kvs=>obtain ⟨_,_,_,_,o,_,_,e,_⟩:=x; exact Heap.lt_size e
 | dT kvs=>obtain ⟨_,_,_,_,o,_,_,e,_⟩:=x; exact Heap.lt_size e
 | set S n=>obtain ⟨o,_,_,_,e,_⟩:=x; exact Heap.lt_size e
 | ins C dx fs=>obtain ⟨_,_,_,e,_⟩:=x; exact Heap.lt_size e
 | own y=>obtain ⟨_,e⟩:=x; exact Heap.lt_size e
 | xd fs=>obtain ⟨_,⟨_,_,_,e,_⟩,_⟩:=x; exact Heap.lt_size e
 | rng lo hi=>obtain ⟨_,_,_,e⟩:=x; exact Heap.lt_size e
 | frz ob u=>obtain ⟨e,_⟩:=x; exact Heap.lt_size e
 | tbl ps=>exact Heap.lt_size (show h.get? a=some _ from x)
 | met f y=>exact Heap.lt_size (show h.get? a=some _ from x)
 | ext φ=>obtain ⟨_,⟨_,e⟩,_⟩:=x; exact Heap.lt_size e
theorem Paired.mapP {α β:Type}{F G:α→β→Prop}:∀ {l₁:List α}{l₂:List β},Paired F l₁ l₂→(∀ a b,F a b→G a b)→Paired G l₁ l₂
 | _,_,.nil,_=>.nil
 | _,_,.cons r t,f=>.cons (f _ _ r) (Paired.mapP t f)
theorem ObjOk.stay (x:ObjOk P w H h a o) (k:∀ b u,(b=a∨H b=some (.own a))→h.get? b=some u→h'.get? b=some u)
 (ho:∀ b,H b=some (.own a)→H' b=some (.own a)) (ht:∀ b xs,H b=some (.tup xs)→H' b=some (.tup xs)):ObjOk P w H' h' a o:=by
 induction o with
 | lst xs=>obtain ⟨z,its,n,r,e⟩:=x; exact ⟨z,its,n,r,k _ _ (.inl rfl) e⟩
 | tup xs=>obtain ⟨z,its,r,ob,e,c⟩:=x; exact ⟨z,its,r,ob,k _ _ (.inl rfl) e,c⟩
 | dK kvs=>obtain ⟨z,y,vs,r,ob,es,ep,e,c⟩:=x; exact ⟨z,y,vs,r,ob,es,ep,k _ _ (.inl rfl) e,c⟩
 | dT kvs =>
   obtain ⟨z,y,xs,r,ob,es,ep,e,c⟩:=x
   exact ⟨z,y,xs,Paired.mapP r fun p q z=>⟨z.1,ht _ _ z.2.1,z.2.2⟩,ob,es,ep,k _ _ (.inl rfl) e,c⟩
 | set S n=>obtain ⟨ob,es,ep,t,e,c⟩:=x; exact ⟨ob,es,ep,t,k _ _ (.inl rfl) e,c⟩
 | ins C dx fs =>
   obtain ⟨d,z,ne,e,mA,⟨od,es,ep,e2,c⟩,r⟩:=x
   exact ⟨ho _ d,z,ne,k _ _ (.inl rfl) e,mA,⟨od,es,ep,k _ _ (.inr d) e2,c⟩,r⟩
 | own y=>obtain ⟨ob,e⟩:=x; exact ⟨ob,k _ _ (.inl rfl) e⟩
 | xd fs=>obtain ⟨mA,⟨od,es,ep,e,c⟩,r⟩:=x; exact ⟨mA,⟨od,es,ep,k _ _ (.inl rfl) e,c⟩,r⟩
 | rng lo hi=>obtain ⟨t,u,v,e⟩:=x; exact ⟨t,u,v,k _ _ (.inl rfl) e⟩
 | frz ob u ih=>obtain ⟨e,q⟩:=x; exact ⟨k _ _ (.inl rfl) e,ih q⟩
 | tbl ps =>
   have e:h.get? a=some { cls:=.none,data:=.fields ps }:=x
   show h'.get? a=some { cls:=.none,data:=.fields ps }
   exact k a _ (.inl rfl) e
 | met f y =>
   have e:h.get? a=some (PySem.W.methodObj (.ref f) (.ref y)):=x
   show h'.get? a=some (PySem.W.methodObj (.ref f) (.ref y))
   exact k a _ (.inl rfl) e
 | ext φ=>obtain ⟨p,⟨o,e⟩,st⟩:=x; exact ⟨st _ _ p fun o q=>k _ _ (.inl rfl) q,⟨o,k _ _ (.inl rfl) e⟩,st⟩
theorem HOk.lt (x:HOk P w H h) (e:H a=some o):a<h.objs.size:=(x a o e).lt
theorem HOk.fresh (x:HOk P w H h) (e:h.objs.size≤a):H a=none:=by
 cases q:H a with
 | none=>rfl
 | some u=>exact absurd (Nat.lt_of_lt_of_le (x.lt q) e) (Nat.lt_irrefl _)
theorem HOk.kept (x:HOk P w H h) (k:∀ b u,h.get? b=some u→h'.get? b=some u):HOk P w H h':=fun a o e =>
 (x a o e).stay (fun b u _ q=>k b u q) (fun _ q=>q) fun _ _ q=>q
theorem HOk.laid (x:HOk P w H h) (k:∀ b u,h.get? b=some u→h'.get? b=some u) (hp:h.objs.size≤a) (new:ObjOk P w (upd H a o) h' a o):HOk P w (upd H a o) h':=fun b u e=>by
 have hn:=x.fresh hp
 by_cases hb:b=a
 · subst hb; rw [a14] at e; cases e; exact new
 · rw [a11 hb] at e
   exact (x b u e).stay (fun c v _ q=>k c v q) (fun c q=>by rw [a11 (a39 q hn)]; exact q) fun c xs q=>by rw [a11 (a39 q hn)]; exact q
end
def Rd (H:Hp) (a:Addr) (u:HO):Prop:=H a=some u∨∃ o,H a=some (.frz o u)
theorem Rd.ok {P:Program}{w:World}{H:Hp}{h:Heap}{a:Addr}{u:HO}(r:Rd H a u) (x:HOk P w H h):ObjOk P w H h a u:=by
 rcases r with r | ⟨o,r⟩
 · exact x a u r
 · obtain ⟨_,q⟩:=x a _ r
   exact q
def Mut:Option HO→Prop
 | some (.lst _)=>True
 | some (.dK _)=>True
 | some (.dT _)=>True
 | some (.set _ _)=>True
 | some (.ins _ _ _)=>True
 | some (.ext _)=>True
 | _=>False
section
variable {P:Program}{w:World}{H:Hp}{h h':Heap}{x e:Addr}{o':HO}
theorem HOk.write (ok:HOk P w H h) (mu:Mut (H x)) (he:e=x∨H e=some (.own x)) (k:∀ b u,b≠e→h.get? b=some u→h'.get? b=some u) (heo:∃ u,h'.get? e=some u)
 (new:ObjOk P w (upd H x o') h' x o'):HOk P w (upd H x o') h':=fun b u q=>by
 have nown:∀ c y,H c=some (.own y)→c≠x:=fun c y r z=>by subst z; rw [r] at mu; exact mu
 have ntup:∀ c xs,H c=some (.tup xs)→c≠x:=fun c xs r z=>by subst z; rw [r] at mu; exact mu
 by_cases hb:b=x
 · subst hb; rw [a14] at q; cases q; exact new
 · rw [a11 hb] at q
   by_cases hbe:b=e
   · have q':H b=some (.own x):=by
      rcases he with z | z
      · exact absurd (hbe.trans z) hb
      · rw [hbe]; exact z
     rw [q] at q'; cases q'
     obtain ⟨v,hv⟩:=heo
     exact ⟨v,by rw [hbe]; exact hv⟩
   · refine (ok b u q).stay (fun c v hc r=>k c v ?_ r) (fun c r=>by rw [a11 (nown c b r)]; exact r) fun c xs r=>by rw [a11 (ntup c xs r)]; exact r
     rcases hc with rfl | hc
     · exact hbe
     · rintro rfl
       rcases he with z | z
       · exact nown c b hc z
       · rw [hc] at z; cases z; exact hb rfl
end
structure Un (fs ex:List Addr) (H H':Hp) (h h':Heap):Prop where
 keep:∀ b o,h.get? b=some o→H b=none→b∉fs→b∉ex→h'.get? b=some o
 slot:∀ b o,h.get? b=some o→H b=none→b∈fs→b∉ex→∃ sl,h'.get? b=some { o with slots:=sl }
 free:∀ b o,h.get? b=some o→H b=none→b∉ex→H' b=none
 there:∀ b o,h.get? b=some o→b∉ex→∃ o',h'.get? b=some o'
 tups:∀ b xs,H b=some (.tup xs)→H' b=some (.tup xs)
 frzs:∀ b o u,H b=some (.frz o u)→H' b=some (.frz o u)
 tbls:∀ b ps,H b=some (.tbl ps)→∃ more,H' b=some (.tbl (ps++more))
section
variable {fs fs' ex ex':List Addr}{H H1 H2:Hp}{h h1 h2 h':Heap}{a x e:Addr}{o:HO}
theorem Un.any (u:Un fs ex H H1 h h1) {b:Addr}{ob:Obj}(q:h.get? b=some ob) (n:H b=none) (hx:b∉ex):∃ sl,h1.get? b=some { ob with slots:=sl }:=by
 by_cases hb:b∈fs
 · exact u.slot b ob q n hb hx
 · exact ⟨ob.slots,u.keep b ob q n hb hx⟩
theorem Un.kept (k:∀ b u,h.get? b=some u→h'.get? b=some u):Un fs ex H H h h' :=
 ⟨fun b ob q _ _ _=>k b ob q,fun b ob q _ _ _=>⟨ob.slots,k b ob q⟩,fun _ _ _ n _=>n,fun b ob q _=>⟨ob,k b ob q⟩,fun _ _ q=>q,fun _ _ _ q=>q,fun _ ps q=>⟨#[],by rw [q]; simp⟩⟩
theorem Un.refl:Un fs ex H H h h:=Un.kept fun _ _ q=>q
theorem Un.laid (k:∀ b u,h.get? b=some u→h'.get? b=some u) (hp:h.objs.size≤a) (hn:H a=none):Un fs ex H (upd H a o) h h' where
 keep:=fun b u q _ _ _=>k b u q
 slot:=fun b u q _ _ _=>⟨u.slots,k b u q⟩
 free:=fun b u q n _=>by rw [a11 (Nat.ne_of_lt (Nat.lt_of_lt_of_le (Heap.lt_size q) hp))]; exact n
 there:=fun b u q _=>⟨u,k b u q⟩
 tups:=fun b xs q=>by rw [a11 (a39 q hn)]; exact q
 frzs:=fun b u xs q=>by rw [a11 (a39 q hn)]; exact q
 tbls:=fun b ps q=>⟨#[],by rw [a11 (a39 q hn),q]; simp⟩
theorem Un.write (mu:Mut (H x)) (he:e=x∨H e=some (.own x)) (k:∀ b u,b≠e→h.get? b=some u→h'.get? b=some u) (heo:∃ u,h'.get? e=some u):Un fs ex H (upd H x o) h h':=by
 have hx:∀ b,H b=none→b≠x:=fun b n z=>by subst z; rw [n] at mu; exact mu
 have hb:∀ b,H b=none→b≠e:=fun b n z=>by
  subst z
  rcases he with r | r
  · exact hx b n r
  · rw [n] at r; cases r
 have hm:∀ b u,H b=some u→¬ Mut (some u)→b≠x:=fun b u q nm z=>by subst z; rw [q] at mu; exact nm mu
 refine ⟨fun b u q n _ _=>k b u (hb b n) q,fun b u q n _ _=>⟨u.slots,k b u (hb b n) q⟩,fun b u q n _=>by rw [a11 (hx b n)]; exact n,fun b u q _=>?_,
  fun b xs q=>by rw [a11 (hm b _ q fun z=>z)]; exact q,fun b u xs q=>by rw [a11 (hm b _ q fun z=>z)]; exact q,fun b ps q=>⟨#[],by rw [a11 (hm b _ q fun z=>z),q]; simp⟩⟩
 by_cases hbe:b=e
 · subst hbe; exact heo
 · exact ⟨u,k b u hbe q⟩
end
def trk (h:Heap) (H:Hp):List Addr:=(List.range h.objs.size).filter fun a=>(H a).isSome
def hidT (h:Heap) (H:Hp):Heap:=PySem.W.hideAll h (trk h H)
theorem b17 (h:Heap) (H:Hp):(hidT h H).objs.size=h.objs.size:=PySem.W.hideAll_size _ _
theorem b99 {h:Heap}{H:Hp}{b:Addr}{o:Obj}(e:h.get? b=some o) (n:H b=none):(hidT h H).get? b=some o :=
 PySem.W.hideAll_get _ e fun hm=>by
  have q:(H b).isSome=true:=(List.mem_filter.mp hm).2
  rw [n] at q; simp at q
theorem bi5 {h:Heap}{H:Hp}{b:Addr}{o:Obj}(e:(hidT h H).get? b=some o):h.get? b=some o∧H b=none:=by
 have e':h.get? b=some o:=PySem.W.of_hideAll (trk h H) e
 refine ⟨e',?_⟩
 cases q:H b with
 | none=>rfl
 | some x =>
   have hm:b∈trk h H:=List.mem_filter.mpr ⟨List.mem_range.mpr (Heap.lt_size e'),by simp [q]⟩
   have z:(hidT h H).get? b=none:=PySem.W.hideAll_none (trk h H) hm
   rw [z] at e; cases e
def bi6 (g h:Heap) (L:Addr):List (Addr×Obj):=(List.range h.objs.size).filterMap fun a=>if a=L∨(g.get? a).isSome=true then none else (h.get? a).map fun o=>(a,o)
def rest (g h:Heap) (L d:Addr):List (Addr×Obj):=(bi6 g h L).filter fun p=>decide (p.1≠d)
structure Mod (K:PySem.W.Frag) (mg:Str→Option Value) (base:Heap):Prop where
 kin:K.In base
 glob:base.Ns mainGlobals mg
 blt:∃ mb,base.Ns builtinsNs mb∧∀ x:Str,x≠"__name__"→mb x=bootBuiltins x
 nolimit:base.NoLimit
structure Cx where
 prog:Program
 w:World
 K:PySem.W.Frag
 mg:Str→Option Value
 base:Heap
 A:Around
 N:List Str
 s₀:Shared
 H₀:Hp
 env:Env
 outer:List Env
 stack:List Env
 ex:List Addr
 fn:Str→Bool
 calm:Bool
 pn:List (Addr×Obj)
 xe:Value→Shared→Prop
def frs (l:List Env):List Addr:=l.filterMap (·.frame)
abbrev Cx.fs (X:Cx):List Addr:=frs X.outer
def Vis (sc:Scope) (x:Str):Prop:=sc.names.lookup x=some .local∨sc.names.lookup x=some .cell∨sc.names.lookup x=some .free
def Loc (sc:Scope) (x:Str):Prop:=sc.names.lookup x=some .local∨sc.names.lookup x=some .cell
def Look (env:Env) (h:Heap) (m:Str→Option Value) (x:Str) (u:Value):Prop :=
 (env.kindOf x=some .local∧m x=some u)∨((env.kindOf x=some .cell∨env.kindOf x=some .free)∧∃ c,env.cells.lookup x=some c∧h.IsCell c (some u))
structure Cx.Ok (X:Cx):Prop where
 mod:Mod X.K X.mg X.base
 kind:X.env.scope.kind=.function
 glob:X.env.globals=mainGlobals
 blt:X.env.builtins=builtinsNs
 above:X.s₀.heap.objs.size≤X.env.locals
 inj:∀ x y c,X.env.cells.lookup x=some c→X.env.cells.lookup y=some c→x=y
 has:∀ x,(X.env.kindOf x=some .cell∨X.env.kindOf x=some .free)→∃ c,X.env.cells.lookup x=some c
 cab:∀ x c,X.fn x=true→X.env.cells.lookup x=some c→X.s₀.heap.objs.size≤c
 hd:X.calm=true→X.A.handled=none
 frames:X.A.frames=some X.stack
 stk:X.stack=X.outer∨(X.stack=X.env::X.outer∧X.env.frame=some X.env.locals)
 exf:∀ b∈X.ex,b≠X.env.locals∧∀ x c,X.env.cells.lookup x=some c→c≠b
 bs:∀ b o,X.base.get? b=some o→X.s₀.heap.get? b=some o∧X.H₀ b=none
 bsz:X.base.objs.size≤X.s₀.heap.objs.size
 noex:∀ b o,X.base.get? b=some o→b∉X.ex
 exfs:∀ b∈X.ex,b∉X.fs
 funs:X.s₀.heap.FunFrames X.base X.outer
 frf:∀ b∈X.fs,X.H₀ b=none
structure Inv (X:Cx) (pins:List (Addr×Obj)) (σ:List (Option V)) (H:Hp) (s:Shared):Prop where
 ok:X.Ok
 os:s.os=X.s₀.os
 bare:AllBare s.gens
 base:Un X.fs X.ex X.H₀ H X.s₀.heap s.heap
 loc:∃ m,s.heap.Ns X.env.locals m∧∀ (i:Nat) (x:Str) (v:V),X.N[i]?=some x→σ[i]?=some (some v)→Vis X.env.scope x→∃ u,RelV v u∧Look X.env s.heap m x u
 cell:∀ x c,X.env.cells.lookup x=some c→∃ v,s.heap.IsCell c v
 free:H X.env.locals=none
 freeC:∀ x c,X.env.cells.lookup x=some c→H c=none
 pin:∀ p∈X.pn++pins,s.heap.get? p.1=some p.2∧H p.1=none∧p.1≠X.env.locals∧p.1∉X.fs∧∀ v,p.2.data≠.cell v
 hok:HOk X.prog X.w H s.heap
 len:σ.length=X.N.length
section
variable {X:Cx}{pins:List (Addr×Obj)}{σ:List (Option V)} {H H':Hp}{s:Shared}{h':Heap}
theorem Cx.Ok.nofr (ok:X.Ok) {b:Addr}{o:Obj}(e:X.base.get? b=some o):b∉X.fs:=fun hb=>by
 have:=(ok.funs.mem hb).1
 rw [e] at this; cases this
theorem Inv.bs (I:Inv X pins σ H s):∀ b o,X.base.get? b=some o→s.heap.get? b=some o∧H b=none:=fun b o e =>
 ⟨I.base.keep b o (I.ok.bs b o e).1 (I.ok.bs b o e).2 (I.ok.nofr e) (I.ok.noex b o e),I.base.free b o (I.ok.bs b o e).1 (I.ok.bs b o e).2 (I.ok.noex b o e)⟩
theorem Inv.bk (I:Inv X pins σ H s):∀ b o,X.base.get? b=some o→s.heap.get? b=some o:=fun b o e=>(I.bs b o e).1
theorem Inv.mod (I:Inv X pins σ H s):Mod X.K X.mg X.base:=I.ok.mod
theorem Inv.kIn (I:Inv X pins σ H s):X.K.In s.heap:=I.ok.mod.kin.keeps I.bk
theorem Inv.lt (I:Inv X pins σ H s):X.env.locals<s.heap.objs.size:=let ⟨_,hn,_⟩:=I.loc; hn.lt
theorem Inv.sz (I:Inv X pins σ H s):X.s₀.heap.objs.size≤s.heap.objs.size:=Nat.le_trans I.ok.above (Nat.le_of_lt I.lt)
theorem Inv.nofs (I:Inv X pins σ H s) {a:Addr}(h:s.heap.objs.size≤a):a∉X.fs:=fun hb=>by
 obtain ⟨_,o,ho,_⟩:=I.ok.funs.mem hb
 exact absurd (Nat.lt_of_lt_of_le (Heap.lt_size ho) (Nat.le_trans I.sz h)) (Nat.lt_irrefl _)
theorem Inv.cne (I:Inv X pins σ H s):∀ x c,X.env.cells.lookup x=some c→c≠X.env.locals:=fun x c e z=>by
 obtain ⟨v,o,ho,hd⟩:=I.cell x c e
 obtain ⟨m,⟨o',es,ep,ho',hd',_⟩,_⟩:=I.loc
 rw [z,ho'] at ho; cases ho; rw [hd'] at hd; cases hd
theorem Inv.funs (I:Inv X pins σ H s):s.heap.FunFrames X.base X.outer:=by
 have all:∀ (l:List Env),(∀ b∈frs l,b∈X.fs)→X.s₀.heap.FunFrames X.base l→s.heap.FunFrames X.base l:=by
  intro l
  induction l with
  | nil=>intro _ _; trivial
  | cons env r ih =>
    intro hs hl
    obtain ⟨hk,⟨L,o,hf,hn,ho,hd⟩,hr⟩:=hl
    have hL:L∈X.fs:=hs L (by unfold frs; rw [List.filterMap_cons,hf]; exact List.mem_cons_self)
    obtain ⟨sl,e⟩:=I.base.slot L o ho (I.ok.frf L hL) hL fun z=>I.ok.exfs L z hL
    exact ⟨hk,⟨L,_,hf,hn,e,hd⟩,ih (fun b hb=>hs b (by unfold frs; rw [List.filterMap_cons,hf]; exact List.mem_cons_of_mem _ hb)) hr⟩
 exact all X.outer (fun _ hb=>hb) I.ok.funs
theorem Inv.stack (I:Inv X pins σ H s):s.heap.FunFrames X.base X.stack:=by
 rcases I.ok.stk with e | ⟨e,hf⟩
 · rw [e]; exact I.funs
 · rw [e]
   obtain ⟨m,hn,_⟩:=I.loc
   refine .cons (by rw [I.ok.kind]; decide) hf hn ?_ I.funs
   exact Heap.get?_none_of_le (Nat.le_trans I.ok.bsz I.ok.above)
theorem Inv.stkSub (I:Inv X pins σ H s):∀ b∈frs X.stack,b∈X.env.locals::X.fs:=fun b hb=>by
 rcases I.ok.stk with e | ⟨e,hf⟩
 · rw [e] at hb; exact List.mem_cons_of_mem _ hb
 · rw [e] at hb
   unfold frs at hb
   rw [List.filterMap_cons,hf] at hb
   exact hb
theorem Inv.stkFree (I:Inv X pins σ H s):∀ b∈frs X.stack,H b=none:=fun b hb=>by
 rcases List.mem_cons.mp (I.stkSub b hb) with e | hb
 · rw [e]; exact I.free
 · obtain ⟨_,o,ho,_⟩:=I.ok.funs.mem hb
   exact I.base.free b o ho (I.ok.frf b hb) fun z=>I.ok.exfs b z hb
theorem Inv.step {g':Array GenState}{t':Nat}{d':Drawn}{ch:List Addr}(I:Inv X pins σ H s)
 (hch:∀ b∈ch,(b∈X.ex∨X.s₀.heap.objs.size≤b)∧b≠X.env.locals∧(∀ x c,X.env.cells.lookup x=some c→c≠b)∧∀ p∈X.pn++pins,p.1≠b)
 (keep:∀ b o,b≠X.env.locals→b∉X.fs→b∉ch→s.heap.get? b=some o→H b=none→h'.get? b=some o)
 (slot:∀ b o,b≠X.env.locals→b∈X.fs→b∉ch→s.heap.get? b=some o→H b=none→∃ sl,h'.get? b=some { o with slots:=sl }) (free:∀ b o,b∉ch→s.heap.get? b=some o→H b=none→H' b=none)
 (there:∀ b o,b∉ch→s.heap.get? b=some o→∃ o',h'.get? b=some o')
 (tups:∀ b xs,H b=some (.tup xs)→H' b=some (.tup xs)) (frzs:∀ b o u,H b=some (.frz o u)→H' b=some (.frz o u)) (tbls:∀ b ps,H b=some (.tbl ps)→∃ more,H' b=some (.tbl (ps++more)))
 (ns:∀ m,s.heap.Ns X.env.locals m→h'.Ns X.env.locals m) (hok:HOk X.prog X.w H' h') (hg:AllBare g') :
 Inv X pins σ H' { s with heap:=h',gens:=g',drawn:=d',toks:=t' }:=by
 have neL:∀ b o,X.s₀.heap.get? b=some o→b≠X.env.locals:=fun b o e=>Nat.ne_of_lt (Nat.lt_of_lt_of_le (Heap.lt_size e) I.ok.above)
 have neC:∀ b o,X.s₀.heap.get? b=some o→b∉X.ex→b∉ch:=fun b o e hx hb=>by
  rcases (hch b hb).1 with z | z
  · exact hx z
  · exact absurd (Nat.lt_of_lt_of_le (Heap.lt_size e) z) (Nat.lt_irrefl _)
 have cellK:∀ x c,X.env.cells.lookup x=some c→∀ v,s.heap.IsCell c v→h'.IsCell c v:=fun x c e v ⟨o,ho,hd⟩=>by
  have nch:c∉ch:=fun z=>(hch c z).2.2.1 x c e rfl
  by_cases hc:c∈X.fs
  · obtain ⟨sl,q⟩:=slot c o (I.cne x c e) hc nch ho (I.freeC x c e)
    exact ⟨_,q,hd⟩
  · exact ⟨o,keep c o (I.cne x c e) hc nch ho (I.freeC x c e),hd⟩
 refine ⟨I.ok,I.os,hg,⟨fun b o e n hb hx=>?_,fun b o e n hb hx=>?_,fun b o e n hx=>?_,fun b o e hx=>?_,fun b xs e=>tups b xs (I.base.tups b xs e),fun b o xs e=>frzs b o xs (I.base.frzs b o xs e),fun b ps e=>?_⟩,?_,fun x c e=>?_,?_,fun x c e=>?_,fun p hp=>?_,hok,I.len⟩
 · exact keep b o (neL b o e) hb (neC b o e hx) (I.base.keep b o e n hb hx) (I.base.free b o e n hx)
 · obtain ⟨sl,e1⟩:=I.base.slot b o e n hb hx
   obtain ⟨sl',e2⟩:=slot b _ (neL b o e) hb (neC b o e hx) e1 (I.base.free b o e n hx)
   exact ⟨sl',e2⟩
 · obtain ⟨o',e1⟩:=I.base.there b o e hx
   exact free b o' (neC b o e hx) e1 (I.base.free b o e n hx)
 · obtain ⟨o',e1⟩:=I.base.there b o e hx
   exact there b o' (neC b o e hx) e1
 · obtain ⟨m1,e1⟩:=I.base.tbls b ps e
   obtain ⟨m2,e2⟩:=tbls b _ e1
   exact ⟨m1++m2,by rw [e2,Array.append_assoc]⟩
 · obtain ⟨m,hn,hl⟩:=I.loc
   refine ⟨m,ns m hn,fun i x v e1 e2 e3=>?_⟩
   obtain ⟨u,r,l⟩:=hl i x v e1 e2 e3
   refine ⟨u,r,?_⟩
   rcases l with l | ⟨k,c,e,z⟩
   · exact .inl l
   · exact .inr ⟨k,c,e,cellK x c e _ z⟩
 · obtain ⟨v,z⟩:=I.cell x c e
   exact ⟨v,cellK x c e v z⟩
 · obtain ⟨m,⟨o,_,_,ho,_⟩,_⟩:=I.loc
   exact free _ o (fun z=>(hch _ z).2.1 rfl) ho I.free
 · obtain ⟨v,o,ho,hd⟩:=I.cell x c e
   exact free c o (fun z=>(hch c z).2.2.1 x c e rfl) ho (I.freeC x c e)
 · obtain ⟨e,n,ne,nf,d⟩:=I.pin p hp
   have nch:p.1∉ch:=fun z=>(hch p.1 z).2.2.2 p hp rfl
   exact ⟨keep p.1 p.2 ne nf nch e n,free p.1 p.2 nch e n,ne,nf,d⟩
theorem Inv.un {t':Nat}(I:Inv X pins σ H s) (u:Un X.fs [] H H' s.heap h') (hok:HOk X.prog X.w H' h'):Inv X pins σ H' { s with heap:=h',toks:=t' }:=by
 obtain ⟨m,⟨o,es,ep,ho,r⟩,_⟩:=id I.loc
 obtain ⟨sl,hL⟩:=u.any ho I.free (by simp)
 exact I.step (g':=s.gens) (d':=s.drawn) (ch:=[]) (fun _ z=>nomatch z) (fun b o _ hb _ e n=>u.keep b o e n hb (by simp)) (fun b o _ hb _ e n=>u.slot b o e n hb (by simp)) (fun b o _ e n=>u.free b o e n (by simp)) (fun b o _ e=>u.there b o e (by simp)) u.tups u.frzs u.tbls (fun m' hm=>by
  obtain ⟨o',es',ep',ho',r'⟩:=hm
  rw [ho] at ho'; cases ho'
  exact ⟨_,es',ep',hL,r'⟩) hok I.bare
theorem Inv.call {g':Array GenState}{t':Nat}{d':Drawn}{ch:List Addr}(I:Inv X pins σ H s) (u:Un (frs X.stack) ch H H' s.heap h') (hok:HOk X.prog X.w H' h') (hg:AllBare g')
 (hch:∀ b∈ch,(b∈X.ex∨X.s₀.heap.objs.size≤b)∧b≠X.env.locals∧(∀ x c,X.env.cells.lookup x=some c→c≠b)∧∀ p∈X.pn++pins,p.1≠b) :
 Inv X pins σ H' { s with heap:=h',gens:=g',drawn:=d',toks:=t' }:=by
 obtain ⟨m,⟨o,es,ep,ho,r⟩,_⟩:=id I.loc
 obtain ⟨sl,hL⟩:=u.any ho I.free fun z=>(hch _ z).2.1 rfl
 exact I.step (ch:=ch) hch (fun b o hL hb hc e n=>u.keep b o e n (fun z=>(List.mem_cons.mp (I.stkSub b z)).elim hL hb) hc) (fun b o _ _ hc e n=>u.any e n hc) (fun b o hc e n=>u.free b o e n hc) (fun b o hc e=>u.there b o e hc) u.tups u.frzs u.tbls (fun m' hm=>by
  obtain ⟨o',es',ep',ho',r'⟩:=hm
  rw [ho] at ho'; cases ho'
  exact ⟨_,es',ep',hL,r'⟩) hok hg
theorem Inv.turned {t':Nat}{it:Addr}(I:Inv X pins σ H s) (k:∀ b o,b≠it→s.heap.get? b=some o→h'.get? b=some o) (hn:H it=none) (hL:it≠X.env.locals)
 (h1:it∈X.ex∨X.s₀.heap.objs.size≤it) (h2:∀ x c,X.env.cells.lookup x=some c→c≠it) (h3:∀ p∈X.pn++pins,p.1≠it):Inv X pins σ H { s with heap:=h',toks:=t' }:=by
 have nit:∀ b u,H b=some u→b≠it:=fun b u e z=>by rw [z,hn] at e; cases e
 refine I.step (g':=s.gens) (d':=s.drawn) (ch:=[it]) (fun b hb=>?_) (fun b o _ _ hc e _=>k b o (fun z=>hc (by simp [z])) e) (fun b o _ _ hc e _=>⟨o.slots,k b o (fun z=>hc (by simp [z])) e⟩) (fun _ _ _ _ n=>n)
  (fun b o hc e=>⟨o,k b o (fun z=>hc (by simp [z])) e⟩) (fun _ _ e=>e) (fun _ _ _ e=>e) (fun b ps e=>⟨#[],by rw [e]; simp⟩) (fun m hm=>?_) (fun b u e=>?_) I.bare
 · have e:b=it:=by simpa using hb
   subst e
   exact ⟨h1,hL,h2,h3⟩
 · obtain ⟨o,es,ep,ho,r⟩:=hm
   exact ⟨o,es,ep,k _ o (Ne.symm hL) ho,r⟩
 · refine (I.hok b u e).stay (fun c v hc q=>k c v ?_ q) (fun _ q=>q) fun _ _ q=>q
   rcases hc with z | z
   · rw [z]; exact nit b u e
   · exact nit c _ z
theorem Inv.tok (I:Inv X pins σ H s) (t:Nat):Inv X pins σ H { s with toks:=t }:=I.un (h':=s.heap) (t':=t) Un.refl I.hok
theorem Inv.kept {t':Nat}(I:Inv X pins σ H s) (k:∀ b u,s.heap.get? b=some u→h'.get? b=some u):Inv X pins σ H { s with heap:=h',toks:=t' }:=I.un (Un.kept k) (I.hok.kept k)
theorem Inv.laid {a:Addr}{o:HO}{t':Nat}(I:Inv X pins σ H s) (k:∀ b u,s.heap.get? b=some u→h'.get? b=some u) (hp:s.heap.objs.size≤a) (new:ObjOk X.prog X.w (upd H a o) h' a o) :
 Inv X pins σ (upd H a o) { s with heap:=h',toks:=t' }:=I.un (Un.laid k hp (I.hok.fresh hp)) (I.hok.laid k hp new)
theorem Inv.write {x e:Addr}{o:HO}{t':Nat}(I:Inv X pins σ H s) (mu:Mut (H x)) (he:e=x∨H e=some (.own x)) (k:∀ b u,b≠e→s.heap.get? b=some u→h'.get? b=some u) (heo:∃ u,h'.get? e=some u)
 (new:ObjOk X.prog X.w (upd H x o) h' x o):Inv X pins σ (upd H x o) { s with heap:=h',toks:=t' }:=I.un (Un.write mu he k heo) (I.hok.write mu he k heo new)
theorem Inv.pins_of {pins':List (Addr×Obj)}(I:Inv X pins σ H s) (h:∀ p∈pins',s.heap.get? p.1=some p.2∧H p.1=none∧p.1≠X.env.locals∧p.1∉X.fs∧∀ v,p.2.data≠.cell v):Inv X pins' σ H s :=
 ⟨I.ok,I.os,I.bare,I.base,I.loc,I.cell,I.free,I.freeC,fun p hp=>(List.mem_append.mp hp).elim (fun z=>I.pin p (List.mem_append_left _ z)) (h p),I.hok,I.len⟩
theorem aw2 {N:List Str}(hN:N.Nodup) {i j:Nat}{x:Str}(a:N[i]?=some x) (b:N[j]?=some x):i=j:=by
 obtain ⟨h1,e1⟩:=List.getElem?_eq_some_iff.mp a
 obtain ⟨h2,e2⟩:=List.getElem?_eq_some_iff.mp b
 exact (List.getElem_inj hN).mp (e1.trans e2.symm)
theorem ao9 {M:Model}{A:Around}{E:Value→Shared→Prop}{i:Nat}{x:Str}{v:V}{u:Value}{Q:Unit→Shared→Prop}(I:Inv X pins σ H s) (hN:X.N.Nodup) (hi:X.N[i]?=some x) (hx:Loc X.env.scope x) (r:RelV v u)
 (h:∀ s',Inv X pins (σ.set i (some v)) H s'→(∃ a,Heap.SameBut a s.heap s'.heap∧(a=X.env.locals∨X.env.cells.lookup x=some a))→Q () s') (hf:X.fn x=true∨X.env.scope.names.lookup x=some .local:=by first | exact .inl rfl | exact .inr rfl | assumption):wpAny M A (storeName X.env x u) Q E s:=by
 obtain ⟨m,hn,hl⟩:=id I.loc
 have hcls:(X.env.scope.kind == .class || (X.env.scope.kind == .module && X.env.locals != X.env.globals))=false:=by rw [I.ok.kind]; rfl
 have hiσ:i<σ.length:=by rw [I.len]; exact (List.getElem?_eq_some_iff.mp hi).1
 have cne:=I.cne
 have tracked:∀ {a:Addr}{h':Heap},(∃ o,s.heap.get? a=some o∧H a=none)→Heap.SameBut a s.heap h'→HOk X.prog X.w H h':=fun {a h'} ha hs b ob e=>by
  obtain ⟨_,_,hfree⟩:=ha
  refine (I.hok b ob e).stay (fun c w' hc q=>(hs.2 c ?_).trans q) (fun _ q=>q) fun _ _ q=>q
  rintro rfl
  rcases hc with rfl | hc
  · rw [hfree] at e; cases e
  · rw [hfree] at hc; cases hc
 rcases hx with hk | hk
 · refine wpAny_storeName_local hk hn (fun h' hn' hs=>?_) hcls
   obtain ⟨oL,_,_,hoL,_⟩:=id hn
   refine h _ ⟨I.ok,I.os,I.bare,⟨fun b o e n hb hx=>?_,fun b o e n hb hx=>?_,I.base.free,fun b o e hx=>?_,I.base.tups,I.base.frzs,I.base.tbls⟩,⟨_,hn',fun j y v' e1 e2 e3=>?_⟩,fun y c e=>?_,I.free,I.freeC,fun p hp=>?_,tracked ⟨oL,hoL,I.free⟩ hs,by simpa using I.len⟩ ⟨_,hs,.inl rfl⟩
   · exact (hs.2 b (Nat.ne_of_lt (Nat.lt_of_lt_of_le (Heap.lt_size e) I.ok.above))).trans (I.base.keep b o e n hb hx)
   · obtain ⟨sl,e1⟩:=I.base.slot b o e n hb hx
     exact ⟨sl,(hs.2 b (Nat.ne_of_lt (Nat.lt_of_lt_of_le (Heap.lt_size e) I.ok.above))).trans e1⟩
   · obtain ⟨o',e1⟩:=I.base.there b o e hx
     exact ⟨o',(hs.2 b (Nat.ne_of_lt (Nat.lt_of_lt_of_le (Heap.lt_size e) I.ok.above))).trans e1⟩
   · by_cases hj:j=i
     · subst hj
       rw [hi] at e1; cases e1
       rw [List.getElem?_set_self hiσ] at e2
       cases e2
       exact ⟨u,r,.inl ⟨hk,by simp⟩⟩
     · rw [List.getElem?_set_ne (Ne.symm hj)] at e2
       obtain ⟨u',r',q⟩:=hl j y v' e1 e2 e3
       refine ⟨u',r',?_⟩
       rcases q with ⟨k,e⟩ | ⟨k,c,e,z⟩
       · refine .inl ⟨k,?_⟩
         have:y≠x:=fun e=>hj (aw2 hN e1 (e ▸ hi))
         simp [this,e]
       · exact .inr ⟨k,c,e,z.sameBut hs (cne y c e)⟩
   · obtain ⟨w',z⟩:=I.cell y c e
     exact ⟨w',z.sameBut hs (cne y c e)⟩
   · obtain ⟨e,n,ne,nf,d⟩:=I.pin p hp
     exact ⟨(hs.2 p.1 ne).trans e,n,ne,nf,d⟩
 · have hfn:X.fn x=true:=by
    rcases hf with z | z
    · exact z
    · rw [z] at hk; cases hk
   obtain ⟨c,hc⟩:=I.ok.has x (.inl hk)
   obtain ⟨w',z⟩:=I.cell x c hc
   refine wpAny_storeName_cell I.ok.kind hk hc z (fun h' hc' hs=>?_)
   obtain ⟨oc,hoc,hocd⟩:=id z
   refine h { s with heap:=h' } ⟨I.ok,I.os,I.bare,⟨fun b o e n hb hx=>?_,fun b o e n hb hx=>?_,I.base.free,fun b o e hx=>?_,I.base.tups,I.base.frzs,I.base.tbls⟩,⟨m,hn.sameBut hs (Ne.symm (cne x c hc)),fun j y v' e1 e2 e3=>?_⟩,fun y c' e=>?_,I.free,I.freeC,fun p hp=>?_,tracked ⟨oc,hoc,I.freeC x c hc⟩ hs,by simpa using I.len⟩ ⟨c,hs,.inr hc⟩
   · exact (hs.2 b (Nat.ne_of_lt (Nat.lt_of_lt_of_le (Heap.lt_size e) (I.ok.cab x c hfn hc)))).trans (I.base.keep b o e n hb hx)
   · obtain ⟨sl,e1⟩:=I.base.slot b o e n hb hx
     exact ⟨sl,(hs.2 b (Nat.ne_of_lt (Nat.lt_of_lt_of_le (Heap.lt_size e) (I.ok.cab x c hfn hc)))).trans e1⟩
   · obtain ⟨o',e1⟩:=I.base.there b o e hx
     exact ⟨o',(hs.2 b (Nat.ne_of_lt (Nat.lt_of_lt_of_le (Heap.lt_size e) (I.ok.cab x c hfn hc)))).trans e1⟩
   · by_cases hj:j=i
     · subst hj
       rw [hi] at e1; cases e1
       rw [List.getElem?_set_self hiσ] at e2
       cases e2
       exact ⟨u,r,.inr ⟨.inl hk,c,hc,hc'⟩⟩
     · rw [List.getElem?_set_ne (Ne.symm hj)] at e2
       obtain ⟨u',r',q⟩:=hl j y v' e1 e2 e3
       refine ⟨u',r',?_⟩
       rcases q with q | ⟨k,c',e,z'⟩
       · exact .inl q
       · refine .inr ⟨k,c',e,z'.sameBut hs ?_⟩
         rintro rfl
         exact hj (aw2 hN e1 (I.ok.inj _ _ _ e hc ▸ hi))
   · by_cases hcc:c'=c
     · subst hcc; exact ⟨_,hc'⟩
     · obtain ⟨w2,z2⟩:=I.cell y c' e
       exact ⟨w2,z2.sameBut hs hcc⟩
   · obtain ⟨e,n,ne,nf,d⟩:=I.pin p hp
     refine ⟨(hs.2 p.1 ?_).trans e,n,ne,nf,d⟩
     intro q
     rw [q,hoc] at e
     have q':oc=p.2:=Option.some.inj e
     exact d w' (by rw [← q']; exact hocd)
theorem aw3 {M:Model}{A:Around}{E:Value→Shared→Prop}{i:Nat}{x:Str}{v:V}{u:Value}{Q:Unit→Shared→Prop}(I:Inv X pins σ H s) (hN:X.N.Nodup) (hi:X.N[i]?=some x) (hx:Loc X.env.scope x) (r:RelV v u)
 (h:∀ s',Inv X pins (σ.set i (some v)) H s'→Q () s') (hf:X.fn x=true∨X.env.scope.names.lookup x=some .local:=by first | exact .inl rfl | exact .inr rfl | assumption):wpAny M A (storeName X.env x u) Q E s :=
 ao9 I hN hi hx r (fun s' I' _=>h s' I') hf
theorem Inv.call' {s':Shared}{ch:List Addr}(I:Inv X pins σ H s) (ho:s'.os=s.os) (u:Un (frs X.stack) ch H H' s.heap s'.heap) (hok:HOk X.prog X.w H' s'.heap) (hg:AllBare s'.gens)
 (hch:∀ b∈ch,(b∈X.ex∨X.s₀.heap.objs.size≤b)∧b≠X.env.locals∧(∀ x c,X.env.cells.lookup x=some c→c≠b)∧∀ p∈X.pn++pins,p.1≠b):Inv X pins σ H' s':=by
 obtain ⟨h',g',d',t',o'⟩:=s'
 have e:o'=s.os:=ho
 subst e
 exact I.call (g':=g') (t':=t') (d':=d') u hok hg hch
end
abbrev XK:=Value→Option Addr→Hp→Prop
abbrev St:=List (Option V)
abbrev VK:=V→Hp→Prop
abbrev TE:=St→Hp→VK→Prop
abbrev TT:=St→Hp→(Bool→Hp→Prop)→Prop
abbrev TA:=St→Hp→(List V→Hp→Prop)→Prop
structure Ends where
 nx:St→Hp→Prop
 rt:VK
 bk:St→Hp→Prop:=fun _ _=>False
 ct:St→Hp→Prop:=fun _ _=>False
abbrev TS:=Ends→St→Hp→Prop
def EP (X:Cx) (pins:List (Addr×Obj)) (σ:St) (Q:VK) (u:Value) (s':Shared):Prop:=∃ v H',Inv X pins σ H' s'∧RelV v u∧Q v H'
def TP (X:Cx) (pins:List (Addr×Obj)) (σ:St) (Q:Bool→Hp→Prop) (b:Bool) (s':Shared):Prop:=∃ H',Inv X pins σ H' s'∧Q b H'
def AP (X:Cx) (pins:List (Addr×Obj)) (σ:St) (Q:List V→Hp→Prop) (us:List Value) (s':Shared):Prop:=∃ vs H',Inv X pins σ H' s'∧Vals vs us∧Q vs H'
def SP (X:Cx) (pins:List (Addr×Obj)) (D:Ends) (f:Flow) (s':Shared):Prop :=
 match f with
 | .next=>∃ σ' H',Inv X pins σ' H' s'∧D.nx σ' H'
 | .brk=>∃ σ' H',Inv X pins σ' H' s'∧D.bk σ' H'
 | .cont=>∃ σ' H',Inv X pins σ' H' s'∧D.ct σ' H'
 | .ret u=>∃ v σ' H',Inv X pins σ' H' s'∧RelV v u∧D.rt v H'
def PE (X:Cx) (e:Expr) (t:TE):Prop :=
 ∀ (pins:List (Addr×Obj)) (s:Shared) (σ:St) (H:Hp) (Q:VK),Inv X pins σ H s→t σ H Q→wpAny (model X.prog X.w) X.A (eval e X.env) (EP X pins σ Q) X.xe s
def PT (X:Cx) (e:Expr) (t:TT):Prop :=
 ∀ (pins:List (Addr×Obj)) (s:Shared) (σ:St) (H:Hp) (Q:Bool→Hp→Prop),Inv X pins σ H s→t σ H Q→wpAny (model X.prog X.w) X.A (isTrue e X.env (eval e X.env)) (TP X pins σ Q) X.xe s
def PW (X:Cx) (e:Expr) (t:TT):Prop :=
 ∀ (whole:Sem Value) (pins:List (Addr×Obj)) (s:Shared) (σ:St) (H:Hp) (Q:Bool→Hp→Prop),Inv X pins σ H s→t σ H Q→wpAny (model X.prog X.w) X.A (isTrue e X.env whole) (TP X pins σ Q) X.xe s
theorem PW.pt {X:Cx}{e:Expr}{t:TT}(h:PW X e t):PT X e t:=h _
def PA (X:Cx) (es:List Expr) (t:TA):Prop :=
 ∀ (pos:Pos) (pins:List (Addr×Obj)) (s:Shared) (σ:St) (H:Hp) (Q:List V→Hp→Prop),Inv X pins σ H s→t σ H Q→wpAny (model X.prog X.w) X.A (spliced (backTo pos (starEach es X.env))) (AP X pins σ Q) X.xe s
def PS (X:Cx) (st:Stmt) (t:TS):Prop :=
 ∀ (pins:List (Addr×Obj)) (s:Shared) (σ:St) (H:Hp) (D:Ends),Inv X pins σ H s→t D σ H→wpAny (model X.prog X.w) X.A (exec st X.env) (SP X pins D) X.xe s
def PSs (X:Cx) (st:List Stmt) (t:TS):Prop :=
 ∀ (pins:List (Addr×Obj)) (s:Shared) (σ:St) (H:Hp) (D:Ends),Inv X pins σ H s→t D σ H→wpAny (model X.prog X.w) X.A (execs st X.env) (SP X pins D) X.xe s
theorem thn {α:Type}{t:Sem α}{Q Q':α→Shared→Prop}{M:Model}{A:Around}{E:Value→Shared→Prop}{s:Shared}(h:wpAny M A t Q E s) (hQ:∀ a s,Q a s→Q' a s):wpAny M A t Q' E s:=wpAny_mono h hQ fun _ _ x=>x
section
variable {X:Cx}
def tVar (i:Nat):TE:=fun σ H Q=>∃ v,σ[i]?=some (some v)∧Q v H
def tC (v:V):TE:=fun _ H Q=>Q v H
theorem bp9 {i:Nat}{x:Str}{pos:Pos}(hN:X.N[i]?=some x) (hv:Vis X.env.scope x) (hd:(x == ("__debug__":Str))=false:=by decide) (hcd:(x == ("__classdict__":Str))=false:=by decide):PE X (.Name x pos) (tVar i):=by
 intro pins s σ H Q I h
 obtain ⟨v,e,h⟩:=h
 obtain ⟨m,hn,hl⟩:=I.loc
 obtain ⟨u,r,l⟩:=hl i x v hN e hv
 have fin:EP X pins σ Q u s:=⟨v,H,I,r,h⟩
 rcases l with ⟨hk,hm⟩ | ⟨hk,c,hc,hcell⟩
 · exact wpAny_Name (wpAny_loadName_local I.ok.kind hk hn hm fin) hd
 · rcases hk with hk | hk
   · exact wpAny_Name (wpAny_loadName_cell I.ok.kind hk hc hcell fin) hd
   · exact wpAny_Name (wpAny_loadName_free I.ok.kind hk hc hcell fin hcd) hd
theorem a03 {i j pos}:PE X (.Constant (.int i) j pos) (tC (.int i)):=fun _ _ _ H _ I h=>wpAny_Constant_int ⟨.int i,H,I.tok _,⟨_,rfl⟩,h⟩
theorem ba0 {b j pos}:PE X (.Constant (.bool b) j pos) (tC (.bl b)):=fun _ _ _ H _ I h=>Constant_bool ⟨.bl b,H,I,rfl,h⟩
theorem bf0 {j pos}:PE X (.Constant .none j pos) (tC .non):=fun _ _ _ H _ I h=>Constant_none ⟨.non,H,I,rfl,h⟩
theorem a05 {x j pos}:PE X (.Constant (.str x) j pos) (tC (.str x)):=fun _ _ _ H _ I h=>Calls.Constant_str ⟨.str x,H,I.tok _,⟨_,rfl⟩,h⟩
def Gl (X:Cx) (x:Str):Prop:=X.env.kindOf x=some .globalImplicit
theorem at3 {E:Value→Shared→Prop}{pins:List (Addr×Obj)}{s:Shared}{σ:St} {H:Hp}{x:Str}{u:Value}{pos:Pos}{Q:Value→Shared→Prop}(I:Inv X pins σ H s) (hg:Gl X x) (hm:X.mg x=some u) (h:Q u s)
 (hd:(x == ("__debug__":Str))=false:=by decide):wpAny (model X.prog X.w) X.A (eval (.Name x pos) X.env) Q E s :=
 Calls.Name_function_global I.ok.kind hg (Calls.loadGlobal_global (by rw [I.ok.glob]; exact I.mod.glob.keeps I.bk) hm h) hd
theorem ap0 {E:Value→Shared→Prop}{pins:List (Addr×Obj)}{s:Shared}{σ:St} {H:Hp}{x:Str}{u:Value}{pos:Pos}{Q:Value→Shared→Prop}(I:Inv X pins σ H s) (hg:Gl X x) (hm:X.mg x=none) (hv:bootBuiltins x=some u) (h:Q u s)
 (hn:x≠"__name__":=by decide) (hd:(x == ("__debug__":Str))=false:=by decide):wpAny (model X.prog X.w) X.A (eval (.Name x pos) X.env) Q E s:=by
 obtain ⟨mb,h1,h2⟩:=I.mod.blt
 exact Calls.Name_function_global I.ok.kind hg (Calls.loadGlobal_builtin (by rw [I.ok.glob]; exact I.mod.glob.keeps I.bk) hm (by rw [I.ok.blt]; exact h1.keeps I.bk) ((h2 x hn).trans hv) h) hd
theorem at4 {x:Str}{v:V}{u:Value}{pos:Pos}(hg:Gl X x) (hm:X.mg x=some u) (r:RelV v u) (hd:(x == ("__debug__":Str))=false:=by decide):PE X (.Name x pos) (tC v) :=
 fun _ _ _ H _ I h=>at3 I hg hm ⟨v,H,I,r,h⟩ hd
theorem bi7 {x:Str}{v:V}{u:Value}{pos:Pos}(hg:Gl X x) (hm:X.mg x=none) (hv:bootBuiltins x=some u) (r:RelV v u) (hn:x≠"__name__":=by decide) (hd:(x == ("__debug__":Str))=false:=by decide):PE X (.Name x pos) (tC v) :=
 fun _ _ _ H _ I h=>ap0 I hg hm hv ⟨v,H,I,r,h⟩ hn hd
variable {a b:Expr}{ta tb:TE}{pos:Pos}
def PC (X:Cx) (op:CmpOp) (a b:Expr) (t:TE):Prop :=
 ∀ (pins:List (Addr×Obj)) (s:Shared) (σ:St) (H:Hp) (Q:VK),Inv X pins σ H s→t σ H Q →
  wpAny (model X.prog X.w) X.A (eval a X.env) (fun v s₁=>wpAny (model X.prog X.w) X.A (eval b X.env) (fun u s₂=>wpAny (model X.prog X.w) X.A (compareOp op v u) (EP X pins σ Q) X.xe s₂) X.xe s₁) X.xe s
theorem nobehind (b:Expr) {op:CmpOp}(h:op≠.In) (h2:op≠.NotIn):behindInMarks op b=false:=by
 have e1:(op == CmpOp.In)=false:=by cases op <;> first | rfl | exact absurd rfl h
 have e2:(op == CmpOp.NotIn)=false:=by cases op <;> first | rfl | exact absurd rfl h2
 cases b <;> simp [behindInMarks,e1,e2]
def tB (t:TE):TT:=fun σ H Q=>t σ H fun x H1=>∃ c,x=.bl c∧Q c H1
theorem bf1 {op:CmpOp}{t:TE}(h:PC X op a b t) (h1:behindInMarks op b=false:=by first | exact nobehind _ (by decide) (by decide) | rfl):PT X (.Compare a [op] [b] pos) (tB t):=by
 intro pins s σ H Q I hw
 refine wpAny_isTrue_Compare1 (thn (h pins s σ H _ I hw) fun v s1 h1=>thn h1 fun u s2 h2=>thn h2 ?_) h1
 rintro c s3 ⟨x,H1,I1,r1,q1⟩
 obtain ⟨d,rfl,q⟩:=q1
 cases r1
 exact wpAny_truthy_bool ⟨H1,I1,q⟩
variable {tA tB':TT}{rest:List Expr}
def tAnd (t u:TT):TT:=fun σ H Q=>t σ H fun c H1=>if c=true then u σ H1 Q else Q false H1
def tOr (t u:TT):TT:=fun σ H Q=>t σ H fun c H1=>if c=true then Q true H1 else u σ H1 Q
def tNot (t:TT):TT:=fun σ H Q=>t σ H fun c H1=>Q (!c) H1
theorem a89 (ha:PT X a tA):PW X (.BoolOp .And [a] pos) tA:=by
 intro wh pins s σ H Q I h
 refine isTrue_and (thn (ha pins s σ H Q I h) fun c s1 e=>?_)
 cases c with
 | true=>exact isTrue_and_nil e
 | false=>exact e
theorem ag2 (ha:PT X a tA):PW X (.BoolOp .Or [a] pos) tA:=by
 intro wh pins s σ H Q I h
 refine isTrue_or (thn (ha pins s σ H Q I h) fun c s1 e=>?_)
 cases c with
 | false=>exact isTrue_or_nil e
 | true=>exact e
theorem ac8 (ha:PT X a tA) (hb:PW X (.BoolOp .And (b::rest) pos) tB'):PW X (.BoolOp .And (a::b::rest) pos) (tAnd tA tB'):=by
 intro wh pins s σ H Q I h
 refine isTrue_and (thn (ha pins s σ H _ I h) ?_)
 rintro c s1 ⟨H1,I1,q1⟩
 cases c with
 | true=>exact hb wh pins s1 σ H1 Q I1 q1
 | false=>exact ⟨H1,I1,q1⟩
theorem am2 (ha:PT X a tA) (hb:PW X (.BoolOp .Or (b::rest) pos) tB'):PW X (.BoolOp .Or (a::b::rest) pos) (tOr tA tB'):=by
 intro wh pins s σ H Q I h
 refine isTrue_or (thn (ha pins s σ H _ I h) ?_)
 rintro c s1 ⟨H1,I1,q1⟩
 cases c with
 | true=>exact ⟨H1,I1,q1⟩
 | false=>exact hb wh pins s1 σ H1 Q I1 q1
theorem b18 (ha:PT X a tA):PT X (.UnaryOp .Not a pos) (tNot tA):=by
 intro pins s σ H Q I h
 exact isTrue_not (ha pins s σ H (fun c H1=>Q (!c) H1) I h)
def bq0 (ta tb:TE):TE:=fun σ H Q=>ta σ H fun x H1=>∃ c,x=.bl c∧if c=true then tb σ H1 Q else Q (.bl false) H1
def tOrV (ta tb:TE):TE:=fun σ H Q=>ta σ H fun x H1=>∃ c,x=.bl c∧if c=true then Q (.bl true) H1 else tb σ H1 Q
theorem b19 {op}{t:TE}(h:PE X a t):PE X (.BoolOp op [a] pos) t:=fun pins s σ H Q I hw=>BoolOp_one (h pins s σ H Q I hw)
theorem bq1 (ha:PE X a ta) (hb:PE X (.BoolOp .And (b::rest) pos) tb):PE X (.BoolOp .And (a::b::rest) pos) (bq0 ta tb):=by
 intro pins s σ H Q I h
 refine BoolOp_and (thn (ha pins s σ H _ I h) ?_)
 rintro v s1 ⟨x,H1,I1,r1,q1⟩
 obtain ⟨c,rfl,q1⟩:=q1
 cases r1
 refine wpAny_truthy_bool ?_
 cases c with
 | true=>exact hb pins s1 σ H1 Q I1 q1
 | false=>exact ⟨.bl false,H1,I1,rfl,q1⟩
theorem bq2 (ha:PE X a ta) (hb:PE X (.BoolOp .Or (b::rest) pos) tb):PE X (.BoolOp .Or (a::b::rest) pos) (tOrV ta tb):=by
 intro pins s σ H Q I h
 refine BoolOp_or (thn (ha pins s σ H _ I h) ?_)
 rintro v s1 ⟨x,H1,I1,r1,q1⟩
 obtain ⟨c,rfl,q1⟩:=q1
 cases r1
 refine wpAny_truthy_bool ?_
 cases c with
 | false=>exact hb pins s1 σ H1 Q I1 q1
 | true=>exact ⟨.bl true,H1,I1,rfl,q1⟩
def tIf (t:TT) (ta tb:TE):TE:=fun σ H Q=>t σ H fun c H1=>if c=true then ta σ H1 Q else tb σ H1 Q
theorem aw4 {c:Expr}(hc:PT X c tA) (ha:PE X a ta) (hb:PE X b tb):PE X (.IfExp c a b pos) (tIf tA ta tb):=by
 intro pins s σ H Q I h
 refine wpAny_IfExp (thn (hc pins s σ H _ I h) ?_)
 rintro d s1 ⟨H1,I1,q1⟩
 cases d with
 | true=>exact ha pins s1 σ H1 Q I1 q1
 | false=>exact hb pins s1 σ H1 Q I1 q1
end
def SqL (K:PySem.W.Frag) (H:Hp) (a:Addr) (xs:List V):Prop :=
 Rd H a (.lst xs) ∨
  ∃ (o:Obj) (its:Array Value) (n:Nat),K.lookup a=some o∧o.cls=.type "list"∧o.dict=none∧o.data=.seq its n∧its.size≤sizeLine∧Vals xs its.toList
def SqT (K:PySem.W.Frag) (H:Hp) (a:Addr) (xs:List V):Prop :=
 Rd H a (.tup xs) ∨
  ∃ (o:Obj) (its:Array Value) (n:Nat),K.lookup a=some o∧o.cls=.type "tuple"∧o.data=.seq its n∧its.size≤sizeLine∧Vals xs its.toList
def absV:Value→Option V
 | .none=>some .non
 | .bool b=>some (.bl b)
 | .int i _=>some (.int i)
 | .str x _=>some (.str x)
 | .bytes b _=>some (.byt b)
 | .float b _=>some (.flt b)
 | .ref a=>some (.ref a)
 | .type n=>some (.ty n)
 | _=>none
theorem RelV.abs {x:V}{u:Value}(r:RelV x u):absV u=some x:=by
 cases x with
 | non=>cases r; rfl
 | bl _=>cases r; rfl
 | int _=>obtain ⟨t,rfl⟩:=r; rfl
 | str _=>obtain ⟨t,rfl⟩:=r; rfl
 | byt _=>obtain ⟨t,rfl⟩:=r; rfl
 | flt _=>obtain ⟨t,rfl⟩:=r; rfl
 | ref _=>cases r; rfl
 | ty _=>cases r; rfl
theorem RelV.inj {x y:V}{u:Value}(r:RelV x u) (q:RelV y u):x=y:=Option.some.inj (r.abs.symm.trans q.abs)
theorem Vals.inj:∀ {xs ys:List V}{us:List Value},Vals xs us→Vals ys us→xs=ys
 | _,_,_,.nil,.nil=>rfl
 | _,_,_,.cons r t,.cons r' t'=>by rw [r.inj r',Vals.inj t t']
section
variable {X:Cx}{pins:List (Addr×Obj)}{σ:St} {H:Hp}{s:Shared}{a:Addr}{xs ys:List V}
theorem SqL.of {K:PySem.W.Frag}(h:H a=some (.lst xs)):SqL K H a xs:=.inl (.inl h)
theorem SqT.of {K:PySem.W.Frag}(h:H a=some (.tup xs)):SqT K H a xs:=.inl (.inl h)
theorem Inv.list (I:Inv X pins σ H s) (h:SqL X.K H a xs):∃ its:List Value,Vals xs its∧PlainL s.heap a its.toArray∧xs.length≤sizeLine:=by
 rcases h with h | ⟨o,its,n,hk,hc,hd,hs,hz,r⟩
 · obtain ⟨z,its,n,r,e⟩:=h.ok I.hok
   exact ⟨its,r,⟨_,n,e,rfl,rfl,rfl⟩,z⟩
 · refine ⟨its.toList,r,⟨o,n,I.kIn a o hk,hc,hd,by simpa using hs⟩,?_⟩
   have e:=r.length
   simp only [Array.length_toList] at e
   omega
theorem Inv.tuple (I:Inv X pins σ H s) (h:SqT X.K H a xs):∃ its:List Value,Vals xs its∧IsTup s.heap a its.toArray∧xs.length≤sizeLine:=by
 rcases h with h | ⟨o,its,n,hk,hc,hs,hz,r⟩
 · obtain ⟨z,its,r,p⟩:=h.ok I.hok
   exact ⟨its,r,p,z⟩
 · refine ⟨its.toList,r,⟨o,I.kIn a o hk,hc,n,by simpa using hs⟩,?_⟩
   have e:=r.length
   simp only [Array.length_toList] at e
   omega
theorem Inv.list_inj (I:Inv X pins σ H s) (h:SqL X.K H a xs) (h':SqL X.K H a ys):xs=ys:=by
 obtain ⟨its,r,⟨o,n,e,_,_,d⟩,_⟩:=I.list h
 obtain ⟨its',r',⟨o',n',e',_,_,d'⟩,_⟩:=I.list h'
 rw [e] at e'; cases e'
 rw [d] at d'
 injection d' with d1 _
 have:its=its':=by simpa using congrArg Array.toList d1
 subst this
 exact r.inj r'
theorem Inv.tuple_inj (I:Inv X pins σ H s) (h:SqT X.K H a xs) (h':SqT X.K H a ys):xs=ys:=by
 obtain ⟨its,r,⟨o,e,_,n,d⟩,_⟩:=I.tuple h
 obtain ⟨its',r',⟨o',e',_,n',d'⟩,_⟩:=I.tuple h'
 rw [e] at e'; cases e'
 rw [d] at d'
 injection d' with d1 _
 have:its=its':=by simpa using congrArg Array.toList d1
 subst this
 exact r.inj r'
end
abbrev Cx.wish (X:Cx) (E:Value→Shared→Prop):Cx:={ X with xe:=E }
abbrev Cx.nox (X:Cx):Cx:=X.wish fun _ _=>False
theorem Cx.Ok.wish {X:Cx}(ok:X.Ok) (E:Value→Shared→Prop):(X.wish E).Ok :=
 ⟨ok.mod,ok.kind,ok.glob,ok.blt,ok.above,ok.inj,ok.has,ok.cab,ok.hd,ok.frames,ok.stk,ok.exf,ok.bs,ok.bsz,ok.noex,ok.exfs,ok.funs,ok.frf⟩
theorem Cx.Ok.unwish {X:Cx}{E:Value→Shared→Prop}(ok:(X.wish E).Ok):X.Ok :=
 ⟨ok.mod,ok.kind,ok.glob,ok.blt,ok.above,ok.inj,ok.has,ok.cab,ok.hd,ok.frames,ok.stk,ok.exf,ok.bs,ok.bsz,ok.noex,ok.exfs,ok.funs,ok.frf⟩
section
variable {X:Cx}{pins:List (Addr×Obj)}{σ:St} {H:Hp}{s:Shared}{E:Value→Shared→Prop}
theorem Inv.wish (I:Inv X pins σ H s) (E:Value→Shared→Prop):Inv (X.wish E) pins σ H s:=⟨I.ok.wish E,I.os,I.bare,I.base,I.loc,I.cell,I.free,I.freeC,I.pin,I.hok,I.len⟩
theorem Inv.unwish (I:Inv (X.wish E) pins σ H s):Inv X pins σ H s:=⟨I.ok.unwish,I.os,I.bare,I.base,I.loc,I.cell,I.free,I.freeC,I.pin,I.hok,I.len⟩
theorem SP.unwish {D:Ends}{f:Flow}{s':Shared}(h:SP (X.wish E) pins D f s'):SP X pins D f s':=by
 cases f with
 | next=>obtain ⟨σ',H',I,q⟩:=h; exact ⟨σ',H',I.unwish,q⟩
 | brk=>obtain ⟨σ',H',I,q⟩:=h; exact ⟨σ',H',I.unwish,q⟩
 | cont=>obtain ⟨σ',H',I,q⟩:=h; exact ⟨σ',H',I.unwish,q⟩
 | ret u=>obtain ⟨v,σ',H',I,r,q⟩:=h; exact ⟨v,σ',H',I.unwish,r,q⟩
theorem PSs.nox {st:List Stmt}{t:TS}(h:PSs X.nox st t):PSs X st t:=fun pins s σ H D I hw =>
 wpAny_mono (h pins s σ H D (I.wish _) hw) (fun _ _ q=>q.unwish) fun _ _ z=>False.elim z
end
section
variable {X:Cx}{st:Stmt}{rest:List Stmt}{t u:TS}{e:Expr}{te:TE}{pos:Pos}
def bq3:TS:=fun D σ H=>D.nx σ H
def tSeq (t u:TS):TS:=fun D σ H=>t { D with nx:=u D } σ H
theorem a12:PSs X [] bq3:=fun _ _ σ H _ I h=>wpAny_execs_nil ⟨σ,H,I,h⟩
theorem a02 (h1:PS X st t) (h2:PSs X rest u):PSs X (st::rest) (tSeq t u):=by
 intro pins s σ H D I h
 refine wpAny_execs_cons (thn (h1 pins s σ H { D with nx:=u D } I h) fun f s1 q=>?_)
 cases f with
 | next =>
   obtain ⟨σ',H',I',q⟩:=q
   exact h2 pins s1 σ' H' D I' q
 | ret v=>exact q
 | brk=>exact q
 | cont=>exact q
theorem a04 (h1:PS X st t):PSs X [st] t:=by
 intro pins s σ H D I h
 refine wpAny_execs_cons (thn (h1 pins s σ H D I h) fun f s1 q=>?_)
 cases f with
 | next=>exact wpAny_execs_nil q
 | ret v=>exact q
 | brk=>exact q
 | cont=>exact q
def bf2:TS:=fun D σ H=>D.bk σ H
theorem ba1:PS X (.Break pos) bf2:=fun _ _ σ H _ I h=>wpAny_Break ⟨σ,H,I,h⟩
theorem Inv.quiet {pins:List (Addr×Obj)}{σ:St} {H:Hp}{s:Shared}(I:Inv X pins σ H s):interactive X.env=false:=by simp [interactive,I.ok.kind]
def bq4 (te:TE):TS:=fun D σ H=>te σ H fun _ H1=>D.nx σ H1
theorem a29 (he:PE X e te) (hs:swapsWith e none pos.line X.env=pure false:=by rfl):PS X (.Expr e pos) (bq4 te):=by
 intro pins s σ H D I h
 exact wpAny_Expr_any (thn (he pins s σ H _ I h) (by rintro v s1 ⟨x,H1,I1,r1,q1⟩; exact ⟨σ,H1,I1,q1⟩)) I.quiet hs
def tRet (te:TE):TS:=fun D σ H=>te σ H D.rt
theorem a17 (he:PE X e te):PS X (.Return (some e) pos) (tRet te):=by
 intro pins s σ H D I h
 exact wpAny_Return_some (thn (he pins s σ H _ I h) (by rintro v s1 ⟨x,H1,I1,r1,q1⟩; exact ⟨x,σ,H1,I1,r1,q1⟩))
def bq5:TS:=fun D _ H=>D.rt .non H
theorem bi8:PS X (.Return none pos) bq5:=fun _ _ σ H _ I h=>wpAny_Return_none ⟨.non,σ,H,I,rfl,h⟩
def tIfS (c:TT) (t u:TS):TS:=fun D σ H=>c σ H fun b H1=>if b=true then t D σ H1 else u D σ H1
theorem a33 {c:Expr}{a b:List Stmt}{tc:TT}(hc:PT X c tc) (ha:PSs X a t) (hb:PSs X b u):PS X (.If c a b pos) (tIfS tc t u):=by
 intro pins s σ H D I h
 refine wpAny_If (thn (hc pins s σ H _ I h) ?_)
 rintro d s1 ⟨H1,I1,q1⟩
 cases d with
 | true=>exact ha pins s1 σ H1 D I1 q1
 | false=>exact hb pins s1 σ H1 D I1 q1
end
abbrev TG:=V→St→Hp→(St→Hp→Prop)→Prop
abbrev TGs:=List V→St→Hp→(St→Hp→Prop)→Prop
def PG (X:Cx) (target:Expr) (t:TG):Prop :=
 ∀ (pins:List (Addr×Obj)) (s:Shared) (σ:St) (H:Hp) (v:V) (u:Value) (Q:St→Hp→Prop),Inv X pins σ H s→RelV v u→t v σ H Q →
  wpAny (model X.prog X.w) X.A (assign target X.env u) (fun _ s'=>∃ σ' H',Inv X pins σ' H' s'∧Q σ' H') X.xe s
def PGs (X:Cx) (ts:List Expr) (t:TGs):Prop :=
 ∀ (pins:List (Addr×Obj)) (s:Shared) (σ:St) (H:Hp) (vs:List V) (us:List Value) (Q:St→Hp→Prop),Inv X pins σ H s→Vals vs us→t vs σ H Q →
  wpAny (model X.prog X.w) X.A (assignInOrder ((assignEach ts X.env).map (·.2)) us) (fun _ s'=>∃ σ' H',Inv X pins σ' H' s'∧Q σ' H') X.xe s
abbrev TSet:=V→V→V→Hp→(Hp→Prop)→Prop
def PSet (X:Cx) (t:TSet):Prop :=
 ∀ (pins:List (Addr×Obj)) (s:Shared) (σ:St) (H:Hp) (o i v:V) (ov iv u:Value) (Q:Hp→Prop),Inv X pins σ H s→RelV o ov→RelV i iv→RelV v u→t o i v H Q →
  wpAny (model X.prog X.w) X.A (setItem ov iv u) (fun _ s'=>∃ H',Inv X pins σ H' s'∧Q H') X.xe s
section
variable {X:Cx}{pos:Pos}
def ag6 (i:Nat):TG:=fun v σ H Q=>Q (σ.set i (some v)) H
theorem a13 {i:Nat}{x:Str}(hN:X.N.Nodup) (hi:X.N[i]?=some x) (hx:Loc X.env.scope x) (hf:X.fn x=true∨X.env.scope.names.lookup x=some .local:=by first | exact .inl rfl | exact .inr rfl | assumption):PG X (.Name x pos) (ag6 i):=by
 intro pins s σ H v u Q I r h
 exact wpAny_assign_Name (aw3 I hN hi hx r (fun s' I'=>⟨_,H,I',h⟩) hf)
def gNil:TGs:=fun vs σ H Q=>vs=[]∧Q σ H
def az2 (t:TG) (u:TGs):TGs:=fun vs σ H Q=>∃ v r,vs=v::r∧t v σ H fun σ' H'=>u r σ' H' Q
theorem a71:PGs X [] gNil:=by
 intro pins s σ H vs us Q I r h
 obtain ⟨e,h⟩:=h
 subst e
 cases r
 exact assignInOrder_nil ⟨σ,H,I,h⟩
theorem a27 {e:Expr}{es:List Expr}{t:TG}{u:TGs}(h1:PG X e t) (h2:PGs X es u)
 (hs:(assignEach (e::es) X.env).map (·.2)=assign e X.env::(assignEach es X.env).map (·.2):=by rfl):PGs X (e::es) (az2 t u):=by
 intro pins s σ H vs us Q I r h
 obtain ⟨v,vr,e1,h⟩:=h
 subst e1
 cases r with
 | cons r rr =>
   rw [hs]
   refine assignInOrder_cons (thn (h1 pins s σ H _ _ _ I r h) ?_)
   rintro _ s1 ⟨σ1,H1,I1,q1⟩
   exact h2 pins s1 σ1 H1 _ _ Q I1 rr q1
def gTup (K:PySem.W.Frag) (n:Nat) (t:TGs):TG:=fun v σ H Q=>∃ a xs,v=.ref a∧SqT K H a xs∧xs.length=n∧t xs σ H Q
theorem bq6 {es:List Expr}{k:Nat}{t:TGs}{n:Nat}(hc:X.calm=true) (h:PGs X es t)
 (hn:(assignEach es X.env).length=n:=by rfl) (hst:(assignEach es X.env).findIdx? (·.1)=none:=by rfl):PG X (.Tuple es k pos) (gTup X.K n t):=by
 intro pins s σ H v u Q I r hw
 obtain ⟨a,xs,e1,hq,hl,hw⟩:=hw
 subst e1
 cases r
 obtain ⟨its,rv,ht,hz⟩:=I.tuple hq
 refine assign_Tuple_tuple (I.ok.hd hc) ht (by simp [hn,←hl,rv.length]) hst fun h' hx=>?_
 have I1:Inv X pins σ H { s with heap:=h' }:=I.kept (t':=s.toks) fun b o e=>hx b o (Nat.ne_of_lt (Heap.lt_size e)) e
 exact h pins _ σ H xs _ Q I1 (by simpa using rv) hw
def gSub (to ti:TE) (t:TSet):TG:=fun v σ H Q=>to σ H fun o H1=>ti σ H1 fun i H2=>t o i v H2 fun H3=>Q σ H3
theorem ak5 {o i:Expr}{to ti:TE}{t:TSet}(ho:PE X o to) (hi:PE X i ti) (hs:PSet X t)
 (ha:∀ v,assign (.Subscript o i pos) X.env v=(do
  let ov←holding [v] (eval o X.env)
  let iv←holding [v,ov] (eval i X.env)
  standAt pos
  holding [v,ov,iv] (setItem ov iv v)
  release [v,ov,iv] []):=by intro _; rfl):PG X (.Subscript o i pos) (gSub to ti t):=by
 intro pins s σ H v u Q I r h
 rw [ha]
 refine wpAny_bind (wpAny_holding (thn (ho pins s σ H _ I h) ?_))
 rintro ov s1 ⟨x,H1,I1,r1,q1⟩
 refine wpAny_bind (wpAny_holding (thn (hi pins s1 σ H1 _ I1 q1) ?_))
 rintro iv s2 ⟨y,H2,I2,r2,q2⟩
 refine wpAny_bind (wpAny_standAt (wpAny_bind (wpAny_holding (thn (hs pins s2 σ H2 x y v ov iv u _ I2 r1 r2 r q2) ?_))))
 rintro _ s3 ⟨H3,I3,q3⟩
 exact wpAny_release ⟨σ,H3,I3,q3⟩
def tAsg (te:TE) (g:TG):TS:=fun D σ H=>te σ H fun x H1=>g x σ H1 D.nx
theorem ah8 {tg e:Expr}{te:TE}{g:TG}(he:PE X e te) (hg:PG X tg g) (hs:swapsWithSole [tg] e pos.line X.env=pure false:=by rfl) (hw:swappedStores [tg] e X.env=pure none:=by rfl)
 (h1:(assignEach [tg] X.env).map (·.2)=[assign tg X.env]:=by rfl):PS X (.Assign [tg] e pos) (tAsg te g):=by
 intro pins s σ H D I h
 refine wpAny_Assign_stores (thn (he pins s σ H _ I h) ?_) hs hw
 rintro v s1 ⟨x,H1,I1,r1,q1⟩
 rw [h1]
 exact thn (hg pins s1 σ H1 x v _ I1 r1 q1) fun _ s2 q=>q
theorem a16 {i:Nat}{x:Str}{e:Expr}{te:TE}{pos':Pos}(hN:X.N.Nodup) (hi:X.N[i]?=some x) (hx:Loc X.env.scope x) (he:PE X e te) (hs:swapsWith e (some (.Name x pos')) pos.line X.env=pure false:=by rfl) (hf:X.fn x=true∨X.env.scope.names.lookup x=some .local:=by first | exact .inl rfl | exact .inr rfl | assumption) :
 PS X (.Assign [.Name x pos'] e pos) (tAsg te (ag6 i)):=by
 intro pins s σ H D I h
 refine wpAny_Assign_Name (thn (he pins s σ H _ I h) ?_) hs
 rintro v s1 ⟨y,H1,I1,r1,q1⟩
 exact aw3 I1 hN hi hx r1 (fun s2 I2=>⟨_,H1,I2,q1⟩) hf
end
section
variable {X:Cx}{pos:Pos}
def bf3 (c:TT) (tb:TS):TS:=fun D σ H=>∃ W:Nat→St→Hp→Prop,(∃ m,W m σ H)∧∀ m σ H,W m σ H →
 c σ H fun b H1=>if b=true then ∃ N:St→Hp→Prop,(∀ σ' H',N σ' H'→∃ m',m'<m∧W m' σ' H')∧tb { D with nx:=N,ct:=N,bk:=D.nx } σ H1 else D.nx σ H1
theorem ba2 {c:Expr}{body:List Stmt}{tc:TT}{tb:TS}(hp:PassesOwn (model X.prog X.w) X.A X.env X.xe) (hc:PT X c tc) (hb:PSs X body tb):PS X (.While c body [] pos) (bf3 tc tb):=by
 intro pins s σ H D I h
 obtain ⟨W,⟨m0,w0⟩,turn⟩:=h
 refine wpAny_While (codeAny_whileLoop (fun n s'=>∃ σ' H',Inv X pins σ' H' s'∧W n σ' H') ?_ m0 ⟨σ,H,I,w0⟩)
 rintro n s1 ⟨σ1,H1,I1,w1⟩
 refine wpAny_passesOwn hp (thn (hc pins s1 σ1 H1 _ I1 (turn n σ1 H1 w1)) ?_)
 rintro b s2 ⟨H2,I2,q2⟩
 cases b with
 | true =>
   obtain ⟨N,hN,q2⟩:=q2
   rw [if_pos rfl]
   refine wpAny_passesOwn hp (thn (hb pins s2 σ1 H2 _ I2 q2) fun f s3 q3=>?_)
   cases f with
   | next =>
     obtain ⟨σ3,H3,I3,n3⟩:=q3
     obtain ⟨m',hm,w3⟩:=hN σ3 H3 n3
     exact ⟨m',hm,σ3,H3,I3,w3⟩
   | cont =>
     obtain ⟨σ3,H3,I3,n3⟩:=q3
     obtain ⟨m',hm,w3⟩:=hN σ3 H3 n3
     exact ⟨m',hm,σ3,H3,I3,w3⟩
   | brk=>exact q3
   | ret v=>exact q3
 | false =>
   rw [if_neg Bool.false_ne_true]
   exact wpAny_execs_nil ⟨σ1,H2,I2,q2⟩
end
structure It where
 go:Nat→Hp→Prop
 yld:Nat→Hp→V→Hp→Prop
 stop:Nat→Hp→Prop
def FpOk (X:Cx) (pins:List (Addr×Obj)) (H:Hp) (b:Addr):Prop :=
 H b=none∧b≠X.env.locals∧b∉X.fs∧(b∈X.ex∨X.s₀.heap.objs.size≤b)∧(∀ x c,X.env.cells.lookup x=some c→c≠b)∧∀ p∈X.pn++pins,p.1≠b
theorem Inv.fpOk {X:Cx}{pins:List (Addr×Obj)}{σ:St} {H H':Hp}{s:Shared}{b:Addr}(I:Inv X pins σ H s) (hb:s.heap.objs.size≤b) (hn:H' b=none):FpOk X pins H' b:=by
 refine ⟨hn,Nat.ne_of_gt (Nat.lt_of_lt_of_le I.lt hb),I.nofs hb,.inr (Nat.le_trans I.sz hb),fun x c e z=>?_,fun p hp z=>?_⟩
 · obtain ⟨v,q⟩:=I.cell x c e
   exact absurd (Nat.lt_of_lt_of_le q.lt (by rw [z]; exact hb)) (Nat.lt_irrefl _)
 · exact absurd (Nat.lt_of_lt_of_le (Heap.lt_size (I.pin p hp).1) (by rw [z]; exact hb)) (Nat.lt_irrefl _)
structure Turn (P:Program) (w:World) (K:PySem.W.Frag) (tg:Expr) (J:It) (fp:List Addr) (it:Addr) (tn:Nat→Heap→Prop):Prop where
 mem:it∈fp
 obj:∀ i h,tn i h→∀ b∈fp,∃ o,h.get? b=some o∧∀ v,o.data≠.cell v
 keep:∀ i h h',tn i h→(∀ b∈fp,∀ o,h.get? b=some o→h'.get? b=some o)→tn i h'
 item:∀ (X:Cx),X.prog=P→X.w=w→X.K=K→X.calm=true→∀ (i:Nat) (pins:List (Addr×Obj)) (s:Shared) (σ:St) (H:Hp) (E:Value→Shared→Prop),Inv X pins σ H s→(∀ b∈fp,FpOk X pins H b)→tn i s.heap→J.go i H →
  wpAny (model P w) X.A (pyNext (.ref it)) (fun r s1=>∃ u,r=some u ∧
   wpAny (model P w) X.A (letOwnedTupleGo tg (.ref it) u) (fun _ s2=>∃ x H',Inv X pins σ H' s2∧RelV x u∧J.yld i H x H'∧tn (i+1) s2.heap∧∀ b∈fp,H' b=none) E s1) E s
 done:∀ (X:Cx),X.prog=P→X.w=w→X.K=K→X.calm=true→∀ (i:Nat) (pins:List (Addr×Obj)) (s:Shared) (σ:St) (H:Hp) (E:Value→Shared→Prop),Inv X pins σ H s→(∀ b∈fp,FpOk X pins H b)→tn i s.heap→J.stop i H →
  wpAny (model P w) X.A (pyNext (.ref it)) (fun r s1=>r=none∧Inv X pins σ H s1) E s
 self:∀ (A:Around) (i:Nat) (s:Shared) (Q:Value→Shared→Prop) (E:Value→Shared→Prop),tn i s.heap→Q (.ref it) s→wpAny (model P w) A (pyIter (.ref it)) Q E s
abbrev TI:=St→Hp→(It→Hp→Prop)→Prop
def PIE (X:Cx) (pins:List (Addr×Obj)) (σ:St) (tg:Expr) (R:It→Hp→Prop) (itv:Value) (s2:Shared):Prop :=
 ∃ (it:Addr) (fp:List Addr) (tn:Nat→Heap→Prop) (J:It) (H':Hp),itv=.ref it∧Inv X pins σ H' s2∧Turn X.prog X.w X.K tg J fp it tn∧tn 0 s2.heap∧(∀ b∈fp,FpOk X pins H' b)∧R J H'
def PI (X:Cx) (tg iter:Expr) (wi:TI):Prop :=
 ∀ (pins:List (Addr×Obj)) (s:Shared) (σ:St) (H:Hp) (R:It→Hp→Prop),Inv X pins σ H s→wi σ H R →
  wpAny (model X.prog X.w) X.A (eval iter X.env) (fun v s1=>wpAny (model X.prog X.w) X.A (pyIter v) (PIE X pins σ tg R) X.xe s1) X.xe s
theorem bi9 {M:Model}{A:Around}{E:Value→Shared→Prop}{s:Shared}{tg:Expr}{it:Addr}{u:Value}{o:Obj}{n:String}{vs:Array Value}{Q:Unit→Shared→Prop}(ho:s.heap.get? it=some o) (hc:o.cls=.type n) (hd:o.data=.fields vs)
 (hn:["enumerate","zip","dict_itemiterator","dict_reverseitemiterator","odict_iterator","itertools.zip_longest","itertools.pairwise"].contains n=false) (hQ:Q () s):wpAny M A (letOwnedTupleGo tg (.ref it) u) Q E s:=by
 unfold letOwnedTupleGo
 cases tg <;> first
  | exact wpAny_pure hQ
  | (cases u <;> first
   | exact wpAny_pure hQ
   | (refine wpAny_bind (wpAny_load ho ?_)
      rw [hc,hd]
      show wpAny M A (if (["enumerate","zip","dict_itemiterator","dict_reverseitemiterator","odict_iterator","itertools.zip_longest","itertools.pairwise"].contains n && vs[0]? == some (rawInt _))=true then _ else _) Q E s
      rw [if_neg (by intro h; rw [hn,Bool.false_and] at h; cases h)]
      exact wpAny_pure hQ))
def Itl (K:PySem.W.Frag) (a:Addr):It :=
 ⟨fun i H=>∃ xs x,SqL K H a xs∧xs[i]?=some x,fun i H x H'=>H'=H∧∀ xs,SqL K H a xs→xs[i]?=some x,fun i H=>∃ xs,SqL K H a xs∧xs.length≤i⟩
def Itt (K:PySem.W.Frag) (a:Addr):It :=
 ⟨fun i H=>∃ xs x,SqT K H a xs∧xs[i]?=some x,fun i H x H'=>H'=H∧∀ xs,SqT K H a xs→xs[i]?=some x,fun i H=>∃ xs,SqT K H a xs∧xs.length≤i⟩
def Itr (lo:Int) (n:Nat):It:=⟨fun i _=>i<n,fun i H x H'=>H'=H∧x=.int (lo+i),fun i _=>n≤i⟩
theorem b20 {P:Program}{w:World}{K:PySem.W.Frag}{tg:Expr}(a it:Addr):Turn P w K tg (Itl K a) [it] it (fun i h=>h.IsListIter it a i) where
 mem:=by simp
 obj:=fun i h st b hb=>by
  have e:b=it:=by simpa using hb
  subst e
  obtain ⟨o,e,c,d⟩:=st
  exact ⟨o,e,fun v z=>by rw [d] at z; cases z⟩
 keep:=fun i h h' st k=>st.at fun o e=>k it (by simp) o e
 item:=by
  intro X hP hw hK hc i pins s σ H E I hf st hg
  subst hP hw hK
  obtain ⟨xs,x,hq,hx⟩:=hg
  obtain ⟨its,rv,p,hz⟩:=I.list hq
  obtain ⟨u,hu,ru⟩:=rv.get hx
  obtain ⟨f0,f1,f2,f3,f4,f5⟩:=hf it (by simp)
  refine wpAny_pyNext_list_item st p.isList (x:=u) (by simpa using hu) fun h' st' sb=>?_
  have I1:Inv X pins σ H { s with heap:=h' }:=I.turned (t':=s.toks) (fun b o hb e=>(sb.2 b hb).trans e) f0 f1 f3 f4 f5
  obtain ⟨o,e,c,d⟩:=id st'
  exact ⟨u,rfl,bi9 (s:={ s with heap:=h' }) e c d (by decide) ⟨x,H,I1,ru,⟨rfl,fun ys hy=>by rw [I.list_inj hy hq]; exact hx⟩,st',fun b hb=>(hf b hb).1⟩⟩
 done:=by
  intro X hP hw hK hc i pins s σ H E I hf st hg
  subst hP hw hK
  obtain ⟨xs,hq,hx⟩:=hg
  obtain ⟨its,rv,p,hz⟩:=I.list hq
  obtain ⟨f0,f1,f2,f3,f4,f5⟩:=hf it (by simp)
  have hl:=rv.length
  exact wpAny_pyNext_list_end (I.ok.hd hc) st p.isList (by simp; omega) fun h' eb=>⟨rfl,I.turned (t':=s.toks) (fun b o hb e=>eb b o hb e) f0 f1 f3 f4 f5⟩
 self:=fun _ _ _ _ _ st h=>wpAny_pyIter_listiter st h
theorem az3 {P:Program}{w:World}{K:PySem.W.Frag}{tg:Expr}(a it:Addr):Turn P w K tg (Itt K a) [it] it (fun i h=>h.IsTupleIter it a i) where
 mem:=by simp
 obj:=fun i h st b hb=>by
  have e:b=it:=by simpa using hb
  subst e
  obtain ⟨o,e,c,d⟩:=st
  exact ⟨o,e,fun v z=>by rw [d] at z; cases z⟩
 keep:=fun i h h' st k=>st.at fun o e=>k it (by simp) o e
 item:=by
  intro X hP hw hK hc i pins s σ H E I hf st hg
  subst hP hw hK
  obtain ⟨xs,x,hq,hx⟩:=hg
  obtain ⟨its,rv,p,hz⟩:=I.tuple hq
  obtain ⟨u,hu,ru⟩:=rv.get hx
  obtain ⟨f0,f1,f2,f3,f4,f5⟩:=hf it (by simp)
  refine wpAny_pyNext_tuple_item st (show s.heap.IsTuple a its.toArray from p) (x:=u) (by simpa using hu) fun h' st' sb=>?_
  have I1:Inv X pins σ H { s with heap:=h' }:=I.turned (t':=s.toks) (fun b o hb e=>(sb.2 b hb).trans e) f0 f1 f3 f4 f5
  obtain ⟨o,e,c,d⟩:=id st'
  exact ⟨u,rfl,bi9 (s:={ s with heap:=h' }) e c d (by decide) ⟨x,H,I1,ru,⟨rfl,fun ys hy=>by rw [I.tuple_inj hy hq]; exact hx⟩,st',fun b hb=>(hf b hb).1⟩⟩
 done:=by
  intro X hP hw hK hc i pins s σ H E I hf st hg
  subst hP hw hK
  obtain ⟨xs,hq,hx⟩:=hg
  obtain ⟨its,rv,p,hz⟩:=I.tuple hq
  obtain ⟨f0,f1,f2,f3,f4,f5⟩:=hf it (by simp)
  have hl:=rv.length
  exact wpAny_pyNext_tuple_end (I.ok.hd hc) st (show s.heap.IsTuple a its.toArray from p) (by simp; omega) fun h' eb=>⟨rfl,I.turned (t':=s.toks) (fun b o hb e=>eb b o hb e) f0 f1 f3 f4 f5⟩
 self:=fun _ _ _ _ _ st h=>wpAny_pyIter_tupleiter st h
theorem az4 {P:Program}{w:World}{K:PySem.W.Frag}{tg:Expr}(it:Addr) (lo:Int) (n:Nat):Turn P w K tg (Itr lo n) [it] it (fun i h=>IsRangeIter h it (lo+(i:Nat)*1) ((n:Int) - (i:Nat)) 1) where
 mem:=by simp
 obj:=fun i h st b hb=>by
  have e:b=it:=by simpa using hb
  subst e
  exact ⟨_,st,fun v z=>by
   have z':Data.fields _=Data.cell v:=z
   cases z'⟩
 keep:=fun i h h' st k=>k it (by simp) _ st
 item:=by
  intro X hP hw hK hc i pins s σ H E I hf st hg
  subst hP hw hK
  obtain ⟨f0,f1,f2,f3,f4,f5⟩:=hf it (by simp)
  have W:=Walks.range (prog:=X.prog) (w:=X.w) (I.ok.hd hc) it lo 1 n
  refine W.item i s _ _ hg st fun v h' tk hv st' kk=>?_
  obtain ⟨t,rfl⟩:=hv
  have I1:Inv X pins σ H { s with heap:=h',toks:=tk }:=I.turned (fun b o hb e=>kk b o (by simpa using hb) e) f0 f1 f3 f4 f5
  refine ⟨_,rfl,bi9 (s:={ s with heap:=h',toks:=tk }) (n:="range_iterator") st' rfl rfl (by decide) ⟨.int (lo+i),H,I1,⟨t,?_⟩,⟨rfl,rfl⟩,st',fun b hb=>(hf b hb).1⟩⟩
  rw [Int.mul_one]
 done:=by
  intro X hP hw hK hc i pins s σ H E I hf st hg
  subst hP hw hK
  obtain ⟨f0,f1,f2,f3,f4,f5⟩:=hf it (by simp)
  exact wpAny_pyNext_range_end (I.ok.hd hc) st (by have:n≤i:=hg; omega) fun h' eb=>⟨rfl,I.turned (t':=s.toks) (fun b o hb e=>eb b o hb e) f0 f1 f3 f4 f5⟩
 self:=fun _ _ _ _ _ st h=>wpAny_pyIter_rangeiter st h
section
variable {X:Cx}{tg:Expr}
def bj0 (K:PySem.W.Frag) (tl:TE):TI:=fun σ H R=>tl σ H fun x H1=>∃ a,x=.ref a∧(∃ xs,SqL K H1 a xs)∧R (Itl K a) H1
def iTup (K:PySem.W.Frag) (tl:TE):TI:=fun σ H R=>tl σ H fun x H1=>∃ a,x=.ref a∧(∃ xs,SqT K H1 a xs)∧R (Itt K a) H1
theorem bj1 {l:Expr}{tl:TE}(hl:PE X l tl):PI X tg l (bj0 X.K tl):=by
 intro pins s σ H R I h
 refine thn (hl pins s σ H _ I h) ?_
 rintro v s1 ⟨x,H1,I1,r1,q1⟩
 obtain ⟨a,e,⟨xs,hq⟩,q⟩:=q1
 subst e
 cases r1
 obtain ⟨its,rv,p,hz⟩:=I1.list hq
 refine wpAny_pyIter_list p.isList ?_
 refine ⟨s1.heap.objs.size,[s1.heap.objs.size],_,_,H1,rfl,I1.kept (t':=s1.toks) fun b o e=>Heap.get?_push_of_some _ e,b20 a _,⟨_,Heap.get?_push_size _ rfl,rfl,rfl⟩,fun b hb=>?_,q⟩
 have e:b=s1.heap.objs.size:=by simpa using hb
 subst e
 exact I1.fpOk (Nat.le_refl _) (I1.hok.fresh (Nat.le_refl _))
theorem bq7 {l:Expr}{tl:TE}(hl:PE X l tl):PI X tg l (iTup X.K tl):=by
 intro pins s σ H R I h
 refine thn (hl pins s σ H _ I h) ?_
 rintro v s1 ⟨x,H1,I1,r1,q1⟩
 obtain ⟨a,e,⟨xs,hq⟩,q⟩:=q1
 subst e
 cases r1
 obtain ⟨its,rv,p,hz⟩:=I1.tuple hq
 refine wpAny_pyIter_tuple (show s1.heap.IsTuple a its.toArray from p) ?_
 refine ⟨s1.heap.objs.size,[s1.heap.objs.size],_,_,H1,rfl,I1.kept (t':=s1.toks) fun b o e=>Heap.get?_push_of_some _ e,az3 a _,⟨_,Heap.get?_push_size _ rfl,rfl,rfl⟩,fun b hb=>?_,q⟩
 have e:b=s1.heap.objs.size:=by simpa using hb
 subst e
 exact I1.fpOk (Nat.le_refl _) (I1.hok.fresh (Nat.le_refl _))
theorem ba3 {pins:List (Addr×Obj)}{σ:St} {H:Hp}{s:Shared}{R:It→Hp→Prop}{E:Value→Shared→Prop}{lo hi:Int}{t u v:Tok}{tk:Nat}(I:Inv X pins σ H s) (h1:-(2 ^ 62)≤lo) (h2:lo<2 ^ 62) (h3:-(2 ^ 62)≤hi) (h4:hi<2 ^ 62)
 (q:R (Itr lo (hi - lo).toNat) H):wpAny (model X.prog X.w) X.A (pyIter (.ref s.heap.objs.size)) (PIE X pins σ tg R) E { s with heap:=s.heap.push { cls:=.type "range",data:=.fields #[.int lo t,.int hi u,.int 1 v] },toks:=tk }:=by
 refine wpAny_pyIter_range (IsRange.new ..) (small_one h1 h2 h3 h4) ?_
 have I1:Inv X pins σ H { s with heap:=s.heap.push { cls:=.type "range",data:=.fields #[.int lo t,.int hi u,.int 1 v] },toks:=tk }:=I.kept fun b o e=>Heap.get?_push_of_some _ e
 refine ⟨(s.heap.push { cls:=.type "range",data:=.fields #[.int lo t,.int hi u,.int 1 v] }).objs.size,[(s.heap.push { cls:=.type "range",data:=.fields #[.int lo t,.int hi u,.int 1 v] }).objs.size],_,_,H,rfl,
  I1.kept (t':=tk) fun b o e=>Heap.get?_push_of_some _ e,az4 _ lo (hi - lo).toNat,?_,fun b hb=>?_,q⟩
 · have e1:lo+((0:Nat):Int)*1=lo:=by simp
   have e2:(((hi - lo).toNat:Nat):Int) - ((0:Nat):Int)=Builtin.Range.rangeSize lo hi 1:=by rw [rangeSize_one]; split <;> omega
   show IsRangeIter _ _ (lo+((0:Nat):Int)*1) ((((hi - lo).toNat:Nat):Int) - ((0:Nat):Int)) 1
   rw [e1,e2]
   exact Heap.get?_push_size _ rfl
 · have e:b=(s.heap.push { cls:=.type "range",data:=.fields #[.int lo t,.int hi u,.int 1 v] }).objs.size:=by simpa using hb
   subst e
   exact I1.fpOk (Nat.le_refl _) (I1.hok.fresh (Nat.le_refl _))
def bq8 (ta:TA):TI:=fun σ H R=>ta σ H fun vs H1=>∃ j:Int,vs=[.int j]∧-(2 ^ 62)≤j∧j<2 ^ 62∧R (Itr 0 j.toNat) H1
theorem ad8 {a:Expr}{ta:TA}{p pos:Pos}(hg:Gl X "range") (hm:X.mg "range"=none) (ha:PA X [a] ta) (hs:starEach [a] X.env=[(false,eval a X.env)]:=by rfl):PI X tg (.Call (.Name "range" p) [a] [] pos) (bq8 ta):=by
 intro pins s σ H R I h
 refine Call_ (ap0 I hg hm boot_range (PyProof.Rows.callWith_type1 (thn (ha pos pins s σ H _ I h) ?_) hs rfl))
 rintro us s1 ⟨vs,H1,I1,r1,q1⟩
 obtain ⟨j,e,q1,q2,q⟩:=q1
 subst e
 cases r1 with
 | cons r rr =>
   cases rr
   obtain ⟨t,rfl⟩:=r
   exact call_range_1 (ba3 I1 (by omega) (by omega) q1 q2 (by simpa using q))
def tFor (wi:TI) (g:TG) (tb:TS):TS:=fun D σ H=>wi σ H fun J H1=>∃ W:Nat→Nat→St→Hp→Prop,(∃ m,W 0 m σ H1)∧∀ i m σ H,W i m σ H →
 (J.stop i H∧D.nx σ H)∨(J.go i H∧∃ N:St→Hp→Prop,(∀ σ' H',N σ' H'→∃ m',m'<m∧W (i+1) m' σ' H')∧∀ x H',J.yld i H x H'→g x σ H' fun σ2 H2=>tb { D with nx:=N,ct:=N,bk:=D.nx } σ2 H2)
def ap1 (fp:List Addr) (h:Heap):List (Addr×Obj):=fp.filterMap fun b=>(h.get? b).map fun o=>(b,o)
theorem ab7 {fp:List Addr}{h:Heap}{b:Addr}{o:Obj}(hb:b∈fp) (e:h.get? b=some o):(b,o)∈ap1 fp h:=List.mem_filterMap.mpr ⟨b,hb,by rw [e]; rfl⟩
theorem b21 {fp:List Addr}{h:Heap}{p:Addr×Obj}(hp:p∈ap1 fp h):p.1∈fp∧h.get? p.1=some p.2:=by
 obtain ⟨b,hb,e⟩:=List.mem_filterMap.mp hp
 cases q:h.get? b with
 | none=>rw [q] at e; cases e
 | some o =>
   rw [q] at e
   have e':(b,o)=p:=Option.some.inj e
   subst e'
   exact ⟨hb,q⟩
theorem Inv.pinned {pins:List (Addr×Obj)}{σ:St} {H:Hp}{s:Shared}{fp:List Addr}(I:Inv X pins σ H s) (hf:∀ b∈fp,FpOk X pins H b) (ho:∀ b∈fp,∃ o,s.heap.get? b=some o∧∀ v,o.data≠.cell v):Inv X (pins++ap1 fp s.heap) σ H s :=
 I.pins_of fun p hp=>(List.mem_append.mp hp).elim (fun z=>I.pin p (List.mem_append_right _ z)) fun z=>by
  obtain ⟨hb,e⟩:=b21 z
  obtain ⟨f0,f1,f2,_⟩:=hf p.1 hb
  obtain ⟨o,e',d⟩:=ho p.1 hb
  rw [e] at e'; cases e'
  exact ⟨e,f0,f1,f2,d⟩
theorem Inv.unpinned {pins pl:List (Addr×Obj)}{σ:St} {H:Hp}{s:Shared}(I:Inv X (pins++pl) σ H s):Inv X pins σ H s:=I.pins_of fun p hp=>I.pin p (List.mem_append_right _ (List.mem_append_left _ hp))
theorem a62 {iter:Expr}{body:List Stmt}{wi:TI}{g:TG}{tb:TS}{pos:Pos}(hp:PassesOwn (model X.prog X.w) X.A X.env X.xe) (hc:X.calm=true) (hi:PI X tg iter wi) (hg:PG X tg g) (hb:PSs X body tb)
 (hs:∀ x,foldedSetIterable iter X.env x=pure x:=by intro _; rfl):PS X (.For tg iter body [] pos) (tFor wi g tb):=by
 intro pins s σ H D I h
 refine wpAny_For (thn (hi pins s σ H _ I h) fun v s1 h1=>thn h1 fun itv s2 h2=>?_) hs
 obtain ⟨it,fp,tn,J,H2,e,I2,T,st2,f2,W,⟨m0,w0⟩,turn⟩:=h2
 subst e
 have stat:∀ {H':Hp},(∀ b∈fp,H' b=none)→∀ b∈fp,FpOk X pins H' b:=fun hn b hb=>⟨hn b hb,(f2 b hb).2⟩
 refine codeAny_forLoop_any (fun n s'=>∃ i σ' H',Inv X pins σ' H' s'∧tn i s'.heap∧(∀ b∈fp,H' b=none)∧W i n σ' H') ?_ m0 ⟨0,σ,H2,I2,st2,fun b hb=>(f2 b hb).1,w0⟩
 rintro n s3 ⟨i,σ3,H3,I3,st3,fr3,w3⟩
 rcases turn i n σ3 H3 w3 with ⟨stop,qn⟩ | ⟨go,N,hN,step⟩
 · refine wpAny_passesOwn hp (thn (T.done X rfl rfl rfl hc i pins s3 σ3 H3 X.xe I3 (stat fr3) st3 stop) ?_)
   rintro r s4 ⟨hr,I4⟩
   subst hr
   exact wpAny_execs_nil ⟨σ3,H3,I4,qn⟩
 · refine wpAny_passesOwn hp (thn (T.item X rfl rfl rfl hc i pins s3 σ3 H3 X.xe I3 (stat fr3) st3 go) ?_)
   rintro r s4 ⟨u,hr,h4⟩
   subst hr
   refine wpAny_passesOwn hp (thn h4 ?_)
   rintro _ s5 ⟨x,H5,I5,r5,y5,st5,fr5⟩
   have I5':=I5.pinned (stat fr5) (T.obj _ _ st5)
   refine wpAny_passesOwn hp (thn (hg _ s5 σ3 H5 x u _ I5' r5 (step x H5 y5)) ?_)
   rintro _ s6 ⟨σ6,H6,I6,q6⟩
   refine wpAny_passesOwn hp (thn (hb _ s6 σ6 H6 _ I6 q6) fun f s7 q7=>?_)
   have again:∀ {σ7:St} {H7:Hp},Inv X (pins++ap1 fp s5.heap) σ7 H7 s7→N σ7 H7→∃ m,m<n∧∃ i σ' H',Inv X pins σ' H' s7∧tn i s7.heap∧(∀ b∈fp,H' b=none)∧W i m σ' H':=fun {σ7 H7} I7 n7=>by
    obtain ⟨m',hm,w7⟩:=hN σ7 H7 n7
    refine ⟨m',hm,i+1,σ7,H7,I7.unpinned,T.keep _ _ _ st5 fun b hb o e=>(I7.pin (b,o) (List.mem_append_right _ (List.mem_append_right _ (ab7 hb e)))).1,fun b hb=>?_,w7⟩
    obtain ⟨o,e,d⟩:=T.obj _ _ st5 b hb
    exact (I7.pin (b,o) (List.mem_append_right _ (List.mem_append_right _ (ab7 hb e)))).2.1
   cases f with
   | next=>obtain ⟨σ7,H7,I7,n7⟩:=q7; exact again I7 n7
   | cont=>obtain ⟨σ7,H7,I7,n7⟩:=q7; exact again I7 n7
   | brk=>obtain ⟨σ7,H7,I7,q7⟩:=q7; exact ⟨σ7,H7,I7.unpinned,q7⟩
   | ret v=>obtain ⟨x7,σ7,H7,I7,r7,q7⟩:=q7; exact ⟨x7,σ7,H7,I7.unpinned,r7,q7⟩
end
theorem a54 {K:PySem.W.Frag}{a:Addr}{xs:List V}{g:TG}{tb:TS}{D:Ends}{σ:St} {H:Hp}(Pv:Nat→St→Hp→Prop) (h0:Pv 0 σ H) (hl:∀ i σ H,i≤xs.length→Pv i σ H→SqL K H a xs)
 (hs:∀ i x σ H,xs[i]?=some x→Pv i σ H→g x σ H fun σ2 H2=>tb { D with nx:=Pv (i+1),ct:=Pv (i+1),bk:=D.nx } σ2 H2) (hd:∀ σ H,Pv xs.length σ H→D.nx σ H) :
 ∃ W:Nat→Nat→St→Hp→Prop,(∃ m,W 0 m σ H)∧∀ i m σ H,W i m σ H →
  ((Itl K a).stop i H∧D.nx σ H)∨((Itl K a).go i H∧∃ N:St→Hp→Prop,(∀ σ' H',N σ' H'→∃ m',m'<m∧W (i+1) m' σ' H')∧∀ x H',(Itl K a).yld i H x H'→g x σ H' fun σ2 H2=>tb { D with nx:=N,ct:=N,bk:=D.nx } σ2 H2):=by
 refine ⟨fun i m σ H=>m=xs.length - i∧i≤xs.length∧Pv i σ H,⟨xs.length,by simp,Nat.zero_le _,h0⟩,?_⟩
 rintro i m σ H ⟨rfl,hi,p⟩
 have q:=hl i σ H hi p
 by_cases hlt:i<xs.length
 · refine .inr ⟨⟨xs,xs[i],q,by simp [hlt]⟩,Pv (i+1),fun σ' H' p'=>⟨xs.length - (i+1),by omega,rfl,hlt,p'⟩,fun x H' y=>?_⟩
   obtain ⟨e,y⟩:=y
   subst e
   exact hs i x σ _ (y xs q) p
 · have e:i=xs.length:=by omega
   subst e
   exact .inl ⟨⟨xs,q,Nat.le_refl _⟩,hd σ H p⟩
theorem ad9 {lo:Int}{n:Nat}{g:TG}{tb:TS}{D:Ends}{σ:St} {H:Hp}(Pv:Nat→St→Hp→Prop) (h0:Pv 0 σ H)
 (hs:∀ i σ H,i<n→Pv i σ H→g (.int (lo+i)) σ H fun σ2 H2=>tb { D with nx:=Pv (i+1),ct:=Pv (i+1),bk:=D.nx } σ2 H2) (hd:∀ σ H,Pv n σ H→D.nx σ H) :
 ∃ W:Nat→Nat→St→Hp→Prop,(∃ m,W 0 m σ H)∧∀ i m σ H,W i m σ H →
  ((Itr lo n).stop i H∧D.nx σ H)∨((Itr lo n).go i H∧∃ N:St→Hp→Prop,(∀ σ' H',N σ' H'→∃ m',m'<m∧W (i+1) m' σ' H')∧∀ x H',(Itr lo n).yld i H x H'→g x σ H' fun σ2 H2=>tb { D with nx:=N,ct:=N,bk:=D.nx } σ2 H2):=by
 refine ⟨fun i m σ H=>m=n - i∧i≤n∧Pv i σ H,⟨n,by simp,Nat.zero_le _,h0⟩,?_⟩
 rintro i m σ H ⟨rfl,hi,p⟩
 by_cases hlt:i<n
 · refine .inr ⟨hlt,Pv (i+1),fun σ' H' p'=>⟨n - (i+1),by omega,rfl,hlt,p'⟩,fun x H' y=>?_⟩
   obtain ⟨e,y⟩:=y
   subst e y
   exact hs i σ _ hlt p
 · have e:i=n:=by omega
   subst e
   exact .inl ⟨Nat.le_refl _,hd σ H p⟩
abbrev R2:=V→V→Hp→VK→Prop
def OpR (X:Cx) (f:Value→Value→Sem Value) (r:R2):Prop :=
 ∀ (pins:List (Addr×Obj)) (s:Shared) (σ:St) (H:Hp) (x y:V) (v u:Value) (Q:VK),Inv X pins σ H s→RelV x v→RelV y u→r x y H Q →
  wpAny (model X.prog X.w) X.A (f v u) (EP X pins σ Q) X.xe s
def UnR (X:Cx) (f:Value→Sem Value) (r:V→Hp→VK→Prop):Prop :=
 ∀ (pins:List (Addr×Obj)) (s:Shared) (σ:St) (H:Hp) (x:V) (v:Value) (Q:VK),Inv X pins σ H s→RelV x v→r x H Q →
  wpAny (model X.prog X.w) X.A (f v) (EP X pins σ Q) X.xe s
def CallR (X:Cx) (f:Value) (r:List V→Hp→VK→Prop):Prop :=
 ∀ (pins:List (Addr×Obj)) (s:Shared) (σ:St) (H:Hp) (xs:List V) (us:List Value) (Q:VK),Inv X pins σ H s→Vals xs us→r xs H Q →
  wpAny (model X.prog X.w) X.A (call f us) (EP X pins σ Q) X.xe s
def TruR (X:Cx) (r:V→Hp→(Bool→Hp→Prop)→Prop):Prop :=
 ∀ (pins:List (Addr×Obj)) (s:Shared) (σ:St) (H:Hp) (x:V) (v:Value) (Q:Bool→Hp→Prop),Inv X pins σ H s→RelV x v→r x H Q →
  wpAny (model X.prog X.w) X.A (truthy v) (TP X pins σ Q) X.xe s
def tOp (r:R2) (ta tb:TE):TE:=fun σ H Q=>ta σ H fun x H1=>tb σ H1 fun y H2=>r x y H2 Q
def tUn (r:V→Hp→VK→Prop) (ta:TE):TE:=fun σ H Q=>ta σ H fun x H1=>r x H1 Q
def rI (C:Int→Int→Prop) (g:Int→Int→V):R2:=fun x y H Q=>∃ i j,x=.int i∧y=.int j∧C i j∧Q (g i j) H
def rI0 (g:Int→Int→V):R2:=fun x y H Q=>∃ i j,x=.int i∧y=.int j∧Q (g i j) H
def rU (g:Int→V):V→Hp→VK→Prop:=fun x H Q=>∃ i,x=.int i∧Q (g i) H
section
variable {X:Cx}{a b c:Expr}{ta tb tc:TE}{pos:Pos}
theorem binT (ha:PE X a ta) (hb:PE X b tb) {pins:List (Addr×Obj)}{s:Shared}{σ:St} {H:Hp}{R:V→V→Hp→Prop}(I:Inv X pins σ H s)
 (h:ta σ H fun x H1=>tb σ H1 fun y H2=>R x y H2) {Q:Value→Shared→Prop}{f:Value→Value→Sem Value}
 (hf:∀ v u s2 x y H2,Inv X pins σ H2 s2→RelV x v→RelV y u→R x y H2→wpAny (model X.prog X.w) X.A (f v u) Q X.xe s2) :
 wpAny (model X.prog X.w) X.A (eval a X.env) (fun v s₁=>wpAny (model X.prog X.w) X.A (eval b X.env) (fun u s₂=>wpAny (model X.prog X.w) X.A (f v u) Q X.xe s₂) X.xe s₁) X.xe s:=by
 refine thn (ha pins s σ H _ I h) ?_
 rintro v s1 ⟨x,H1,I1,r1,q1⟩
 refine thn (hb pins s1 σ H1 _ I1 q1) ?_
 rintro u s2 ⟨y,H2,I2,r2,q2⟩
 exact hf v u s2 x y H2 I2 r1 r2 q2
theorem a37 {op:Operator}{r:R2}(ho:OpR X (binaryOp op) r) (ha:PE X a ta) (hb:PE X b tb):PE X (.BinOp a op b pos) (tOp r ta tb):=by
 intro pins s σ H Q I h
 exact wpAny_BinOp (binT ha hb I h fun v u s2 x y H2 I2 rx ry q=>ho pins s2 σ H2 x y v u Q I2 rx ry q)
theorem c24 {op:UnaryOp}{r:V→Hp→VK→Prop}(ho:UnR X (unaryOp op) r) (ha:PE X a ta):PE X (.UnaryOp op a pos) (tUn r ta):=by
 intro pins s σ H Q I h
 exact UnaryOp_ (thn (ha pins s σ H _ I h) (by rintro v s1 ⟨x,H1,I1,r1,q1⟩; exact ho pins s1 σ H1 x v Q I1 r1 q1))
theorem opI {f:Value→Value→Sem Value}{C:Int→Int→Prop}{g:Int→Int→Int}
 (rule:∀ (i j:Int) (t u:Tok) (s:Shared) (Q:Value→Shared→Prop) (E:Value→Shared→Prop),C i j→Q (.int (g i j) s.toks) { s with toks:=s.toks+1 }→wpAny (model X.prog X.w) X.A (f (.int i t) (.int j u)) Q E s) :
 OpR X f (rI C fun i j=>.int (g i j)):=by
 intro pins s σ H x y v u Q I rx ry h
 obtain ⟨i,j,rfl,rfl,hc,q⟩:=h
 obtain ⟨t,rfl⟩:=rx
 obtain ⟨t',rfl⟩:=ry
 exact rule i j t t' s _ _ hc ⟨.int (g i j),H,I.tok _,⟨_,rfl⟩,q⟩
theorem opI0 {f:Value→Value→Sem Value}{g:Int→Int→Int}
 (rule:∀ (i j:Int) (t u:Tok) (s:Shared) (Q:Value→Shared→Prop) (E:Value→Shared→Prop),Q (.int (g i j) s.toks) { s with toks:=s.toks+1 }→wpAny (model X.prog X.w) X.A (f (.int i t) (.int j u)) Q E s) :
 OpR X f (rI0 fun i j=>.int (g i j)):=by
 intro pins s σ H x y v u Q I rx ry h
 obtain ⟨i,j,rfl,rfl,q⟩:=h
 obtain ⟨t,rfl⟩:=rx
 obtain ⟨t',rfl⟩:=ry
 exact rule i j t t' s _ _ ⟨.int (g i j),H,I.tok _,⟨_,rfl⟩,q⟩
theorem opB0 {f:Value→Value→Sem Value}{g:Int→Int→Bool}
 (rule:∀ (i j:Int) (t u:Tok) (s:Shared) (Q:Value→Shared→Prop) (E:Value→Shared→Prop),Q (.bool (g i j)) s→wpAny (model X.prog X.w) X.A (f (.int i t) (.int j u)) Q E s) :
 OpR X f (rI0 fun i j=>.bl (g i j)):=by
 intro pins s σ H x y v u Q I rx ry h
 obtain ⟨i,j,rfl,rfl,q⟩:=h
 obtain ⟨t,rfl⟩:=rx
 obtain ⟨t',rfl⟩:=ry
 exact rule i j t t' s _ _ ⟨.bl (g i j),H,I,rfl,q⟩
def CDiv (i j:Int):Prop:=0<j∧j<1073741824
def CPow (i j:Int):Prop:=0≤j∧j≤1000000∧i.natAbs<2 ^ 64
def CMul (i j:Int):Prop:=(-(2 ^ 64)<i∧i<2 ^ 64)∨(-(2 ^ 64)<j∧j<2 ^ 64)
theorem CMul.ok {i j:Int}(h:CMul i j):IntMulOk i j:=by
 rcases h with ⟨h1,h2⟩ | ⟨h1,h2⟩
 · exact .of_left (intBits_le_64 h1 h2)
 · exact .of_right (intBits_le_64 h1 h2)
theorem bq9:OpR X (binaryOp .Add) (rI0 fun i j=>.int (i+j)):=opI0 fun _ _ _ _ _ _ _ q=>add_int q
theorem aw5:OpR X (binaryOp .Sub) (rI0 fun i j=>.int (i - j)):=opI0 fun _ _ _ _ _ _ _ q=>sub_int q
theorem b22:OpR X (binaryOp .FloorDiv) (rI CDiv fun i j=>.int (i / j)):=opI fun i j _ _ _ _ _ hc q=>by
 have h1:(0:Int)<j:=hc.1
 have h2:j<1073741824:=hc.2
 exact floordiv_int (by omega) (by rw [Int.fdiv_eq_ediv_of_nonneg i (by omega)]; exact q) (.inl (PyProof.noPylong_small (by omega)))
theorem ah9:OpR X (binaryOp .Mod) (rI (fun _ j=>0<j) fun i j=>.int (i % j)):=opI fun i j _ _ _ _ _ hc q=>by
 have h1:(0:Int)<j:=hc
 exact mod_int' (by omega) (by rw [Int.fmod_eq_emod_of_nonneg i (by omega)]; exact q)
theorem br0:OpR X (binaryOp .Pow) (rI CPow fun i j=>.int (i ^ j.toNat)):=opI fun _ _ _ _ _ _ _ hc q=>pow_int_small hc.1 hc.2.1 hc.2.2 q
theorem unI {f:Value→Sem Value}{g:Int→Int}
 (rule:∀ (i:Int) (t:Tok) (s:Shared) (Q:Value→Shared→Prop) (E:Value→Shared→Prop),Q (.int (g i) s.toks) { s with toks:=s.toks+1 }→wpAny (model X.prog X.w) X.A (f (.int i t)) Q E s) :
 UnR X f (rU fun i=>.int (g i)):=by
 intro pins s σ H x v Q I rx h
 obtain ⟨i,rfl,q⟩:=h
 obtain ⟨t,rfl⟩:=rx
 exact rule i t s _ _ ⟨.int (g i),H,I.tok _,⟨_,rfl⟩,q⟩
theorem br1:UnR X (unaryOp .USub) (rU fun i=>.int (-i)):=unI fun _ _ _ _ _ q=>neg_int q
end
def scal:V→V→Bool
 | .non,.non=>true | .non,.int _=>true | .int _,.non=>true | .non,.bl _=>true | .bl _,.non=>true | .non,.str _=>true | .str _,.non=>true
 | .int _,.int _=>true | .bl _,.bl _=>true | .str _,.str _=>true | .byt _,.byt _=>true
 | .int _,.str _=>true | .str _,.int _=>true | .bl _,.str _=>true | .str _,.bl _=>true
 | _,_=>false
def rEq:R2:=fun x y H Q=>scal x y=true∧Q (.bl (decide (x=y))) H
def rNe:R2:=fun x y H Q=>scal x y=true∧Q (.bl (!decide (x=y))) H
theorem b23 {i j:Int}:decide (V.int i=V.int j)=(i == j):=by
 rw [Bool.eq_iff_iff]
 simp
theorem bf4 {i j:Bool}:decide (V.bl i=V.bl j)=(i == j):=by
 rw [Bool.eq_iff_iff]
 simp
theorem b24 {i j:Str}:decide (V.str i=V.str j)=(i == j):=by
 rw [Bool.eq_iff_iff]
 simp
theorem b25 {i j:Array UInt8}:decide (V.byt i=V.byt j)=(i.toList == j.toList):=by
 rw [Bool.eq_iff_iff]
 cases i
 cases j
 simp
section
variable {X:Cx}{a b c:Expr}{ta tb tc:TE}{pos:Pos}
theorem a36 {pins:List (Addr×Obj)}{σ:St} {H:Hp}{s:Shared}{Q:VK}{k k':Bool}(I:Inv X pins σ H s) (q:Q (.bl k) H) (e:k=k'):EP X pins σ Q (.bool k') s:=by
 subst e
 exact ⟨.bl k,H,I,rfl,q⟩
theorem a38:OpR X (compareOp .Eq) rEq:=by
 intro pins s σ H x y v u Q I rx ry h
 obtain ⟨hs,q⟩:=h
 cases x with
 | non =>
   cases rx
   cases y with
   | non=>cases ry; exact PySem.EqNone.eq_none_none (a36 I q (by simp))
   | bl j=>cases ry; exact PySem.EqNone.eq_none_bool (a36 I q (by simp))
   | int j=>obtain ⟨t',rfl⟩:=ry; exact PySem.EqNone.eq_none_int (a36 I q (by simp))
   | str j=>obtain ⟨t',rfl⟩:=ry; exact PySem.EqNone.eq_none_str (a36 I q (by simp))
   | _=>exact absurd (show false=true from hs) Bool.false_ne_true
 | bl i =>
   cases rx
   cases y with
   | non=>cases ry; exact PySem.EqNone.eq_bool_none (a36 I q (by simp))
   | bl j=>cases ry; exact eq_bool (a36 I q bf4)
   | str j=>obtain ⟨t',rfl⟩:=ry; exact PySem.EqMixed.eq_bool_str (a36 I q (by simp))
   | _=>exact absurd (show false=true from hs) Bool.false_ne_true
 | int i =>
   obtain ⟨t,rfl⟩:=rx
   cases y with
   | non=>cases ry; exact PySem.EqNone.eq_int_none (a36 I q (by simp))
   | int j=>obtain ⟨t',rfl⟩:=ry; exact eq_int (a36 I q b23)
   | str j=>obtain ⟨t',rfl⟩:=ry; exact PySem.EqMixed.eq_int_str (a36 I q (by simp))
   | _=>exact absurd (show false=true from hs) Bool.false_ne_true
 | str i =>
   obtain ⟨t,rfl⟩:=rx
   cases y with
   | non=>cases ry; exact PySem.EqNone.eq_str_none (a36 I q (by simp))
   | bl j=>cases ry; exact PySem.EqMixed.eq_str_bool (a36 I q (by simp))
   | int j=>obtain ⟨t',rfl⟩:=ry; exact PySem.EqMixed.eq_str_int (a36 I q (by simp))
   | str j=>obtain ⟨t',rfl⟩:=ry; exact eq_str (a36 I q b24)
   | _=>exact absurd (show false=true from hs) Bool.false_ne_true
 | byt i =>
   obtain ⟨t,rfl⟩:=rx
   cases y with
   | byt j=>obtain ⟨t',rfl⟩:=ry; exact PySem.W.eq_bytes (a36 I q b25)
   | _=>exact absurd (show false=true from hs) Bool.false_ne_true
 | _=>cases y <;> exact absurd (show false=true from hs) Bool.false_ne_true
theorem br2:OpR X (compareOp .NotEq) rNe:=by
 intro pins s σ H x y v u Q I rx ry h
 obtain ⟨hs,q⟩:=h
 cases x with
 | non =>
   cases rx
   cases y with
   | non=>cases ry; exact PySem.EqNone.ne_none_none (a36 I q (by simp))
   | bl j=>cases ry; exact PySem.EqNone.ne_none_bool (a36 I q (by simp))
   | int j=>obtain ⟨t',rfl⟩:=ry; exact PySem.EqNone.ne_none_int (a36 I q (by simp))
   | str j=>obtain ⟨t',rfl⟩:=ry; exact PySem.EqNone.ne_none_str (a36 I q (by simp))
   | _=>exact absurd (show false=true from hs) Bool.false_ne_true
 | bl i =>
   cases rx
   cases y with
   | non=>cases ry; exact PySem.EqNone.ne_bool_none (a36 I q (by simp))
   | bl j=>cases ry; exact ne_bool (a36 I q (congrArg not bf4))
   | str j=>obtain ⟨t',rfl⟩:=ry; exact PySem.EqMixed.ne_bool_str (a36 I q (by simp))
   | _=>exact absurd (show false=true from hs) Bool.false_ne_true
 | int i =>
   obtain ⟨t,rfl⟩:=rx
   cases y with
   | non=>cases ry; exact PySem.EqNone.ne_int_none (a36 I q (by simp))
   | int j=>obtain ⟨t',rfl⟩:=ry; exact ne_int (a36 I q (congrArg not b23))
   | str j=>obtain ⟨t',rfl⟩:=ry; exact PySem.EqMixed.ne_int_str (a36 I q (by simp))
   | _=>exact absurd (show false=true from hs) Bool.false_ne_true
 | str i =>
   obtain ⟨t,rfl⟩:=rx
   cases y with
   | non=>cases ry; exact PySem.EqNone.ne_str_none (a36 I q (by simp))
   | bl j=>cases ry; exact PySem.EqMixed.ne_str_bool (a36 I q (by simp))
   | int j=>obtain ⟨t',rfl⟩:=ry; exact PySem.EqMixed.ne_str_int (a36 I q (by simp))
   | str j=>obtain ⟨t',rfl⟩:=ry; exact ne_str (a36 I q (congrArg not b24))
   | _=>exact absurd (show false=true from hs) Bool.false_ne_true
 | byt i =>
   obtain ⟨t,rfl⟩:=rx
   cases y with
   | byt j=>obtain ⟨t',rfl⟩:=ry; exact PySem.W.ne_bytes (a36 I q (congrArg not b25))
   | _=>exact absurd (show false=true from hs) Bool.false_ne_true
 | _=>cases y <;> exact absurd (show false=true from hs) Bool.false_ne_true
theorem c25:OpR X (compareOp .Lt) (rI0 fun i j=>.bl (decide (i<j))):=opB0 fun _ _ _ _ _ _ _ q=>lt_int q
theorem at5:OpR X (compareOp .Gt) (rI0 fun i j=>.bl (decide (j<i))):=opB0 fun _ _ _ _ _ _ _ q=>gt_int q
theorem bj2:OpR X (compareOp .IsNot) (fun x y H Q=>y=.non∧Q (.bl (!decide (x=.non))) H):=by
 intro pins s σ H x y v u Q I rx ry h
 obtain ⟨rfl,q⟩:=h
 cases ry
 refine isnot_none_gen (a36 I q ?_)
 cases x <;> first
  | (cases rx; rfl)
  | (obtain ⟨t,rfl⟩:=rx; rfl)
theorem nomark (b:Expr) {op:CmpOp}(h:op≠.In:=by decide) (h2:op≠.NotIn:=by decide):behindInMarks op b=false:=by
 have e1:(op == CmpOp.In)=false:=by cases op <;> first | rfl | exact absurd rfl h
 have e2:(op == CmpOp.NotIn)=false:=by cases op <;> first | rfl | exact absurd rfl h2
 cases b <;> simp [behindInMarks,e1,e2]
theorem a90 {op:CmpOp}{r:R2}(ho:OpR X (compareOp op) r) (ha:PE X a ta) (hb:PE X b tb) (hm:behindInMarks op b=false):PE X (.Compare a [op] [b] pos) (tOp r ta tb):=by
 intro pins s σ H Q I h
 exact wpAny_Compare1 (binT ha hb I h fun v u s2 x y H2 I2 rx ry q=>ho pins s2 σ H2 x y v u Q I2 rx ry q) hm
def br3 (t:TE):TT:=fun σ H Q=>t σ H fun x H'=>∃ k,x=.bl k∧Q k H'
theorem a08 {op:CmpOp}{r:R2}(ho:OpR X (compareOp op) r) (ha:PE X a ta) (hb:PE X b tb) (hm:behindInMarks op b=false):PT X (.Compare a [op] [b] pos) (br3 (tOp r ta tb)):=by
 intro pins s σ H Q I h
 refine wpAny_isTrue_Compare1 (thn (ha pins s σ H _ I h) fun v s1 ⟨x,H1,I1,r1,q1⟩=>thn (hb pins s1 σ H1 _ I1 q1) fun u s2 ⟨y,H2,I2,r2,q2⟩ =>
  thn (ho pins s2 σ H2 x y v u _ I2 r1 r2 q2) fun c s3 ⟨z,H3,I3,r3,k,e,q3⟩=>?_) hm
 subst e
 cases r3
 exact wpAny_truthy_bool ⟨H3,I3,q3⟩
def TruV (K:PySem.W.Frag) (x:V) (H:Hp) (k:Bool):Prop :=
 match x with
 | .non=>k=false
 | .bl b=>k=b
 | .int i=>k=(i != 0)
 | .str y=>y.length≤sizeLine∧k=((y.length:Int) != 0)
 | .byt y=>y.size≤sizeLine∧k=((y.size:Int) != 0)
 | .ref p=>(∃ xs,SqL K H p xs∧k=!xs.isEmpty)∨(∃ xs,SqT K H p xs∧k=!xs.isEmpty)∨∃ kvs,H p=some (.dK kvs)∧k=!kvs.isEmpty
 | _=>False
theorem az5 {κ:Type} {kvs:List (κ×V)}{vs:List (κ×Value)}(r:KV kvs vs):(!vs.isEmpty)=!kvs.isEmpty:=by
 cases r <;> rfl
theorem ak6 {xs:List V}{its:List Value}(r:Vals xs its):(!its.toArray.isEmpty)=!xs.isEmpty:=by
 cases r <;> simp
theorem ap2:(sizeLine:Nat)<2 ^ 63:=by rw [sizeLine_eq]; decide
theorem br4:TruR X (fun x H Q=>∃ k,TruV X.K x H k∧Q k H):=by
 intro pins s σ H x v Q I rx h
 obtain ⟨k,e,q⟩:=h
 have hl:=ap2
 have hs:sizeLine=16777216:=sizeLine_eq
 cases x with
 | non =>
   cases rx
   have e':k=false:=e
   subst e'
   exact truthy_none ⟨H,I,q⟩
 | bl b =>
   cases rx
   have e':k=b:=e
   subst e'
   exact wpAny_truthy_bool ⟨H,I,q⟩
 | int i =>
   obtain ⟨t,rfl⟩:=rx
   have e':k=(i != 0):=e
   subst e'
   exact PySem.P.truthy_int ⟨H,I,q⟩
 | str y =>
   obtain ⟨t,rfl⟩:=rx
   obtain ⟨hy,e'⟩:y.length≤sizeLine∧k=((y.length:Int) != 0):=e
   subst e'
   exact PySem.P.truthy_str (by omega) ⟨H,I.tok _,q⟩
 | byt y =>
   obtain ⟨t,rfl⟩:=rx
   obtain ⟨hy,e'⟩:y.size≤sizeLine∧k=((y.size:Int) != 0):=e
   subst e'
   exact PySem.W.truthy_bytes (by omega) ⟨H,I.tok _,q⟩
 | ref p =>
   cases rx
   have e':(∃ xs,SqL X.K H p xs∧k=!xs.isEmpty)∨(∃ xs,SqT X.K H p xs∧k=!xs.isEmpty)∨∃ kvs,H p=some (.dK kvs)∧k=!kvs.isEmpty:=e
   rcases e' with ⟨xs,hx,e'⟩ | ⟨xs,hx,e'⟩ | ⟨kvs,hx,e'⟩
   · subst e'
     obtain ⟨its,r,pl,hz⟩:=I.list hx
     have hlen:=r.length
     exact wpAny_truthy_list pl.isList (by simp only [List.size_toArray]; omega) ⟨H,I.tok _,by rw [ak6 r]; exact q⟩
   · subst e'
     obtain ⟨its,r,pl,hz⟩:=I.tuple hx
     have hlen:=r.length
     exact truthy_tuple pl (by simp only [List.size_toArray]; omega) ⟨H,I.tok _,by rw [ak6 r]; exact q⟩
   · subst e'
     obtain ⟨hz,hS,vs,r,m⟩:kvs.length≤sizeLine∧(p == sysModules)=false∧∃ vs,KV kvs vs∧s.heap.DictOf (a45 X.prog X.w) p vs:=I.hok p _ hx
     have hlen:kvs.length=vs.length:=Paired.length r
     exact wpAny_truthy_dict hS m (by omega) ⟨H,I.tok _,by rw [az5 r]; exact q⟩
 | _=>exact (show False from e).elim
theorem ba4 (ha:PE X a ta) (he:∀ whole,isTrue a X.env whole=(do let v←whole; standAt a.pos; holding [v] (truthy v))) :
 PT X a (fun σ H Q=>ta σ H fun x H'=>∃ k,TruV X.K x H' k∧Q k H'):=by
 intro pins s σ H Q I h
 exact isTrue_plain (thn (ha pins s σ H _ I h) (by rintro v s1 ⟨x,H1,I1,r1,q1⟩; exact br4 pins s1 σ H1 x v Q I1 r1 q1)) (he _)
theorem az6:OpR X (binaryOp .Add) (fun x y H Q=>∃ i j,x=.str i∧y=.str j∧i.length+j.length≤sizeLine∧Q (.str (i++j)) H):=by
 intro pins s σ H x y v u Q I rx ry h
 obtain ⟨i,j,rfl,rfl,hz,q⟩:=h
 obtain ⟨t,rfl⟩:=rx
 obtain ⟨t',rfl⟩:=ry
 exact add_str (fun t' tk=>⟨.str (i++j),H,I.tok _,⟨_,rfl⟩,q⟩) hz
theorem b26 {x:V}{us:List Value}(r:Vals [x] us):∃ u,us=[u]∧RelV x u:=by
 cases r with
 | cons r1 r2=>cases r2; exact ⟨_,rfl,r1⟩
theorem br5 {x y:V}{us:List Value}(r:Vals [x,y] us):∃ u w',us=[u,w']∧RelV x u∧RelV y w':=by
 cases r with
 | cons r1 r2 =>
   cases r2 with
   | cons r3 r4=>cases r4; exact ⟨_,_,rfl,r1,r3⟩
theorem ba5:CallR X (.builtin "abs") (fun xs H Q=>∃ i,xs=[.int i]∧Q (.int (if i<0 then -i else i)) H):=by
 intro pins s σ H xs us Q I r h
 obtain ⟨i,rfl,q⟩:=h
 obtain ⟨u,rfl,t,rfl⟩:=b26 r
 exact call_abs_int fun u tk=>⟨.int (if i<0 then -i else i),H,I.tok _,⟨_,rfl⟩,q⟩
def LenV (K:PySem.W.Frag) (x:V) (H:Hp) (n:Nat):Prop :=
 match x with
 | .str y=>y.length≤sizeLine∧n=y.length
 | .byt y=>y.size≤sizeLine∧n=y.size
 | .ref p=>(∃ xs,SqL K H p xs∧n=xs.length)∨∃ xs,SqT K H p xs∧n=xs.length
 | _=>False
theorem ba6:CallR X (.builtin "len") (fun xs H Q=>∃ x n,xs=[x]∧LenV X.K x H n∧Q (.int n) H):=by
 intro pins s σ H xs us Q I r h
 obtain ⟨x,n,rfl,e,q⟩:=h
 obtain ⟨u,rfl,rx⟩:=b26 r
 have hl:=ap2
 have hs:sizeLine=16777216:=sizeLine_eq
 cases x with
 | str y =>
   obtain ⟨t,rfl⟩:=rx
   obtain ⟨hy,e'⟩:y.length≤sizeLine∧n=y.length:=e
   subst e'
   exact len_str (by omega) ⟨.int _,H,I.tok _,⟨_,rfl⟩,q⟩
 | byt y =>
   obtain ⟨t,rfl⟩:=rx
   obtain ⟨hy,e'⟩:y.size≤sizeLine∧n=y.size:=e
   subst e'
   exact PySem.W.len_bytes (by omega) ⟨.int _,H,I.tok _,⟨_,rfl⟩,q⟩
 | ref p =>
   cases rx
   have e':(∃ xs,SqL X.K H p xs∧n=xs.length)∨∃ xs,SqT X.K H p xs∧n=xs.length:=e
   rcases e' with ⟨xs,hx,e'⟩ | ⟨xs,hx,e'⟩
   · subst e'
     obtain ⟨its,r',pl,hz⟩:=I.list hx
     have hlen:=r'.length
     exact Calls.call_len_list pl.isList (by simp only [List.size_toArray]; omega) ⟨.int xs.length,H,I.tok _,⟨_,by simp only [List.size_toArray]; rw [hlen]⟩,q⟩
   · subst e'
     obtain ⟨its,r',pl,hz⟩:=I.tuple hx
     have hlen:=r'.length
     exact len_tuple pl (by simp only [List.size_toArray]; omega) ⟨.int xs.length,H,I.tok _,⟨_,by simp only [List.size_toArray]; rw [hlen]⟩,q⟩
 | _=>exact (show False from e).elim
end
structure ObjM (h:Heap) (x dx C:Addr) (mA:Str→Option Value):Prop where
 obj:h.get? x=some (PySem.W.instObj C dx)
 ns:h.Ns1 dx mA
 ne:dx≠x
theorem b27 {h:Heap}{dx:Addr}{mA:Str→Option Value}(n:h.Ns1 dx mA):∃ od,h.get? dx=some od∧∀ name,PySem.W.lookIn name od=some (mA name):=by
 obtain ⟨o,es,ep,ho,hd,hk,_,hm⟩:=n
 refine ⟨o,ho,fun name=>?_⟩
 have e:=hm name
 unfold nsFind findBy at e
 rw [← Array.find?_toList] at e
 unfold PySem.W.lookIn
 rw [hd]
 dsimp only
 split
 · rename_i y q
   rw [q] at e
   exact congrArg some e
 · rename_i q
   rw [q] at e
   have a:es.toList.any (·.refKey)=false:=by
    rw [List.any_eq_false]
    intro y hy
    obtain ⟨z,t,hkey⟩:=hk y (Array.mem_toList_iff.mp hy)
    simp [DictEntry.refKey,hkey]
   have a':¬ es.toList.any (·.refKey)=true:=by rw [a]; exact Bool.false_ne_true
   rw [if_neg a']
   exact congrArg some e
theorem ObjM.look {h:Heap}{x dx C:Addr}{mA:Str→Option Value}(I:ObjM h x dx C mA):∃ od,PySem.W.InstAt h x (PySem.W.instObj C dx) C (some od)∧∀ name,PySem.W.lookIn name od=some (mA name) :=
 let ⟨od,ho,hl⟩:=b27 I.ns
 ⟨od,⟨I.obj,rfl,rfl,ho⟩,hl⟩
section
variable {prog:Program}{w:World}{A:Around}{E:Value→Shared→Prop}{s:Shared}{K:PySem.W.Frag}{x dx C f:Addr}{mA:Str→Option Value}{name:Str}{v:Value}
theorem bj3 {expr:Bool}{Q:Value→Shared→Prop}(X:K.In s.heap) (I:ObjM s.heap x dx C mA) (hg:PySem.W.plainGet K C name=true) (hh:PySem.W.hasDictIn K C=true)
 (ha:PySem.W.findIn K (.ref C) name=some none) (hv:mA name=some v) (hv':PySem.W.handedIn v=true) (h:Q v { s with toks:=s.toks+1 }) :
 wpAny (model prog w) A (getAttr (.ref x) name expr) Q E s:=by
 obtain ⟨od,J,hl⟩:=I.look
 exact PySem.W.get_value X J (PySem.W.plainGet_of hg).1 (PySem.W.findObj_own hh ha rfl (by rw [hl,hv])) hv' h
theorem ba7 {pl:Sem Bool}{Q:Value×List Value→Shared→Prop}(X:K.In s.heap) (I:ObjM s.heap x dx C mA) (hg:PySem.W.plainGet K C name=true)
 (hf:PySem.W.findIn K (.ref C) name=some (some (.ref f))) (ht:PySem.W.isFn K (.ref f)=true) (hv:mA name=none) (h:Q (.ref f,[.ref x]) s) :
 wpAny (model prog w) A (getMethod (.ref x) name pl) Q E s:=by
 obtain ⟨od,J,hl⟩:=I.look
 exact PySem.W.method_fn X J (PySem.W.plainGet_of hg).1 (PySem.W.plainGet_of hg).2 hf (beq_iff_eq.mp ht) (by show (PySem.W.lookIn name od).map (·.isSome)=some false; rw [hl,hv]; rfl) h
theorem bj4 {ns:List Str}{Q:Unit→Shared→Prop}(X:K.In s.heap) (I:ObjM s.heap x dx C mA)
 (hs:PySem.W.findIn K (.ref C) "__setattr__"=some (some (.builtin "object.__setattr__"))) (hp:PySem.W.plainOver K C=true) (ht:PySem.W.takerIn K C name=some none) (hh:PySem.W.hasDictIn K C=true)
 (hw:PySem.Within mA ns) (hsz:ns.length≤sizeLine)
 (h:∀ h',ObjM h' x dx C (fun y=>if y=name then some v else mA y)→Heap.SameBut dx s.heap h'→Q () { s with heap:=h',toks:=s.toks+2 }) :
 wpAny (model prog w) A (setAttr (.ref x) name v) Q E s:=by
 obtain ⟨od,J,hl⟩:=I.look
 refine PySem.W.set_plain X J hs (PySem.W.osa_open (s:={ s with toks:=s.toks+1 }) (r:=none) X J hp ht fun b=>?_)
 obtain ⟨cd,hc,hd'⟩:=PySem.W.any_some hh
 have hx:s.heap.get? x=some ⟨.ref C,some dx,.plain,#[]⟩:=I.obj
 refine wpAny_bind (wpAny_pure (wpAny_bind (wpAny_bind (wpAny_loadPart hx (wpAny_bind (PySem.W.Looks.here (s:={ s with toks:=s.toks+1 }) (PySem.W.looks_clsIn X hc) ?_))))))
 rw [hd']
 refine wpAny_pure (a:=some dx) (wpAny_bind (wpAny_pure (wpAny_bind ?_)))
 refine wpAny_nsSet1 (s:={ s with toks:=s.toks+1 }) I.ns fun h' hn2 hs2=>?_
 obtain ⟨oD,esD,epD,hoD,hdD,hcD⟩:=hn2.count (PySem.Within.cons name v hw)
 refine wpAny_bind (wpAny_lookBehind hoD (by rw [hdD]; exact pastItsLine_dict (Nat.le_trans hcD (by rw [List.length_cons]; omega))) ?_)
 exact wpAny_pure (h _ ⟨(hs2.2 _ (Ne.symm I.ne)).trans I.obj,hn2,I.ne⟩ hs2)
theorem ba8 {R:Result→Shared→Prop}{vs:List Value}{kw:List (Str×Value)}(X:K.In s.heap) (hm:PySem.W.makesIn K C=true)
 (hi:PySem.W.findIn K (.ref C) "__init__"=some (some (.ref f))) (hf:PySem.W.typeIn K (.ref f)=some (.type "function"))
 (h:codeAny (model prog w) (A.under (.builtin "type.__call__" ⟨.ref C::vs,kw⟩)) (.call (.ref f) ⟨.ref (s.heap.objs.size+1)::vs,kw⟩) (PySem.W.InitBack (s.heap.objs.size+1) R)
  { s with heap:=(s.heap.push PySem.W.emptyDict).push (PySem.W.instObj C s.heap.objs.size) }) :
 codeAny (model prog w) A (.call (.ref C) ⟨vs,kw⟩) R s:=by
 obtain ⟨hh,g,d,t,os⟩:=s
 exact PySem.W.make_core (PySem.W.makes_of X hm) (PySem.W.looks_findIn X hi) (fun self=>PySem.W.bind_fn X self hf) (.inl rfl) h
end
def putF (f:Str) (v:V):List (Str×V)→List (Str×V)
 | []=>[(f,v)]
 | (g,x)::r=>if g=f then (g,v)::r else (g,x)::putF f v r
theorem a34 (f g:Str) (v:V):∀ fs:List (Str×V),(putF f v fs).lookup g=if g=f then some v else fs.lookup g
 | []=>by
   show List.lookup g [(f,v)]=_
   by_cases h:g=f
   · have hb:(g == f)=true:=beq_iff_eq.mpr h
     simp only [List.lookup,hb,if_pos h]
   · have hb:(g == f)=false:=beq_eq_false_iff_ne.mpr h
     simp only [List.lookup,hb,if_neg h]
 | (k,x)::r=>by
   have ih:=a34 f g v r
   rw [show putF f v ((k,x)::r)=(if k=f then (k,v)::r else (k,x)::putF f v r) from rfl]
   by_cases hk:k=f
   · rw [if_pos hk]
     by_cases h:g=k
     · have hb:(g == k)=true:=beq_iff_eq.mpr h
       simp only [List.lookup,hb,if_pos (h.trans hk)]
     · have hb:(g == k)=false:=beq_eq_false_iff_ne.mpr h
       simp only [List.lookup,hb,if_neg (fun e:g=f=>h (e.trans hk.symm))]
   · rw [if_neg hk]
     by_cases h:g=k
     · have hb:(g == k)=true:=beq_iff_eq.mpr h
       simp only [List.lookup,hb,if_neg (fun e:g=f=>hk (h.symm.trans e))]
     · have hb:(g == k)=false:=beq_eq_false_iff_ne.mpr h
       simp only [List.lookup,hb]
       exact ih
theorem ai0 (f:Str) (v:V):∀ fs:List (Str×V),f∈(putF f v fs).map (·.1)∧∀ g,g∈fs.map (·.1)→g∈(putF f v fs).map (·.1)
 | []=>⟨by simp [putF],fun g h=>by simp at h⟩
 | (k,x)::r=>by
   obtain ⟨i1,i2⟩:=ai0 f v r
   rw [show putF f v ((k,x)::r)=(if k=f then (k,v)::r else (k,x)::putF f v r) from rfl]
   by_cases hk:k=f
   · rw [if_pos hk]
     subst hk
     exact ⟨by simp,fun g h=>by simpa using h⟩
   · rw [if_neg hk]
     refine ⟨?_,fun g h=>?_⟩
     · rw [List.map_cons]
       exact List.mem_cons_of_mem _ i1
     · rw [List.map_cons] at h ⊢
       rcases List.mem_cons.mp h with e | e
       · exact List.mem_cons.mpr (.inl e)
       · exact List.mem_cons_of_mem _ (i2 g e)
theorem a47 (f:Str) (v:V):∀ fs:List (Str×V),(putF f v fs).length≤fs.length+1
 | []=>by simp [putF]
 | (k,x)::r=>by
   have ih:=a47 f v r
   rw [show putF f v ((k,x)::r)=(if k=f then (k,v)::r else (k,x)::putF f v r) from rfl]
   by_cases hk:k=f
   · rw [if_pos hk,List.length_cons,List.length_cons]; omega
   · rw [if_neg hk,List.length_cons,List.length_cons]; omega
theorem RelO.some_of {v:V}{o:Option Value}(r:RelO (some v) o):∃ u,o=some u∧RelV v u:=by
 cases o with
 | none=>exact (show False from r).elim
 | some u=>exact ⟨u,rfl,r⟩
theorem RelO.none_of {o:Option Value}(r:RelO none o):o=none:=by
 cases o with
 | none=>rfl
 | some u=>exact (show False from r).elim
theorem b28 {v:V}{u:Value}(r:RelV v u):PySem.W.handedIn u=true:=by
 cases v with
 | non=>cases (show u=Value.none from r); rfl
 | bl b=>cases (show u=Value.bool b from r); rfl
 | int i=>obtain ⟨t,e⟩:=(show ∃ t,u=Value.int i t from r); cases e; rfl
 | str x=>obtain ⟨t,e⟩:=(show ∃ t,u=Value.str x t from r); cases e; rfl
 | byt b=>obtain ⟨t,e⟩:=(show ∃ t,u=Value.bytes b t from r); cases e; rfl
 | flt b=>obtain ⟨t,e⟩:=(show ∃ t,u=Value.float b t from r); cases e; rfl
 | ref a=>cases (show u=Value.ref a from r); rfl
 | ty n=>cases (show u=Value.type n from r); rfl
section
variable {P:Program}{w:World}{H H':Hp}{h h':Heap}{a C dx:Addr}{fs fs':List (Str×V)}
theorem am3 (hok:HOk P w H h) (e:H a=some (.ins C dx fs)):∃ mA,ObjM h a dx C mA∧(∀ f,RelO (fs.lookup f) (mA f))∧PySem.Within mA (fs.map (·.1))∧fs.length≤1000∧H dx=some (.own a):=by
 obtain ⟨d,z,ne,ob,mA,n,r,q⟩:=(show ObjOk P w H h a (.ins C dx fs) from hok a _ e)
 exact ⟨mA,⟨ob,n,ne⟩,r,q,z,d⟩
end
structure Cls (K:PySem.W.Frag) (C:Addr):Prop where
 pg:PySem.W.plainGet K C Str.empty=true
 hd:PySem.W.hasDictIn K C=true
 po:PySem.W.plainOver K C=true
 sa:PySem.W.findIn K (.ref C) "__setattr__"=some (some (.builtin "object.__setattr__"))
theorem Cls.get {K:PySem.W.Frag}{C:Addr}(c:Cls K C) (f:Str):PySem.W.plainGet K C f=true:=c.pg
def NoAttr (K:PySem.W.Frag) (C:Addr) (f:Str):Prop:=PySem.W.findIn K (.ref C) f=some none
theorem NoAttr.taker {K:PySem.W.Frag}{C:Addr}{f:Str}(n:NoAttr K C f):PySem.W.takerIn K C f=some none:=by
 unfold PySem.W.takerIn
 rw [show PySem.W.findIn K (.ref C) f=some none from n]
 rfl
structure Meth (K:PySem.W.Frag) (C:Addr) (m:Str) (f:Addr):Prop where
 at_:PySem.W.findIn K (.ref C) m=some (some (.ref f))
 fn:PySem.W.isFn K (.ref f)=true
 kp:PySem.W.keepIn K (.ref f)=true
section
variable {X:Cx}{pins:List (Addr×Obj)}{σ:St} {H:Hp}{s:Shared}{a C dx:Addr}{fs:List (Str×V)}{f:Str}{v:V}{A:Around}{E:Value→Shared→Prop}
theorem az7 {b:Bool}{Q:Value→Shared→Prop}(I:Inv X pins σ H s) (e:H a=some (.ins C dx fs)) (c:Cls X.K C) (n:NoAttr X.K C f) (l:fs.lookup f=some v)
 (h:∀ u s',Inv X pins σ H s'→RelV v u→Q u s'):wpAny (model X.prog X.w) A (getAttr (.ref a) f b) Q E s:=by
 obtain ⟨mA,O,r,_,_,_⟩:=am3 I.hok e
 obtain ⟨u,hu,ru⟩:=RelO.some_of (v:=v) (o:=mA f) (by rw [← l]; exact r f)
 exact bj3 I.kIn O (c.get f) c.hd n hu (b28 ru) (h u _ (I.tok _) ru)
theorem az8 {m:Str}{g:Addr}{pl:Sem Bool}{Q:Value×List Value→Shared→Prop}(I:Inv X pins σ H s) (e:H a=some (.ins C dx fs)) (c:Cls X.K C) (k:Meth X.K C m g) (l:fs.lookup m=none)
 (h:Q (.ref g,[.ref a]) s):wpAny (model X.prog X.w) A (getMethod (.ref a) m pl) Q E s:=by
 obtain ⟨mA,O,r,_,_,_⟩:=am3 I.hok e
 have hn:mA m=none:=RelO.none_of (by rw [← l]; exact r m)
 exact ba7 I.kIn O (c.get m) k.at_ k.fn hn h
theorem az9 {y:V}{u:Value}{Q:Unit→Shared→Prop}(I:Inv X pins σ H s) (e:H a=some (.ins C dx fs)) (c:Cls X.K C) (n:NoAttr X.K C f) (hl:fs.length<1000) (ry:RelV y u)
 (h:∀ s',Inv X pins σ (upd H a (.ins C dx (putF f y fs))) s'→Q () s'):wpAny (model X.prog X.w) A (setAttr (.ref a) f u) Q E s:=by
 obtain ⟨mA,O,r,wi,_,ho⟩:=am3 I.hok e
 have hz:(fs.map (·.1)).length≤sizeLine:=by rw [List.length_map,sizeLine_eq]; omega
 refine bj4 I.kIn O c.sa c.po n.taker c.hd wi hz fun h' O' sb=>h _ ?_
 have hd:∃ o,h'.get? dx=some o:=let ⟨o,_,_,e',_⟩:=O'.ns; ⟨o,e'⟩
 refine I.write (x:=a) (e:=dx) (by rw [e]; exact True.intro) (.inr ho) (fun b q hb z=>(sb.2 b hb).trans z) hd ?_
 refine ⟨by rw [a11 O.ne]; exact ho,?_,O.ne,O'.obj,_,O'.ns,fun g=>?_,fun g hg=>?_⟩
 · have:=a47 f y fs; omega
 · show RelO ((putF f y fs).lookup g) (if g=f then some u else mA g)
   rw [a34]
   by_cases q:g=f
   · rw [if_pos q,if_pos q]; exact ry
   · rw [if_neg q,if_neg q]; exact r g
 · by_cases q:g=f
   · rw [q]; exact (ai0 f y fs).1
   · refine (ai0 f y fs).2 g (wi g fun z=>hg ?_)
     show (if g=f then some u else mA g)=none
     rw [if_neg q]; exact z
theorem Inv.made (I:Inv X pins σ H s):Inv X pins σ (upd (upd H s.heap.objs.size (.own (s.heap.objs.size+1))) (s.heap.objs.size+1) (.ins C s.heap.objs.size []))
 { s with heap:=(s.heap.push PySem.W.emptyDict).push (PySem.W.instObj C s.heap.objs.size) }:=by
 have e1:(s.heap.push PySem.W.emptyDict).get? s.heap.objs.size=some PySem.W.emptyDict:=Heap.get?_push_size s.heap rfl
 have e2:((s.heap.push PySem.W.emptyDict).push (PySem.W.instObj C s.heap.objs.size)).get? (s.heap.objs.size+1)=some (PySem.W.instObj C s.heap.objs.size):=by
  have:=Heap.get?_push_size (s.heap.push PySem.W.emptyDict) (o:=PySem.W.instObj C s.heap.objs.size) rfl
  rwa [Heap.size_push] at this
 have e3:(s.heap.push PySem.W.emptyDict).Ns s.heap.objs.size (fun _=>none):=⟨PySem.W.emptyDict,#[],_,e1,rfl,(fun e he=>absurd he (by simp)),fun _=>rfl⟩
 have I1:=I.laid (a:=s.heap.objs.size) (o:=.own (s.heap.objs.size+1)) (h':=s.heap.push PySem.W.emptyDict) (t':=s.toks) (fun b u q=>Heap.get?_push_of_some _ q) (Nat.le_refl _) ⟨_,e1⟩
 refine I1.laid (a:=s.heap.objs.size+1) (o:=.ins C s.heap.objs.size []) (t':=s.toks) (fun b u q=>Heap.get?_push_of_some _ q) (Nat.le_of_eq (Heap.size_push _ _)) ?_
 have ne:s.heap.objs.size≠s.heap.objs.size+1:=Nat.ne_of_lt (Nat.lt_succ_self _)
 refine ⟨by rw [a11 ne,a14],Nat.zero_le _,ne,e2,fun _=>none,(Heap.Ns1.of_empty e3).at fun o q=>Heap.get?_push_of_some _ q,fun _=>True.intro,fun y hy=>absurd rfl hy⟩
theorem bj5 {prog:Program}{w:World}{env:Env}{e:Expr}{f:Str}{pos:Pos}{s:Shared}{Q:Value→Shared→Prop}(hb:attributeBase e f env (eval e env)=eval e env)
 (h:wpAny (model prog w) A (eval e env) (fun o s₁=>wpAny (model prog w) A (getAttr o f true) Q E s₁) E s):wpAny (model prog w) A (eval (.Attribute e f pos) env) Q E s :=
 Attribute_any_ h (by rw [arm_eval_Attribute,hb])
end
def tFld (K:PySem.W.Frag) (ta:TE) (f:Str):TE:=fun σ H Q=>ta σ H fun x H1=>∃ a C dx fs v,x=.ref a∧H1 a=some (.ins C dx fs)∧Cls K C∧NoAttr K C f∧fs.lookup f=some v∧Q v H1
def sFld (K:PySem.W.Frag) (ta tv:TE) (f:Str):TS:=fun D σ H=>tv σ H fun y H1=>ta σ H1 fun x H2=>∃ a C dx fs,x=.ref a∧H2 a=some (.ins C dx fs)∧Cls K C∧NoAttr K C f∧fs.length<1000 ∧
 D.nx σ (upd H2 a (.ins C dx (putF f y fs)))
section
variable {X:Cx}{o e value:Expr}{f:Str}{pos pos' tpos:Pos}{ta tv:TE}
theorem br6 (he:PE X e ta) (hb:attributeBase e f X.env (eval e X.env)=eval e X.env):PE X (.Attribute e f pos) (tFld X.K ta f):=by
 intro pins s σ H Q I h
 refine bj5 hb (thn (he pins s σ H _ I h) ?_)
 rintro u s1 ⟨x,H1,I1,rx,a,C,dx,fs,v,ex,ea,c,n,l,q⟩
 subst ex
 obtain rfl:u=Value.ref a:=rx
 exact az7 I1 ea c n l fun u' s2 I2 ru=>⟨v,H1,I2,ru,q⟩
theorem br7 (ha:PE X o ta) (hv:PE X value tv) (hs:swapsWith value (some (.Attribute o f pos')) pos.line X.env=pure false):PS X (.Assign [.Attribute o f pos'] value pos) (sFld X.K ta tv f):=by
 intro pins s σ H D I h
 refine plainObj_wpAny_Assign_Attribute (thn (hv pins s σ H _ I h) ?_) hs
 rintro u s1 ⟨y,H1,I1,ry,q⟩
 refine thn (ha pins s1 σ H1 _ I1 q) ?_
 rintro ov s2 ⟨x,H2,I2,rx,a,C,dx,fs,ex,ea,c,n,l,q2⟩
 subst ex
 obtain rfl:ov=Value.ref a:=rx
 exact az9 I2 ea c n l ry fun s3 I3=>⟨σ,_,I3,q2⟩
end
section
variable {X:Cx}{pins:List (Addr×Obj)}{σ:St} {H:Hp}{s:Shared}{A:Around}{E:Value→Shared→Prop}{Q:Value→Shared→Prop}{c:Value}{b:Bool}
inductive TyOf (K:PySem.W.Frag) (H:Hp):V→Value→Prop where
 | non:TyOf K H .non (.type "NoneType")
 | bl (x:Bool):TyOf K H (.bl x) (.type "bool")
 | int (i:Int):TyOf K H (.int i) (.type "int")
 | str (x:Str):TyOf K H (.str x) (.type "str")
 | flt (x:UInt64):TyOf K H (.flt x) (.type "float")
 | lst {a:Addr}{xs:List V}(e:H a=some (.lst xs)):TyOf K H (.ref a) (.type "list")
 | frz {a:Addr}{o:Obj}{xs:List V}(e:H a=some (.frz o (.lst xs))):TyOf K H (.ref a) (.type "list")
 | tup {a:Addr}{xs:List V}(e:H a=some (.tup xs)):TyOf K H (.ref a) (.type "tuple")
 | dK {a:Addr}{kvs:List (Key×V)}(e:H a=some (.dK kvs)):TyOf K H (.ref a) (.type "dict")
 | dT {a:Addr}{kvs:List (List Key×V)}(e:H a=some (.dT kvs)):TyOf K H (.ref a) (.type "dict")
 | ins {a C dx:Addr}{fs:List (Str×V)}(e:H a=some (.ins C dx fs)) (cl:Cls K C) (ha:PySem.W.findIn K (.ref C) "__class__"=some (some (.builtin "object.__class__")))
  (hn:PySem.W.specialIn K (.builtin "object.__class__") "__get__"=some (some (.builtin "getset_descriptor.__get__"))) (htk:PySem.W.takesIn K (.builtin "object.__class__")=some true)
  (hm:PySem.W.mroIn K C (.type "object")=some true):TyOf K H (.ref a) (.ref C)
theorem b29 {x:V}{u t:Value}(I:Inv X pins σ H s) (rx:RelV x u) (ty:TyOf X.K H x t) (e:PySem.W.kitOne X.K t c=some b) (h:∀ tk,Q (.bool b) { s with toks:=tk }) :
 wpAny (model X.prog X.w) A (call (.builtin "isinstance") [u,c]) Q E s:=by
 cases ty with
 | non=>cases (show u=Value.none from rx); exact PySem.W.kia_one PySem.W.kitx_none I.kIn True.intro e (fun z=>nomatch z) h
 | bl y=>cases (show u=Value.bool y from rx); exact PySem.W.kia_one PySem.W.kitx_bool I.kIn True.intro e (fun z=>nomatch z) h
 | int i=>obtain ⟨t,q⟩:=(show ∃ t,u=Value.int i t from rx); cases q; exact PySem.W.kia_one PySem.W.kitx_int I.kIn True.intro e (fun z=>nomatch z) h
 | str y=>obtain ⟨t,q⟩:=(show ∃ t,u=Value.str y t from rx); cases q; exact PySem.W.kia_one PySem.W.kitx_str I.kIn True.intro e (fun z=>nomatch z) h
 | flt y=>obtain ⟨t,q⟩:=(show ∃ t,u=Value.float y t from rx); cases q; exact PySem.W.kia_one PySem.W.kitx_float I.kIn True.intro e (fun z=>nomatch z) h
 | @lst a xs ea =>
   cases (show u=Value.ref a from rx)
   obtain ⟨_,_,n,_,h1⟩:=(show ObjOk X.prog X.w H s.heap a (.lst xs) from I.hok a _ ea)
   exact PySem.W.kia_one PySem.W.kitx_list I.kIn ⟨_,h1,rfl⟩ e (fun z=>nomatch z) h
 | @frz a ob xs ea =>
   cases (show u=Value.ref a from rx)
   obtain ⟨_,_,_,n,_,h1⟩:=(show ObjOk X.prog X.w H s.heap a (.frz ob (.lst xs)) from I.hok a _ ea)
   exact PySem.W.kia_one PySem.W.kitx_list I.kIn ⟨_,h1,rfl⟩ e (fun z=>nomatch z) h
 | @tup a xs ea =>
   cases (show u=Value.ref a from rx)
   obtain ⟨_,_,_,p⟩:=(show ObjOk X.prog X.w H s.heap a (.tup xs) from I.hok a _ ea)
   obtain ⟨o,h1,h2,_⟩:=p
   exact PySem.W.kia_one PySem.W.kitx_tuple I.kIn ⟨o,h1,h2⟩ e (fun z=>nomatch z) h
 | @dK a kvs ea =>
   cases (show u=Value.ref a from rx)
   obtain ⟨_,_,vs,_,p⟩:=(show ObjOk X.prog X.w H s.heap a (.dK kvs) from I.hok a _ ea)
   obtain ⟨o,es,ep,h1,h2,_⟩:=p
   exact PySem.W.kia_one PySem.W.kitx_dict I.kIn ⟨o,h1,h2.1⟩ e (fun z=>nomatch z) h
 | @dT a kvs ea =>
   cases (show u=Value.ref a from rx)
   obtain ⟨_,_,xs,_,o,es,ep,h1,h2,_⟩:=(show ObjOk X.prog X.w H s.heap a (.dT kvs) from I.hok a _ ea)
   exact PySem.W.kia_one PySem.W.kitx_dict I.kIn ⟨o,h1,h2.1⟩ e (fun z=>nomatch z) h
 | @ins a C dx fs ea cl ha hn htk hm =>
   cases (show u=Value.ref a from rx)
   obtain ⟨mA,O,_⟩:=am3 I.hok ea
   obtain ⟨od,J,_⟩:=O.look
   exact PySem.W.kia_one (PySem.W.kitx_own (cl.get _) cl.hd ha hn htk hm) I.kIn J e (fun z=>nomatch z) h
end
structure Room (k:Nat) (A:Around):Prop where
 hd:A.handled=none
 dp:A.depth+3*k+5<recursionLimit
 un:A.units+16*k+200<cLine
theorem Room.mono {j k:Nat}{A:Around}(r:Room k A) (h:j≤k):Room j A:=⟨r.hd,by have:=r.dp; omega,by have:=r.un; omega⟩
theorem Room.deeper {k:Nat}{A:Around}(r:Room (k+1) A) (env:Env):Room k (A.deeper env) :=
 ⟨r.hd,by have:=r.dp; show A.depth+1+3*k+5<_; omega,by have:=r.un; show A.units+3+16*k+200<_; omega⟩
theorem b00 {A:Around}{C:Addr}{us:List Value}{kw:List (Str×Value)}:(A.under (.builtin "type.__call__" ⟨.ref C::us,kw⟩)).depth=A.depth+1:=by
 first | rfl | simp [Around.under,Code.weight,Code.isCreation,Code.isGuard,Code.isCaller,Code.frames,Code.isFrame,guardIds]
theorem b01 {A:Around}{C:Addr}{us:List Value}{kw:List (Str×Value)}:(A.under (.builtin "type.__call__" ⟨.ref C::us,kw⟩)).units=A.units+1:=by
 first | rfl | simp [Around.under,Code.cUnits,Code.frames,Code.isFrame]
theorem Room.make {k:Nat}{A:Around}(r:Room (k+1) A) (C:Addr) (us:List Value) (kw:List (Str×Value)):Room k (A.under (.builtin "type.__call__" ⟨.ref C::us,kw⟩)) :=
 ⟨r.hd,by have:=r.dp; rw [b00]; omega,by have:=r.un; rw [b01]; omega⟩
theorem Room.depth {k:Nat}{A:Around}(r:Room k A):A.depth<recursionLimit:=by have:=r.dp; omega
theorem Room.units {k:Nat}{A:Around}(r:Room k A):A.units+64<cLine:=by have:=r.un; omega
def tNil:TA:=fun _ H Q=>Q [] H
def tCons (ta:TE) (tr:TA):TA:=fun σ H Q=>ta σ H fun x H1=>tr σ H1 fun xs H2=>Q (x::xs) H2
section
variable {X:Cx}{e:Expr}{es:List Expr}{te:TE}{t:TA}{pos:Pos}
theorem a01:PA X [] tNil:=fun _ _ _ _ H Q I h=>Calls.spliced_nil ⟨[],H,I,.nil,h⟩
theorem a00 (ha:PE X e te) (hr:PA X es t) (hs:starEach (e::es) X.env=(false,eval e X.env)::starEach es X.env:=by rfl):PA X (e::es) (tCons te t):=by
 intro pos pins s σ H Q I h
 rw [hs]
 show wpAny _ _ (spliced ((false,eval e X.env)::backTo pos (starEach es X.env))) _ _ s
 refine Calls.spliced_cons (thn (ha pins s σ H _ I h) ?_)
 rintro u s1 ⟨x,H1,I1,r1,q1⟩
 exact thn (hr pos pins s1 σ H1 _ I1 q1) (by rintro us s2 ⟨xs,H2,I2,r2,q2⟩; exact ⟨x::xs,H2,I2,.cons r1 r2,q2⟩)
end
abbrev Sp:=List V→Hp→VK→XK→Prop
abbrev CXT:=List Env→Hp→Shared→XK→Value→Shared→Prop
structure Env0 (P:Program) (w:World) (K:PySem.W.Frag) (mg:Str→Option Value) (base:Heap) (A:Around) (outer:List Env) (s:Shared) (H:Hp):Prop where
 frames:A.frames=some outer
 mod:Mod K mg base
 bs:∀ b o,base.get? b=some o→s.heap.get? b=some o∧H b=none
 bsz:base.objs.size≤s.heap.objs.size
 funs:s.heap.FunFrames base outer
 frf:∀ b∈frs outer,H b=none
 hok:HOk P w H s.heap
 bare:AllBare s.gens
def CE (outer:List Env) (P:Program) (w:World) (H:Hp) (s:Shared) (Q:VK) (u:Value) (s':Shared):Prop :=
 ∃ v H',s'.os=s.os∧AllBare s'.gens∧Un (frs outer) [] H H' s.heap s'.heap∧HOk P w H' s'.heap∧RelV v u∧Q v H'
def CR (CX:CXT) (outer:List Env) (P:Program) (w:World) (H:Hp) (s:Shared) (Q:VK) (E:XK) (r:Result) (s':Shared):Prop :=
 match r with
 | .ok (.ret u)=>CE outer P w H s Q u s'
 | .ok _=>False
 | .error e=>CX outer H s E e s'
structure FnOk (P:Program) (w:World) (K:PySem.W.Frag) (mg:Str→Option Value) (base:Heap) (CX:CXT) (k:Nat) (f:Addr) (fd:FuncData) (ps:List Str) (sp:Sp):Prop where
 len:∀ vs H Q E,sp vs H Q E→vs.length=ps.length
 run:∀ (A:Around) (outer:List Env) (s:Shared) (H:Hp) (args:Args) (us:List Value) (vs:List V) (Q:VK) (E:XK),Room k A→Env0 P w K mg base A outer s H→BindsTo s fd args (ps.zip us)→Vals vs us→sp vs H Q E →
  codeAny (model P w) A (.call (.ref f) args) (CR CX outer P w H s Q E) s
theorem Env0.make {P:Program}{w:World}{K:PySem.W.Frag}{mg:Str→Option Value}{base:Heap}{A:Around}{outer:List Env}{s:Shared}{H:Hp}(e:Env0 P w K mg base A outer s H) (C:Addr) (us:List Value) (kw:List (Str×Value)) :
 Env0 P w K mg base (A.under (.builtin "type.__call__" ⟨.ref C::us,kw⟩)) outer s H:=⟨by first | exact e.frames | (simpa [Around.under,Code.envs,Code.isFrame,pushEnvs] using e.frames),e.mod,e.bs,e.bsz,e.funs,e.frf,e.hok,e.bare⟩
section
variable {X:Cx}{pins:List (Addr×Obj)}{σ:St} {H:Hp}{s s':Shared}
theorem Inv.env0 (I:Inv X pins σ H s):Env0 X.prog X.w X.K X.mg X.base X.A X.stack s H :=
 ⟨I.ok.frames,I.ok.mod,I.bs,Nat.le_trans I.ok.bsz I.sz,I.stack,I.stkFree,I.hok,I.bare⟩
theorem Inv.after {Q:VK}{u:Value}(I:Inv X pins σ H s) (h:CE X.stack X.prog X.w H s Q u s'):EP X pins σ Q u s':=by
 obtain ⟨v,H',os,bare,un,hok,r,q⟩:=h
 obtain ⟨hh,g,d,t,os'⟩:=s'
 obtain rfl:os'=s.os:=os
 exact ⟨v,H',I.call (h':=hh) (g':=g) (d':=d) (t':=t) (ch:=[]) un hok bare (fun b z=>absurd z (by simp)),r,q⟩
end
def br8 (sp:Sp) (dvs:List V) (E:XK) (t:TA):TE:=fun σ H Q=>t σ H fun vs H1=>sp (vs++dvs) H1 Q E
def br9 (C:Addr) (m:Str) (sp:Sp) (dvs:List V) (E:XK) (ta:TE) (t:TA):TE:=fun σ H Q=>ta σ H fun x H1=>∃ a dx fs,x=.ref a∧H1 a=some (.ins C dx fs)∧fs.lookup m=none ∧
 t σ H1 fun vs H2=>sp (x::(vs++dvs)) H2 Q E
def bs0 (C:Addr) (sp:Sp) (dvs:List V) (E:XK) (t:TA):TE:=fun σ H Q=>t σ H fun vs H1=>∀ x dx,H1 x=none→H1 dx=none→dx≠x →
 sp (.ref x::(vs++dvs)) (upd (upd H1 dx (.own x)) x (.ins C dx [])) (fun v H2=>v=.non∧Q (.ref x) H2) E
def Binds (K:PySem.W.Frag) (fd:FuncData) (ps:List Str) (ds:List Value):Prop :=
 ∀ (s:Shared) (us:List Value),K.In s.heap→(us++ds).length=ps.length→BindsTo s fd ⟨us,[]⟩ (ps.zip (us++ds))
theorem Binds.all {K:PySem.W.Frag}{fd:FuncData}{ps:List Str}(h:∀ us:List Value,us.length=ps.length→bindArgs fd ⟨us,[]⟩=pure (ps.zip us)):Binds K fd ps []:=fun s us _ hl=>by
 rw [List.append_nil] at hl ⊢
 exact .of_eq (h us hl)
def ak7 (CX:CXT) (X:Cx) (E:XK):Prop:=∀ (pins:List (Addr×Obj)) (σ:St) (H:Hp) (s:Shared) (e:Value) (s':Shared),Inv X pins σ H s→CX X.stack H s E e s'→X.xe e s'
section
variable {X:Cx}{CX:CXT}{k:Nat}{f C:Addr}{fd:FuncData}{ps:List Str}{sp:Sp}{dvs:List V}{ds:List Value}{E:XK}{x m:Str}{p pos apos:Pos}{e o:Expr}{es:List Expr}{ta:TE}{t:TA}
theorem bf5 {pins:List (Addr×Obj)}{σ:St} {H:Hp}{s:Shared}{Q:VK}{us:List Value}{vs:List V}(F:FnOk X.prog X.w X.K X.mg X.base CX k f fd ps sp) (hr:Room k X.A) (hb:Binds X.K fd ps ds) (hd:Vals dvs ds) (hx:ak7 CX X E)
 (I:Inv X pins σ H s) (r:Vals vs us) (h:sp (vs++dvs) H Q E):wpAny (model X.prog X.w) X.A (call (.ref f) us) (EP X pins σ Q) X.xe s:=by
 have r2:Vals (vs++dvs) (us++ds):=r.append hd
 have hl:(us++ds).length=ps.length:=by rw [← r2.length]; exact F.len _ _ _ _ h
 refine wpAny_call (codeAny_mono (F.run X.A X.stack s H ⟨us,[]⟩ (us++ds) (vs++dvs) Q E hr I.env0 (hb s us I.kIn hl) r2 h) fun r s' hq=>?_)
 cases r with
 | error e=>exact hx pins σ H s e s' I hq
 | ok fl =>
   cases fl with
   | ret u=>exact I.after hq
   | next=>exact False.elim hq
   | brk=>exact False.elim hq
   | cont=>exact False.elim hq
theorem a09 (F:FnOk X.prog X.w X.K X.mg X.base CX k f fd ps sp) (hr:Room k X.A) (hg:Gl X x) (hm:X.mg x=some (.ref f)) (hk:PySem.W.keepIn X.K (.ref f)=true) (hb:Binds X.K fd ps ds) (hd:Vals dvs ds) (hx:ak7 CX X E)
 (ha:PA X (e::es) t) (hdb:(x == ("__debug__":Str))=false:=by decide) (he:starEach (e::es) X.env=(false,eval e X.env)::starEach es X.env:=by rfl) (hpl:(backTo pos (starEach es X.env)).any (·.1)=false:=by rfl) :
 PE X (.Call (.Name x p) (e::es) [] pos) (br8 sp dvs E t):=by
 intro pins s σ H Q I h
 refine wpAny_Call_Name_kw (at3 I hg hm ?_ hdb)
 refine PySem.W.callWith_K (h₀:=X.base) I.ok.mod.kin hk (thn (ha pos pins s σ H _ I h) ?_) he hpl
 rintro us s1 ⟨vs,H1,I1,r,q⟩
 refine ⟨I1.kIn,?_⟩
 exact bf5 F hr hb hd hx I1 r q
theorem a72 {pl:Sem Bool}(he:PE X o ta) (c:Cls X.K C) (hm:Meth X.K C m f) (F:FnOk X.prog X.w X.K X.mg X.base CX k f fd ps sp) (hr:Room k X.A) (hb:Binds X.K fd ps ds) (hd:Vals dvs ds) (hx:ak7 CX X E) (ha:PA X (e::es) t)
 (hst:starEach (e::es) X.env=(false,eval e X.env)::starEach es X.env:=by rfl) (hpl:(backTo pos (starEach es X.env)).any (·.1)=false:=by rfl)
 (ht:eval (.Call (.Attribute o m apos) (e::es) [] pos) X.env=(do
  let ov←eval o X.env
  standAt apos.atName
  let (f,first)←holding [ov] (getMethod ov m pl)
  callWith pos f first (backTo pos (starEach (e::es) X.env)) (backToKw pos (keywordEach [] X.env))):=by rfl) :
 PE X (.Call (.Attribute o m apos) (e::es) [] pos) (br9 C m sp dvs E ta t):=by
 intro pins s σ H Q I h
 refine PySem.W.methodCall_KW (pl:=pl) (thn (he pins s σ H _ I h) ?_) ht
 rintro u s1 ⟨x,H1,I1,rx,a,dx,fs,ex,ea,l,q⟩
 subst ex
 obtain rfl:u=Value.ref a:=rx
 refine az8 I1 ea c hm l ?_
 refine PySem.W.callWith_K (first:=[.ref a]) (h₀:=X.base) I.ok.mod.kin hm.kp (thn (ha pos pins s1 σ H1 _ I1 q) ?_) hst hpl
 rintro us s2 ⟨vs,H2,I2,r,q2⟩
 refine ⟨I2.kIn,?_⟩
 exact bf5 (us:=.ref a::us) (vs:=.ref a::vs) F hr hb hd hx I2 (.cons rfl r) q2
structure Mk (K:PySem.W.Frag) (C f:Addr):Prop where
 makes:PySem.W.makesIn K C=true
 init:PySem.W.findIn K (.ref C) "__init__"=some (some (.ref f))
 fn:PySem.W.isFn K (.ref f)=true
 kp:PySem.W.keepIn K (.ref C)=true
theorem ba9 {pins:List (Addr×Obj)}{σ:St} {H:Hp}{s:Shared}{Q:VK}{us:List Value}{vs:List V}(M:Mk X.K C f) (F:FnOk X.prog X.w X.K X.mg X.base CX k f fd ps sp) (hr:Room (k+1) X.A) (hb:Binds X.K fd ps ds) (hd:Vals dvs ds)
 (hx:ak7 CX X E) (I:Inv X pins σ H s) (r:Vals vs us)
 (h:∀ x dx,H x=none→H dx=none→dx≠x→sp (.ref x::(vs++dvs)) (upd (upd H dx (.own x)) x (.ins C dx [])) (fun v H2=>v=.non∧Q (.ref x) H2) E) :
 wpAny (model X.prog X.w) X.A (call (.ref C) us) (EP X pins σ Q) X.xe s:=by
 have hq:=h (s.heap.objs.size+1) s.heap.objs.size (I.hok.fresh (Nat.le_succ _)) (I.hok.fresh (Nat.le_refl _)) (Nat.ne_of_lt (Nat.lt_succ_self _))
 have I2:=Inv.made (C:=C) I
 have r2:Vals (V.ref (s.heap.objs.size+1)::(vs++dvs)) (Value.ref (s.heap.objs.size+1)::(us++ds)):=.cons rfl (r.append hd)
 have hl:(Value.ref (s.heap.objs.size+1)::us++ds).length=ps.length:=by
  have e:=r2.length
  rw [F.len _ _ _ _ hq] at e
  exact e.symm
 refine wpAny_call (ba8 (f:=f) I.kIn M.makes M.init (beq_iff_eq.mp M.fn) (codeAny_mono (F.run _ X.stack _ _ ⟨Value.ref (s.heap.objs.size+1)::us,[]⟩ (Value.ref (s.heap.objs.size+1)::(us++ds)) _ _ E (hr.make C us [])
  (I2.env0.make C us []) (hb _ (Value.ref (s.heap.objs.size+1)::us) I2.kIn hl) r2 hq) fun r s' hq'=>?_))
 cases r with
 | error e=>exact hx pins σ _ _ e s' I2 hq'
 | ok fl =>
   cases fl with
   | ret u =>
     obtain ⟨v,H',I3,rv,ev,q3⟩:=I2.after hq'
     subst ev
     exact ⟨rv,⟨V.ref (s.heap.objs.size+1),H',I3,rfl,q3⟩⟩
   | next=>exact False.elim hq'
   | brk=>exact False.elim hq'
   | cont=>exact False.elim hq'
theorem bj6 (M:Mk X.K C f) (F:FnOk X.prog X.w X.K X.mg X.base CX k f fd ps sp) (hr:Room (k+1) X.A) (hg:Gl X x) (hm:X.mg x=some (.ref C)) (hb:Binds X.K fd ps ds) (hd:Vals dvs ds) (hx:ak7 CX X E)
 (ha:PA X (e::es) t) (hdb:(x == ("__debug__":Str))=false:=by decide) (he:starEach (e::es) X.env=(false,eval e X.env)::starEach es X.env:=by rfl) (hpl:(backTo pos (starEach es X.env)).any (·.1)=false:=by rfl) :
 PE X (.Call (.Name x p) (e::es) [] pos) (bs0 C sp dvs E t):=by
 intro pins s σ H Q I h
 refine wpAny_Call_Name_kw (at3 I hg hm ?_ hdb)
 refine PySem.W.callWith_K (h₀:=X.base) I.ok.mod.kin M.kp (thn (ha pos pins s σ H _ I h) ?_) he hpl
 rintro us s1 ⟨vs,H1,I1,r,q⟩
 refine ⟨I1.kIn,?_⟩
 exact ba9 M F hr hb hd hx I1 r q
end
section
variable {X:Cx}{CX:CXT}{k:Nat}{f C:Addr}{fd:FuncData}{ps ks:List Str}{sp:Sp}{E:XK}{x m:Str}{p pos apos kpos:Pos}{e o:Expr}{es:List Expr}{kws:List Keyword}{te ta:TE}{t tk:TA}{nm:Option Str}
variable {g:List Value→List Value→List Value}{gV:List V→List V→List V}
end
structure FnScope (N P:List Str) (sc:Scope):Prop where
 kind:sc.kind=.function
 co:sc.isCoroutine=false
 gen:sc.isGenerator=false
 nd:N.Nodup
 pre:N.take P.length=P
 par:∀ x∈P,sc.names.lookup x=some .local∨sc.names.lookup x=some .cell
 nofree:∀ y∈sc.names,y.2≠.free
theorem ap3 {kindOf:Str→Option NameKind}{x:Str}:∀ {binds:List (Str×Value)}{m:Str→Option Value},(∀ v,(x,v)∉binds)→bindL kindOf binds m x=m x
 | [],_,_=>rfl
 | (n,v)::r,m,h=>by
   unfold bindL
   rw [ap3 fun w hw=>h w (List.mem_cons_of_mem _ hw)]
   split
   · have:x≠n:=by rintro rfl; exact h v List.mem_cons_self
     simp [this]
   · rfl
theorem ap4 {kindOf:Str→Option NameKind}{x:Str}:∀ {binds:List (Str×Value)}{m:Str→Option Value},(∀ v,(x,v)∉binds)→bindC kindOf binds m x=m x
 | [],_,_=>rfl
 | (n,v)::r,m,h=>by
   unfold bindC
   rw [ap4 fun w hw=>h w (List.mem_cons_of_mem _ hw)]
   split
   · rfl
   · have:x≠n:=by rintro rfl; exact h v List.mem_cons_self
     simp [this]
theorem ap5 {kindOf:Str→Option NameKind}{x:Str}{v:Value}:∀ {P:List Str}{vs:List Value}{i:Nat}{m:Str→Option Value},P.Nodup→P[i]?=some x→vs[i]?=some v→kindOf x=some .local →
 bindL kindOf (P.zip vs) m x=some v
 | [],_,_,_,_,h,_,_=>by simp at h
 | _::_,[],_,_,_,_,h,_=>by simp at h
 | p::P,w::vs,0,m,nd,h1,h2,hk=>by
   simp at h1 h2; subst h1; subst h2
   show bindL kindOf ((p,w)::P.zip vs) m p=_
   unfold bindL
   rw [ap3 fun v hv=>(List.nodup_cons.mp nd).1 (List.of_mem_zip hv).1,if_pos hk]
   simp
 | p::P,w::vs,i+1,m,nd,h1,h2,hk=>by
   show bindL kindOf ((p,w)::P.zip vs) m x=_
   unfold bindL
   exact ap5 (i:=i) (List.nodup_cons.mp nd).2 (by simpa using h1) (by simpa using h2) hk
theorem ap6 {kindOf:Str→Option NameKind}{x:Str}{v:Value}:∀ {P:List Str}{vs:List Value}{i:Nat}{m:Str→Option Value},P.Nodup→P[i]?=some x→vs[i]?=some v→kindOf x≠some .local →
 bindC kindOf (P.zip vs) m x=some v
 | [],_,_,_,_,h,_,_=>by simp at h
 | _::_,[],_,_,_,_,h,_=>by simp at h
 | p::P,w::vs,0,m,nd,h1,h2,hk=>by
   simp at h1 h2; subst h1; subst h2
   show bindC kindOf ((p,w)::P.zip vs) m p=_
   unfold bindC
   rw [ap4 fun v hv=>(List.nodup_cons.mp nd).1 (List.of_mem_zip hv).1,if_neg hk]
   simp
 | p::P,w::vs,i+1,m,nd,h1,h2,hk=>by
   show bindC kindOf ((p,w)::P.zip vs) m x=_
   unfold bindC
   exact ap6 (i:=i) (List.nodup_cons.mp nd).2 (by simpa using h1) (by simpa using h2) hk
def start (N:List Str) (vs:List V):St:=vs.map some++List.replicate (N.length - vs.length) none
def cxOf (CX:CXT) (P:Program) (w:World) (K:PySem.W.Frag) (mg:Str→Option Value) (base:Heap) (N:List Str) (qual:Str) (scope:Scope) (f:Addr) (cd:Value) (A:Around) (outer:List Env) (s:Shared) (H:Hp) (E:XK):Cx where
 prog:=P
 w:=w
 K:=K
 mg:=mg
 base:=base
 A:=A.deeper (envOfC qual scope s.heap.objs.size f cd)
 N:=N
 s₀:=s
 H₀:=H
 env:=envOfC qual scope s.heap.objs.size f cd
 outer:=outer
 stack:=envOfC qual scope s.heap.objs.size f cd::outer
 ex:=[]
 calm:=true
 fn:=fun _=>true
 pn:=[]
 xe:=fun e s'=>wpAny (model P w) (A.deeper (envOfC qual scope s.heap.objs.size f cd)) (leaving (envOfC qual scope s.heap.objs.size f cd) e) (fun _ s''=>CX outer H s E e s'') (fun e' s''=>CX outer H s E e' s'') s'
theorem aw6 {sc:Scope}{n:Nat}{x:Str}(h:sc.names.lookup x=some .cell):∃ c,(cellsFrom n sc.names []).lookup x=some c:=by
 have q:=PySem.W.cellsFrom_some sc.names n [] (.inl h)
 exact Option.isSome_iff_exists.mp q
theorem b30 {CX:CXT}{P:Program}{w:World}{K:PySem.W.Frag}{mg:Str→Option Value}{base:Heap}{N ps:List Str}{qual:Str}{scope:Scope}{f:Addr}{cd:Value}{A:Around}{outer:List Env}{s s1:Shared}{H:Hp}{E:XK}{us:List Value}{vs:List V}
 (S:FnScope N ps scope) (hd:A.handled=none) (e0:Env0 P w K mg base A outer s H) (hl:vs.length=ps.length) (r:Vals vs us)
 (x:InCallC s s.heap.objs.size (bindL (envOfC qual scope s.heap.objs.size f cd).kindOf (ps.zip us) fun _=>none) (cellsFrom (s.heap.objs.size+1) scope.names []) (bindC (envOfC qual scope s.heap.objs.size f cd).kindOf (ps.zip us) fun _=>none) s1) :
 Inv (cxOf CX P w K mg base N qual scope f cd A outer s H E) [] (start N vs) H s1:=by
 have hpl:ps.length≤N.length:=by have:=congrArg List.length S.pre; rw [List.length_take] at this; omega
 obtain ⟨h1,tk,rfl,hk⟩:=x.done
 have noA:∀ b:Addr,b∉(cxOf CX P w K mg base N qual scope f cd A outer s H E).ex:=fun b z=>absurd (show b∈([]:List Addr) from z) (by simp)
 refine ⟨⟨e0.mod,S.kind,rfl,rfl,Nat.le_refl _,fun y z c h1 h2=>?_,fun y hy=>?_,fun y c _ h=>?_,fun _=>hd,Around.frames_deeper e0.frames,.inr ⟨rfl,rfl⟩,fun b z=>absurd z (noA b),e0.bs,e0.bsz,fun b _ _=>noA b,fun b z=>absurd z (noA b),e0.funs,e0.frf⟩,
  rfl,e0.bare,Un.kept hk,⟨_,x.toInCall.ns,fun i y v h1 h2 h3=>?_⟩,fun y c h=>⟨_,x.cell y c h⟩,e0.hok.fresh (Nat.le_refl _),fun y c h=>?_,fun p hp=>absurd (show p∈([]:List (Addr×Obj)) from hp) (by simp),e0.hok.kept hk,?_⟩
 · exact name_of_addr x.apart (PySem.mem_of_lookup h1) (PySem.mem_of_lookup h2)
 · have hy:scope.names.lookup y=some .cell∨scope.names.lookup y=some .free:=hy
   rcases hy with hy | hy
   · exact aw6 hy
   · exact absurd rfl (S.nofree _ (PySem.mem_of_lookup hy))
 · exact Nat.le_of_lt (x.above y c (PySem.mem_of_lookup h))
 · have hi:i<vs.length:=by
    unfold start at h2
    by_cases hi:i<vs.length
    · exact hi
    · rw [List.getElem?_append_right (by simpa using hi)] at h2
      rw [List.getElem?_replicate] at h2
      split at h2 <;> cases h2
   have ha:vs[i]?=some v:=by
    unfold start at h2
    rw [List.getElem?_append_left (by simpa using hi),List.getElem?_map] at h2
    cases e:vs[i]? with
    | none=>rw [e] at h2; cases h2
    | some a=>rw [e] at h2; cases h2; rfl
   obtain ⟨u,hu,rv⟩:=r.get ha
   have hp:ps[i]?=some y:=by
    rw [← S.pre,List.getElem?_take_of_lt (by omega)]; exact h1
   have ndP:ps.Nodup:=by rw [← S.pre]; exact S.nd.sublist (List.take_sublist _ _)
   refine ⟨u,rv,?_⟩
   rcases S.par y (List.mem_of_getElem? hp) with k | k
   · exact .inl ⟨k,ap5 ndP hp hu k⟩
   · obtain ⟨c,e⟩:=aw6 (n:=s.heap.objs.size+1) k
     refine .inr ⟨.inl k,c,e,?_⟩
     have q:=x.cell y c e
     rw [ap6 ndP hp hu (by show scope.names.lookup y≠_; rw [k]; decide)] at q
     exact q
 · exact e0.hok.fresh (Nat.le_of_lt (x.above y c (PySem.mem_of_lookup h)))
 · unfold start
   show _=N.length
   rw [List.length_append,List.length_map,List.length_replicate]
   omega
theorem c26 {CX:CXT}{P:Program}{w:World}{K:PySem.W.Frag}{mg:Str→Option Value}{base:Heap}{k:Nat}{f:Addr}{name qual:Str}{params:Arguments}{body:List Stmt}{scope:Scope}{dV kV doc pm cdv ct oc:Value}{an od:Option Addr}
 {osl:Array (Option Value)}{N ps:List Str}{sp:Sp}(lk:K.lookup f=some ⟨oc,od,.func (PySem.W.fnOf name qual params body scope dV kV doc pm an cdv ct),osl⟩) (hcd:PySem.W.codeIn K cdv qual=true) (S:FnScope N ps scope)
 (len:∀ vs H Q E,sp vs H Q E→vs.length=ps.length)
 (hbody:∀ (A:Around) (outer:List Env) (s:Shared) (H:Hp) (vs:List V) (Q:VK) (E:XK),Room k (A.deeper (envOfC qual scope s.heap.objs.size f cdv))→sp vs H Q E →
  ∃ t,PSs (cxOf CX P w K mg base N qual scope f cdv A outer s H E) body t∧t { nx:=fun _ H'=>Q .non H',rt:=Q } (start N vs) H) :
 FnOk P w K mg base CX (k+1) f (PySem.W.fnOf name qual params body scope dV kV doc pm an cdv ct) ps sp:=by
 refine ⟨len,fun A outer s H args us vs Q E hr e0 hb r hsp=>?_⟩
 have hl:=len _ _ _ _ hsp
 have KX:K.In s.heap:=e0.mod.kin.keeps fun b o e=>(e0.bs b o e).1
 have lim:s.heap.NoLimit:=e0.mod.nolimit.keeps fun b o e=>(e0.bs b o e).1
 have hkind:∀ y∈ps.zip us,scope.names.lookup y.1=some .local∨(scope.names.lookup y.1=some .cell∧((cellsFrom (s.heap.objs.size+1) scope.names []).lookup y.1).isSome=true):=fun ⟨n,v⟩ hy=>by
  rcases S.par n (List.of_mem_zip hy).1 with q | q
  · exact .inl q
  · exact .inr ⟨q,PySem.W.cellsFrom_some _ _ _ (.inl q)⟩
 refine codeAny_call_function hr.depth (KX _ _ lk) rfl S.co S.gen rfl (PySem.W.codeRec_of KX hcd) (hb _ _ _ _ ?_)
 refine wpAny_newFunctionEnv_cells S.kind hkind fun env he s1 x=>?_
 subst he
 refine ⟨lim.keeps x.toInCall.keep,codeAny_func ?_⟩
 obtain ⟨t,ht,hq⟩:=hbody A outer s H vs Q E (hr.deeper _) hsp
 have I:Inv (cxOf CX P w K mg base N qual scope f cdv A outer s H E) [] (start N vs) H s1:=b30 S hr.hd e0 hl r x
 refine wpAny_mono (ht [] s1 (start N vs) H _ I hq) (fun fl s' hs=>?_) fun e s' hs=>hs
 have fin:∀ {σ':St} {H':Hp}{v:V}{u:Value},Inv (cxOf CX P w K mg base N qual scope f cdv A outer s H E) [] σ' H' s'→RelV v u→Q v H'→CE outer P w H s Q u s' :=
  fun {σ' H' v u} J rv q=>⟨v,H',J.os,J.bare,J.base,J.hok,rv,q⟩
 cases fl with
 | ret u =>
   obtain ⟨v,σ',H',J,rv,q⟩:=hs
   exact fin J rv q
 | next =>
   obtain ⟨σ',H',J,q⟩:=hs
   exact fin (v:=V.non) (u:=Value.none) J rfl q
 | brk =>
   obtain ⟨_,_,_,q⟩:=hs
   exact False.elim q
 | cont =>
   obtain ⟨_,_,_,q⟩:=hs
   exact False.elim q
section
variable {X:Cx}{x:Str}{p pos:Pos}{e:Expr}{es:List Expr}{t:TA}{id T:String}{r:List V→Hp→VK→Prop}
def tCB (r:List V→Hp→VK→Prop) (t:TA):TE:=fun σ H Q=>t σ H fun vs H1=>r vs H1 Q
theorem a56 (hc:CallR X (.builtin id) r) (hg:Gl X x) (hm:X.mg x=none) (hv:bootBuiltins x=some (.builtin id)) (ha:PA X (e::es) t) (hn:x≠"__name__":=by decide) (hdb:(x == ("__debug__":Str))=false:=by decide)
 (he:starEach (e::es) X.env=(false,eval e X.env)::starEach es X.env:=by rfl) (hpl:(backTo pos (starEach es X.env)).any (·.1)=false:=by rfl):PE X (.Call (.Name x p) (e::es) [] pos) (tCB r t):=by
 intro pins s σ H Q I h
 refine wpAny_Call_Name_kw (ap0 I hg hm hv ?_ hn hdb)
 exact PyProof.Rows.callWith_builtin1 (thn (ha pos pins s σ H _ I h) (by rintro us s1 ⟨vs,H1,I1,r1,q1⟩; exact hc pins s1 σ H1 vs us Q I1 r1 q1)) he hpl
theorem ae0 (hc:CallR X (.type T) r) (hg:Gl X x) (hm:X.mg x=none) (hv:bootBuiltins x=some (.type T)) (ha:PA X (e::es) t) (hn:x≠"__name__":=by decide) (hdb:(x == ("__debug__":Str))=false:=by decide)
 (he:starEach (e::es) X.env=(false,eval e X.env)::starEach es X.env:=by rfl) (hpl:(backTo pos (starEach es X.env)).any (·.1)=false:=by rfl):PE X (.Call (.Name x p) (e::es) [] pos) (tCB r t):=by
 intro pins s σ H Q I h
 refine wpAny_Call_Name_kw (ap0 I hg hm hv ?_ hn hdb)
 exact PyProof.Rows.callWith_type1 (thn (ha pos pins s σ H _ I h) (by rintro us s1 ⟨vs,H1,I1,r1,q1⟩; exact hc pins s1 σ H1 vs us Q I1 r1 q1)) he hpl
end
end L2
namespace HT
open PySem PyProof.Rows
section
open PySem.SeqAt
open PySem.AutoSeq1 (wpAny_loadPart')
open PySem.MeetsSeq PySem.MeetsSeq2 PySem.MeetsSeq3
end
section
variable {prog:Program}{w:World}{A:Around}{E:Value→Shared→Prop}{s:Shared}
def sIx (n d:Nat):Option Int→Nat
 | none=>d
 | some v=>if v<0 then (v+(n:Int)).toNat else min v.toNat n
theorem sIx_none (n d:Nat):sIx n d none=d:=rfl
theorem sIx_nat (n d k:Nat):sIx n d (some (k:Int))=min k n:=by
 show (if (k:Int)<0 then ((k:Int)+(n:Int)).toNat else min (k:Int).toNat n)=min k n
 rw [if_neg (by omega),Int.toNat_natCast]
end
end HT
namespace L2
open PySem PySem.Spec PyProof.Rows
abbrev TO:=St→Hp→(Option Int→Hp→Prop)→Prop
def PO (X:Cx) (e:Option Expr) (t:TO):Prop :=
 ∀ (pins:List (Addr×Obj)) (s:Shared) (σ:St) (H:Hp) (Q:Option Int→Hp→Prop),Inv X pins σ H s→t σ H Q →
  wpAny (model X.prog X.w) X.A (evalPart e X.env) (fun u s'=>∃ o H',Inv X pins σ H' s'∧IsPart u o∧Q o H') X.xe s
def b31:TO:=fun _ H Q=>Q none H
def bs1 (t:TE):TO:=fun σ H Q=>t σ H fun x H1=>∃ i,x=.int i∧Q (some i) H1
section
variable {X:Cx}{e:Expr}{te:TE}{lo hi:Option Expr}{tl th:TO}{pos p2:Pos}
theorem ai1:PO X none b31:=by
 intro pins s σ H Q I h
 rw [evalPart_none]
 exact wpAny_pure ⟨none,H,I,.none,h⟩
theorem a91 (h:PE X e te):PO X (some e) (bs1 te):=by
 intro pins s σ H Q I hw
 rw [evalPart_some]
 refine thn (h pins s σ H _ I hw) ?_
 rintro u s1 ⟨x,H1,I1,r1,q1⟩
 obtain ⟨i,rfl,q⟩:=q1
 obtain ⟨t,rfl⟩:=r1
 exact ⟨some i,H1,I1,.int i t,q⟩
def SlR (X:Cx) (r:V→Option Int→Option Int→Hp→VK→Prop):Prop :=
 ∀ (pins:List (Addr×Obj)) (s:Shared) (σ:St) (H:Hp) (x:V) (v vl vu:Value) (lo hi:Option Int) (sl:Addr) (Q:VK),Inv X pins σ H s→RelV x v→s.heap.IsSliceOf sl vl vu .none→IsPart vl lo→IsPart vu hi→r x lo hi H Q →
  ∃ T id,typeLookup (.type T) "__getitem__"=pure (some (.builtin id))∧s.TypeIs v T∧wpAny (model X.prog X.w) X.A (getItem v (.ref sl)) (EP X pins σ Q) X.xe s
def tSl (r:V→Option Int→Option Int→Hp→VK→Prop) (te:TE) (tl th:TO):TE:=fun σ H Q=>te σ H fun x H1=>tl σ H1 fun l H2=>th σ H2 fun u H3=>r x l u H3 Q
theorem a92 {r:V→Option Int→Option Int→Hp→VK→Prop}(hr:SlR X r) (he:PE X e te) (hl:PO X lo tl) (hu:PO X hi th):PE X (.Subscript e (.Slice lo hi none p2) pos) (tSl r te tl th):=by
 intro pins s σ H Q I h
 refine Subscript_ (thn (he pins s σ H _ I h) ?_)
 rintro v s1 ⟨x,H1,I1,r1,q1⟩
 refine wpAny_Slice (thn (hl pins s1 σ H1 _ I1 q1) ?_)
 rintro vl s2 ⟨l,H2,I2,pl,q2⟩
 refine thn (hu pins s2 σ H2 _ I2 q2) ?_
 rintro vu s3 ⟨u,H3,I3,pu,q3⟩
 rw [evalPart_none]
 refine wpAny_pure ?_
 have I4:Inv X pins σ H3 { s3 with heap:=s3.heap.push { cls:=.type "slice",data:=.fields #[vl,vu,.none] } }:=I3.kept (t':=s3.toks) fun b ob q=>Heap.get?_push_of_some _ q
 obtain ⟨T,id,hT,ht,hg⟩:=hr pins { s3 with heap:=s3.heap.push { cls:=.type "slice",data:=.fields #[vl,vu,.none] } } σ H3 x v vl vu l u s3.heap.objs.size Q I4 r1 (Heap.IsSliceOf.new ..) pl pu q3
 show wpAny (model X.prog X.w) X.A (subscriptTail e (.Slice lo hi none p2) v (.ref s3.heap.objs.size)) (EP X pins σ Q) X.xe { s3 with heap:=s3.heap.push { cls:=.type "slice",data:=.fields #[vl,vu,.none] } }
 exact tail_any (ops:=[.ref s3.heap.objs.size,v]) ht hT hg (by with_unfolding_all rfl)
def cutV (xs:List V) (lo hi:Option Int):List V:=(xs.drop (HT.sIx xs.length 0 lo)).take (HT.sIx xs.length xs.length hi - HT.sIx xs.length 0 lo)
theorem at6 (xs:List V) (lo hi:Option Int):(cutV xs lo hi).length≤xs.length:=by
 unfold cutV
 rw [List.length_take,List.length_drop]
 omega
end
def ixN (n:Nat) (i:Int):Option Nat:=if 0≤i then (if i<n then some i.toNat else none) else if -(n:Int)≤i then some (i+n).toNat else none
def atI {α:Type}(xs:List α) (i:Int):Option α:=(ixN xs.length i).bind fun j=>xs[j]?
theorem b32 {n:Nat}{i:Int}{j:Nat}(h:ixN n i=some j):seqIndex? i n=some j∧j<n∧-(n:Int)≤i∧i<n:=by
 unfold ixN at h
 by_cases h0:0≤i
 · rw [if_pos h0] at h
   by_cases h1:i<n
   · rw [if_pos h1] at h
     have e:i.toNat=j:=Option.some.inj h
     exact ⟨by rw [seqIndex_of h0 h1,e],by omega,by omega,h1⟩
   · rw [if_neg h1] at h; cases h
 · rw [if_neg h0] at h
   by_cases h1:-(n:Int)≤i
   · rw [if_pos h1] at h
     have e:(i+n).toNat=j:=Option.some.inj h
     exact ⟨by rw [seqIndex_neg (by omega) h1,e],by omega,h1,by omega⟩
   · rw [if_neg h1] at h; cases h
theorem b33 {α:Type}{xs:List α}{i:Int}{v:α}(h:atI xs i=some v):∃ j,seqIndex? i xs.length=some j∧xs[j]?=some v∧j<xs.length∧-(xs.length:Int)≤i∧i<xs.length:=by
 unfold atI at h
 cases e:ixN xs.length i with
 | none=>rw [e] at h; cases h
 | some j =>
   rw [e] at h
   obtain ⟨h1,h2,h3,h4⟩:=b32 e
   exact ⟨j,h1,h,h2,h3,h4⟩
theorem a06 {α:Type}{xs:List α}{j:Nat}{v:α}(h:xs[j]?=some v):atI xs (j:Int)=some v:=by
 have hj:j<xs.length:=(List.getElem?_eq_some_iff.mp h).1
 have e:ixN xs.length (j:Int)=some j:=by
  unfold ixN
  rw [if_pos (by omega),if_pos (by omega)]; simp
 unfold atI; rw [e]; exact h
def bj7 (b:Expr):Prop:=∀ o i,subscripted b false o i=operate [o,i] (getItem o i)
def IxR (X:Cx) (r:R2):Prop :=
 ∀ (value slice:Expr) (pins:List (Addr×Obj)) (s:Shared) (σ:St) (H:Hp) (x y:V) (v u:Value) (Q:VK),Inv X pins σ H s→RelV x v→RelV y u→r x y H Q →
  subscripted slice false v u=operate [v,u] (getItem v u)→wpAny (model X.prog X.w) X.A (subscriptTail value slice v u) (EP X pins σ Q) X.xe s
def MtR (X:Cx) (id:String) (r:V→List V→Hp→VK→Prop):Prop :=
 ∀ (pins:List (Addr×Obj)) (s:Shared) (σ:St) (H:Hp) (x:V) (xs:List V) (v:Value) (us:List Value) (Q:VK),Inv X pins σ H s→RelV x v→Vals xs us→r x xs H Q →
  wpAny (model X.prog X.w) X.A (call (.builtin id) (v::us)) (EP X pins σ Q) X.xe s
section
variable {X:Cx}{a b:Expr}{ta tb:TE}{pos:Pos}
theorem a19 {r:R2}(hr:IxR X r) (ha:PE X a ta) (hb:PE X b tb) (hs:bj7 b):PE X (.Subscript a b pos) (tOp r ta tb):=by
 intro pins s σ H Q I h
 exact Subscript_ (binT ha hb I h fun v u s2 x y H2 I2 rx ry q=>hr a b pins s2 σ H2 x y v u Q I2 rx ry q (hs _ _))
def rIxL (K:PySem.W.Frag):R2:=fun x y H Q=>∃ p xs i v,x=.ref p∧y=.int i∧SqL K H p xs∧atI xs i=some v∧Q v H
def rIxT (K:PySem.W.Frag):R2:=fun x y H Q=>∃ p xs i v,x=.ref p∧y=.int i∧SqT K H p xs∧atI xs i=some v∧Q v H
theorem bj8:IxR X (rIxL X.K):=by
 intro value slice pins s σ H x y v u Q I rx ry h hs
 obtain ⟨p,xs,i,z,rfl,rfl,hq,he,q⟩:=h
 cases rx
 obtain ⟨t,rfl⟩:=ry
 obtain ⟨its,r,pl,hz⟩:=I.list hq
 obtain ⟨j,h1,h2,h3,h4,h5⟩:=b33 he
 obtain ⟨w,ew,rw'⟩:=r.get h2
 have hl:=r.length
 have hn:=ap2
 have fin:EP X pins σ Q w s:=⟨z,H,I,rw',q⟩
 by_cases h0:0≤i
 · have hj:i.toNat=j:=by
    rw [seqIndex_of h0 h5] at h1
    exact Option.some.inj h1
   exact item_listR pl.isList h0 (by omega) (by rw [hj]; simpa using ew) fin hs
 · have hj:(i+(its.toArray.size:Int)).toNat=j:=by
    rw [seqIndex_neg (by omega) h4] at h1
    rw [List.size_toArray,←hl]
    exact Option.some.inj h1
   exact subscriptTail_builtinR (x:=w) pl.isList.typeIs slot_list_getitem.lookup
    (wpAny_getItem_list_neg (Q:=fun r s'=>r=w∧EP X pins σ Q r s') pl.isList (by omega) (by rw [List.size_toArray] <;> omega) (by omega) (by rw [hj]; simpa using ew) ⟨rfl,fin⟩) hs
theorem bs2:IxR X (rIxT X.K):=by
 intro value slice pins s σ H x y v u Q I rx ry h hs
 obtain ⟨p,xs,i,z,rfl,rfl,hq,he,q⟩:=h
 cases rx
 obtain ⟨t,rfl⟩:=ry
 obtain ⟨its,r,pl,hz⟩:=I.tuple hq
 obtain ⟨j,h1,h2,h3,h4,h5⟩:=b33 he
 obtain ⟨w,ew,rw'⟩:=r.get h2
 have hl:=r.length
 have hn:=ap2
 have fin:EP X pins σ Q w s:=⟨z,H,I,rw',q⟩
 exact subscriptTail_builtinR (x:=w) pl.typeIs slot_tuple_getitem.lookup
  (getItem_tuple (j:=j) (Q:=fun r s'=>r=w∧EP X pins σ Q r s') pl (by omega) (by omega) (by rw [List.size_toArray,←hl]; exact h1) (by simpa using ew) ⟨rfl,fin⟩) hs
theorem b02 (its:List Value) (n j:Nat) (u:Value):Obj.mapSeq (·.setIfInBounds j u) { cls:=.type "list",data:=.seq its.toArray n }={ cls:=.type "list",data:=.seq (its.set j u).toArray n }:=by
 simp [Obj.mapSeq]
theorem Inv.lst {pins:List (Addr×Obj)}{σ:St} {H:Hp}{s:Shared}{p:Addr}{xs:List V}(I:Inv X pins σ H s) (h:H p=some (.lst xs)) :
 ∃ (its:List Value) (n:Nat),Vals xs its∧s.heap.get? p=some { cls:=.type "list",data:=.seq its.toArray n }∧xs.length≤sizeLine:=by
 obtain ⟨z,its,n,r,e⟩:=I.hok p _ h
 exact ⟨its,n,r,e,z⟩
theorem Inv.lstUpd {pins:List (Addr×Obj)}{σ:St} {H:Hp}{s:Shared}{p:Addr}{xs ys:List V}{its its':List Value}{n n':Nat}{f:Obj→Obj}(I:Inv X pins σ H s) (h:H p=some (.lst xs))
 (ho:s.heap.get? p=some { cls:=.type "list",data:=.seq its.toArray n }) (hf:f { cls:=.type "list",data:=.seq its.toArray n }={ cls:=.type "list",data:=.seq its'.toArray n' }) (r:Vals ys its') (hz:ys.length≤sizeLine) (t:Nat) :
 Inv X pins σ (upd H p (.lst ys)) { s with heap:=s.heap.update p f,toks:=t }:=by
 have e:(s.heap.update p f).get? p=some { cls:=.type "list",data:=.seq its'.toArray n' }:=by
  rw [Heap.get?_update_self f ho (by rw [hf] <;> rfl),hf]
 refine I.write (x:=p) (e:=p) (by rw [h]; trivial) (.inl rfl) (fun b u hb q=>(Heap.get?_update_other _ _ (Ne.symm hb)).trans q) ⟨_,e⟩ ?_
 exact ⟨hz,its',n',r,e⟩
def bs3:V→V→V→Hp→(Hp→Prop)→Prop:=fun o i v H Q=>∃ p xs k j,o=.ref p∧i=.int k∧H p=some (.lst xs)∧ixN xs.length k=some j∧Q (upd H p (.lst (xs.set j v)))
theorem ab8:PSet X bs3:=by
 intro pins s σ H o i v ov iv u Q I ro ri rv h
 obtain ⟨p,xs,k,j,rfl,rfl,hp,hj,q⟩:=h
 cases ro
 obtain ⟨t,rfl⟩:=ri
 obtain ⟨its,n,r,ho,hz⟩:=I.lst hp
 obtain ⟨h1,h2,h3,h4⟩:=b32 hj
 have hl:=r.length
 have hn:=ap2
 have I':Inv X pins σ (upd H p (.lst (xs.set j v))) { s with heap:=s.heap.update p (Obj.mapSeq (·.setIfInBounds j u)) } :=
  I.lstUpd hp ho (b02 its n j u) (r.set rv j) (by rw [List.length_set]; exact hz) s.toks
 by_cases h0:0≤k
 · have hk:k.toNat=j:=by
    rw [seqIndex_of h0 h4] at h1
    exact Option.some.inj h1
   exact PySem.W.ki_setAt ho h0 (by omega) (by rw [List.size_toArray,←hl]; exact h4) (by rw [hk]; exact ⟨_,I',q⟩)
 · have hk:(k+(its.toArray.size:Int)).toNat=j:=by
    rw [seqIndex_neg (by omega) h3] at h1
    rw [List.size_toArray,←hl]
    exact Option.some.inj h1
   exact PySem.W.ki_setBack ho (by omega) (by rw [List.size_toArray,←hl]; exact h3) (by omega) (by rw [hk]; exact ⟨_,I',q⟩)
theorem ap7 (lo hi:Option Int) (n:Nat):(sliceBounds lo hi none n).1=((HT.sIx n 0 lo:Nat):Int)∧(sliceBounds lo hi none n).2.1=((HT.sIx n n hi:Nat):Int)∧(sliceBounds lo hi none n).2.2=1:=by
 refine ⟨?_,?_,rfl⟩
 · cases lo with
   | none=>simp [sliceBounds,HT.sIx]
   | some i =>
     simp only [sliceBounds,HT.sIx,Option.getD_none,show (1:Int) > 0 by decide,if_true]
     by_cases h:i<0
     · simp only [h,if_true] <;> omega
     · simp only [h,if_false] <;> omega
 · cases hi with
   | none=>simp [sliceBounds,HT.sIx]
   | some i =>
     simp only [sliceBounds,HT.sIx,Option.getD_none,show (1:Int) > 0 by decide,if_true]
     by_cases h:i<0
     · simp only [h,if_true] <;> omega
     · simp only [h,if_false] <;> omega
theorem am4 (its:List Value) (lo hi:Option Int):slicePick its.toArray lo hi none=((its.drop (HT.sIx its.length 0 lo)).take (HT.sIx its.length its.length hi - HT.sIx its.length 0 lo)).toArray:=by
 obtain ⟨h1,h2,h3⟩:=ap7 lo hi its.toArray.size
 unfold slicePick
 rw [h1,h2,h3]
 simp only [sliceRange_one,pick_run,List.size_toArray] <;> rfl
def rSlL (K:PySem.W.Frag):V→Option Int→Option Int→Hp→VK→Prop:=fun x lo hi H Q=>∃ a xs,x=.ref a∧SqL K H a xs∧∀ p,H p=none→Q (.ref p) (upd H p (.lst (cutV xs lo hi)))
theorem bj9:SlR X (rSlL X.K):=by
 intro pins s σ H x v vl vu lo hi sl Q I rx hs pl pu h
 obtain ⟨a,xs,rfl,hx,q⟩:=h
 cases rx
 obtain ⟨its,r,ht,hz⟩:=I.list hx
 have hlen:=r.length
 refine ⟨"list",_,slot_list_getitem.lookup,ht.isList.typeIs,?_⟩
 refine wpAny_getItem_list_slice ht.isList hs pl pu .none (by simp) ?_ (by rw [List.size_toArray] <;> omega)
 rw [am4,←hlen]
 refine ⟨.ref s.heap.objs.size,_,I.laid (t':=s.toks) (o:=.lst (cutV xs lo hi)) (fun b ob q=>Heap.get?_push_of_some _ q) (Nat.le_refl _) ?_,rfl,q _ (I.hok.fresh (Nat.le_refl _))⟩
 exact ⟨Nat.le_trans (at6 xs lo hi) hz,_,0,(r.drop (HT.sIx xs.length 0 lo)).take (HT.sIx xs.length xs.length hi - HT.sIx xs.length 0 lo),Heap.get?_push_size _ rfl⟩
def ae1:V→Bool
 | .non=>true
 | .bl _=>true
 | .int _=>true
 | .str _=>true
 | _=>false
def eqV:V→V→Bool
 | .non,.non=>true
 | .bl a,.bl b=>a == b
 | .bl a,.int b=>(if a then 1 else 0) == b
 | .int a,.bl b=>a == (if b then 1 else 0)
 | .int a,.int b=>a == b
 | .str a,.str b=>a == b
 | _,_=>false
theorem bs4 {A:Around}{s:Shared}{y x:V}{u v:Value}(ry:RelV y u) (rx:RelV x v) (fy:ae1 y=true) (fx:ae1 x=true):SeqAt.EqAt A s u v (eqV y x):=by
 cases y with
 | non =>
   cases ry
   cases x with
   | non=>cases rx; exact SeqAt.EqAt.same _
   | bl b=>cases rx; exact SeqAt.EqAt.none_bool b
   | int b=>obtain ⟨t,rfl⟩:=rx; exact SeqAt.EqAt.none_int b t
   | str b=>obtain ⟨t,rfl⟩:=rx; exact SeqAt.EqAt.none_str b t
   | _=>exact absurd (show false=true from fx) Bool.false_ne_true
 | bl a =>
   cases ry
   cases x with
   | non=>cases rx; exact SeqAt.EqAt.bool_none a
   | bl b=>cases rx; exact SeqAt.EqAt.bool_bool a b
   | int b=>obtain ⟨t,rfl⟩:=rx; exact SeqAt.EqAt.bool_int a b t
   | str b=>obtain ⟨t,rfl⟩:=rx; exact SeqAt.EqAt.bool_str a b t
   | _=>exact absurd (show false=true from fx) Bool.false_ne_true
 | int a =>
   obtain ⟨t',rfl⟩:=ry
   cases x with
   | non=>cases rx; exact SeqAt.EqAt.int_none a t'
   | bl b=>cases rx; exact SeqAt.EqAt.int_bool a t' b
   | int b=>obtain ⟨t,rfl⟩:=rx; exact SeqAt.EqAt.int_int a t' b t
   | str b=>obtain ⟨t,rfl⟩:=rx; exact SeqAt.EqAt.int_str a t' b t
   | _=>exact absurd (show false=true from fx) Bool.false_ne_true
 | str a =>
   obtain ⟨t',rfl⟩:=ry
   cases x with
   | non=>cases rx; exact SeqAt.EqAt.str_none a t'
   | bl b=>cases rx; exact SeqAt.EqAt.str_bool a t' b
   | int b=>obtain ⟨t,rfl⟩:=rx; exact SeqAt.EqAt.str_int a t' b t
   | str b=>obtain ⟨t,rfl⟩:=rx; exact SeqAt.EqAt.str_str a t' b t
   | _=>exact absurd (show false=true from fx) Bool.false_ne_true
 | _=>exact absurd (show false=true from fy) Bool.false_ne_true
def eqU (x:V) (u:Value):Bool:=match u with
 | .none=>eqV .non x
 | .bool b=>eqV (.bl b) x
 | .int i _=>eqV (.int i) x
 | .str z _=>eqV (.str z) x
 | _=>false
theorem bf6 {x y:V}{u:Value}(r:RelV y u) (f:ae1 y=true):eqU x u=eqV y x:=by
 cases y with
 | non=>cases r; rfl
 | bl b=>cases r; rfl
 | int i=>obtain ⟨t,rfl⟩:=r; rfl
 | str z=>obtain ⟨t,rfl⟩:=r; rfl
 | _=>exact absurd (show false=true from f) Bool.false_ne_true
theorem ai2 {x:V}:∀ {xs:List V}{us:List Value},Vals xs us→xs.all ae1=true→us.any (eqU x)=xs.any fun y=>eqV y x
 | _,_,.nil,_=>rfl
 | y::xs,u::us,.cons r t,f=>by
   rw [List.all_cons,Bool.and_eq_true] at f
   rw [List.any_cons,List.any_cons,bf6 r f.1,ai2 t f.2]
theorem ae2 {A:Around}{s:Shared}{x:V}{v:Value}(rx:RelV x v) (fx:ae1 x=true):∀ {xs:List V}{us:List Value},Vals xs us→xs.all ae1=true→∀ u∈us,SeqAt.EqAt A s u v (eqU x u)
 | _,_,.nil,_=>fun u hu=>by cases hu
 | y::xs,u::us,.cons r t,f=>fun u' hu=>by
   rw [List.all_cons,Bool.and_eq_true] at f
   rcases List.mem_cons.mp hu with rfl | hu
   · rw [bf6 r f.1]; exact bs4 r rx f.1 fx
   · exact ae2 rx fx t f.2 u' hu
def inV (x:V) (xs:List V):Bool:=xs.any fun y=>eqV y x
def rIn (K:PySem.W.Frag) (neg:Bool):R2:=fun x y H Q=>∃ p xs,y=.ref p∧(SqL K H p xs∨SqT K H p xs)∧ae1 x=true∧xs.all ae1=true∧Q (.bl (if neg then !inV x xs else inV x xs)) H
theorem b34:OpR X (compareOp .In) (rIn X.K false):=by
 intro pins s σ H x y v u Q I rx ry h
 obtain ⟨p,xs,rfl,hq,fx,fs,q⟩:=h
 cases ry
 rcases hq with hq | hq
 · obtain ⟨its,r,pl,hz⟩:=I.list hq
   refine SeqAt.in_listAt (eqU x) pl.isList (fun w hw=>ae2 rx fx r fs w (by simpa using hw)) ⟨.bl _,H,I,rfl,?_⟩
   rw [show its.toArray.any (eqU x)=its.any (eqU x) by simp,ai2 r fs]
   exact q
 · obtain ⟨its,r,pl,hz⟩:=I.tuple hq
   refine SeqAt.in_tupleAt (eqU x) pl (fun w hw=>ae2 rx fx r fs w (by simpa using hw)) ⟨.bl _,H,I,rfl,?_⟩
   rw [show its.toArray.any (eqU x)=its.any (eqU x) by simp,ai2 r fs]
   exact q
theorem ap8:OpR X (compareOp .NotIn) (rIn X.K true):=by
 intro pins s σ H x y v u Q I rx ry h
 obtain ⟨p,xs,rfl,hq,fx,fs,q⟩:=h
 cases ry
 rcases hq with hq | hq
 · obtain ⟨its,r,pl,hz⟩:=I.list hq
   refine SeqAt.notIn_listAt (eqU x) pl.isList (fun w hw=>ae2 rx fx r fs w (by simpa using hw)) ⟨.bl _,H,I,rfl,?_⟩
   rw [show its.toArray.any (eqU x)=its.any (eqU x) by simp,ai2 r fs]
   exact q
 · obtain ⟨its,r,pl,hz⟩:=I.tuple hq
   refine SeqAt.notIn_tupleAt (eqU x) pl (fun w hw=>ae2 rx fx r fs w (by simpa using hw)) ⟨.bl _,H,I,rfl,?_⟩
   rw [show its.toArray.any (eqU x)=its.any (eqU x) by simp,ai2 r fs]
   exact q
theorem ap9:CallR X (.type "list") (fun xs H Q=>∃ p ys,xs=[.ref p]∧(SqL X.K H p ys∨SqT X.K H p ys)∧∀ l,H l=none→Q (.ref l) (upd H l (.lst ys))):=by
 intro pins s σ H xs us Q I r h
 obtain ⟨p,ys,rfl,hq,q⟩:=h
 obtain ⟨u,rfl,rx⟩:=b26 r
 cases rx
 have fin:∀ (its:List Value),Vals ys its→ys.length≤sizeLine→∀ (h':Heap) (c':Nat),(∀ b o',s.heap.get? b=some o'→h'.get? b=some o') →
  h'.get? s.heap.objs.size=some { cls:=.type "list",dict:=none,data:=.seq its.toArray c',slots:=#[] }→EP X pins σ Q (.ref s.heap.objs.size) { s with heap:=h' }:=fun its r' hz h' c' kp e =>
  ⟨.ref s.heap.objs.size,_,I.laid (t':=s.toks) kp (Nat.le_refl _) (show ObjOk X.prog X.w _ h' _ (.lst ys) from ⟨hz,its,c',r',e⟩),rfl,q _ (I.hok.fresh (Nat.le_refl _))⟩
 rcases hq with hq | hq
 · obtain ⟨its,r',pl,hz⟩:=I.list hq
   have hlen:=r'.length
   obtain ⟨o,ho,hc,n,hd⟩:=pl.isList
   exact call_list_seq p (.inl rfl) ho hc hd (fun h' c' kp e=>fin its r' hz h' c' kp e) (by simp only [List.size_toArray] <;> omega)
 · obtain ⟨its,r',pl,hz⟩:=I.tuple hq
   have hlen:=r'.length
   obtain ⟨o,ho,hc,n,hd⟩:=pl
   exact call_list_seq p (.inr rfl) ho hc hd (fun h' c' kp e=>fin its r' hz h' c' kp e) (by simp only [List.size_toArray] <;> omega)
def tyV (K:PySem.W.Frag) (T:String) (x:V) (H:Hp):Prop:=match x with
 | .str _=>T="str"
 | .int _=>T="int"
 | .ref p=>(T="list"∧∃ xs,SqL K H p xs)∨(T="tuple"∧∃ o,K.lookup p=some o∧o.cls=.type "tuple"∧o.dict=none) ∨
  (T="dict"∧((∃ kvs,H p=some (.dK kvs))∨∃ kvs,H p=some (.dT kvs)))∨(T="set"∧∃ S n,H p=some (.set S n))
 | _=>False
theorem bf7 {pins:List (Addr×Obj)}{σ:St} {H:Hp}{s:Shared}{T:String}{x:V}{v:Value}(I:Inv X pins σ H s) (r:RelV x v) (ty:tyV X.K T x H) :
 s.TypeIs v T∧∀ a,v=.ref a→∃ ob,s.heap.get? a=some ob∧ob.dict=none:=by
 cases x with
 | str z =>
   obtain ⟨t,rfl⟩:=r
   cases (show T="str" from ty)
   exact ⟨typeIs_str s z t,fun _ e=>nomatch e⟩
 | int i =>
   obtain ⟨t,rfl⟩:=r
   cases (show T="int" from ty)
   exact ⟨typeIs_int s i t,fun _ e=>nomatch e⟩
 | ref p =>
   cases r
   rcases ty with ⟨rfl,xs,hq⟩ | ⟨rfl,o,hk,hc,hd⟩ | ⟨rfl,hk⟩ | ⟨rfl,S,n,hk⟩
   · obtain ⟨its,_,pl,_⟩:=I.list hq
     refine ⟨pl.isList.typeIs,fun a e=>?_⟩
     cases e
     obtain ⟨o,n,e,c,hd,_⟩:=pl
     exact ⟨o,e,hd⟩
   · refine ⟨⟨o,I.kIn p o hk,hc⟩,fun a e=>?_⟩
     cases e
     exact ⟨o,I.kIn _ o hk,hd⟩
   · have z:∃ o,s.heap.get? p=some o∧o.ExactDict:=by
      rcases hk with ⟨kvs,hk⟩ | ⟨kvs,hk⟩
      · obtain ⟨_,_,_,_,o,_,_,e,ex,_⟩:=I.hok p _ hk
        exact ⟨o,e,ex⟩
      · obtain ⟨_,_,_,_,o,_,_,e,ex,_⟩:=I.hok p _ hk
        exact ⟨o,e,ex⟩
     obtain ⟨o,e,ex⟩:=z
     refine ⟨⟨o,e,ex.1⟩,fun a e2=>?_⟩
     cases e2
     exact ⟨o,e,ex.2.1⟩
   · obtain ⟨o,_,_,_,e,ex,_⟩:=I.hok p _ hk
     refine ⟨⟨o,e,ex.1⟩,fun a e2=>?_⟩
     cases e2
     exact ⟨o,e,ex.2.1⟩
 | _=>exact False.elim ty
def tBM0 (K:PySem.W.Frag) (T:String) (r:V→List V→Hp→VK→Prop) (to:TE):TE:=fun σ H Q=>to σ H fun x H1=>tyV K T x H1∧r x [] H1 Q
def tBM (K:PySem.W.Frag) (T:String) (r:V→List V→Hp→VK→Prop) (to:TE) (t:TA):TE:=fun σ H Q=>to σ H fun x H1=>tyV K T x H1∧t σ H1 fun xs H2=>r x xs H2 Q
variable {o e:Expr}{es:List Expr}{to:TE}{t:TA}{name:Str}{apos cpos:Pos}{T id:String}{r:V→List V→Hp→VK→Prop}
theorem bs5 (pa:PlainAttrs T) (slot:Slot T name id) (hty:typeOf (.builtin id)=pure (.type "method_descriptor")) (hm:MtR X id r) (ho:PE X o to)
 (hbase:attributeBase o name X.env (eval o X.env)=eval o X.env:=by rfl) (hline:(apos.endLine == cpos.line)=true:=by rfl):PE X (.Call (.Attribute o name apos) [] [] cpos) (tBM0 X.K T r to):=by
 intro pins s σ H Q I h
 refine wpAny_Call_method0_late hbase hline (thn (ho pins s σ H _ I h) ?_)
 rintro v s1 ⟨x,H1,I1,r1,ty,q1⟩
 obtain ⟨h1,h2⟩:=bf7 I1 r1 ty
 exact ⟨T,id,pa,slot,hty,h1,h2,Calls.callWith_builtin rfl (PySem.evalArgs_none (hm pins s1 σ H1 x [] v [] Q I1 r1 .nil q1))⟩
theorem c27 (pa:PlainAttrs T) (slot:Slot T name id) (hty:typeOf (.builtin id)=pure (.type "method_descriptor")) (hm:MtR X id r) (ho:PE X o to) (ha:PA X (e::es) t)
 (hbase:attributeBase o name X.env (eval o X.env)=eval o X.env:=by rfl)
 (hfew:((backTo cpos (starEach (e::es) X.env)).all (fun x=>!x.1) && (backToKw cpos (keywordEach [] X.env)).all (fun x=>x.1.isSome)
  && decide ((e::es).length+([]:List Keyword).length+(if ([]:List Keyword).isEmpty then 0 else 1)<30))=true:=by rfl)
 (hline:(apos.endLine == cpos.line)=true:=by rfl) (hs:starEach (e::es) X.env=(false,eval e X.env)::starEach es X.env:=by rfl) (hplain:(backTo cpos (starEach es X.env)).any (·.1)=false:=by rfl) :
 PE X (.Call (.Attribute o name apos) (e::es) [] cpos) (tBM X.K T r to t):=by
 intro pins s σ H Q I h
 refine wpAny_Call_method_late hbase hfew hline rfl (thn (ho pins s σ H _ I h) ?_)
 rintro v s1 ⟨x,H1,I1,r1,ty,q1⟩
 obtain ⟨h1,h2⟩:=bf7 I1 r1 ty
 refine ⟨T,id,pa,slot,hty,h1,h2,?_⟩
 have hA:=ha cpos pins s1 σ H1 _ I1 q1
 rw [hs] at hA ⊢
 refine Calls.callWith_builtin (by show (false || (backTo cpos (starEach es X.env)).any (·.1))=false; rw [hplain] <;> rfl) (Calls.evalArgs_plain ?_)
 exact thn hA (by rintro us s2 ⟨vs,H2,I2,r2,q2⟩; exact hm pins s2 σ H2 x vs v us Q I2 r1 r2 q2)
/- xs.append(e),list.index on a module's tuple .. are MtR facts of 06m -/
end
def MtM (X:Cx) (id:String) (r:V→List V→Hp→VK→Prop):Prop :=
 ∀ (pins:List (Addr×Obj)) (s:Shared) (σ:St) (H:Hp) (x:V) (xs:List V) (v:Value) (us:List Value) (Q:VK),Inv X pins σ H s→RelV x v→Vals xs us→r x xs H Q →
  wpAny (model X.prog X.w) X.A (call (.builtin id) (v::us)) (EP X pins σ Q) X.xe s
theorem Vals.one:∀ {x:V}{us:List Value},Vals [x] us→∃ u,us=[u]∧RelV x u
 | _,_,.cons r .nil=>⟨_,rfl,r⟩
theorem Vals.zero:∀ {us:List Value},Vals [] us→us=[]
 | _,.nil=>rfl
theorem Vals.dropLast {xs:List V}{us:List Value}(h:Vals xs us):Vals xs.dropLast us.dropLast:=by
 induction h with
 | nil=>exact .nil
 | cons r t ih =>
   cases t with
   | nil=>exact .nil
   | cons q t'=>exact .cons r ih
theorem Vals.eraseIdx:∀ {xs:List V}{us:List Value}(i:Nat),Vals xs us→Vals (xs.eraseIdx i) (us.eraseIdx i)
 | _,_,_,.nil=>.nil
 | _,_,0,.cons _ t=>t
 | _,_,i+1,.cons r t=>.cons r (Vals.eraseIdx i t)
theorem Vals.reverse {xs:List V}{us:List Value}(h:Vals xs us):Vals xs.reverse us.reverse:=by
 induction h with
 | nil=>exact .nil
 | cons r t ih=>rw [List.reverse_cons,List.reverse_cons]; exact Vals.append ih (.cons r .nil)
theorem b03 {α:Type}(l:List α):l.eraseIdx (l.length - 1)=l.dropLast:=by
 induction l with
 | nil=>rfl
 | cons a r ih =>
   cases r with
   | nil=>rfl
   | cons b r =>
     have e:(a::b::r).length - 1=((b::r).length - 1)+1:=by
      have h1:(a::b::r).length=r.length+2:=rfl
      have h2:(b::r).length=r.length+1:=rfl
      omega
     rw [e,List.eraseIdx_cons_succ,ih]
     all_goals rfl
theorem aq0 {α:Type}:∀ (l:List α) (i:Nat),(l.eraseIdx i).length≤l.length
 | [],_=>Nat.le_refl _
 | _::_,0=>Nat.le_succ _
 | _::r,i+1=>Nat.succ_le_succ (aq0 r i)
section
variable {X:Cx}{pins:List (Addr×Obj)}{σ:St} {H:Hp}{s:Shared}{l b:Addr}{xs ys zs:List V}
theorem Inv.lset {its its':List Value}{n:Nat}{f:Array Value→Array Value}{t':Nat}(I:Inv X pins σ H s) (hH:H l=some (.lst xs))
 (e:s.heap.get? l=some { cls:=.type "list",data:=.seq its.toArray n }) (hf:f its.toArray=its'.toArray) (hv:Vals ys its') (hz:ys.length≤sizeLine) :
 Inv X pins σ (upd H l (.lst ys)) { s with heap:=s.heap.update l (Obj.mapSeq f),toks:=t' }:=by
 have q:=PySem.IsL.update e f
 rw [hf] at q
 refine I.write (x:=l) (e:=l) (by rw [hH]; exact trivial) (.inl rfl) (fun b' u hb hu=>(Heap.get?_update_other s.heap (Obj.mapSeq f) (Ne.symm hb)).trans hu) ⟨_,q⟩ ?_
 exact ⟨hz,its',_,hv,q⟩
theorem Inv.lnew {its:List Value}{t':Nat}(I:Inv X pins σ H s) (hv:Vals ys its) (hz:ys.length≤sizeLine) :
 Inv X pins σ (upd H s.heap.objs.size (.lst ys)) { s with heap:=s.heap.push { cls:=.type "list",data:=.seq its.toArray },toks:=t' } :=
 I.laid (fun _ _ q=>Heap.get?_push_of_some _ q) (Nat.le_refl _) ⟨hz,its,0,hv,Heap.get?_push_size _ rfl⟩
theorem Inv.fresh (I:Inv X pins σ H s):H s.heap.objs.size=none:=I.hok.fresh (Nat.le_refl _)
theorem Inv.lstM (I:Inv X pins σ H s) (hH:H l=some (.lst xs)):xs.length≤sizeLine∧∃ (its:List Value) (n:Nat),Vals xs its∧xs.length=its.length∧s.heap.get? l=some { cls:=.type "list",data:=.seq its.toArray n }:=by
 obtain ⟨z,its,n,r,e⟩:=I.hok l _ hH
 exact ⟨z,its,n,r,r.length,e⟩
theorem bb0 {n:Nat}(h:n≤sizeLine):Builtin.List.listTooLong n=false:=by
 unfold Builtin.List.listTooLong
 exact decide_eq_false (by omega)
end
section
variable {X:Cx}
def b35:V→List V→Hp→VK→Prop:=fun x vs H Q=>∃ l xs y,x=.ref l∧vs=[y]∧H l=some (.lst xs)∧xs.length<sizeLine∧Q .non (upd H l (.lst (xs++[y])))
theorem a57:MtM X "list.append" b35:=by
 intro pins s σ H x vs v us Q I rx rv h
 obtain ⟨l,xs,y,rfl,rfl,hH,hz,q⟩:=h
 cases rx
 obtain ⟨u,rfl,ru⟩:=rv.one
 obtain ⟨z,its,n,r,hl,e⟩:=I.lstM hH
 refine call_meets F.slot_list_append ⟨_,e,rfl⟩ F.entry_list_append (F.args_list_append_2 _ _) (PySem.list_append l its.toArray n u (by rw [List.size_toArray]; omega)) ⟨e,?_⟩
 refine ⟨.non,_,I.lset (its':=its++[u]) hH e (by simp) (r.append (.cons ru .nil)) ?_,rfl,q⟩
 rw [List.length_append,List.length_singleton]
 omega
def b36:V→List V→Hp→VK→Prop:=fun x vs H Q=>∃ l b xs zs,x=.ref l∧vs=[.ref b]∧H l=some (.lst xs)∧H b=some (.lst zs)∧xs.length+zs.length≤sizeLine∧Q .non (upd H l (.lst (xs++zs)))
theorem a78:MtM X "list.extend" b36:=by
 intro pins s σ H x vs v us Q I rx rv h
 obtain ⟨l,b,xs,zs,rfl,rfl,hH,hB,hz,q⟩:=h
 cases rx
 obtain ⟨u,rfl,ru⟩:=rv.one
 cases ru
 obtain ⟨z,its,n,r,hl,e⟩:=I.lstM hH
 obtain ⟨z2,its2,n2,r2,hl2,e2⟩:=I.lstM hB
 have hsz:its.toArray.size+its2.toArray.size≤sizeLine:=by rw [List.size_toArray,List.size_toArray]; omega
 have hlong:¬ (!its.toArray.isEmpty && Builtin.List.listTooLong (its.toArray.size+its2.toArray.size))=true:=by
  rw [bb0 hsz,Bool.and_false]
  exact Bool.false_ne_true
 refine call_meets F.slot_list_extend ⟨_,e,rfl⟩ F.entry_list_extend (F.args_list_extend_2 _ _)
  (AutoSeq1.list_extend_list_list_0 l its.toArray n b its2.toArray n2 hlong (by rw [List.size_toArray]; omega) (by omega)) ⟨e,e2,?_⟩
 refine ⟨.non,_,I.lset (its':=its++its2) hH e (by simp) (r.append r2) ?_,rfl,q⟩
 rw [List.length_append]
 omega
def rPop:V→List V→Hp→VK→Prop:=fun x vs H Q=>∃ l xs y,x=.ref l∧vs=[]∧H l=some (.lst xs)∧xs[xs.length - 1]?=some y∧Q y (upd H l (.lst xs.dropLast))
theorem bf8:MtM X "list.pop" rPop:=by
 intro pins s σ H x vs v us Q I rx rv h
 obtain ⟨l,xs,y,rfl,rfl,hH,hy,q⟩:=h
 cases rx
 have hus:=rv.zero
 subst hus
 obtain ⟨z,its,n,r,hl,e⟩:=I.lstM hH
 obtain ⟨u,hu,ru⟩:=r.get hy
 have hy':its.toArray[its.toArray.size - 1]?=some u:=by
  show its.toArray[its.length - 1]?=some u
  rw [← Array.getElem?_toList,←hl]
  exact hu
 refine call_meets F.slot_list_pop ⟨_,e,rfl⟩ F.entry_list_pop (F.args_list_pop_1 _) (MeetsSeq.list_pop_last l its.toArray n u hy' (by rw [List.size_toArray]; omega)) ⟨e,?_⟩
 refine ⟨y,_,I.lset (its':=its.dropLast) hH e ?_ r.dropLast ?_,ru,q⟩
 · show its.toArray.eraseIdxIfInBounds (its.toArray.size - 1)=its.dropLast.toArray
   rw [List.size_toArray,List.eraseIdxIfInBounds_toArray,b03]
 · rw [List.length_dropLast]
   omega
def bs6:V→List V→Hp→VK→Prop:=fun x vs H Q=>∃ l xs i k y,x=.ref l∧vs=[.int i]∧H l=some (.lst xs)∧-(2 ^ 63)≤i∧i<2 ^ 63∧seqIndex? i xs.length=some k∧xs[k]?=some y∧Q y (upd H l (.lst (xs.eraseIdx k)))
theorem bb1:MtM X "list.pop" bs6:=by
 intro pins s σ H x vs v us Q I rx rv h
 obtain ⟨l,xs,i,k,y,rfl,rfl,hH,h1,h2,hk,hy,q⟩:=h
 cases rx
 obtain ⟨u,rfl,ru⟩:=rv.one
 obtain ⟨t,rfl⟩:=ru
 obtain ⟨z,its,n,r,hl,e⟩:=I.lstM hH
 obtain ⟨w,hw,rw'⟩:=r.get hy
 refine call_meets F.slot_list_pop ⟨_,e,rfl⟩ F.entry_list_pop (F.args_list_pop_2 _ _)
  (MeetsSeq.list_pop_at l its.toArray n i t k w (fitsIndex_both h1 h2) (by rw [List.size_toArray,←hl]; exact hk) (by rw [← Array.getElem?_toList]; exact hw) (by rw [List.size_toArray]; omega)) ⟨e,?_⟩
 refine ⟨y,_,I.lset (its':=its.eraseIdx k) hH e ?_ (r.eraseIdx k) ?_,rw',q⟩
 · show its.toArray.eraseIdxIfInBounds k=(its.eraseIdx k).toArray
   rw [List.eraseIdxIfInBounds_toArray]
 · have:=aq0 xs k
   omega
def bb2:V→List V→Hp→VK→Prop:=fun x vs H Q=>∃ l xs,x=.ref l∧vs=[]∧H l=some (.lst xs)∧Q .non (upd H l (.lst xs.reverse))
theorem b04:MtM X "list.reverse" bb2:=by
 intro pins s σ H x vs v us Q I rx rv h
 obtain ⟨l,xs,rfl,rfl,hH,q⟩:=h
 cases rx
 have hus:=rv.zero
 subst hus
 obtain ⟨z,its,n,r,hl,e⟩:=I.lstM hH
 refine call_meets F.slot_list_reverse ⟨_,e,rfl⟩ F.entry_list_reverse (F.args_list_reverse_1 _) (AutoSeq1.list_reverse_list_0 l its.toArray n (by rw [List.size_toArray]; omega)) ⟨e,?_⟩
 refine ⟨.non,_,I.lset (its':=its.reverse) hH e (by simp) r.reverse ?_,rfl,q⟩
 rw [List.length_reverse]
 omega
def rCat:R2:=fun x y H Q=>∃ l b xs zs,x=.ref l∧y=.ref b∧H l=some (.lst xs)∧H b=some (.lst zs)∧xs.length+zs.length≤sizeLine∧∀ p,H p=none→Q (.ref p) (upd H p (.lst (xs++zs)))
theorem bs7:OpR X (binaryOp .Add) rCat:=by
 intro pins s σ H x y v u Q I rx ry h
 obtain ⟨l,b,xs,zs,rfl,rfl,hH,hB,hz,q⟩:=h
 cases rx
 cases ry
 obtain ⟨z,its,n,r,hl,e⟩:=I.lstM hH
 obtain ⟨z2,its2,n2,r2,hl2,e2⟩:=I.lstM hB
 refine PySem.P.add_list e e2 ?_ (by rw [List.size_toArray,List.size_toArray]; omega)
 have ea:its.toArray++its2.toArray=(its++its2).toArray:=by simp
 rw [ea]
 exact ⟨.ref _,_,I.lnew (t':=s.toks) (r.append r2) (by rw [List.length_append]; omega),rfl,q _ I.fresh⟩
end
section
variable {prog:Program}{w:World}{A:Around}{E:Value→Shared→Prop}{s:Shared}
set_option maxRecDepth 100000 in
end
section
variable {X:Cx}
end
end L2
namespace Att
open PySem PySem.W PySem.Calls PyProof.Rows
theorem ai3 {P:Params}{h:Heap}:∀ (ns:List Int) (vs:List Value),WellAll P h vs (ns.map WData.int)→IntsAre vs ns:=by
 intro ns
 induction ns with
 | nil =>
   intro vs w
   rw [List.map_nil] at w
   cases w
   exact .nil
 | cons n ns ih =>
   intro vs w
   rw [List.map_cons] at w
   cases w with
   | cons a b =>
     cases a
     exact .cons _ _ (ih _ b)
theorem b37 {l:OpenLaw}{n:Nat}(hn:l.most=some n) {P:Params}{h:Heap}{args:List WData}{vals:List Value}
 (hpre:l.row.toRowW.claim.pre args=true) (hwl:WellAll P h vals args) :
 ∃ a vs ns,vals=[Value.ref a]∧args=[WData.list (ns.map WData.int)]∧h.get? a=some { cls:=.type "list",data:=.seq vs.toArray }∧IntsAre vs ns∧ns.length≤n:=by
 have hsh:WShape.hasAll [] args [.list .int]=true:=(pre_splitW hpre).1
 have hc:l.pre.holds [] { args:=args }=true:=(pre_splitW hpre).2
 obtain ⟨d,r,rfl,h1,h2⟩:=hasAllW_cons hsh
 obtain rfl:=hasAllW_nil h2
 obtain ⟨xs,rfl,h3⟩:=hasW_list h1
 obtain ⟨ns,rfl⟩:=items_int h3
 have hlen:ns.length≤n:=by
  unfold OpenLaw.pre at hc
  have h4:(WTm.not (.lt (.lit (.int (n:Int))) (.len (.arg 0)))).holds [] { args:=[.list (ns.map .int)] }=true:=by
   have h4:=(holds_andW hc).1
   rw [hn] at h4
   exact h4
  have h5:=condW_of h4 (w_not (w_lt w_lit (w_len_list (w_arg rfl))))
  rw [List.length_map] at h5
  refine Nat.le_of_not_lt fun q=>?_
  have q':(n:Int)<((ns.length:Nat):Int):=by omega
  first
   | (rw [decide_eq_true q'] at h5; exact absurd h5 (by decide))
   | (simp at h5; omega)
 cases hwl with
 | cons w1 w2 =>
   cases w2
   cases w1 with
   | list ho hall=>exact ⟨_,_,ns,rfl,rfl,ho,ai3 ns _ hall,hlen⟩
theorem b38 (l:OpenLaw) (args:List WData):l.row.toRowW.claim.post args (.bool true) args=true :=
 postW_of (r:=l.row.toRowW) (X:=(true == true))
  (show WShape.has [] (.bool true) .bool=true by first | rfl | decide | simp [WShape.has,WShape.arms,WShape.armsAll])
  (show (WTm.eq .res (.lit (.bool true))).value [] { args:=args,res:=some (.bool true),after:=args }=some (.bool (true == true)) from w_eq_bool (w_res rfl) w_lit) rfl
theorem attach_call {l:OpenLaw}{n:Nat}{q:Program}{loose:List Str}{XP:(Str→Option Value)→Heap→Prop}{YP:World→Heap→Prop}{d:DefRec}
 (hn:l.most=some n) (hdf:d.params.defaults=[])
 (call:∀ (w:World) (s₀ s₁:Shared) (mg mb:Str→Option Value) (fa:Addr) (o:Obj) (pm cd doc:Value) (a:Addr) (vs:List Value) (ns:List Int),
  Ground q loose [] XP w s₀ mg mb s₁.heap→YP w s₁.heap →
  s₁.heap.get? fa=some o→o.data=.func (docDef d.name d.params d.body d.scope pm cd doc)→s₁.heap.CodeRec cd d.name→mg d.name=some (.ref fa) →
  s₁.heap.get? a=some { cls:=.type "list",data:=.seq vs.toArray }→IntsAre vs ns→ns.length≤n→s₁.gens=#[] →
  codeAny (model l.prog w) callerA (.call (.ref fa) ⟨[.ref a],[]⟩) (fun r s'=>r=.ok (.ret (.bool true))∧OldK s₁.heap s'.heap∧s'.os=s₁.os∧AllBare s'.gens) s₁) :
 WalkO q loose XP YP l.row.toRowW d [] (fun f vs=>PySem.call f vs):=by
 intro w s₀ s₁ mg mb G Y fa o pm cd doc dV kV ho hd hcd hD hmg hg args vals as hpre hlay hrd hwl hlo
 obtain rfl:dV=.none:=Dflts.none hD hdf
 obtain rfl:kV=.none:=Dflts.noKw hD
 obtain ⟨a,vs,ns,rfl,rfl,hobj,hints,hlen⟩:=b37 hn hpre hwl
 refine enter_call (codeAny_mono (call w s₀ s₁ mg mb fa o pm cd doc a vs ns G Y ho (fd_plain hd) hcd hmg hobj hints hlen hg) fun r s' hq=>?_)
 obtain ⟨rfl,h2,h3,h4⟩:=hq
 exact ⟨.inl ⟨.bool true,.bool true,[],rfl,fun _=>rfl,.bool true,b38 l _,fun _=>⟨List.Pairwise.nil,fun _ hm=>(nomatch hm)⟩⟩,h2,h3,h4⟩
section
variable {prog:Program}{w:World}{A:Around}{E:Value→Shared→Prop}{s:Shared}{K:Frag}
end
end Att
namespace L2
open PySem PySem.Spec PyProof.Rows
theorem aq1:∀ {vs:List Value}{ns:List Int},IntsAre vs ns→Vals (ns.map V.int) vs
 | _,_,.nil=>.nil
 | _,_,.cons n t h=>.cons ⟨t,rfl⟩ (aq1 h)
def Only (H:Hp):Prop:=∀ b,H b=none∨∃ o xs,H b=some (.frz o (.lst xs))
theorem bb3 {P:Program}{w:World}{K:PySem.W.Frag}{mg mb:Str→Option Value}{CX:CXT}{k:Nat}{fa a:Addr}{fd:FuncData}{x:Str}{sp:Sp}{s₁:Shared}{vs:List Value}{ns:List Int}
 (KX:K.In s₁.heap) (hns:s₁.heap.Ns mainGlobals mg) (hb:s₁.heap.Ns builtinsNs mb) (hbb:∀ x:Str,x≠"__name__"→mb x=bootBuiltins x) (hlim:s₁.heap.NoLimit) (hg:s₁.gens=#[])
 (ha:s₁.heap.get? a=some { cls:=.type "list",data:=.seq vs.toArray }) (hi:IntsAre vs ns) (hl:ns.length≤sizeLine) (hr:Room k callerA)
 (F:∀ base:Heap,K.In base→base.Ns mainGlobals mg→FnOk P w K mg base CX k fa fd [x] sp) (hbind:∀ (s:Shared) (u:Value),BindsTo s fd ⟨[u],[]⟩ [(x,u)])
 (hsp:∀ H:Hp,Only H→SqL K H a (ns.map V.int)→sp [.ref a] H (fun v _=>v=.bl true) fun _ _ _=>False)
 (hCX:∀ H e s',CX [] H s₁ (fun _ _ _=>False) e s'→False) :
 codeAny (model P w) callerA (.call (.ref fa) ⟨[.ref a],[]⟩) (fun r s'=>r=.ok (.ret (.bool true))∧OldK s₁.heap s'.heap∧s'.os=s₁.os∧AllBare s'.gens) s₁:=by
 have rv:=aq1 hi
 have lenV:=hi.length
 have core:∀ H:Hp,Only H→SqL K H a (ns.map V.int)→HOk P w H s₁.heap→(∀ b,H b≠none→b=a)→(H a≠none→K.lookup a=none) →
  codeAny (model P w) callerA (.call (.ref fa) ⟨[.ref a],[]⟩) (fun r s'=>r=.ok (.ret (.bool true))∧OldK s₁.heap s'.heap∧s'.os=s₁.os∧AllBare s'.gens) s₁:=by
  intro H hO hS hok hA hK
  have base_of:∀ {b:Addr}{o:Obj},s₁.heap.get? b=some o→H b=none→(hidT s₁.heap H).get? b=some o:=fun e n=>b99 e n
  have noA:∀ {b:Addr}{o:Obj}{es:Array DictEntry}{ep:Nat},s₁.heap.get? b=some o→o.data=.dict es ep→H b=none:=fun {b o es ep} e d=>by
   cases q:H b with
   | none=>rfl
   | some u =>
     have e':b=a:=hA b (by rw [q]; simp)
     subst e'
     rw [ha] at e; cases e
     have d':Data.seq vs.toArray _=Data.dict es ep:=d
     cases d'
  have nsK:∀ {b:Addr}{m:Str→Option Value},s₁.heap.Ns b m→(hidT s₁.heap H).Ns b m:=fun {b m} ⟨o,es,ep,e,d,r⟩=>⟨o,es,ep,base_of e (noA e d),d,r⟩
  have hKb:K.In (hidT s₁.heap H):=fun b o e=>base_of (KX b o e) (by
   cases q:H b with
   | none=>rfl
   | some u =>
     have e':b=a:=hA b (by rw [q]; simp)
     subst e'
     rw [hK (by rw [q]; simp)] at e; cases e)
  have hM:Mod K mg (hidT s₁.heap H):=⟨hKb,nsK hns,⟨mb,nsK hb,hbb⟩,let ⟨mc,h1,h2⟩:=hlim; ⟨mc,nsK h1,h2⟩⟩
  have e0:Env0 P w K mg (hidT s₁.heap H) callerA [] s₁ H:=⟨rfl,hM,fun b o e=>bi5 e,Nat.le_of_eq (b17 _ _),trivial,fun b hb=>absurd (show b∈([]:List Addr) from hb) (by simp),hok,.of_eq hg⟩
  refine codeAny_mono ((F _ hKb (nsK hns)).run callerA [] s₁ H ⟨[.ref a],[]⟩ [.ref a] [.ref a] _ _ hr e0 (hbind s₁ (.ref a)) (.cons rfl .nil) (hsp H hO hS)) fun r s' h=>?_
  cases r with
  | error e=>exact (hCX H e s' h).elim
  | ok fl =>
    cases fl with
    | next=>exact False.elim h
    | brk=>exact False.elim h
    | cont=>exact False.elim h
    | ret u =>
      obtain ⟨v,H',os,bare,un,hok',r',q⟩:=h
      have q':v=.bl true:=q
      subst q'
      obtain rfl:u=Value.bool true:=r'
      refine ⟨rfl,OldK.of_keep fun b o e=>?_,os,bare⟩
      cases q:H b with
      | none=>exact un.keep b o e q (by intro z; exact absurd (show b∈([]:List Addr) from z) (by simp)) (by simp)
      | some u =>
        rcases hO b with z | ⟨ob,xs,z⟩
        · rw [q] at z; cases z
        · have z2:=un.frzs b ob _ z
          obtain ⟨e1,_⟩:=hok b _ z
          obtain ⟨e2,_⟩:=hok' b _ z2
          rw [e] at e1; cases e1
          exact e2
 cases hk:K.lookup a with
 | some o =>
   have e:=KX a o hk
   rw [ha] at e
   cases e
   refine core (fun _=>none) (fun _=>.inl rfl) (.inr ⟨_,vs.toArray,_,hk,rfl,rfl,rfl,by rw [List.size_toArray,lenV]; exact hl,by simpa using rv⟩) (fun b u z=>by have z':(none:Option HO)=some u:=z; cases z') (fun b z=>absurd rfl z) fun z=>absurd rfl z
 | none =>
   refine core (fun b=>if b=a then some (.frz { cls:=.type "list",data:=.seq vs.toArray } (.lst (ns.map V.int))) else none) (fun b=>?_) (.inl (.inr ⟨{ cls:=.type "list",data:=.seq vs.toArray },if_pos rfl⟩)) (fun b u z=>?_) (fun b z=>?_) fun _=>hk
   · by_cases hb:b=a
     · exact .inr ⟨_,_,if_pos hb⟩
     · exact .inl (if_neg hb)
   · by_cases hb:b=a
     · have z':=(if_pos hb).symm.trans z
       cases z'
       subst hb
       exact ⟨ha,by rw [List.length_map]; exact hl,vs,_,rv,ha⟩
     · have z':=(if_neg hb).symm.trans z
       cases z'
   · by_cases hb:b=a
     · exact hb
     · exact absurd (if_neg hb) z
theorem walk_of {l:PySem.W.OpenLaw}{n k:Nat}{q:Program}{loose:List Str}{XP:(Str→Option Value)→Heap→Prop}{YP:World→Heap→Prop}{d:DefRec}{K:Params→PySem.W.Frag}{CX:World→CXT}{sp:World→Sp}{x:Str}
 (hn:l.most=some n) (hn2:n≤sizeLine) (hdf:d.params.defaults=[]) (hr:Room k callerA)
 (hY:∀ (w:World) (h:Heap),YP w h→(K w.params).In h)
 (F:∀ (w:World) (mg:Str→Option Value) (fa:Addr) (h:Heap),(K w.params).In h→h.Ns mainGlobals mg→mg d.name=some (.ref fa) →
  ∃ fd:FuncData,(∀ (s:Shared) (u:Value),BindsTo s fd ⟨[u],[]⟩ [(x,u)]) ∧
   ∀ base:Heap,(K w.params).In base→base.Ns mainGlobals mg→FnOk l.prog w (K w.params) mg base (CX w) k fa fd [x] (sp w))
 (hsp:∀ (w:World) (H:Hp) (a:Addr) (ns:List Int),ns.length≤n→Only H→SqL (K w.params) H a (ns.map V.int)→sp w [.ref a] H (fun v _=>v=.bl true) fun _ _ _=>False)
 (hCX:∀ (w:World) (H:Hp) (s:Shared) (e:Value) (s':Shared),CX w [] H s (fun _ _ _=>False) e s'→False) :
 PySem.W.WalkO q loose XP YP l.row.toRowW d [] (fun f vs=>PySem.call f vs):=by
 refine Att.attach_call hn hdf fun w s₀ s₁ mg mb fa o pm cd doc a vs ns G Y ho hd hcd hmg hobj hints hlen hg=>?_
 have KX:=hY w _ Y
 obtain ⟨fd,hb,hF⟩:=F w mg fa _ KX G.T.g hmg
 exact bb3 KX G.T.g G.T.b G.T.builtins G.T.nolimit hg hobj hints (Nat.le_trans hlen hn2) hr hF hb (fun H hO hS=>hsp w H a ns hlen hO hS) fun H e s'=>hCX w H s₁ e s'
def af8 (s:Stmt) (j:Nat):Stmt:=match s with
 | .ClassDef _ _ _ body _ _ _ _ _ _ _=>body.getD j (.Pass ⟨0,0,0,0⟩)
 | _=>.Pass ⟨0,0,0,0⟩
def ad1 (s:Stmt):Arguments:=match s with
 | .FunctionDef _ a _ _ _ _ _ _ _ _=>a
 | _=>{ posonlyargs:=[],args:=[],vararg:=none,kwonlyargs:=[],kw_defaults:=[],kwarg:=none,defaults:=[] }
def aa7 (s:Stmt):List Stmt:=match s with
 | .FunctionDef _ _ b _ _ _ _ _ _ _=>b
 | _=>[]
def a07 (s:Stmt):Scope:=match s with
 | .FunctionDef _ _ _ _ _ _ sc _ _ _=>sc
 | _=>{ kind:=.function,names:=[],isGenerator:=false,isCoroutine:=false }
abbrev CX0:CXT:=fun _ _ _ _ _ _=>False
abbrev E0:XK:=fun _ _ _=>False
theorem a18 {X:Cx}:ak7 CX0 X E0:=fun _ _ _ _ _ _ _ h=>h.elim
structure Fun (K:PySem.W.Frag) (x qual:Str) (st:Stmt) (f:Addr) (fd:FuncData):Prop where
 ex:∃ (oc:Value) (od:Option Addr) (kV doc pm:Value) (an:Option Addr) (cdv ct:Value) (osl:Array (Option Value)),
  fd=PySem.W.fnOf x qual (ad1 st) (aa7 st) (a07 st) .none kV doc pm an cdv ct∧K.lookup f=some ⟨oc,od,.func fd,osl⟩∧PySem.W.codeIn K cdv qual=true
 kp:PySem.W.keepIn K (.ref f)=true
section
variable {P:Program}{w:World}{K:PySem.W.Frag}{mg:Str→Option Value}{base:Heap}
theorem Fun.ok {x qual:Str}{st:Stmt}{f:Addr}{fd:FuncData}{N ps:List Str}{k:Nat}{sp:Sp}(F:Fun K x qual st f fd) (S:FnScope N ps (a07 st)) (len:∀ vs H Q E,sp vs H Q E→vs.length=ps.length)
 (hbody:∀ (cdv:Value) (A:Around) (outer:List Env) (s:Shared) (H:Hp) (vs:List V) (Q:VK) (E:XK),Room k (A.deeper (envOfC qual (a07 st) s.heap.objs.size f cdv))→sp vs H Q E →
  ∃ t,PSs (cxOf CX0 P w K mg base N qual (a07 st) f cdv A outer s H E).nox (aa7 st) t∧t { nx:=fun _ H'=>Q .non H',rt:=Q } (start N vs) H):FnOk P w K mg base CX0 (k+1) f fd ps sp:=by
 obtain ⟨oc,od,kV,doc,pm,an,cdv,ct,osl,rfl,lk,hcd⟩:=F.ex
 refine c26 lk hcd S len fun A outer s H vs Q E hr hsp=>?_
 obtain ⟨t,h,q⟩:=hbody cdv A outer s H vs Q E hr hsp
 exact ⟨t,h.nox,q⟩
theorem Fun.binds {x qual:Str}{st:Stmt}{f:Addr}{fd:FuncData}{ps:List Str}(F:Fun K x qual st f fd)
 (h:∀ (kV doc pm:Value) (an:Option Addr) (cdv ct:Value) (us:List Value),us.length=ps.length→bindArgs (PySem.W.fnOf x qual (ad1 st) (aa7 st) (a07 st) .none kV doc pm an cdv ct) ⟨us,[]⟩=pure (ps.zip us)):Binds K fd ps []:=by
 obtain ⟨oc,od,kV,doc,pm,an,cdv,ct,osl,rfl,lk,hcd⟩:=F.ex
 exact .all (h kV doc pm an cdv ct)
theorem bf9 {x qual:Str}{st:Stmt}{f:Addr}{oc:Value}{od an:Option Addr}{osl:Array (Option Value)}{kV doc pm cdv ct:Value}(l:K.lookup f=some ⟨oc,od,.func (PySem.W.fnOf x qual (ad1 st) (aa7 st) (a07 st) .none kV doc pm an cdv ct),osl⟩)
 (c:PySem.W.codeIn K cdv qual=true) (k:PySem.W.keepIn K (.ref f)=true):Fun K x qual st f (PySem.W.fnOf x qual (ad1 st) (aa7 st) (a07 st) .none kV doc pm an cdv ct):=⟨⟨oc,od,kV,doc,pm,an,cdv,ct,osl,rfl,l,c⟩,k⟩
end
theorem b05 {A:Around}{k:Nat}(hr:Room k A):A.units+1<cLine:=Nat.lt_of_le_of_lt (Nat.add_le_add_left (by decide:1≤64) _) hr.units
theorem small1000 {n:Nat}(h:n≤1000):n<sizeLine:=Nat.lt_of_le_of_lt h (by decide)
section
variable {X:Cx}
theorem pv (i:Nat) {x:Str}{pos:Pos}(hN:X.N[i]?=some x:=by rfl) (hv:Vis X.env.scope x:=by first | exact Or.inl rfl | exact Or.inr (Or.inl rfl) | exact Or.inr (Or.inr rfl)) (hd:(x == ("__debug__":Str))=false:=by decide)
 (hcd:(x == ("__classdict__":Str))=false:=by decide):PE X (.Name x pos) (tVar i):=bp9 hN hv hd hcd
end
theorem iteF {A B:Prop}(h:B):if false=true then A else B:=by
 rw [if_neg Bool.false_ne_true]
 exact h
theorem iteT {A B:Prop}(h:A):if true=true then A else B:=by
 rw [if_pos rfl]
 exact h
def Same (H H':Hp):Prop:=∀ b o,H b=some o→H' b=some o
theorem Same.refl (H:Hp):Same H H:=fun _ _ h=>h
theorem Same.trans {H H1 H2:Hp}(a:Same H H1) (b:Same H1 H2):Same H H2:=fun c o h=>b c o (a c o h)
theorem Same.free {H H':Hp}(e:Same H H') {l:Addr}(h:H' l=Option.none):H l=Option.none:=by
 cases q:H l with
 | none=>rfl
 | some o =>
   rw [e l o q] at h
   cases h
end L2
namespace K15
open PySem L2
def top (i:Nat):Stmt:=PySem.Challenge.pw_callmill_k15_dry_loops.main.body.getD i (.Pass ⟨0,0,0,0⟩)
def view:Program:={ PySem.Challenge.pw_callmill_k15_dry_loops with main:={ PySem.Challenge.pw_callmill_k15_dry_loops.main with body:=[top 1,top 2,top 4,top 6,top 8,top 9,top 10,top 11,top 12,top 13,top 14,top 15,top 16,top 17,top 18,top 19,top 20,top 21,top 22,top 23,top 24,top 26,top 27,top 28,top 29,top 30,top 31,top 32,top 33,top 34,top 35,top 36,top 37,top 38] } }
abbrev ad2:Stmt:=top 1
abbrev aa8:Stmt:=top 2
abbrev aa9:Stmt:=top 4
abbrev ak8:Stmt:=top 6
abbrev aw7:Stmt:=top 10
abbrev b39:Stmt:=top 11
abbrev a77:Stmt:=top 12
abbrev a49:Stmt:=top 13
abbrev a43:Stmt:=af8 (top 14) 0
abbrev ab0:Stmt:=af8 (top 14) 1
abbrev a76:Stmt:=af8 (top 14) 2
abbrev a53:Stmt:=af8 (top 14) 3
abbrev a68:Stmt:=af8 (top 14) 4
abbrev a52:Stmt:=af8 (top 14) 5
abbrev ag3:Stmt:=top 15
abbrev a65:Stmt:=top 16
abbrev a66:Stmt:=top 17
abbrev ae3:Stmt:=top 18
abbrev a85:Stmt:=top 19
abbrev aw8:Stmt:=top 20
abbrev a67:Stmt:=top 21
abbrev a79:Stmt:=top 22
abbrev ad3:Stmt:=top 23
abbrev ac9:Stmt:=top 24
abbrev ae4:Stmt:=top 26
abbrev ai4:Stmt:=top 27
abbrev ak9:Stmt:=top 28
abbrev al0:Stmt:=top 29
abbrev al1:Stmt:=top 30
abbrev ab1:Stmt:=top 31
abbrev al2:Stmt:=top 32
abbrev ag4:Stmt:=top 33
abbrev ab2:Stmt:=top 34
abbrev ae5:Stmt:=top 35
abbrev ab9:Stmt:=top 36
abbrev aq2:Stmt:=top 37
abbrev bs8:Stmt:=top 38
def aq3 (K:PySem.W.Frag):Sp:=fun vs H Q _=>∃ (a:Addr) (ns:List Int),vs=[.ref a]∧SqL K H a (ns.map V.int)∧ns.length≤63∧∀ H',Q (.bl true) H'
set_option genInjectivity false in
structure Adr where
 {a_bodies_of:Addr}
 {fd_bodies_of:FuncData}
 {a_statements_in:Addr}
 {fd_statements_in:FuncData}
 {a_shown_pattern:Addr}
 {fd_shown_pattern:FuncData}
 {a_names_in:Addr}
 {fd_names_in:FuncData}
 {a_faults:Addr}
 {fd_faults:FuncData}
 {a_sound:Addr}
 {fd_sound:FuncData}
 {a_head_faults:Addr}
 {fd_head_faults:FuncData}
 {a_names_met_again:Addr}
 {fd_names_met_again:FuncData}
 {a_TalkLook___init__:Addr}
 {fd_TalkLook___init__:FuncData}
 {a_TalkLook_tell:Addr}
 {fd_TalkLook_tell:FuncData}
 {a_TalkLook_look_body:Addr}
 {fd_TalkLook_look_body:FuncData}
 {a_TalkLook_look_statement:Addr}
 {fd_TalkLook_look_statement:FuncData}
 {a_TalkLook_look_names:Addr}
 {fd_TalkLook_look_names:FuncData}
 {a_TalkLook_look_wait:Addr}
 {fd_TalkLook_look_wait:FuncData}
 {a_first_talk:Addr}
 {fd_first_talk:FuncData}
 {a_round_faults:Addr}
 {fd_round_faults:FuncData}
 {a_called_talks:Addr}
 {fd_called_talks:FuncData}
 {a_comes_round:Addr}
 {fd_comes_round:FuncData}
 {a_dry_faults:Addr}
 {fd_dry_faults:FuncData}
 {a_is_dry:Addr}
 {fd_is_dry:FuncData}
 {a_ends_of_body:Addr}
 {fd_ends_of_body:FuncData}
 {a_ends_of_statement:Addr}
 {fd_ends_of_statement:FuncData}
 {a_kept_ends:Addr}
 {fd_kept_ends:FuncData}
 {a_ends_of_talk:Addr}
 {fd_ends_of_talk:FuncData}
 {a__law_cell_at:Addr}
 {fd__law_cell_at:FuncData}
 {a__law_drawn:Addr}
 {fd__law_drawn:FuncData}
 {a__law_deck:Addr}
 {fd__law_deck:FuncData}
 {a__law_take:Addr}
 {fd__law_take:FuncData}
 {a__law_wait:Addr}
 {fd__law_wait:FuncData}
 {a__law_statement:Addr}
 {fd__law_statement:FuncData}
 {a__law_body:Addr}
 {fd__law_body:FuncData}
 {a__law_script:Addr}
 {fd__law_script:FuncData}
 {a__law_turned:Addr}
 {fd__law_turned:FuncData}
 {a__law_ways_of:Addr}
 {fd__law_ways_of:FuncData}
 {a__law_ways:Addr}
 {fd__law_ways:FuncData}
 {a__law_dry:Addr}
 {fd__law_dry:FuncData}
 {a_law:Addr}
 {fd_law:FuncData}
 {c_TalkLook:Addr}
 {u_ENDS:Value}
 {u_NONE:Value}
 {ad_ENDS:Addr}
 {ad_NONE:Addr}
structure CIi (K:PySem.W.Frag) (x q:Str) (st:Stmt) (ps:List Str) (a:Addr) (fd:FuncData):Prop where
 F:Fun K x q st a fd
 b:Binds K fd ps []
structure CFi (K:PySem.W.Frag) (mg:Str→Option Value) (x:Str) (st:Stmt) (ps:List Str) (a:Addr) (fd:FuncData):Prop extends CIi K x x st ps a fd where
 m:mg x=some (.ref a)
structure CMi (K:PySem.W.Frag) (c:Addr) (x q:Str) (st:Stmt) (ps:List Str) (a:Addr) (fd:FuncData):Prop extends CIi K x q st ps a fd where
 M:Meth K c x a
structure Txt (K:PySem.W.Frag) (mg:Str→Option Value) (t:Adr):Prop where
 m_TalkLook:mg "TalkLook"=some (.ref t.c_TalkLook)
 cl_TalkLook:Cls K t.c_TalkLook
 mk_TalkLook:Mk K t.c_TalkLook t.a_TalkLook___init__
 n_TalkLook_box_names:NoAttr K t.c_TalkLook "box_names"
 n_TalkLook_found:NoAttr K t.c_TalkLook "found"
 n_TalkLook_talk:NoAttr K t.c_TalkLook "talk"
 n_TalkLook_talk_names:NoAttr K t.c_TalkLook "talk_names"
 f_bodies_of:CFi K mg "bodies_of" ad2 ["statement"] t.a_bodies_of t.fd_bodies_of
 f_statements_in:CFi K mg "statements_in" aa8 ["body"] t.a_statements_in t.fd_statements_in
 f_shown_pattern:CFi K mg "shown_pattern" aa9 ["pattern"] t.a_shown_pattern t.fd_shown_pattern
 f_names_in:CFi K mg "names_in" ak8 ["thing"] t.a_names_in t.fd_names_in
 f_faults:CFi K mg "faults" aw7 ["script"] t.a_faults t.fd_faults
 f_sound:CFi K mg "sound" b39 ["script"] t.a_sound t.fd_sound
 f_head_faults:CFi K mg "head_faults" a77 ["script"] t.a_head_faults t.fd_head_faults
 f_names_met_again:CFi K mg "names_met_again" a49 ["things"] t.a_names_met_again t.fd_names_met_again
 f_TalkLook___init__:CIi K "__init__" "TalkLook.__init__" a43 ["self","talk","script"] t.a_TalkLook___init__ t.fd_TalkLook___init__
 f_TalkLook_tell:CMi K t.c_TalkLook "tell" "TalkLook.tell" ab0 ["self","word","what"] t.a_TalkLook_tell t.fd_TalkLook_tell
 f_TalkLook_look_body:CMi K t.c_TalkLook "look_body" "TalkLook.look_body" a76 ["self","body","in_loop"] t.a_TalkLook_look_body t.fd_TalkLook_look_body
 f_TalkLook_look_statement:CMi K t.c_TalkLook "look_statement" "TalkLook.look_statement" a53 ["self","statement","in_loop"] t.a_TalkLook_look_statement t.fd_TalkLook_look_statement
 f_TalkLook_look_names:CMi K t.c_TalkLook "look_names" "TalkLook.look_names" a68 ["self","names"] t.a_TalkLook_look_names t.fd_TalkLook_look_names
 f_TalkLook_look_wait:CMi K t.c_TalkLook "look_wait" "TalkLook.look_wait" a52 ["self","statement","in_loop"] t.a_TalkLook_look_wait t.fd_TalkLook_look_wait
 f_first_talk:CFi K mg "first_talk" ag3 ["talks","name"] t.a_first_talk t.fd_first_talk
 f_round_faults:CFi K mg "round_faults" a65 ["talks"] t.a_round_faults t.fd_round_faults
 f_called_talks:CFi K mg "called_talks" a66 ["talks","body"] t.a_called_talks t.fd_called_talks
 f_comes_round:CFi K mg "comes_round" ae3 ["talk","called"] t.a_comes_round t.fd_comes_round
 f_dry_faults:CFi K mg "dry_faults" a85 ["talks"] t.a_dry_faults t.fd_dry_faults
 f_is_dry:CFi K mg "is_dry" aw8 ["loop","talks","known"] t.a_is_dry t.fd_is_dry
 f_ends_of_body:CFi K mg "ends_of_body" a67 ["body","talks","known"] t.a_ends_of_body t.fd_ends_of_body
 f_ends_of_statement:CFi K mg "ends_of_statement" a79 ["statement","talks","known"] t.a_ends_of_statement t.fd_ends_of_statement
 f_kept_ends:CFi K mg "kept_ends" ad3 ["ends","kept"] t.a_kept_ends t.fd_kept_ends
 f_ends_of_talk:CFi K mg "ends_of_talk" ac9 ["name","talks","known"] t.a_ends_of_talk t.fd_ends_of_talk
 f__law_cell_at:CFi K mg "_law_cell_at" ae4 ["script","k"] t.a__law_cell_at t.fd__law_cell_at
 f__law_drawn:CFi K mg "_law_drawn" ai4 ["cell","k"] t.a__law_drawn t.fd__law_drawn
 f__law_deck:CFi K mg "_law_deck" ak9 ["script","own"] t.a__law_deck t.fd__law_deck
 f__law_take:CFi K mg "_law_take" al0 ["deck","many"] t.a__law_take t.fd__law_take
 f__law_wait:CFi K mg "_law_wait" al1 ["deck","deep","later","looped"] t.a__law_wait t.fd__law_wait
 f__law_statement:CFi K mg "_law_statement" ab1 ["deck","deep","later","looped"] t.a__law_statement t.fd__law_statement
 f__law_body:CFi K mg "_law_body" al2 ["deck","deep","later","looped"] t.a__law_body t.fd__law_body
 f__law_script:CFi K mg "_law_script" ag4 ["deck"] t.a__law_script t.fd__law_script
 f__law_turned:CFi K mg "_law_turned" ab2 ["ways","turned"] t.a__law_turned t.fd__law_turned
 f__law_ways_of:CFi K mg "_law_ways_of" ae5 ["talks","statement"] t.a__law_ways_of t.fd__law_ways_of
 f__law_ways:CFi K mg "_law_ways" ab9 ["talks","body"] t.a__law_ways t.fd__law_ways
 f__law_dry:CFi K mg "_law_dry" aq2 ["talks","name","body"] t.a__law_dry t.fd__law_dry
 f_law:CFi K mg "law" bs8 ["script"] t.a_law t.fd_law
 z_abs:mg "abs"=none
 z_dict:mg "dict"=none
 z_enumerate:mg "enumerate"=none
 z_isinstance:mg "isinstance"=none
 z_len:mg "len"=none
 z_list:mg "list"=none
 z_range:mg "range"=none
 z_str:mg "str"=none
 m_ENDS:mg "ENDS"=some t.u_ENDS
 r_ENDS:RelV (.ref t.ad_ENDS) t.u_ENDS
 m_NONE:mg "NONE"=some t.u_NONE
 r_NONE:RelV (.ref t.ad_NONE) t.u_NONE
 dd_ENDS:∃ od its nn sl,K.lookup t.ad_ENDS=some ⟨.type "tuple",od,.seq its nn,sl⟩∧its.size≤sizeLine∧Vals [.str "on",.str "again",.str "leave",.str "back",.str "stop"] its.toList
 dd_NONE:∃ od its nn sl,K.lookup t.ad_NONE=some ⟨.type "tuple",od,.seq its nn,sl⟩∧its.size≤sizeLine∧Vals [.str "none"] its.toList
theorem aj8 {us:List Value}{n:Nat}(h:us.length=n+1):∃ u r,us=u::r:=by
 cases us with
 | nil=>cases h
 | cons u r=>exact ⟨u,r,rfl⟩
theorem c28 {us:List Value}(h:us.length=1):∃ u0,us=[u0]:=by
 obtain ⟨u0,us,rfl⟩:=aj8 h; replace h:=Nat.succ.inj h
 obtain rfl:=List.length_eq_zero_iff.mp h
 exact ⟨u0,rfl⟩
theorem c29 {us:List Value}(h:us.length=2):∃ u0 u1,us=[u0,u1]:=by
 obtain ⟨u0,us,rfl⟩:=aj8 h; replace h:=Nat.succ.inj h
 obtain ⟨u1,us,rfl⟩:=aj8 h; replace h:=Nat.succ.inj h
 obtain rfl:=List.length_eq_zero_iff.mp h
 exact ⟨u0,u1,rfl⟩
theorem c30 {us:List Value}(h:us.length=3):∃ u0 u1 u2,us=[u0,u1,u2]:=by
 obtain ⟨u0,us,rfl⟩:=aj8 h; replace h:=Nat.succ.inj h
 obtain ⟨u1,us,rfl⟩:=aj8 h; replace h:=Nat.succ.inj h
 obtain ⟨u2,us,rfl⟩:=aj8 h; replace h:=Nat.succ.inj h
 obtain rfl:=List.length_eq_zero_iff.mp h
 exact ⟨u0,u1,u2,rfl⟩
theorem c31 {us:List Value}(h:us.length=4):∃ u0 u1 u2 u3,us=[u0,u1,u2,u3]:=by
 obtain ⟨u0,us,rfl⟩:=aj8 h; replace h:=Nat.succ.inj h
 obtain ⟨u1,us,rfl⟩:=aj8 h; replace h:=Nat.succ.inj h
 obtain ⟨u2,us,rfl⟩:=aj8 h; replace h:=Nat.succ.inj h
 obtain ⟨u3,us,rfl⟩:=aj8 h; replace h:=Nat.succ.inj h
 obtain rfl:=List.length_eq_zero_iff.mp h
 exact ⟨u0,u1,u2,u3,rfl⟩
theorem bk0 {K:PySem.W.Frag}{x q:Str}{st:Stmt}{f:Addr}{ps:List Str}{oc:Value}{od an:Option Addr}{osl:Array (Option Value)}{kV doc pm cdv ct:Value}(l:K.lookup f=some ⟨oc,od,.func (PySem.W.fnOf x q (ad1 st) (aa7 st) (a07 st) .none kV doc pm an cdv ct),osl⟩) (c:PySem.W.codeIn K cdv q=true) (k:PySem.W.keepIn K (.ref f)=true) (b:∀ (kV doc pm:Value) (an:Option Addr) (cdv ct:Value) (us:List Value),us.length=ps.length→bindArgs (PySem.W.fnOf x q (ad1 st) (aa7 st) (a07 st) .none kV doc pm an cdv ct) ⟨us,[]⟩=pure (ps.zip us)):CIi K x q st ps f (PySem.W.fnOf x q (ad1 st) (aa7 st) (a07 st) .none kV doc pm an cdv ct):=⟨bf9 l c k,(bf9 l c k).binds b⟩
theorem c32 {K:PySem.W.Frag}{mg:Str→Option Value}{h:Heap}{x:Str}{st:Stmt}{ps:List Str}{f:Addr}{fd:FuncData}(X:K.In h) (G:h.Ns mainGlobals mg) (a:PySem.W.nsIn K mainGlobals x=some (some (.ref f))) (i:CIi K x x st ps f fd):CFi K mg x st ps f fd:=⟨i,PySem.W.mg_of X G a⟩
def HF (P:Params) (K:PySem.W.Frag):Prop:=∃ t:Adr,∀ (mg:Str→Option Value) (h:Heap),K.In h→h.Ns mainGlobals mg→Txt K mg t
theorem walk2 {l:PySem.W.OpenLaw}{q:Program}{loose:List Str}{XP:(Str→Option Value)→Heap→Prop}{YP:World→Heap→Prop}{d:DefRec}{K:Params→PySem.W.Frag}(hn:l.most=some 63) (hdf:d.params.defaults=[]) (hd:d.name="law") (hl:l=PySem.Challenge.rw_callmill_k15_dry_loops) (hY:∀ (w:World) (h:Heap),YP w h→(K w.params).In h) (hF:∀ P,HF P (K P)) (G:∀ K:Params→PySem.W.Frag,(∀ P,HF P (K P))→(∀ (w:World) (mg:Str→Option Value) (fa:Addr) (h:Heap),(K w.params).In h→h.Ns mainGlobals mg→mg "law"=some (.ref fa)→∃ fd:FuncData,(∀ (s:Shared) (u:Value),BindsTo s fd ⟨[u],[]⟩ [("script",u)])∧∀ base:Heap,(K w.params).In base→base.Ns mainGlobals mg→FnOk PySem.Challenge.rw_callmill_k15_dry_loops.prog w (K w.params) mg base CX0 230 fa fd ["script"] (aq3 (K w.params)))):PySem.W.WalkO q loose XP YP l.row.toRowW d [] (fun f vs=>PySem.call f vs) :=
 L2.walk_of (n:=63) (k:=230) (x:="script") (CX:=fun _=>CX0) (sp:=fun w=>aq3 (K w.params)) hn (by decide) hdf ⟨rfl,by decide,by decide⟩ hY (by rw [hd,hl]; exact G K hF) (fun _ _ a ns hl _ hS=>⟨a,ns,rfl,hS,hl,fun _=>rfl⟩) fun _ _ _ _ _ z=>z
theorem c33 {K:PySem.W.Frag}{C:Addr}{x q:Str}{st:Stmt}{ps:List Str}{f:Addr}{fd:FuncData}(a:PySem.W.findIn K (.ref C) x=some (some (.ref f))) (i:PySem.W.isFn K (.ref f)=true) (h:CIi K x q st ps f fd):CMi K C x q st ps f fd:=⟨h,a,i,h.F.kp⟩
theorem c34 {K:PySem.W.Frag}{a:Addr}{vs:List V}{od:Option Addr}{its:Array Value}{nn:Nat}{sl:Array (Option Value)}(h1:K.lookup a=some ⟨.type "tuple",od,.seq its nn,sl⟩) (h2:its.size≤sizeLine) (h3:Vals vs its.toList):∃ od its nn sl,K.lookup a=some ⟨.type "tuple",od,.seq its nn,sl⟩∧its.size≤sizeLine∧Vals vs its.toList:=⟨_,_,_,_,h1,h2,h3⟩
theorem c35 {K:PySem.W.Frag}{a:Addr}{od:Option Addr}{cd:ClassData}{sl:Array (Option Value)}(h:K.lookup a=some ⟨.type "type",od,.cls cd,sl⟩):∃ od cd sl,K.lookup a=some ⟨.type "type",od,.cls cd,sl⟩:=⟨_,_,_,h⟩
section
open PySem PySem.W PyProof.Rows
local macro_rules | `(tactic| o_head $H) => `(tactic| refine holds_open (q := K15.view) (loose := []) (Xt := fun s => xlAt K15.view [] s && recOk (RowW.records _) s) (XP := XL K15.view []) (Yf := Hook.obs $H) (Ya := Hook.val $H) (YP := Hook.says $H) (N := 8000) ?hl (Hook.of $H) (Hook.keeps $H) (fun s e => xl_of s (Bool.and_eq_true_iff.mp e).1) XL.keeps (by rfl) (by rfl) (by rfl) (fun s e => recFacts_of (Bool.and_eq_true_iff.mp e).2) (by rfl) (by first | assumption | decide +kernel) (by decide +kernel) ⟨rfl, rfl, rfl, rfl, rfl, by decide +kernel⟩ ?hw ?hc)
local macro_rules | `(tactic| walk_at "bi") => `(tactic| (intro _ _ _ _ _ _ us hl; first | (obtain ⟨_, z⟩ := c28 hl; subst z; rfl) | (obtain ⟨_, _, z⟩ := c29 hl; subst z; rfl) | (obtain ⟨_, _, _, z⟩ := c30 hl; subst z; rfl) | (obtain ⟨_, _, _, _, z⟩ := c31 hl; subst z; rfl)))
local macro_rules | `(tactic| walk_at "fi") => `(tactic| first | (refine' c32 $(Lean.mkIdent `X) $(Lean.mkIdent `G) ?a (bk0 ?l ?c ?k (by walk_at "bi")); (case a => k_is); (case l => k_is); (case c => k_is); (case k => k_is)) | (refine' c33 ?a ?i (bk0 ?l ?c ?k (by walk_at "bi")); (case a => k_is); (case i => k_is); (case l => k_is); (case c => k_is); (case k => k_is)) | (refine' bk0 ?l ?c ?k (by walk_at "bi"); (case l => k_is); (case c => k_is); (case k => k_is)) | (refine' PySem.W.mg_of $(Lean.mkIdent `X) $(Lean.mkIdent `G) ?a; (case a => k_is)) | (refine' PySem.W.mg_none_of $(Lean.mkIdent `X) $(Lean.mkIdent `G) ?a; (case a => k_is)) | (unfold NoAttr; k_is) | k_is | (refine' Cls.mk ?a ?b ?c ?d; (case a => k_is); (case b => k_is); (case c => k_is); (case d => k_is)) | (refine' Mk.mk ?a ?b ?c ?d; (case a => k_is); (case b => k_is); (case c => k_is); (case d => k_is)) | exact ⟨_, rfl⟩ | (with_reducible exact rfl) | (refine' c34 ?a ?b ?c; (case a => k_is); (case b => exact Nat.le_of_lt (L2.small1000 (by decide))); (case c => repeat first | exact .nil | refine .cons (by first | exact rfl | exact ⟨_, rfl⟩) ?_)) | (refine' c35 ?a; (case a => k_is)) | (change PySem.W.excIn _ _ _ _ = true; kernel_rfl) | exact rfl)
def bt:List Obj→Nat→BT→BT
 | [],_,t=>t
 | o::l,i,t=>bt l (i+1) (t.ins i o)
noncomputable def T0 (P:Params):BT:=bt (boot_heap P).objs.toList 0 .nil
def runT (tb:String→Option Builtin) (p:Program) (w:World) (n₀:Nat) (ann:Option Value):Nat→SharedT→Thread→Option SharedT
 | 0,_,_=>none
 | n+1,s,t=>match through t with
   | true=>some s
   | false=>match stepOk n₀ ann t with
     | false=>none
     | true=>match stepT (denote tb) p w s t with
       | some (s',t')=>runT tb p w n₀ ann n s' t'
       | none=>none
theorem b40 {tb:String→Option Builtin}{p:Program}{w:World}{n₀:Nat}{ann:Option Value}:∀ {n:Nat}{s s':SharedT}{t:Thread},runT tb p w n₀ ann n s t=some s'→topRun tb p w n₀ ann n s.abs t=some s'.abs
 | 0,_,_,_,h=>by cases h
 | n+1,s,s',t,h=>by
   unfold runT at h
   unfold topRun
   cases he:through t with
   | true=>rw [he] at h; cases h; rfl
   | false =>
     rw [he] at h
     cases hk:stepOk n₀ ann t with
     | false=>rw [hk] at h; cases h
     | true =>
       rw [hk] at h
       cases hs:stepT (denote tb) p w s t with
       | none=>rw [hs] at h; cases h
       | some r=>obtain ⟨s₂,t₂⟩:=r; rw [hs] at h; rw [stepT_spec hs]; exact b40 h
theorem b41 {p q:Program}{loose:List Str}{Xt:Shared→Bool}{α:Type}{Yf:Shared→α}{Ya:World→α}{N:Nat}{g0:Bool}{m₀:Nat}{ann:Option Value}(e:opening p=plainProg p.main.scope.names) (hN:Nat.ble 600 N=true) (f:∀ s,fenceModules? p s=some s)
 (b:∀ P,boot_heap P=absHeap (T0 P) m₀ (boot_heap P).life) (z:∀ w:World,(boot_heap w.params).isNs mainGlobals=true∧(boot_heap w.params).objs.size=m₀∧(boot_heap w.params).nsMap mainGlobals "__annotations__"=ann)
 (h1:∀ (w:World) (os:OsState),(runT treeTable p w m₀ ann N ⟨T0 w.params,m₀,(boot_heap w.params).life,Array.mk [],boot_drawn,boot_toks,os⟩ (topStub p)).map (fun s=>(staticsOk (importedModules p.main.body) (boot_heap w.params) s.abs.heap && namesBound p s.abs.heap && gensDone s.abs && laidKept (boot_heap w.params) s.abs.heap,Yf s.abs))=some (true,Ya w))
 (h2:∀ (w:World) (os:OsState),(runT treeTable p w m₀ ann N ⟨T0 w.params,m₀,(boot_heap w.params).life,Array.mk [],boot_drawn,boot_toks,os⟩ (topStub p)).map (fun s=>openSeen q loose (importedModules p.main.body) Xt g0 s.abs)=some (openGood q loose)):LeftO p q loose Xt Yf Ya N g0:=fun w=>by
 obtain ⟨⟨hp,g,d,k,os⟩,hs,hv⟩:=Option.map_eq_some_iff.mp (boot_open e hN f w)
 injection hv with v1 v2
 injection v2 with v2 v3
 injection v3 with v3 v4
 dsimp only at v1 v2 v3 v4
 subst v1 v2 v3 v4
 obtain ⟨z1,z2,z3⟩:=z w
 obtain ⟨s',h0,l1⟩:=Option.map_eq_some_iff.mp (h1 w os)
 obtain ⟨l1,l3⟩:=Prod.mk.inj l1
 have l2:=h2 w os
 rw [h0] at l2
 replace l2:=Option.some.inj l2
 have r:=b40 h0
 have r':topRun treeTable p w m₀ ann N ⟨boot_heap w.params,Array.mk [],boot_drawn,boot_toks,os⟩ (topStub p)=some s'.abs:=by
  rw [b w.params]
  exact r
 unfold openEnds
 rw [hs]
 show (topFrom treeTable p w N _).map _=_
 unfold topFrom
 dsimp only
 rw [z1,z2,z3,r']
 show (match staticsOk (importedModules p.main.body) (boot_heap w.params) s'.abs.heap && namesBound p s'.abs.heap && gensDone s'.abs && laidKept (boot_heap w.params) s'.abs.heap with | true=>some s'.abs | false=>none).map _=_
 rw [l1]
 exact congrArg some (Prod.ext l2 l3)
theorem bs9 (P:Params):boot_heap P=absHeap (T0 P) 11 (boot_heap P).life:=by kernel_rfl
theorem bt0 (w:World):(boot_heap w.params).isNs mainGlobals=true∧(boot_heap w.params).objs.size=11∧(boot_heap w.params).nsMap mainGlobals "__annotations__"=some (.ref 6):=⟨by kernel_rfl,by kernel_rfl,by kernel_rfl⟩
theorem bk1 (w:World) (os:OsState):(runT treeTable PySem.Challenge.rw_callmill_k15_dry_loops.row.prog w 11 (some (.ref 6)) 8000 ⟨T0 w.params,11,(boot_heap w.params).life,Array.mk [],boot_drawn,boot_toks,os⟩ (topStub PySem.Challenge.rw_callmill_k15_dry_loops.row.prog)).map (fun s=>openSeen K15.view [] (importedModules PySem.Challenge.rw_callmill_k15_dry_loops.row.prog.main.body) (fun s=>xlAt K15.view [] s && recOk PySem.Challenge.rw_callmill_k15_dry_loops.row.records s) true s.abs)=some (openGood K15.view []):=by kernel_rfl
set_option maxRecDepth 100000 in
set_option maxHeartbeats 0 in
theorem head (G:∀ K:Params→PySem.W.Frag,(∀ P,HF P (K P))→(∀ (w:World) (mg:Str→Option Value) (fa:Addr) (h:Heap),(K w.params).In h→h.Ns mainGlobals mg→mg "law"=some (.ref fa)→∃ fd:FuncData,(∀ (s:Shared) (u:Value),BindsTo s fd ⟨[u],[]⟩ [("script",u)])∧∀ base:Heap,(K w.params).In base→base.Ns mainGlobals mg→FnOk PySem.Challenge.rw_callmill_k15_dry_loops.prog w (K w.params) mg base CX0 230 fa fd ["script"] (aq3 (K w.params)))):PySem.Challenge.rw_callmill_k15_dry_loops.Holds:=by
 w_on; o_law; k_head; (case hw=>w_witness2); (case hl=>exact b41 rfl rfl (fun _=>rfl) bs9 bt0 (by intro w os; kernel_rfl) bk1)
 k_fill
 refine K15.walk2 (l:=PySem.Challenge.rw_callmill_k15_dry_loops) rfl rfl rfl rfl (fun w h Y=>PySem.W.kIn_of Y) ?facts G
 case facts =>
  intro P
  refine' ⟨Adr.mk,fun mg h X G=>?z⟩
  case z =>
   constructor
   all_goals (try dsimp only); walk_at "fi"
end
end K15
namespace L2
open PySem PySem.Spec PyProof.Rows
section
variable {κ:Type} [DecidableEq κ]
def valV (kvs:List (κ×V)) (k:κ):Option V:=(kvs.find? fun kv=>decide (kv.1=k)).map (·.2)
def putK (kvs:List (κ×V)) (k:κ) (v:V):List (κ×V) :=
 if (kvs.any fun kv=>decide (kv.1=k))=true then kvs.map (fun kv=>if kv.1=k then (kv.1,v) else kv) else kvs++[(k,v)]
theorem a58 {p:κ×V}{r:List (κ×V)}{k:κ}(e:p.1=k):valV (p::r) k=some p.2:=by simp [valV,List.find?_cons,e]
theorem a59 {p:κ×V}{r:List (κ×V)}{k:κ}(e:¬ p.1=k):valV (p::r) k=valV r k:=by simp [valV,List.find?_cons,e]
theorem ah1 (k:κ):∀ kvs:List (κ×V),(kvs.any fun kv=>decide (kv.1=k))=(valV kvs k).isSome
 | []=>rfl
 | p::r=>by
   rw [List.any_cons]
   by_cases e:p.1=k
   · simp only [a58 e,decide_eq_true e,Bool.true_or,Option.isSome_some]
   · rw [a59 e,decide_eq_false e,Bool.false_or]; exact ah1 k r
theorem aw9 (k j:κ) (y:V):∀ kvs:List (κ×V),valV (kvs.map fun kv=>if kv.1=k then (kv.1,y) else kv) j=(valV kvs j).map fun x=>if j=k then y else x
 | []=>rfl
 | p::r=>by
   have ih:=aw9 k j y r
   rw [List.map_cons]
   by_cases h:p.1=k
   · rw [if_pos h]
     by_cases e:p.1=j
     · rw [a58 (p:=(p.1,y)) e,a58 e,Option.map_some,if_pos (e.symm.trans h)]
     · rw [a59 (p:=(p.1,y)) e,a59 e,ih]
   · rw [if_neg h]
     by_cases e:p.1=j
     · rw [a58 (p:=p) e,a58 e,Option.map_some,if_neg (fun z=>h (e.trans z))]
     · rw [a59 (p:=p) e,a59 e,ih]
theorem aq4 (k j:κ) (y:V):∀ kvs:List (κ×V),valV kvs k=none→valV (kvs++[(k,y)]) j=if j=k then some y else valV kvs j
 | [],_=>by
   by_cases e:k=j
   · rw [if_pos e.symm]; exact a58 (p:=(k,y)) e
   · rw [if_neg (fun z=>e z.symm)]; exact a59 (p:=(k,y)) e
 | p::r,hn=>by
   rw [List.cons_append]
   have hk:¬ p.1=k:=fun z=>by rw [a58 z] at hn; cases hn
   rw [a59 hk] at hn
   have ih:=aq4 k j y r hn
   by_cases e:p.1=j
   · rw [a58 e,a58 e,if_neg (fun z=>hk (e.trans z))]
   · rw [a59 e,a59 e,ih]
theorem ah2 (kvs:List (κ×V)) (k j:κ) (y:V):valV (putK kvs k y) j=if j=k then some y else valV kvs j:=by
 unfold putK
 by_cases a:(kvs.any fun kv=>decide (kv.1=k))=true
 · rw [if_pos a,aw9]
   rw [ah1] at a
   by_cases e:j=k
   · obtain ⟨x,hx⟩:=Option.isSome_iff_exists.mp a
     rw [if_pos e,e,hx,Option.map_some,if_pos rfl]
   · rw [if_neg e]
     cases valV kvs j with
     | none=>rfl
     | some x=>rw [Option.map_some,if_neg e]
 · rw [if_neg a]
   refine aq4 k j y kvs ?_
   rw [ah1] at a
   cases q:valV kvs k with
   | none=>rfl
   | some x=>rw [q] at a; exact (a rfl).elim
theorem ad4 (kvs:List (κ×V)) (k:κ) (v:V):(putK kvs k v).length≤kvs.length+1:=by
 unfold putK
 split
 · rw [List.length_map]; omega
 · rw [List.length_append,List.length_cons,List.length_nil]; omega
theorem RelO.isSome_eq {o:Option V}{u:Option Value}(r:RelO o u):o.isSome=u.isSome:=by
 cases o with
 | none=>cases u with
   | none=>rfl
   | some _=>exact (show False from r).elim
 | some _=>cases u with
   | none=>exact (show False from r).elim
   | some _=>rfl
theorem KV.val {kvs:List (κ×V)}{vs:List (κ×Value)}(r:KV kvs vs) (k:κ):RelO (valV kvs k) (valueAt vs k):=by
 unfold KV at r
 induction r with
 | nil=>exact True.intro
 | @cons p q ps qs h t ih =>
   obtain ⟨h1,h2⟩:=h
   by_cases e:p.1=k
   · have e':q.1=k:=h1.symm.trans e
     have b:valueAt (q::qs) k=some q.2:=by simp [valueAt,List.find?_cons,e']
     rw [a58 e,b]; exact h2
   · have e':¬ q.1=k:=fun z=>e (h1.trans z)
     have b:valueAt (q::qs) k=valueAt qs k:=by simp [valueAt,List.find?_cons,e']
     rw [a59 e,b]; exact ih
theorem KV.any {kvs:List (κ×V)}{vs:List (κ×Value)}(r:KV kvs vs) (k:κ):(kvs.any fun kv=>decide (kv.1=k))=vs.any fun kv=>decide (kv.1=k):=by
 unfold KV at r
 induction r with
 | nil=>rfl
 | cons h t ih=>rw [List.any_cons,List.any_cons,ih,h.1]
theorem KV.repl {kvs:List (κ×V)}{vs:List (κ×Value)}(r:KV kvs vs) (k:κ) {y:V}{u:Value}(ry:RelV y u) :
 KV (kvs.map fun kv=>if kv.1=k then (kv.1,y) else kv) (vs.map fun kv=>if kv.1=k then (kv.1,u) else kv):=by
 unfold KV at r ⊢
 induction r with
 | nil=>exact .nil
 | @cons p q ps qs h t ih =>
   rw [List.map_cons,List.map_cons]
   refine .cons ?_ ih
   obtain ⟨h1,h2⟩:=h
   by_cases e:p.1=k
   · rw [if_pos e,if_pos (h1.symm.trans e)]; exact ⟨h1,ry⟩
   · rw [if_neg e,if_neg (fun z=>e (h1.trans z))]; exact ⟨h1,h2⟩
theorem KV.put {kvs:List (κ×V)}{vs:List (κ×Value)}(r:KV kvs vs) (k:κ) {y:V}{u:Value}(ry:RelV y u):KV (putK kvs k y) (stored vs k u):=by
 unfold putK stored
 rw [r.any k]
 by_cases e:(vs.any fun kv=>decide (kv.1=k))=true
 · rw [if_pos e,if_pos e]; exact r.repl k ry
 · rw [if_neg e,if_neg e]; exact Paired.snoc r ⟨rfl,ry⟩
theorem KV.length {kvs:List (κ×V)}{vs:List (κ×Value)}(r:KV kvs vs):kvs.length=vs.length:=Paired.length r
end
theorem at7 {P:Program}{w:World}{k:Key}{u:Value}(r:RelV (kV k) u):(a45 P w).is k u=true:=by
 cases k with
 | inl i=>obtain ⟨t,e⟩:=(show ∃ t,u=Value.int i t from r); subst e; exact at1 P w i t
 | inr x=>obtain ⟨t,e⟩:=(show ∃ t,u=Value.str x t from r); subst e; exact at2 P w x t
theorem aq5 {P:Program}{w:World}:∀ {ks:List Key}{us:List Value},Vals (ks.map kV) us→ItemsAre (a45 P w) ks us
 | [],_,r=>by rw [List.map_nil] at r; cases r; exact .nil
 | k::ks,_,r=>by
   rw [List.map_cons] at r
   cases r with
   | cons h t=>exact .cons (at7 h) (aq5 t)
abbrev KT (H:Hp):List (List Key×V)→List (List Key×Addr×Value)→Prop:=Paired fun p q=>p.1=q.1∧H q.2.1=some (.tup (p.1.map kV))∧RelV p.2 q.2.2
theorem KT.val {H:Hp}{kvs:List (List Key×V)}{xs:List (List Key×Addr×Value)}(r:KT H kvs xs) (k:List Key):RelO (valV kvs k) ((atKey xs k).map (·.2)):=by
 induction r with
 | nil=>exact True.intro
 | @cons p q ps qs h t ih =>
   obtain ⟨h1,_,h2⟩:=h
   by_cases e:p.1=k
   · have e':q.1=k:=h1.symm.trans e
     have b:atKey (q::qs) k=some q.2:=by simp [atKey,List.find?_cons,e']
     rw [a58 e,b]; exact h2
   · have e':¬ q.1=k:=fun z=>e (h1.trans z)
     have b:atKey (q::qs) k=atKey qs k:=by simp [atKey,List.find?_cons,e']
     rw [a59 e,b]; exact ih
theorem KT.repl {H:Hp}{kvs:List (List Key×V)}{xs:List (List Key×Addr×Value)}(r:KT H kvs xs) (k:List Key) {y:V}{u:Value}(ry:RelV y u) :
 KT H (kvs.map fun kv=>if kv.1=k then (kv.1,y) else kv) (xs.map (putAt k u)):=by
 induction r with
 | nil=>exact .nil
 | @cons p q ps qs h t ih =>
   rw [List.map_cons,List.map_cons]
   refine .cons ?_ ih
   obtain ⟨h1,h2,h3⟩:=h
   unfold putAt
   by_cases e:p.1=k
   · rw [if_pos e,if_pos (h1.symm.trans e)]; exact ⟨h1,h2,ry⟩
   · rw [if_neg e,if_neg (fun z=>e (h1.trans z))]; exact ⟨h1,h2,h3⟩
theorem KT.put {H:Hp}{kvs:List (List Key×V)}{xs:List (List Key×Addr×Value)}(r:KT H kvs xs) (k:List Key) {b:Addr}{y:V}{u:Value}(hb:H b=some (.tup (k.map kV))) (ry:RelV y u) :
 KT H (putK kvs k y) (storedH xs k b u):=by
 have e:(kvs.any fun kv=>decide (kv.1=k))=(atKey xs k).isSome:=by
  rw [ah1,(r.val k).isSome_eq,Option.isSome_map]
 unfold putK storedH
 rw [e]
 by_cases q:(atKey xs k).isSome=true
 · rw [if_pos q,if_pos q]; exact r.repl k ry
 · rw [if_neg q,if_neg q]; exact Paired.snoc r ⟨rfl,hb,ry⟩
theorem KT.keeps {H H':Hp}{kvs:List (List Key×V)}{xs:List (List Key×Addr×Value)}(r:KT H kvs xs) (ht:∀ b ys,H b=some (.tup ys)→H' b=some (.tup ys)):KT H' kvs xs :=
 Paired.mapP r fun _ _ z=>⟨z.1,ht _ _ z.2.1,z.2.2⟩
section
variable {P:Program}{w:World}{H:Hp}{h:Heap}{a:Addr}
theorem bt1 {u:HO}(ok:HOk P w H h) (e:Rd H a u):ObjOk P w H h a u:=e.ok ok
theorem b42 {kvs:List (Key×V)}(ok:HOk P w H h) (e:Rd H a (.dK kvs)):kvs.length≤sizeLine∧(a == sysModules)=false∧∃ vs,KV kvs vs∧h.DictOf (a45 P w) a vs :=
 show ObjOk P w H h a (.dK kvs) from bt1 ok e
theorem bt2 {kvs:List (Key×V)}(ok:HOk P w H h) (e:H a=some (.dK kvs)):kvs.length≤sizeLine∧(a == sysModules)=false∧∃ vs,KV kvs vs∧h.DictOf (a45 P w) a vs:=b42 ok (.inl e)
theorem aq6 {ks:List Key}(ok:HOk P w H h) (e:H a=some (.tup (ks.map kV))):(tupleKind (a45 P w)).is h ks a:=by
 obtain ⟨_,its,r,o,h1,h2,n,h3⟩:=(show ObjOk P w H h a (.tup (ks.map kV)) from ok a _ e)
 exact ⟨o,its.toArray,n,h1,h2,h3,by simpa using aq5 r⟩
theorem b43 {kvs:List (List Key×V)}(ok:HOk P w H h) (e:Rd H a (.dT kvs)):kvs.length≤sizeLine∧(a == sysModules)=false ∧
 ∃ xs,KT H kvs xs∧h.DictOfH (tupleKind (a45 P w)) a xs:=by
 obtain ⟨z,y,xs,r,o,es,ep,h1,h2,h3,h4,h5⟩:=(show ObjOk P w H h a (.dT kvs) from bt1 ok e)
 refine ⟨z,y,xs,r,o,es,ep,h1,h2,h3,h4,fun x hx=>?_,h5⟩
 have all:∀ {l:List (List Key×V)}{m:List (List Key×Addr×Value)},KT H l m→∀ x∈m,(tupleKind (a45 P w)).is h x.1 x.2.1:=by
  intro l m q
  induction q with
  | nil=>intro x hx; exact nomatch hx
  | @cons p q ps qs hq t ih =>
    intro x hx
    rcases List.mem_cons.mp hx with e | hx
    · subst e
      exact aq6 ok (by rw [← hq.1]; exact hq.2.1)
    · exact ih x hx
 exact all r x hx
theorem c36 {kvs:List (List Key×V)}(ok:HOk P w H h) (e:H a=some (.dT kvs)):kvs.length≤sizeLine∧(a == sysModules)=false ∧
 ∃ xs,KT H kvs xs∧h.DictOfH (tupleKind (a45 P w)) a xs:=b43 ok (.inl e)
end
def DGet (H:Hp) (a:Addr) (y:V) (r:Option V):Prop :=
 (∃ kvs k,Rd H a (.dK kvs)∧y=kV k∧r=valV kvs k)∨∃ kvs k b,Rd H a (.dT kvs)∧y=.ref b∧H b=some (.tup (k.map kV))∧r=valV kvs k
def DPut (H:Hp) (a:Addr) (y v:V) (H':Hp):Prop :=
 (∃ kvs k,H a=some (.dK kvs)∧y=kV k∧kvs.length<sizeLine∧H'=upd H a (.dK (putK kvs k v))) ∨
 ∃ kvs k b,H a=some (.dT kvs)∧y=.ref b∧H b=some (.tup (k.map kV))∧kvs.length<sizeLine∧H'=upd H a (.dT (putK kvs k v))
theorem DGet.k {H:Hp}{a:Addr}{kvs:List (Key×V)}{k:Key}(e:H a=some (.dK kvs)):DGet H a (kV k) (valV kvs k):=.inl ⟨kvs,k,.inl e,rfl,rfl⟩
theorem DPut.k {H:Hp}{a:Addr}{kvs:List (Key×V)}{k:Key}{v:V}(e:H a=some (.dK kvs)) (hl:kvs.length<sizeLine):DPut H a (kV k) v (upd H a (.dK (putK kvs k v))):=.inl ⟨kvs,k,e,rfl,hl,rfl⟩
section
variable {X:Cx}{pins:List (Addr×Obj)}{σ:St} {H:Hp}{s:Shared}{a:Addr}{y v:V}{u r:Value}{o:Option V}{A:Around}{E:Value→Shared→Prop}
theorem Inv.big (I:Inv X pins σ H s):sysModules<s.heap.objs.size:=by
 have h:mainGlobals<s.heap.objs.size:=(I.mod.glob.keeps I.bk).lt
 exact Nat.lt_trans (by decide) h
theorem b44 {Q:Value→Shared→Prop}(hu:A.units+1<cLine) (I:Inv X pins σ H s) (g:DGet H a y (some v)) (ry:RelV y u) (h:∀ w' s',Inv X pins σ H s'→RelV v w'→Q w' s') :
 wpAny (model X.prog X.w) A (getItem (.ref a) u) Q E s:=by
 rcases g with ⟨kvs,k,e,ey,l⟩ | ⟨kvs,k,b,e,ey,eb,l⟩
 · subst ey
   obtain ⟨z,hd,vs,rel,dd⟩:=b42 I.hok e
   obtain ⟨w',hw,rw'⟩:=RelO.some_of (v:=v) (o:=valueAt vs k) (by rw [l]; exact rel.val k)
   exact wpAny_getItem_of (at7 ry) dd.mapOf hw (h w' _ (I.tok _) rw')
 · subst ey
   cases (show u=Value.ref b from ry)
   obtain ⟨z,hd,xs,rel,dd⟩:=b43 I.hok e
   obtain ⟨w',hw,rw'⟩:=RelO.some_of (v:=v) (o:=(atKey xs k).map (·.2)) (by rw [l]; exact rel.val k)
   obtain ⟨p,hp,hp2⟩:=Option.map_eq_some_iff.mp hw
   refine wpAny_getItem_heap (tupleKind_room_in1 hu) (aq6 I.hok eb) dd hp ?_
   rw [hp2]
   exact h w' _ (I.tok _) rw'
theorem d_in {Q:Value→Shared→Prop}(hu:A.units+1<cLine) (I:Inv X pins σ H s) (g:DGet H a y o) (ry:RelV y u) (h:∀ s',Inv X pins σ H s'→Q (.bool o.isSome) s') :
 wpAny (model X.prog X.w) A (compareOp .In u (.ref a)) Q E s:=by
 rcases g with ⟨kvs,k,e,ey,l⟩ | ⟨kvs,k,b,e,ey,eb,l⟩
 · subst ey
   obtain ⟨z,hd,vs,rel,dd⟩:=b42 I.hok e
   refine wpAny_in_of (at7 ry) hd dd.mapOf ?_
   rw [← (rel.val k).isSome_eq,←l]
   exact h _ (I.tok _)
 · subst ey
   cases (show u=Value.ref b from ry)
   obtain ⟨z,hd,xs,rel,dd⟩:=b43 I.hok e
   refine wpAny_in_heap (tupleKind_room_in1 hu) (aq6 I.hok eb) hd dd ?_
   have q:=(rel.val k).isSome_eq
   rw [Option.isSome_map] at q
   rw [← q,←l]
   exact h _ (I.tok _)
theorem bk2 {Q:Value→Shared→Prop}(hu:A.units+1<cLine) (I:Inv X pins σ H s) (g:DGet H a y o) (ry:RelV y u) (h:∀ s',Inv X pins σ H s'→Q (.bool (!o.isSome)) s') :
 wpAny (model X.prog X.w) A (compareOp .NotIn u (.ref a)) Q E s:=by
 rcases g with ⟨kvs,k,e,ey,l⟩ | ⟨kvs,k,b,e,ey,eb,l⟩
 · subst ey
   obtain ⟨z,hd,vs,rel,dd⟩:=b42 I.hok e
   refine wpAny_notIn_of (at7 ry) hd dd.mapOf ?_
   rw [← (rel.val k).isSome_eq,←l]
   exact h _ (I.tok _)
 · subst ey
   cases (show u=Value.ref b from ry)
   obtain ⟨z,hd,xs,rel,dd⟩:=b43 I.hok e
   refine wpAny_notIn_heap (tupleKind_room_in1 hu) (aq6 I.hok eb) hd dd ?_
   have q:=(rel.val k).isSome_eq
   rw [Option.isSome_map] at q
   rw [← q,←l]
   exact h _ (I.tok _)
theorem at8 {h':Heap}{t':Nat}{ob:HO}(I:Inv X pins σ H s) (mu:Mut (H a)) (hs:Heap.SameBut a s.heap h') (he:∃ q,h'.get? a=some q) (new:ObjOk X.prog X.w (upd H a ob) h' a ob) :
 Inv X pins σ (upd H a ob) { s with heap:=h',toks:=t' } :=
 I.write (x:=a) (e:=a) mu (.inl rfl) (fun b q hb z=>(hs.2 b hb).trans z) he new
theorem b45 {P:Program}{w:World}{H':Hp}{h':Heap}{kvs:List (Key×V)}{vs:List (Key×Value)}(z:kvs.length≤sizeLine) (hd:(a == sysModules)=false) (rel:KV kvs vs) (dd:h'.DictOf (a45 P w) a vs) :
 ObjOk P w H' h' a (.dK kvs):=⟨z,hd,vs,rel,dd⟩
theorem b46 {H':Hp}{Q:Unit→Shared→Prop}(hu:A.units+1<cLine) (I:Inv X pins σ H s) (g:DPut H a y v H') (ry:RelV y u) (rv:RelV v r) (h:∀ s',Inv X pins σ H' s'→Q () s') :
 wpAny (model X.prog X.w) A (setItem (.ref a) u r) Q E s:=by
 rcases g with ⟨kvs,k,e,ey,l,eH⟩ | ⟨kvs,k,b,e,ey,eb,l,eH⟩
 · subst ey eH
   obtain ⟨z,hd,vs,rel,dd⟩:=bt2 I.hok e
   have hz:vs.length≤sizeLine:=by rw [← rel.length]; exact z
   have hl:(putK kvs k v).length≤sizeLine:=by have:=ad4 kvs k v; omega
   refine wpAny_setItem_pairs (hsz:=hz) (at7 ry) dd fun h' dd' hs=>h _ ?_
   have he:∃ q,h'.get? a=some q:=let ⟨q,_,_,hq,_⟩:=dd'; ⟨q,hq⟩
   exact at8 I (by rw [e]; exact True.intro) hs he (b45 hl hd (rel.put k rv) dd')
 · subst ey eH
   cases (show u=Value.ref b from ry)
   obtain ⟨z,hd,xs,rel,dd⟩:=c36 I.hok e
   have hz:xs.length≤sizeLine:=by rw [← Paired.length rel]; exact z
   have hl:(putK kvs k v).length≤sizeLine:=by have:=ad4 kvs k v; omega
   refine wpAny_setItem_heap (hsz:=hz) (tupleKind_room_in1 hu) (aq6 I.hok eb) dd fun h' dd' hs=>h _ ?_
   obtain ⟨q,es,ep,hq,h2,h3,h4,_,h5⟩:=dd'
   refine at8 I (by rw [e]; exact True.intro) hs ⟨q,hq⟩ ⟨hl,hd,_,(rel.put k eb rv).keeps fun c ys ec=>?_,q,es,ep,hq,h2,h3,h4,h5⟩
   rw [a11 (af7 ec e (fun z=>nomatch z))]
   exact ec
end
section
variable {X:Cx}{pins:List (Addr×Obj)}{σ:St} {H:Hp}{s:Shared}{a:Addr}{kvs:List (Key×V)}{k:Key}{u:Value}{A:Around}{E:Value→Shared→Prop}
end
def NoSl (i:Expr):Prop:=∀ ov iv,subscripted i false ov iv=operate [ov,iv] (getItem ov iv)
theorem bk3 {prog:Program}{w:World}{A:Around}{E:Value→Shared→Prop}{s:Shared}{env:Env}{value slice:Expr}{pos:Pos}{T id:String}{Q:Value→Shared→Prop}
 (hl:typeLookup (.type T) "__getitem__"=pure (some (.builtin id))) (hs:NoSl slice)
 (h:wpAny (model prog w) A (eval value env) (fun o s₁=>wpAny (model prog w) A (eval slice env) (fun i s₂=>s₂.TypeIs o T∧wpAny (model prog w) A (getItem o i) Q E s₂) E s₁) E s) :
 wpAny (model prog w) A (eval (.Subscript value slice pos) env) Q E s:=by
 refine Subscript_ (wpAny_mono h (fun o s₁ h₁=>wpAny_mono h₁ (fun i s₂ h₂=>?_) fun _ _ x=>x) fun _ _ x=>x)
 obtain ⟨hT,h₂⟩:=h₂
 unfold subscriptTail
 refine wpAny_bind ?_
 rw [getitemInPython_of_ne hT.not_modules]
 refine wpAny_bind (wpAny_specialOf hT hl ?_)
 have fin:wpAny (model prog w) A (subscripted slice false o i) (fun r s₃=>wpAny (model prog w) A (letTemporaryGo value o r >>= fun _=>pure r) Q E s₃) E s₂:=by
  rw [hs o i]
  exact wpAny_operating (wpAny_mono h₂ (fun r s₃ h₃=>wpAny_bind (wpAny_letTemporaryGo (wpAny_pure h₃))) fun _ _ x=>x)
 first
  | exact wpAny_pure (wpAny_bind fin)
  | exact wpAny_bind (wpAny_pure (wpAny_bind fin))
  | exact wpAny_bind fin
theorem at9 {X:Cx}{pins:List (Addr×Obj)}{σ:St} {H:Hp}{s:Shared}{a:Addr}{y:V}{o:Option V}(I:Inv X pins σ H s) (g:DGet H a y o):s.TypeIs (.ref a) "dict":=by
 rcases g with ⟨kvs,k,e,_,_⟩ | ⟨kvs,k,b,e,_,_,_⟩
 · obtain ⟨_,_,vs,_,dd⟩:=b42 I.hok e
   exact dd.typeIs
 · obtain ⟨_,_,xs,_,dd⟩:=b43 I.hok e
   exact dd.typeIs
def bt3 (td ty:TE):TE:=fun σ H Q=>td σ H fun x H1=>ty σ H1 fun y H2=>∃ a v,x=.ref a∧DGet H2 a y (some v)∧Q v H2
def tDIn (ty td:TE):TE:=fun σ H Q=>ty σ H fun y H1=>td σ H1 fun x H2=>∃ a o,x=.ref a∧DGet H2 a y o∧Q (.bl o.isSome) H2
def b47 (ty td:TE):TE:=fun σ H Q=>ty σ H fun y H1=>td σ H1 fun x H2=>∃ a o,x=.ref a∧DGet H2 a y o∧Q (.bl (!o.isSome)) H2
def bt4 (td ty tv:TE):TS:=fun D σ H=>tv σ H fun v H1=>td σ H1 fun x H2=>ty σ H2 fun y H3=>∃ a H4,x=.ref a∧DPut H3 a y v H4∧D.nx σ H4
section
variable {X:Cx}{o i e value:Expr}{pos pos' tpos:Pos}{td ty tv:TE}
theorem au0 (hu:X.A.units+1<cLine) (ho:PE X o td) (hi:PE X i ty) (hs:NoSl i):PE X (.Subscript o i pos) (bt3 td ty):=by
 intro pins s σ H Q I h
 refine bk3 PySem.F.slot_dict_getitem.lookup hs (thn (ho pins s σ H _ I h) ?_)
 rintro u s1 ⟨x,H1,I1,rx,q1⟩
 refine thn (hi pins s1 σ H1 _ I1 q1) ?_
 rintro iv s2 ⟨y,H2,I2,ry,a,v,ex,g,q2⟩
 subst ex
 obtain rfl:u=Value.ref a:=rx
 exact ⟨at9 I2 g,b44 hu I2 g ry fun w' s3 I3 rw'=>⟨v,H2,I3,rw',q2⟩⟩
theorem bt5 (hu:X.A.units+1<cLine) (hi:PE X i ty) (ho:PE X o td):PC X .In i o (tDIn ty td):=by
 intro pins s σ H Q I h
 refine thn (hi pins s σ H _ I h) ?_
 rintro iv s1 ⟨y,H1,I1,ry,q1⟩
 refine thn (ho pins s1 σ H1 _ I1 q1) ?_
 rintro u s2 ⟨x,H2,I2,rx,a,ov,ex,g,q2⟩
 subst ex
 obtain rfl:u=Value.ref a:=rx
 exact d_in hu I2 g ry fun s3 I3=>⟨.bl ov.isSome,H2,I3,rfl,q2⟩
theorem b48 (hu:X.A.units+1<cLine) (hi:PE X i ty) (ho:PE X o td):PC X .NotIn i o (b47 ty td):=by
 intro pins s σ H Q I h
 refine thn (hi pins s σ H _ I h) ?_
 rintro iv s1 ⟨y,H1,I1,ry,q1⟩
 refine thn (ho pins s1 σ H1 _ I1 q1) ?_
 rintro u s2 ⟨x,H2,I2,rx,a,ov,ex,g,q2⟩
 subst ex
 obtain rfl:u=Value.ref a:=rx
 exact bk2 hu I2 g ry fun s3 I3=>⟨.bl (!ov.isSome),H2,I3,rfl,q2⟩
theorem bk4 (hu:X.A.units+1<cLine) (ho:PE X o td) (hi:PE X i ty) (hv:PE X value tv) (hs:swapsWith value (some (.Subscript o i pos')) pos.line X.env=pure false) :
 PS X (.Assign [.Subscript o i pos'] value pos) (bt4 td ty tv):=by
 intro pins s σ H D I h
 refine wpAny_Assign_Subscript (thn (hv pins s σ H _ I h) ?_) hs
 rintro r s1 ⟨v,H1,I1,rv,q1⟩
 refine thn (ho pins s1 σ H1 _ I1 q1) ?_
 rintro u s2 ⟨x,H2,I2,rx,q2⟩
 refine thn (hi pins s2 σ H2 _ I2 q2) ?_
 rintro iv s3 ⟨y,H3,I3,ry,a,H4,ex,g,q3⟩
 subst ex
 obtain rfl:u=Value.ref a:=rx
 exact b46 hu I3 g ry rv fun s4 I4=>⟨σ,H4,I4,q3⟩
end
theorem ax0 {P:Program}{w:World}{H:Hp}(h:Heap) (hb:sysModules<h.objs.size):ObjOk P w H (h.push { cls:=.type "dict",data:=.dict #[] }) h.objs.size (.dK []) :=
 ⟨Nat.zero_le _,beq_eq_false_iff_ne.mpr (Ne.symm (Nat.ne_of_lt hb)),[],.nil,Heap.DictOf.new h⟩
def bt6:TE:=fun _ H Q=>∀ p,H p=none→Q (.ref p) (upd H p (.dK []))
section
variable {X:Cx}{pos:Pos}
theorem bb4:PE X (.Dict [] [] pos) bt6:=fun pins s σ H Q I h =>
 wpAny_Dict_empty ⟨.ref s.heap.objs.size,_,I.laid (a:=s.heap.objs.size) (o:=.dK []) (t':=s.toks) (fun _ _ q=>Heap.get?_push_of_some _ q) (Nat.le_refl _) (ax0 s.heap I.big),rfl,h _ (I.hok.fresh (Nat.le_refl _))⟩
end
def b49:List (TE×TE)→St→Hp→(List (V×V)→Hp→Prop)→Prop
 | [],_,H,Q=>Q [] H
 | (tk,tv)::r,σ,H,Q=>tk σ H fun x H1=>tv σ H1 fun y H2=>b49 r σ H2 fun ps H3=>Q ((x,y)::ps) H3
abbrev VV:List (V×V)→List (Value×Value)→Prop:=Paired fun p q=>RelV p.1 q.1∧RelV p.2 q.2
def PPs (X:Cx) (pos:Pos) (keys:List (Option Expr)) (values:List Expr) (trs:List (TE×TE)):Prop :=
 ∀ (pins:List (Addr×Obj)) (s:Shared) (σ:St) (H:Hp) (Q:List (V×V)→Hp→Prop),Inv X pins σ H s→b49 trs σ H Q →
  wpAny (model X.prog X.w) X.A (evalPairs (pairTrees keys values X.env pos)) (fun vs s'=>∃ ps H',Inv X pins σ H' s'∧VV ps vs∧Q ps H') X.xe s
theorem b50 {X:Cx}{pos:Pos}:PPs X pos [] [] []:=fun pins s σ H Q I h=>pairTrees_nil_walk ⟨[],H,I,.nil,h⟩
theorem ac0 {X:Cx}{pos:Pos}{k v:Expr}{ks:List (Option Expr)}{vs:List Expr}{tk tv:TE}{trs:List (TE×TE)}(hk:PE X k tk) (hv:PE X v tv) (hr:PPs X pos ks vs trs) :
 PPs X pos (some k::ks) (v::vs) ((tk,tv)::trs):=fun pins s σ H Q I h =>
 pairTrees_cons_walk (thn (hk pins s σ H _ I h) fun u s1 ⟨x,H1,I1,rx,q1⟩=>thn (hv pins s1 σ H1 _ I1 q1) fun w2 s2 ⟨y,H2,I2,ry,q2⟩ =>
  thn (hr pins s2 σ H2 _ I2 q2) fun ws s3 ⟨ps,H3,I3,rel,q3⟩=>⟨(x,y)::ps,H3,I3,.cons ⟨rx,ry⟩ rel,q3⟩)
def a63 (kvs more:List (Key×V)):List (Key×V):=more.foldl (fun acc kv=>putK acc kv.1 kv.2) kvs
theorem KV.merge:∀ {more:List (Key×V)}{rs:List (Key×Value)}{kvs:List (Key×V)}{vs:List (Key×Value)},KV more rs→KV kvs vs→KV (a63 kvs more) (merged vs rs):=by
 intro more rs kvs vs r
 unfold KV at r
 induction r generalizing kvs vs with
 | nil=>intro q; exact q
 | @cons p q ps qs h t ih =>
   intro r0
   have e:KV (putK kvs p.1 p.2) (stored vs q.1 q.2):=by
    have:=r0.put p.1 h.2
    rw [← h.1]; exact this
   exact ih e
theorem a93:∀ (more kvs:List (Key×V)),(a63 kvs more).length≤kvs.length+more.length
 | [],kvs=>by show kvs.length≤kvs.length+0; omega
 | p::r,kvs=>by
   have h1:=a93 r (putK kvs p.1 p.2)
   have h2:=ad4 kvs p.1 p.2
   show (a63 (putK kvs p.1 p.2) r).length≤_
   rw [List.length_cons]; omega
theorem al3 {P:Program}{w:World}:∀ {kvs:List (Key×V)}{ws:List (Value×Value)},VV (kvs.map fun kv=>(kV kv.1,kv.2)) ws→∃ rs,Carries (a45 P w) ws rs∧KV kvs rs
 | [],_,r=>by rw [List.map_nil] at r; cases r; exact ⟨[],True.intro,.nil⟩
 | p::kvs,_,r=>by
   rw [List.map_cons] at r
   cases r with
   | @cons a b as bs h t =>
     obtain ⟨rs,c,q⟩:=al3 (P:=P) (w:=w) t
     obtain ⟨b1,b2⟩:=b
     exact ⟨(p.1,b2)::rs,⟨at7 h.1,rfl,c⟩,.cons ⟨rfl,h.2⟩ q⟩
def bt7 (trs:List (TE×TE)):TE:=fun σ H Q=>∀ p,H p=none→b49 trs σ (upd H p (.dK [])) fun ps H2=>H2 p=some (.dK [])∧∃ kvs:List (Key×V),ps=kvs.map (fun kv=>(kV kv.1,kv.2))∧kvs.length≤15∧Q (.ref p) (upd H2 p (.dK (a63 [] kvs)))
theorem b51 {X:Cx}{pos:Pos}{keys:List (Option Expr)}{values:List Expr}{trs:List (TE×TE)}(h:PPs X pos keys values trs) (hall:keys.all (·.isSome)=true) (hl:keys.length=values.length) (h0:keys≠[])
 (h15:keys.length≤15):PE X (.Dict keys values pos) (bt7 trs):=by
 intro pins s σ H Q I q
 have hn:=I.hok.fresh (Nat.le_refl s.heap.objs.size)
 have I1:=I.laid (a:=s.heap.objs.size) (o:=.dK []) (h':=s.heap.push { cls:=.type "dict",data:=.dict #[] }) (t':=s.toks) (fun _ _ q=>Heap.get?_push_of_some _ q) (Nat.le_refl _) (ax0 s.heap I.big)
 refine wpAny_Dict_walk (knd:=a45 X.prog X.w) hall hl h0 h15 (thn (h pins _ σ _ _ I1 (q _ hn)) ?_)
 rintro ws s2 ⟨ps,H2,I2,rel,e,kvs,ep,lk,q2⟩
 subst ep
 obtain ⟨rs,c,rk⟩:=al3 (P:=X.prog) (w:=X.w) rel
 obtain ⟨z,hd,vs0,r0,dd⟩:=bt2 I2.hok e
 cases r0
 refine ⟨rs,c,dd,fun h' dd' hs=>⟨.ref s.heap.objs.size,_,?_,rfl,q2⟩⟩
 have hz:(a63 [] kvs).length≤sizeLine:=by
  have h1:=a93 kvs []
  rw [List.length_nil] at h1
  rw [sizeLine_eq]; omega
 have he:∃ q,h'.get? s.heap.objs.size=some q:=let ⟨q,_,_,hq,_⟩:=dd'; ⟨q,hq⟩
 exact at8 I2 (by rw [e]; exact True.intro) hs he (b45 hz hd (rk.merge .nil) dd')
section
variable {X:Cx}{pins:List (Addr×Obj)}{σ:St} {H:Hp}{s:Shared}{a:Addr}{y d:V}{u r:Value}{o:Option V}{A:Around}{E:Value→Shared→Prop}
end
section
variable {X:Cx}{o e f:Expr}{apos cpos:Pos}{td ty tx:TE}
end
section
variable {X:Cx}{pins:List (Addr×Obj)}{σ:St} {H:Hp}{s:Shared}{a:Addr}{kvs:List (Key×V)}{A:Around}{E:Value→Shared→Prop}
end
section
variable {X:Cx}{pins:List (Addr×Obj)}{σ:St} {H:Hp}{s:Shared}{a:Addr}{y:V}{u:Value}{A:Around}{E:Value→Shared→Prop}
end
section
variable {κ:Type} [DecidableEq κ]
end
def cxC (X:Cx) (N:List Str) (scope:Scope) (cl:List (Str×Addr)) (C:Addr) (s0:Shared) (H0:Hp) (ex:List Addr):Cx :=
 { X with N:=N,s₀:=s0,H₀:=H0,env:=compEnvC scope cl C X.env,outer:=X.stack,stack:=X.stack,ex:=ex,fn:=fun x=>scope.names.lookup x == some .cell,pn:=[],xe:=fun _ _=>False }
theorem al4 {env : Env} (has : ∀ x, (env.kindOf x = some .cell ∨ env.kindOf x = some .free) → ∃ c, env.cells.lookup x = some c) {scope : Scope}
    (hf : ∀ y ∈ scope.names, y.2 = .free → env.kindOf y.1 = some .cell ∨ env.kindOf y.1 = some .free) :
    ∃ cl, closureFor scope env = pure cl ∧ (∀ x c, cl.lookup x = some c → env.cells.lookup x = some c) ∧ (∀ y ∈ scope.names, y.2 = .free → ∃ c, cl.lookup y.1 = some c) := by
  have gen : ∀ (names : List (Str × NameKind)) (cs : List (Str × Addr)), (∀ y ∈ names, y.2 = .free → env.kindOf y.1 = some .cell ∨ env.kindOf y.1 = some .free) →
      (∀ x c, cs.lookup x = some c → env.cells.lookup x = some c) →
      ∃ cl, (forIn (m := Sem) names cs fun p r => do
          match p with
          | (name, kind) => if kind == .free then do let c ← cellOf env name; pure (ForInStep.yield ((name, c) :: r)) else pure (ForInStep.yield r)) = pure cl ∧
        (∀ x c, cl.lookup x = some c → env.cells.lookup x = some c) ∧ (∀ x c, cs.lookup x = some c → ∃ c, cl.lookup x = some c) ∧ (∀ y ∈ names, y.2 = .free → ∃ c, cl.lookup y.1 = some c) := by
    intro names
    induction names with
    | nil => intro cs _ h; exact ⟨cs, rfl, h, fun x c e => ⟨c, e⟩, fun y hy => nomatch hy⟩
    | cons p r ih =>
      intro cs hp h
      obtain ⟨n, k⟩ := p
      by_cases hk : k = .free
      · subst hk
        obtain ⟨c, hc⟩ := has n (hp (n, .free) List.mem_cons_self rfl)
        have h' : ∀ x d, ((n, c) :: cs).lookup x = some d → env.cells.lookup x = some d := by
          intro x d e
          rw [List.lookup_cons] at e
          cases hx : x == n with
          | true =>
            rw [hx] at e
            have : x = n := by simpa using hx
            cases e; rw [this]; exact hc
          | false => rw [hx] at e; exact h x d e
        obtain ⟨cl, e1, e2, e3, e4⟩ := ih ((n, c) :: cs) (fun y hy => hp y (List.mem_cons_of_mem _ hy)) h'
        have hn : ∃ d, cl.lookup n = some d := e3 n c (by simp [List.lookup_cons])
        refine ⟨cl, ?_, e2, fun x d e => ?_, fun y hy hyk => ?_⟩
        · rw [List.forIn_cons]
          have : cellOf env n = pure c := by unfold cellOf; rw [hc]
          simp only [beq_self_eq_true, if_true, this]
          exact e1
        · by_cases hx : x = n
          · subst hx; exact hn
          · exact e3 x d (by rw [List.lookup_cons]; have : (x == n) = false := by simpa using hx
                             rw [this]; exact e)
        · rcases List.mem_cons.mp hy with rfl | hy
          · exact hn
          · exact e4 y hy hyk
      · obtain ⟨cl, e1, e2, e3, e4⟩ := ih cs (fun y hy => hp y (List.mem_cons_of_mem _ hy)) h
        refine ⟨cl, ?_, e2, e3, fun y hy hyk => ?_⟩
        · rw [List.forIn_cons]
          have : (k == NameKind.free) = false := by simpa using hk
          simp only [this]
          exact e1
        · rcases List.mem_cons.mp hy with rfl | hy
          · exact absurd hyk hk
          · exact e4 y hy hyk
  obtain ⟨cl, e1, e2, _, e4⟩ := gen scope.names [] hf (fun x c e => nomatch e)
  refine ⟨cl, ?_, e2, e4⟩
  unfold closureFor
  simp only []
  exact congrArg (· >>= fun cs => pure cs) e1 |>.trans rfl
theorem aq7 {scope:Scope}{env:Env}{x:Str}{k:NameKind}(h:(relabel scope env).names.lookup x=some k) (hk:k=.cell∨k=.free):∃ y∈scope.names,y.1=x∧(y.2=.free∨y.2=.cell):=by
 have gen:∀ names:List (Str×NameKind),(names.map fun (n,k)=>if (k == NameKind.free && env.scope.kind == .function && env.kindOf n == some .cell) then (n,NameKind.cell) else (n,k)).lookup x=some k →
  ∃ y∈names,y.1=x∧(y.2=.free∨y.2=.cell):=by
  intro names
  induction names with
  | nil=>intro h; cases h
  | cons p r ih =>
    obtain ⟨n,j⟩:=p
    intro h
    rw [List.map_cons,List.lookup_cons] at h
    have e1:(if (j == NameKind.free && env.scope.kind == .function && env.kindOf n == some .cell)=true then (n,NameKind.cell) else (n,j)).1=n:=by split <;> rfl
    dsimp only at h
    rw [e1] at h
    cases hx:x == n with
    | false =>
      rw [hx] at h
      obtain ⟨y,hy,q⟩:=ih h
      exact ⟨y,List.mem_cons_of_mem _ hy,q⟩
    | true =>
      rw [hx] at h
      have ex:x=n:=by simpa using hx
      refine ⟨(n,j),List.mem_cons_self,ex.symm,?_⟩
      by_cases hc:(j == NameKind.free && env.scope.kind == .function && env.kindOf n == some .cell)=true
      · have:=(Bool.and_eq_true _ _).mp ((Bool.and_eq_true _ _).mp hc).1
        exact .inl (by simpa using this.1)
      · rw [if_neg hc] at h
        cases h
        exact hk.symm
 exact gen scope.names h
theorem a94:∀ (names:List (Str×NameKind)) (n:Nat) (a b:List (Str×Addr)),cellsFrom n names (a++b)=cellsFrom n names a++b
 | [],_,_,_=>rfl
 | (x,k)::r,n,a,b=>by
   unfold cellsFrom
   split
   · exact a94 r (n+1) ((x,n)::a) b
   · exact a94 r n a b
theorem a95:∀ (names:List (Str×NameKind)) (n:Nat) (a:List (Str×Addr)) (x:Str) (c:Addr),(x,c)∈cellsFrom n names a→(x,c)∈a∨(x,NameKind.cell)∈names
 | [],_,_,_,_,h=>.inl h
 | (y,k)::r,n,a,x,c,h=>by
   unfold cellsFrom at h
   split at h
   · next hk =>
     rcases a95 r (n+1) _ x c h with z | z
     · rcases List.mem_cons.mp z with e | z
       · cases e
         have:k=.cell:=by simpa using hk
         subst this
         exact .inr List.mem_cons_self
       · exact .inl z
     · exact .inr (List.mem_cons_of_mem _ z)
   · rcases a95 r n a x c h with z | z
     · exact .inl z
     · exact .inr (List.mem_cons_of_mem _ z)
theorem ae6 {α:Type}:∀ {l:List (Str×α)}{x:Str}{c:α},(x,c)∈l→∃ d,l.lookup x=some d
 | [],_,_,h=>nomatch h
 | (y,d)::l,x,c,h=>by
   rw [List.lookup_cons]
   cases hx:x == y with
   | true=>exact ⟨d,rfl⟩
   | false =>
     rcases List.mem_cons.mp h with e | h
     · cases e
       simp at hx
     · exact ae6 h
theorem af9 {α:Type}{x:Str}:∀ {a b:List (Str×α)},(a++b).lookup x=(a.lookup x).or (b.lookup x)
 | [],_=>rfl
 | (y,d)::a,b=>by
   rw [List.cons_append,List.lookup_cons,List.lookup_cons]
   cases hx:x == y with
   | true=>rfl
   | false=>exact af9 (a:=a) (b:=b)
theorem a96:∀ (names:List (Str×NameKind)) (n:Nat) (a:List (Str×Addr)) (p:Str×Addr),p∈a→p∈cellsFrom n names a
 | [],_,_,_,h=>h
 | (y,k)::r,n,a,p,h=>by
   unfold cellsFrom
   split
   · exact a96 r (n+1) _ p (List.mem_cons_of_mem _ h)
   · exact a96 r n a p h
theorem a97:∀ (names:List (Str×NameKind)) (n:Nat) (a:List (Str×Addr)) (x:Str),(x,NameKind.cell)∈names→∃ c,(x,c)∈cellsFrom n names a
 | (y,k)::r,n,a,x,h=>by
   unfold cellsFrom
   rcases List.mem_cons.mp h with e | h
   · cases e
     exact ⟨n,a96 r (n+1) _ _ List.mem_cons_self⟩
   · split
     · exact a97 r (n+1) _ x h
     · exact a97 r n a x h
structure CellsR (X:Cx) (scope:Scope) (Nf:List Str) (r:List (Str×Addr)) (C:Addr) (h1:Heap):Prop where
 sp:∀ x c,r.lookup x=some c→(C<c∧h1.IsCell c none)∨X.env.cells.lookup x=some c
 inj:∀ x y c,r.lookup x=some c→r.lookup y=some c→x=y
 has:∀ y∈scope.names,(y.2=.free∨y.2=.cell)→∃ c,r.lookup y.1=some c
 cab:∀ x c,scope.names.lookup x=some .cell→r.lookup x=some c→C<c
 cap:∀ x∈Nf,∀ c,r.lookup x=some c→X.env.cells.lookup x=some c
theorem bk5 {X:Cx}{scope:Scope}{Nf:List Str}{cl:List (Str×Addr)}{h:Heap}{C:Addr}(hC:h.objs.size=C+1) (hX:∀ x c,X.env.cells.lookup x=some c→c<C) (hinj:∀ x y c,X.env.cells.lookup x=some c→X.env.cells.lookup y=some c→x=y)
 (hcl:∀ x c,cl.lookup x=some c→X.env.cells.lookup x=some c) (hcf:∀ y∈scope.names,y.2=.free→∃ c,cl.lookup y.1=some c) (hnx:∀ x∈Nf,(x,NameKind.cell)∉scope.names) :
 CellsR X scope Nf (cellsFrom (C+1) scope.names cl) C (pushCells h scope.names):=by
 have e0:cellsFrom (C+1) scope.names cl=cellsFrom (C+1) scope.names []++cl:=a94 scope.names (C+1) [] cl
 have ok:=cellsFrom_ok scope.names h (C+1) [] ⟨fun _ _ hm=>(nomatch hm),List.Pairwise.nil⟩ (by rw [hC]; exact Nat.le_refl _)
 rw [hC] at ok
 have hmem:∀ x c,(x,c)∈cellsFrom (C+1) scope.names []→(x,NameKind.cell)∈scope.names:=fun x c h=>by
  rcases a95 _ _ _ x c h with z | z
  · exact nomatch z
  · exact z
 have ho:∀ x,(x,NameKind.cell)∈scope.names→∃ c,(cellsFrom (C+1) scope.names []).lookup x=some c:=fun x hx=>by
  obtain ⟨c,hc⟩:=a97 scope.names (C+1) [] x hx
  exact ae6 hc
 rw [e0]
 generalize cellsFrom (C+1) scope.names []=own at ok hmem e0 ho
 have spl:∀ x c,(own++cl).lookup x=some c→(own.lookup x=some c∧C<c)∨(own.lookup x=none∧cl.lookup x=some c):=fun x c e=>by
  rw [af9] at e
  cases hx:own.lookup x with
  | none=>rw [hx] at e; exact .inr ⟨rfl,e⟩
  | some d =>
    rw [hx] at e
    cases e
    exact .inl ⟨rfl,(ok.empty x c (PySem.mem_of_lookup hx)).2⟩
 refine ⟨fun x c e=>?_,fun x y c e1 e2=>?_,fun y hy hk=>?_,fun x c hk e=>?_,fun x hx c e=>?_⟩
 · rcases spl x c e with ⟨e1,h1⟩ | ⟨_,e1⟩
   · exact .inl ⟨h1,(ok.empty x c (PySem.mem_of_lookup e1)).1⟩
   · exact .inr (hcl x c e1)
 · rcases spl x c e1 with ⟨a1,b1⟩ | ⟨_,a1⟩ <;> rcases spl y c e2 with ⟨a2,b2⟩ | ⟨_,a2⟩
   · exact name_of_addr ok.apart (PySem.mem_of_lookup a1) (PySem.mem_of_lookup a2)
   · exact absurd (hX y c (hcl y c a2)) (Nat.not_lt.mpr (Nat.le_of_lt b1))
   · exact absurd (hX x c (hcl x c a1)) (Nat.not_lt.mpr (Nat.le_of_lt b2))
   · exact hinj x y c (hcl x c a1) (hcl y c a2)
 · rw [af9]
   cases hx:own.lookup y.1 with
   | some d=>exact ⟨d,rfl⟩
   | none =>
     rcases hk with hk | hk
     · exact hcf y hy hk
     · obtain ⟨c,hc⟩:=ho y.1 (by rw [← hk]; exact hy)
       rw [hx] at hc
       cases hc
 · obtain ⟨d,hd⟩:=ho x (PySem.mem_of_lookup hk)
   rcases spl x c e with ⟨_,h1⟩ | ⟨z,_⟩
   · exact h1
   · rw [hd] at z
     cases z
 · rcases spl x c e with ⟨h1,_⟩ | ⟨_,e1⟩
   · exact absurd (hmem x c (PySem.mem_of_lookup h1)) (hnx x hx)
   · exact hcl x c e1
section
variable {X:Cx}{pins:List (Addr×Obj)}{σ:St} {H:Hp}{s:Shared}{N:List Str}{scope:Scope}{cl:List (Str×Addr)}{C:Addr}{ex:List Addr}{Nf:List Str}{h1:Heap}
theorem bt8 (I:Inv X pins σ H s) (hC:s.heap.objs.size≤C) (hkind:scope.kind=.function) (R:CellsR X scope Nf cl C h1)
 (hex:∀ b∈ex,FpOk X pins H b) (hexl:∀ b∈ex,b<s.heap.objs.size):(cxC X N scope cl C s H ex).Ok where
 mod:=I.ok.mod
 kind:=hkind
 glob:=I.ok.glob
 blt:=I.ok.blt
 above:=hC
 inj:=R.inj
 has:=fun x hx=>by
  have hx':∃ k,(relabel scope X.env).names.lookup x=some k∧(k=.cell∨k=.free):=by
   rcases hx with h | h
   · exact ⟨_,h,.inl rfl⟩
   · exact ⟨_,h,.inr rfl⟩
  obtain ⟨k,h,hk⟩:=hx'
  obtain ⟨y,hy,e1,e2⟩:=aq7 h hk
  rw [← e1]
  exact R.has y hy e2
 cab:=fun x c h e=>Nat.le_trans hC (Nat.le_of_lt (R.cab x c (by have h':(scope.names.lookup x == some NameKind.cell)=true:=h; simpa using h') e))
 hd:=I.ok.hd
 frames:=I.ok.frames
 stk:=.inl rfl
 exf:=fun b hb=>⟨Nat.ne_of_lt (Nat.lt_of_lt_of_le (hexl b hb) hC),fun x c e=>by
  rcases R.sp x c e with ⟨z,_⟩ | z
  · exact Nat.ne_of_gt (Nat.lt_trans (Nat.lt_of_lt_of_le (hexl b hb) hC) z)
  · exact (hex b hb).2.2.2.2.1 x c z⟩
 bs:=I.bs
 bsz:=Nat.le_trans I.ok.bsz I.sz
 noex:=fun b o e hb=>by
  rcases (hex b hb).2.2.2.1 with z | z
  · exact I.ok.noex b o e z
  · have h1:=Heap.lt_size e
    have h2:=I.ok.bsz
    exact absurd (Nat.lt_of_lt_of_le h1 (Nat.le_trans h2 z)) (Nat.lt_irrefl _)
 exfs:=fun b hb z=>by
  have h1:=I.stkSub b z
  rcases List.mem_cons.mp h1 with z | z
  · exact (hex b hb).2.1 z
  · exact (hex b hb).2.2.1 z
 funs:=I.stack
 frf:=I.stkFree
def capV (caps:List Nat) (σ:St):St:=caps.map fun j=>(σ[j]?).join
def cSt (n:Nat) (caps:List Nat) (σ:St):St:=List.replicate n none++capV caps σ
theorem bk6 {caps:List Nat}{Nt:List Str}{s1:Shared}{m:Str→Option Value}(I:Inv X pins σ H s) (ok:(cxC X (Nt++Nf) scope cl C s H ex).Ok)
 (R:CellsR X scope Nf cl C s1.heap)
 (hcap:caps.map (fun j=>X.N[j]?)=Nf.map some)
 (hvis:∀ x∈Nf,scope.names.lookup x=some .free) (hXv:∀ x∈Nf,X.env.kindOf x=some .cell∨X.env.kindOf x=some .free) (hcf:∀ x∈Nf,∃ c,cl.lookup x=some c)
 (hos:s1.os=s.os) (hgens:s1.gens=s.gens) (hk:∀ b o,s.heap.get? b=some o→s1.heap.get? b=some o) (hns:s1.heap.Ns C m) (hC:s.heap.objs.size≤C) :
 Inv (cxC X (Nt++Nf) scope cl C s H ex) [] (cSt Nt.length caps σ) H s1:=by
 have hlen:caps.length=Nf.length:=by
  have:=congrArg List.length hcap
  simpa using this
 refine ⟨ok,hos,by rw [hgens]; exact I.bare,Un.kept hk,⟨m,hns,fun i x v h1 h2 h3=>?_⟩,fun x c e=>?_,I.hok.fresh hC,fun x c e=>by
  rcases R.sp x c e with ⟨z,_⟩ | z
  · exact I.hok.fresh (Nat.le_trans hC (Nat.le_of_lt z))
  · exact I.freeC x c z,fun p hp=>absurd (show p∈([]:List (Addr×Obj)) from hp) (by simp),I.hok.kept hk,?_⟩
 · -- a captured name
   have hi:Nt.length≤i:=by
    refine Nat.le_of_not_lt fun q=>?_
    unfold cSt at h2
    rw [List.getElem?_append_left (by simpa using q),List.getElem?_replicate] at h2
    split at h2 <;> cases h2
   have h1':Nf[i - Nt.length]?=some x:=by
    have:(Nt++Nf)[i]?=some x:=h1
    rwa [List.getElem?_append_right hi] at this
   unfold cSt at h2
   rw [List.getElem?_append_right (by simpa using hi)] at h2
   have e0:i - (List.replicate Nt.length (none:Option V)).length=i - Nt.length:=by simp
   rw [e0] at h2
   generalize hj:i - Nt.length=j at h1' h2
   unfold capV at h2
   rw [List.getElem?_map] at h2
   cases hc:caps[j]? with
   | none=>rw [hc] at h2; cases h2
   | some jj =>
     rw [hc] at h2
     have h2':(σ[jj]?).join=some v:=Option.some.inj h2
     have h2'':σ[jj]?=some (some v):=by
      cases q:σ[jj]? with
      | none=>rw [q] at h2'; cases h2'
      | some z=>rw [q] at h2'; cases z with
        | none=>cases h2'
        | some z'=>cases h2'; rfl
     have hN:X.N[jj]?=some x:=by
      have q:=congrArg (fun l=>l[j]?) hcap
      simp only [List.getElem?_map,hc,h1',Option.map_some] at q
      exact Option.some.inj q
     have hx:x∈Nf:=List.mem_of_getElem? h1'
     have hXk:=hXv x hx
     obtain ⟨mX,_,hl⟩:=I.loc
     obtain ⟨u,ru,lk⟩:=hl jj x v hN h2'' (by
      rcases hXk with z | z
      · exact .inr (.inl z)
      · exact .inr (.inr z))
     refine ⟨u,ru,.inr ?_⟩
     rcases lk with ⟨z,_⟩ | ⟨_,c,hc1,hcell⟩
     · rcases hXk with y | y <;> (rw [z] at y; cases y)
     · obtain ⟨c',hc'⟩:=hcf x hx
       have e:=R.cap x hx c' hc'
       rw [hc1] at e; cases e
       refine ⟨?_,c,hc',?_⟩
       · rcases h3 with z | z | z
         · -- not a local of the block
           exfalso
           have hfree:=hvis x hx
           have z':(relabel scope X.env).names.lookup x=some .local:=z
           have gen:∀ names:List (Str×NameKind),names.lookup x=some .free→(names.map fun (n,k)=>if (k == NameKind.free && X.env.scope.kind == .function && X.env.kindOf n == some .cell) then (n,NameKind.cell) else (n,k)).lookup x≠some .local:=by
            intro names
            induction names with
            | nil=>intro h; cases h
            | cons p r ih =>
              obtain ⟨n,k⟩:=p
              intro h
              rw [List.map_cons,List.lookup_cons]
              rw [List.lookup_cons] at h
              have e1:(if (k == NameKind.free && X.env.scope.kind == .function && X.env.kindOf n == some .cell)=true then (n,NameKind.cell) else (n,k)).1=n:=by split <;> rfl
              dsimp only
              rw [e1]
              cases hx:x == n with
              | false=>rw [hx] at h; exact ih h
              | true =>
                rw [hx] at h
                cases h
                show some (if _ then (n,NameKind.cell) else (n,NameKind.free)).2≠some .local
                split <;> (intro q; cases q)
           exact gen scope.names hfree z'
         · exact .inl z
         · exact .inr z
       · obtain ⟨o,eo,d⟩:=hcell
         exact ⟨o,hk _ _ eo,d⟩
 · rcases R.sp x c e with ⟨_,z⟩ | z
   · exact ⟨none,z⟩
   · obtain ⟨v,q⟩:=I.cell x c z
     obtain ⟨o,eo,d⟩:=q
     exact ⟨v,o,hk _ _ eo,d⟩
 · show (cSt Nt.length caps σ).length=(Nt++Nf).length
   unfold cSt capV
   simp [hlen]
end
abbrev bg0 (ifs:List Expr) (env:Env):Sem Bool:=forIn ifs true fun c r=>if r=true then do let ok←isTrue c env (eval c env); pure (ForInStep.yield ok) else pure (ForInStep.yield r)
abbrev NoX:Value→Shared→Prop:=fun _ _=>False
theorem aq8 {P:Program}{w:World}{B:Around}{R:Result→Shared→Prop}{s:Shared}{y tg l:Expr}{cs:List Expr}{sc:Scope}{ps:Pos}{iv av:Value}{en:Env}(G:Nat→Shared→Prop)
 (one:∀ n s,G n s→wpAny (model P w) B (pyNext iv) (fun r s1=>match r with
  | none=>R (.ok .next) s1
  | some v=>wpAny (model P w) B (letOwnedTupleGo tg iv v) (fun _ s1=>wpAny (model P w) B (assign tg en v) (fun _ s2=>wpAny (model P w) B (bg0 cs en) (fun k s3 =>
   if k=true then wpAny (model P w) B (eval y en) (fun x s4=>wpAny (model P w) B (call (.builtin "list.append") [av,x]) (fun _ s5=>∃ m,m<n∧G m s5) NoX s4) NoX s3
   else ∃ m,m<n∧G m s3) NoX s2) NoX s1) NoX s1) NoX s) (n:Nat) (h:G n s) :
 codeAny (model P w) B (.compLoop (.ListComp y [⟨tg,l,cs,0⟩] sc ps) 0 iv av en) R s:=by
 refine codeAny_loop rfl G (fun n s hG=>?_) n h
 show wpAny _ B ((compTurn (.ListComp y [⟨tg,l,cs,0⟩] sc ps) 0 iv av en).onRaise (fun x=>do noteFrame x en; theTreesLotGoes x)) _ _ s
 refine wpAny_noted ?_
 rw [compTurn_list]
 refine wpAny_bind (wpAny_standAt (wpAny_bind (wpAny_mono (one n s hG) (fun r s1 h1=>?_) fun _ _ z=>z.elim)))
 cases r with
 | none=>exact wpAny_pure h1
 | some v =>
   refine wpAny_bind (wpAny_mono h1 (fun _ s1' h1'=>?_) fun _ _ z=>z.elim)
   refine wpAny_bind (wpAny_mono h1' (fun _ s2 h2=>wpAny_bind (wpAny_mono h2 (fun k s3 h3=>?_) fun _ _ z=>z.elim)) fun _ _ z=>z.elim)
   cases k with
   | false=>exact wpAny_pure ⟨rfl,h3⟩
   | true=>exact wpAny_bind (wpAny_bind (wpAny_mono h3 (fun x s4 h4=>wpAny_bind (wpAny_mono h4 (fun _ s5 h5=>wpAny_pure (wpAny_pure ⟨rfl,h5⟩)) fun _ _ z=>z.elim)) fun _ _ z=>z.elim))
def PTs (X:Cx) (ifs:List Expr) (t:TT):Prop :=
 ∀ (pins:List (Addr×Obj)) (s:Shared) (σ:St) (H:Hp) (Q:Bool→Hp→Prop),Inv X pins σ H s→t σ H Q →
  wpAny (model X.prog X.w) X.A (bg0 ifs X.env) (TP X pins σ Q) X.xe s
def tNoIf:TT:=fun _ H Q=>Q true H
theorem ab3 {X:Cx}:PTs X [] tNoIf:=fun pins s σ H Q I h=>wpAny_tests_nil ⟨H,I,h⟩
theorem a73 {X:Cx}{c:Expr}{t:TT}(h:PT X c t):PTs X [c] t:=fun pins s σ H Q I q=>wpAny_tests_one (h pins s σ H Q I q)
section
variable {X:Cx}{pins:List (Addr×Obj)}{σ:St} {H:Hp}{s:Shared}
theorem Inv.adopt {D:Addr}{o:HO}(I:Inv X pins σ H s) (hD:H D=none) (h1:X.s₀.heap.objs.size≤D) (h2:D≠X.env.locals) (h3:∀ x c,X.env.cells.lookup x=some c→c≠D) (h4:∀ p∈X.pn++pins,p.1≠D)
 (new:ObjOk X.prog X.w (upd H D o) s.heap D o):Inv X pins σ (upd H D o) s:=by
 have old:∀ {b:Addr}{q:Obj},X.s₀.heap.get? b=some q→b≠D:=fun e=>Nat.ne_of_lt (Nat.lt_of_lt_of_le (Heap.lt_size e) h1)
 refine ⟨I.ok,I.os,I.bare,⟨I.base.keep,I.base.slot,fun b q e n hx=>by rw [a11 (old e)]; exact I.base.free b q e n hx,I.base.there,fun b xs e=>?_,fun b q u e=>?_,fun b ps e=>?_⟩,I.loc,I.cell,by rw [a11 (Ne.symm h2)]; exact I.free,fun x c e=>by rw [a11 (h3 x c e)]; exact I.freeC x c e,fun p hp=>?_,fun b u e=>?_,I.len⟩
 · have e':=I.base.tups b xs e
   rw [a11 (a39 e' hD)]; exact e'
 · have e':=I.base.frzs b q u e
   rw [a11 (a39 e' hD)]; exact e'
 · obtain ⟨more,e'⟩:=I.base.tbls b ps e
   exact ⟨more,by rw [a11 (a39 e' hD)]; exact e'⟩
 · obtain ⟨a1,a2,a3,a4,a5⟩:=I.pin p hp
   exact ⟨a1,by rw [a11 (h4 p hp)]; exact a2,a3,a4,a5⟩
 · by_cases hb:b=D
   · subst hb; rw [a14] at e; cases e; exact new
   · rw [a11 hb] at e
     exact (I.hok b u e).stay (fun c v _ q=>q) (fun c q=>by rw [a11 (a39 q hD)]; exact q) fun c xs q=>by rw [a11 (a39 q hD)]; exact q
def tLC (wi:TI) (g:TG) (tt:TT) (te:TE) (n:Nat) (caps:List Nat):TE:=fun σ H Q=>wi σ H fun J H1=>∃ W:Nat→Nat→List V→St→Hp→Prop,(∃ m,W 0 m [] (cSt n caps σ) H1)∧∀ i m acc σ' H',W i m acc σ' H' →
 (J.stop i H'∧∀ l,H' l=none→Q (.ref l) (upd H' l (.lst acc))) ∨
 (J.go i H'∧acc.length<sizeLine∧∃ N:List V→St→Hp→Prop,(∀ ac σ2 H2,N ac σ2 H2→∃ m',m'<m∧W (i+1) m' ac σ2 H2)∧∀ x H2,J.yld i H' x H2→g x σ' H2 fun σ3 H3=>tt σ3 H3 fun b H4=>if b=true then te σ3 H4 fun y H5=>N (acc++[y]) σ3 H5 else N acc σ3 H4)
structure CompOk (X:Cx) (scope:Scope) (Nt Nf:List Str) (caps:List Nat):Prop where
 kind:scope.kind=.function
 nx:∀ x∈Nf,(x,NameKind.cell)∉scope.names
 nm:∀ y∈scope.names,y.2=.local→scope.names.lookup y.1=some .local
 fr:∀ y∈scope.names,y.2=.free→X.env.kindOf y.1=some .cell∨X.env.kindOf y.1=some .free
 cap:caps.map (fun j=>X.N[j]?)=Nf.map some
 vis:∀ x∈Nf,scope.names.lookup x=some .free
theorem b06 {M:Model}{A:Around}{E:Value→Shared→Prop}{scope:Scope}{globals:Addr}{closure:List (Str×Addr)}{qual:Str}{func:Option Addr}{code:Value}{env:Env}{builtins:Addr}{Q:Env→Shared→Prop}
 (hQ:Q (newEnv scope s.heap.objs.size globals (cellsFrom (s.heap.objs.size+1) scope.names closure) qual func code (some env) builtins) { s with heap:=pushCells (s.heap.push { cls:=.type "dict",data:=.dict #[] }) scope.names }) :
 wpAny M A (newFunctionEnv scope globals closure [] qual func code (some env) builtins) Q E s:=by
 simp only [newFunctionEnv,Option.isSome_some,if_true]
 refine wpAny_bind (wpAny_alloc ?_)
 refine wpAny_bind (wpAny_layCells _ (fun name kind cells=>by cases hkc:kind == NameKind.cell <;> simp [hkc]) _ _ _ _ ?_)
 rw [show ({ s with heap:=s.heap.push { cls:=.type "dict",data:=.dict #[] } }:Shared).heap.objs.size=s.heap.objs.size+1 from Heap.size_push ..]
 rw [List.forIn_nil]
 exact wpAny_bind (wpAny_pure (wpAny_pure hQ))
theorem al5 {tg iter elt:Expr}{ifs:List Expr}{scope:Scope}{pos:Pos}{g:TG}{tt:TT}{te:TE}{Nt Nf:List Str}{caps:List Nat}{cl:List (Str×Addr)}{it:Addr}{fp:List Addr}{tn:Nat→Heap→Prop}{J:It}{Q:VK}{E:Value→Shared→Prop}
 {RR:Value→Addr→Result→Shared→Prop}
 (hc:X.calm=true) (S:CompOk X scope Nt Nf caps)
 (hg:∀ cl C s0 H0 ex,PG (cxC X (Nt++Nf) scope cl C s0 H0 ex) tg g)
 (ht:∀ cl C s0 H0 ex,PTs (cxC X (Nt++Nf) scope cl C s0 H0 ex) ifs tt)
 (he:∀ cl C s0 H0 ex,PE (cxC X (Nt++Nf) scope cl C s0 H0 ex) elt te)
 (hcl:∀ x c,cl.lookup x=some c→X.env.cells.lookup x=some c) (hcf:∀ y∈scope.names,y.2=.free→∃ c,cl.lookup y.1=some c)
 (I:Inv X pins σ H s) (T:Turn X.prog X.w X.K tg J fp it tn) (st:tn 0 s.heap) (hfp:∀ b∈fp,FpOk X pins H b)
 (hW:∃ W:Nat→Nat→List V→St→Hp→Prop,(∃ m,W 0 m [] (cSt Nt.length caps σ) H)∧∀ i m acc σ' H',W i m acc σ' H' →
  (J.stop i H'∧∀ l,H' l=none→Q (.ref l) (upd H' l (.lst acc))) ∨
  (J.go i H'∧acc.length<sizeLine∧∃ N:List V→St→Hp→Prop,(∀ ac σ2 H2,N ac σ2 H2→∃ m',m'<m∧W (i+1) m' ac σ2 H2)∧∀ x H2,J.yld i H' x H2→g x σ' H2 fun σ3 H3=>tt σ3 H3 fun b H4=>if b=true then te σ3 H4 fun y H5=>N (acc++[y]) σ3 H5 else N acc σ3 H4))
 (fin:∀ D C m s' H',Inv X pins σ H' s'→Q (.ref D) H'→s'.heap.Ns C m→H' C=none→C≠X.env.locals→X.s₀.heap.objs.size≤C→(∀ x c,X.env.cells.lookup x=some c→c≠C)→(∀ p∈X.pn++pins,p.1≠C)→RR (.ref D) C (.ok .next) s') :
 wpAny (model X.prog X.w) X.A (newList []) (fun acc s₃=>wpAny (model X.prog X.w) X.A (newFunctionEnv scope X.env.globals cl [] X.env.qual none .none (some X.env)) (fun cenv s₄ =>
  codeAny (model X.prog X.w) X.A (.compStart (.ListComp elt [⟨tg,iter,ifs,0⟩] scope pos) 0 (.ref it) acc { cenv with scope:=relabel scope X.env }) (RR acc cenv.locals) s₄) E s₃) E s:=by
 obtain ⟨W,⟨m0,w0⟩,turn⟩:=hW
 refine wpAny_newObj_type (b06 ?_)
 dsimp only
 generalize hH2:s.heap.push { cls:=.type "list",dict:=none,data:=.seq ([]:List Value).toArray }=P2
 have hCs:P2.objs.size=s.heap.objs.size+1:=by rw [← hH2,Heap.size_push]
 have hDC:s.heap.objs.size≠P2.objs.size:=by rw [hCs]; exact Nat.ne_of_lt (Nat.lt_succ_self _)
 have hCle:s.heap.objs.size≤P2.objs.size:=by rw [hCs]; exact Nat.le_succ _
 have below:∀ b,b<s.heap.objs.size→b≠P2.objs.size:=fun b hb=>by rw [hCs]; exact Nat.ne_of_lt (Nat.lt_succ_of_lt hb)
 have kp:=pushCells_keeps scope.names (P2.push { cls:=.type "dict",data:=.dict #[] })
 have hns₁:=(Heap.Ns.new P2 (.type "dict")).keeps kp
 have old:∀ b o,s.heap.get? b=some o→(pushCells (P2.push { cls:=.type "dict",data:=.dict #[] }) scope.names).get? b=some o:=fun b o e=>kp _ _ (Heap.get?_push_of_some _ (hH2 ▸ Heap.get?_push_of_some _ e))
 have hacc:(pushCells (P2.push { cls:=.type "dict",data:=.dict #[] }) scope.names).PlainList s.heap.objs.size #[]:=⟨_,kp _ _ (Heap.get?_push_of_some _ (hH2 ▸ Heap.get?_push_size _ rfl))⟩
 have R:=bk5 (X:=X) (scope:=scope) (Nf:=Nf) (cl:=cl) (h:=P2.push { cls:=.type "dict",data:=.dict #[] }) (C:=P2.objs.size) (Heap.size_push ..) (fun x c e=>by
  obtain ⟨v,q⟩:=I.cell x c e
  exact Nat.lt_of_lt_of_le q.lt hCle) I.ok.inj hcl hcf S.nx
 generalize cellsFrom (P2.objs.size+1) scope.names cl=r at R ⊢
 generalize pushCells (P2.push { cls:=.type "dict",data:=.dict #[] }) scope.names=h₁ at R hns₁ old hacc ⊢
 have fpl:∀ b∈fp,b<s.heap.objs.size:=fun b hb=>by
  obtain ⟨o,e,_⟩:=T.obj _ _ st b hb
  exact Heap.lt_size e
 have st₁:tn 0 h₁:=T.keep _ _ _ st fun b _ o e=>old b o e
 generalize hCe:P2.objs.size=C at hns₁ R hDC hCle below ⊢
 generalize hDe:s.heap.objs.size=D at hacc hDC hCle ⊢
 have hDl:X.env.locals<D:=by rw [← hDe]; exact I.lt
 have hDs:X.s₀.heap.objs.size≤D:=by rw [← hDe]; exact I.sz
 have hcD:∀ x c,X.env.cells.lookup x=some c→c<D:=fun x c e=>by
  obtain ⟨v,q⟩:=I.cell x c e
  rw [← hDe]; exact q.lt
 have hpD:∀ p∈X.pn++pins,p.1<D:=fun p hp=>by rw [← hDe]; exact Heap.lt_size (I.pin p hp).1
 let Y:Cx:=cxC X (Nt++Nf) scope r C s H fp
 have okY:Y.Ok:=bt8 I (by rw [hDe]; exact hCle) S.kind R hfp fpl
 have hfsY:∀ b,b∈Y.fs→b<D:=fun b hb=>by
  rcases List.mem_cons.mp (I.stkSub b hb) with z | z
  · rw [z]; exact hDl
  · refine Nat.lt_of_lt_of_le ?_ hDs
    have:=(I.ok.funs.mem z)
    refine Nat.lt_of_not_le fun q=>?_
    exact absurd z (fun z=>by
     have:=I.nofs (a:=b)
     by_cases hb2:s.heap.objs.size≤b
     · exact this hb2 z
     · obtain ⟨_,o,e,_⟩:=I.ok.funs.mem z
       exact absurd (Heap.lt_size e) (Nat.not_lt.mpr q))
 have loop:∀ s₃:Shared,s₃={ s with heap:=h₁ } →
  codeAny (model X.prog X.w) X.A (.compLoop (.ListComp elt [⟨tg,iter,ifs,0⟩] scope pos) 0 (.ref it) (.ref D) Y.env) (RR (.ref D) C) s₃:=by
  rintro s₃ rfl
  have I0:Inv Y [] (cSt Nt.length caps σ) H { s with heap:=h₁ } :=
   bk6 I okY R S.cap S.vis (fun x hx=>S.fr (x,.free) (PySem.mem_of_lookup (S.vis x hx)) rfl) (fun x hx=>R.has (x,.free) (PySem.mem_of_lookup (S.vis x hx)) (.inl rfl)) rfl rfl old hns₁ (by rw [hDe]; exact hCle)
  have fpY:∀ {H':Hp},(∀ b∈fp,H' b=none)→∀ b∈fp,FpOk Y [] H' b:=fun hn b hb =>
   ⟨hn b hb,Nat.ne_of_lt (Nat.lt_of_lt_of_le (fpl b hb) (by rw [hDe]; exact hCle)),okY.exfs b hb,.inl hb,fun x c e=>by
    rcases R.sp x c e with ⟨z,_⟩ | z
    · exact Nat.ne_of_gt (Nat.lt_trans (Nat.lt_of_lt_of_le (fpl b hb) (by rw [hDe]; exact hCle)) z)
    · exact (hfp b hb).2.2.2.2.1 x c z,fun p hp=>absurd (show p∈([]:List (Addr×Obj)) from hp) (by simp)⟩
  have fpD:∀ b∈fp,b≠D:=fun b hb=>Nat.ne_of_lt (by rw [← hDe]; exact fpl b hb)
  refine aq8 (fun n s'=>∃ i acc its σ' H',Inv Y [] σ' H' s'∧tn i s'.heap∧(∀ b∈fp,H' b=none)∧s'.heap.PlainList D its∧H' D=none∧Vals acc its.toList∧acc.length≤sizeLine∧W i n acc σ' H') ?_ m0
   ⟨0,[],#[],cSt Nt.length caps σ,H,I0,st₁,fun b hb=>(hfp b hb).1,hacc,by rw [← hDe]; exact I.hok.fresh (Nat.le_refl _),.nil,Nat.zero_le _,w0⟩
  rintro n s3 ⟨i,acc,its,σ3,H3,I3,st3,fr3,⟨nd,e3⟩,hD3,rv3,hl3,w3⟩
  have cD:C≠D:=Ne.symm hDC
  have pinOk:∀ {H':Hp}{s':Shared}{o:Obj},s'.heap.get? D=some o→H' D=none→(∀ v,o.data≠.cell v)→s'.heap.get? D=some o∧H' D=none∧D≠Y.env.locals∧D∉Y.fs∧∀ v,o.data≠.cell v:=fun e n d =>
   ⟨e,n,hDC,fun z=>absurd (hfsY D z) (Nat.lt_irrefl _),d⟩
  have I3':Inv Y [(D,{ cls:=.type "list",data:=.seq its nd })] σ3 H3 s3:=I3.pins_of fun p hp=>by
   obtain rfl:p=(D,({ cls:=.type "list",data:=.seq its nd }:Obj)):=List.mem_singleton.mp hp
   exact pinOk e3 hD3 (fun v z=>by cases z)
  have fpY':∀ {H':Hp},(∀ b∈fp,H' b=none)→∀ b∈fp,FpOk Y [(D,{ cls:=.type "list",data:=.seq its nd })] H' b:=fun hn b hb=>by
   obtain ⟨a1,a2,a3,a4,a5,_⟩:=fpY hn b hb
   refine ⟨a1,a2,a3,a4,a5,fun p hp=>?_⟩
   obtain rfl:p=(D,({ cls:=.type "list",data:=.seq its nd }:Obj)):=List.mem_singleton.mp hp
   exact Ne.symm (fpD b hb)
  rcases turn i n acc σ3 H3 w3 with ⟨stop,qn⟩ | ⟨go,hlt,N,hN,step⟩
  · refine thn (T.done Y rfl rfl rfl hc i _ s3 σ3 H3 _ I3' (fpY' fr3) st3 stop) ?_
    rintro r s4 ⟨hr,I4⟩
    subst hr
    have e4:=(I4.pin (D,{ cls:=.type "list",data:=.seq its nd }) (List.mem_append_right _ List.mem_cons_self)).1
    have IX:Inv X pins σ H3 s4:=I.call' (ch:=fp) I4.os I4.base I4.hok I4.bare fun b hb=>by
     obtain ⟨_,a2,_,a4,a5,a6⟩:=hfp b hb
     exact ⟨a4,a2,a5,a6⟩
    have IA:=IX.adopt (o:=.lst acc) hD3 hDs (Nat.ne_of_gt hDl) (fun x c e=>Nat.ne_of_lt (hcD x c e)) (fun p hp=>Nat.ne_of_lt (hpD p hp)) ⟨hl3,its.toList,nd,rv3,e4⟩
    obtain ⟨m,nsC,_⟩:=I4.loc
    refine fin D C m s4 _ IA (qn D hD3) nsC (by rw [a11 cD]; exact I4.free) ?_ ?_ ?_ ?_
    · exact Nat.ne_of_gt (Nat.lt_of_lt_of_le hDl hCle)
    · exact Nat.le_trans hDs hCle
    · exact fun x c e=>Nat.ne_of_lt (Nat.lt_of_lt_of_le (hcD x c e) hCle)
    · exact fun p hp=>Nat.ne_of_lt (Nat.lt_of_lt_of_le (hpD p hp) hCle)
  · refine thn (T.item Y rfl rfl rfl hc i _ s3 σ3 H3 _ I3' (fpY' fr3) st3 go) ?_
    rintro r s4 ⟨u,hr,h4⟩
    subst hr
    refine thn h4 ?_
    rintro _ s5 ⟨x,H5,I5,r5,y5,st5,fr5⟩
    have I5':=I5.pinned (fpY' fr5) (T.obj _ _ st5)
    refine thn (hg r C s H fp _ s5 σ3 H5 x u _ I5' r5 (step x H5 y5)) ?_
    rintro _ s6 ⟨σ6,H6,I6,q6⟩
    refine thn (ht r C s H fp _ s6 σ6 H6 _ I6 q6) ?_
    rintro b s7 ⟨H7,I7,q7⟩
    have back:∀ {σ':St} {H':Hp}{s':Shared},Inv Y ([(D,{ cls:=.type "list",data:=.seq its nd })]++ap1 fp s5.heap) σ' H' s' →
     s'.heap.get? D=some { cls:=.type "list",data:=.seq its nd }∧H' D=none∧tn (i+1) s'.heap∧∀ b∈fp,H' b=none:=fun {σ' H' s'} J7=>by
     have hd:=J7.pin (D,{ cls:=.type "list",data:=.seq its nd }) (List.mem_append_right _ (List.mem_append_left _ List.mem_cons_self))
     refine ⟨hd.1,hd.2.1,T.keep _ _ _ st5 fun b hb o e=>(J7.pin (b,o) (List.mem_append_right _ (List.mem_append_right _ (ab7 hb e)))).1,fun b hb=>?_⟩
     obtain ⟨o,e,d⟩:=T.obj _ _ st5 b hb
     exact (J7.pin (b,o) (List.mem_append_right _ (List.mem_append_right _ (ab7 hb e)))).2.1
    cases b with
    | false =>
      rw [if_neg Bool.false_ne_true]
      rw [if_neg Bool.false_ne_true] at q7
      obtain ⟨m',hm,w7⟩:=hN _ _ _ q7
      obtain ⟨b1,b2,b3,b4⟩:=back I7
      exact ⟨m',hm,i+1,acc,its,σ6,H7,I7.pins_of (fun p hp=>nomatch hp),b3,b4,⟨nd,b1⟩,b2,rv3,hl3,w7⟩
    | true =>
      rw [if_pos rfl]
      rw [if_pos rfl] at q7
      refine thn (he r C s H fp _ s7 σ6 H7 _ I7 q7) ?_
      rintro u8 s8 ⟨y,H8,I8,r8,n8⟩
      obtain ⟨m',hm,w8⟩:=hN _ _ _ n8
      obtain ⟨b1,b2,b3,b4⟩:=back I8
      have hsz:its.size≤sizeLine:=by
       have h1:=rv3.length
       have h2:its.toList.length=its.size:=by simp
       omega
      refine wpAny_list_append_plain (hsz:=hsz) ⟨nd,b1⟩ fun h' pl' sb'=>?_
      have I8':Inv Y [] σ6 H8 s8:=I8.pins_of (fun p hp=>nomatch hp)
      refine ⟨m',hm,i+1,acc++[y],its.push u8,σ6,H8,I8'.turned (t':=s8.toks) (fun b o hb e=>(sb'.2 b hb).trans e) b2 hDC (.inr (by show s.heap.objs.size≤D; rw [hDe]; exact Nat.le_refl _)) (fun x c e=>by
       rcases R.sp x c e with ⟨z,_⟩ | z
       · exact Nat.ne_of_gt (Nat.lt_of_le_of_lt hCle z)
       · exact Nat.ne_of_lt (hcD x c z)) (fun p hp=>absurd (show p∈([]:List (Addr×Obj)) from hp) (by simp)),?_,b4,pl',b2,?_,?_,w8⟩
      · exact T.keep _ _ _ b3 fun b hb o e=>(sb'.2 b (fpD b hb)).trans e
      · rw [Array.toList_push]
        exact rv3.append (.cons r8 .nil)
      · rw [List.length_append,List.length_singleton]
        omega
 exact codeAny_compStart_list (loop _ rfl) (T.self _ _ _ _ _ st₁ (loop _ rfl))
theorem ac4 {tg iter elt:Expr}{ifs:List Expr}{scope:Scope}{pos:Pos}{wi:TI}{g:TG}{tt:TT}{te:TE}{Nt Nf:List Str}{caps:List Nat}(hc:X.calm=true) (S:CompOk X scope Nt Nf caps) (hi:PI X tg iter wi)
 (hg:∀ cl C s0 H0 ex,PG (cxC X (Nt++Nf) scope cl C s0 H0 ex) tg g)
 (ht:∀ cl C s0 H0 ex,PTs (cxC X (Nt++Nf) scope cl C s0 H0 ex) ifs tt)
 (he:∀ cl C s0 H0 ex,PE (cxC X (Nt++Nf) scope cl C s0 H0 ex) elt te)
 (hs:∀ x,foldedSetIterable iter X.env x=pure x:=by intro _; rfl):PE X (.ListComp elt [⟨tg,iter,ifs,0⟩] scope pos) (tLC wi g tt te Nt.length caps):=by
 intro pins s σ H Q I h
 obtain ⟨cl,hclos,hcl,hcf⟩:=al4 I.ok.has S.fr
 rw [eval_ListComp]
 refine wpAny_comprehension_free (use:=none) rfl hs hclos S.kind S.nm (thn (hi pins s σ H _ I h) fun v s1 h1=>thn h1 fun itv s2 h2=>?_)
 obtain ⟨it,fp,tn,J,H2,e,I2,T,st2,f2,hW⟩:=h2
 subst e
 refine al5 (RR:=fun acc C=>compPost (model X.prog X.w) X.A X.xe none (EP X pins σ Q) acc C) (Q:=Q) hc S hg ht he hcl hcf I2 T st2 f2 hW ?_
 intro D C m s' H' I' q nsC hCn hCl hCs hCc hCp
 exact ⟨m,nsC,fun h' sb=>⟨.ref D,H',I'.turned (t':=s'.toks) (fun b o hb e=>(sb.2 b hb).trans e) hCn hCl (.inr hCs) hCc hCp,rfl,q⟩⟩
theorem bb5 {tg iter elt:Expr}{ifs:List Expr}{scope:Scope}{pos spos py:Pos}{y:Str}{i:Nat}{wi:TI}{g:TG}{tt:TT}{te:TE}{Nt Nf:List Str}{caps:List Nat}(hc:X.calm=true) (S:CompOk X scope Nt Nf caps) (hi:PI X tg iter wi)
 (hg:∀ cl C s0 H0 ex,PG (cxC X (Nt++Nf) scope cl C s0 H0 ex) tg g)
 (ht:∀ cl C s0 H0 ex,PTs (cxC X (Nt++Nf) scope cl C s0 H0 ex) ifs tt)
 (he:∀ cl C s0 H0 ex,PE (cxC X (Nt++Nf) scope cl C s0 H0 ex) elt te)
 (hN:X.N.Nodup) (hy:X.N[i]?=some y) (hx:Loc X.env.scope y)
 (hsw:swapsWith (.ListComp elt [⟨tg,iter,ifs,0⟩] scope pos) (some (.Name y py)) spos.line X.env=pure true)
 (hf:X.fn y=true∨X.env.scope.names.lookup y=some .local:=by first | exact .inl rfl | exact .inr rfl | assumption)
 (hs:∀ x,foldedSetIterable iter X.env x=pure x:=by intro _; rfl):PS X (.Assign [.Name y py] (.ListComp elt [⟨tg,iter,ifs,0⟩] scope pos) spos) (tAsg (tLC wi g tt te Nt.length caps) (ag6 i)):=by
 intro pins s σ H D I h
 obtain ⟨cl,hclos,hcl,hcf⟩:=al4 I.ok.has S.fr
 rw [exec_Assign_Name_used _ _ _ _ hsw]
 refine wpAny_bind (wpAny_standAt (wpAny_bind ?_))
 show wpAny _ X.A (do let _←comprehension (.ListComp elt [⟨tg,iter,ifs,0⟩] scope pos) scope X.env _ (newList []) false (eval iter X.env) (some (assign (.Name y py) X.env))) _ _ s
 refine wpAny_bind (wpAny_mono (wpAny_comprehension_free (use:=some (assign (.Name y py) X.env)) (Q:=fun _ s'=>SP X pins D .next s') rfl hs hclos S.kind S.nm
  (thn (hi pins s σ H _ I h) fun v s1 h1=>thn h1 fun itv s2 h2=>?_)) (fun _ s' hq=>wpAny_pure (wpAny_pure hq)) fun _ _ e=>e)
 obtain ⟨it,fp,tn,J,H2,e,I2,T,st2,f2,hW⟩:=h2
 subst e
 refine al5 (RR:=fun acc C=>compPost (model X.prog X.w) X.A X.xe (some (assign (.Name y py) X.env)) (fun _ s'=>SP X pins D .next s') acc C) (Q:=fun x H1=>ag6 i x σ H1 D.nx) hc S hg ht he hcl hcf I2 T st2 f2 hW ?_
 intro l C m s' H' I' q nsC hCn hCl hCs hCc hCp
 show wpAny _ X.A (assign (.Name y py) X.env (.ref l)) _ _ _
 refine wpAny_assign_Name (ao9 (v:=.ref l) I' hN hy hx rfl (?_) hf)
 rintro s'' I'' ⟨a,sb,ha⟩
 have haC:C≠a:=by
  rcases ha with z | z
  · rw [z]; exact hCl
  · exact fun e=>hCc y a z e.symm
 refine ⟨m,nsC.sameBut sb haC,fun h' sb'=>⟨_,H',I''.turned (t':=s''.toks) (fun b o hb e=>(sb'.2 b hb).trans e) hCn hCl (.inr hCs) hCc hCp,q⟩⟩
end
section
variable {X:Cx}{tg:Expr}
end
section
variable {X:Cx}
def a25 (ys:List Str):List V:=ys.map V.str
def CBig (i j:Int):Prop:=(i.natAbs<2 ^ 4096∧j.natAbs<2 ^ 4096)∨CMul i j
theorem b52 {i:Int}{n:Nat}(h:i.natAbs<2 ^ n):Builtin.Int.intBits i≤n:=by
 unfold Builtin.Int.intBits
 split
 · exact Nat.zero_le _
 · rename_i h0
   have h1:i.natAbs≠0:=by simpa using h0
   have:=(Nat.log2_lt h1).mpr h
   omega
theorem CBig.ok {i j:Int}(h:CBig i j):IntMulOk i j:=by
 rcases h with ⟨h1,h2⟩ | h
 · exact IntMulOk.of_bits (Nat.le_trans (b52 h1) (by decide)) (Nat.le_trans (b52 h2) (by decide))
 · exact h.ok
theorem bt9:OpR X (binaryOp .Mult) (rI CBig fun i j=>.int (i*j)):=opI fun _ _ _ _ _ _ _ hc q=>mul_int q hc.ok
theorem bb6:CallR X (.builtin "isinstance") (fun xs H Q=>∃ x n t b,xs=[x,.ty n]∧TyOf X.K H x t∧PySem.W.kitOne X.K t (.type n)=some b∧Q (.bl b) H):=by
 intro pins s σ H xs us Q I r h
 obtain ⟨x,n,t,b,rfl,ty,e,q⟩:=h
 obtain ⟨u,w',rfl,rx,ry⟩:=br5 r
 cases (show w'=Value.type n from ry)
 exact b29 I rx ty e fun tk=>⟨.bl b,H,I.tok _,rfl,q⟩
theorem strs_at:∀ {ys:List Str}{us:List Value},Vals (a25 ys) us→∀ (i:Nat) (h:i<us.length),∃ y t,ys[i]?=some y∧us[i]=.str y t
 | [],_,r,i,h=>by cases r; simp at h
 | y::ys,_,r,i,h=>by
   cases r with
   | cons r1 r2 =>
     cases i with
     | zero =>
       obtain ⟨t,rfl⟩:=r1
       exact ⟨y,t,rfl,rfl⟩
     | succ i=>exact strs_at (ys:=ys) r2 i (by simpa using h)
end
section
variable {X:Cx}{e:Expr}{te:TE}{pos:Pos}
end
abbrev New (H:Hp) (o:HO) (Q:VK):Prop:=∀ p H',H p=none→Same H H'→H' p=some o→Q (.ref p) H'
theorem Same.new {H:Hp}{p:Addr}{o:HO}(h:H p=none):Same H (upd H p o):=fun b u e=>by rw [a11 (a39 e h)]; exact e
theorem New.to {H:Hp}{Q:VK}{o:HO}(h:New H o Q):∀ p,H p=none→Q (.ref p) (upd H p o):=fun p hp=>h p _ hp (Same.new hp) a14
section
variable {X:Cx}{es:List Expr}{t:TA}{pos:Pos}
def bu0 (t:TA):TE:=fun σ H Q=>t σ H fun xs H1=>xs.length≤sizeLine∧New H1 (.lst xs) Q
def bu1 (t:TA):TE:=fun σ H Q=>t σ H fun xs H1=>xs.length≤sizeLine∧New H1 (.tup xs) Q
theorem a20 {x1}(h:PA X es t):PE X (.Tuple es x1 pos) (bu1 t):=by
 intro pins s σ H Q I hq
 refine wpAny_Tuple_spliced (thn (h pos pins s σ H _ I hq) fun us s1 ⟨xs,H1,I1,r,z,q⟩=>⟨by rw [← r.length]; exact z,?_⟩)
 refine ⟨.ref s1.heap.objs.size,upd H1 s1.heap.objs.size (.tup xs),I1.laid (t':=s1.toks) (fun b u e=>Heap.get?_push_of_some _ e) (Nat.le_refl _) ?_,rfl,New.to q _ (I1.hok.fresh (Nat.le_refl _))⟩
 exact ⟨z,us,r,⟨_,Heap.get?_push_size _ rfl,rfl,_,rfl⟩⟩
theorem a15 (h:PA X es t):PE X (.List es pos) (bu0 t):=by
 intro pins s σ H Q I hq
 refine wpAny_List_spliced (thn (h pos pins s σ H _ I hq) fun us s1 ⟨xs,H1,I1,r,z,q⟩=>⟨by rw [← r.length]; exact z,?_⟩)
 refine ⟨.ref s1.heap.objs.size,upd H1 s1.heap.objs.size (.lst xs),I1.laid (t':=s1.toks) (fun b u e=>Heap.get?_push_of_some _ e) (Nat.le_refl _) ?_,rfl,New.to q _ (I1.hok.fresh (Nat.le_refl _))⟩
 exact ⟨z,us,0,r,Heap.get?_push_size _ rfl⟩
def rSlN (K:PySem.W.Frag):V→Option Int→Option Int→Hp→VK→Prop:=fun x lo hi H Q=>∃ a xs,x=.ref a∧SqL K H a xs∧New H (.lst (cutV xs lo hi)) Q
theorem bb7:SlR X (rSlN X.K):=by
 intro pins s σ H x v vl vu lo hi sl Q I rx hs pl pu h
 obtain ⟨a,xs,e,h1,h2⟩:=h
 exact bj9 pins s σ H x v vl vu lo hi sl Q I rx hs pl pu ⟨a,xs,e,h1,New.to h2⟩
theorem b07:CallR X (.type "list") (fun xs H Q=>∃ p ys,xs=[.ref p]∧(SqL X.K H p ys∨SqT X.K H p ys)∧New H (.lst ys) Q):=by
 intro pins s σ H xs us Q I r h
 obtain ⟨p,ys,e,h1,h2⟩:=h
 exact ap9 pins s σ H xs us Q I r ⟨p,ys,e,h1,New.to h2⟩
end
def rIsi (K:PySem.W.Frag):List V→Hp→VK→Prop:=fun xs H Q=>∃ x n t b,xs=[x,.ty n]∧TyOf K H x t∧PySem.W.kitOne K t (.type n)=some b∧Q (.bl b) H
def tTru (K:PySem.W.Frag) (ta:TE):TT:=fun σ H Q=>ta σ H fun x H'=>∃ k,TruV K x H' k∧Q k H'
def rLen (K:PySem.W.Frag):List V→Hp→VK→Prop:=fun xs H Q=>∃ x n,xs=[x]∧LenV K x H n∧Q (.int n) H
def b53 (K:PySem.W.Frag):List V→Hp→VK→Prop:=fun xs H Q=>∃ p ys,xs=[.ref p]∧(SqL K H p ys∨SqT K H p ys)∧New H (.lst ys) Q
section
variable {X:Cx}{a:Expr}{ta:TE}
theorem bu2:CallR X (.builtin "isinstance") (rIsi X.K):=bb6
theorem bu3 (ha:PE X a ta) (he:∀ whole,isTrue a X.env whole=(do let v←whole; standAt a.pos; holding [v] (truthy v))):PT X a (tTru X.K ta):=ba4 ha he
theorem bu4:CallR X (.builtin "len") (rLen X.K):=ba6
theorem bk7:CallR X (.type "list") (b53 X.K):=b07
end
def bk8:R2:=fun x y H Q=>match x,y with
 | .int i,.int j=>Q (.int (i+j)) H
 | .str i,.str j=>i.length+j.length≤sizeLine∧Q (.str (i++j)) H
 | .ref l,.ref b=>∃ xs zs,H l=some (.lst xs)∧H b=some (.lst zs)∧xs.length+zs.length≤sizeLine∧New H (.lst (xs++zs)) Q
 | _,_=>False
def bg1:R2:=fun x y H Q=>match x,y with
 | .int i,.int j=>CBig i j∧Q (.int (i*j)) H
 | .str z,.int n=>MulOk z n∧Q (.str (Txt.mul z n)) H
 | _,_=>False
def rStr:List V→Hp→VK→Prop:=fun xs H Q=>match xs with
 | [.int i]=>i.natAbs.log2<1920∧Q (.str (toString i)) H
 | [.str z]=>Q (.str z) H
 | _=>False
section
variable {X:Cx}
theorem a32:OpR X (binaryOp .Add) bk8:=by
 intro pins s σ H x y v u Q I rx ry h
 cases x with
 | int i=>cases y with
   | int j=>exact bq9 pins s σ H _ _ v u Q I rx ry ⟨i,j,rfl,rfl,h⟩
   | _=>exact (show False from h).elim
 | str i=>cases y with
   | str j=>exact az6 pins s σ H _ _ v u Q I rx ry ⟨i,j,rfl,rfl,h⟩
   | _=>exact (show False from h).elim
 | ref l=>cases y with
   | ref b =>
     obtain ⟨xs,zs,h1,h2,h3,h4⟩:=h
     exact bs7 pins s σ H _ _ v u Q I rx ry ⟨l,b,xs,zs,rfl,rfl,h1,h2,h3,New.to h4⟩
   | _=>exact (show False from h).elim
 | _=>exact (show False from h).elim
theorem ac1:OpR X (binaryOp .Mult) bg1:=by
 intro pins s σ H x y v u Q I rx ry h
 cases x with
 | int i=>cases y with
   | int j=>exact bt9 pins s σ H _ _ v u Q I rx ry ⟨i,j,rfl,rfl,h⟩
   | _=>exact (show False from h).elim
 | str z=>cases y with
   | int n =>
     obtain ⟨t,rfl⟩:=rx
     obtain ⟨t',rfl⟩:=ry
     exact SB.mul h.1 fun t2 k=>⟨.str _,H,I.tok _,⟨_,rfl⟩,h.2⟩
   | _=>exact (show False from h).elim
 | _=>exact (show False from h).elim
theorem bb8 {scope sc:Scope}{Nt Nf:List Str}{caps:List Nat}(hsc:X.env.scope=sc) (kind:scope.kind=.function) (nx:∀ x∈Nf,(x,NameKind.cell)∉scope.names) (nm:∀ y∈scope.names,y.2=.local→scope.names.lookup y.1=some .local)
 (fr:∀ y∈scope.names,y.2=.free→sc.names.lookup y.1=some .cell∨sc.names.lookup y.1=some .free) (cap:caps.map (fun j=>X.N[j]?)=Nf.map some) (vis:∀ x∈Nf,scope.names.lookup x=some .free):CompOk X scope Nt Nf caps :=
 ⟨kind,nx,nm,fun y hy h=>by show X.env.scope.names.lookup y.1=_∨X.env.scope.names.lookup y.1=_; rw [hsc]; exact fr y hy h,cap,vis⟩
theorem a41 {scope sc:Scope}{Nt Nf:List Str}{caps:List Nat}(hsc:X.env.scope=sc) (kind:scope.kind=.function) (nc:∀ y∈scope.names,y.2≠.cell) (nm:∀ y∈scope.names,y.2=.local→scope.names.lookup y.1=some .local)
 (fr:∀ y∈scope.names,y.2=.free→sc.names.lookup y.1=some .cell∨sc.names.lookup y.1=some .free) (cap:caps.map (fun j=>X.N[j]?)=Nf.map some) (vis:∀ x∈Nf,scope.names.lookup x=some .free):CompOk X scope Nt Nf caps :=
 bb8 hsc kind (fun x _ h=>nc (x,.cell) h rfl) nm fr cap vis
abbrev bk9 (J:It) (te:TE) (tt:TT) (caps:List Nat) (σ:St) (H:Hp) (Q:VK):Prop:=∃ W:Nat→Nat→List V→St→Hp→Prop,(∃ m,W 0 m [] (cSt 1 caps σ) H)∧∀ i m acc σ' H',W i m acc σ' H' →
 (J.stop i H'∧∀ l,H' l=none→Q (.ref l) (upd H' l (.lst acc))) ∨
 (J.go i H'∧acc.length<sizeLine∧∃ N:List V→St→Hp→Prop,(∀ ac σ2 H2,N ac σ2 H2→∃ m',m'<m∧W (i+1) m' ac σ2 H2)∧∀ x H2,J.yld i H' x H2→ag6 0 x σ' H2 fun σ3 H3=>tt σ3 H3 fun b H4=>if b=true then te σ3 H4 fun y H5=>N (acc++[y]) σ3 H5 else N acc σ3 H4)
theorem bg2 {J:It}{te:TE}{tt:TT}{caps:List Nat}{σ:St} {H:Hp}{Q:VK}(n:Nat) (hz:n≤sizeLine) (Pv:Nat→List V→Hp→Prop) (h0:Pv 0 [] H) (hl:∀ i acc H,Pv i acc H→acc.length≤i)
 (hgo:∀ i acc H,i<n→Pv i acc H→J.go i H) (hst:∀ acc H,Pv n acc H→J.stop n H)
 (hs:∀ i x acc H H2,i<n→Pv i acc H→J.yld i H x H2→tt (some x::capV caps σ) H2 fun b H4=>if b=true then te (some x::capV caps σ) H4 fun y H5=>Pv (i+1) (acc++[y]) H5 else Pv (i+1) acc H4)
 (hd:∀ acc H,Pv n acc H→New H (.lst acc) Q):bk9 J te tt caps σ H Q:=by
 refine ⟨fun i m acc σ' H=>m=n - i∧i≤n∧(∃ v,σ'=v::capV caps σ)∧Pv i acc H,⟨n,by simp,Nat.zero_le _,⟨none,rfl⟩,h0⟩,?_⟩
 rintro i m acc σ' H' ⟨rfl,hi,⟨v,rfl⟩,p⟩
 by_cases hlt:i<n
 · refine .inr ⟨hgo i acc H' hlt p,?_,fun ac σ2 H2=>(∃ v,σ2=v::capV caps σ)∧Pv (i+1) ac H2,fun ac σ2 H2 ⟨e,p'⟩=>⟨n - (i+1),by omega,rfl,hlt,e,p'⟩,fun x H2 y=>?_⟩
   · have:=hl i acc H' p
     omega
   · have eN:∀ ac H5,((∃ u,some x::capV caps σ=u::capV caps σ)∧Pv (i+1) ac H5)=Pv (i+1) ac H5:=fun ac H5=>propext ⟨And.right,fun p=>⟨⟨_,rfl⟩,p⟩⟩
     show tt (some x::capV caps σ) H2 fun b H4=>if b=true then te (some x::capV caps σ) H4 fun y H5=>((∃ u,some x::capV caps σ=u::capV caps σ)∧Pv (i+1) (acc++[y]) H5) else ((∃ u,some x::capV caps σ=u::capV caps σ)∧Pv (i+1) acc H4)
     simp only [eN]
     exact hs i x acc H' H2 hlt p y
 · have e:i=n:=by omega
   subst e
   exact .inl ⟨hst acc H' p,New.to (hd acc H' p)⟩
theorem bl0 {K:PySem.W.Frag}{a:Addr}{xs:List V}{te:TE}{tt:TT}{caps:List Nat}{σ:St} {H:Hp}{Q:VK}(hz:xs.length≤sizeLine) (Pv:Nat→List V→Hp→Prop) (h0:Pv 0 [] H) (hl:∀ i acc H,Pv i acc H→acc.length≤i∧SqL K H a xs)
 (hs:∀ i x acc H,xs[i]?=some x→Pv i acc H→tt (some x::capV caps σ) H fun b H4=>if b=true then te (some x::capV caps σ) H4 fun y H5=>Pv (i+1) (acc++[y]) H5 else Pv (i+1) acc H4)
 (hd:∀ acc H,Pv xs.length acc H→New H (.lst acc) Q):bk9 (Itl K a) te tt caps σ H Q:=by
 refine bg2 xs.length hz Pv h0 (fun i acc H p=>(hl i acc H p).1) (fun i acc H hi p=>⟨xs,xs[i],(hl i acc H p).2,by simp [hi]⟩) (fun acc H p=>⟨xs,(hl _ acc H p).2,Nat.le_refl _⟩) ?_ hd
 rintro i x acc H1 H2 hi p ⟨rfl,y⟩
 exact hs i x acc _ (y xs (hl i acc _ p).2) p
theorem bu5 {K:PySem.W.Frag}{a:Addr}{xs:List V}{te:TE}{tt:TT}{caps:List Nat}{σ:St} {H:Hp}{Q:VK}(hz:xs.length≤sizeLine) (Pv:Nat→List V→Hp→Prop) (h0:Pv 0 [] H) (hl:∀ i acc H,Pv i acc H→acc.length≤i∧SqT K H a xs)
 (hs:∀ i x acc H,xs[i]?=some x→Pv i acc H→tt (some x::capV caps σ) H fun b H4=>if b=true then te (some x::capV caps σ) H4 fun y H5=>Pv (i+1) (acc++[y]) H5 else Pv (i+1) acc H4)
 (hd:∀ acc H,Pv xs.length acc H→New H (.lst acc) Q):bk9 (Itt K a) te tt caps σ H Q:=by
 refine bg2 xs.length hz Pv h0 (fun i acc H p=>(hl i acc H p).1) (fun i acc H hi p=>⟨xs,xs[i],(hl i acc H p).2,by simp [hi]⟩) (fun acc H p=>⟨xs,(hl _ acc H p).2,Nat.le_refl _⟩) ?_ hd
 rintro i x acc H1 H2 hi p ⟨rfl,y⟩
 exact hs i x acc _ (y xs (hl i acc _ p).2) p
end
end L2
namespace L2
open PySem
theorem ex_some_and {α:Type}{a:α}{p:α→Prop}:(∃ v,some (some a)=some (some v)∧p v)↔p a:=⟨fun ⟨_,e,h⟩=>by cases e; exact h,fun h=>⟨a,rfl,h⟩⟩
def bg3 (J:It) (g:TG) (tb:TS) (D:Ends) (σ:St) (H1:Hp):Prop:=∃ W:Nat→Nat→St→Hp→Prop,(∃ m,W 0 m σ H1)∧∀ i m σ H,W i m σ H →
 (J.stop i H∧D.nx σ H)∨(J.go i H∧∃ N:St→Hp→Prop,(∀ σ' H',N σ' H'→∃ m',m'<m∧W (i+1) m' σ' H')∧∀ x H',J.yld i H x H'→g x σ H' fun σ2 H2=>tb { D with nx:=N,ct:=N,bk:=D.nx } σ2 H2)
def ai5 (J:It) (g:TG) (tt:TT) (te:TE) (n:Nat) (caps:List Nat) (σ:St) (H:Hp) (Q:VK):Prop:=∃ W:Nat→Nat→List V→St→Hp→Prop,(∃ m,W 0 m [] (cSt n caps σ) H)∧∀ i m acc σ' H',W i m acc σ' H' →
 (J.stop i H'∧∀ l,H' l=none→Q (.ref l) (upd H' l (.lst acc))) ∨
 (J.go i H'∧acc.length<sizeLine∧∃ N:List V→St→Hp→Prop,(∀ ac σ2 H2,N ac σ2 H2→∃ m',m'<m∧W (i+1) m' ac σ2 H2)∧∀ x H2,J.yld i H' x H2→g x σ' H2 fun σ3 H3=>tt σ3 H3 fun b H4=>if b=true then te σ3 H4 fun y H5=>N (acc++[y]) σ3 H5 else N acc σ3 H4)
section
variable {K:PySem.W.Frag}{a:Addr}{xs:List V}{te:TE}{tt:TT}{caps:List Nat}{σ:St} {H:Hp}{Q:VK}{z:Str}{lo:Int}{n:Nat}
theorem a60 (hz:xs.length≤sizeLine) (Pv:Nat→List V→Hp→Prop) (h0:Pv 0 [] H) (hl:∀ i acc H,Pv i acc H→acc.length≤i∧SqL K H a xs)
 (hs:∀ i x acc H,xs[i]?=some x→Pv i acc H→tt (some x::capV caps σ) H fun b H4=>if b=true then te (some x::capV caps σ) H4 fun y H5=>Pv (i+1) (acc++[y]) H5 else Pv (i+1) acc H4)
 (hd:∀ acc H,Pv xs.length acc H→New H (.lst acc) Q):ai5 (Itl K a) (ag6 0) tt te 1 caps σ H Q:=bl0 hz Pv h0 hl hs hd
theorem bu6 (hz:xs.length≤sizeLine) (Pv:Nat→List V→Hp→Prop) (h0:Pv 0 [] H) (hl:∀ i acc H,Pv i acc H→acc.length≤i∧SqT K H a xs)
 (hs:∀ i x acc H,xs[i]?=some x→Pv i acc H→tt (some x::capV caps σ) H fun b H4=>if b=true then te (some x::capV caps σ) H4 fun y H5=>Pv (i+1) (acc++[y]) H5 else Pv (i+1) acc H4)
 (hd:∀ acc H,Pv xs.length acc H→New H (.lst acc) Q):ai5 (Itt K a) (ag6 0) tt te 1 caps σ H Q:=bu5 hz Pv h0 hl hs hd
end
theorem cxOf_K {CX:CXT}{P:Program}{w:World}{K:PySem.W.Frag}{mg:Str→Option Value}{base:Heap}{N:List Str}{qual:Str}{scope:Scope}{f:Addr}{cd:Value}{A:Around}{outer:List Env}{s:Shared}{H:Hp}{E:XK} :
 (cxOf CX P w K mg base N qual scope f cd A outer s H E).K=K:=rfl
theorem cxC_K {X:Cx}{N:List Str}{scope:Scope}{cl:List (Str×Addr)}{C:Addr}{s0:Shared}{H0:Hp}{ex:List Addr}:(cxC X N scope cl C s0 H0 ex).K=X.K:=rfl
section
variable {X:Cx}
theorem a31 (K:PySem.W.Frag) (hK:X.K=K:=by rfl):IxR X (rIxL K):=hK ▸ bj8
theorem a10 (K:PySem.W.Frag) (hK:X.K=K:=by rfl):IxR X (rIxT K):=hK ▸ bs2
theorem a98 (K:PySem.W.Frag) (hK:X.K=K:=by rfl):SlR X (rSlN K):=hK ▸ bb7
theorem bl2 (K:PySem.W.Frag) (hK:X.K=K:=by rfl):CallR X (.builtin "isinstance") (rIsi K):=hK ▸ bu2
theorem a99 (K:PySem.W.Frag) (hK:X.K=K:=by rfl):CallR X (.builtin "len") (rLen K):=hK ▸ bu4
theorem am5 (K:PySem.W.Frag) (hK:X.K=K:=by rfl):CallR X (.type "list") (b53 K):=hK ▸ bk7
theorem a80 (K:PySem.W.Frag) (hK:X.K=K:=by rfl):OpR X (compareOp .In) (rIn K false):=hK ▸ b34
theorem ae7 (K:PySem.W.Frag) (hK:X.K=K:=by rfl):OpR X (compareOp .NotIn) (rIn K true):=hK ▸ ap8
theorem ad5 (K:PySem.W.Frag) {a:Expr}{ta:TE}(ha:PE X a ta) (he:∀ whole,isTrue a X.env whole=(do let v←whole; standAt a.pos; holding [v] (truthy v))) (hK:X.K=K:=by rfl):PT X a (tTru K ta):=hK ▸ bu3 ha he
theorem a21 (K:PySem.W.Frag) {tg l:Expr}{tl:TE}(hl:PE X l tl) (hK:X.K=K:=by rfl):PI X tg l (bj0 K tl):=hK ▸ bj1 hl
theorem bl3 (K:PySem.W.Frag) {tg l:Expr}{tl:TE}(hl:PE X l tl) (hK:X.K=K:=by rfl):PI X tg l (iTup K tl):=hK ▸ bq7 hl
theorem a74 (K:PySem.W.Frag) {pos:Pos}{es:List Expr}{k:Nat}{t:TGs}{n:Nat}(hc:X.calm=true) (h:PGs X es t) (hn:(assignEach es X.env).length=n:=by rfl) (hst:(assignEach es X.env).findIdx? (·.1)=none:=by rfl) (hK:X.K=K:=by rfl) :
 PG X (.Tuple es k pos) (gTup K n t):=hK ▸ bq6 hc h hn hst
theorem au1 (K:PySem.W.Frag) {o:Expr}{to:TE}{name:Str}{apos cpos:Pos}{T id:String}{r:V→List V→Hp→VK→Prop}(pa:PlainAttrs T) (slot:Slot T name id) (hty:typeOf (.builtin id)=pure (.type "method_descriptor")) (hm:MtR X id r) (ho:PE X o to)
 (hbase:attributeBase o name X.env (eval o X.env)=eval o X.env:=by rfl) (hline:(apos.endLine == cpos.line)=true:=by rfl) (hK:X.K=K:=by rfl):PE X (.Call (.Attribute o name apos) [] [] cpos) (tBM0 K T r to):=hK ▸ bs5 pa slot hty hm ho hbase hline
theorem a69 (K:PySem.W.Frag) {o e:Expr}{es:List Expr}{to:TE}{t:TA}{name:Str}{apos cpos:Pos}{T id:String}{r:V→List V→Hp→VK→Prop}(pa:PlainAttrs T) (slot:Slot T name id) (hty:typeOf (.builtin id)=pure (.type "method_descriptor")) (hm:MtR X id r) (ho:PE X o to) (ha:PA X (e::es) t)
 (hbase:attributeBase o name X.env (eval o X.env)=eval o X.env:=by rfl)
 (hfew:((backTo cpos (starEach (e::es) X.env)).all (fun x=>!x.1) && (backToKw cpos (keywordEach [] X.env)).all (fun x=>x.1.isSome) && decide ((e::es).length+([]:List Keyword).length+(if ([]:List Keyword).isEmpty then 0 else 1)<30))=true:=by rfl)
 (hline:(apos.endLine == cpos.line)=true:=by rfl) (hs:starEach (e::es) X.env=(false,eval e X.env)::starEach es X.env:=by rfl) (hplain:(backTo cpos (starEach es X.env)).any (·.1)=false:=by rfl) (hK:X.K=K:=by rfl) :
 PE X (.Call (.Attribute o name apos) (e::es) [] cpos) (tBM K T r to t):=hK ▸ c27 pa slot hty hm ho ha hbase hfew hline hs hplain
end
theorem ae8:bootBuiltins "len"=some (.builtin "len"):=by decide +kernel
theorem am6:bootBuiltins "isinstance"=some (.builtin "isinstance"):=by decide +kernel
theorem bu7:bootBuiltins "abs"=some (.builtin "abs"):=by decide +kernel
theorem am7:bootBuiltins "list"=some (.type "list"):=by decide +kernel
theorem bl4:bootBuiltins "dict"=some (.type "dict"):=by decide +kernel
def Bd (p:Nat) (x:Int):Prop:=x.natAbs<2 ^ p
theorem Bd.mono {p q:Nat}{x:Int}(h:Bd p x) (l:p≤q):Bd q x:=Nat.lt_of_lt_of_le h (Nat.pow_le_pow_right (by decide) l)
theorem Bd.big {p q:Nat}{x y:Int}(h:Bd p x) (h':Bd q y) (hp:p≤4096:=by decide) (hq:q≤4096:=by decide):CBig x y:=.inl ⟨h.mono hp,h'.mono hq⟩
theorem Bd.of {p:Nat}{x:Int}(h0:0≤x) (h1:x<2 ^ p):Bd p x:=by
 unfold Bd
 have e:((2 ^ p:Nat):Int)=(2:Int) ^ p:=by norm_cast
 omega
end L2
local macro_rules | `(tactic| walk_at "rd") => `(tactic| simp only [L2.tCB, L2.tCons, L2.tNil, L2.tVar, L2.rStr, L2.tNoIf, L2.capV, List.map_nil, List.getElem?_cons_zero, L2.ex_some_and, if_true])
namespace L2
open PySem
theorem le_line {n:Nat}(h:n≤1000000):n≤sizeLine:=Nat.le_trans h (by decide)
theorem nox_K {X:Cx}:X.nox.K=X.K:=rfl
theorem wish_K {X:Cx}{E:Value→Shared→Prop}:(X.wish E).K=X.K:=rfl
section
variable {σ:St} {H:Hp}{Q:VK}{D:Ends}{nn bb cc:St→Hp→Prop}{rr:VK}{t u:TS}{ta tb tc te:TE}{tA tB:TT}{g:TG}{QT:Bool→Hp→Prop}{QA:List V→Hp→Prop}{QS:St→Hp→Prop}
theorem c37 (h:te σ H fun x H1=>g x σ H1 nn):tAsg te g ⟨nn,rr,bb,cc⟩ σ H:=h
theorem i_name {i:Nat}{v:V}(h:QS (σ.set i (some v)) H):ag6 i v σ H QS:=h
theorem i_var {i:Nat}{v:V}(e:σ[i]?=some (some v)) (h:Q v H):tVar i σ H Q:=⟨v,e,h⟩
theorem i_c {v:V}(h:Q v H):tC v σ H Q:=h
theorem i_op {r:R2}(h:ta σ H fun x H1=>tb σ H1 fun y H2=>r x y H2 Q):tOp r ta tb σ H Q:=h
theorem i_un {r:V→Hp→VK→Prop}(h:ta σ H fun x H1=>r x H1 Q):tUn r ta σ H Q:=h
theorem i_rU {f:Int→V}{i:Int}(h:Q (f i) H):rU f (.int i) H Q:=⟨i,rfl,h⟩
theorem i_rI {C:Int→Int→Prop}{f:Int→Int→V}{i j:Int}(c:C i j) (h:Q (f i j) H):rI C f (.int i) (.int j) H Q:=⟨i,j,rfl,rfl,c,h⟩
theorem c38 {f:Int→Int→V}{i j:Int}(h:Q (f i j) H):rI0 f (.int i) (.int j) H Q:=⟨i,j,rfl,rfl,h⟩
theorem bl5 {i j:Int}(h:Q (.int (i+j)) H):bk8 (.int i) (.int j) H Q:=h
theorem a44 {l b:Addr}{xs zs:List V}(h1:H l=some (.lst xs)) (h2:H b=some (.lst zs)) (z:xs.length+zs.length≤sizeLine) (h:New H (.lst (xs++zs)) Q):bk8 (.ref l) (.ref b) H Q:=⟨xs,zs,h1,h2,z,h⟩
theorem ah3 {i j:Int}(c:CBig i j) (h:Q (.int (i*j)) H):bg1 (.int i) (.int j) H Q:=⟨c,h⟩
theorem decI (i j:Int):decide (V.int i=V.int j)=decide (i=j):=by rw [Bool.eq_iff_iff]; simp
theorem decS (i j:Str):decide (V.str i=V.str j)=decide (i=j):=by rw [Bool.eq_iff_iff]; simp
theorem decB (i j:Bool):decide (V.bl i=V.bl j)=decide (i=j):=by rw [Bool.eq_iff_iff]; simp
theorem c39 {i j:Int}(h:Q (.bl (decide (i=j))) H):rEq (.int i) (.int j) H Q:=⟨rfl,by rw [decI]; exact h⟩
theorem c40 {i j:Str}(h:Q (.bl (decide (i=j))) H):rEq (.str i) (.str j) H Q:=⟨rfl,by rw [decS]; exact h⟩
theorem c41 {i j:Bool}(h:Q (.bl (decide (i=j))) H):rEq (.bl i) (.bl j) H Q:=⟨rfl,by rw [decB]; exact h⟩
theorem c42 {i j:Str}(h:Q (.bl (!decide (i=j))) H):rNe (.str i) (.str j) H Q:=⟨rfl,by rw [decS]; exact h⟩
theorem bu8 (h:te σ H fun x H'=>∃ k,x=.bl k∧QT k H'):br3 te σ H QT:=h
theorem i_bl {k:Bool}{p:Bool→Prop}(h:p k):∃ j,V.bl k=V.bl j∧p j:=⟨k,rfl,h⟩
theorem c43 (h:tA σ H fun b H1=>if b=true then t D σ H1 else u D σ H1):tIfS tA t u D σ H:=h
theorem i_if (h:tA σ H fun b H1=>if b=true then ta σ H1 Q else tb σ H1 Q):tIf tA ta tb σ H Q:=h
theorem c44 (h:te σ H rr):tRet te ⟨nn,rr,bb,cc⟩ σ H:=h
theorem bu9 (h:rr .non H):bq5 ⟨nn,rr,bb,cc⟩ σ H:=h
theorem bv0 (h:nn σ H):bq3 ⟨nn,rr,bb,cc⟩ σ H:=h
theorem bv1 (h:te σ H fun _ H1=>nn σ H1):bq4 te ⟨nn,rr,bb,cc⟩ σ H:=h
theorem b54 (h:bb σ H):bf2 ⟨nn,rr,bb,cc⟩ σ H:=h
theorem bv2 {tr:TA}(h:te σ H fun x H1=>tr σ H1 fun xs H2=>QA (x::xs) H2):tCons te tr σ H QA:=h
theorem c45 (h:QA [] H):tNil σ H QA:=h
theorem i_cb {r:List V→Hp→VK→Prop}{ts:TA}(h:ts σ H fun vs H1=>r vs H1 Q):tCB r ts σ H Q:=h
theorem bv3 {sp:Sp}{dvs:List V}{E:XK}{ts:TA}(h:ts σ H fun vs H1=>sp (vs++dvs) H1 Q E):br8 sp dvs E ts σ H Q:=h
theorem c46 {ts:TA}(h:ts σ H fun xs H1=>xs.length≤sizeLine∧New H1 (.lst xs) Q):bu0 ts σ H Q:=h
theorem c47 {ts:TA}(h:ts σ H fun xs H1=>xs.length≤sizeLine∧New H1 (.tup xs) Q):bu1 ts σ H Q:=h
theorem bv4 {n:Nat}{P:Prop}(h:n≤sizeLine) (p:P):n≤sizeLine∧P:=⟨h,p⟩
theorem i_rgA {j:Int}{P:Prop}(h:-(2 ^ 62)≤j) (h':j<2 ^ 62) (p:P):-(2 ^ 62)≤j∧j<2 ^ 62∧P:=⟨h,h',p⟩
theorem bv5 (h:QT true H):tNoIf σ H QT:=h
theorem c48 (h:tA σ H fun c H1=>QT (!c) H1):tNot tA σ H QT:=h
theorem c49 (h:tA σ H fun c H1=>if c=true then tB σ H1 QT else QT false H1):tAnd tA tB σ H QT:=h
theorem i_or (h:tA σ H fun c H1=>if c=true then QT true H1 else tB σ H1 QT):tOr tA tB σ H QT:=h
theorem bv6 (h:ta σ H fun x H1=>∃ c,x=.bl c∧if c=true then tb σ H1 Q else Q (.bl false) H1):bq0 ta tb σ H Q:=h
theorem c50 (h:ta σ H fun x H1=>∃ c,x=.bl c∧if c=true then Q (.bl true) H1 else tb σ H1 Q):tOrV ta tb σ H Q:=h
theorem c51 {wi:TI}(h:wi σ H fun J H1=>bg3 J g t D σ H1):tFor wi g t D σ H:=h
theorem i_lc {wi:TI}{n:Nat}{caps:List Nat}(h:wi σ H fun J H1=>ai5 J g tA te n caps σ H1 Q):tLC wi g tA te n caps σ H Q:=h
theorem bv7 {R:It→Hp→Prop}{ts:TA}(h:ts σ H fun vs H1=>∃ j:Int,vs=[.int j]∧-(2 ^ 62)≤j∧j<2 ^ 62∧R (Itr 0 j.toNat) H1):bq8 ts σ H R:=h
theorem bl6 {K:PySem.W.Frag}{R:It→Hp→Prop}(h:te σ H fun x H1=>∃ a,x=.ref a∧(∃ xs,SqL K H1 a xs)∧R (Itl K a) H1):bj0 K te σ H R:=h
theorem bv8 {K:PySem.W.Frag}{R:It→Hp→Prop}(h:te σ H fun x H1=>∃ a,x=.ref a∧(∃ xs,SqT K H1 a xs)∧R (Itt K a) H1):iTup K te σ H R:=h
theorem c52 {j:Int}{p:Int→Prop}(h:p j):∃ i:Int,[V.int j]=[V.int i]∧p i:=⟨j,rfl,h⟩
theorem c53 {a:Addr}{p:Addr→Prop}(h:p a):∃ b,V.ref a=V.ref b∧p b:=⟨a,rfl,h⟩
theorem i_bm {K:PySem.W.Frag}{T:String}{r:V→List V→Hp→VK→Prop}{to:TE}{ts:TA}(h:to σ H fun x H1=>tyV K T x H1∧ts σ H1 fun xs H2=>r x xs H2 Q):tBM K T r to ts σ H Q:=h
theorem c54 {K:PySem.W.Frag}{T:String}{r:V→List V→Hp→VK→Prop}{to:TE}(h:to σ H fun x H1=>tyV K T x H1∧r x [] H1 Q):tBM0 K T r to σ H Q:=h
theorem a83 {K:PySem.W.Frag}{p:Addr}{xs:List V}{i:Int}{v:V}(h1:SqL K H p xs) (h2:atI xs i=some v) (h:Q v H):rIxL K (.ref p) (.int i) H Q:=⟨p,xs,i,v,rfl,rfl,h1,h2,h⟩
theorem a23 {K:PySem.W.Frag}{p:Addr}{xs:List V}{i:Int}{v:V}(h1:SqT K H p xs) (h2:atI xs i=some v) (h:Q v H):rIxT K (.ref p) (.int i) H Q:=⟨p,xs,i,v,rfl,rfl,h1,h2,h⟩
theorem i_sl {r:V→Option Int→Option Int→Hp→VK→Prop}{tl th:TO}(h:te σ H fun x H1=>tl σ H1 fun l H2=>th σ H2 fun u H3=>r x l u H3 Q):tSl r te tl th σ H Q:=h
theorem bb9 {QO:Option Int→Hp→Prop}(h:QO none H):b31 σ H QO:=h
theorem bv9 {QO:Option Int→Hp→Prop}(h:te σ H fun x H1=>∃ i,x=.int i∧QO (some i) H1):bs1 te σ H QO:=h
theorem c55 {i:Int}{p:Int→Prop}(h:p i):∃ j,V.int i=V.int j∧p j:=⟨i,rfl,h⟩
theorem au2 {K:PySem.W.Frag}{a:Addr}{xs:List V}{lo hi:Option Int}(h1:SqL K H a xs) (h:New H (.lst (cutV xs lo hi)) Q):rSlN K (.ref a) lo hi H Q:=⟨a,xs,rfl,h1,h⟩
theorem c56 {A B:Prop}(h:A):if true=true then A else B:=iteT h
theorem c57 {A B:Prop}(h:B):if false=true then A else B:=iteF h
theorem bw0 {A B:Prop}(h:B):if (!true)=true then A else B:=iteF h
theorem bw1 {A B:Prop}(h:A):if (!false)=true then A else B:=iteT h
theorem a35 {c A B:Prop} [Decidable c] (hc:c) (h:A):if decide c=true then A else B:=by rw [decide_eq_true hc]; exact iteT h
theorem a28 {c A B:Prop} [Decidable c] (hc:¬ c) (h:B):if decide c=true then A else B:=by rw [decide_eq_false hc]; exact iteF h
theorem b55 {K:PySem.W.Frag}{n:Nat}{ts:TGs}{a:Addr}{xs:List V}(h1:SqT K H a xs) (h2:xs.length=n) (h:ts xs σ H QS):gTup K n ts (.ref a) σ H QS:=⟨a,xs,rfl,h1,h2,h⟩
theorem bw2 (h:QS σ H):gNil [] σ H QS:=⟨rfl,h⟩
theorem bl7 {gt:TG}{us:TGs}{v:V}{r:List V}(h:gt v σ H fun σ' H'=>us r σ' H' QS):az2 gt us (v::r) σ H QS:=⟨v,r,rfl,h⟩
theorem bw3 {K:PySem.W.Frag}{a:Addr}{xs:List V}(e:H a=some (.lst xs)) (h:Q (.bl true) H):rIsi K [V.ref a,V.ty "list"] H Q:=⟨_,_,_,true,rfl,.lst e,rfl,h⟩
theorem c58 {K:PySem.W.Frag}(h:te σ H fun x H'=>∃ k,TruV K x H' k∧QT k H'):tTru K te σ H QT:=h
theorem bg4 {K:PySem.W.Frag}{k:Bool}{p:Bool→Prop}(h:p k):∃ j,TruV K (.bl k) H j∧p j:=⟨k,rfl,h⟩
theorem ae9 {K:PySem.W.Frag}{p:Addr}{xs:List V}(h1:SqL K H p xs) (h:Q (.int xs.length) H):rLen K [V.ref p] H Q:=⟨_,_,rfl,.inl ⟨xs,h1,rfl⟩,h⟩
theorem au3 {K:PySem.W.Frag}{p:Addr}{ys:List V}(h1:SqL K H p ys) (h:New H (.lst ys) Q):b53 K [.ref p] H Q:=⟨p,ys,rfl,.inl h1,h⟩
end
end L2
namespace L2
open PySem PySem.Spec PyProof.Rows
section
variable {X:Cx}
end
theorem am8 {K:PySem.W.Frag}{a:Addr}{xs:List V}{te:TE}{tt:TT}{caps:List Nat}{σ:St} {H:Hp}{Q:VK}(hz:xs.length≤sizeLine) (Pv:Nat→List V→Hp→Prop) (h0:Pv 0 [] H) (hl:∀ i acc H,Pv i acc H→acc.length≤i∧SqL K H a xs)
 (hs:∀ i x acc H,xs[i]?=some x→Pv i acc H→∃ p u v,x=.ref p∧SqT K H p [u,v]∧tt (some u::some v::capV caps σ) H fun b H4=>if b=true then te (some u::some v::capV caps σ) H4 fun y H5=>Pv (i+1) (acc++[y]) H5 else Pv (i+1) acc H4)
 (hd:∀ acc H,Pv xs.length acc H→New H (.lst acc) Q):ai5 (Itl K a) (gTup K 2 (az2 (ag6 0) (az2 (ag6 1) gNil))) tt te 2 caps σ H Q:=by
 refine ⟨fun i m acc σ' H=>m=xs.length - i∧i≤xs.length∧(∃ u v,σ'=u::v::capV caps σ)∧Pv i acc H,⟨xs.length,by simp,Nat.zero_le _,⟨none,none,rfl⟩,h0⟩,?_⟩
 rintro i m acc σ' H' ⟨rfl,hi,⟨u0,v0,rfl⟩,p⟩
 obtain ⟨hl1,hq⟩:=hl i acc H' p
 by_cases hlt:i<xs.length
 · refine .inr ⟨⟨xs,xs[i],hq,by simp [hlt]⟩,by omega,fun ac σ2 H2=>(∃ u v,σ2=u::v::capV caps σ)∧Pv (i+1) ac H2,fun ac σ2 H2 ⟨e,p'⟩=>⟨xs.length - (i+1),by omega,rfl,hlt,e,p'⟩,fun x H2 y=>?_⟩
   obtain ⟨e,y⟩:=y
   subst e
   obtain ⟨q,u,v,rfl,hT,hst⟩:=hs i x acc _ (y xs hq) p
   have eN:∀ ac H5,((∃ u1 v1,some u::some v::capV caps σ=u1::v1::capV caps σ)∧Pv (i+1) ac H5)=Pv (i+1) ac H5:=fun ac H5=>propext ⟨And.right,fun p=>⟨⟨_,_,rfl⟩,p⟩⟩
   refine ⟨q,[u,v],rfl,hT,rfl,u,[v],rfl,v,[],rfl,rfl,?_⟩
   show tt (some u::some v::capV caps σ) _ fun b H4=>if b=true then te (some u::some v::capV caps σ) H4 fun y H5=>((∃ u1 v1,some u::some v::capV caps σ=u1::v1::capV caps σ)∧Pv (i+1) (acc++[y]) H5) else ((∃ u1 v1,some u::some v::capV caps σ=u1::v1::capV caps σ)∧Pv (i+1) acc H4)
   simp only [eN]
   exact hst
 · have e:i=xs.length:=by omega
   subst e
   exact .inl ⟨⟨xs,hq,Nat.le_refl _⟩,New.to (hd acc H' p)⟩
section
variable {σ:St} {H:Hp}{Q:VK}
theorem a86 {l:Addr}{xs:List V}{y:V}(h1:H l=some (.lst xs)) (hz:xs.length<sizeLine) (h:Q .non (upd H l (.lst (xs++[y])))):b35 (.ref l) [y] H Q:=⟨l,xs,y,rfl,rfl,h1,hz,h⟩
theorem bw4 {l:Addr}{xs:List V}{y:V}(h1:H l=some (.lst (xs++[y]))) (h:Q y (upd H l (.lst xs))):rPop (.ref l) [] H Q:=⟨l,xs++[y],y,rfl,rfl,h1,by simp,by simpa using h⟩
theorem aa0 {K:PySem.W.Frag}{l:Addr}{xs:List V}{P:Prop}(h1:SqL K H l xs) (h:P):tyV K "list" (.ref l) H∧P:=⟨.inl ⟨rfl,xs,h1⟩,h⟩
end
def Tups (H H':Hp):Prop:=∀ b xs,H b=some (.tup xs)→H' b=some (.tup xs)
theorem Same.tups {H H':Hp}(s:Same H H'):Tups H H':=fun b xs h=>s b _ h
theorem vac {P:Program}{w:World}{K:PySem.W.Frag}{mg:Str→Option Value}{base:Heap}{CX:CXT}{k:Nat}{f:Addr}{fd:FuncData}{ps:List Str}{sp:Sp}(h:∀ vs H Q E,¬ sp vs H Q E):FnOk P w K mg base CX k f fd ps sp :=
 ⟨fun vs H Q E q=>(h _ _ _ _ q).elim,fun A outer s H args us vs Q E _ _ _ _ q=>(h _ _ _ _ q).elim⟩
end L2
namespace L2
open PySem
theorem Same.updNew {H H1:Hp}{l:Addr}{o:HO}(s:Same H H1) (h:H l=none):Same H (upd H1 l o):=fun b u e=>by rw [a11 (a39 e h)]; exact s b u e
inductive Ex where
 | num (i:Int)
 | box (n:Str)
 | two (k:Bool) (a b:Ex)
def Ex.h:Ex→Nat
 | .num _=>0
 | .box _=>0
 | .two _ a b=>max a.h b.h+1
def Ex.sz:Ex→Nat
 | .num _=>1
 | .box _=>1
 | .two _ a b=>a.sz+b.sz+1
def Ex.ok (ns:List Str):Ex→Prop
 | .num i=>0≤i∧i<10
 | .box n=>n∈ns
 | .two _ a b=>a.ok ns∧b.ok ns
def bl8 (k:Bool):Str:=if k then "plus" else "less"
def Ex.At (H:Hp):Ex→V→Prop
 | .num i,v=>∃ a,v=.ref a∧H a=some (.tup [.str "number",.int i])
 | .box n,v=>∃ a,v=.ref a∧H a=some (.tup [.str "box",.str n])
 | .two k e f,v=>∃ a x y,v=.ref a∧H a=some (.tup [.str (bl8 k),x,y])∧e.At H x∧f.At H y
theorem Ex.At.mono {H H':Hp}(t:Tups H H'):∀ {e:Ex}{v:V},e.At H v→e.At H' v
 | .num _,_,⟨a,h1,h2⟩=>⟨a,h1,t _ _ h2⟩
 | .box _,_,⟨a,h1,h2⟩=>⟨a,h1,t _ _ h2⟩
 | .two _ e f,_,⟨a,x,y,h1,h2,h3,h4⟩=>⟨a,x,y,h1,t _ _ h2,Ex.At.mono t h3,Ex.At.mono t h4⟩
end L2
namespace L2
open PySem PySem.Spec PyProof.Rows
inductive Cd where
 | cmp (k:Bool) (a b:Ex)
 | nt (c:Cd)
 | both (c d:Cd)
def Cd.ok (ns:List Str) (n:Nat):Cd→Prop
 | .cmp _ a b=>(a.ok ns∧a.h≤n)∧b.ok ns∧b.h≤n
 | .nt c=>c.ok ns n
 | .both c d=>c.ok ns n∧d.ok ns n
def bc0 (k:Bool):Str:=if k then "same" else "under"
def Cd.At (H:Hp):Cd→V→Prop
 | .cmp k e f,v=>∃ a x y,v=.ref a∧H a=some (.tup [.str (bc0 k),x,y])∧e.At H x∧f.At H y
 | .nt c,v=>∃ a x,v=.ref a∧H a=some (.tup [.str "not",x])∧c.At H x
 | .both c d,v=>∃ a x y,v=.ref a∧H a=some (.tup [.str "both",x,y])∧c.At H x∧d.At H y
theorem Cd.At.mono {H H':Hp}(t:Tups H H'):∀ {c:Cd}{v:V},c.At H v→c.At H' v
 | .cmp _ e f,_,⟨a,x,y,h1,h2,h3,h4⟩=>⟨a,x,y,h1,t _ _ h2,h3.mono t,h4.mono t⟩
 | .nt c,_,⟨a,x,h1,h2,h3⟩=>⟨a,x,h1,t _ _ h2,Cd.At.mono t h3⟩
 | .both c d,_,⟨a,x,y,h1,h2,h3,h4⟩=>⟨a,x,y,h1,t _ _ h2,Cd.At.mono t h3,Cd.At.mono t h4⟩
end L2
namespace L2
open PySem
abbrev bl1:Str:=⟨#[32]⟩
def sgnE (k:Bool):Str:=if k then "+" else "-"
def sgnC (k:Bool):Str:=if k then "=" else "<"
def Ex.words:Ex→List Str
 | .num i=>[Str.ofString (toString i)]
 | .box n=>[n]
 | .two k a b=>Str.ofString "("::((a.words++sgnE k::b.words)++[Str.ofString ")"])
def Cd.words:Cd→List Str
 | .cmp k a b=>a.words++sgnC k::b.words
 | .nt c=>Str.ofString "not"::c.words
 | .both c d=>Str.ofString "("::((c.words++Str.ofString "and"::d.words)++[Str.ofString ")"])
def Ex.names:Ex→List Str
 | .num _=>[]
 | .box n=>[n]
 | .two _ a b=>a.names++b.names
def Cd.names:Cd→List Str
 | .cmp _ a b=>a.names++b.names
 | .nt c=>c.names
 | .both c d=>c.names++d.names
inductive Th where
 | ex (e:Ex)
 | cd (c:Cd)
def Cd.hh:Cd→Nat
 | .cmp _ a b=>max a.h b.h+1
 | .nt c=>c.hh+1
 | .both c d=>max c.hh d.hh+1
def Cd.sz:Cd→Nat
 | .cmp _ a b=>a.sz+b.sz+1
 | .nt c=>c.sz+1
 | .both c d=>c.sz+d.sz+1
def Th.hh:Th→Nat
 | .ex e=>e.h
 | .cd c=>c.hh
def Th.ok (ys:List Str):Th→Prop
 | .ex e=>e.ok ys
 | .cd c=>c.ok ys 5
def Th.At (H:Hp):Th→V→Prop
 | .ex e,v=>e.At H v
 | .cd c,v=>c.At H v
def Th.words:Th→List Str
 | .ex e=>e.words
 | .cd c=>c.words
def Th.names:Th→List Str
 | .ex e=>e.names
 | .cd c=>c.names
def Th.sz:Th→Nat
 | .ex e=>e.sz
 | .cd c=>c.sz
theorem Th.At.mono {H H':Hp}(t:Tups H H') {x:Th}{v:V}(h:x.At H v):x.At H' v:=by
 cases x with
 | ex e=>exact Ex.At.mono t h
 | cd c=>exact Cd.At.mono t h
theorem ah4 (w:Str) (ys:List Str):inV (.str w) (a25 ys)=decide (w∈ys):=by
 unfold inV a25
 rw [List.any_map,Bool.eq_iff_iff,List.any_eq_true,decide_eq_true_iff]
 constructor
 · rintro ⟨y,hy,e⟩
   have:(y == w)=true:=e
   have:y=w:=by simpa using this
   exact this ▸ hy
 · intro h
   exact ⟨w,h,by show (w == w)=true; simp⟩
theorem aq9 (ys:List Str):(a25 ys).all ae1=true:=by simp [a25,ae1]
theorem bw5 {K:PySem.W.Frag}{H:Hp}{Q:VK}{p:Addr}{ys:List Str}{w:Str}(h1:SqL K H p (a25 ys)) (h:Q (.bl (decide (w∈ys))) H):rIn K false (.str w) (.ref p) H Q:=⟨p,a25 ys,rfl,.inl h1,rfl,aq9 ys,by rw [ah4]; exact h⟩
abbrev bw6:List (Key×V):=[(Sum.inr (Str.ofString "plus"),.str (Str.ofString " + ")),(Sum.inr (Str.ofString "less"),.str (Str.ofString " - ")),(Sum.inr (Str.ofString "same"),.str (Str.ofString " = ")),(Sum.inr (Str.ofString "under"),.str (Str.ofString " < ")),(Sum.inr (Str.ofString "both"),.str (Str.ofString " and "))]
structure Two (H:Hp) (x:Th) (v:V) (m sg:Str) (x1 x2:Th) (a:Addr) (v1 v2:V):Prop where
 v:v=.ref a
 at_:H a=some (.tup [.str m,v1,v2])
 a1:x1.At H v1
 a2:x2.At H v2
 n1:¬ m=Str.ofString "number"
 n2:¬ m=Str.ofString "box"
 n3:¬ m=Str.ofString "not"
 names:x.names=x1.names++x2.names
 h1:x1.hh<x.hh
 h2:x2.hh<x.hh
 sz:x1.sz+x2.sz+1=x.sz
 ok:∀ ys,x.ok ys→x1.ok ys∧x2.ok ys
 mv:valV (a63 [] bw6) (Sum.inr m)=some (.str (bl1++sg++bl1))
 sl:sg.length≤3
 ws:(m∈[Str.ofString "same",Str.ofString "under"]∧x.words=x1.words++sg::x2.words)∨(m∉[Str.ofString "same",Str.ofString "under"]∧x.words=Str.ofString "("::((x1.words++sg::x2.words)++[Str.ofString ")"]))
theorem Th.view {H:Hp}{x:Th}{v:V}(h:x.At H v):(∃ i a,x=.ex (.num i)∧v=.ref a∧H a=some (.tup [.str "number",.int i]))∨(∃ n a,x=.ex (.box n)∧v=.ref a∧H a=some (.tup [.str "box",.str n])) ∨
 (∃ c a v1,x=.cd (.nt c)∧v=.ref a∧H a=some (.tup [.str "not",v1])∧(Th.cd c).At H v1)∨∃ m sg x1 x2 a v1 v2,Two H x v m sg x1 x2 a v1 v2:=by
 cases x with
 | ex e=>cases e with
   | num i =>
     obtain ⟨a,h1,h2⟩:=h
     exact .inl ⟨i,a,rfl,h1,h2⟩
   | box n =>
     obtain ⟨a,h1,h2⟩:=h
     exact .inr (.inl ⟨n,a,rfl,h1,h2⟩)
   | two k e f =>
     obtain ⟨a,v1,v2,h1,h2,h3,h4⟩:=h
     refine .inr (.inr (.inr ⟨bl8 k,sgnE k,.ex e,.ex f,a,v1,v2,h1,h2,h3,h4,by cases k <;> decide +kernel,by cases k <;> decide +kernel,by cases k <;> decide +kernel,rfl,?_,?_,rfl,fun ys h=>h,by cases k <;> decide +kernel,by cases k <;> decide +kernel,.inr ⟨by cases k <;> decide +kernel,rfl⟩⟩))
     · simp only [Th.hh,Ex.h]; omega
     · simp only [Th.hh,Ex.h]; omega
 | cd c=>cases c with
   | nt c =>
     obtain ⟨a,v1,h1,h2,h3⟩:=h
     exact .inr (.inr (.inl ⟨c,a,v1,rfl,h1,h2,h3⟩))
   | cmp k e f =>
     obtain ⟨a,v1,v2,h1,h2,h3,h4⟩:=h
     refine .inr (.inr (.inr ⟨bc0 k,sgnC k,.ex e,.ex f,a,v1,v2,h1,h2,h3,h4,by cases k <;> decide +kernel,by cases k <;> decide +kernel,by cases k <;> decide +kernel,rfl,?_,?_,rfl,fun ys h=>⟨h.1.1,h.2.1⟩,by cases k <;> decide +kernel,by cases k <;> decide +kernel,.inl ⟨by cases k <;> decide +kernel,rfl⟩⟩))
     · simp only [Th.hh,Cd.hh]; omega
     · simp only [Th.hh,Cd.hh]; omega
   | both c d =>
     obtain ⟨a,v1,v2,h1,h2,h3,h4⟩:=h
     refine .inr (.inr (.inr ⟨Str.ofString "both",Str.ofString "and",.cd c,.cd d,a,v1,v2,h1,h2,h3,h4,by decide +kernel,by decide +kernel,by decide +kernel,rfl,?_,?_,rfl,fun ys h=>h,by decide +kernel,by decide +kernel,.inr ⟨by decide +kernel,rfl⟩⟩))
     · simp only [Th.hh,Cd.hh]; omega
     · simp only [Th.hh,Cd.hh]; omega
theorem Ex.names_le:∀ e:Ex,e.names.length≤e.sz
 | .num _=>by simp [Ex.names]
 | .box _=>by simp [Ex.names,Ex.sz]
 | .two _ a b=>by
   have h1:=Ex.names_le a
   have h2:=Ex.names_le b
   simp only [Ex.names,Ex.sz,List.length_append]
   omega
theorem Cd.names_le:∀ c:Cd,c.names.length≤c.sz
 | .cmp _ a b=>by
   have h1:=a.names_le
   have h2:=b.names_le
   simp only [Cd.names,Cd.sz,List.length_append]
   omega
 | .nt c=>by
   have h1:=Cd.names_le c
   simp only [Cd.names,Cd.sz]
   omega
 | .both a b=>by
   have h1:=Cd.names_le a
   have h2:=Cd.names_le b
   simp only [Cd.names,Cd.sz,List.length_append]
   omega
theorem Th.names_le (x:Th):x.names.length≤x.sz:=by
 cases x with
 | ex e=>exact e.names_le
 | cd c=>exact c.names_le
theorem b56 (a b:List Str):a25 a++a25 b=a25 (a++b):=by simp [a25]
theorem bw7 {σ:St} {H:Hp}{Q:VK}{td ty:TE}(h:td σ H fun x H1=>ty σ H1 fun y H2=>∃ a v,x=.ref a∧DGet H2 a y (some v)∧Q v H2):bt3 td ty σ H Q:=h
end L2
namespace L2
open PySem PySem.Spec PyProof.Rows
end L2
namespace L2
open PySem
inductive Tr where
 | non
 | int (i:Int)
 | str (s:Str)
 | tup (xs:List Tr)
 | lst (xs:List Tr)
mutual
def Tr.At (H:Hp):Tr→V→List Addr→Prop
 | .non,v,fs=>v=.non∧fs=[]
 | .int i,v,fs=>v=.int i∧fs=[]
 | .str s,v,fs=>v=.str s∧fs=[]
 | .tup xs,v,fs=>∃ a vs,v=.ref a∧H a=some (.tup vs)∧Tr.Ats H xs vs fs
 | .lst xs,v,fs=>∃ a vs gs,v=.ref a∧H a=some (.lst vs)∧Tr.Ats H xs vs gs∧fs=a::gs
def Tr.Ats (H:Hp):List Tr→List V→List Addr→Prop
 | [],vs,fs=>vs=[]∧fs=[]
 | x::xs,vs,fs=>∃ v ws f g,vs=v::ws∧fs=f++g∧Tr.At H x v f∧Tr.Ats H xs ws g
end
def Keep (fs:List Addr) (H H':Hp):Prop:=Tups H H'∧∀ a∈fs,∀ xs,H a=some (.lst xs)→H' a=some (.lst xs)
theorem Same.keep {H H':Hp}(s:Same H H') (fs:List Addr):Keep fs H H':=⟨s.tups,fun a _ xs h=>s a _ h⟩
theorem Keep.sub {fs gs:List Addr}{H H':Hp}(k:Keep fs H H') (h:∀ a∈gs,a∈fs):Keep gs H H':=⟨k.1,fun a m=>k.2 a (h a m)⟩
mutual
theorem Tr.At.mono {H H':Hp}:∀ {x:Tr}{v:V}{fs:List Addr},x.At H v fs→Keep fs H H'→x.At H' v fs
 | .non,_,_,h,_=>by simpa only [Tr.At] using h
 | .int _,_,_,h,_=>by simpa only [Tr.At] using h
 | .str _,_,_,h,_=>by simpa only [Tr.At] using h
 | .tup xs,v,fs,h,k=>by
   simp only [Tr.At] at h ⊢
   obtain ⟨a,vs,e,g,r⟩:=h
   exact ⟨a,vs,e,k.1 _ _ g,Tr.Ats.mono r k⟩
 | .lst xs,v,fs,h,k=>by
   simp only [Tr.At] at h ⊢
   obtain ⟨a,vs,gs,e,g,r,rfl⟩:=h
   exact ⟨a,vs,gs,e,k.2 _ (by simp) _ g,Tr.Ats.mono r (k.sub fun b m=>by simp [m]),rfl⟩
theorem Tr.Ats.mono {H H':Hp}:∀ {xs:List Tr}{vs:List V}{fs:List Addr},Tr.Ats H xs vs fs→Keep fs H H'→Tr.Ats H' xs vs fs
 | [],_,_,h,_=>by simpa only [Tr.Ats] using h
 | x::xs,vs,fs,h,k=>by
   simp only [Tr.Ats] at h ⊢
   obtain ⟨v,ws,f,g,e,rfl,a,b⟩:=h
   exact ⟨v,ws,f,g,e,rfl,Tr.At.mono a (k.sub fun c m=>by simp [m]),Tr.Ats.mono b (k.sub fun c m=>by simp [m])⟩
end
theorem Tr.Ats.len {H:Hp}:∀ {xs:List Tr}{vs:List V}{fs:List Addr},Tr.Ats H xs vs fs→vs.length=xs.length
 | [],vs,fs,h=>by
   simp only [Tr.Ats] at h
   obtain ⟨rfl,rfl⟩:=h
   rfl
 | y::xs,vs,fs,h=>by
   simp only [Tr.Ats] at h
   obtain ⟨w,ws,f,g,rfl,rfl,b,c⟩:=h
   simp [c.len]
end L2
namespace L2
open PySem PySem.Spec PyProof.Rows
mutual
def Tr.h:Tr→Nat
 | .non=>0
 | .int _=>0
 | .str _=>0
 | .tup xs=>Tr.hs xs+1
 | .lst xs=>Tr.hs xs+1
def Tr.hs:List Tr→Nat
 | []=>0
 | x::xs=>max x.h (Tr.hs xs)
end
theorem bg5 (n:Nat):((List.range n).all fun _=>true)=true:=by simp
theorem a61 (A:Around):A.in1.units=A.units+1:=rfl
section
variable {X:Cx}{pins:List (Addr×Obj)}{σ:St} {H:Hp}{s:Shared}
mutual
theorem Tr.eqAt (I:Inv X pins σ H s):∀ {t:Tr}{A:Around}{v w:V}{fs gs:List Addr}{u z:Value},t.At H v fs→t.At H w gs→RelV v u→RelV w z→A.units+t.h<cLine→SeqAt.EqAt A s u z true
 | .non,A,v,w,fs,gs,u,z,h1,h2,r1,r2,hu=>by
   simp only [Tr.At] at h1 h2
   obtain ⟨rfl,-⟩:=h1
   obtain ⟨rfl,-⟩:=h2
   cases r1
   cases r2
   exact SeqAt.EqAt.same _
 | .int i,A,v,w,fs,gs,u,z,h1,h2,r1,r2,hu=>by
   simp only [Tr.At] at h1 h2
   obtain ⟨rfl,-⟩:=h1
   obtain ⟨rfl,-⟩:=h2
   obtain ⟨t1,rfl⟩:=r1
   obtain ⟨t2,rfl⟩:=r2
   have:=SeqAt.EqAt.int_int (A:=A) (s:=s) i t1 i t2
   simpa using this
 | .str i,A,v,w,fs,gs,u,z,h1,h2,r1,r2,hu=>by
   simp only [Tr.At] at h1 h2
   obtain ⟨rfl,-⟩:=h1
   obtain ⟨rfl,-⟩:=h2
   obtain ⟨t1,rfl⟩:=r1
   obtain ⟨t2,rfl⟩:=r2
   have:=SeqAt.EqAt.str_str (A:=A) (s:=s) i t1 i t2
   simpa using this
 | .tup xs,A,v,w,fs,gs,u,z,h1,h2,r1,r2,hu=>by
   simp only [Tr.At] at h1 h2
   obtain ⟨a,vs,rfl,e1,c1⟩:=h1
   obtain ⟨b,ws,rfl,e2,c2⟩:=h2
   cases r1
   cases r2
   by_cases hab:a=b
   · subst hab
     exact SeqAt.EqAt.same _
   refine SeqAt.EqAt.of_refs hab ?_
   obtain ⟨is1,q1,p1,_⟩:=I.tuple (SqT.of e1)
   obtain ⟨is2,q2,p2,_⟩:=I.tuple (SqT.of e2)
   simp only [Tr.h] at hu
   have hl:is1.length=is2.length:=by rw [← q1.length,←q2.length,c1.len,c2.len]
   have:=SeqAt.RcAt.tuples (A:=A) (s:=s) (e:=fun _=>true) p1 p2 (by omega) (fun j h1 h2=>by
    have:=Tr.eqAts I (A:=A.in1) c1 c2 q1 q2 (by rw [a61]; omega) j (by simpa using h1) (by simpa using h2)
    simpa using this)
   simpa [hl,bg5] using this
 | .lst xs,A,v,w,fs,gs,u,z,h1,h2,r1,r2,hu=>by
   simp only [Tr.At] at h1 h2
   obtain ⟨a,vs,_,rfl,e1,c1,_⟩:=h1
   obtain ⟨b,ws,_,rfl,e2,c2,_⟩:=h2
   cases r1
   cases r2
   by_cases hab:a=b
   · subst hab
     exact SeqAt.EqAt.same _
   refine SeqAt.EqAt.of_refs hab ?_
   obtain ⟨is1,q1,p1,_⟩:=I.list (SqL.of e1)
   obtain ⟨is2,q2,p2,_⟩:=I.list (SqL.of e2)
   simp only [Tr.h] at hu
   have hl:is1.length=is2.length:=by rw [← q1.length,←q2.length,c1.len,c2.len]
   have:=SeqAt.RcAt.lists (A:=A) (s:=s) (e:=fun _=>true) p1.isList p2.isList (by simpa using hl) (by omega) (fun j h1 h2=>by
    have:=Tr.eqAts I (A:=A.in1) c1 c2 q1 q2 (by rw [a61]; omega) j (by simpa using h1) (by simpa using h2)
    simpa using this)
   simpa [bg5] using this
theorem Tr.eqAts (I:Inv X pins σ H s):∀ {ts:List Tr}{A:Around}{vs ws:List V}{fs gs:List Addr}{us zs:List Value},Tr.Ats H ts vs fs→Tr.Ats H ts ws gs→Vals vs us→Vals ws zs→A.units+Tr.hs ts<cLine →
 ∀ (j:Nat) (h1:j<us.length) (h2:j<zs.length),SeqAt.EqAt A s us[j] zs[j] true
 | [],A,vs,ws,fs,gs,us,zs,c1,c2,q1,q2,hu,j,h1,h2=>by
   simp only [Tr.Ats] at c1
   obtain ⟨rfl,-⟩:=c1
   cases q1
   exact absurd h1 (by simp)
 | t::ts,A,vs,ws,fs,gs,us,zs,c1,c2,q1,q2,hu,j,h1,h2=>by
   simp only [Tr.Ats] at c1 c2
   obtain ⟨v,vs,f,g,rfl,rfl,a1,b1⟩:=c1
   obtain ⟨w,ws,f',g',rfl,rfl,a2,b2⟩:=c2
   cases q1 with
   | cons r1 q1 =>
   cases q2 with
   | cons r2 q2 =>
   simp only [Tr.hs] at hu
   cases j with
   | zero=>exact Tr.eqAt I a1 a2 r1 r2 (by omega)
   | succ j=>exact Tr.eqAts I b1 b2 q1 q2 (by omega) j (by simpa using h1) (by simpa using h2)
end
end
section
variable {prog:Program}{w:World}{A:Around}{E:Value→Shared→Prop}
end
section
variable {X:Cx}{pos:Pos}
end
inductive Pt where
 | s (z:Str)
 | i (n:Int)
def Pt.v:Pt→V
 | .s z=>.str z
 | .i n=>.int n
theorem aa1 {H:Hp}{Q:VK}{l b:Addr}{xs zs:List V}(h1:H l=some (.lst xs)) (h2:H b=some (.lst zs)) (hz:xs.length+zs.length≤sizeLine) (h:Q .non (upd H l (.lst (xs++zs)))):b36 (.ref l) [.ref b] H Q:=⟨l,b,xs,zs,rfl,rfl,h1,h2,hz,h⟩
end L2
namespace L2
open PySem
def Pt.tr:Pt→Tr
 | .s z=>.str z
 | .i n=>.int n
def Ex.tr:Ex→Tr
 | .num i=>.tup [.str "number",.int i]
 | .box n=>.tup [.str "box",.str n]
 | .two k a b=>.tup [.str (bl8 k),a.tr,b.tr]
def Cd.tr:Cd→Tr
 | .cmp k a b=>.tup [.str (bc0 k),a.tr,b.tr]
 | .nt c=>.tup [.str "not",c.tr]
 | .both c d=>.tup [.str "both",c.tr,d.tr]
mutual
inductive Stm where
 | plain (ps:List Pt)
 | put (n:Str) (e:Ex)
 | loop (b:List Stm)
 | wait (n:Int) (bs:List Br)
 | test (c:Cd) (a b:List Stm)
inductive Br where
 | mk (p:List Pt) (b:List Stm)
end
mutual
def Stm.tr:Stm→Tr
 | .plain ps=>.tup (ps.map Pt.tr)
 | .put n e=>.tup [.str "put",.str n,e.tr]
 | .loop b=>.tup [.str "loop",.lst (Stm.trs b)]
 | .wait n bs=>.tup [.str "wait",.int n,.lst (Br.trs bs)]
 | .test c a b=>.tup [.str "test",c.tr,.lst (Stm.trs a),.lst (Stm.trs b)]
def Br.tr:Br→Tr
 | .mk p b=>.tup [.tup (p.map Pt.tr),.lst (Stm.trs b)]
def Stm.trs:List Stm→List Tr
 | []=>[]
 | s::r=>s.tr::Stm.trs r
def Br.trs:List Br→List Tr
 | []=>[]
 | s::r=>s.tr::Br.trs r
end
section
variable {H:Hp}{v:V}{fs:List Addr}
end
section
variable {H:Hp}{v:V}{fs:List Addr}
end
end L2
namespace L2
open PySem PySem.Spec PyProof.Rows
section
variable {X:Cx}
end
end L2
namespace L2
def c59 (ws:List (Option Nat)) (n:Nat):List Nat:=(List.range n).filter fun i=>decide (ws[i]?=some none)
def kept (ws:List (Option Nat)):List Nat:=c59 ws ws.length
end L2
namespace L2
open PySem
section
variable {prog:Program}{w:World}{K:Type} [DecidableEq K] {knd:KeyKind prog w K}{A:Around}{E:Value→Shared→Prop}{s:Shared}
theorem af0:plainId "dict.update.loop"=true:=by decide +kernel
theorem ar0:entryFor table "dict.update.loop"=some Builtin.«dict.update.loop»:=entryFor_of_fast (by kernel_rfl)
theorem b57:typeLookup (.type "list") "keys"=pure none:=am_miss_of_fast (by decide +kernel)
theorem getAttr?_miss_list {a:Addr}{o:Obj}{xs:Array Value}{k:Nat}{name:Str}{Q:Option Value→Shared→Prop}
 (hx:s.heap.get? a=some o) (hc:o.cls=.type "list") (hdat:o.data=.seq xs k) (hd:o.dict=none) (hmiss:typeLookup (.type "list") name=pure none) (hname:(["__module__","__name__","__qualname__","__doc__","__annotations__"]:List Str).contains name=false) (hA:A.handled=none)
 (h:∀ h' tk,(∀ b o,s.heap.get? b=some o→h'.get? b=some o)→Q none { s with heap:=h',toks:=tk }) (hsz:name.length+100≤sizeLine:=by size_fits) :
 wpAny (model prog w) A (getAttr? (.ref a) name) Q E s:=by
 obtain ⟨c,dct,dat,sl⟩:=o
 simp only at hc hdat hd
 subst hc hdat hd
 obtain ⟨hp,g,d,tk,os⟩:=s
 have hT:∀ tk',(⟨hp,g,d,tk',os⟩:Shared).TypeIs (.ref a) "list":=fun _=>⟨_,hx,rfl⟩
 have f1:=sub_AttributeError
 have f3:=F.slot_list_getattribute.lookup
 have f4:=F.slot_list_getattribute.bind (.ref a)
 have f5:=am_list_getattr_none
 unfold getAttr? getAttrBy? getAttrBy
 repeat (any_goals (first | assumption | exact hT _ | ((with_reducible show wpAny _ _ (call (Value.builtin "list.__getattribute__") _ _) _ _ _); refine call_meets F.slot_list_getattribute (hT _) am_entry_list_getattribute (F.args_list_getattribute_2 _ _) (meets_getattribute_miss_list a xs k sl name _ hmiss hname hsz) ⟨hx,hA,fun h' tk' e hx'=>?_⟩) | wp_step))
 obtain ⟨t',u',he⟩:=hx'.there
 show wpAny _ _ (getattributeRaised _ _ _ _ _ _ _) _ _ _
 unfold getattributeRaised
 repeat (any_goals (first | assumption | wp_step))
 exact h _ _ hx'.keeps
end
section
variable {prog:Program}{w:World}{K:Type} [DecidableEq K] {knd:KeyKind prog w K}{A:Around}{E:Value→Shared→Prop}{s:Shared}
def PairsAt (knd:KeyKind prog w K) (h:Heap) (items:Array Value) (ps:List (K×Value)) (no:List Addr):Prop :=
 ps.length=items.size∧∀ (j:Nat) (x:Value),items[j]?=some x→∃ T k key v,x=.ref T∧T∉no∧h.IsTuple T #[key,v]∧knd.is k key=true∧ps[j]?=some (k,v)
theorem PairsAt.mono {h h':Heap}{items:Array Value}{ps:List (K×Value)}{no:List Addr}(p:PairsAt knd h items ps no) (k:∀ b o,b∉no→h.get? b=some o→h'.get? b=some o):PairsAt knd h' items ps no :=
 ⟨p.1,fun j x e=>by
  obtain ⟨T,k1,key,v,h1,h2,⟨o,h3,h3'⟩,h4,h5⟩:=p.2 j x e
  exact ⟨T,k1,key,v,h1,h2,⟨o,k T o h2 h3,h3'⟩,h4,h5⟩⟩
theorem au4 {R:Result→Shared→Prop}{d it l:Addr}{items:Array Value}{ps:List (K×Value)}{res:Value}(hdi:d≠it) (hli:l≠it) (hld:l≠d) (hA:A.handled=none) :
 ∀ (n i:Nat) (s:Shared) (kvs:List (K×Value)),items.size - i=n→i≤items.size→s.heap.IsListIter it l i→s.heap.IsList l items→s.heap.DictOf knd d kvs→kvs.length+n≤sizeLine→PairsAt knd s.heap items ps [d,it] →
 (∀ h' tk,h'.DictOf knd d (merged kvs (ps.drop i))→(∀ b o,b≠d→b≠it→s.heap.get? b=some o→h'.get? b=some o)→R (.ok (.ret res)) { s with heap:=h',toks:=tk }) →
 codeAny (model prog w) A (.builtin "dict.update.loop" ⟨[.ref d,.ref it,rawInt i,res],[]⟩) R s:=by
 intro n
 induction n with
 | zero =>
   intro i s kvs hn hi hit hl hd hz hp hR
   have e:i=items.size:=by omega
   subst e
   refine codeAny_builtin ar0 ?_
   rw [Around.under_plainId af0 _]
   show wpAny _ A.in1 (pyNext (.ref it) >>= _) _ _ s
   refine wpAny_bind (wpAny_pyNext_list_end (by exact hA) hit hl (Array.getElem?_eq_none (Nat.le_refl _)) fun h' hx=>?_)
   show wpAny _ _ (Builtin.Dict.addKeywords d [] >>= _) _ _ _
   refine wpAny_bind (wpAny_pure (wpAny_pure ?_))
   refine hR h' s.toks ?_ fun b o _ h2 e=>hx b o h2 e
   rw [List.drop_of_length_le (Nat.le_of_eq hp.1)]
   exact hd.extBut hx hdi
 | succ n ih =>
   intro i s kvs hn hi hit hl hd hz hp hR
   have hlt:i<items.size:=by omega
   obtain ⟨T,k,key,v,e1,e2,hT,hk,hv⟩:=hp.2 i items[i] (by simp [hlt])
   refine codeAny_builtin ar0 ?_
   rw [Around.under_plainId af0 _]
   show wpAny _ A.in1 (pyNext (.ref it) >>= _) _ _ s
   refine wpAny_bind (wpAny_pyNext_list_item hit hl (x:=items[i]) (by simp [hlt]) fun h1 hit1 hs1=>?_)
   rw [e1]
   have hTd:T≠d:=fun z=>e2 (by simp [z])
   have hTi:T≠it:=fun z=>e2 (by simp [z])
   obtain ⟨oT,hoT,cT,nT,dT⟩:=hT
   have hoT1:h1.get? T=some oT:=(hs1.2 T hTi).trans hoT
   have tT:({ s with heap:=h1 }:Shared).TypeIs (.ref T) "tuple":=⟨oT,hoT1,cT⟩
   show wpAny _ _ (holding [Value.ref T] _ >>= _) _ _ _
   refine wpAny_bind (wpAny_holding ?_)
   refine wpAny_bind (wpAny_tryCatch ?_)
   unfold Builtin.Dict.pairItems
   refine wpAny_bind (wpAny_typeOf tT ?_)
   rw [if_pos (by decide)]
   refine wpAny_bind (wpAny_seqItems hoT1 dT (wpAny_pure ?_))
   show wpAny _ _ (holding [key,v] (dictSet d key v)) _ _ _
   refine wpAny_holding ?_
   have hd1:h1.DictOf knd d kvs:=hd.sameBut hs1 hdi
   refine wpAny_dictSet_pairs (hsz:=by omega) hk hd1 fun h2 hd2 hs2=>?_
   refine wpAny_pure ⟨plainId_quiet af0 _,?_⟩
   have kp:∀ b o,b≠d→b≠it→s.heap.get? b=some o→h2.get? b=some o:=fun b o hb1 hb2 e=>(hs2.2 b hb1).trans ((hs1.2 b hb2).trans e)
   have hit2:h2.IsListIter it l (i+1):=let ⟨o,e,r⟩:=hit1; ⟨o,(hs2.2 it (Ne.symm hdi)).trans e,r⟩
   have hl2:h2.IsList l items:=let ⟨o,e,r⟩:=hl; ⟨o,kp l o hld hli e,r⟩
   have:=ih (i+1) { s with heap:=h2,toks:=s.toks+1 } (stored kvs k v) (by omega) (by omega) hit2 hl2 hd2 (by have:=stored_length_le kvs k v; omega) (hp.mono fun b o hb e=>kp b o (fun z=>hb (by simp [z])) (fun z=>hb (by simp [z])) e) (fun h' tk hd' kp'=>?_)
   · exact this
   · refine hR h' tk ?_ fun b o h3 h4 e=>kp' b o h3 h4 (kp b o h3 h4 e)
     have hdr:ps.drop i=(k,v)::ps.drop (i+1):=by
      obtain ⟨hj,ej⟩:=List.getElem?_eq_some_iff.mp hv
      rw [List.drop_eq_getElem_cons hj,ej]
     rw [hdr]
     exact hd'
theorem ai6 {l:Addr}{o:Obj}{items:Array Value}{n:Nat}{ps:List (K×Value)}{Q:Value→Shared→Prop}(ho:s.heap.get? l=some o) (hc:o.cls=.type "list") (hd:o.dict=none) (hdat:o.data=.seq items n)
 (hA:A.handled=none) (hp:PairsAt knd s.heap items ps []) (hz:items.size≤sizeLine)
 (h:∀ h' tk,h'.DictOf knd s.heap.objs.size (merged [] ps)→(∀ b o,s.heap.get? b=some o→h'.get? b=some o)→Q (.ref s.heap.objs.size) { s with heap:=h',toks:=tk }) :
 wpAny (model prog w) A (call (.type "dict") [.ref l]) Q E s:=by
 refine callType_codes (Q₁:=fun obj s₁=>obj=.ref s.heap.objs.size∧s₁={ s with heap:=s.heap.push { cls:=.type "dict",data:=.dict #[] } }) F.kt_called_dict (F.kt_typeCall_dict_1 _) F.entry_dict_init (kt_code_dict_new _ ⟨rfl,rfl⟩) ?_
 rintro obj s₁ ⟨rfl,rfl⟩
 have hnew:(s.heap.push { cls:=.type "dict",data:=.dict #[] }).DictOf knd s.heap.objs.size []:=Heap.DictOf.new s.heap
 have hlt:=Heap.lt_size ho
 have ho':(s.heap.push { cls:=.type "dict",data:=.dict #[] }).get? l=some o:=Heap.get?_push_of_some _ ho
 refine ⟨hnew.typeIs,F.args_dict_init_2 _ _,?_⟩
 unfold Builtin.«dict.__init__»
 refine wpAny_bind ?_
 unfold Builtin.Dict.selfAndRest
 refine wpAny_bind (wpAny_notOrdered_dict hnew.typeIs ?_)
 show wpAny _ _ (pure (s.heap.objs.size,[Value.ref l])) _ _ _
 refine wpAny_pure ?_
 show wpAny _ _ (Builtin.Dict.updateFrom "dict.__init__" s.heap.objs.size (.ref l) [] .none) _ _ _
 unfold Builtin.Dict.updateFrom
 refine wpAny_bind (wpAny_typeOf (T:="list") ⟨o,ho',hc⟩ ?_)
 rw [if_pos (by decide)]
 refine wpAny_bind (getAttr?_miss_list ho' hc hdat hd b57 (by decide) (by exact hA) fun h1 tk1 k1=>?_)
 show wpAny _ _ (rule _ >>= _) _ _ _
 refine wpAny_bind (wpAny_rule ?_)
 have k0:∀ b q,s.heap.get? b=some q→h1.get? b=some q:=fun b q e=>k1 b q (Heap.get?_push_of_some _ e)
 have hl1:h1.IsList l items:=⟨o,k0 l o ho,hc,n,hdat⟩
 refine wpAny_bind (wpAny_pyIter_list hl1 (wpAny_pure ⟨plainId_quiet af0 _,?_⟩))
 have hd1:h1.DictOf knd s.heap.objs.size []:=by
  obtain ⟨q,es,ep,e1,e2,e3⟩:=hnew
  exact ⟨q,es,ep,k1 _ _ e1,e2,e3⟩
 have hds:s.heap.objs.size<h1.objs.size:=by
  obtain ⟨q,es,ep,e1,_⟩:=hd1
  exact Heap.lt_size e1
 have hl1s:l<h1.objs.size:=Heap.lt_size (k0 l o ho)
 refine au4 (knd:=knd) (items:=items) (ps:=ps) (d:=s.heap.objs.size) (it:=h1.objs.size) (l:=l) (Nat.ne_of_lt hds) (Nat.ne_of_lt hl1s) (Nat.ne_of_lt hlt) (by exact hA) items.size 0 _ [] (by omega) (Nat.zero_le _) ⟨_,Heap.get?_push_size _ rfl,rfl,rfl⟩ (hl1.push _) (hd1.push _) (by simpa using hz) ⟨hp.1,fun j x e=>?_⟩ fun h' tk hd' kp=>?_
 · obtain ⟨T,k,key,v,e1,_,⟨oT,e2,e3⟩,e4,e5⟩:=hp.2 j x e
   refine ⟨T,k,key,v,e1,?_,⟨oT,Heap.get?_push_of_some _ (k0 _ _ e2),e3⟩,e4,e5⟩
   have h1:=Heap.lt_size e2
   have h2:=Heap.lt_size (k0 _ _ e2)
   simp only [List.mem_cons,List.not_mem_nil,or_false,not_or]
   exact ⟨Nat.ne_of_lt h1,Nat.ne_of_lt h2⟩
 · exact ⟨rfl,h h' tk hd' fun b q e=>kp b q (Nat.ne_of_lt (Heap.lt_size e)) (Nat.ne_of_lt (Heap.lt_size (k0 _ _ e))) (Heap.get?_push_of_some _ (k0 b q e))⟩
end
end L2
namespace L2
open PySem PySem.Spec PyProof.Rows
section
variable {X:Cx}{pins:List (Addr×Obj)}{σ:St} {H:Hp}{s:Shared}
theorem Inv.turnedL {t':Nat}{h':Heap}{ch:List Addr}(I:Inv X pins σ H s) (k:∀ b o,b∉ch→s.heap.get? b=some o→h'.get? b=some o) (hf:∀ b∈ch,FpOk X pins H b):Inv X pins σ H { s with heap:=h',toks:=t' }:=by
 have nit:∀ b u,H b=some u→b∉ch:=fun b u e z=>by rw [(hf b z).1] at e; cases e
 refine I.step (g':=s.gens) (d':=s.drawn) (ch:=ch) (fun b hb=>⟨(hf b hb).2.2.2.1,(hf b hb).2.1,(hf b hb).2.2.2.2.1,(hf b hb).2.2.2.2.2⟩) (fun b o _ _ hc e _=>k b o hc e) (fun b o _ _ hc e _=>⟨o.slots,k b o hc e⟩) (fun _ _ _ _ n=>n)
  (fun b o hc e=>⟨o,k b o hc e⟩) (fun _ _ e=>e) (fun _ _ _ e=>e) (fun b ps e=>⟨#[],by rw [e]; simp⟩) (fun m hm=>?_) (fun b u e=>?_) I.bare
 · obtain ⟨o,es,ep,ho,r⟩:=hm
   exact ⟨o,es,ep,k _ o (fun z=>(hf _ z).2.1 rfl) ho,r⟩
 · refine (I.hok b u e).stay (fun c v hc q=>k c v ?_ q) (fun _ q=>q) fun _ _ q=>q
   rcases hc with z | z
   · rw [z]; exact nit b u e
   · exact nit c _ z
end
def Ite (K:PySem.W.Frag) (a:Addr):It :=
 ⟨fun i H=>∃ xs x,SqL K H a xs∧xs[i]?=some x,fun i H v H'=>∃ p y,v=.ref p∧H p=none∧Same H H'∧H' p=some (.tup [.int (i:Nat),y])∧∀ xs,SqL K H a xs→xs[i]?=some y,fun i H=>∃ xs,SqL K H a xs∧xs.length≤i⟩
theorem b58 {P:Program}{w:World}{K:PySem.W.Frag}{elts:List Expr}{x1:Nat}{pos:Pos}(a e it:Addr) (hne:e≠it) :
 Turn P w K (.Tuple elts x1 pos) (Ite K a) [e,it] e (fun i h=>(∃ old,IsEnum h e it (i:Nat) old)∧h.IsListIter it a i) where
 mem:=by simp
 obj:=fun i h st b hb=>by
  obtain ⟨⟨old,he⟩,o,e2,c,d⟩:=st
  rcases (by simpa using hb:b=e∨b=it) with rfl | rfl
  · exact ⟨_,he,fun v z=>by cases z⟩
  · exact ⟨o,e2,fun v z=>by rw [d] at z; cases z⟩
 keep:=fun i h h' st k=>⟨let ⟨old,he⟩:=st.1; ⟨old,k e (by simp) _ he⟩,st.2.at fun o x=>k it (by simp) o x⟩
 item:=by
  intro X hP hw hK hc i pins s σ H E I hf st hg
  subst hP hw hK
  obtain ⟨xs,x,hq,hx⟩:=hg
  obtain ⟨its,rv,p,hz⟩:=I.list hq
  obtain ⟨u,hu,ru⟩:=rv.get hx
  obtain ⟨⟨old,he⟩,hit⟩:=st
  have helt:e<s.heap.objs.size:=Heap.lt_size he
  have hilt:it<s.heap.objs.size:=by obtain ⟨_,q,_⟩:=hit; exact Heap.lt_size q
  refine wpAny_pyNext_enum_item he hit p.isList (x:=u) (by simpa using hu) hne fun h' ho hit' hT hsz hk=>?_
  have fr:H s.heap.objs.size=none:=I.hok.fresh (Nat.le_refl _)
  have I1:Inv X pins σ H { s with heap:=h',toks:=s.toks+1 }:=I.turnedL (ch:=[e,it]) (fun b o hb q=>hk b o (fun z=>hb (by simp [z])) (fun z=>hb (by simp [z])) q) hf
  have I2:Inv X pins σ (upd H s.heap.objs.size (.tup [.int (i:Nat),x])) { s with heap:=h',toks:=s.toks+1 }:=I1.adopt (o:=.tup [.int (i:Nat),x]) fr I.sz (Nat.ne_of_gt I.lt) (fun y c ec z=>by
   obtain ⟨v,q⟩:=I.cell y c ec
   exact absurd q.lt (by rw [z]; exact Nat.lt_irrefl _)) (fun q hq z=>absurd (Heap.lt_size (I.pin q hq).1) (by rw [z]; exact Nat.lt_irrefl _))
   ⟨le_line (by simp),[.int (i:Nat) s.toks,u],.cons ⟨_,rfl⟩ (.cons ru .nil),⟨_,hT,rfl,_,rfl⟩⟩
  have ne:∀ b∈[e,it],b≠s.heap.objs.size:=fun b hb=>by
   rcases (by simpa using hb:b=e∨b=it) with rfl | rfl
   · exact Nat.ne_of_lt helt
   · exact Nat.ne_of_lt hilt
  have hf2:∀ b∈[e,it],FpOk X pins (upd H s.heap.objs.size (.tup [.int (i:Nat),x])) b:=fun b hb=>⟨by rw [a11 (ne b hb)]; exact (hf b hb).1,(hf b hb).2⟩
  refine ⟨_,rfl,wpAny_letOwnedTupleGo_enum ho fun h2 he2 hs2=>⟨.ref s.heap.objs.size,_,I2.turnedL (t':=s.toks+1) (ch:=[e]) (fun b o hb q=>(hs2.2 b (fun z=>hb (by simp [z]))).trans q) (fun b hb=>hf2 b (by simp at hb; simp [hb])),rfl,⟨s.heap.objs.size,x,rfl,fr,Same.new fr,a14,fun ys hy=>by rw [I.list_inj hy hq]; exact hx⟩,⟨⟨_,by simpa using he2⟩,hit'.at fun o q=>(hs2.2 it (Ne.symm hne)).trans q⟩,fun b hb=>(hf2 b hb).1⟩⟩
 done:=by
  intro X hP hw hK hc i pins s σ H E I hf st hg
  subst hP hw hK
  obtain ⟨xs,hq,hx⟩:=hg
  obtain ⟨its,rv,p,hz⟩:=I.list hq
  obtain ⟨⟨old,he⟩,hit⟩:=st
  have hl:=rv.length
  exact wpAny_pyNext_enum_end (I.ok.hd hc) he hit p.isList (by simp; omega) fun h' eb=>⟨rfl,I.turnedL (t':=s.toks) (ch:=[it]) (fun b o hb q=>eb b o (fun z=>hb (by simp [z])) q) (fun b hb=>hf b (by simp at hb; simp [hb]))⟩
 self:=fun A i s Q E st h=>let ⟨old,he⟩:=st.1; wpAny_pyIter_enum he h
section
variable {X:Cx}{elts:List Expr}{x1:Nat}{tpos:Pos}
def bw8 (K:PySem.W.Frag) (ta:TA):TI:=fun σ H R=>ta σ H fun vs H1=>∃ a,vs=[.ref a]∧(∃ xs,SqL K H1 a xs)∧R (Ite K a) H1
theorem am9 (K:PySem.W.Frag) {a:Expr}{ta:TA}{p pos:Pos}(hg:Gl X "enumerate") (hm:X.mg "enumerate"=none) (ha:PA X [a] ta) (hs:starEach [a] X.env=[(false,eval a X.env)]:=by rfl) (hK:X.K=K:=by rfl):PI X (.Tuple elts x1 tpos) (.Call (.Name "enumerate" p) [a] [] pos) (bw8 K ta):=by
 subst hK
 intro pins s σ H R I h
 refine Call_ (ap0 I hg hm boot_enumerate (PyProof.Rows.callWith_type1 (thn (ha pos pins s σ H _ I h) ?_) hs rfl))
 rintro us s1 ⟨vs,H1,I1,r1,q1⟩
 obtain ⟨l,e,⟨xs,hq⟩,q⟩:=q1
 subst e
 obtain ⟨u,rfl,ru⟩:=b26 r1
 cases ru
 obtain ⟨its,rv,pl,hz⟩:=I1.list hq
 refine call_enumerate_list pl.isList fun h' he hit hsz hk=>?_
 refine wpAny_pyIter_enum he ?_
 refine ⟨s1.heap.objs.size+1,[s1.heap.objs.size+1,s1.heap.objs.size],_,_,H1,rfl,I1.kept (t':=s1.toks) hk,b58 l _ _ (Nat.succ_ne_self _),⟨⟨_,he⟩,hit⟩,fun b hb=>?_,q⟩
 have hb':s1.heap.objs.size≤b:=by
  rcases (by simpa using hb:b=s1.heap.objs.size+1∨b=s1.heap.objs.size) with rfl | rfl <;> omega
 exact I1.fpOk hb' (I1.hok.fresh hb')
theorem bw9 {K:PySem.W.Frag}{σ:St} {H:Hp}{R:It→Hp→Prop}{ts:TA}(h:ts σ H fun vs H1=>∃ a,vs=[.ref a]∧(∃ xs,SqL K H1 a xs)∧R (Ite K a) H1):bw8 K ts σ H R:=h
theorem bx0 {a:Addr}{p:Addr→Prop}(h:p a):∃ b,[V.ref a]=[V.ref b]∧p b:=⟨a,rfl,h⟩
theorem b59 {K:PySem.W.Frag}{a:Addr}{xs:List V}{te:TE}{tt:TT}{caps:List Nat}{σ:St} {H:Hp}{Q:VK}(hz:xs.length≤sizeLine) (Pv:Nat→List V→Hp→Prop) (h0:Pv 0 [] H) (hl:∀ i acc H,Pv i acc H→acc.length≤i∧SqL K H a xs)
 (hs:∀ i x acc H H2,xs[i]?=some x→Pv i acc H→Same H H2→tt (some (.int (i:Nat))::some x::capV caps σ) H2 fun b H4=>if b=true then te (some (.int (i:Nat))::some x::capV caps σ) H4 fun y H5=>Pv (i+1) (acc++[y]) H5 else Pv (i+1) acc H4)
 (hd:∀ acc H,Pv xs.length acc H→New H (.lst acc) Q):ai5 (Ite K a) (gTup K 2 (az2 (ag6 0) (az2 (ag6 1) gNil))) tt te 2 caps σ H Q:=by
 refine ⟨fun i m acc σ' H=>m=xs.length - i∧i≤xs.length∧(∃ u v,σ'=u::v::capV caps σ)∧Pv i acc H,⟨xs.length,by simp,Nat.zero_le _,⟨none,none,rfl⟩,h0⟩,?_⟩
 rintro i m acc σ' H' ⟨rfl,hi,⟨u0,v0,rfl⟩,p⟩
 obtain ⟨hl1,hq⟩:=hl i acc H' p
 by_cases hlt:i<xs.length
 · refine .inr ⟨⟨xs,xs[i],hq,by simp [hlt]⟩,by omega,fun ac σ2 H2=>(∃ u v,σ2=u::v::capV caps σ)∧Pv (i+1) ac H2,fun ac σ2 H2 ⟨e,p'⟩=>⟨xs.length - (i+1),by omega,rfl,hlt,e,p'⟩,fun x H2 y=>?_⟩
   obtain ⟨q,z,rfl,hn,sm,hT,hy⟩:=y
   have hst:=hs i z acc H' H2 (hy xs hq) p sm
   have eN:∀ ac H5,((∃ u1 v1,some (V.int (i:Nat))::some z::capV caps σ=u1::v1::capV caps σ)∧Pv (i+1) ac H5)=Pv (i+1) ac H5:=fun ac H5=>propext ⟨And.right,fun p=>⟨⟨_,_,rfl⟩,p⟩⟩
   refine ⟨q,[.int (i:Nat),z],rfl,SqT.of hT,rfl,.int (i:Nat),[z],rfl,z,[],rfl,rfl,?_⟩
   show tt (some (.int (i:Nat))::some z::capV caps σ) _ fun b H4=>if b=true then te (some (.int (i:Nat))::some z::capV caps σ) H4 fun y H5=>((∃ u1 v1,some (V.int (i:Nat))::some z::capV caps σ=u1::v1::capV caps σ)∧Pv (i+1) (acc++[y]) H5) else ((∃ u1 v1,some (V.int (i:Nat))::some z::capV caps σ=u1::v1::capV caps σ)∧Pv (i+1) acc H4)
   simp only [eN]
   exact hst
 · have e:i=xs.length:=by omega
   subst e
   exact .inl ⟨⟨xs,hq,Nat.le_refl _⟩,New.to (hd acc H' p)⟩
end
inductive PrK (H:Hp):List V→List (Key×V)→Prop
 | nil:PrK H [] []
 | cons {p:Addr}{k:Key}{v:V}{vs:List V}{kvs:List (Key×V)}:H p=some (.tup [kV k,v])→PrK H vs kvs→PrK H (.ref p::vs) ((k,v)::kvs)
theorem PrK.snoc {H:Hp}{vs:List V}{kvs:List (Key×V)}{p:Addr}{k:Key}{v:V}(h:PrK H vs kvs) (e:H p=some (.tup [kV k,v])):PrK H (vs++[.ref p]) (kvs++[(k,v)]):=by
 induction h with
 | nil=>exact .cons e .nil
 | cons e' _ ih=>exact .cons e' ih
def bg6 (K:PySem.W.Frag):List V→Hp→VK→Prop:=fun xs H Q=>∃ l vs kvs,xs=[.ref l]∧SqL K H l vs∧PrK H vs kvs∧New H (.dK (a63 [] kvs)) Q
section
variable {X:Cx}
theorem PrK.at_ {pins:List (Addr×Obj)}{σ:St} {H:Hp}{s:Shared}(I:Inv X pins σ H s):∀ {vs:List V}{kvs:List (Key×V)}{us:List Value},PrK H vs kvs→Vals vs us →
 ∃ ps:List (Key×Value),KV kvs ps∧ps.length=us.length∧∀ (j:Nat) (x:Value),us[j]?=some x→∃ T k key v,x=.ref T∧T∉([]:List Addr)∧s.heap.IsTuple T #[key,v]∧(a45 X.prog X.w).is k key=true∧ps[j]?=some (k,v)
 | _,_,_,.nil,r=>by
   cases r
   exact ⟨[],.nil,rfl,fun j x e=>by simp at e⟩
 | _,_,_,.cons (p:=p) (k:=k) (v:=v) e h,r=>by
   cases r with
   | cons r1 r2 =>
     cases r1
     obtain ⟨ps,h1,h2,h3⟩:=PrK.at_ I h r2
     obtain ⟨its,q1,q2,_⟩:=I.tuple (SqT.of e)
     obtain ⟨u1,u2,rfl,ra,rb⟩:=br5 q1
     refine ⟨(k,u2)::ps,.cons ⟨rfl,rb⟩ h1,by simp [h2],fun j x ej=>?_⟩
     cases j with
     | zero =>
       simp at ej
       subst ej
       exact ⟨p,k,u1,u2,rfl,by simp,q2,at7 ra,rfl⟩
     | succ j=>exact h3 j x (by simpa using ej)
theorem bc1 (K:PySem.W.Frag) (hh:X.calm=true:=by rfl) (hK:X.K=K:=by rfl):CallR X (.type "dict") (bg6 K):=by
 subst hK
 intro pins s σ H xs us Q I r h
 obtain ⟨l,vs,kvs,rfl,hq,hp,q⟩:=h
 obtain ⟨u,rfl,ru⟩:=b26 r
 cases ru
 obtain ⟨its,rv,⟨o,n,e1,e2,e3,e4⟩,hz⟩:=I.list hq
 obtain ⟨ps,k1,k2,k3⟩:=PrK.at_ I hp rv
 have hl:=rv.length
 refine ai6 (knd:=a45 X.prog X.w) e1 e2 e3 e4 (I.ok.hd hh) ⟨by simpa using k2,fun j x e=>k3 j x (by simpa using e)⟩ (by simpa using hl ▸ hz) fun h' tk hd kk=>?_
 have hz2:(a63 [] kvs).length≤sizeLine:=by
  have h1:=a93 kvs []
  have h2:kvs.length=ps.length:=k1.length
  simp only [List.length_nil] at h1
  omega
 refine ⟨.ref s.heap.objs.size,upd H s.heap.objs.size (.dK (a63 [] kvs)),I.laid (t':=tk) kk (Nat.le_refl _) (b45 hz2 (beq_eq_false_iff_ne.mpr (Ne.symm (Nat.ne_of_lt I.big))) (k1.merge .nil) hd),rfl,New.to q _ (I.hok.fresh (Nat.le_refl _))⟩
theorem bl9 {K:PySem.W.Frag}{H:Hp}{Q:VK}{l:Addr}{vs:List V}{kvs:List (Key×V)}(h1:SqL K H l vs) (h2:PrK H vs kvs) (h:New H (.dK (a63 [] kvs)) Q):bg6 K [.ref l] H Q:=⟨l,vs,kvs,rfl,h1,h2,h⟩
def bx1:R2:=fun x y H Q=>y=.non∧Q (.bl (!decide (x=.non))) H
theorem bc2:OpR X (compareOp .IsNot) bx1:=bj2
theorem bx2 {x:V}{H:Hp}{Q:VK}(h:Q (.bl (!decide (x=.non))) H):bx1 x .non H Q:=⟨rfl,h⟩
theorem an0 (x:Int):∀ ns:List Int,inV (.int x) (ns.map V.int)=decide (x∈ns)
 | []=>rfl
 | n::ns=>by
   have h:=an0 x ns
   unfold inV at h ⊢
   rw [List.map_cons,List.any_cons,h]
   show ((n == x) || _)=_
   rw [Bool.eq_iff_iff]
   simp
   constructor
   · rintro (rfl | h)
     · exact .inl rfl
     · exact .inr h
   · rintro (rfl | h)
     · exact .inl rfl
     · exact .inr h
theorem ar1 (ns:List Int):(ns.map V.int).all ae1=true:=by simp [ae1]
theorem c60 {K:PySem.W.Frag}{H:Hp}{Q:VK}{p:Addr}{x:Int}{ns:List Int}(h1:SqL K H p (ns.map V.int)) (h:Q (.bl (decide (x∈ns))) H):rIn K false (.int x) (.ref p) H Q:=⟨p,_,rfl,.inl h1,rfl,ar1 ns,by rw [an0]; exact h⟩
theorem bc3 {K:PySem.W.Frag}{H:Hp}{Q:VK}{p:Addr}{x:Int}{ns:List Int}(h1:SqL K H p (ns.map V.int)) (h:Q (.bl (!decide (x∈ns))) H):rIn K true (.int x) (.ref p) H Q:=⟨p,_,rfl,.inl h1,rfl,ar1 ns,by rw [an0]; exact h⟩
theorem bx3 {to ti:TE}{t:TSet}{v:V}{σ:St} {H:Hp}{Q:St→Hp→Prop}(h:to σ H fun o H1=>ti σ H1 fun i H2=>t o i v H2 fun H3=>Q σ H3):gSub to ti t v σ H Q:=h
theorem al6 {H:Hp}{Q:Hp→Prop}{p:Addr}{xs:List V}{k:Int}{j:Nat}{v:V}(h1:H p=some (.lst xs)) (h2:ixN xs.length k=some j) (h:Q (upd H p (.lst (xs.set j v)))):bs3 (.ref p) (.int k) v H Q:=⟨p,xs,k,j,rfl,rfl,h1,h2,h⟩
def bm0 (t u:TS):TS:=fun D σ H=>∃ R:St→Hp→Prop,t { D with nx:=R } σ H∧∀ σ' H',R σ' H'→u D σ' H'
theorem a30 {st:Stmt}{rest:List Stmt}{t u:TS}(h1:PS X st t) (h2:PSs X rest u):PSs X (st::rest) (bm0 t u):=by
 intro pins s σ H D I h
 obtain ⟨R,ha,hb⟩:=h
 refine wpAny_execs_cons (thn (h1 pins s σ H _ I ha) fun f s1 q=>?_)
 cases f with
 | next=>obtain ⟨σ1,H1,I1,q1⟩:=q; exact h2 pins s1 σ1 H1 D I1 (hb σ1 H1 q1)
 | brk=>exact q
 | cont=>exact q
 | ret v=>exact q
theorem a64 {t u:TS}{nn bb cc:St→Hp→Prop}{rr:VK}{σ:St} {H:Hp}(R:St→Hp→Prop) (h1:t ⟨R,rr,bb,cc⟩ σ H) (h2:∀ σ' H',R σ' H'→u ⟨nn,rr,bb,cc⟩ σ' H'):bm0 t u ⟨nn,rr,bb,cc⟩ σ H:=⟨R,h1,h2⟩
def bx4 (t:TT):TT:=t
theorem au5 {e:Expr}{t:TT}(h:PT X e t):PT X e (bx4 t):=h
theorem b60 {t:TT}{σ:St} {H:Hp}{QT:Bool→Hp→Prop}(c:Prop) [Decidable c] (h:∀ R:Bool→Hp→Prop,R (decide c) H→t σ H R) (h2:QT (decide c) H):bx4 t σ H QT:=h QT h2
theorem rF {R:Bool→Hp→Prop}{H:Hp}{c:Prop} [Decidable c] (h:R (decide c) H) (hc:¬ c):R false H:=by rw [decide_eq_false hc] at h; exact h
theorem bm1 {c:TT}{tb:TS}{nn bb cc:St→Hp→Prop}{rr:VK}{σ:St} {H:Hp}(W:Nat→St→Hp→Prop) (m:Nat) (h0:W m σ H)
 (hs:∀ m σ H,W m σ H→c σ H fun b H1=>if b=true then ∃ N:St→Hp→Prop,(∀ σ' H',N σ' H'→∃ m',m'<m∧W m' σ' H')∧tb ⟨N,rr,nn,N⟩ σ H1 else nn σ H1):bf3 c tb ⟨nn,rr,bb,cc⟩ σ H:=⟨W,⟨m,h0⟩,hs⟩
end
end L2
namespace L2
open PySem
section
variable {H:Hp}{x:Tr}{xs:List Tr}{v:V}{vs ws:List V}
theorem ats_nil0:Tr.Ats H [] vs []↔vs=[]:=by simp [Tr.Ats]
theorem ats_cons0:Tr.Ats H (x::xs) vs []↔∃ v ws,vs=v::ws∧x.At H v []∧Tr.Ats H xs ws []:=by
 simp only [Tr.Ats]
 constructor
 · rintro ⟨v,ws,f,g,h1,h2,h3,h4⟩
   obtain ⟨rfl,rfl⟩:=List.append_eq_nil_iff.mp h2.symm
   exact ⟨v,ws,h1,h3,h4⟩
 · rintro ⟨v,ws,h1,h3,h4⟩
   exact ⟨v,ws,[],[],h1,rfl,h3,h4⟩
theorem at_tup0:(Tr.tup xs).At H v []↔∃ a vs,v=.ref a∧H a=some (.tup vs)∧Tr.Ats H xs vs []:=by simp only [Tr.At]
theorem at_int0 {i:Int}:(Tr.int i).At H v []↔v=.int i:=by simp [Tr.At]
theorem at_str0 {i:Str}:(Tr.str i).At H v []↔v=.str i:=by simp [Tr.At]
end
section
variable {H:Hp}{v:V}{a:Addr}
theorem bm2 {x:Tr}{u:V}(e:H a=some (.tup [u])) (h:x.At H u []):(Tr.tup [x]).At H (.ref a) []:=at_tup0.mpr ⟨a,_,rfl,e,ats_cons0.mpr ⟨_,_,rfl,h,ats_nil0.mpr rfl⟩⟩
theorem au6 {x y:Tr}{u v:V}(e:H a=some (.tup [u,v])) (h:x.At H u []) (h2:y.At H v []):(Tr.tup [x,y]).At H (.ref a) []:=at_tup0.mpr ⟨a,_,rfl,e,ats_cons0.mpr ⟨_,_,rfl,h,ats_cons0.mpr ⟨_,_,rfl,h2,ats_nil0.mpr rfl⟩⟩⟩
theorem bg7 {i:Int}:(Tr.int i).At H (.int i) []:=at_int0.mpr rfl
theorem ag0 {i:Str}:(Tr.str i).At H (.str i) []:=at_str0.mpr rfl
end
def a55 (l:List Nat):List V:=l.map fun k=>V.int (k:Nat)
theorem a70 (l:List Nat):(a55 l).length=l.length:=by simp [a55]
theorem ac2 (l:List Nat) (k:Nat):a55 l++[V.int (k:Nat)]=a55 (l++[k]):=by simp [a55]
theorem au7 (l:List (Key×V)) (p:Key×V):a63 [] (l++[p])=putK (a63 [] l) p.1 p.2:=by
 unfold a63
 rw [List.foldl_append]
 rfl
end L2
namespace L2
open PySem PySem.Spec PyProof.Rows
def bg8:TE:=fun _ H Q=>New H (.dK []) Q
theorem bc4 {X:Cx}{pos:Pos}:PE X (.Dict [] [] pos) bg8:=fun pins s σ H Q I h=>bb4 pins s σ H Q I (New.to h)
section
variable {σ:St} {H:Hp}{Q:VK}{QT:Bool→Hp→Prop}{td ty tv te:TE}{nn bb cc:St→Hp→Prop}{rr:VK}
theorem bx5 (h:New H (.dK []) Q):bg8 σ H Q:=h
theorem i_tB (h:te σ H fun x H1=>∃ c,x=.bl c∧QT c H1):tB te σ H QT:=h
theorem c61 (h:ty σ H fun y H1=>td σ H1 fun x H2=>∃ a o,x=.ref a∧DGet H2 a y o∧Q (.bl o.isSome) H2):tDIn ty td σ H Q:=h
theorem bc5 (h:ty σ H fun y H1=>td σ H1 fun x H2=>∃ a o,x=.ref a∧DGet H2 a y o∧Q (.bl (!o.isSome)) H2):b47 ty td σ H Q:=h
theorem bx6 (h:tv σ H fun v H1=>td σ H1 fun x H2=>ty σ H2 fun y H3=>∃ a H4,x=.ref a∧DPut H3 a y v H4∧nn σ H4):bt4 td ty tv ⟨nn,rr,bb,cc⟩ σ H:=h
end
theorem ar2 {H:Hp}:∀ {e:Ex}{v:V},e.tr.At H v []→e.At H v
 | .num i,v,h=>by
   obtain ⟨a,vs,rfl,e,h⟩:=at_tup0.mp h
   obtain ⟨v1,w1,rfl,h1,h⟩:=ats_cons0.mp h
   obtain ⟨v2,w2,rfl,h2,h⟩:=ats_cons0.mp h
   obtain rfl:=ats_nil0.mp h
   obtain rfl:=at_str0.mp h1
   obtain rfl:=at_int0.mp h2
   exact ⟨a,rfl,e⟩
 | .box i,v,h=>by
   obtain ⟨a,vs,rfl,e,h⟩:=at_tup0.mp h
   obtain ⟨v1,w1,rfl,h1,h⟩:=ats_cons0.mp h
   obtain ⟨v2,w2,rfl,h2,h⟩:=ats_cons0.mp h
   obtain rfl:=ats_nil0.mp h
   obtain rfl:=at_str0.mp h1
   obtain rfl:=at_str0.mp h2
   exact ⟨a,rfl,e⟩
 | .two k x y,v,h=>by
   obtain ⟨a,vs,rfl,e,h⟩:=at_tup0.mp h
   obtain ⟨v1,w1,rfl,h1,h⟩:=ats_cons0.mp h
   obtain ⟨v2,w2,rfl,h2,h⟩:=ats_cons0.mp h
   obtain ⟨v3,w3,rfl,h3,h⟩:=ats_cons0.mp h
   obtain rfl:=ats_nil0.mp h
   obtain rfl:=at_str0.mp h1
   exact ⟨a,v2,v3,rfl,e,ar2 h2,ar2 h3⟩
theorem ax1 {H:Hp}:∀ {c:Cd}{v:V},c.tr.At H v []→c.At H v
 | .cmp k x y,v,h=>by
   obtain ⟨a,vs,rfl,e,h⟩:=at_tup0.mp h
   obtain ⟨v1,w1,rfl,h1,h⟩:=ats_cons0.mp h
   obtain ⟨v2,w2,rfl,h2,h⟩:=ats_cons0.mp h
   obtain ⟨v3,w3,rfl,h3,h⟩:=ats_cons0.mp h
   obtain rfl:=ats_nil0.mp h
   obtain rfl:=at_str0.mp h1
   exact ⟨a,v2,v3,rfl,e,ar2 h2,ar2 h3⟩
 | .nt c,v,h=>by
   obtain ⟨a,vs,rfl,e,h⟩:=at_tup0.mp h
   obtain ⟨v1,w1,rfl,h1,h⟩:=ats_cons0.mp h
   obtain ⟨v2,w2,rfl,h2,h⟩:=ats_cons0.mp h
   obtain rfl:=ats_nil0.mp h
   obtain rfl:=at_str0.mp h1
   exact ⟨a,v2,rfl,e,ax1 h2⟩
 | .both x y,v,h=>by
   obtain ⟨a,vs,rfl,e,h⟩:=at_tup0.mp h
   obtain ⟨v1,w1,rfl,h1,h⟩:=ats_cons0.mp h
   obtain ⟨v2,w2,rfl,h2,h⟩:=ats_cons0.mp h
   obtain ⟨v3,w3,rfl,h3,h⟩:=ats_cons0.mp h
   obtain rfl:=ats_nil0.mp h
   obtain rfl:=at_str0.mp h1
   exact ⟨a,v2,v3,rfl,e,ax1 h2,ax1 h3⟩
end L2
namespace L2
end L2
namespace L2
open PySem PySem.Spec PyProof.Rows
section
variable {X:Cx}{σ:St} {H:Hp}{Q:VK}{QT:Bool→Hp→Prop}{td ty tv te:TE}{nn bb cc:St→Hp→Prop}{rr:VK}
end
section
variable {X:Cx}{elts:List Expr}{x1:Nat}{tpos:Pos}
end
end L2
namespace L2
open PySem
end L2
namespace L2
open PySem PySem.Spec PyProof.Rows
def bx7:R2:=fun x y H Q=>∃ t fs gs,(Tr.lst t).At H x fs∧(Tr.lst t).At H y gs∧Tr.hs t≤60∧Q (.bl false) H
theorem bc6 {X:Cx}(hu:X.A.units+64<cLine):OpR X (compareOp .NotEq) bx7:=by
 intro pins s σ H x y v u Q I rx ry h
 obtain ⟨t,fs,gs,h1,h2,hh,q⟩:=h
 simp only [Tr.At] at h1 h2
 obtain ⟨a,vs,_,rfl,e1,c1,_⟩:=h1
 obtain ⟨b,ws,_,rfl,e2,c2,_⟩:=h2
 cases rx
 cases ry
 obtain ⟨is1,q1,p1,_⟩:=I.list (SqL.of e1)
 obtain ⟨is2,q2,p2,_⟩:=I.list (SqL.of e2)
 have hl:is1.length=is2.length:=by rw [← q1.length,←q2.length,c1.len,c2.len]
 have:=SeqAt.RcNeAt.lists (A:=X.A) (s:=s) (e:=fun _=>true) p1.isList p2.isList (by simpa using hl) (by omega) (fun j h1 h2=>by
  have:=Tr.eqAts I (A:=X.A.in1) c1 c2 q1 q2 (by rw [a61]; omega) j (by simpa using h1) (by simpa using h2)
  simpa using this) X.prog X.w X.xe (EP X pins σ Q)
 refine this ⟨.bl false,H,I,?_,q⟩
 rw [show ((List.range is1.toArray.size).all fun _=>true)=true by simp]
 rfl
theorem bx8 {H:Hp}{Q:VK}{x y:V}{t:List Tr}{fs gs:List Addr}(h1:(Tr.lst t).At H x fs) (h2:(Tr.lst t).At H y gs) (hh:Tr.hs t≤60) (h:Q (.bl false) H):bx7 x y H Q:=⟨t,fs,gs,h1,h2,hh,h⟩
noncomputable instance trDec:DecidableEq Tr:=fun _ _=>Classical.propDecidable _
def b61 (z:Int) (u:Value):Prop:=(∃ t,u=.int z t)∨∃ b:Bool,u=.bool b∧z=(if b=true then 1 else 0)
mutual
def Tr.In (h:Heap):Tr→Value→Prop
 | .non,u=>u=.none
 | .int z,u=>b61 z u
 | .str x,u=>∃ t,u=.str x t
 | .tup ts,u=>∃ a us,u=.ref a∧h.IsTuple a us∧Tr.Ins h ts us.toList
 | .lst _,_=>False
def Tr.Ins (h:Heap):List Tr→List Value→Prop
 | [],us=>us=[]
 | t::ts,us=>∃ u r,us=u::r∧Tr.In h t u∧Tr.Ins h ts r
end
theorem Tr.Ins.len {h:Heap}:∀ {ts:List Tr}{us:List Value},Tr.Ins h ts us→us.length=ts.length
 | [],us,e=>by simp only [Tr.Ins] at e; rw [e]; rfl
 | t::ts,us,e=>by
   simp only [Tr.Ins] at e
   obtain ⟨u,r,rfl,_,e⟩:=e
   simp [e.len]
theorem Tr.Ins.get {h:Heap}:∀ {ts:List Tr}{us:List Value},Tr.Ins h ts us→∀ (j:Nat) (h1:j<us.length) (h2:j<ts.length),Tr.In h ts[j] us[j]
 | [],us,e,j,h1,h2=>absurd h2 (Nat.not_lt_zero _)
 | t::ts,us,e,j,h1,h2=>by
   simp only [Tr.Ins] at e
   obtain ⟨u,r,rfl,e1,e⟩:=e
   cases j with
   | zero=>exact e1
   | succ j=>exact e.get j (by simpa using h1) (by simpa using h2)
theorem au8 {h:Heap}{a:Addr}{us vs:Array Value}(x:h.IsTuple a us) (y:h.IsTuple a vs):us=vs:=by
 obtain ⟨o,e,_,n,d⟩:=x
 obtain ⟨o',e',_,n',d'⟩:=y
 rw [e] at e'; cases e'
 rw [d] at d'
 injection d' with d1 _
mutual
theorem Tr.In.inj {h:Heap}:∀ {t r:Tr}{u:Value},Tr.In h t u→Tr.In h r u→t=r
 | .non,r,u,e,f=>by
   simp only [Tr.In] at e
   subst e
   cases r <;> simp [Tr.In,b61] at f ⊢
 | .int z,r,u,e,f=>by
   simp only [Tr.In] at e
   rcases e with ⟨t,rfl⟩ | ⟨b,rfl,rfl⟩
   · cases r <;> simp [Tr.In,b61] at f ⊢
     exact f
   · cases r <;> simp [Tr.In,b61] at f ⊢
     exact f.symm
 | .str x,r,u,e,f=>by
   simp only [Tr.In] at e
   obtain ⟨t,rfl⟩:=e
   cases r <;> simp [Tr.In,b61] at f ⊢
   exact f
 | .lst _,r,u,e,f=>e.elim
 | .tup ts,.tup rs,u,e,f=>by
   simp only [Tr.In] at e f
   obtain ⟨a,us,rfl,e2,e3⟩:=e
   obtain ⟨b,vs,hb,f2,f3⟩:=f
   cases hb
   cases au8 e2 f2
   rw [Tr.Ins.inj e3 f3]
 | .tup ts,.non,u,e,f=>by
   simp only [Tr.In] at e f
   obtain ⟨a,us,rfl,e2,e3⟩:=e
   cases f
 | .tup ts,.int _,u,e,f=>by
   simp only [Tr.In] at e f
   obtain ⟨a,us,rfl,e2,e3⟩:=e
   rcases f with ⟨_,f⟩ | ⟨_,f,_⟩ <;> cases f
 | .tup ts,.str _,u,e,f=>by
   simp only [Tr.In] at e f
   obtain ⟨a,us,rfl,e2,e3⟩:=e
   obtain ⟨_,f⟩:=f
   cases f
 | .tup ts,.lst _,u,e,f=>f.elim
theorem Tr.Ins.inj {h:Heap}:∀ {ts rs:List Tr}{us:List Value},Tr.Ins h ts us→Tr.Ins h rs us→ts=rs
 | [],rs,us,e,f=>by
   simp only [Tr.Ins] at e
   subst e
   cases rs with
   | nil=>rfl
   | cons r rs=>simp [Tr.Ins] at f
 | t::ts,rs,us,e,f=>by
   simp only [Tr.Ins] at e
   obtain ⟨u,r,rfl,e1,e2⟩:=e
   cases rs with
   | nil=>simp [Tr.Ins] at f
   | cons q qs =>
     simp only [Tr.Ins] at f
     obtain ⟨u',r',hh,f1,f2⟩:=f
     cases hh
     rw [e1.inj f1,Tr.Ins.inj e2 f2]
end
theorem b62 {H:Hp}{ts:List Tr}{v:V}{h:(Tr.lst ts).At H v []}:False:=by
 simp only [Tr.At] at h
 obtain ⟨a,vs,_,rfl,e1,c1,e⟩:=h
 simp at e
section
variable {X:Cx}{pins:List (Addr×Obj)}{σ:St} {H:Hp}{s:Shared}
end
theorem b63 {n:Nat}{e:Nat→Bool}:(List.range n).all e=true↔∀ j,j<n→e j=true:=by simp [List.all_eq_true]
theorem bg9 {ts rs:List Tr}:((List.range (min ts.length rs.length)).all (fun j=>decide (ts.getD j .non=rs.getD j .non)) && ts.length == rs.length)=decide (ts=rs):=by
 rw [Bool.eq_iff_iff,Bool.and_eq_true,b63,decide_eq_true_iff,beq_iff_eq]
 constructor
 · rintro ⟨h1,h2⟩
   refine List.ext_getElem h2 fun j h3 h4=>?_
   have:=of_decide_eq_true (h1 j (by omega))
   simpa [h3,h4] using this
 · rintro rfl
   exact ⟨fun j _=>decide_eq_true rfl,rfl⟩
section
variable {s:Shared}
mutual
theorem Tr.In.eqAt:∀ {t r:Tr}{A:Around}{u z:Value},Tr.In s.heap t u→Tr.In s.heap r z→A.units+t.h+r.h<cLine→SeqAt.EqAt A s u z (decide (t=r))
 | .non,r,A,u,z,h1,h2,hu=>by
   simp only [Tr.In] at h1
   subst h1
   cases r with
   | non =>
     simp only [Tr.In] at h2
     subst h2
     rw [decide_eq_true rfl]
     exact SeqAt.EqAt.same _
   | int i =>
     rw [decide_eq_false (by simp)]
     rcases h2 with ⟨t2,rfl⟩ | ⟨b2,rfl,rfl⟩
     · exact SeqAt.EqAt.none_int _ _
     · exact SeqAt.EqAt.none_bool _
   | str i =>
     obtain ⟨t2,rfl⟩:=h2
     rw [decide_eq_false (by simp)]
     exact SeqAt.EqAt.none_str _ _
   | tup rs =>
     simp only [Tr.In] at h2
     obtain ⟨a,us,rfl,p,_⟩:=h2
     rw [decide_eq_false (by simp)]
     exact SeqAt.EqAt.none_tuple p (by omega)
   | lst rs=>exact h2.elim
 | .int i,r,A,u,z,h1,h2,hu=>by
   cases r with
   | non =>
     simp only [Tr.In] at h2
     subst h2
     rw [decide_eq_false (by simp)]
     rcases h1 with ⟨t1,rfl⟩ | ⟨b1,rfl,rfl⟩
     · exact SeqAt.EqAt.int_none _ _
     · exact SeqAt.EqAt.bool_none _
   | int j =>
     rw [show decide (Tr.int i=Tr.int j)=(i == j) from Bool.eq_iff_iff.mpr (by simp)]
     rcases h1 with ⟨t1,rfl⟩ | ⟨b1,rfl,rfl⟩
     · rcases h2 with ⟨t2,rfl⟩ | ⟨b2,rfl,rfl⟩
       · exact SeqAt.EqAt.int_int _ _ _ _
       · exact SeqAt.EqAt.int_bool _ _ _
     · rcases h2 with ⟨t2,rfl⟩ | ⟨b2,rfl,rfl⟩
       · exact SeqAt.EqAt.bool_int _ _ _
       · have:=SeqAt.EqAt.bool_bool (A:=A) (s:=s) b1 b2
         cases b1 <;> cases b2 <;> exact this
   | str j =>
     obtain ⟨t2,rfl⟩:=h2
     rw [decide_eq_false (by simp)]
     rcases h1 with ⟨t1,rfl⟩ | ⟨b1,rfl,rfl⟩
     · exact SeqAt.EqAt.int_str _ _ _ _
     · exact SeqAt.EqAt.bool_str _ _ _
   | tup rs =>
     simp only [Tr.In] at h2
     obtain ⟨a,us,rfl,p,_⟩:=h2
     rw [decide_eq_false (by simp)]
     rcases h1 with ⟨t1,rfl⟩ | ⟨b1,rfl,rfl⟩
     · exact SeqAt.EqAt.int_tuple _ _ p (by omega)
     · exact SeqAt.EqAt.bool_tuple _ p (by omega)
   | lst rs=>exact h2.elim
 | .str i,r,A,u,z,h1,h2,hu=>by
   obtain ⟨t1,rfl⟩:=h1
   cases r with
   | non =>
     simp only [Tr.In] at h2
     subst h2
     rw [decide_eq_false (by simp)]
     exact SeqAt.EqAt.str_none _ _
   | int j =>
     rw [decide_eq_false (by simp)]
     rcases h2 with ⟨t2,rfl⟩ | ⟨b2,rfl,rfl⟩
     · exact SeqAt.EqAt.str_int _ _ _ _
     · exact SeqAt.EqAt.str_bool _ _ _
   | str j =>
     obtain ⟨t2,rfl⟩:=h2
     have:=SeqAt.EqAt.str_str (A:=A) (s:=s) i t1 j t2
     rw [show (i == j)=decide (Tr.str i=Tr.str j) from Bool.eq_iff_iff.mpr (by simp)] at this
     exact this
   | tup rs =>
     simp only [Tr.In] at h2
     obtain ⟨a,us,rfl,p,_⟩:=h2
     rw [decide_eq_false (by simp)]
     exact SeqAt.EqAt.str_tuple _ _ p (by omega)
   | lst rs=>exact h2.elim
 | .lst _,r,A,u,z,h1,h2,hu=>h1.elim
 | .tup ts,r,A,u,z,h1,h2,hu=>by
   have h1':=h1
   simp only [Tr.In] at h1
   obtain ⟨a,us,rfl,p1,c1⟩:=h1
   cases r with
   | non =>
     simp only [Tr.In] at h2
     subst h2
     rw [decide_eq_false (by simp)]
     exact SeqAt.EqAt.tuple_none p1 (by omega)
   | int j =>
     rw [decide_eq_false (by simp)]
     rcases h2 with ⟨t2,rfl⟩ | ⟨b2,rfl,rfl⟩
     · exact SeqAt.EqAt.tuple_int _ _ p1 (by omega)
     · exact SeqAt.EqAt.tuple_bool _ p1 (by omega)
   | str j =>
     obtain ⟨t2,rfl⟩:=h2
     rw [decide_eq_false (by simp)]
     exact SeqAt.EqAt.tuple_str _ _ p1 (by omega)
   | lst rs=>exact h2.elim
   | tup rs =>
     have h2':=h2
     simp only [Tr.In] at h2
     obtain ⟨b,vs,rfl,p2,c2⟩:=h2
     by_cases hab:a=b
     · subst hab
       rw [decide_eq_true (h1'.inj h2')]
       exact SeqAt.EqAt.same _
     refine SeqAt.EqAt.of_refs hab ?_
     simp only [Tr.h] at hu
     have l1:=c1.len
     have l2:=c2.len
     simp only [Array.length_toList] at l1 l2
     have:=SeqAt.RcAt.tuples (A:=A) (s:=s) (e:=fun j=>decide (ts.getD j .non=rs.getD j .non)) p1 p2 (by omega) (fun j h1 h2=>by
      have:=Tr.Ins.eqAts (A:=A.in1) c1 c2 (by rw [a61]; omega) j (by simpa using h1) (by simpa using h2)
      simpa using this)
     rw [l1,l2,bg9] at this
     rw [show decide (Tr.tup ts=Tr.tup rs)=decide (ts=rs) from Bool.eq_iff_iff.mpr (by simp)]
     exact this
theorem Tr.Ins.eqAts:∀ {ts rs:List Tr}{A:Around}{us zs:List Value},Tr.Ins s.heap ts us→Tr.Ins s.heap rs zs→A.units+Tr.hs ts+Tr.hs rs<cLine →
 ∀ (j:Nat) (h1:j<us.length) (h2:j<zs.length),SeqAt.EqAt A s us[j] zs[j] (decide (ts.getD j .non=rs.getD j .non))
 | [],rs,A,us,zs,c1,c2,hu,j,h1,h2=>by
   simp only [Tr.Ins] at c1
   subst c1
   exact absurd h1 (by simp)
 | t::ts,[],A,us,zs,c1,c2,hu,j,h1,h2=>by
   simp only [Tr.Ins] at c2
   subst c2
   exact absurd h2 (by simp)
 | t::ts,r::rs,A,us,zs,c1,c2,hu,j,h1,h2=>by
   simp only [Tr.Ins] at c1 c2
   obtain ⟨u,us,rfl,a1,b1⟩:=c1
   obtain ⟨z,zs,rfl,a2,b2⟩:=c2
   simp only [Tr.hs] at hu
   cases j with
   | zero =>
     have:=a1.eqAt a2 (A:=A) (by omega)
     simpa using this
   | succ j =>
     have:=b1.eqAts b2 (A:=A) (by omega) j (by simpa using h1) (by simpa using h2)
     simpa using this
end
end
section
variable {prog:Program}{w:World}{E:Value→Shared→Prop}
end
section
variable {prog:Program}{w:World}{E:Value→Shared→Prop}
end
section
variable {prog:Program}{w:World}{E:Value→Shared→Prop}{A:Around}{s:Shared}{d:Addr}{o:Obj}{es:Array DictEntry}{ep:Nat}{ts:List Tr}{t:Tr}{u:Value}
end
section
variable {X:Cx}{pins:List (Addr×Obj)}{σ:St} {H:Hp}{s:Shared}{a:Addr}{t:Tr}{y v:V}{u r:Value}{A:Around}{E:Value→Shared→Prop}{kvs:List (Tr×V)}{m:List (Tr×V×V)}
end
section
variable {prog:Program}{w:World}{A:Around}{E:Value→Shared→Prop}{s:Shared}{d it:Addr}{es:Array DictEntry}{ep i:Nat}
end
section
variable {X:Cx}{pins:List (Addr×Obj)}{σ:St} {H:Hp}{s:Shared}{a:Addr}{t:Tr}{y v z:V}{u r:Value}{A:Around}{E:Value→Shared→Prop}{kvs:List (Tr×V)}{m:List (Tr×V×V)}
end
theorem bm3 {H H':Hp}{t:Tr}{v:V}(h:t.At H v []) (k:Tups H H'):t.At H' v []:=h.mono ⟨k,fun _ m=>absurd m (by simp)⟩
section
variable {X:Cx}{o i e f value:Expr}{pos pos' apos cpos:Pos}{td ty tv tx:TE}{P:Params}
end
section
variable {X:Cx}
theorem bx9 {ts:List Tr}{t:Tr}(h:t∈ts):t.h≤Tr.hs ts:=by
 induction ts with
 | nil=>cases h
 | cons x xs ih =>
   simp only [Tr.hs]
   rcases List.mem_cons.mp h with rfl | h
   · omega
   · have:=ih h; omega
theorem b64 {h:Heap}{ts:List Tr}{us:List Value}(x:Tr.Ins h ts us) {z:Value}(hz:z∈us):∃ t∈ts,Tr.In h t z:=by
 obtain ⟨j,hj,rfl⟩:=List.mem_iff_getElem.mp hz
 have hj':j<ts.length:=by rw [← x.len]; exact hj
 exact ⟨ts[j],List.getElem_mem hj',x.get j hj hj'⟩
end
section
variable {P:Params}{σ:St} {H:Hp}{Q:VK}{td ty tx tv:TE}{nn bb cc:St→Hp→Prop}{rr:VK}
end
def bh0 (K:PySem.W.Frag):R2:=fun x y H Q=>∃ a b xs,x=.ref a∧y=.ref b∧SqL K H a xs∧SqL K H b []∧Q (.bl xs.isEmpty) H
def bh1 (K:PySem.W.Frag):R2:=fun x y H Q=>∃ a b xs,x=.ref a∧y=.ref b∧SqL K H a xs∧SqL K H b []∧Q (.bl (!xs.isEmpty)) H
section
variable {X:Cx}
theorem ar3 (K:PySem.W.Frag) (hu:X.A.units+64<cLine) (hK:X.K=K:=by rfl):OpR X (compareOp .Eq) (bh0 K):=by
 subst hK
 intro pins s σ H x y v u Q I rx ry h
 obtain ⟨a,b,xs,rfl,rfl,h1,h2,q⟩:=h
 cases rx
 cases ry
 obtain ⟨is1,q1,p1,_⟩:=I.list h1
 obtain ⟨is2,q2,p2,_⟩:=I.list h2
 cases q2
 cases q1 with
 | nil =>
   have:=SeqAt.RcAt.lists (A:=X.A) (s:=s) (e:=fun _=>true) p1.isList p2.isList rfl (by omega) (fun j h1 _=>absurd h1 (by simp))
   exact this X.prog X.w X.xe (EP X pins σ Q) ⟨.bl true,H,I,rfl,q⟩
 | cons r1 r2 =>
   have:=SeqAt.RcAt.lists_lengths (A:=X.A) (s:=s) p1.isList p2.isList (by simp) (by omega)
   exact this X.prog X.w X.xe (EP X pins σ Q) ⟨.bl false,H,I,rfl,q⟩
theorem ar4 (K:PySem.W.Frag) (hu:X.A.units+64<cLine) (hK:X.K=K:=by rfl):OpR X (compareOp .NotEq) (bh1 K):=by
 subst hK
 intro pins s σ H x y v u Q I rx ry h
 obtain ⟨a,b,xs,rfl,rfl,h1,h2,q⟩:=h
 cases rx
 cases ry
 obtain ⟨is1,q1,p1,_⟩:=I.list h1
 obtain ⟨is2,q2,p2,_⟩:=I.list h2
 cases q2
 cases q1 with
 | nil =>
   have:=SeqAt.RcNeAt.lists (A:=X.A) (s:=s) (e:=fun _=>true) p1.isList p2.isList rfl (by omega) (fun j h1 _=>absurd h1 (by simp))
   exact this X.prog X.w X.xe (EP X pins σ Q) ⟨.bl false,H,I,rfl,q⟩
 | cons r1 r2 =>
   have:=SeqAt.RcNeAt.lists_lengths (A:=X.A) (s:=s) p1.isList p2.isList (by simp) (by omega)
   exact this X.prog X.w X.xe (EP X pins σ Q) ⟨.bl true,H,I,rfl,q⟩
end
section
variable {K:PySem.W.Frag}{H:Hp}{Q:VK}
theorem b65 {a b:Addr}{xs:List V}(h1:SqL K H a xs) (h2:SqL K H b []) (h:Q (.bl xs.isEmpty) H):bh0 K (.ref a) (.ref b) H Q:=⟨a,b,xs,rfl,rfl,h1,h2,h⟩
theorem b66 {a b:Addr}{xs:List V}(h1:SqL K H a xs) (h2:SqL K H b []) (h:Q (.bl (!xs.isEmpty)) H):bh1 K (.ref a) (.ref b) H Q:=⟨a,b,xs,rfl,rfl,h1,h2,h⟩
end
section
variable {X:Cx}{o e value:Expr}{f:Str}{pos pos':Pos}{ta tv:TE}
theorem au9 (K:PySem.W.Frag) (he:PE X e ta) (hb:attributeBase e f X.env (eval e X.env)=eval e X.env) (hK:X.K=K:=by rfl):PE X (.Attribute e f pos) (tFld K ta f):=hK ▸ br6 he hb
theorem an1 (K:PySem.W.Frag) (ha:PE X o ta) (hv:PE X value tv) (hs:swapsWith value (some (.Attribute o f pos')) pos.line X.env=pure false) (hK:X.K=K:=by rfl):PS X (.Assign [.Attribute o f pos'] value pos) (sFld K ta tv f):=hK ▸ br7 ha hv hs
end
section
variable {K:PySem.W.Frag}{σ:St} {H:Hp}{Q:VK}{ta tv:TE}{t:TA}{f m:Str}{C:Addr}{sp:Sp}{dvs:List V}{E:XK}{nn bb cc:St→Hp→Prop}{rr:VK}
theorem c62 (h:ta σ H fun x H1=>∃ a C dx fs v,x=.ref a∧H1 a=some (.ins C dx fs)∧Cls K C∧NoAttr K C f∧fs.lookup f=some v∧Q v H1):tFld K ta f σ H Q:=h
theorem by0 (h:tv σ H fun y H1=>ta σ H1 fun x H2=>∃ a C dx fs,x=.ref a∧H2 a=some (.ins C dx fs)∧Cls K C∧NoAttr K C f∧fs.length<1000∧nn σ (upd H2 a (.ins C dx (putF f y fs)))):sFld K ta tv f ⟨nn,rr,bb,cc⟩ σ H:=h
theorem by1 (h:ta σ H fun x H1=>∃ a dx fs,x=.ref a∧H1 a=some (.ins C dx fs)∧fs.lookup m=none∧t σ H1 fun vs H2=>sp (x::(vs++dvs)) H2 Q E):br9 C m sp dvs E ta t σ H Q:=h
theorem by2 (h:t σ H fun vs H1=>∀ x dx,H1 x=none→H1 dx=none→dx≠x→sp (.ref x::(vs++dvs)) (upd (upd H1 dx (.own x)) x (.ins C dx [])) (fun v H2=>v=.non∧Q (.ref x) H2) E):bs0 C sp dvs E t σ H Q:=h
end
section
variable {X:Cx}{pins:List (Addr×Obj)}{σ:St} {H:Hp}{s:Shared}
end
section
variable {X:Cx}
end
theorem ax2 {K:PySem.W.Frag}{a:Addr}{xs:List V}{g:TG}{tb:TS}{D:Ends}{σ:St} {H:Hp}(Pv:Nat→St→Hp→Prop) (h0:Pv 0 σ H) (hl:∀ i σ H,i≤xs.length→Pv i σ H→SqL K H a xs)
 (hs:∀ i x σ H q H2,xs[i]?=some x→Pv i σ H→Same H H2→H2 q=some (.tup [.int (i:Nat),x])→g (.ref q) σ H2 fun σ1 H1=>tb { D with nx:=Pv (i+1),ct:=Pv (i+1),bk:=D.nx } σ1 H1)
 (hd:∀ σ H,Pv xs.length σ H→D.nx σ H):bg3 (Ite K a) g tb D σ H:=by
 refine ⟨fun i m σ H=>m=xs.length - i∧i≤xs.length∧Pv i σ H,⟨xs.length,by simp,Nat.zero_le _,h0⟩,?_⟩
 rintro i m σ' H' ⟨rfl,hi,p⟩
 have hq:=hl i σ' H' hi p
 by_cases hlt:i<xs.length
 · refine .inr ⟨⟨xs,xs[i],hq,by simp [hlt]⟩,Pv (i+1),fun σ2 H2 p'=>⟨xs.length - (i+1),by omega,rfl,hlt,p'⟩,fun v H2 y=>?_⟩
   obtain ⟨q,x,rfl,hn,sm,hT,hx⟩:=y
   exact hs i x σ' H' q H2 (hx xs hq) p sm hT
 · have e:i=xs.length:=by omega
   subst e
   exact .inl ⟨⟨xs,hq,Nat.le_refl _⟩,hd σ' H' p⟩
section
variable {K:PySem.W.Frag}{H:Hp}{Q:VK}
end
section
variable {X:Cx}{tg:Expr}
end
section
variable {σ:St} {H:Hp}{R:It→Hp→Prop}{ts:TA}
end
section
variable {X:Cx}
end
section
variable {K:PySem.W.Frag}{H:Hp}{Q:VK}
end
section
variable {X:Cx}{e st:Expr}{te ts:TE}{p2 pos:Pos}
end
section
variable {prog:Program}{w:World}{z TI TO i1 i2 i3 l1 l2 l3:Addr}{xs ys us:Array Value}{st1 st2 st3:Nat→Heap→Prop}
end
section
variable {X:Cx}{elts:List Expr}{x1:Nat}{tpos:Pos}
end
section
variable {X:Cx}{k v:Expr}{pos:Pos}{tk tv:TE}{P:Params}
end
def Each {α β:Type}(R:α→β→Prop) (vs:List α) (xs:List β):Prop:=vs.length=xs.length∧∀ (j:Nat) (v:α) (x:β),vs[j]?=some v→xs[j]?=some x→R v x
section
variable {α β:Type}{R:α→β→Prop}{vs:List α}{xs:List β}
theorem Each.nil:Each R ([]:List α) ([]:List β):=⟨rfl,fun j v x h=>by simp at h⟩
theorem Each.mono {R':α→β→Prop}(h:Each R vs xs) (k:∀ v x,R v x→R' v x):Each R' vs xs:=⟨h.1,fun j v x h1 h2=>k v x (h.2 j v x h1 h2)⟩
theorem Each.append {ws:List α}{ys:List β}(h:Each R vs xs) (k:Each R ws ys):Each R (vs++ws) (xs++ys):=by
 refine ⟨by simp [h.1,k.1],fun j v x h1 h2=>?_⟩
 by_cases hj:j<vs.length
 · rw [List.getElem?_append_left hj] at h1
   rw [List.getElem?_append_left (by rw [← h.1]; exact hj)] at h2
   exact h.2 j v x h1 h2
 · rw [List.getElem?_append_right (by omega)] at h1
   rw [List.getElem?_append_right (by rw [← h.1]; omega),←h.1] at h2
   exact k.2 _ v x h1 h2
theorem Each.snoc {v:α}{x:β}(h:Each R vs xs) (k:R v x):Each R (vs++[v]) (xs++[x]):=h.append ⟨rfl,fun j w y h1 h2=>by
 cases j with
 | zero=>cases h1; cases h2; exact k
 | succ j=>simp at h1⟩
theorem Each.get {j:Nat}{x:β}(h:Each R vs xs) (k:xs[j]?=some x):∃ v,vs[j]?=some v∧R v x:=by
 have hj:j<vs.length:=by rw [h.1]; exact (List.getElem?_eq_some_iff.mp k).1
 exact ⟨vs[j],List.getElem?_eq_getElem hj,h.2 j _ x (List.getElem?_eq_getElem hj) k⟩
end
abbrev RRow:=List Str×Nat
abbrev c63:=Bool×List RRow
section
variable {f:Nat→Option Nat}{rep rk:Nat→Nat}
end
def hF (d:Addr):List (Str×V):=putF "heads" (.ref d) []
abbrev Pr:=Nat×Nat
section
variable {X:Cx}
end
section
variable {H:Hp}{Q:VK}
end
def TupK (K:PySem.W.Frag) (a:Addr) (xs:List V):Prop:=∃ (o:Obj) (its:Array Value) (n:Nat),K.lookup a=some o∧o.cls=.type "tuple"∧o.data=.seq its n∧its.size≤sizeLine∧Vals xs its.toList
theorem TupK.sq {K:PySem.W.Frag}{a:Addr}{xs:List V}(h:TupK K a xs) (H:Hp):SqT K H a xs:=.inr h
mutual
def Tr.AtK (K:PySem.W.Frag) (H:Hp):Tr→V→Prop
 | .non,v=>v=.non
 | .int i,v=>v=.int i
 | .str s,v=>v=.str s
 | .tup xs,v=>∃ a vs,v=.ref a∧(H a=some (.tup vs)∨TupK K a vs)∧Tr.AtsK K H xs vs
 | .lst _,_=>False
def Tr.AtsK (K:PySem.W.Frag) (H:Hp):List Tr→List V→Prop
 | [],vs=>vs=[]
 | x::xs,vs=>∃ v ws,vs=v::ws∧Tr.AtK K H x v∧Tr.AtsK K H xs ws
end
mutual
theorem Tr.At.toK (K:PySem.W.Frag) {H:Hp}:∀ {x:Tr}{v:V},x.At H v []→x.AtK K H v
 | .non,_,h=>by simp only [Tr.At] at h; simp only [Tr.AtK]; exact h.1
 | .int _,_,h=>by simp only [Tr.At] at h; simp only [Tr.AtK]; exact h.1
 | .str _,_,h=>by simp only [Tr.At] at h; simp only [Tr.AtK]; exact h.1
 | .tup xs,v,h=>by
   simp only [Tr.At] at h
   simp only [Tr.AtK]
   obtain ⟨a,vs,e,g,r⟩:=h
   exact ⟨a,vs,e,.inl g,Tr.Ats.toK K r⟩
 | .lst xs,v,h=>(b62 (h:=h)).elim
theorem Tr.Ats.toK (K:PySem.W.Frag) {H:Hp}:∀ {xs:List Tr}{vs:List V},Tr.Ats H xs vs []→Tr.AtsK K H xs vs
 | [],_,h=>by simp only [Tr.Ats] at h; simp only [Tr.AtsK]; exact h.1
 | x::xs,vs,h=>by
   simp only [Tr.Ats] at h
   simp only [Tr.AtsK]
   obtain ⟨v,ws,f,g,e,e2,a,b⟩:=h
   have hf:f=[]∧g=[]:=by simpa using e2.symm
   obtain ⟨rfl,rfl⟩:=hf
   exact ⟨v,ws,e,Tr.At.toK K a,Tr.Ats.toK K b⟩
end
section
variable {X:Cx}{pins:List (Addr×Obj)}{σ:St} {H:Hp}{s:Shared}
mutual
theorem Tr.AtK.isIn (I:Inv X pins σ H s):∀ {t:Tr}{v:V}{u:Value},t.AtK X.K H v→RelV v u→Tr.In s.heap t u
 | .non,v,u,h,r=>by
   simp only [Tr.AtK] at h
   subst h
   cases r
   exact rfl
 | .int z,v,u,h,r=>by
   simp only [Tr.AtK] at h
   subst h
   obtain ⟨t,rfl⟩:=r
   exact .inl ⟨t,rfl⟩
 | .str z,v,u,h,r=>by
   simp only [Tr.AtK] at h
   subst h
   obtain ⟨t,rfl⟩:=r
   exact ⟨t,rfl⟩
 | .lst _,v,u,h,r=>by simp only [Tr.AtK] at h
 | .tup ts,v,u,h,r=>by
   simp only [Tr.AtK] at h
   obtain ⟨a,vs,rfl,e1,c1⟩:=h
   cases r
   obtain ⟨is1,q1,p1,_⟩:=I.tuple (show SqT X.K H a vs from e1.elim SqT.of (fun z=>z.sq H))
   simp only [Tr.In]
   exact ⟨a,is1.toArray,rfl,p1,by simpa using Tr.AtsK.isIns I c1 q1⟩
theorem Tr.AtsK.isIns (I:Inv X pins σ H s):∀ {ts:List Tr}{vs:List V}{us:List Value},Tr.AtsK X.K H ts vs→Vals vs us→Tr.Ins s.heap ts us
 | [],vs,us,c,q=>by
   simp only [Tr.AtsK] at c
   subst c
   cases q
   exact rfl
 | t::ts,vs,us,c,q=>by
   simp only [Tr.AtsK] at c
   obtain ⟨v,vs,rfl,a1,b1⟩:=c
   cases q with
   | cons r1 r2 =>
     simp only [Tr.Ins]
     exact ⟨_,_,rfl,Tr.AtK.isIn I a1 r1,Tr.AtsK.isIns I b1 r2⟩
end
end
section
variable {X:Cx}{pins:List (Addr×Obj)}{σ:St} {H:Hp}{s:Shared}{a:Addr}{t:Tr}{y v z:V}{u r:Value}{A:Around}{E:Value→Shared→Prop}{kvs:List (Tr×V)}{m:List (Tr×V×V)}
end
section
variable {X:Cx}{o i e f value:Expr}{pos pos' apos cpos:Pos}{td ty tv tx:TE}{P:Params}
end
section
variable {K:PySem.W.Frag}{P:Params}{σ:St} {H:Hp}{Q:VK}{td ty tx tv:TE}
end
section
variable {prog:Program}{w:World}{A:Around}{E:Value→Shared→Prop}{s:Shared}
end
section
variable {X:Cx}{elts:List Expr}{x1:Nat}{tpos:Pos}
end
theorem ab4:∀ {ms:List Addr}{us:List Value},Vals (ms.map V.ref) us→us=ms.map Value.ref
 | [],us,h=>by cases h; rfl
 | m::ms,us,h=>by
   cases h with
   | cons h1 h2 =>
     cases h1
     rw [ab4 h2]
     rfl
theorem Tr.In.rcNeAt {s:Shared}{ts rs:List Tr}{A:Around}{u z:Value}(h1:Tr.In s.heap (.tup ts) u) (h2:Tr.In s.heap (.tup rs) z) (hu:A.units+(Tr.tup ts).h+(Tr.tup rs).h+2<cLine):SeqAt.RcNeAt A s u z (!decide (Tr.tup ts=Tr.tup rs)):=by
 simp only [Tr.In] at h1 h2
 obtain ⟨a,us,rfl,p1,c1⟩:=h1
 obtain ⟨b,vs,rfl,p2,c2⟩:=h2
 simp only [Tr.h] at hu
 have l1:=c1.len
 have l2:=c2.len
 simp only [Array.length_toList] at l1 l2
 have:=SeqAt.RcNeAt.tuples (A:=A) (s:=s) (e:=fun j=>decide (ts.getD j .non=rs.getD j .non)) p1 p2 (by omega) (fun j h1 h2=>by
  have:=Tr.Ins.eqAts (A:=A.in1) c1 c2 (by rw [a61]; omega) j (by simpa using h1) (by simpa using h2)
  simpa using this)
 rw [l1,l2,bg9] at this
 rw [show decide (Tr.tup ts=Tr.tup rs)=decide (ts=rs) from Bool.eq_iff_iff.mpr (by simp)]
 exact this
def by3 (K:PySem.W.Frag):R2:=fun x y H Q=>∃ (ts rs:List Tr),(Tr.tup ts).AtK K H x∧(Tr.tup rs).AtK K H y∧(Tr.tup ts).h≤20∧(Tr.tup rs).h≤20∧Q (.bl (!decide (Tr.tup ts=Tr.tup rs))) H
theorem bc7 {X:Cx}(K:PySem.W.Frag) (hu:X.A.units+64<cLine) (hK:X.K=K:=by rfl):OpR X (compareOp .NotEq) (by3 K):=by
 subst hK
 intro pins s σ H x y v u Q I rx ry h
 obtain ⟨t,r,h1,h2,l1,l2,q⟩:=h
 exact (h1.isIn I rx).rcNeAt (h2.isIn I ry) (A:=X.A) (by omega) X.prog X.w X.xe (EP X pins σ Q) ⟨.bl _,H,I,rfl,q⟩
theorem by4 {K:PySem.W.Frag}{H:Hp}{Q:VK}{x y:V}{ts rs:List Tr}(h1:(Tr.tup ts).AtK K H x) (h2:(Tr.tup rs).AtK K H y) (l1:(Tr.tup ts).h≤20) (l2:(Tr.tup rs).h≤20) (h:Q (.bl (!decide (Tr.tup ts=Tr.tup rs))) H):by3 K x y H Q:=⟨ts,rs,h1,h2,l1,l2,h⟩
def by5:R2:=fun x y H Q=>∃ t fs gs,(Tr.lst t).At H x fs∧(Tr.lst t).At H y gs∧Tr.hs t≤60∧Q (.bl true) H
theorem bc8 {X:Cx}(hu:X.A.units+64<cLine):OpR X (compareOp .Eq) by5:=by
 intro pins s σ H x y v u Q I rx ry h
 obtain ⟨t,fs,gs,h1,h2,hh,q⟩:=h
 simp only [Tr.At] at h1 h2
 obtain ⟨a,vs,_,rfl,e1,c1,_⟩:=h1
 obtain ⟨b,ws,_,rfl,e2,c2,_⟩:=h2
 cases rx
 cases ry
 obtain ⟨is1,q1,p1,_⟩:=I.list (SqL.of e1)
 obtain ⟨is2,q2,p2,_⟩:=I.list (SqL.of e2)
 have hl:is1.length=is2.length:=by rw [← q1.length,←q2.length,c1.len,c2.len]
 have:=SeqAt.RcAt.lists (A:=X.A) (s:=s) (e:=fun _=>true) p1.isList p2.isList (by simpa using hl) (by omega) (fun j h1 h2=>by
  have:=Tr.eqAts I (A:=X.A.in1) c1 c2 q1 q2 (by rw [a61]; omega) j (by simpa using h1) (by simpa using h2)
  simpa using this) X.prog X.w X.xe (EP X pins σ Q)
 refine this ⟨.bl true,H,I,?_,q⟩
 rw [show ((List.range is1.toArray.size).all fun _=>true)=true by simp]
 rfl
theorem by6 {H:Hp}{Q:VK}{x y:V}{t:List Tr}{fs gs:List Addr}(h1:(Tr.lst t).At H x fs) (h2:(Tr.lst t).At H y gs) (hh:Tr.hs t≤60) (h:Q (.bl true) H):by5 x y H Q:=⟨t,fs,gs,h1,h2,hh,h⟩
section
variable {prog:Program}{w:World}{A:Around}{E:Value→Shared→Prop}{s:Shared}{d:Addr}{es:Array DictEntry}{ep:Nat}
end
section
variable {prog:Program}{w:World}{A:Around}{E:Value→Shared→Prop}{s:Shared}{d it:Addr}{es:Array DictEntry}{ep i:Nat}
end
section
variable {X:Cx}{P:Params}{o:Expr}{td:TE}{apos cpos:Pos}
end
section
variable {prog:Program}{w:World}{A:Around}{E:Value→Shared→Prop}{s:Shared}{d v:Addr}{es:Array DictEntry}{ep:Nat}
end
section
variable {X:Cx}{P:Params}
end
open AutoSeq1 (wpAny_loadPart')
section
variable {X:Cx}{elts:List Expr}{x1:Nat}{tpos:Pos}
end
section
variable {prog:Program}{w:World}
variable {A:Around}{E:Value→Shared→Prop}{s:Shared}
end
section
variable {prog:Program}{w:World}{A:Around}{R:Result→Shared→Prop}{I:Addr}{fp wr:List Addr}{G:Array GenState→Array GenState→Prop}{n:Nat}{P:Nat→Value→Prop}{St:Nat→Shared→Prop}
end
section
variable {prog:Program}{w:World}{A:Around}{E:Value→Shared→Prop}{s:Shared}
end
theorem al7 {α:Type}:∀ (xs:List α) (i:Nat) (h:i<xs.length),(xs[i]::xs.eraseIdx i).Perm xs
 | x::xs,0,_=>List.Perm.refl _
 | x::xs,i+1,h=>by
   have h':i<xs.length:=by simpa using h
   exact (List.Perm.swap x xs[i] (xs.eraseIdx i)).trans (List.Perm.cons x (al7 xs i h'))
section
variable {M:Model}{A:Around}{E:Value→Shared→Prop}{s:Shared}
end
section
variable {prog:Program}{w:World}{A:Around}{E:Value→Shared→Prop}{s:Shared}{S it:Addr}{o:Obj}{es:Array (Int×Value)}{ep:Nat}{t:SetTable}
end
section
variable {prog:Program}{w:World}{A:Around}{E:Value→Shared→Prop}{s:Shared}{S it tp:Addr}{o:Obj}{es:Array (Int×Value)}{ep i:Nat}{t:SetTable}{first:Value}
end
section
variable {prog:Program}{w:World}{A:Around}{E:Value→Shared→Prop}{s:Shared}{S it tp:Addr}{o:Obj}{es:Array (Int×Value)}{ep i:Nat}{t:SetTable}{first:Value}
end
section
variable {prog:Program}{w:World}{A:Around}{E:Value→Shared→Prop}{s:Shared}{S it tp:Addr}{o:Obj}{es:Array (Int×Value)}{ep i:Nat}{t:SetTable}{first:Value}
end
section
variable {prog:Program}{w:World}{A:Around}{E:Value→Shared→Prop}{s:Shared}{S:Addr}{es:Array (Int×Value)}
end
section
variable {prog:Program}{w:World}{A:Around}{E:Value→Shared→Prop}{s:Shared}{S:Addr}{es:Array (Int×Value)}
end
section
variable {X:Cx}{P:Program}{w:World}
end
section
variable {X:Cx}
end
section
variable {rs:List c63}{many:Nat}{p:Pr}
variable {N k:Nat}{dv:Pr→Option Nat}
end
section
variable {prog:Program}{w:World}{A:Around}{E:Value→Shared→Prop}{s:Shared}
end
section
variable {X:Cx}{P:Params}
end
section
variable {prog:Program}{w:World}{A:Around}{R:Result→Shared→Prop}{J:Addr}{fp wr:List Addr}{n:Nat}{P:Nat→Value→Prop}{St:Nat→Heap→Prop}
end
section
variable {prog:Program}{w:World}{A:Around}{E:Value→Shared→Prop}{s:Shared}
end
section
variable {X:Cx}{e d:Expr}{t tk:TA}{p kp pos:Pos}
end
section
variable {X:Cx}
end
section
variable {P:Program}{w:World}{K:PySem.W.Frag}{mg:Str→Option Value}{base:Heap}
end
section
variable {σ:St} {H:Hp}{D:Ends}{C:Addr}{E:XK}{t:TA}{n:Nat}{tb:XK→TS}{ts:TS}
end
section
variable {X:Cx}{k k':Nat}{f f' C C':Addr}{fd fd':FuncData}{ps ps':List Str}{sp sp':Sp}{m:Str}{pos apos:Pos}{e o:Expr}{es:List Expr}{ta:TE}{t:TA}
end
section
variable {σ:St} {H:Hp}{Q:VK}{ta:TE}{t:TA}{m:Str}{C1 C2:Addr}{sp1 sp2:Sp}
end
section
variable {X:Cx}{tg:Expr}
end
section
variable {σ:St} {H:Hp}{R:It→Hp→Prop}{ts:TA}
end
end L2
namespace L2
end L2
namespace L2
open PySem PySem.Spec PyProof.Rows
section
variable {prog:Program}{w:World}{z TI TO i1 i2 l1 l2:Addr}{xs ys:Array Value}{st1 st2:Nat→Heap→Prop}
end
section
variable {X:Cx}{elts:List Expr}{x1:Nat}{tpos:Pos}
end
section
variable {prog:Program}{w:World}
variable {A:Around}{E:Value→Shared→Prop}{s:Shared}
end
section
variable {prog:Program}{w:World}{A:Around}{R:Result→Shared→Prop}{I:Addr}{fp wr:List Addr}{G:Array GenState→Array GenState→Prop}{n:Nat}{P:Nat→Value→Prop}{St:Nat→Shared→Prop}
end
section
variable {prog:Program}{w:World}{A:Around}{E:Value→Shared→Prop}{s:Shared}
end
section
variable {prog:Program}{w:World}{A:Around}{E:Value→Shared→Prop}{s:Shared}{S it tp:Addr}{o:Obj}{es:Array (Int×Value)}{ep i:Nat}{t:SetTable}{first:Value}
end
section
variable {prog:Program}{w:World}{A:Around}{E:Value→Shared→Prop}{s:Shared}{S:Addr}{es:Array (Int×Value)}
end
section
variable {prog:Program}{w:World}{A:Around}{E:Value→Shared→Prop}{s:Shared}{S:Addr}{es:Array (Int×Value)}
end
section
variable {X:Cx}{P:Program}{w:World}
end
section
variable {X:Cx}
end
def PAt (H:Hp) (v:V) (p:List Pt):Prop:=(Tr.tup (p.map Pt.tr)).At H v []
def SAt (H:Hp) (v:V) (s:Stm):Prop:=∃ fs,s.tr.At H v fs
def BAt (H:Hp) (v:V) (b:List Stm):Prop:=∃ fs,(Tr.lst (Stm.trs b)).At H v fs
theorem PAt.same {H H':Hp}{v:V}{p:List Pt}(h:PAt H v p) (s:Same H H'):PAt H' v p:=bm3 h s.tups
theorem SAt.same {H H':Hp}{v:V}{x:Stm}(h:SAt H v x) (s:Same H H'):SAt H' v x:=by
 obtain ⟨fs,h⟩:=h
 exact ⟨fs,h.mono (s.keep _)⟩
theorem BAt.same {H H':Hp}{v:V}{b:List Stm}(h:BAt H v b) (s:Same H H'):BAt H' v b:=by
 obtain ⟨fs,h⟩:=h
 exact ⟨fs,h.mono (s.keep _)⟩
theorem an2 {H:Hp}{α:Type}{f:α→Tr}{R:V→α→Prop}(hR:∀ v x fs,(f x).At H v fs→R v x):∀ {xs:List α}{ts:List Tr}{vs:List V}{fs:List Addr},ts=xs.map f→Tr.Ats H ts vs fs→Each R vs xs
 | [],_,vs,fs,rfl,h=>by
   simp only [List.map_nil,Tr.Ats] at h
   rw [h.1]
   exact Each.nil
 | x::xs,_,vs,fs,rfl,h=>by
   simp only [List.map_cons,Tr.Ats] at h
   obtain ⟨v,ws,f1,g1,rfl,_,h1,h2⟩:=h
   have:=an2 hR (xs:=xs) rfl h2
   refine ⟨by simp [this.1],fun j a b e1 e2=>?_⟩
   cases j with
   | zero =>
     simp at e1 e2
     subst e1 e2
     exact hR _ _ _ h1
   | succ j=>exact this.2 j a b (by simpa using e1) (by simpa using e2)
theorem an3 {H:Hp}{α:Type}{f:α→Tr}{R:V→α→Prop}(hR:∀ v x,R v x→∃ fs,(f x).At H v fs):∀ {xs:List α}{vs:List V},Each R vs xs→∃ fs,Tr.Ats H (xs.map f) vs fs
 | [],[],_=>⟨[],by simp [Tr.Ats]⟩
 | x::xs,v::vs,h=>by
   obtain ⟨f1,h1⟩:=hR v x (h.2 0 v x rfl rfl)
   obtain ⟨f2,h2⟩:=an3 hR (xs:=xs) (vs:=vs) ⟨by simpa using h.1,fun j a b e1 e2=>h.2 (j+1) a b (by simpa using e1) (by simpa using e2)⟩
   refine ⟨f1++f2,?_⟩
   simp only [List.map_cons,Tr.Ats]
   exact ⟨v,vs,f1,f2,rfl,rfl,h1,h2⟩
 | [],v::vs,h=>absurd h.1 (by simp)
 | x::xs,[],h=>absurd h.1 (by simp)
theorem av0:∀ b:List Stm,Stm.trs b=b.map Stm.tr
 | []=>rfl
 | s::r=>by rw [Stm.trs,av0 r]; rfl
theorem av1:∀ b:List Br,Br.trs b=b.map Br.tr
 | []=>rfl
 | s::r=>by rw [Br.trs,av1 r]; rfl
theorem bat_iff {H:Hp}{v:V}{b:List Stm}:BAt H v b↔∃ l us,v=.ref l∧H l=some (.lst us)∧Each (SAt H) us b:=by
 constructor
 · rintro ⟨fs,h⟩
   simp only [Tr.At] at h
   obtain ⟨l,us,gs,rfl,e,h,_⟩:=h
   exact ⟨l,us,rfl,e,an2 (f:=Stm.tr) (fun v x fs h=>⟨fs,h⟩) (av0 b) h⟩
 · rintro ⟨l,us,rfl,e,h⟩
   obtain ⟨fs,h⟩:=an3 (f:=Stm.tr) (fun v x h=>h) h
   refine ⟨l::fs,?_⟩
   simp only [Tr.At]
   exact ⟨l,us,fs,rfl,e,by rw [av0]; exact h,rfl⟩
def BrAt (H:Hp) (v:V) (x:Br):Prop:=match x with | .mk p b=>∃ q pv bv,v=.ref q∧H q=some (.tup [pv,bv])∧PAt H pv p∧BAt H bv b
theorem ax3 {H:Hp}:∀ {p:List Pt}{vs:List V}{fs:List Addr},Tr.Ats H (p.map Pt.tr) vs fs→fs=[]
 | [],vs,fs,h=>by
   simp only [List.map_nil,Tr.Ats] at h
   exact h.2
 | x::p,vs,fs,h=>by
   simp only [List.map_cons,Tr.Ats] at h
   obtain ⟨v,ws,f,g,_,rfl,h1,h2⟩:=h
   rw [ax3 h2]
   cases x with
   | s z=>simp only [Pt.tr,Tr.At] at h1; simp [h1.2]
   | i z=>simp only [Pt.tr,Tr.At] at h1; simp [h1.2]
theorem by7 {H:Hp}{v:V}{x:Br}{fs:List Addr}(h:x.tr.At H v fs):BrAt H v x:=by
 cases x with
 | mk p b =>
   simp only [Br.tr,Tr.At,Tr.Ats] at h
   obtain ⟨q,vs,rfl,e,v1,w1,f1,g1,rfl,rfl,⟨a,us,rfl,e1,h1⟩,v2,w2,f2,g2,rfl,rfl,⟨l,ws,gs,rfl,e2,h2,rfl⟩,rfl,rfl⟩:=h
   have:=ax3 h1
   subst this
   refine ⟨q,_,_,rfl,e,?_,⟨l::gs,?_⟩⟩
   · unfold PAt
     simp only [Tr.At]
     exact ⟨a,us,rfl,e1,h1⟩
   · simp only [Tr.At]
     exact ⟨l,ws,gs,rfl,e2,h2,rfl⟩
theorem c64 {H:Hp}{v:V}{x:Br}(h:BrAt H v x):∃ fs,x.tr.At H v fs:=by
 cases x with
 | mk p b =>
   obtain ⟨q,pv,bv,rfl,e,h1,⟨fs,h2⟩⟩:=h
   refine ⟨[]++(fs++[]),?_⟩
   simp only [Br.tr,Tr.At,Tr.Ats] at h2 ⊢
   exact ⟨q,_,rfl,e,pv,_,[],_,rfl,rfl,by unfold PAt at h1; simp only [Tr.At] at h1; exact h1,bv,_,fs,[],rfl,rfl,h2,rfl,rfl⟩
theorem sat_loop {H:Hp}{v:V}{b:List Stm}:SAt H v (.loop b)↔∃ a u,v=.ref a∧H a=some (.tup [.str "loop",u])∧BAt H u b:=by
 constructor
 · rintro ⟨fs,h⟩
   simp only [Stm.tr,Tr.At,Tr.Ats] at h
   obtain ⟨a,vs,rfl,e,v1,w1,f1,g1,rfl,rfl,⟨rfl,rfl⟩,v2,w2,f2,g2,rfl,rfl,h2,rfl,rfl⟩:=h
   exact ⟨a,v2,rfl,e,f2,by simp only [Tr.At]; exact h2⟩
 · rintro ⟨a,u,rfl,e,fs,h⟩
   refine ⟨[]++(fs++[]),?_⟩
   simp only [Stm.tr,Tr.At,Tr.Ats] at h ⊢
   exact ⟨a,_,rfl,e,_,_,[],_,rfl,rfl,⟨rfl,rfl⟩,u,_,fs,[],rfl,rfl,h,rfl,rfl⟩
theorem sat_wait {H:Hp}{v:V}{n:Int}{bs:List Br}:SAt H v (.wait n bs)↔∃ a l ws,v=.ref a∧H a=some (.tup [.str "wait",.int n,.ref l])∧H l=some (.lst ws)∧Each (BrAt H) ws bs:=by
 constructor
 · rintro ⟨fs,h⟩
   simp only [Stm.tr,Tr.At,Tr.Ats] at h
   obtain ⟨a,vs,rfl,e,v1,w1,f1,g1,rfl,rfl,⟨rfl,rfl⟩,v2,w2,f2,g2,rfl,rfl,⟨rfl,rfl⟩,v3,w3,f3,g3,rfl,rfl,⟨l,ws,gs,rfl,e2,h2,_⟩,rfl,rfl⟩:=h
   exact ⟨a,l,ws,rfl,e,e2,an2 (f:=Br.tr) (fun v x fs h=>by7 h) (av1 bs) h2⟩
 · rintro ⟨a,l,ws,rfl,e,e2,h⟩
   obtain ⟨gs,h⟩:=an3 (f:=Br.tr) (fun v x h=>c64 h) h
   refine ⟨[]++([]++((l::gs)++[])),?_⟩
   simp only [Stm.tr,Tr.At,Tr.Ats]
   exact ⟨a,_,rfl,e,_,_,[],_,rfl,rfl,⟨rfl,rfl⟩,_,_,[],_,rfl,rfl,⟨rfl,rfl⟩,_,_,l::gs,[],rfl,rfl,⟨l,ws,gs,rfl,e2,by rw [av1]; exact h,rfl⟩,rfl,rfl⟩
theorem af1 {H:Hp}{v:V}{c:Cd}{x y:List Stm}(h:SAt H v (.test c x y)):∃ a u1 u2 u3,v=.ref a∧H a=some (.tup [.str "test",u1,u2,u3])∧BAt H u2 x∧BAt H u3 y:=by
 obtain ⟨fs,h⟩:=h
 simp only [Stm.tr,Tr.At,Tr.Ats] at h
 obtain ⟨a,vs,rfl,e,v1,w1,f1,g1,rfl,rfl,⟨rfl,rfl⟩,v2,w2,f2,g2,rfl,rfl,_,v3,w3,f3,g3,rfl,rfl,h3,v4,w4,f4,g4,rfl,rfl,h4,rfl,rfl⟩:=h
 exact ⟨a,v2,v3,v4,rfl,e,⟨f3,by simp only [Tr.At]; exact h3⟩,f4,by simp only [Tr.At]; exact h4⟩
theorem b67 {H:Hp}{v:V}{k:Str}{r:List Pt}(h:SAt H v (.plain (.s k::r))):∃ a us,v=.ref a∧H a=some (.tup (.str k::us)):=by
 obtain ⟨fs,h⟩:=h
 simp only [Stm.tr,List.map_cons,Tr.At,Tr.Ats,Pt.tr] at h
 obtain ⟨a,vs,rfl,e,v1,w1,f1,g1,rfl,_,⟨rfl,_⟩,_⟩:=h
 exact ⟨a,w1,rfl,e⟩
def a22:Stm→List (List Stm)
 | .loop b=>[b]
 | .wait _ bs=>bs.map fun | .mk _ b=>b
 | .test _ a b=>[a,b]
 | _=>[]
section
variable {X:Cx}
end
section
variable {σ:St} {H:Hp}{nn bb cc:St→Hp→Prop}{rr:VK}{t u:TS}
theorem bh2 (h:∀ N:St→Hp→Prop,(∀ σ H,u ⟨nn,rr,bb,cc⟩ σ H→N σ H)→t ⟨N,rr,bb,cc⟩ σ H):tSeq t u ⟨nn,rr,bb,cc⟩ σ H:=h _ fun _ _ x=>x
theorem bh3 {P N:St→Hp→Prop}(e:∀ σ H,P σ H→N σ H) (h:P σ H):N σ H:=e σ H h
end
abbrev Pl:=Nat×Nat
inductive KS where
 | say (w:Str)
 | hand (l:Int) (w:Str)
 | put (n:Str) (e:Ex)
 | test (c:Cd) (a b:Nat)
 | loop (n:Nat)
 | call (n:Nat)
 | wait (l:Int) (br:List (List Pt×Pl)) (w:Pl)
 | again
 | leave
 | back
 | stop
def plT (p:Pl):Tr:=.tup [.int (p.1:Nat),.int (p.2:Nat)]
def brK (b:List Pt×Pl):Tr:=.tup [.tup (b.1.map Pt.tr),plT b.2]
def KS.word:KS→Str
 | .say _=>"say"
 | .hand _ _=>"hand"
 | .put _ _=>"put"
 | .test _ _ _=>"test"
 | .loop _=>"loop"
 | .call _=>"call"
 | .wait _ _ _=>"wait"
 | .again=>"again"
 | .leave=>"leave"
 | .back=>"back"
 | .stop=>"stop"
def KS.its:KS→List Tr
 | .say w=>[.str w]
 | .hand l w=>[.int l,.str w]
 | .put n e=>[.str n,e.tr]
 | .test c a b=>[c.tr,.int (a:Nat),.int (b:Nat)]
 | .loop n=>[.int (n:Nat)]
 | .call n=>[.int (n:Nat)]
 | .wait l br w=>[.int l,.tup (br.map brK),plT w]
 | _=>[]
def KS.tr (s:KS):Tr:=.tup (.str s.word::s.its)
theorem KS.word_at {H:Hp}{v:V}{s:KS}(h:s.tr.At H v []):∃ a us,v=.ref a∧H a=some (.tup (.str s.word::us))∧Tr.Ats H s.its us []:=by
 obtain ⟨a,vs,rfl,e,h⟩:=at_tup0.mp h
 obtain ⟨v1,w1,hz,h1,h2⟩:=ats_cons0.mp h
 obtain rfl:=at_str0.mp h1
 exact ⟨a,w1,rfl,by rw [e,hz],h2⟩
mutual
def Tr.nl:Tr→Bool
 | .tup xs=>Tr.nls xs
 | .lst _=>false
 | _=>true
def Tr.nls:List Tr→Bool
 | []=>true
 | x::xs=>x.nl && Tr.nls xs
end
mutual
theorem bm4 {H:Hp}:∀ {x:Tr}{v:V}{fs:List Addr},x.nl=true→x.At H v fs→fs=[]
 | .non,_,_,_,h=>by simp only [Tr.At] at h; exact h.2
 | .int _,_,_,_,h=>by simp only [Tr.At] at h; exact h.2
 | .str _,_,_,_,h=>by simp only [Tr.At] at h; exact h.2
 | .tup xs,_,_,n,h=>by
   simp only [Tr.At] at h
   obtain ⟨a,vs,_,_,h⟩:=h
   exact bh4 (by simpa only [Tr.nl] using n) h
 | .lst _,_,_,n,_=>by simp [Tr.nl] at n
theorem bh4 {H:Hp}:∀ {xs:List Tr}{vs:List V}{fs:List Addr},Tr.nls xs=true→Tr.Ats H xs vs fs→fs=[]
 | [],_,_,_,h=>by simp only [Tr.Ats] at h; exact h.2
 | x::xs,_,_,n,h=>by
   simp only [Tr.nls,Bool.and_eq_true] at n
   simp only [Tr.Ats] at h
   obtain ⟨v,ws,f,g,_,rfl,h1,h2⟩:=h
   rw [bm4 n.1 h1,bh4 n.2 h2]
   rfl
end
theorem b68:∀ e:Ex,e.tr.nl=true
 | .num _=>rfl
 | .box _=>rfl
 | .two k a b=>by simp only [Ex.tr,Tr.nl,Tr.nls,b68 a,b68 b]; rfl
theorem bc9:∀ c:Cd,c.tr.nl=true
 | .cmp k a b=>by simp only [Cd.tr,Tr.nl,Tr.nls,b68 a,b68 b]; rfl
 | .nt c=>by simp only [Cd.tr,Tr.nl,Tr.nls,bc9 c]; rfl
 | .both c d=>by simp only [Cd.tr,Tr.nl,Tr.nls,bc9 c,bc9 d]; rfl
def patB (p:List Pt):Tr:=.tup (p.map Pt.tr)
def Stm.kd (tn:List Str):Stm→Prop
 | .plain ps=>(∃ w,ps=[.s "say",.s w])∨(∃ l w,ps=[.s "hand",.i l,.s w])∨(∃ w,ps=[.s "call",.s w]∧w∈tn)∨ps=[.s "again"]∨ps=[.s "leave"]∨ps=[.s "back"]∨ps=[.s "stop"]
 | .wait _ bs=>bs.length≤1000
 | _=>True
theorem bd0 {tn:List Str}{ps:List Pt}(h:Stm.kd tn (.plain ps)):∃ k r,ps=.s k::r∧k≠Str.ofString "test"∧k≠Str.ofString "wait"∧k≠Str.ofString "loop":=by
 rcases h with ⟨w,rfl⟩ | ⟨l,w,rfl⟩ | ⟨w,rfl,_⟩ | rfl | rfl | rfl | rfl <;> exact ⟨_,_,rfl,by decide +kernel,by decide +kernel,by decide +kernel⟩
theorem b69 {H:Hp}{v:V}{n:Str}{e:Ex}(h:SAt H v (.put n e)):(KS.put n e).tr.At H v []:=by
 obtain ⟨fs,h⟩:=h
 have:fs=[]:=bm4 (by simp only [Stm.tr,Tr.nl,Tr.nls,b68]; rfl) h
 subst this
 exact h
theorem b70 {H:Hp}{v:V}{c:Cd}{x y:List Stm}(h:SAt H v (.test c x y)):∃ a u1 u2 u3,v=.ref a∧H a=some (.tup [.str "test",u1,u2,u3])∧BAt H u2 x∧BAt H u3 y∧c.tr.At H u1 []:=by
 obtain ⟨fs,h⟩:=h
 simp only [Stm.tr,Tr.At,Tr.Ats] at h
 obtain ⟨a,vs,rfl,e,v1,w1,f1,g1,rfl,rfl,⟨rfl,rfl⟩,v2,w2,f2,g2,rfl,rfl,h2,v3,w3,f3,g3,rfl,rfl,h3,v4,w4,f4,g4,rfl,rfl,h4,rfl,rfl⟩:=h
 obtain rfl:=bm4 (bc9 c) h2
 exact ⟨a,v2,v3,v4,rfl,e,⟨f3,by simp only [Tr.At]; exact h3⟩,⟨f4,by simp only [Tr.At]; exact h4⟩,h2⟩
def Stm.wd:Stm→Str
 | .plain (.s k::_)=>k
 | .plain _=>"stop"
 | .put _ _=>"put"
 | .loop _=>"loop"
 | .wait _ _=>"wait"
 | .test _ _ _=>"test"
theorem al8 {H:Hp}{v:V}{s:Stm}{tn:List Str}(h:SAt H v s) (hk:s.kd tn):∃ a us,v=.ref a∧H a=some (.tup (.str s.wd::us)):=by
 cases s with
 | plain ps =>
   obtain ⟨k,r,rfl,_⟩:=bd0 hk
   obtain ⟨a,us,h1,h2⟩:=b67 h
   exact ⟨a,us,h1,h2⟩
 | put n e =>
   obtain ⟨a,us,h1,h2,_⟩:=KS.word_at (b69 h)
   exact ⟨a,us,h1,h2⟩
 | loop b =>
   obtain ⟨a,u,h1,h2,_⟩:=sat_loop.mp h
   exact ⟨a,_,h1,h2⟩
 | wait n bs =>
   obtain ⟨a,l,ws,h1,h2,_⟩:=sat_wait.mp h
   exact ⟨a,_,h1,h2⟩
 | test c x y =>
   obtain ⟨a,u1,u2,u3,h1,h2,_⟩:=af1 h
   exact ⟨a,_,h1,h2⟩
theorem an4 {s:Stm}{tn:List Str}(hk:s.kd tn) (h:s.wd=Str.ofString "test"):∃ c x y,s=.test c x y:=by
 cases s with
 | test c x y=>exact ⟨c,x,y,rfl⟩
 | plain ps=>obtain ⟨k,r,rfl,h1,h2,h3⟩:=bd0 hk; exact absurd h h1
 | _=>simp only [Stm.wd] at h; exact absurd h (by decide +kernel)
theorem an5 {s:Stm}{tn:List Str}(hk:s.kd tn) (h:s.wd=Str.ofString "wait"):∃ c x,s=.wait c x:=by
 cases s with
 | wait c x=>exact ⟨c,x,rfl⟩
 | plain ps=>obtain ⟨k,r,rfl,h1,h2,h3⟩:=bd0 hk; exact absurd h h2
 | _=>simp only [Stm.wd] at h; exact absurd h (by decide +kernel)
theorem an6 {s:Stm}{tn:List Str}(hk:s.kd tn) (h:s.wd=Str.ofString "loop"):∃ c,s=.loop c:=by
 cases s with
 | loop c=>exact ⟨c,rfl⟩
 | plain ps=>obtain ⟨k,r,rfl,h1,h2,h3⟩:=bd0 hk; exact absurd h h3
 | _=>simp only [Stm.wd] at h; exact absurd h (by decide +kernel)
theorem bm5 {s:Stm}(h1:s.wd≠Str.ofString "test") (h2:s.wd≠Str.ofString "wait") (h3:s.wd≠Str.ofString "loop"):a22 s=[]:=by
 cases s <;> first | rfl | exact absurd rfl h1 | exact absurd rfl h2 | exact absurd rfl h3
section
variable {X:Cx}{tg:Expr}
end
section
variable {X:Cx}{pins:List (Addr×Obj)}{σ:St} {H:Hp}{s:Shared}
end
section
variable {prog:Program}{w:World}{A:Around}{E:Value→Shared→Prop}{s:Shared}
end
section
variable {X:Cx}
end
theorem av2 (n:Nat):sliceBounds none (some 0) (some (-1)) n=((n:Int) - 1,min 0 ((n:Int) - 1),-1):=by
 unfold sliceBounds
 simp
 try omega
theorem b08 (m:Nat):sliceRange (((m+1:Nat):Int) - 1) 0 (-1)=(List.range m).map fun k=>m - k:=by
 unfold sliceRange
 have hc:(if ((-1:Int) > 0) then (if (((m+1:Nat):Int) - 1<0) then ((0:Int) - (((m+1:Nat):Int) - 1)+-1 - 1) / -1 else 0) else (if (((m+1:Nat):Int) - 1 > 0) then (((m+1:Nat):Int) - 1 - 0 - -1 - 1) / - -1 else 0)).toNat=m:=by
  rw [if_neg (by decide)]
  split
  · rw [show (- -1:Int)=1 from rfl,Int.ediv_one]
    omega
  · omega
 simp only [hc]
 refine List.map_congr_left fun k hk=>?_
 have:=List.mem_range.mp hk
 omega
theorem ax4 {α β:Type}{f g:α→Option β}:∀ {l:List α},(∀ x∈l,f x=g x)→l.filterMap f=l.filterMap g
 | [],_=>rfl
 | x::l,h=>by
   rw [List.filterMap_cons,List.filterMap_cons,h x (by simp),ax4 fun y hy=>h y (by simp [hy])]
theorem b71 (items:List Value):slicePick items.toArray none (some 0) (some (-1))=(items.drop 1).reverse.toArray:=by
 unfold slicePick
 rw [av2]
 simp only [List.size_toArray]
 cases items with
 | nil=>rfl
 | cons x items =>
   rw [show min (0:Int) (((x::items).length:Int) - 1)=0 by simp; omega,List.length_cons,b08,List.drop_succ_cons,List.drop_zero]
   congr 1
   refine List.ext_getElem? fun k=>?_
   have e:((List.range items.length).map fun k=>items.length - k).filterMap (fun i=>(x::items).toArray[i]?)=(List.range items.length).filterMap fun k=>items[items.length - 1 - k]?:=by
    rw [List.filterMap_map]
    refine ax4 fun k hk=>?_
    have hk:=List.mem_range.mp hk
    show (x::items).toArray[items.length - k]?=_
    rw [List.getElem?_toArray,show items.length - k=(items.length - 1 - k)+1 by omega,List.getElem?_cons_succ]
   rw [e]
   have h:∀ n,n≤items.length→(List.range n).filterMap (fun k=>items[items.length - 1 - k]?)=items.reverse.take n:=fun n=>by
    induction n with
    | zero=>intro _; simp
    | succ n ih =>
      intro hn
      rw [List.range_succ,List.filterMap_append,ih (by omega),List.take_add_one,List.getElem?_reverse (by omega)]
      have:items[items.length - 1 - n]?=some items[items.length - 1 - n]:=List.getElem?_eq_getElem (by omega)
      simp [this]
   rw [h _ (Nat.le_refl _),List.take_of_length_le (by simp)]
def by8 (K:PySem.W.Frag) (te tu ts:TE):TE:=fun σ H Q=>te σ H fun x H1=>tu σ H1 fun z H2=>ts σ H2 fun y H3=>z=.int 0∧y=.int (-1)∧∃ a xs,x=.ref a∧SqL K H3 a xs∧New H3 (.lst (xs.drop 1).reverse) Q
section
variable {X:Cx}{e st up:Expr}{te ts tu:TE}{p2 pos:Pos}
theorem bm6 (K:PySem.W.Frag) (he:PE X e te) (hu:PE X up tu) (hs:PE X st ts) (ht:∀ (o r:Value),letTemporaryGo e o r=pure ():=by intro _ _; rfl) (hK:X.K=K:=by rfl):PE X (.Subscript e (.Slice none (some up) (some st) p2) pos) (by8 K te tu ts):=by
 subst hK
 intro pins s σ H Q I h
 refine wpAny_Subscript_Slice_step PySem.F.slot_list_getitem.lookup (thn (he pins s σ H _ I h) ?_) ht
 rintro v s1 ⟨x,H1,I1,r1,q1⟩
 refine wpAny_Slice ?_
 rw [evalPart_none]
 refine wpAny_pure ?_
 rw [evalPart_some]
 refine thn (hu pins s1 σ H1 _ I1 q1) ?_
 rintro w2 s2 ⟨z,H2,I2,r2,q2⟩
 rw [evalPart_some]
 refine thn (hs pins s2 σ H2 _ I2 q2) ?_
 rintro w3 s3 ⟨y,H3,I3,r3,q3⟩
 obtain ⟨rfl,rfl,a,xs,rfl,hS,q⟩:=q3
 cases r1
 obtain ⟨t,rfl⟩:=r2
 obtain ⟨t3,rfl⟩:=r3
 have I4:Inv X pins σ H3 { s3 with heap:=s3.heap.push { cls:=.type "slice",data:=.fields #[.none,.int 0 t,.int (-1) t3] } }:=I3.kept (t':=s3.toks) fun b ob q=>Heap.get?_push_of_some _ q
 obtain ⟨its,v1,p1,hz⟩:=I4.list hS
 refine ⟨p1.isList.typeIs,wpAny_getItem_list_slice (lo:=none) (hi:=some 0) (st:=some (-1)) p1.isList (Heap.IsSliceOf.new ..) .none (.int _ _) (.int _ _) (by decide) ?_ (by rw [List.size_toArray,←v1.length]; exact hz)⟩
 refine ⟨.ref _,_,I4.laid (t':=s3.toks) (o:=.lst (xs.drop 1).reverse) (fun b ob q=>Heap.get?_push_of_some _ q) (Nat.le_refl _) ?_,rfl,New.to q _ (I4.hok.fresh (Nat.le_refl _))⟩
 rw [b71]
 exact ⟨by rw [List.length_reverse,List.length_drop]; exact Nat.le_trans (Nat.sub_le _ _) hz,(its.drop 1).reverse,0,(v1.drop 1).reverse,Heap.get?_push_size _ rfl⟩
theorem by9 {K:PySem.W.Frag}{σ:St} {H:Hp}{Q:VK}(h:te σ H fun x H1=>tu σ H1 fun z H2=>ts σ H2 fun y H3=>z=.int 0∧y=.int (-1)∧∃ a xs,x=.ref a∧SqL K H3 a xs∧New H3 (.lst (xs.drop 1).reverse) Q):by8 K te tu ts σ H Q:=h
end
end L2
namespace L2
open PySem
inductive Wd where
 | on | again | leave | back | stop
deriving DecidableEq
def Wd.txt:Wd→Str
 | .on=>"on"
 | .again=>"again"
 | .leave=>"leave"
 | .back=>"back"
 | .stop=>"stop"
theorem ah5 {a b:Wd}(h:a.txt=b.txt):a=b:=by
 cases a <;> cases b <;> first | rfl | exact absurd h (by decide +kernel)
def allW:List Wd:=[.on,.again,.leave,.back,.stop]
theorem an7 (w:Wd):w∈allW:=by cases w <;> simp [allW]
def ordW (l:List Wd):List Wd:=allW.filter fun w=>decide (w∈l)
theorem ax5 {l:List Wd}{w:Wd}:w∈ordW l↔w∈l:=by
 unfold ordW
 rw [List.mem_filter,decide_eq_true_eq]
 exact ⟨fun h=>h.2,fun h=>⟨an7 w,h⟩⟩
theorem bd1 {l:List Wd}:(ordW l).length≤5:=List.length_filter_le _ _
theorem an8 {l m:List Wd}(h:∀ w,w∈l↔w∈m):ordW l=ordW m:=by
 unfold ordW
 congr 1
 funext w
 rw [Bool.eq_iff_iff,decide_eq_true_eq,decide_eq_true_eq]
 exact h w
def endW (k:Str):Option Wd:=allW.find? fun w=>decide (w.txt=k)
theorem ai7 {k:Str}{w:Wd}(h:endW k=some w):w.txt=k:=by
 have:=List.find?_some h
 simpa using this
theorem ar5 {k:Str}(h:endW k=none) (w:Wd):w.txt≠k:=by
 have:=List.find?_eq_none.mp h w (an7 w)
 simpa using this
abbrev Tks:=List (Str×List Stm)
def a51 (ts:Tks) (n:Str):Option (List Stm):=(ts.find? fun t=>decide (t.1=n)).map (·.2)
def eL (f:Stm→Option (List Wd)):List Stm→List Wd→Option (List Wd)
 | [],e=>some e
 | s::b,e=>if .on∈e then (f s).bind fun r=>eL f b (e.filter (fun w=>decide (w≠.on))++r) else some e
def eBf (f:Stm→Option (List Wd)) (b:List Stm):Option (List Wd):=if b.length≤1000 then (eL f b [.on]).map ordW else none
def aj9 (e:List Wd):List Wd:=(if .leave∈e then [.on] else [])++e.filter (fun w=>decide (w=.back∨w=.stop))
def ag1 (e:List Wd):List Wd:=(if .on∈e∨.back∈e then [.on] else [])++e.filter (fun w=>decide (w=.stop))
def eS (ts:Tks):Nat→Stm→Option (List Wd)
 | 0,_=>none
 | n+1,.wait _ _=>some []
 | n+1,.test _ x y=>(eBf (eS ts n) x).bind fun a=>(eBf (eS ts n) y).map fun b=>a++b
 | n+1,.loop x=>(eBf (eS ts n) x).map aj9
 | n+1,.put _ _=>some [.on]
 | n+1,.plain ps=>match ps with
   | [.s k,.s nm]=>if k="call" then (a51 ts nm).bind fun b=>(eBf (eS ts n) b).map ag1 else if k="say" then some [.on] else none
   | [.s k]=>(endW k).map fun w=>[w]
   | [.s k,.i _,.s _]=>if k="hand" then some [.on] else none
   | _=>none
theorem b72 {f g:Stm→Option (List Wd)}(h:∀ s r,f s=some r→g s=some r):∀ {b:List Stm}{e r:List Wd},eL f b e=some r→eL g b e=some r
 | [],e,r,h1=>h1
 | s::b,e,r,h1=>by
   unfold eL at h1 ⊢
   split at h1
   · rename_i ho
     rw [if_pos ho]
     obtain ⟨z,h2,h3⟩:=Option.bind_eq_some_iff.mp h1
     exact Option.bind_eq_some_iff.mpr ⟨z,h s z h2,b72 h h3⟩
   · rename_i ho
     rw [if_neg ho]
     exact h1
theorem af2 {f g:Stm→Option (List Wd)}(h:∀ s r,f s=some r→g s=some r) {b:List Stm}{r:List Wd}(h1:eBf f b=some r):eBf g b=some r:=by
 unfold eBf at h1 ⊢
 split at h1
 · rename_i hl
   rw [if_pos hl]
   obtain ⟨z,h2,h3⟩:=Option.map_eq_some_iff.mp h1
   exact Option.map_eq_some_iff.mpr ⟨z,b72 h h2,h3⟩
 · cases h1
theorem ai8 (ts:Tks):∀ n s r,eS ts n s=some r→eS ts (n+1) s=some r
 | 0,s,r,h=>by simp [eS] at h
 | n+1,.wait _ _,r,h=>h
 | n+1,.put _ _,r,h=>h
 | n+1,.test c x y,r,h=>by
   obtain ⟨a,h1,h2⟩:=Option.bind_eq_some_iff.mp h
   obtain ⟨b,h3,h4⟩:=Option.map_eq_some_iff.mp h2
   exact Option.bind_eq_some_iff.mpr ⟨a,af2 (ai8 ts n) h1,Option.map_eq_some_iff.mpr ⟨b,af2 (ai8 ts n) h3,h4⟩⟩
 | n+1,.loop x,r,h=>by
   obtain ⟨a,h1,h2⟩:=Option.map_eq_some_iff.mp h
   exact Option.map_eq_some_iff.mpr ⟨a,af2 (ai8 ts n) h1,h2⟩
 | n+1,.plain ps,r,h=>by
   unfold eS at h ⊢
   split at h
   · rename_i k nm
     split at h
     · rename_i hk
       rw [if_pos hk]
       obtain ⟨b,h1,h2⟩:=Option.bind_eq_some_iff.mp h
       obtain ⟨a,h3,h4⟩:=Option.map_eq_some_iff.mp h2
       exact Option.bind_eq_some_iff.mpr ⟨b,h1,Option.map_eq_some_iff.mpr ⟨a,af2 (ai8 ts n) h3,h4⟩⟩
     · rename_i hk
       rw [if_neg hk]
       exact h
   · exact h
   · exact h
   · cases h
theorem c65 {ts:Tks}{n m:Nat}(hnm:n≤m) {s:Stm}{r:List Wd}(h:eS ts n s=some r):eS ts m s=some r:=by
 obtain ⟨k,rfl⟩:=Nat.exists_eq_add_of_le hnm
 induction k with
 | zero=>exact h
 | succ k ih=>exact ai8 ts _ _ _ (ih (Nat.le_add_right _ _))
theorem bz0 {ts:Tks}{n m:Nat}(hnm:n≤m) {b:List Stm}{r:List Wd}(h:eBf (eS ts n) b=some r):eBf (eS ts m) b=some r:=af2 (fun _ _ z=>c65 hnm z) h
theorem bz1 {ts:Tks}{n m:Nat}{b:List Stm}{r q:List Wd}(h1:eBf (eS ts n) b=some r) (h2:eBf (eS ts m) b=some q):r=q:=by
 have a:=bz0 (Nat.le_max_left n m) h1
 have c:=bz0 (Nat.le_max_right n m) h2
 rw [a] at c
 exact Option.some.inj c
theorem a88 {f:Stm→Option (List Wd)}{b:List Stm}{r:List Wd}(h:eBf f b=some r):ordW r=r∧r.length≤5:=by
 unfold eBf at h
 split at h
 · obtain ⟨z,_,rfl⟩:=Option.map_eq_some_iff.mp h
   exact ⟨an8 fun w=>ax5,bd1⟩
 · cases h
theorem b73 {e:List Wd}(h:e.length≤5):(aj9 e).length≤6:=by
 unfold aj9
 have:=List.length_filter_le (fun w=>decide (w=Wd.back∨w=Wd.stop)) e
 rw [List.length_append]
 split <;> simp only [List.length_cons,List.length_nil] <;> omega
theorem b74 {e:List Wd}(h:e.length≤5):(ag1 e).length≤6:=by
 unfold ag1
 have:=List.length_filter_le (fun w=>decide (w=Wd.stop)) e
 rw [List.length_append]
 split <;> simp only [List.length_cons,List.length_nil] <;> omega
theorem bz2 {ts:Tks}{n:Nat}{s:Stm}{r:List Wd}(h:eS ts n s=some r):r.length≤10:=by
 cases n with
 | zero=>simp [eS] at h
 | succ n =>
   cases s with
   | wait _ _=>obtain rfl:=Option.some.inj h; simp
   | put _ _=>obtain rfl:=Option.some.inj h; simp
   | test c x y =>
     obtain ⟨a,h1,h2⟩:=Option.bind_eq_some_iff.mp h
     obtain ⟨b,h3,rfl⟩:=Option.map_eq_some_iff.mp h2
     have:=(a88 h1).2
     have:=(a88 h3).2
     rw [List.length_append]
     omega
   | loop x =>
     obtain ⟨a,h1,rfl⟩:=Option.map_eq_some_iff.mp h
     have:=b73 (a88 h1).2
     omega
   | plain ps =>
     unfold eS at h
     split at h
     · split at h
       · obtain ⟨b,h1,h2⟩:=Option.bind_eq_some_iff.mp h
         obtain ⟨a,h3,rfl⟩:=Option.map_eq_some_iff.mp h2
         have:=b74 (a88 h3).2
         omega
       · split at h
         · obtain rfl:=Option.some.inj h; simp
         · cases h
     · obtain ⟨w,_,rfl⟩:=Option.map_eq_some_iff.mp h
       simp
     · split at h
       · obtain rfl:=Option.some.inj h; simp
       · cases h
     · cases h
noncomputable instance stmDec:DecidableEq Stm:=fun _ _=>Classical.propDecidable _
variable {ts:Tks}{G:Bool→Stm→Prop}
theorem b75 {e:List Wd}{w:Wd}:w∈aj9 e↔(w=.on∧.leave∈e)∨((w=.back∨w=.stop)∧w∈e):=by
 unfold aj9
 rw [List.mem_append,List.mem_filter,decide_eq_true_eq]
 constructor
 · rintro (h | h)
   · split at h
     · rename_i hl; exact .inl ⟨List.mem_singleton.mp h,hl⟩
     · cases h
   · exact .inr ⟨h.2,h.1⟩
 · rintro (⟨rfl,h⟩ | ⟨h1,h2⟩)
   · rw [if_pos h]; exact .inl (by simp)
   · exact .inr ⟨h2,h1⟩
theorem b76 {e:List Wd}{w:Wd}:w∈ag1 e↔(w=.on∧(.on∈e∨.back∈e))∨(w=.stop∧w∈e):=by
 unfold ag1
 rw [List.mem_append,List.mem_filter,decide_eq_true_eq]
 constructor
 · rintro (h | h)
   · split at h
     · rename_i hl; exact .inl ⟨List.mem_singleton.mp h,hl⟩
     · cases h
   · exact .inr ⟨h.2,h.1⟩
 · rintro (⟨rfl,h⟩ | ⟨h1,h2⟩)
   · rw [if_pos h]; exact .inl (by simp)
   · exact .inr ⟨h2,h1⟩
variable {ts:Tks}{G:Bool→Stm→Prop}
variable {ts:Tks}{G:Bool→Stm→Prop}
variable {ts:Tks}{G:Bool→Stm→Prop}
theorem bz3 {p q:Pt}(h:p.tr=q.tr):p=q:=by
 cases p <;> cases q <;> simp [Pt.tr] at h <;> simp [h]
theorem b77:∀ {ps qs:List Pt},ps.map Pt.tr=qs.map Pt.tr→ps=qs
 | [],[],_=>rfl
 | [],_::_,h=>by simp at h
 | _::_,[],h=>by simp at h
 | p::ps,q::qs,h=>by
   simp only [List.map_cons,List.cons.injEq] at h
   rw [bz3 h.1,b77 h.2]
variable {ts:Tks}{ns:List Str}
theorem bz4 {f:Stm→Option (List Wd)}:∀ {b:List Stm}{e:List Wd},(∀ s∈b,∃ r,f s=some r)→∃ R,eL f b e=some R
 | [],e,_=>⟨e,rfl⟩
 | s::b,e,h=>by
   unfold eL
   by_cases ho:Wd.on∈e
   · rw [if_pos ho]
     obtain ⟨r,hr⟩:=h s (by simp)
     rw [hr]
     exact bz4 fun x hx=>h x (by simp [hx])
   · rw [if_neg ho]
     exact ⟨e,rfl⟩
theorem ar6 {n:Nat}(w:Wd):eS ts (n+1) (.plain [.s w.txt])=(endW w.txt).map fun w=>[w]:=rfl
theorem b78 {n:Nat}{x:List Stm}:eS ts (n+1) (.loop x)=(eBf (eS ts n) x).map aj9:=rfl
theorem b79 {n:Nat}{c:Cd}{x y:List Stm}:eS ts (n+1) (.test c x y)=(eBf (eS ts n) x).bind fun a=>(eBf (eS ts n) y).map fun b=>a++b:=rfl
theorem b80 {n:Nat}{c:Str}:eS ts (n+1) (.plain [.s "call",.s c])=(a51 ts c).bind fun b=>(eBf (eS ts n) b).map ag1:=by
 show (if Str.ofString "call"=Str.ofString "call" then (a51 ts c).bind fun b=>(eBf (eS ts n) b).map ag1 else if Str.ofString "call"=Str.ofString "say" then some [Wd.on] else none)=_
 rw [if_pos rfl]
theorem ar7 (w:Wd):∃ v,endW w.txt=some v:=by
 cases h:endW w.txt with
 | some v=>exact ⟨v,rfl⟩
 | none=>exact absurd rfl (ar5 h w)
end L2
namespace L2
open PySem PySem.Spec PyProof.Rows
section
variable {X:Cx}
open Classical in
end
theorem al9 {n:Nat}:∀ {b:List Stm},(∀ s∈b,s.tr.h≤n)→Tr.hs (Stm.trs b)≤n
 | [],_=>by simp [Stm.trs,Tr.hs]
 | s::b,h=>by
   simp only [Stm.trs,Tr.hs]
   exact Nat.max_le.mpr ⟨h s (by simp),al9 fun x hx=>h x (by simp [hx])⟩
theorem bh5 {n:Nat}:∀ {b:List Br},(∀ s∈b,s.tr.h≤n)→Tr.hs (Br.trs b)≤n
 | [],_=>by simp [Br.trs,Tr.hs]
 | s::b,h=>by
   simp only [Br.trs,Tr.hs]
   exact Nat.max_le.mpr ⟨h s (by simp),bh5 fun x hx=>h x (by simp [hx])⟩
def bz5 (K:PySem.W.Frag):R2:=fun x y H Q=>∃ (t:Tr) (ts:List Tr) (a:Addr) (vs:List V),t.AtK K H x∧y=.ref a∧SqL K H a vs∧Tr.AtsK K H ts vs∧t.h≤20∧Tr.hs ts≤20∧Q (.bl (decide (t∈ts))) H
theorem ax6 {X:Cx}(K:PySem.W.Frag) (hu:X.A.units+64<cLine) (hK:X.K=K:=by rfl):OpR X (compareOp .In) (bz5 K):=by
 classical
 subst hK
 intro pins s σ H x y v u Q I rx ry h
 obtain ⟨t,ts,a,vs,h1,rfl,h2,h3,l1,l2,q⟩:=h
 cases ry
 obtain ⟨its,v1,p1,_⟩:=I.list h2
 have hin:=h1.isIn I rx
 have his:=Tr.AtsK.isIns I h3 v1
 refine SeqAt.in_listAt (fun z=>decide (∃ r,Tr.In s.heap r z∧r=t)) p1.isList (fun z hz=>?_) ?_
 · obtain ⟨r,hr,hz'⟩:=b64 his (by simpa using hz)
   have:=hz'.eqAt hin (A:=X.A.in1) (by have:=bx9 hr; rw [a61]; omega)
   rw [show decide (∃ q,Tr.In s.heap q z∧q=t)=decide (r=t) from Bool.eq_iff_iff.mpr (by
    simp only [decide_eq_true_iff]
    exact ⟨(by rintro ⟨q,a,b⟩; exact (hz'.inj a).trans b),fun e=>⟨r,hz',e⟩⟩)]
   exact this
 · refine ⟨.bl (decide (t∈ts)),H,I,?_,q⟩
   rw [show its.toArray.any (fun z=>decide (∃ r,Tr.In s.heap r z∧r=t))=decide (t∈ts) from ?_]
   · rfl
   rw [← Array.any_toList,Bool.eq_iff_iff,List.any_eq_true,decide_eq_true_iff]
   constructor
   · rintro ⟨z,hz,e⟩
     obtain ⟨r,hr,rfl⟩:=of_decide_eq_true e
     obtain ⟨r',hm,hr'⟩:=b64 his (by simpa using hz)
     exact hr'.inj hr ▸ hm
   · intro hm
     obtain ⟨j,hj,rfl⟩:=List.mem_iff_getElem.mp hm
     have hj':j<its.length:=by rw [his.len]; exact hj
     exact ⟨its[j],by simp,decide_eq_true ⟨_,his.get j hj' hj,rfl⟩⟩
theorem bh6 {K:PySem.W.Frag}{H:Hp}{Q:VK}{x:V}{a:Addr}{t:Tr}{ts:List Tr}{vs:List V}(h1:t.AtK K H x) (h2:SqL K H a vs) (h3:Tr.AtsK K H ts vs) (l1:t.h≤20) (l2:Tr.hs ts≤20) (h:Q (.bl (decide (t∈ts))) H):bz5 K x (.ref a) H Q:=⟨t,ts,a,vs,h1,rfl,h2,h3,l1,l2,h⟩
def bz6:R2:=fun x y H Q=>∃ (a b l1 l2 m1 m2:Addr) (ms ns:List Addr),x=.ref a∧y=.ref b∧H a=some (.tup [.ref l1,.ref l2])∧H b=some (.tup [.ref m1,.ref m2])∧H l1=some (.lst (ms.map V.ref))∧H m1=some (.lst (ms.map V.ref))∧H l2=some (.lst (ns.map V.ref))∧H m2=some (.lst (ns.map V.ref))∧Q (.bl false) H
theorem eqOL {X:Cx}{pins:List (Addr×Obj)}{σ:St} {H:Hp}{s:Shared}(I:Inv X pins σ H s) {A:Around}{a b:Addr}{ms:List Addr}(e1:H a=some (.lst (ms.map V.ref))) (e2:H b=some (.lst (ms.map V.ref))) (hu:A.units+4<cLine):SeqAt.EqAt A s (.ref a) (.ref b) true:=by
 by_cases hab:a=b
 · subst hab
   exact SeqAt.EqAt.same _
 refine SeqAt.EqAt.of_refs hab ?_
 obtain ⟨is1,q1,p1,_⟩:=I.list (SqL.of e1)
 obtain ⟨is2,q2,p2,_⟩:=I.list (SqL.of e2)
 cases ab4 q1
 cases ab4 q2
 have:=SeqAt.RcAt.lists (A:=A) (s:=s) (e:=fun _=>true) p1.isList p2.isList rfl (by omega) (fun j h1 h2=>SeqAt.EqAt.same _)
 rw [show ((List.range (ms.map Value.ref).toArray.size).all fun _=>true)=true by simp] at this
 exact this
theorem bd2 {X:Cx}(hu:X.A.units+64<cLine):OpR X (compareOp .NotEq) bz6:=by
 intro pins s σ H x y v u Q I rx ry h
 obtain ⟨a,b,l1,l2,m1,m2,ms,ns,rfl,rfl,e1,e2,g1,g2,g3,g4,q⟩:=h
 cases rx
 cases ry
 obtain ⟨is1,q1,p1,_⟩:=I.tuple (SqT.of e1)
 obtain ⟨is2,q2,p2,_⟩:=I.tuple (SqT.of e2)
 cases ab4 (ms:=[l1,l2]) q1
 cases ab4 (ms:=[m1,m2]) q2
 have k1:=SeqAt.RcNeAt.tuples (A:=X.A) (s:=s) (e:=fun _=>true) p1 p2 (by omega) (fun j h1 h2=>by
  match j,h1,h2 with
  | 0,_,_=>exact eqOL I g1 g2 (by rw [a61]; omega)
  | 1,_,_=>exact eqOL I g3 g4 (by rw [a61]; omega)
  | j+2,h1,_=>exact absurd h1 (by simp))
 refine k1 X.prog X.w X.xe (EP X pins σ Q) ⟨.bl false,H,I,?_,q⟩
 rfl
theorem bz7 {H:Hp}{Q:VK}{a b l1 l2 m1 m2:Addr}{ms ns:List Addr}(h1:H a=some (.tup [.ref l1,.ref l2])) (h2:H b=some (.tup [.ref m1,.ref m2])) (h3:H l1=some (.lst (ms.map V.ref))) (h4:H m1=some (.lst (ms.map V.ref))) (h5:H l2=some (.lst (ns.map V.ref))) (h6:H m2=some (.lst (ns.map V.ref))) (h:Q (.bl false) H):bz6 (.ref a) (.ref b) H Q:=⟨a,b,l1,l2,m1,m2,ms,ns,rfl,rfl,h1,h2,h3,h4,h5,h6,h⟩
end L2
local macro_rules | `(tactic| walk_at "side") => `(tactic| first | exact ⟨by decide, by decide, by decide⟩ | exact ⟨by decide, by decide⟩ | exact .inr (.inr ⟨by decide, by decide⟩) | exact .inr (.inl ⟨by decide, by decide⟩) | decide | omega | exact L2.le_line (by simp only [List.length_cons, List.length_nil]; omega))
local macro_rules | `(tactic| walk_at "o") => `(tactic| first | exact Or.inl rfl | exact Or.inr rfl)
local macro_rules | `(tactic| walk_at "step") => do
  let mut acc ← `(tactic| ((with_reducible refine L2.i_rgA ?k ?l ?_); (case k => walk_at "side"); (case l => walk_at "side")))
  for s in ("i_rI ah3 bh2 c37 i_c i_op i_un i_rU c38 bl5 c39 c40 c41 c42 bu8 i_bl c43 i_if c44 bu9 bv0 bv1 b54 bv2 c45 i_cb bv3 c46 c47 c48 bv5 c49 i_or bv6 c50 c51 i_lc bv7 bl6 bv8 c52 c53 i_bm c54 i_sl bb9 bv9 c55 c56 c57 bw0 bw1 bg4 bw2 bl7 c58 bx2 bw9 bx0 bw7 bx3 i_tB c61 bc5 bx6 bx5 c62 by0 by1 by2 by9 bv4 bh3".splitOn " ").reverse do
    let n := Lean.mkIdent (Lean.Name.str `L2 s)
    if s == "i_rI" || s == "ah3" || s == "bv4" then acc ← `(tactic| first | ((with_reducible refine $n ?k ?_); (case k => walk_at "side")) | $acc:tactic)
    else if s == "bh2" then acc ← `(tactic| first | ((with_reducible refine $n ?_); intro _ _) | $acc:tactic)
    else if s == "bh3" then acc ← `(tactic| first | ((with_reducible refine' $n ?k ?_); (case k => assumption)) | $acc:tactic)
    else acc ← `(tactic| first | with_reducible refine $n ?_ | $acc:tactic)
  `(tactic| first | ((with_reducible refine L2.i_name ?_); dsimp only [List.set_cons_zero, List.set_cons_succ]) | ((with_reducible refine' L2.i_var ?k ?_); (case k => rfl)) | $acc:tactic)
local macro_rules | `(tactic| walk_at "run") => `(tactic| (repeat walk_at "step"))
local macro_rules | `(tactic| walk_at "go") => do
  let ids := (("L2.start List.map_cons List.map_nil List.length_cons List.length_nil List.replicate List.cons_append List.nil_append Nat.reduceSub Nat.reduceAdd L2.nox_K L2.wish_K L2.cxOf_K L2.cxC_K".splitOn " ").map fun s => Lean.mkIdent s.toName).toArray
  `(tactic| (simp only [$[$ids:term],*]; walk_at "run"))
namespace K15
open PySem L2
theorem sc_bodies_of:FnScope ["statement","kind"] ["statement"] (a07 ad2):=⟨rfl,rfl,rfl,by decide +kernel,rfl,by decide +kernel,by decide +kernel⟩
theorem sc_statements_in:FnScope ["body","found","statement","inner"] ["body"] (a07 aa8):=⟨rfl,rfl,rfl,by decide +kernel,rfl,by decide +kernel,by decide +kernel⟩
theorem ag7:FnScope ["pattern"] ["pattern"] (a07 aa9):=⟨rfl,rfl,rfl,by decide +kernel,rfl,by decide +kernel,by decide +kernel⟩
theorem sc_names_in:FnScope ["thing","kind"] ["thing"] (a07 ak8):=⟨rfl,rfl,rfl,by decide +kernel,rfl,by decide +kernel,by decide +kernel⟩
theorem sc_faults:FnScope ["script","found","name","body","look"] ["script"] (a07 aw7):=⟨rfl,rfl,rfl,by decide +kernel,rfl,by decide +kernel,by decide +kernel⟩
theorem bd3:FnScope ["script"] ["script"] (a07 b39):=⟨rfl,rfl,rfl,by decide +kernel,rfl,by decide +kernel,by decide +kernel⟩
theorem sc_head_faults:FnScope ["script","found"] ["script"] (a07 a77):=⟨rfl,rfl,rfl,by decide +kernel,rfl,by decide +kernel,by decide +kernel⟩
theorem sc_names_met_again:FnScope ["things","names"] ["things"] (a07 a49):=⟨rfl,rfl,rfl,by decide +kernel,rfl,by decide +kernel,by decide +kernel⟩
theorem ac5:FnScope ["self","talk","script"] ["self","talk","script"] (a07 a43):=⟨rfl,rfl,rfl,by decide +kernel,rfl,by decide +kernel,by decide +kernel⟩
theorem ag8:FnScope ["self","word","what"] ["self","word","what"] (a07 ab0):=⟨rfl,rfl,rfl,by decide +kernel,rfl,by decide +kernel,by decide +kernel⟩
theorem sc_TalkLook_look_body:FnScope ["self","body","in_loop","statement"] ["self","body","in_loop"] (a07 a76):=⟨rfl,rfl,rfl,by decide +kernel,rfl,by decide +kernel,by decide +kernel⟩
theorem sc_TalkLook_look_statement:FnScope ["self","statement","in_loop","kind","body"] ["self","statement","in_loop"] (a07 a53):=⟨rfl,rfl,rfl,by decide +kernel,rfl,by decide +kernel,by decide +kernel⟩
theorem sc_TalkLook_look_names:FnScope ["self","names","name"] ["self","names"] (a07 a68):=⟨rfl,rfl,rfl,by decide +kernel,rfl,by decide +kernel,by decide +kernel⟩
theorem sc_TalkLook_look_wait:FnScope ["self","statement","in_loop","patterns","place","branch"] ["self","statement","in_loop"] (a07 a52):=⟨rfl,rfl,rfl,by decide +kernel,rfl,by decide +kernel,by decide +kernel⟩
theorem sc_first_talk:FnScope ["talks","name","place","talk"] ["talks","name"] (a07 ag3):=⟨rfl,rfl,rfl,by decide +kernel,rfl,by decide +kernel,by decide +kernel⟩
theorem sc_round_faults:FnScope ["talks","called"] ["talks"] (a07 a65):=⟨rfl,rfl,rfl,by decide +kernel,rfl,by decide +kernel,by decide +kernel⟩
theorem sc_called_talks:FnScope ["talks","body","numbers"] ["talks","body"] (a07 a66):=⟨rfl,rfl,rfl,by decide +kernel,rfl,by decide +kernel,by decide +kernel⟩
theorem sc_comes_round:FnScope ["talk","called","reached","ahead","number"] ["talk","called"] (a07 ae3):=⟨rfl,rfl,rfl,by decide +kernel,rfl,by decide +kernel,by decide +kernel⟩
theorem sc_dry_faults:FnScope ["talks","found","known","name","body","loops"] ["talks"] (a07 a85):=⟨rfl,rfl,rfl,by decide +kernel,rfl,by decide +kernel,by decide +kernel⟩
theorem sc_is_dry:FnScope ["loop","talks","known","ends"] ["loop","talks","known"] (a07 aw8):=⟨rfl,rfl,rfl,by decide +kernel,rfl,by decide +kernel,by decide +kernel⟩
theorem sc_ends_of_body:FnScope ["body","talks","known","ends","statement"] ["body","talks","known"] (a07 a67):=⟨rfl,rfl,rfl,by decide +kernel,rfl,by decide +kernel,by decide +kernel⟩
theorem sc_ends_of_statement:FnScope ["statement","talks","known","kind","ends"] ["statement","talks","known"] (a07 a79):=⟨rfl,rfl,rfl,by decide +kernel,rfl,by decide +kernel,by decide +kernel⟩
theorem ar8:FnScope ["ends","kept"] ["ends","kept"] (a07 ad3):=⟨rfl,rfl,rfl,by decide +kernel,rfl,by decide +kernel,by decide +kernel⟩
theorem ai9:FnScope ["name","talks","known"] ["name","talks","known"] (a07 ac9):=⟨rfl,rfl,rfl,by decide +kernel,rfl,by decide +kernel,by decide +kernel⟩
theorem ak0:FnScope ["script","k"] ["script","k"] (a07 ae4):=⟨rfl,rfl,rfl,by decide +kernel,rfl,by decide +kernel,by decide +kernel⟩
theorem sc_law_drawn:FnScope ["cell","k","number"] ["cell","k"] (a07 ai4):=⟨rfl,rfl,rfl,by decide +kernel,rfl,by decide +kernel,by decide +kernel⟩
theorem sc_law_deck:FnScope ["script","own","cells","cell","number","k"] ["script","own"] (a07 ak9):=⟨rfl,rfl,rfl,by decide +kernel,rfl,by decide +kernel,by decide +kernel⟩
theorem sc_law_take:FnScope ["deck","many","digit"] ["deck","many"] (a07 al0):=⟨rfl,rfl,rfl,by decide +kernel,rfl,by decide +kernel,by decide +kernel⟩
theorem sc_law_wait:FnScope ["deck","deep","later","looped","limit","branches","patterns","k","pattern"] ["deck","deep","later","looped"] (a07 al1):=⟨rfl,rfl,rfl,by decide +kernel,rfl,by decide +kernel,by decide +kernel⟩
theorem sc_law_statement:FnScope ["deck","deep","later","looped","kind","body","other","some"] ["deck","deep","later","looped"] (a07 ab1):=⟨rfl,rfl,rfl,by decide +kernel,rfl,by decide +kernel,by decide +kernel⟩
theorem sc_law_body:FnScope ["deck","deep","later","looped","body","k"] ["deck","deep","later","looped"] (a07 al2):=⟨rfl,rfl,rfl,by decide +kernel,rfl,by decide +kernel,by decide +kernel⟩
theorem sc_law_script:FnScope ["deck","names","boxes","talks","many","k"] ["deck"] (a07 ag4):=⟨rfl,rfl,rfl,by decide +kernel,rfl,by decide +kernel,by decide +kernel⟩
theorem an9:FnScope ["ways","turned"] ["ways","turned"] (a07 ab2):=⟨rfl,rfl,rfl,by decide +kernel,rfl,by decide +kernel,by decide +kernel⟩
theorem sc_law_ways_of:FnScope ["talks","statement","kind","ways"] ["talks","statement"] (a07 ae5):=⟨rfl,rfl,rfl,by decide +kernel,rfl,by decide +kernel,by decide +kernel⟩
theorem sc_law_ways:FnScope ["talks","body","first","found"] ["talks","body"] (a07 ab9):=⟨rfl,rfl,rfl,by decide +kernel,rfl,by decide +kernel,by decide +kernel⟩
theorem sc_law_dry:FnScope ["talks","name","body","found","statement","ways","pattern","inner"] ["talks","name","body"] (a07 aq2):=⟨rfl,rfl,rfl,by decide +kernel,rfl,by decide +kernel,by decide +kernel⟩
theorem sc_law:FnScope ["script","deck","boxes","talks","due","name","body","handed","found"] ["script"] (a07 bs8):=⟨rfl,rfl,rfl,by decide +kernel,rfl,by decide +kernel,by decide +kernel⟩
theorem Txt.d_ENDS {K:PySem.W.Frag}{mg:Str→Option Value}{t:Adr}(T:Txt K mg t):TupK K t.ad_ENDS [.str "on",.str "again",.str "leave",.str "back",.str "stop"]:=by obtain ⟨_,its,nn,_,h1,h2,h3⟩:=T.dd_ENDS; exact ⟨_,its,nn,h1,rfl,rfl,h2,h3⟩
theorem Txt.d_NONE {K:PySem.W.Frag}{mg:Str→Option Value}{t:Adr}(T:Txt K mg t):TupK K t.ad_NONE [.str "none"]:=by obtain ⟨_,its,nn,_,h1,h2,h3⟩:=T.dd_NONE; exact ⟨_,its,nn,h1,rfl,rfl,h2,h3⟩
section
variable {P:Program}{w:World}{K:PySem.W.Frag}{mg:Str→Option Value}{base:Heap}{t:Adr}
def woO (d:Option Addr) (H:Hp):Hp:=fun a=>if d=some a then none else H a
theorem woG {d:Option Addr}{H:Hp}{a:Addr}(h:d≠some a):woO d H a=H a:=if_neg h
theorem woU {x:Addr}{H:Hp}{o:HO}:woO (some x) (upd H x o)=woO (some x) H:=funext fun a=>by
 unfold woO
 by_cases h:some x=some a
 · rw [if_pos h,if_pos h]
 · rw [if_neg h,if_neg h,a11 (fun z=>h (by rw [z]))]
theorem woS {d:Option Addr}{H H':Hp}(s:Same H H'):Same (woO d H) (woO d H'):=fun a o e=>by
 unfold woO at e ⊢
 by_cases h:d=some a
 · rw [if_pos h] at e; cases e
 · rw [if_neg h] at e ⊢
   exact s _ _ e
theorem woL {d:Option Addr}{H:Hp}:Same (woO d H) H:=fun a o e=>by
 unfold woO at e
 by_cases h:d=some a
 · rw [if_pos h] at e; cases e
 · rw [if_neg h] at e
   exact e
theorem woX {k:Addr}{H:Hp}(h:H k=none):woO (some k) H=H:=funext fun a=>by
 unfold woO
 by_cases e:some k=some a
 · rw [if_pos e,←Option.some.inj e,h]
 · rw [if_neg e]
def wdsV (E:List Wd):List V:=a25 (E.map Wd.txt)
def KS (kd:Addr) (H H':Hp):Prop:=Same (woO (some kd) H) (woO (some kd) H')
theorem KS.of {kd:Addr}{H H':Hp}(s:Same H H'):KS kd H H':=woS s
theorem KS.trans {kd:Addr}{H H' H2:Hp}(a:KS kd H H') (b:KS kd H' H2):KS kd H H2:=Same.trans a b
theorem KS.at {kd:Addr}{H H':Hp}(s:KS kd H H') {a:Addr}{o:HO}(h:a≠kd) (e:H a=some o):H' a=some o:=by
 have:=s a o (by rw [woG (fun z=>h (Option.some.inj z).symm)]; exact e)
 rw [woG (fun z=>h (Option.some.inj z).symm)] at this
 exact this
def TkN (H:Hp) (v:V) (x:Str×List Stm):Prop:=∃ a u,v=.ref a∧H a=some (.tup [.str x.1,u])∧BAt H u x.2
theorem TkN.same {H H':Hp}{v:V}{x:Str×List Stm}(h:TkN H v x) (s:Same H H'):TkN H' v x:=by
 obtain ⟨a,u,z1,z2,z3⟩:=h
 exact ⟨a,u,z1,s _ _ z2,z3.same s⟩
def TksAt (H:Hp) (v:V) (ts:Tks):Prop:=∃ lt tvs,v=.ref lt∧H lt=some (.lst tvs)∧Each (TkN H) tvs ts∧ts.length≤100
theorem TksAt.same {H H':Hp}{v:V}{ts:Tks}(h:TksAt H v ts) (s:Same H H'):TksAt H' v ts:=by
 obtain ⟨lt,tvs,z1,z2,z3,z4⟩:=h
 exact ⟨lt,tvs,z1,s _ _ z2,z3.mono fun _ _ z=>z.same s,z4⟩
structure KnAt (p:Addr→Prop) (ts:Tks) (H:Hp) (kd:Addr) (kvs:List (Key×V)):Prop where
 h:H kd=some (.dK kvs)
 x:∀ a,p a→H a≠none
 n:(kvs.map (·.1)).Nodup
 k:∀ k∈kvs.map (·.1),∃ nm∈ts.map (·.1),k=Sum.inr nm
 v:∀ nm v,valV kvs (Sum.inr nm)=some v→∃ l b n E,v=.ref l∧(l≠kd∧¬ p l)∧a51 ts nm=some b∧eBf (eS ts n) b=some E∧H l=some (.lst (wdsV E))
theorem KnAt.len {p:Addr→Prop}{ts:Tks}{H:Hp}{kd:Addr}{kvs:List (Key×V)}(h:KnAt p ts H kd kvs):kvs.length≤ts.length:=by
 have:=List.Nodup.length_le_of_subset h.n (l₂:=(ts.map (·.1)).map (fun n=>(Sum.inr n:Key))) (fun k hk=>by
  obtain ⟨nm,h1,rfl⟩:=h.k k hk
  exact List.mem_map.mpr ⟨nm,h1,rfl⟩)
 simpa using this
theorem KnAt.same {p:Addr→Prop}{ts:Tks}{H H':Hp}{kd:Addr}{kvs:List (Key×V)}(h:KnAt p ts H kd kvs) (s:Same H H'):KnAt p ts H' kd kvs :=
 ⟨s _ _ h.h,fun a ha z=>(by
  cases e:H a with
  | none=>exact h.x a ha e
  | some o=>rw [s _ _ e] at z; cases z),h.n,h.k,fun nm v hv=>by
  obtain ⟨l,b,n,E,z1,z2,z3,z4,z5⟩:=h.v nm v hv
  exact ⟨l,b,n,E,z1,z2,z3,z4,s _ _ z5⟩⟩
def bm7 (K:PySem.W.Frag):Sp:=fun vs H Q _=>∃ (a k:Addr) (E M:List Wd),vs=[.ref a,.ref k]∧H a=some (.lst (wdsV E))∧H k=some (.tup (wdsV M))∧E.length≤100∧∀ l H',H l=none→Same H H'→H' l=some (.lst (wdsV (E.filter fun w=>decide (w∈M))))→Q (.ref l) H'
theorem strs_at {ys:List Str}{i:Nat}{v:V}(h:(a25 ys)[i]?=some v):∃ y,ys[i]?=some y∧v=.str y:=by
 unfold a25 at h
 rw [List.getElem?_map] at h
 obtain ⟨w,h1,h2⟩:=Option.map_eq_some_iff.mp h
 exact ⟨w,h1,h2.symm⟩
theorem am0 {E:List Wd}{i:Nat}{v:V}(h:(wdsV E)[i]?=some v):∃ w,E[i]?=some w∧v=.str w.txt:=by
 obtain ⟨y,h1,rfl⟩:=strs_at h
 rw [List.getElem?_map] at h1
 obtain ⟨w,h2,rfl⟩:=Option.map_eq_some_iff.mp h1
 exact ⟨w,h2,rfl⟩
theorem b81 (E:List Wd) (w:Wd):inV (.str w.txt) (wdsV E)=decide (w∈E):=by
 unfold wdsV
 rw [ah4,decide_eq_decide,List.mem_map]
 exact ⟨fun ⟨x,h1,h2⟩=>by rw [← ah5 h2]; exact h1,fun h=>⟨w,h,rfl⟩⟩
theorem a24 (E:List Wd):(wdsV E).length=E.length:=by simp [wdsV,a25]
theorem ah6 (E:List Wd):(wdsV E).all ae1=true:=by simp [wdsV,a25,ae1]
theorem ar9 (T:Txt K mg t):FnOk P w K mg base CX0 1 t.a_kept_ends t.fd_kept_ends ["ends","kept"] (bm7 K):=by
 refine T.f_kept_ends.F.ok ar8 (fun vs H Q E h=>?_) (fun cdv A outer s H vs Q E hr h=>?_)
 · obtain ⟨a,k,E,M,rfl,_⟩:=h
   rfl
 · obtain ⟨a,k,E,M,rfl,ha,hk,hl,q⟩:=h
   refine ⟨_,(@a04 _ _ _ (@a17 _ _ _ _ (ac4 (Nt:=["word"]) (Nf:=["kept"]) (caps:=[1]) rfl (a41 (sc:=a07 ad3) rfl rfl (by decide +kernel) (by decide +kernel) (by decide +kernel) rfl (by decide +kernel)) (a21 K (pv 0)) (fun _ _ _ _ _=>(a13 (i:=0) (show (["word","kept"]:List Str).Nodup by decide +kernel) rfl (by walk_at "o"))) (fun _ _ _ _ _=>(@a73 _ _ _ (@a08 _ _ _ _ _ _ _ _ (a80 K) (pv 0) (pv 1) (by with_unfolding_all rfl)))) (fun _ _ _ _ _=>(pv 0))))),?_⟩
   have sl:(1000000:Nat)≤sizeLine:=le_line (Nat.le_refl _)
   walk_at "go"
   refine ⟨⟨_,SqL.of ha⟩,a60 (xs:=wdsV E) (le_line (by rw [a24]; omega)) (fun i acc H'=>H=H'∧acc=wdsV ((E.take i).filter fun w=>decide (w∈M))∧i≤E.length) ⟨rfl,rfl,Nat.zero_le _⟩ (fun i acc H' zz=>by
    obtain ⟨rfl,rfl,hi⟩:=zz
    have:=List.length_filter_le (fun w=>decide (w∈M)) (E.take i)
    rw [List.length_take] at this
    exact ⟨by rw [a24]; omega,SqL.of ha⟩) ?_ ?_⟩
   · rintro i x acc H' hx ⟨rfl,rfl,hi⟩
     obtain ⟨w,hw,rfl⟩:=am0 hx
     have hil:=(List.getElem?_eq_some_iff.mp hw).1
     walk_at "run"
     refine ⟨k,wdsV M,rfl,.inr (SqT.of hk),rfl,ah6 M,?_⟩
     rw [b81]
     walk_at "run"
     rw [if_neg Bool.false_ne_true]
     have e:(E.take (i+1)).filter (fun w=>decide (w∈M))=(E.take i).filter (fun w=>decide (w∈M))++(if w∈M then [w] else []):=by
      rw [List.take_add_one,hw,Option.toList_some,List.filter_append]
      by_cases h:w∈M
      · rw [if_pos h]; simp [h]
      · rw [if_neg h]; simp [h]
     rw [e]
     by_cases h:w∈M
     · rw [if_pos (decide_eq_true h),if_pos h]
       walk_at "run"
       exact ⟨rfl,by simp [wdsV,a25],hil⟩
     · rw [if_neg (by simp [h]),if_neg h,List.append_nil]
       exact ⟨rfl,rfl,hil⟩
   · rintro acc H' ⟨rfl,rfl,_⟩ p H1 f1 s1 e1
     rw [a24,List.take_length] at e1
     exact q p H1 f1 s1 e1
theorem b82 {ts:Tks}{nm:Str}:∀ {i:Nat}{x:Str×List Stm},ts[i]?=some x→x.1=nm→(∀ j x,j<i→ts[j]?=some x→x.1≠nm)→a51 ts nm=some x.2:=by
 induction ts with
 | nil=>intro i x h; simp at h
 | cons y ts ih =>
   intro i x h hn hj
   cases i with
   | zero =>
     simp at h
     subst h
     unfold a51
     rw [List.find?_cons_of_pos (by simpa using hn)]
     rfl
   | succ i =>
     have h0:=hj 0 y (by omega) rfl
     have:=ih (i:=i) (x:=x) (by simpa using h) hn fun j z hj' hz=>hj (j+1) z (by omega) (by simpa using hz)
     unfold a51 at this ⊢
     rw [List.find?_cons_of_neg (by simpa using h0)]
     exact this
def bd4 (K:PySem.W.Frag):Sp:=fun vs H Q _=>∃ (tv:V) (nm:Str) (ts:Tks) (b:List Stm),vs=[tv,.str nm]∧TksAt H tv ts∧a51 ts nm=some b∧∀ (i:Nat) (x:Str×List Stm) (H':Hp),Same H H'→ts[i]?=some x→x.2=b→x.1=nm→Q (.int (i:Nat)) H'
theorem af3 (T:Txt K mg t):FnOk P w K mg base CX0 1 t.a_first_talk t.fd_first_talk ["talks","name"] (bd4 K):=by
 refine T.f_first_talk.F.ok sc_first_talk (fun vs H Q E h=>?_) (fun cdv A outer s H vs Q E hr h=>?_)
 · obtain ⟨tv,nm,ts,b,rfl,_⟩:=h
   rfl
 · obtain ⟨tv,nm,ts,b,rfl,⟨lt,tvs,rfl,ht,hE,hl⟩,hf,q⟩:=h
   refine ⟨_,(@a02 _ _ _ _ _ (@a62 _ _ _ _ _ _ _ _ PassesOwn.never rfl (am9 K rfl T.z_enumerate (@a00 _ _ _ _ _ (pv 0) (@a01 _) (by rfl))) (a74 K (n:=2) rfl (a27 (a13 (i:=2) sc_first_talk.nd rfl (by walk_at "o")) (a27 (a13 (i:=3) sc_first_talk.nd rfl (by walk_at "o")) (@a71 _)))) (@a04 _ _ _ (@a33 _ _ _ _ _ _ _ _ (@a08 _ _ _ _ _ _ _ _ a38 (@a19 _ _ _ _ _ _ _ (a10 K) (pv 3) (@a03 _ _ _ _) (fun _ _=>rfl)) (pv 1) (nomark _)) (@a04 _ _ _ (@a17 _ _ _ _ (pv 2))) (@a12 _))) (by intro _; rfl))
    (@a04 _ _ _ (@a17 _ _ _ _ (@bf0 _ _ _)))),?_⟩
   have sl:(1000000:Nat)≤sizeLine:=le_line (Nat.le_refl _)
   walk_at "go"
   refine ⟨⟨_,SqL.of ht⟩,ax2 (K:=K) (a:=lt) (xs:=tvs) (fun i σ H'=>Same H H'∧i≤ts.length∧(∀ j x,j<i→ts[j]?=some x→x.1≠nm)∧∃ y1 y2,σ=[some (.ref lt),some (.str nm),y1,y2]) ⟨Same.refl _,Nat.zero_le _,fun j x h=>absurd h (Nat.not_lt_zero _),_,_,rfl⟩ (fun i σ H' _ zz=>by obtain ⟨z,_⟩:=zz; exact SqL.of (z _ _ ht)) ?_ ?_⟩
   · rintro i v σ H2 pq H3 hv ⟨s2,hi,hno,y1,y2,rfl⟩ s3 e3
     have hil:i<ts.length:=by rw [← hE.1]; exact (List.getElem?_eq_some_iff.mp hv).1
     obtain ⟨x,hx⟩:∃ x,ts[i]?=some x:=⟨_,List.getElem?_eq_getElem hil⟩
     obtain ⟨a,u,rfl,ea,_⟩:=hE.2 i v x hv hx
     refine ⟨_,_,rfl,SqT.of e3,rfl,?_⟩
     walk_at "run"
     have s23:=s2.trans s3
     refine a23 (SqT.of (s23 _ _ ea)) (a06 (j:=0) rfl) ?_
     walk_at "run"
     by_cases h:x.1=nm
     · refine a35 h ?_
       walk_at "run"
       have:=b82 hx h hno
       rw [hf] at this
       exact q i x H3 s23 hx (Option.some.inj this).symm h
     · refine a28 h ?_
       walk_at "run"
       refine ⟨s23,hil,fun j y hj hy=>?_,_,_,rfl⟩
       by_cases hji:j=i
       · subst hji
         rw [hx] at hy
         rw [← Option.some.inj hy]
         exact h
       · exact hno j y (by omega) hy
   · rintro σ H2 ⟨s2,_,hno,y1,y2,rfl⟩
     exfalso
     unfold a51 at hf
     obtain ⟨x,hx,rfl⟩:=Option.map_eq_some_iff.mp hf
     have hm:=List.mem_of_find?_eq_some hx
     have hp:=List.find?_some hx
     obtain ⟨j,hj⟩:=List.mem_iff_getElem?.mp hm
     exact hno j x (by rw [hE.1]; exact (List.getElem?_eq_some_iff.mp hj).1) hj (by simpa using hp)
theorem bh7 {H:Hp}:∀ {ps:List Pt}{vs:List V}{fs:List Addr},Tr.Ats H (ps.map Pt.tr) vs fs→vs=ps.map Pt.v
 | [],vs,fs,h=>by
   simp only [List.map_nil,Tr.Ats] at h
   exact h.1
 | p::ps,vs,fs,h=>by
   simp only [List.map_cons,Tr.Ats] at h
   obtain ⟨v,ws,f,g,rfl,_,h1,h2⟩:=h
   rw [bh7 h2]
   cases p with
   | s z=>simp only [Pt.tr,Tr.At] at h1; rw [h1.1]; rfl
   | i z=>simp only [Pt.tr,Tr.At] at h1; rw [h1.1]; rfl
theorem ax7 {H:Hp}{v:V}{ps:List Pt}(h:SAt H v (.plain ps)):∃ a,v=.ref a∧H a=some (.tup (ps.map Pt.v)):=by
 obtain ⟨fs,h⟩:=h
 simp only [Stm.tr,Tr.At] at h
 obtain ⟨a,vs,rfl,e,h2⟩:=h
 rw [bh7 h2] at e
 exact ⟨a,rfl,e⟩
theorem ax8 {H:Hp}{a:Addr}{ps:List Pt}(e:H a=some (.tup (ps.map Pt.v))):SAt H (.ref a) (.plain ps):=by
 have:∀ ps:List Pt,Tr.Ats H (ps.map Pt.tr) (ps.map Pt.v) []:=fun ps=>by
  induction ps with
  | nil=>simp [Tr.Ats]
  | cons p ps ih =>
    simp only [List.map_cons,Tr.Ats]
    refine ⟨_,_,[],[],rfl,rfl,?_,ih⟩
    cases p with
    | s z=>simp [Pt.tr,Pt.v,Tr.At]
    | i z=>simp [Pt.tr,Pt.v,Tr.At]
 refine ⟨[],?_⟩
 simp only [Stm.tr,Tr.At]
 exact ⟨a,_,rfl,e,this ps⟩
theorem bd5 {H:Hp}{v:V}{n:Str}{e:Ex}(h:SAt H v (.put n e)):∃ a u,v=.ref a∧H a=some (.tup [.str "put",.str n,u]):=by
 obtain ⟨fs,h⟩:=h
 simp only [Stm.tr,Tr.At,Tr.Ats] at h
 obtain ⟨a,vs,rfl,e1,v1,w1,f1,g1,rfl,rfl,⟨rfl,rfl⟩,v2,w2,f2,g2,rfl,rfl,⟨rfl,rfl⟩,v3,w3,f3,g3,rfl,rfl,_,rfl,rfl⟩:=h
 exact ⟨a,v3,rfl,e1⟩
theorem as0 {κ:Type} [DecidableEq κ] {kvs:List (κ×V)}{k:κ}{v:V}:(putK kvs k v).map (·.1)=if k∈kvs.map (·.1) then kvs.map (·.1) else kvs.map (·.1)++[k]:=by
 unfold putK
 by_cases h:k∈kvs.map (·.1)
 · rw [if_pos h,if_pos ?_]
   · rw [List.map_map]
     refine List.map_congr_left fun x _=>?_
     simp only [Function.comp]
     split
     · rfl
     · rfl
   · rw [List.any_eq_true]
     obtain ⟨x,hx,e⟩:=List.mem_map.mp h
     exact ⟨x,hx,decide_eq_true e⟩
 · rw [if_neg h,if_neg ?_]
   · simp
   · rw [List.any_eq_true]
     rintro ⟨x,hx,e⟩
     exact h (List.mem_map.mpr ⟨x,hx,of_decide_eq_true e⟩)
theorem KnAt.put {p:Addr→Prop}{ts:Tks}{H:Hp}{kd l:Addr}{kvs:List (Key×V)}{nm:Str}{b:List Stm}{n:Nat}{E:List Wd}(h:KnAt p ts H kd kvs) (hn:nm∈ts.map (·.1)) (hl:l≠kd∧¬ p l) (hf:a51 ts nm=some b) (he:eBf (eS ts n) b=some E) (e:H l=some (.lst (wdsV E))):KnAt p ts (upd H kd (.dK (putK kvs (Sum.inr nm) (.ref l)))) kd (putK kvs (Sum.inr nm) (.ref l)):=by
 refine ⟨a14,fun a ha z=>?_,?_,fun k hk=>?_,fun nm' v hv=>?_⟩
 · by_cases e:a=kd
   · rw [e,a14] at z; cases z
   · rw [a11 e] at z; exact h.x a ha z
 · rw [as0]
   split
   · exact h.n
   · rename_i hm
     rw [List.nodup_append]
     exact ⟨h.n,by simp,fun a ha b hb z=>hm (by rw [← List.mem_singleton.mp hb,←z]; exact ha)⟩
 · rw [as0] at hk
   split at hk
   · exact h.k k hk
   · rcases List.mem_append.mp hk with hk | hk
     · exact h.k k hk
     · exact ⟨nm,hn,List.mem_singleton.mp hk⟩
 · rw [ah2] at hv
   split at hv
   · rename_i hh
     obtain rfl:=Sum.inr.inj hh
     obtain rfl:=Option.some.inj hv
     exact ⟨l,b,n,E,rfl,hl,hf,he,by rw [a11 hl.1]; exact e⟩
   · obtain ⟨l',b',n',E',z1,z2,z3,z4,z5⟩:=h.v nm' v hv
     exact ⟨l',b',n',E',z1,z2,z3,z4,by rw [a11 z2.1]; exact z5⟩
theorem b09 {ts:Tks}{nm:Str}{b:List Stm}(h:a51 ts nm=some b):nm∈ts.map (·.1):=by
 unfold a51 at h
 obtain ⟨x,hx,_⟩:=Option.map_eq_some_iff.mp h
 have:=List.find?_some hx
 exact List.mem_map.mpr ⟨x,List.mem_of_find?_eq_some hx,by simpa using this⟩
theorem aa2 (a b:List Wd):wdsV a++wdsV b=wdsV (a++b):=by simp [wdsV,a25]
theorem bm8 (k:Str):inV (.str k) (wdsV allW)=(endW k).isSome:=by
 unfold wdsV
 rw [ah4,Bool.eq_iff_iff,decide_eq_true_iff,List.mem_map]
 constructor
 · rintro ⟨w,_,rfl⟩
   cases h:endW w.txt with
   | some v=>rfl
   | none=>exact absurd rfl (ar5 h w)
 · intro h
   obtain ⟨w,hw⟩:=Option.isSome_iff_exists.mp h
   exact ⟨w,an7 w,ai7 hw⟩
theorem bd6 {K:PySem.W.Frag}{p:Addr}{H:Hp}{Q:VK}{k:Str}(h1:SqT K H p (wdsV allW)) (h:Q (.bl (endW k).isSome) H):rIn K false (.str k) (.ref p) H Q:=⟨p,wdsV allW,rfl,.inr h1,rfl,ah6 _,by rw [if_neg Bool.false_ne_true,bm8]; exact h⟩
theorem ad0 {K:PySem.W.Frag}{p:Addr}{H:Hp}{Q:VK}{E:List Wd}(w:Wd) (h1:H p=some (.lst (wdsV E))) (h:Q (.bl (decide (w∈E))) H):rIn K false (.str w.txt) (.ref p) H Q:=⟨p,wdsV E,rfl,.inl (SqL.of h1),rfl,ah6 _,by rw [if_neg Bool.false_ne_true,b81]; exact h⟩
theorem bz8 {K:PySem.W.Frag}{p:Addr}{H:Hp}{Q:VK}{E:List Wd}(w:Wd) (h1:H p=some (.lst (wdsV E))) (h:Q (.bl (!decide (w∈E))) H):rIn K true (.str w.txt) (.ref p) H Q:=⟨p,wdsV E,rfl,.inl (SqL.of h1),rfl,ah6 _,by rw [if_pos rfl,b81]; exact h⟩
theorem aa3 {kd l:Addr}{H H2:Hp}{o:HO}(hk:H2 kd=some o) (s:KS kd H H2) (f:H2 l=none):H l=none:=by
 cases h:H l with
 | none=>rfl
 | some o' =>
   exfalso
   by_cases hz:l=kd
   · rw [hz,hk] at f; cases f
   · rw [s.at hz h] at f; cases f
theorem ax9 (E:List Wd):E.filter (fun w=>decide (w∈[Wd.back,Wd.stop]))=E.filter (fun w=>decide (w=.back∨w=.stop)):=by
 congr 1
 funext w
 simp
theorem ao0 (E:List Wd):E.filter (fun w=>decide (w∈[Wd.stop]))=E.filter (fun w=>decide (w=.stop)):=by
 congr 1
 funext w
 simp
def bd7 (K:PySem.W.Frag) (d:Nat):Sp:=fun vs H Q _=>∃ (bv tv:V) (kd:Addr) (kvs:List (Key×V)) (b:List Stm) (ts:Tks) (n:Nat) (E:List Wd) (p:Addr→Prop),vs=[bv,tv,.ref kd]∧BAt (woO (some kd) H) bv b∧TksAt (woO (some kd) H) tv ts∧KnAt p ts H kd kvs∧n<d∧eBf (eS ts n) b=some E∧∀ l H' kvs',KS kd H H'→KnAt p ts H' kd kvs'→H l=none→H' l=some (.lst (wdsV E))→Q (.ref l) H'
def bz9 (K:PySem.W.Frag) (d:Nat):Sp:=fun vs H Q _=>∃ (sv tv:V) (kd:Addr) (kvs:List (Key×V)) (s:Stm) (ts:Tks) (n:Nat) (r:List Wd) (p:Addr→Prop),vs=[sv,tv,.ref kd]∧SAt (woO (some kd) H) sv s∧TksAt (woO (some kd) H) tv ts∧KnAt p ts H kd kvs∧n<d∧eS ts n s=some r∧∀ l H' kvs',KS kd H H'→KnAt p ts H' kd kvs'→H l=none→H' l=some (.lst (wdsV r))→Q (.ref l) H'
def c00 (K:PySem.W.Frag) (d:Nat):Sp:=fun vs H Q _=>∃ (nm:Str) (tv:V) (kd:Addr) (kvs:List (Key×V)) (b:List Stm) (ts:Tks) (n:Nat) (E:List Wd) (p:Addr→Prop),vs=[.str nm,tv,.ref kd]∧a51 ts nm=some b∧TksAt (woO (some kd) H) tv ts∧KnAt p ts H kd kvs∧n<d∧eBf (eS ts n) b=some E∧∀ l H' kvs',KS kd H H'→KnAt p ts H' kd kvs'→l≠kd→H' l=some (.lst (wdsV E))→Q (.ref l) H'
theorem aj0 (T:Txt K mg t) {d:Nat}(G_ends_of_body:FnOk P w K mg base CX0 (3*d+1) t.a_ends_of_body t.fd_ends_of_body ["body","talks","known"] (bd7 K d)):FnOk P w K mg base CX0 (3*d+2) t.a_ends_of_talk t.fd_ends_of_talk ["name","talks","known"] (c00 K d):=by
 have G_first_talk:=af3 (P:=P) (w:=w) (base:=base) T
 refine T.f_ends_of_talk.F.ok ai9 (fun vs H Q E h=>?_) (fun cdv A outer s H vs Q E hr h=>?_)
 · obtain ⟨nm,tv,kd,kvs,b,ts,n,E0,p,rfl,_⟩:=h
   rfl
 · obtain ⟨nm,tv,kd,kvs,b,ts,n,E0,p,rfl,hf,ht,hk,hn,he,q⟩:=h
   refine ⟨_,(@a30 _ _ _ _ _ (@a33 _ _ _ _ _ _ _ _ (bf1 (b48 (by exact b05 hr) (pv 0) (pv 2))) (@a04 _ _ _ (bk4 (by exact b05 hr) (pv 2) (pv 0) (@a09 _ _ _ _ _ _ _ _ _ _ _ _ _ _ _ _ G_ends_of_body (hr.mono (by omega)) rfl T.f_ends_of_body.m T.f_ends_of_body.F.kp T.f_ends_of_body.b .nil a18 (@a00 _ _ _ _ _ (@a19 _ _ _ _ _ _ _ (a10 K) (@a19 _ _ _ _ _ _ _ (a31 K) (pv 1) (@a09 _ _ _ _ _ _ _ _ _ _ _ _ _ _ _ _ G_first_talk (hr.mono (by omega)) rfl T.f_first_talk.m T.f_first_talk.F.kp T.f_first_talk.b .nil a18 (@a00 _ _ _ _ _ (pv 1) (@a00 _ _ _ _ _ (pv 0) (@a01 _) (by rfl)) (by rfl)) (by decide) (by rfl) (by rfl)) (fun _ _=>rfl)) (@a03 _ _ _ _) (fun _ _=>rfl)) (@a00 _ _ _ _ _ (pv 1) (@a00 _ _ _ _ _ (pv 2) (@a01 _) (by rfl)) (by rfl)) (by rfl)) (by decide) (by rfl) (by rfl)) rfl)) (@a12 _))
    (@a04 _ _ _ (@a17 _ _ _ _ (@au0 _ _ _ _ _ _ (by exact b05 hr) (pv 2) (pv 0) (fun _ _=>rfl))))),?_⟩
   have sl:(1000000:Nat)≤sizeLine:=le_line (Nat.le_refl _)
   walk_at "go"
   refine a64 (fun σ' H'=>σ'=[some (.str nm),some tv,some (.ref kd)]∧∃ kvs',KS kd H H'∧KnAt p ts H' kd kvs'∧(valV kvs' (Sum.inr nm)).isSome=true) ?_ ?_
   · walk_at "run"
     refine ⟨kd,_,rfl,DGet.k (k:=Sum.inr nm) hk.h,?_⟩
     walk_at "run"
     cases hv0:valV kvs (Sum.inr nm) with
     | some v =>
       rw [if_neg (by simp)]
       walk_at "run"
       exact ⟨rfl,kvs,Same.refl _,hk,by rw [hv0]; rfl⟩
     | none =>
       rw [if_pos (by simp)]
       walk_at "run"
       refine ⟨tv,nm,ts,b,rfl,ht.same woL,hf,fun i x H1 s1 hx e1 e2=>?_⟩
       obtain ⟨lt,tvs,htv,h1,h2,h3⟩:=id ht
       subst htv
       have hil:=(List.getElem?_eq_some_iff.mp hx).1
       obtain ⟨v,hv⟩:∃ v,tvs[i]?=some v:=⟨_,List.getElem?_eq_getElem (by rw [h2.1]; exact hil)⟩
       obtain ⟨a,u,rfl,ea,hb⟩:=h2.2 i v x hv hx
       refine a83 (SqL.of (s1 _ _ (woL _ _ h1))) (a06 (j:=i) hv) ?_
       walk_at "run"
       refine a23 (SqT.of (s1 _ _ (woL _ _ ea))) (a06 (j:=1) rfl) ?_
       walk_at "run"
       rw [e1] at hb
       refine ⟨u,.ref lt,kd,kvs,b,ts,n,E0,p,rfl,hb.same (woS s1),ht.same (woS s1),hk.same s1,hn,he,fun l H2 kvs2 s2 k2 hl0 e3=>?_⟩
       walk_at "run"
       have hlk:l≠kd:=fun z=>by rw [z,s1 _ _ hk.h] at hl0; cases hl0
       have:=k2.len
       have:=h3
       refine ⟨kd,_,rfl,DPut.k (k:=Sum.inr nm) k2.h (by omega),?_⟩
       have k3:=k2.put (b09 hf) ⟨hlk,fun z=>(hk.same s1).x l z hl0⟩ hf he e3
       have s3:KS kd H (upd H2 kd (.dK (putK kvs2 (Sum.inr nm) (.ref l)))):=by
        have:=(KS.of s1).trans s2
        unfold KS at this ⊢
        rw [woU]
        exact this
       refine ⟨rfl,_,s3,k3,?_⟩
       rw [ah2,if_pos rfl]
       rfl
   rintro σ' H1 ⟨rfl,kvs1,s1,k1,hv⟩
   walk_at "run"
   obtain ⟨v,hv⟩:=Option.isSome_iff_exists.mp hv
   obtain ⟨l,b',n',E',rfl,z2,z3,z4,z5⟩:=k1.v nm v hv
   rw [hf] at z3
   obtain rfl:=Option.some.inj z3
   obtain rfl:=bz1 he z4
   have hD:=DGet.k (k:=Sum.inr nm) k1.h
   rw [hv] at hD
   exact ⟨kd,_,rfl,hD,q l H1 kvs1 s1 k1 z2.1 z5⟩
theorem ac6 (T:Txt K mg t) {d:Nat}(G_ends_of_body:FnOk P w K mg base CX0 (3*d+1) t.a_ends_of_body t.fd_ends_of_body ["body","talks","known"] (bd7 K d)) (G_ends_of_talk:FnOk P w K mg base CX0 (3*d+2) t.a_ends_of_talk t.fd_ends_of_talk ["name","talks","known"] (c00 K d)):FnOk P w K mg base CX0 (3*d+3) t.a_ends_of_statement t.fd_ends_of_statement ["statement","talks","known"] (bz9 K (d+1)):=by
 have G_kept_ends:=ar9 (P:=P) (w:=w) (base:=base) T
 refine T.f_ends_of_statement.F.ok sc_ends_of_statement (fun vs H Q E h=>?_) (fun cdv A outer s H vs Q E hr h=>?_)
 · obtain ⟨sv,tv,kd,kvs,s0,ts,n,r,p,rfl,_⟩:=h
   rfl
 · obtain ⟨sv,tv,kd,kvs,s0,ts,n,r,p,rfl,hs,ht,hk,hn,he,q⟩:=h
   refine ⟨_,(@a02 _ _ _ _ _ (@a16 _ _ 3 _ _ _ _ sc_ends_of_statement.nd rfl (by walk_at "o") (@a19 _ _ _ _ _ _ _ (a10 K) (pv 0) (@a03 _ _ _ _) (fun _ _=>rfl)) (by rfl) (by walk_at "o"))
    (@a02 _ _ _ _ _ (@a33 _ _ _ _ _ _ _ _ (@a08 _ _ _ _ _ _ _ _ a38 (pv 3) (@a05 _ _ _ _) (nomark _)) (@a04 _ _ _ (@a17 _ _ _ _ (@a15 _ _ _ _ (@a01 _)))) (@a12 _))
    (@a02 _ _ _ _ _ (@a33 _ _ _ _ _ _ _ _ (@a08 _ _ _ _ _ _ _ _ a38 (pv 3) (@a05 _ _ _ _) (nomark _)) (@a04 _ _ _ (@a17 _ _ _ _ (@a37 _ _ _ _ _ _ _ _ a32 (@a09 _ _ _ _ _ _ _ _ _ _ _ _ _ _ _ _ G_ends_of_body (hr.mono (by omega)) rfl T.f_ends_of_body.m T.f_ends_of_body.F.kp T.f_ends_of_body.b .nil a18 (@a00 _ _ _ _ _ (@a19 _ _ _ _ _ _ _ (a10 K) (pv 0) (@a03 _ _ _ _) (fun _ _=>rfl)) (@a00 _ _ _ _ _ (pv 1) (@a00 _ _ _ _ _ (pv 2) (@a01 _) (by rfl)) (by rfl)) (by rfl)) (by decide) (by rfl) (by rfl)) (@a09 _ _ _ _ _ _ _ _ _ _ _ _ _ _ _ _ G_ends_of_body (hr.mono (by omega)) rfl T.f_ends_of_body.m T.f_ends_of_body.F.kp T.f_ends_of_body.b .nil a18 (@a00 _ _ _ _ _ (@a19 _ _ _ _ _ _ _ (a10 K) (pv 0) (@a03 _ _ _ _) (fun _ _=>rfl)) (@a00 _ _ _ _ _ (pv 1) (@a00 _ _ _ _ _ (pv 2) (@a01 _) (by rfl)) (by rfl)) (by rfl)) (by decide) (by rfl) (by rfl))))) (@a12 _))
    (@a02 _ _ _ _ _ (@a33 _ _ _ _ _ _ _ _ (@a08 _ _ _ _ _ _ _ _ a38 (pv 3) (@a05 _ _ _ _) (nomark _)) (@a02 _ _ _ _ _ (@a16 _ _ 4 _ _ _ _ sc_ends_of_statement.nd rfl (by walk_at "o") (@a09 _ _ _ _ _ _ _ _ _ _ _ _ _ _ _ _ G_ends_of_body (hr.mono (by omega)) rfl T.f_ends_of_body.m T.f_ends_of_body.F.kp T.f_ends_of_body.b .nil a18 (@a00 _ _ _ _ _ (@a19 _ _ _ _ _ _ _ (a10 K) (pv 0) (@a03 _ _ _ _) (fun _ _=>rfl)) (@a00 _ _ _ _ _ (pv 1) (@a00 _ _ _ _ _ (pv 2) (@a01 _) (by rfl)) (by rfl)) (by rfl)) (by decide) (by rfl) (by rfl)) (by rfl) (by walk_at "o"))
     (@a04 _ _ _ (@a17 _ _ _ _ (@a37 _ _ _ _ _ _ _ _ a32 (@aw4 _ _ _ _ _ _ _ _ (@a08 _ _ _ _ _ _ _ _ (a80 K) (@a05 _ _ _ _) (pv 4) (by with_unfolding_all rfl)) (@a15 _ _ _ _ (@a00 _ _ _ _ _ (@a05 _ _ _ _) (@a01 _) (by rfl))) (@a15 _ _ _ _ (@a01 _))) (@a09 _ _ _ _ _ _ _ _ _ _ _ _ _ _ _ _ G_kept_ends (hr.mono (by omega)) rfl T.f_kept_ends.m T.f_kept_ends.F.kp T.f_kept_ends.b .nil a18 (@a00 _ _ _ _ _ (pv 4) (@a00 _ _ _ _ _ (@a20 _ _ _ _ _ (@a00 _ _ _ _ _ (@a05 _ _ _ _) (@a00 _ _ _ _ _ (@a05 _ _ _ _) (@a01 _) (by rfl)) (by rfl))) (@a01 _) (by rfl)) (by rfl)) (by decide) (by rfl) (by rfl)))))) (@a12 _))
    (@a02 _ _ _ _ _ (@a33 _ _ _ _ _ _ _ _ (@a08 _ _ _ _ _ _ _ _ a38 (pv 3) (@a05 _ _ _ _) (nomark _)) (@a02 _ _ _ _ _ (@a16 _ _ 4 _ _ _ _ sc_ends_of_statement.nd rfl (by walk_at "o") (@a09 _ _ _ _ _ _ _ _ _ _ _ _ _ _ _ _ G_ends_of_talk (hr.mono (by omega)) rfl T.f_ends_of_talk.m T.f_ends_of_talk.F.kp T.f_ends_of_talk.b .nil a18 (@a00 _ _ _ _ _ (@a19 _ _ _ _ _ _ _ (a10 K) (pv 0) (@a03 _ _ _ _) (fun _ _=>rfl)) (@a00 _ _ _ _ _ (pv 1) (@a00 _ _ _ _ _ (pv 2) (@a01 _) (by rfl)) (by rfl)) (by rfl)) (by decide) (by rfl) (by rfl)) (by rfl) (by walk_at "o"))
     (@a04 _ _ _ (@a17 _ _ _ _ (@a37 _ _ _ _ _ _ _ _ a32 (@aw4 _ _ _ _ _ _ _ _ (@PW.pt _ _ _ (@am2 _ _ _ _ _ _ _ (@a08 _ _ _ _ _ _ _ _ (a80 K) (@a05 _ _ _ _) (pv 4) (by with_unfolding_all rfl)) (@ag2 _ _ _ _ (@a08 _ _ _ _ _ _ _ _ (a80 K) (@a05 _ _ _ _) (pv 4) (by with_unfolding_all rfl))))) (@a15 _ _ _ _ (@a00 _ _ _ _ _ (@a05 _ _ _ _) (@a01 _) (by rfl))) (@a15 _ _ _ _ (@a01 _))) (@a09 _ _ _ _ _ _ _ _ _ _ _ _ _ _ _ _ G_kept_ends (hr.mono (by omega)) rfl T.f_kept_ends.m T.f_kept_ends.F.kp T.f_kept_ends.b .nil a18 (@a00 _ _ _ _ _ (pv 4) (@a00 _ _ _ _ _ (@a20 _ _ _ _ _ (@a00 _ _ _ _ _ (@a05 _ _ _ _) (@a01 _) (by rfl))) (@a01 _) (by rfl)) (by rfl)) (by decide) (by rfl) (by rfl)))))) (@a12 _))
    (@a02 _ _ _ _ _ (@a33 _ _ _ _ _ _ _ _ (@a08 _ _ _ _ _ _ _ _ (a80 K) (pv 3) (at4 (by rfl) T.m_ENDS (by exact T.r_ENDS)) (by with_unfolding_all rfl)) (@a04 _ _ _ (@a17 _ _ _ _ (@a15 _ _ _ _ (@a00 _ _ _ _ _ (pv 3) (@a01 _) (by rfl))))) (@a12 _))
    (@a04 _ _ _ (@a17 _ _ _ _ (@a15 _ _ _ _ (@a00 _ _ _ _ _ (@a05 _ _ _ _) (@a01 _) (by rfl))))))))))),?_⟩
   have sl:(1000000:Nat)≤sizeLine:=le_line (Nat.le_refl _)
   walk_at "go"
   have hs':=hs.same woL
   have fin:∀ l H',Same H H'→H l=none→H' l=some (.lst (wdsV r))→Q (.ref l) H':=fun l H' s e1 e2=>q l H' kvs (KS.of s) (hk.same s) e1 e2
   have kinds:∀ {k:Str}{w:Str},¬ w=k→w≠k:=fun h=>h
   cases n with
   | zero=>simp [eS] at he
   | succ m =>
   cases s0 with
   | wait k bs =>
     obtain ⟨a,l,ws,rfl,e,_,_⟩:=sat_wait.mp hs'
     obtain rfl:=Option.some.inj he
     refine a23 (SqT.of e) (a06 (j:=0) rfl) ?_
     walk_at "run"
     rw [if_pos (by simp)]
     walk_at "run"
     intro l H1 f1 s1 e1
     exact fin l H1 s1 f1 e1
   | put k x =>
     obtain ⟨a,u,rfl,e⟩:=bd5 hs'
     obtain rfl:=Option.some.inj he
     refine a23 (SqT.of e) (a06 (j:=0) rfl) ?_
     walk_at "run"
     rw [if_neg (by decide +kernel)]
     walk_at "run"
     rw [if_neg (by decide +kernel)]
     walk_at "run"
     rw [if_neg (by decide +kernel)]
     walk_at "run"
     rw [if_neg (by decide +kernel)]
     walk_at "run"
     refine bd6 (T.d_ENDS.sq _) ?_
     walk_at "run"
     rw [if_neg (by decide +kernel)]
     walk_at "run"
     intro l H1 f1 s1 e1
     exact fin l H1 s1 f1 e1
   | test c x y =>
     obtain ⟨a,u1,u2,u3,rfl,e,h1,h2⟩:=af1 hs
     have e':=woL _ _ e
     obtain ⟨E1,g1,g2⟩:=Option.bind_eq_some_iff.mp he
     obtain ⟨E2,g3,rfl⟩:=Option.map_eq_some_iff.mp g2
     refine a23 (SqT.of e') (a06 (j:=0) rfl) ?_
     walk_at "run"
     rw [if_neg (by decide +kernel)]
     walk_at "run"
     rw [if_pos (by simp)]
     walk_at "run"
     refine a23 (SqT.of e') (a06 (j:=2) rfl) ?_
     walk_at "run"
     refine ⟨u2,tv,kd,kvs,x,ts,m,E1,p,rfl,h1,ht,hk,by omega,g1,fun l1 H1 kvs1 s1 k1 f1 e1=>?_⟩
     have n1:l1≠kd:=fun z=>by rw [z,hk.h] at f1; cases f1
     walk_at "run"
     refine a23 (SqT.of (woL _ _ (s1 _ _ e))) (a06 (j:=3) rfl) ?_
     walk_at "run"
     refine ⟨u3,tv,kd,kvs1,y,ts,m,E2,p,rfl,h2.same s1,ht.same s1,k1,by omega,g3,fun l2 H2 kvs2 s2 k2 f2 e2=>?_⟩
     walk_at "run"
     have b1:=(a88 g1).2
     have b2:=(a88 g3).2
     refine a44 (s2.at n1 e1) e2 (by rw [a24,a24]; omega) ?_
     intro l3 H3 f3 s3 e3
     rw [aa2] at e3
     have f0:H l3=none:=aa3 k2.h (s1.trans s2) f3
     exact q l3 H3 kvs2 ((s1.trans s2).trans (KS.of s3)) (k2.same s3) f0 e3
   | loop x =>
     obtain ⟨a,u,rfl,e,h1⟩:=sat_loop.mp hs
     have e':=woL _ _ e
     obtain ⟨E1,g1,rfl⟩:=Option.map_eq_some_iff.mp he
     refine a23 (SqT.of e') (a06 (j:=0) rfl) ?_
     walk_at "run"
     rw [if_neg (by decide +kernel)]
     walk_at "run"
     rw [if_neg (by decide +kernel)]
     walk_at "run"
     rw [if_pos (by simp)]
     walk_at "run"
     refine a23 (SqT.of e') (a06 (j:=1) rfl) ?_
     walk_at "run"
     refine ⟨u,tv,kd,kvs,x,ts,m,E1,p,rfl,h1,ht,hk,by omega,g1,fun l1 H1 kvs1 s1 k1 f1 e1=>?_⟩
     walk_at "run"
     have b1:=(a88 g1).2
     refine ad0 .leave e1 ?_
     walk_at "run"
     by_cases hl:Wd.leave∈E1
     · rw [if_pos (decide_eq_true hl)]
       walk_at "run"
       intro l2 H2 f2 s2 e2
       walk_at "run"
       intro tp H3 f3 s3 e3
       walk_at "run"
       refine ⟨l1,tp,E1,[.back,.stop],rfl,(s2.trans s3) _ _ e1,e3,by omega,fun l4 H4 f4 s4 e4=>?_⟩
       walk_at "run"
       have s14:=s2.trans (s3.trans s4)
       refine a44 ((s3.trans s4) _ _ e2) e4 (by rw [a24]; have:=List.length_filter_le (fun w=>decide (w∈[Wd.back,.stop])) E1; simp only [List.length_cons,List.length_nil]; omega) ?_
       intro l5 H5 f5 s5 e5
       refine q l5 H5 kvs1 (s1.trans (KS.of (s14.trans s5))) (k1.same (s14.trans s5)) (aa3 (s14 _ _ k1.h) (s1.trans (KS.of s14)) f5) ?_
       rw [e5,ax9]
       unfold aj9
       rw [if_pos hl,←aa2]
       rfl
     · rw [if_neg (by simp [hl])]
       walk_at "run"
       intro l2 H2 f2 s2 e2
       walk_at "run"
       intro tp H3 f3 s3 e3
       walk_at "run"
       refine ⟨l1,tp,E1,[.back,.stop],rfl,(s2.trans s3) _ _ e1,e3,by omega,fun l4 H4 f4 s4 e4=>?_⟩
       walk_at "run"
       have s14:=s2.trans (s3.trans s4)
       refine a44 ((s3.trans s4) _ _ e2) e4 (by rw [a24]; have:=List.length_filter_le (fun w=>decide (w∈[Wd.back,.stop])) E1; simp only [List.length_cons,List.length_nil]; omega) ?_
       intro l5 H5 f5 s5 e5
       refine q l5 H5 kvs1 (s1.trans (KS.of (s14.trans s5))) (k1.same (s14.trans s5)) (aa3 (s14 _ _ k1.h) (s1.trans (KS.of s14)) f5) ?_
       rw [e5,ax9]
       unfold aj9
       rw [if_neg hl,←aa2]
       rfl
   | plain ps =>
     obtain ⟨a,rfl,e⟩:=ax7 hs'
     unfold eS at he
     split at he
     · rename_i k nm
       have e:H a=some (.tup [.str k,.str nm]):=e
       refine a23 (SqT.of e) (a06 (j:=0) rfl) ?_
       walk_at "run"
       split at he
       · rename_i hk'
         subst hk'
         obtain ⟨b,g1,g2⟩:=Option.bind_eq_some_iff.mp he
         obtain ⟨E1,g3,rfl⟩:=Option.map_eq_some_iff.mp g2
         have b1:=(a88 g3).2
         rw [if_neg (by decide +kernel)]
         walk_at "run"
         rw [if_neg (by decide +kernel)]
         walk_at "run"
         rw [if_neg (by decide +kernel)]
         walk_at "run"
         rw [if_pos (by simp)]
         walk_at "run"
         refine a23 (SqT.of e) (a06 (j:=1) rfl) ?_
         walk_at "run"
         refine ⟨nm,tv,kd,kvs,b,ts,m,E1,p,rfl,g1,ht,hk,by omega,g3,fun l1 H1 kvs1 s1 k1 n1 e1=>?_⟩
         walk_at "run"
         refine ad0 .on e1 ?_
         walk_at "run"
         by_cases ho:Wd.on∈E1
         · rw [if_pos (decide_eq_true ho),if_pos rfl]
           walk_at "run"
           intro l2 H2 f2 s2 e2
           walk_at "run"
           intro tp H3 f3 s3 e3
           walk_at "run"
           refine ⟨l1,tp,E1,[.stop],rfl,(s2.trans s3) _ _ e1,e3,by omega,fun l4 H4 f4 s4 e4=>?_⟩
           walk_at "run"
           have s14:=s2.trans (s3.trans s4)
           refine a44 ((s3.trans s4) _ _ e2) e4 (by rw [a24]; have:=List.length_filter_le (fun w=>decide (w∈[Wd.stop])) E1; simp only [List.length_cons,List.length_nil]; omega) ?_
           intro l5 H5 f5 s5 e5
           refine q l5 H5 kvs1 (s1.trans (KS.of (s14.trans s5))) (k1.same (s14.trans s5)) (aa3 (s14 _ _ k1.h) (s1.trans (KS.of s14)) f5) ?_
           rw [e5,ao0]
           unfold ag1
           rw [if_pos (.inl ho),←aa2]
           rfl
         · rw [if_neg (by simp [ho])]
           walk_at "run"
           refine ad0 .back e1 ?_
           walk_at "run"
           by_cases hb:Wd.back∈E1
           · rw [if_pos (decide_eq_true hb)]
             walk_at "run"
             intro l2 H2 f2 s2 e2
             walk_at "run"
             intro tp H3 f3 s3 e3
             walk_at "run"
             refine ⟨l1,tp,E1,[.stop],rfl,(s2.trans s3) _ _ e1,e3,by omega,fun l4 H4 f4 s4 e4=>?_⟩
             walk_at "run"
             have s14:=s2.trans (s3.trans s4)
             refine a44 ((s3.trans s4) _ _ e2) e4 (by rw [a24]; have:=List.length_filter_le (fun w=>decide (w∈[Wd.stop])) E1; simp only [List.length_cons,List.length_nil]; omega) ?_
             intro l5 H5 f5 s5 e5
             refine q l5 H5 kvs1 (s1.trans (KS.of (s14.trans s5))) (k1.same (s14.trans s5)) (aa3 (s14 _ _ k1.h) (s1.trans (KS.of s14)) f5) ?_
             rw [e5,ao0]
             unfold ag1
             rw [if_pos (.inr hb),←aa2]
             rfl
           · rw [if_neg (by simp [hb])]
             walk_at "run"
             intro l2 H2 f2 s2 e2
             walk_at "run"
             intro tp H3 f3 s3 e3
             walk_at "run"
             refine ⟨l1,tp,E1,[.stop],rfl,(s2.trans s3) _ _ e1,e3,by omega,fun l4 H4 f4 s4 e4=>?_⟩
             walk_at "run"
             have s14:=s2.trans (s3.trans s4)
             refine a44 ((s3.trans s4) _ _ e2) e4 (by rw [a24]; have:=List.length_filter_le (fun w=>decide (w∈[Wd.stop])) E1; simp only [List.length_cons,List.length_nil]; omega) ?_
             intro l5 H5 f5 s5 e5
             refine q l5 H5 kvs1 (s1.trans (KS.of (s14.trans s5))) (k1.same (s14.trans s5)) (aa3 (s14 _ _ k1.h) (s1.trans (KS.of s14)) f5) ?_
             rw [e5,ao0]
             unfold ag1
             rw [if_neg (fun z=>z.elim ho hb),←aa2]
             rfl
       · rename_i hk'
         split at he
         · rename_i hk2
           subst hk2
           obtain rfl:=Option.some.inj he
           rw [if_neg (by decide +kernel)]
           walk_at "run"
           rw [if_neg (by decide +kernel)]
           walk_at "run"
           rw [if_neg (by decide +kernel)]
           walk_at "run"
           rw [if_neg (by decide +kernel)]
           walk_at "run"
           refine bd6 (T.d_ENDS.sq _) ?_
           walk_at "run"
           rw [if_neg (by decide +kernel)]
           walk_at "run"
           intro l H1 f1 s1 e1
           exact fin l H1 s1 f1 e1
         · cases he
     · rename_i k
       obtain ⟨v,hv,rfl⟩:=Option.map_eq_some_iff.mp he
       have hkv:=ai7 hv
       subst hkv
       have e:H a=some (.tup [.str v.txt]):=e
       refine a23 (SqT.of e) (a06 (j:=0) rfl) ?_
       walk_at "run"
       have hno:v.txt≠"wait"∧v.txt≠"test"∧v.txt≠"loop"∧v.txt≠"call":=by cases v <;> decide +kernel
       rw [if_neg (by simpa using hno.1)]
       walk_at "run"
       rw [if_neg (by simpa using hno.2.1)]
       walk_at "run"
       rw [if_neg (by simpa using hno.2.2.1)]
       walk_at "run"
       rw [if_neg (by simpa using hno.2.2.2)]
       walk_at "run"
       refine bd6 (T.d_ENDS.sq _) ?_
       walk_at "run"
       rw [if_pos (by rw [hv]; rfl)]
       walk_at "run"
       intro l H1 f1 s1 e1
       exact fin l H1 s1 f1 e1
     · rename_i k i z
       split at he
       · rename_i hk2
         subst hk2
         obtain rfl:=Option.some.inj he
         have e:H a=some (.tup [.str "hand",.int i,.str z]):=e
         refine a23 (SqT.of e) (a06 (j:=0) rfl) ?_
         walk_at "run"
         rw [if_neg (by decide +kernel)]
         walk_at "run"
         rw [if_neg (by decide +kernel)]
         walk_at "run"
         rw [if_neg (by decide +kernel)]
         walk_at "run"
         rw [if_neg (by decide +kernel)]
         walk_at "run"
         refine bd6 (T.d_ENDS.sq _) ?_
         walk_at "run"
         rw [if_neg (by decide +kernel)]
         walk_at "run"
         intro l H1 f1 s1 e1
         exact fin l H1 s1 f1 e1
       · cases he
     · cases he
theorem aj1 (T:Txt K mg t) {d:Nat}(G_ends_of_statement:FnOk P w K mg base CX0 (3*d+3) t.a_ends_of_statement t.fd_ends_of_statement ["statement","talks","known"] (bz9 K (d+1))):FnOk P w K mg base CX0 (3*d+4) t.a_ends_of_body t.fd_ends_of_body ["body","talks","known"] (bd7 K (d+1)):=by
 refine T.f_ends_of_body.F.ok sc_ends_of_body (fun vs H Q E h=>?_) (fun cdv A outer s H vs Q E hr h=>?_)
 · obtain ⟨bv,tv,kd,kvs,b,ts,n,E0,p,rfl,_⟩:=h
   rfl
 · obtain ⟨bv,tv,kd,kvs,b,ts,n,E0,p,rfl,hb,ht,hk,hn,he,q⟩:=h
   refine ⟨_,(@a02 _ _ _ _ _ (@a16 _ _ 3 _ _ _ _ sc_ends_of_body.nd rfl (by walk_at "o") (@a15 _ _ _ _ (@a00 _ _ _ _ _ (@a05 _ _ _ _) (@a01 _) (by rfl))) (by rfl) (by walk_at "o"))
    (@a02 _ _ _ _ _ (@a62 _ _ _ _ _ _ _ _ PassesOwn.never rfl (a21 K (pv 0)) (a13 (i:=4) sc_ends_of_body.nd rfl (by walk_at "o")) (@a02 _ _ _ _ _ (@a33 _ _ _ _ _ _ _ _ (@a08 _ _ _ _ _ _ _ _ (ae7 K) (@a05 _ _ _ _) (pv 3) (by with_unfolding_all rfl)) (@a04 _ _ _ (@ba1 _ _)) (@a12 _))
     (@a04 _ _ _ (@a16 _ _ 3 _ _ _ _ sc_ends_of_body.nd rfl (by walk_at "o") (@a37 _ _ _ _ _ _ _ _ a32 (ac4 (Nt:=["word"]) (Nf:=[]) (caps:=[]) rfl (a41 (sc:=a07 a67) rfl rfl (by decide +kernel) (by decide +kernel) (by decide +kernel) rfl (by decide +kernel)) (a21 K (pv 3)) (fun _ _ _ _ _=>(a13 (i:=0) (show (["word"]:List Str).Nodup by decide +kernel) rfl (by walk_at "o"))) (fun _ _ _ _ _=>(@a73 _ _ _ (@a08 _ _ _ _ _ _ _ _ br2 (pv 0) (@a05 _ _ _ _) (nomark _)))) (fun _ _ _ _ _=>(pv 0))) (@a09 _ _ _ _ _ _ _ _ _ _ _ _ _ _ _ _ G_ends_of_statement (hr.mono (by omega)) rfl T.f_ends_of_statement.m T.f_ends_of_statement.F.kp T.f_ends_of_statement.b .nil a18 (@a00 _ _ _ _ _ (pv 4) (@a00 _ _ _ _ _ (pv 1) (@a00 _ _ _ _ _ (pv 2) (@a01 _) (by rfl)) (by rfl)) (by rfl)) (by decide) (by rfl) (by rfl))) (by rfl) (by walk_at "o")))) (by intro _; rfl))
    (@a04 _ _ _ (@a17 _ _ _ _ (ac4 (Nt:=["word"]) (Nf:=["ends"]) (caps:=[3]) rfl (a41 (sc:=a07 a67) rfl rfl (by decide +kernel) (by decide +kernel) (by decide +kernel) rfl (by decide +kernel)) (bl3 K (at4 (by rfl) T.m_ENDS (by exact T.r_ENDS))) (fun _ _ _ _ _=>(a13 (i:=0) (show (["word","ends"]:List Str).Nodup by decide +kernel) rfl (by walk_at "o"))) (fun _ _ _ _ _=>(@a73 _ _ _ (@a08 _ _ _ _ _ _ _ _ (a80 K) (pv 0) (pv 1) (by with_unfolding_all rfl)))) (fun _ _ _ _ _=>(pv 0))))))),?_⟩
   have sl:(1000000:Nat)≤sizeLine:=le_line (Nat.le_refl _)
   obtain ⟨bl,us,rfl,eb,hE⟩:=bat_iff.mp hb
   have hbl:b.length≤1000∧∃ R,eL (eS ts n) b [.on]=some R∧E0=ordW R:=by
    unfold eBf at he
    split at he
    · rename_i h
      obtain ⟨R,h1,h2⟩:=Option.map_eq_some_iff.mp he
      exact ⟨h,R,h1,h2.symm⟩
    · cases he
   obtain ⟨hbl,R,hR,rfl⟩:=hbl
   have hlt:=ht
   walk_at "go"
   intro le1 H1 f1 s1 e1
   walk_at "run"
   rename_i Nx hNx
   have fin:∀ (le:Addr) (kvs':List (Key×V)) (y:Option V) (H':Hp),KS kd H H'→KnAt p ts H' kd kvs'→le≠kd→H' le=some (.lst (wdsV R))→Nx [some (.ref bl),some tv,some (.ref kd),some (.ref le),y] H':=fun le kvs' y H' s k nl e=>by
    refine hNx _ _ ?_
    walk_at "run"
    refine ⟨⟨_,T.d_ENDS.sq _⟩,bu6 (xs:=wdsV allW) (le_line (by rw [a24]; decide)) (fun i acc H2=>H'=H2∧i≤allW.length∧acc=wdsV ((allW.take i).filter fun w=>decide (w∈R))) ⟨rfl,Nat.zero_le _,rfl⟩ (fun i acc H2 zz=>by
     obtain ⟨rfl,hi,rfl⟩:=zz
     have:=List.length_filter_le (fun w=>decide (w∈R)) (allW.take i)
     rw [List.length_take] at this
     exact ⟨by rw [a24]; omega,T.d_ENDS.sq _⟩) ?_ ?_⟩
    · rintro i x acc H2 hx ⟨rfl,hi,rfl⟩
      obtain ⟨v,hv,rfl⟩:=am0 hx
      have hil:=(List.getElem?_eq_some_iff.mp hv).1
      walk_at "run"
      refine ad0 v e ?_
      walk_at "run"
      have e3:(allW.take (i+1)).filter (fun w=>decide (w∈R))=(allW.take i).filter (fun w=>decide (w∈R))++(if v∈R then [v] else []):=by
       rw [List.take_add_one,hv,Option.toList_some,List.filter_append]
       by_cases h:v∈R
       · rw [if_pos h]; simp [h]
       · rw [if_neg h]; simp [h]
      rw [e3]
      by_cases h:v∈R
      · rw [if_pos (decide_eq_true h),if_pos h]
        walk_at "run"
        exact ⟨rfl,hil,by simp [wdsV,a25]⟩
      · rw [if_neg (by simp [h]),if_neg h,List.append_nil]
        exact ⟨rfl,hil,rfl⟩
    · rintro acc H2 ⟨rfl,_,rfl⟩ p9 H9 f9 s9 e9
      rw [a24,List.take_length] at e9
      exact q p9 H9 kvs' (s.trans (KS.of s9)) (k.same s9) (aa3 k.h s f9) e9
   have hnk:∀ {H2:Hp}{kvs2:List (Key×V)}{l:Addr},KnAt p ts H2 kd kvs2→H2 l=none→l≠kd:=fun k f z=>by rw [z,k.h] at f; cases f
   refine ⟨⟨_,SqL.of (s1 _ _ (woL _ _ eb))⟩,a54 (K:=K) (a:=bl) (xs:=us) (fun i σ H'=>i≤b.length∧∃ (e:List Wd) (le:Addr) (kvs':List (Key×V)),KS kd H H'∧KnAt p ts H' kd kvs'∧le≠kd∧H' le=some (.lst (wdsV e))∧e.length≤1+10*i∧eL (eS ts n) (b.drop i) e=some R∧∃ y,σ=[some (.ref bl),some tv,some (.ref kd),some (.ref le),y]) ⟨Nat.zero_le _,[.on],le1,kvs,KS.of s1,hk.same s1,hnk hk f1,e1,by simp,hR,_,rfl⟩ (fun i σ H' _ zz=>by obtain ⟨_,e,le,kvs',z,_⟩:=zz; exact SqL.of (woL _ _ (z _ _ eb))) ?_ ?_⟩
   · rintro i sv σ H2 hsv ⟨hi,e,le,kvs2,s2,k2,nl,e2,hel,heL,y,rfl⟩
     have hil:i<b.length:=by rw [← hE.1]; exact (List.getElem?_eq_some_iff.mp hsv).1
     obtain ⟨st,hst⟩:∃ st,b[i]?=some st:=⟨_,List.getElem?_eq_getElem hil⟩
     have hsat:=hE.2 i sv st hsv hst
     have hdr:b.drop i=st::b.drop (i+1):=by
      obtain ⟨h1,h2⟩:=List.getElem?_eq_some_iff.mp hst
      rw [← h2]
      exact List.drop_eq_getElem_cons h1
     rw [hdr] at heL
     unfold eL at heL
     walk_at "run"
     refine bz8 .on e2 ?_
     walk_at "run"
     by_cases ho:Wd.on∈e
     · rw [if_neg (by simp [ho])]
       rw [if_pos ho] at heL
       obtain ⟨r,g1,g2⟩:=Option.bind_eq_some_iff.mp heL
       have hrl:=bz2 g1
       walk_at "run"
       refine ⟨⟨_,SqL.of e2⟩,a60 (xs:=wdsV e) (le_line (by rw [a24]; omega)) (fun i acc H3=>H2=H3∧i≤e.length∧acc=wdsV ((e.take i).filter fun w=>decide (w≠.on))) ⟨rfl,Nat.zero_le _,rfl⟩ (fun i acc H3 zz=>by
        obtain ⟨rfl,hi,rfl⟩:=zz
        have:=List.length_filter_le (fun w=>decide (w≠Wd.on)) (e.take i)
        rw [List.length_take] at this
        exact ⟨by rw [a24]; omega,SqL.of e2⟩) ?_ ?_⟩
       · rintro j x acc H3 hx ⟨rfl,hj,rfl⟩
         obtain ⟨v,hv,rfl⟩:=am0 hx
         have hil:=(List.getElem?_eq_some_iff.mp hv).1
         walk_at "run"
         have e3:(e.take (j+1)).filter (fun w=>decide (w≠Wd.on))=(e.take j).filter (fun w=>decide (w≠Wd.on))++(if v=Wd.on then [] else [v]):=by
          rw [List.take_add_one,hv,Option.toList_some,List.filter_append]
          by_cases h:v=Wd.on
          · rw [if_pos h]; simp [h]
          · rw [if_neg h]; simp [h]
         rw [e3]
         by_cases h:v=Wd.on
         · subst h
           rw [if_neg (by simp [Wd.txt]),if_pos rfl,List.append_nil]
           exact ⟨rfl,hil,rfl⟩
         · rw [if_pos (by simpa using fun z:v.txt=Str.ofString "on"=>h (ah5 (b:=.on) z)),if_neg h]
           walk_at "run"
           exact ⟨rfl,hil,by simp [wdsV,a25]⟩
       · rintro acc H3 ⟨rfl,_,rfl⟩ p9 H9 f9 s9 e9
         rw [a24,List.take_length] at e9
         walk_at "run"
         refine ⟨sv,tv,kd,kvs2,st,ts,n,r,p,rfl,hsat.same (s2.trans (KS.of s9)),ht.same (s2.trans (KS.of s9)),k2.same s9,hn,g1,fun l4 H4 kvs4 s4 k4 f4 e4=>?_⟩
         walk_at "run"
         have n9:p9≠kd:=hnk k2 f9
         have fl:=List.length_filter_le (fun w=>decide (w≠Wd.on)) e
         refine a44 (s4.at n9 e9) e4 (by rw [a24,a24]; omega) ?_
         intro l5 H5 f5 s5 e5
         walk_at "run"
         rw [aa2] at e5
         exact ⟨hil,_,l5,kvs4,s2.trans ((KS.of s9).trans (s4.trans (KS.of s5))),k4.same s5,hnk k4 f5,e5,by rw [List.length_append]; omega,g2,_,rfl⟩
     · rw [if_pos (by simp [ho])]
       rw [if_neg ho] at heL
       obtain rfl:=Option.some.inj heL
       refine b54 ?_
       exact fin le kvs2 _ H2 s2 k2 nl e2
   · rintro σ H2 ⟨_,e,le,kvs2,s2,k2,nl,e2,_,heL,y,rfl⟩
     rw [hE.1,List.drop_length] at heL
     obtain rfl:=Option.some.inj heL
     exact fin le kvs2 y H2 s2 k2 nl e2
theorem a81 (T:Txt K mg t):∀ d:Nat,FnOk P w K mg base CX0 (3*d+1) t.a_ends_of_body t.fd_ends_of_body ["body","talks","known"] (bd7 K d)
 | 0=>vac fun vs H Q E ⟨_,_,_,_,_,_,_,_,_,_,_,_,_,h,_⟩=>Nat.not_lt_zero _ h
 | d+1=>aj1 T (ac6 T (a81 T d) (aj0 T (a81 T d)))
def bm9 (K:PySem.W.Frag):Sp:=fun vs H Q _=>∃ (v:V) (x:Stm) (G:Hp) (tn:List Str),vs=[v]∧Same G H∧SAt G v x∧x.kd tn∧∀ l us H',H l=none→Same H H'→H' l=some (.lst us)→Each (BAt G) us (a22 x)→Q (.ref l) H'
theorem ag5 (T:Txt K mg t):FnOk P w K mg base CX0 1 t.a_bodies_of t.fd_bodies_of ["statement"] (bm9 K):=by
 refine T.f_bodies_of.F.ok sc_bodies_of (fun vs H Q E h=>?_) (fun cdv A outer s H vs Q E hr h=>?_)
 · obtain ⟨v,x,G,tn,rfl,_⟩:=h
   rfl
 · obtain ⟨v,x,G,tn,rfl,sG,hx,hp,q⟩:=h
   refine ⟨_,(@a02 _ _ _ _ _ (@a16 _ _ 1 _ _ _ _ sc_bodies_of.nd rfl (by walk_at "o") (@a19 _ _ _ _ _ _ _ (a10 K) (pv 0) (@a03 _ _ _ _) (fun _ _=>rfl)) (by rfl) (by walk_at "o"))
    (@a02 _ _ _ _ _ (@a33 _ _ _ _ _ _ _ _ (@a08 _ _ _ _ _ _ _ _ a38 (pv 1) (@a05 _ _ _ _) (nomark _)) (@a04 _ _ _ (@a17 _ _ _ _ (@a15 _ _ _ _ (@a00 _ _ _ _ _ (@a19 _ _ _ _ _ _ _ (a10 K) (pv 0) (@a03 _ _ _ _) (fun _ _=>rfl)) (@a00 _ _ _ _ _ (@a19 _ _ _ _ _ _ _ (a10 K) (pv 0) (@a03 _ _ _ _) (fun _ _=>rfl)) (@a01 _) (by rfl)) (by rfl))))) (@a12 _))
    (@a02 _ _ _ _ _ (@a33 _ _ _ _ _ _ _ _ (@a08 _ _ _ _ _ _ _ _ a38 (pv 1) (@a05 _ _ _ _) (nomark _)) (@a04 _ _ _ (@a17 _ _ _ _ (ac4 (Nt:=["pattern","body"]) (Nf:=[]) (caps:=[]) rfl (a41 (sc:=a07 ad2) rfl rfl (by decide +kernel) (by decide +kernel) (by decide +kernel) rfl (by decide +kernel)) (a21 K (@a19 _ _ _ _ _ _ _ (a10 K) (pv 0) (@a03 _ _ _ _) (fun _ _=>rfl))) (fun _ _ _ _ _=>(a74 K (n:=2) rfl (a27 (a13 (i:=0) (show (["pattern","body"]:List Str).Nodup by decide +kernel) rfl (by walk_at "o")) (a27 (a13 (i:=1) (show (["pattern","body"]:List Str).Nodup by decide +kernel) rfl (by walk_at "o")) (@a71 _))))) (fun _ _ _ _ _=>(@ab3 _)) (fun _ _ _ _ _=>(pv 1))))) (@a12 _))
    (@a02 _ _ _ _ _ (@a33 _ _ _ _ _ _ _ _ (@a08 _ _ _ _ _ _ _ _ a38 (pv 1) (@a05 _ _ _ _) (nomark _)) (@a04 _ _ _ (@a17 _ _ _ _ (@a15 _ _ _ _ (@a00 _ _ _ _ _ (@a19 _ _ _ _ _ _ _ (a10 K) (pv 0) (@a03 _ _ _ _) (fun _ _=>rfl)) (@a01 _) (by rfl))))) (@a12 _))
    (@a04 _ _ _ (@a17 _ _ _ _ (@a15 _ _ _ _ (@a01 _)))))))),?_⟩
   have sl:(1000000:Nat)≤sizeLine:=le_line (Nat.le_refl _)
   obtain ⟨a,us,rfl,ha⟩:=al8 hx hp
   walk_at "go"
   refine a23 (SqT.of (sG _ _ ha)) (a06 (j:=0) rfl) ?_
   walk_at "run"
   by_cases w1:x.wd=Str.ofString "test"
   · refine a35 w1 ?_
     walk_at "run"
     obtain ⟨c,y,z,rfl⟩:=an4 hp w1
     obtain ⟨a,u1,u2,u3,hz,e,h2,h3⟩:=af1 hx
     cases hz
     refine a23 (SqT.of (sG _ _ e)) (a06 (j:=2) rfl) ?_
     walk_at "run"
     refine a23 (SqT.of (sG _ _ e)) (a06 (j:=3) rfl) ?_
     walk_at "run"
     intro p1 H1 f1 s1 e1
     exact q p1 _ H1 f1 s1 e1 ((Each.nil.snoc h2).snoc h3)
   refine a28 w1 ?_
   walk_at "run"
   by_cases w2:x.wd=Str.ofString "wait"
   · refine a35 w2 ?_
     walk_at "run"
     obtain ⟨n,bs,rfl⟩:=an5 hp w2
     obtain ⟨a,l,ws,hz,e,el,hw⟩:=sat_wait.mp hx
     cases hz
     have wl:ws.length=bs.length:=hw.1
     have bl:bs.length≤1000:=hp
     refine a23 (SqT.of (sG _ _ e)) (a06 (j:=2) rfl) ?_
     refine ⟨_,rfl,⟨_,SqL.of (sG _ _ el)⟩,am8 (xs:=ws) (by omega) (fun i acc H'=>H'=H∧i≤ws.length∧acc.length=i∧Each (BAt G) acc ((a22 (.wait n bs)).take i)) ⟨rfl,Nat.zero_le _,rfl,by simpa using Each.nil⟩ (fun i acc H' ⟨e0,_,ea,_⟩=>⟨by omega,e0 ▸ SqL.of (sG _ _ el)⟩) ?_ ?_⟩
     · rintro i w acc H' hw' ⟨rfl,hi,ea,hE⟩
       have hi':=(List.getElem?_eq_some_iff.mp hw').1
       obtain ⟨br,hbr⟩:∃ br,bs[i]?=some br:=⟨_,List.getElem?_eq_getElem (by omega)⟩
       have hB:=hw.2 i w br hw' hbr
       obtain ⟨pp,bb⟩:=br
       obtain ⟨qv,pv,bv,rfl,eq,hp1,hb1⟩:=hB
       refine ⟨qv,_,_,rfl,SqT.of (sG _ _ eq),?_⟩
       walk_at "run"
       refine ⟨rfl,hi',by simp [ea],?_⟩
       rw [List.take_add_one,show (a22 (.wait n bs))[i]?=some bb by unfold a22; rw [List.getElem?_map,hbr]; rfl,Option.toList_some]
       exact hE.snoc hb1
     · rintro acc H' ⟨rfl,_,ea,hE⟩ p1 H1 f1 s1 e1
       rw [wl,show (a22 (.wait n bs)).take bs.length=a22 (.wait n bs) from List.take_of_length_le (by simp [a22])] at hE
       walk_at "run"
       exact q p1 _ H1 f1 s1 e1 hE
   refine a28 w2 ?_
   walk_at "run"
   by_cases w3:x.wd=Str.ofString "loop"
   · refine a35 w3 ?_
     walk_at "run"
     obtain ⟨b,rfl⟩:=an6 hp w3
     obtain ⟨a,u,hz,e,hb⟩:=sat_loop.mp hx
     cases hz
     refine a23 (SqT.of (sG _ _ e)) (a06 (j:=1) rfl) ?_
     walk_at "run"
     intro p1 H1 f1 s1 e1
     exact q p1 _ H1 f1 s1 e1 (Each.nil.snoc hb)
   refine a28 w3 ?_
   walk_at "run"
   intro p1 H1 f1 s1 e1
   exact q p1 [] H1 f1 s1 e1 (by rw [bm5 w1 w2 w3]; exact Each.nil)
theorem ao1 {us:List V}{k:Nat}:cutV us none (some (k:Int))=us.take k:=by
 unfold cutV
 have h0:HT.sIx us.length 0 (none:Option Int)=0:=rfl
 have h1:HT.sIx us.length us.length (some (k:Int))=min k us.length:=by
  unfold HT.sIx
  simp only
  split <;> omega
 rw [h0,h1,List.drop_zero,Nat.sub_zero]
 rcases Nat.le_total k us.length with h | h
 · rw [Nat.min_eq_left h]
 · rw [Nat.min_eq_right h,List.take_of_length_le (Nat.le_refl _),List.take_of_length_le h]
theorem af4 {α β:Type}{R:α→β→Prop}{vs:List α}{xs:List β}(h:Each R vs xs) (k:Nat):Each R (vs.take k) (xs.take k):=by
 refine ⟨by rw [List.length_take,List.length_take,h.1],fun j v x h1 h2=>?_⟩
 rw [List.getElem?_take] at h1 h2
 split at h1
 · rename_i hj
   rw [if_pos hj] at h2
   exact h.2 j v x h1 h2
 · cases h1
theorem b83 {us:List V}{k:Nat}:cutV us (some (k:Int)) none=us.drop k:=by
 unfold cutV
 rw [HT.sIx_none,HT.sIx_nat]
 by_cases h:k≤us.length
 · rw [Nat.min_eq_left h,List.take_of_length_le (by simp)]
 · rw [Nat.min_eq_right (by omega),List.drop_of_length_le (Nat.le_refl _),List.drop_of_length_le (by omega)]
   simp
theorem as1 {α β:Type}{R:α→β→Prop}{vs:List α}{xs:List β}(h:Each R vs xs) (k:Nat):Each R (vs.drop k) (xs.drop k):=by
 refine ⟨by rw [List.length_drop,List.length_drop,h.1],fun j v x h1 h2=>?_⟩
 rw [List.getElem?_drop] at h1 h2
 exact h.2 _ v x h1 h2
theorem bd8 {α β:Type}{R:α→β→Prop}{vs:List α}{xs:List β}(h:Each R vs xs):Each R vs.reverse xs.reverse:=by
 refine ⟨by rw [List.length_reverse,List.length_reverse,h.1],fun j v x h1 h2=>?_⟩
 have l1:j<vs.length:=by have:=(List.getElem?_eq_some_iff.mp h1).1; simpa using this
 have l2:j<xs.length:=by have:=(List.getElem?_eq_some_iff.mp h2).1; simpa using this
 rw [List.getElem?_reverse l1] at h1
 rw [List.getElem?_reverse l2,←h.1] at h2
 exact h.2 _ v x h1 h2
theorem af5 {H H':Hp}{v:V}{x:Br}(h:BrAt H v x) (s:Same H H'):BrAt H' v x:=by
 cases x with
 | mk p b =>
   obtain ⟨q,pv,bv,rfl,e,h1,h2⟩:=h
   exact ⟨q,pv,bv,rfl,s _ _ e,h1.same s,h2.same s⟩
theorem a50 {H H':Hp}{d:Addr}{o:HO}(s:Same H H') (f:H d=none):Same H (upd H' d o):=fun a x e=>by
 rw [a11 (fun z=>by rw [z,f] at e; cases e)]
 exact s _ _ e
theorem a26 {H H':Hp}{a:Addr}(s:Same H H') (f:H' a=none):H a=none:=by
 cases h:H a with
 | none=>rfl
 | some o=>rw [s _ _ h] at f; cases f
def Nmd (H:Hp) (v:V) (n:Str):Prop:=∃ a r,v=.ref a∧H a=some (.tup (.str n::r))
theorem Nmd.same {H H':Hp}{v:V}{n:Str}(h:Nmd H v n) (s:Same H H'):Nmd H' v n:=by
 obtain ⟨a,r,rfl,e⟩:=h
 exact ⟨a,r,rfl,s _ _ e⟩
def c01 (K:PySem.W.Frag):Sp:=fun vs H Q _=>∃ (l:Addr) (us:List V) (ns:List Str),vs=[.ref l]∧H l=some (.lst us)∧Each (Nmd H) us ns∧ns.Nodup∧ns.length≤1000∧∀ p H',Same H H'→H p=none→H' p=some (.lst [])→Q (.ref p) H'
theorem af6 (T:Txt K mg t):FnOk P w K mg base CX0 1 t.a_names_met_again t.fd_names_met_again ["things"] (c01 K):=by
 refine T.f_names_met_again.F.ok sc_names_met_again (fun vs H Q E h=>?_) (fun cdv A outer s H vs Q E hr h=>?_)
 · obtain ⟨l,us,ns,rfl,_⟩:=h
   rfl
 · obtain ⟨l,us,ns,rfl,e0,hE,hu,hl,q⟩:=h
   refine ⟨_,(@a02 _ _ _ _ _ (@a16 _ _ 1 _ _ _ _ sc_names_met_again.nd rfl (by walk_at "o") (ac4 (Nt:=["thing"]) (Nf:=[]) (caps:=[]) rfl (a41 (sc:=a07 a49) rfl rfl (by decide +kernel) (by decide +kernel) (by decide +kernel) rfl (by decide +kernel)) (a21 K (pv 0)) (fun _ _ _ _ _=>(a13 (i:=0) (show (["thing"]:List Str).Nodup by decide +kernel) rfl (by walk_at "o"))) (fun _ _ _ _ _=>(@ab3 _)) (fun _ _ _ _ _=>(@a19 _ _ _ _ _ _ _ (a10 K) (pv 0) (@a03 _ _ _ _) (fun _ _=>rfl)))) (by rfl) (by walk_at "o"))
    (@a04 _ _ _ (@a17 _ _ _ _ (ac4 (Nt:=["place","name"]) (Nf:=["names"]) (caps:=[1]) rfl (a41 (sc:=a07 a49) rfl rfl (by decide +kernel) (by decide +kernel) (by decide +kernel) rfl (by decide +kernel)) (am9 K rfl T.z_enumerate (@a00 _ _ _ _ _ (pv 1) (@a01 _) (by rfl))) (fun _ _ _ _ _=>(a74 K (n:=2) rfl (a27 (a13 (i:=0) (show (["place","name","names"]:List Str).Nodup by decide +kernel) rfl (by walk_at "o")) (a27 (a13 (i:=1) (show (["place","name","names"]:List Str).Nodup by decide +kernel) rfl (by walk_at "o")) (@a71 _))))) (fun _ _ _ _ _=>(@a73 _ _ _ (@a08 _ _ _ _ _ _ _ _ (a80 K) (pv 1) (@a92 _ _ _ _ _ _ _ _ _ _ (a98 K) (pv 2) (@ai1 _) (@a91 _ _ _ (pv 0))) (by with_unfolding_all rfl)))) (fun _ _ _ _ _=>(pv 1)))))),?_⟩
   have sl:(1000000:Nat)≤sizeLine:=le_line (Nat.le_refl _)
   walk_at "go"
   refine ⟨⟨us,SqL.of e0⟩,a60 (xs:=us) (by rw [hE.1]; omega) (fun i acc H'=>H'=H∧acc=a25 (ns.take i)) ⟨rfl,rfl⟩ (fun i acc H' ⟨h1,h2⟩=>⟨by rw [h2]; unfold a25; rw [List.length_map,List.length_take]; exact Nat.min_le_left _ _,by rw [h1]; exact SqL.of e0⟩) ?_ ?_⟩
   · rintro i x acc H' hx ⟨rfl,rfl⟩
     obtain ⟨n,hn⟩:∃ n,ns[i]?=some n:=⟨_,List.getElem?_eq_getElem (by rw [← hE.1]; exact (List.getElem?_eq_some_iff.mp hx).1)⟩
     obtain ⟨a,r,rfl,ea⟩:=hE.2 i _ _ hx hn
     walk_at "run"
     refine a23 (SqT.of ea) (a06 (j:=0) rfl) ?_
     refine ⟨rfl,?_⟩
     rw [List.take_add_one,hn]
     unfold a25
     rw [List.map_append]
     rfl
   · rintro acc H' ⟨rfl,rfl⟩ nl H1 f1 s1 e1
     rw [hE.1,List.take_of_length_le (Nat.le_refl _)] at e1
     walk_at "run"
     refine ⟨⟨_,SqL.of e1⟩,b59 (xs:=a25 ns) (by unfold a25; rw [List.length_map]; omega) (fun i acc H'=>Same H1 H'∧acc=[]) ⟨Same.refl _,rfl⟩ (fun i acc H' ⟨h1,h2⟩=>⟨by rw [h2]; exact Nat.zero_le _,SqL.of (h1 _ _ e1)⟩) ?_ ?_⟩
     · rintro i x acc Ha H2 hx ⟨sa,rfl⟩ sb
       have s2:=sa.trans sb
       obtain ⟨n,hn,rfl⟩:∃ n,ns[i]?=some n∧x=.str n:=by
        unfold a25 at hx
        rw [List.getElem?_map] at hx
        cases e:ns[i]? with
        | none=>rw [e] at hx; cases hx
        | some n=>rw [e] at hx; exact ⟨n,rfl,(Option.some.inj hx).symm⟩
       walk_at "run"
       refine au2 (SqL.of (s2 _ _ e1)) ?_
       rw [ao1,show (a25 ns).take i=a25 (ns.take i) from (by unfold a25; rw [List.map_take])]
       intro p4 H4 f4 s4 e4
       refine bw5 (SqL.of e4) ?_
       walk_at "run"
       refine a28 (fun z=>?_) ?_
       · obtain ⟨k,hk⟩:=List.mem_iff_getElem?.mp z
         rw [List.getElem?_take] at hk
         split at hk
         · rename_i hki
           have hil:=(List.getElem?_eq_some_iff.mp hn).1
           have:=(List.getElem?_inj (by omega) hu).mp (hk.trans hn.symm)
           omega
         · cases hk
       · exact ⟨s2.trans s4,rfl⟩
     · rintro acc H2 ⟨s2,rfl⟩ p H3 f3 s3 e3
       have s:=s1.trans (s2.trans s3)
       refine q p H3 s ?_ e3
       cases h:H' p with
       | none=>rfl
       | some o=>rw [(s1.trans s2) _ _ h] at f3; cases f3
def c66 (K:PySem.W.Frag):Sp:=fun vs H Q _=>∃ (sp bl tl:Addr) (bs us:List V) (bn tn:List Str),vs=[.ref sp]∧H sp=some (.tup [.ref bl,.ref tl])∧H bl=some (.lst bs)∧Each (Nmd H) bs bn∧bn.Nodup∧bn.length≤1000∧H tl=some (.lst us)∧Each (Nmd H) us tn∧tn.Nodup∧tn.length≤1000∧tn≠[]∧∀ p H',Same H H'→H p=none→H' p=some (.lst [])→Q (.ref p) H'
theorem ak1 (T:Txt K mg t):FnOk P w K mg base CX0 2 t.a_head_faults t.fd_head_faults ["script"] (c66 K):=by
 have G_names_met_again:=af6 (P:=P) (w:=w) (base:=base) T
 refine T.f_head_faults.F.ok sc_head_faults (fun vs H Q E h=>?_) (fun cdv A outer s H vs Q E hr h=>?_)
 · obtain ⟨sp,bl,tl,bs,us,bn,tn,rfl,_⟩:=h
   rfl
 · obtain ⟨sp,bl,tl,bs,us,bn,tn,rfl,e0,eb,hb,hbu,hbl,et,ht,htu,htl,htn,q⟩:=h
   refine ⟨_,(@a02 _ _ _ _ _ (bb5 (i:=1) (Nt:=["name"]) (Nf:=[]) (caps:=[]) rfl (a41 (sc:=a07 a77) rfl rfl (by decide +kernel) (by decide +kernel) (by decide +kernel) rfl (by decide +kernel)) (a21 K (@a09 _ _ _ _ _ _ _ _ _ _ _ _ _ _ _ _ G_names_met_again (hr.mono (by omega)) rfl T.f_names_met_again.m T.f_names_met_again.F.kp T.f_names_met_again.b .nil a18 (@a00 _ _ _ _ _ (@a19 _ _ _ _ _ _ _ (a10 K) (pv 0) (@a03 _ _ _ _) (fun _ _=>rfl)) (@a01 _) (by rfl)) (by decide) (by rfl) (by rfl))) (fun _ _ _ _ _=>(a13 (i:=0) (show (["name"]:List Str).Nodup by decide +kernel) rfl (by walk_at "o"))) (fun _ _ _ _ _=>(@ab3 _)) (fun _ _ _ _ _=>(@a20 _ _ _ _ _ (@a00 _ _ _ _ _ (@a05 _ _ _ _) (@a00 _ _ _ _ _ (@a05 _ _ _ _) (@a00 _ _ _ _ _ (pv 0) (@a01 _) (by rfl)) (by rfl)) (by rfl)))) sc_head_faults.nd rfl (by walk_at "o") rfl)
    (@a02 _ _ _ _ _ (@a29 _ _ _ _ (@a69 _ K _ _ _ _ _ _ _ _ _ _ _ PySem.F.plainAttrs_list PySem.F.slot_list_extend PySem.F.type_list_extend a78 (pv 1) (@a00 _ _ _ _ _ (ac4 (Nt:=["name"]) (Nf:=[]) (caps:=[]) rfl (a41 (sc:=a07 a77) rfl rfl (by decide +kernel) (by decide +kernel) (by decide +kernel) rfl (by decide +kernel)) (a21 K (@a09 _ _ _ _ _ _ _ _ _ _ _ _ _ _ _ _ G_names_met_again (hr.mono (by omega)) rfl T.f_names_met_again.m T.f_names_met_again.F.kp T.f_names_met_again.b .nil a18 (@a00 _ _ _ _ _ (@a19 _ _ _ _ _ _ _ (a10 K) (pv 0) (@a03 _ _ _ _) (fun _ _=>rfl)) (@a01 _) (by rfl)) (by decide) (by rfl) (by rfl))) (fun _ _ _ _ _=>(a13 (i:=0) (show (["name"]:List Str).Nodup by decide +kernel) rfl (by walk_at "o"))) (fun _ _ _ _ _=>(@ab3 _)) (fun _ _ _ _ _=>(@a20 _ _ _ _ _ (@a00 _ _ _ _ _ (pv 0) (@a00 _ _ _ _ _ (@a05 _ _ _ _) (@a00 _ _ _ _ _ (pv 0) (@a01 _) (by rfl)) (by rfl)) (by rfl))))) (@a01 _) (by rfl)) (by rfl) (by rfl) (by rfl) (by rfl) (by rfl) (by rfl)) (by rfl))
    (@a30 _ _ _ _ _ (@a33 _ _ _ _ _ _ _ _ (@a08 _ _ _ _ _ _ _ _ a38 (@a56 _ _ _ _ _ _ _ _ _ (a99 K) (by rfl) T.z_len ae8 (@a00 _ _ _ _ _ (@a19 _ _ _ _ _ _ _ (a10 K) (pv 0) (@a03 _ _ _ _) (fun _ _=>rfl)) (@a01 _) (by rfl)) (by decide) (by decide) (by rfl) (by rfl)) (@a03 _ _ _ _) (nomark _)) (@a04 _ _ _ (@a29 _ _ _ _ (@a69 _ K _ _ _ _ _ _ _ _ _ _ _ PySem.F.plainAttrs_list PySem.F.slot_list_append PySem.F.type_list_append a57 (pv 1) (@a00 _ _ _ _ _ (@a20 _ _ _ _ _ (@a00 _ _ _ _ _ (@a05 _ _ _ _) (@a00 _ _ _ _ _ (@a05 _ _ _ _) (@a00 _ _ _ _ _ (@a05 _ _ _ _) (@a01 _) (by rfl)) (by rfl)) (by rfl))) (@a01 _) (by rfl)) (by rfl) (by rfl) (by rfl) (by rfl) (by rfl) (by rfl)) (by rfl))) (@a12 _))
    (@a04 _ _ _ (@a17 _ _ _ _ (pv 1)))))),?_⟩
   have sl:(1000000:Nat)≤sizeLine:=le_line (Nat.le_refl _)
   walk_at "go"
   refine a23 (SqT.of e0) (a06 (j:=0) rfl) ?_
   walk_at "run"
   refine ⟨bl,bs,bn,rfl,eb,hb,hbu,hbl,fun p1 H1 s1 f1 e1=>?_⟩
   refine ⟨p1,rfl,⟨[],SqL.of e1⟩,a60 (xs:=[]) (Nat.zero_le _) (fun i acc H'=>H'=H1∧acc=[]) ⟨rfl,rfl⟩ (fun i acc H' ⟨h1,h2⟩=>⟨by rw [h2]; exact Nat.zero_le _,by rw [h1]; exact SqL.of e1⟩) (fun i x acc H' hx _=>by cases hx) ?_⟩
   rintro acc H' ⟨rfl,rfl⟩ fl H2 f2 s2 e2
   walk_at "run"
   have s12:=s1.trans s2
   refine aa0 (SqL.of e2) ?_
   walk_at "run"
   refine a23 (SqT.of (s12 _ _ e0)) (a06 (j:=1) rfl) ?_
   walk_at "run"
   refine ⟨tl,us,tn,rfl,s12 _ _ et,ht.mono fun _ _ z=>z.same s12,htu,htl,fun p3 H3 s3 f3 e3=>?_⟩
   refine ⟨p3,rfl,⟨[],SqL.of e3⟩,a60 (xs:=[]) (Nat.zero_le _) (fun i acc H'=>H'=H3∧acc=[]) ⟨rfl,rfl⟩ (fun i acc H' ⟨h1,h2⟩=>⟨by rw [h2]; exact Nat.zero_le _,by rw [h1]; exact SqL.of e3⟩) (fun i x acc H' hx _=>by cases hx) ?_⟩
   rintro acc H' ⟨rfl,rfl⟩ l4 H4 f4 s4 e4
   walk_at "run"
   have s24:=s3.trans s4
   refine aa1 (s24 _ _ e2) e4 ?_ ?_
   · simp
   walk_at "run"
   have ff:H fl=none:=a26 s1 f2
   have s15:Same H (upd H4 fl (.lst ([]++[]))):=a50 (s12.trans s24) ff
   have e5:upd H4 fl (.lst ([]++[])) fl=some (.lst []):=a14
   generalize upd H4 fl (.lst ([]++[]))=H5 at s15 e5 ⊢
   refine a64 (fun σ' H'=>σ'=[some (.ref sp),some (.ref fl)]∧H'=H5) ?_ ?_
   · walk_at "run"
     refine a23 (SqT.of (s15 _ _ e0)) (a06 (j:=1) rfl) ?_
     walk_at "run"
     refine ae9 (SqL.of (s15 _ _ et)) ?_
     walk_at "run"
     refine a28 (fun z=>htn ?_) ⟨rfl,rfl⟩
     have:=ht.1
     exact List.eq_nil_of_length_eq_zero (by omega)
   · rintro σ' H' ⟨rfl,rfl⟩
     walk_at "run"
     exact q fl _ s15 ff e5
mutual
def allS:Stm→List Stm
 | .plain ps=>[.plain ps]
 | .put n e=>[.put n e]
 | .loop b=>.loop b::allB b
 | .wait n bs=>.wait n bs::allR bs
 | .test c x y=>.test c x y::(allB x++allB y)
def allB:List Stm→List Stm
 | []=>[]
 | s::b=>allS s++allB b
def allR:List Br→List Stm
 | []=>[]
 | .mk _ b::bs=>allB b++allR bs
end
def a82:List (List Stm)→List Stm
 | []=>[]
 | b::bs=>allB b++a82 bs
theorem am1 (s:Stm):allS s=s::a82 (a22 s):=by
 cases s with
 | plain ps=>rfl
 | put n e=>rfl
 | loop b=>simp [allS,a22,a82]
 | test c x y=>simp [allS,a22,a82]
 | wait n bs =>
   have:∀ bs:List Br,allR bs=a82 (a22 (.wait n bs)):=fun bs=>by
    induction bs with
    | nil=>rfl
    | cons x bs ih =>
      cases x with
      | mk p b =>
        have e:a22 (.wait n (.mk p b::bs))=b::a22 (.wait n bs):=by simp [a22]
        rw [e,allR,a82,ih]
   rw [allS,this]
theorem bn0 {b:List Stm}{s:Stm}(h:s∈b):s.tr.h≤Tr.hs (Stm.trs b):=by
 induction b with
 | nil=>cases h
 | cons x b ih =>
   simp only [Stm.trs,Tr.hs]
   rcases List.mem_cons.mp h with rfl | h
   · exact Nat.le_max_left _ _
   · exact Nat.le_trans (ih h) (Nat.le_max_right _ _)
theorem c67 {s:Stm}{b:List Stm}(h:b∈a22 s):Tr.hs (Stm.trs b)<s.tr.h:=by
 cases s with
 | plain ps=>cases h
 | put n e=>cases h
 | loop x =>
   rw [List.mem_singleton.mp h]
   simp only [Stm.tr,Tr.h,Tr.hs]
   omega
 | test c x y =>
   simp only [a22,List.mem_cons,List.not_mem_nil,or_false] at h
   rcases h with rfl | rfl <;> (simp only [Stm.tr,Tr.h,Tr.hs]; omega)
 | wait n bs =>
   simp only [Stm.tr,Tr.h,Tr.hs]
   have:∀ bs:List Br,b∈a22 (.wait n bs)→Tr.hs (Stm.trs b)<Tr.hs (Br.trs bs):=fun bs=>by
    induction bs with
    | nil=>intro h; cases h
    | cons x bs ih =>
      cases x with
      | mk p z =>
        intro h
        have e:a22 (.wait n (.mk p z::bs))=z::a22 (.wait n bs):=by simp [a22]
        rw [e] at h
        simp only [Br.trs,Br.tr,Tr.hs,Tr.h]
        rcases List.mem_cons.mp h with rfl | h
        · omega
        · have:=ih h; omega
   have:=this bs h
   omega
theorem ac3 (a b:List Stm):allB (a++b)=allB a++allB b:=by
 induction a with
 | nil=>rfl
 | cons x a ih=>simp only [List.cons_append,allB,ih,List.append_assoc]
theorem as2 (a b:List (List Stm)):a82 (a++b)=a82 a++a82 b:=by
 induction a with
 | nil=>rfl
 | cons x a ih=>simp only [List.cons_append,a82,ih,List.append_assoc]
def KdB (tn:List Str) (b:List Stm):Prop:=∀ s∈allB b,s.kd tn
theorem b84 {b:List Stm}{s x:Stm}(h:s∈b) (hx:x∈allS s):x∈allB b:=by
 induction b with
 | nil=>cases h
 | cons y b ih =>
   rw [allB]
   rcases List.mem_cons.mp h with rfl | h
   · exact List.mem_append_left _ hx
   · exact List.mem_append_right _ (ih h)
theorem b85 {bs:List (List Stm)}{b:List Stm}{x:Stm}(h:b∈bs) (hx:x∈allB b):x∈a82 bs:=by
 induction bs with
 | nil=>cases h
 | cons y bs ih =>
   rw [a82]
   rcases List.mem_cons.mp h with rfl | h
   · exact List.mem_append_left _ hx
   · exact List.mem_append_right _ (ih h)
theorem as3 {b:List Stm}(i:Nat):(allB (b.take i)).length≤(allB b).length:=by
 have:=ac3 (b.take i) (b.drop i)
 rw [List.take_append_drop] at this
 rw [this,List.length_append]
 omega
theorem b10 {b:List (List Stm)}(i:Nat):(a82 (b.take i)).length≤(a82 b).length:=by
 have:=as2 (b.take i) (b.drop i)
 rw [List.take_append_drop] at this
 rw [this,List.length_append]
 omega
def c02 (K:PySem.W.Frag) (d:Nat):Sp:=fun vs H Q _=>∃ (v:V) (b:List Stm) (G:Hp) (tn:List Str),vs=[v]∧Tr.hs (Stm.trs b)<d∧Same G H∧BAt G v b∧KdB tn b∧(allB b).length≤100000∧∀ l us H',H l=none→Same H H'→H' l=some (.lst us)→Each (SAt G) us (allB b)→Q (.ref l) H'
theorem aa5 (T:Txt K mg t):∀ d:Nat,FnOk P w K mg base CX0 (d+2) t.a_statements_in t.fd_statements_in ["body"] (c02 K d):=by
 intro d
 induction d with
 | zero=>exact vac (fun vs H Q E ⟨_,_,_,_,_,h,_⟩=>Nat.not_lt_zero _ h)
 | succ d G_statements_in =>
   have G_bodies_of:=ag5 (P:=P) (w:=w) (base:=base) T
   refine T.f_statements_in.F.ok sc_statements_in (fun vs H Q E h=>?_) (fun cdv A outer s H vs Q E hr h=>?_)
   · obtain ⟨v,b,G,tn,rfl,_⟩:=h
     rfl
   · obtain ⟨v,b,G,tn,rfl,hd,sG,hb,hk,hl,q⟩:=h
     obtain ⟨bl,us,rfl,eb,hE⟩:=bat_iff.mp hb
     refine ⟨_,(@a02 _ _ _ _ _ (@a16 _ _ 1 _ _ _ _ sc_statements_in.nd rfl (by walk_at "o") (@a15 _ _ _ _ (@a01 _)) (by rfl) (by walk_at "o"))
     (@a02 _ _ _ _ _ (@a62 _ _ _ _ _ _ _ _ PassesOwn.never rfl (a21 K (pv 0)) (a13 (i:=2) sc_statements_in.nd rfl (by walk_at "o")) (@a02 _ _ _ _ _ (@a29 _ _ _ _ (@a69 _ K _ _ _ _ _ _ _ _ _ _ _ PySem.F.plainAttrs_list PySem.F.slot_list_append PySem.F.type_list_append a57 (pv 1) (@a00 _ _ _ _ _ (pv 2) (@a01 _) (by rfl)) (by rfl) (by rfl) (by rfl) (by rfl) (by rfl) (by rfl)) (by rfl))
      (@a04 _ _ _ (@a62 _ _ _ _ _ _ _ _ PassesOwn.never rfl (a21 K (@a09 _ _ _ _ _ _ _ _ _ _ _ _ _ _ _ _ G_bodies_of (hr.mono (by omega)) rfl T.f_bodies_of.m T.f_bodies_of.F.kp T.f_bodies_of.b .nil a18 (@a00 _ _ _ _ _ (pv 2) (@a01 _) (by rfl)) (by decide) (by rfl) (by rfl))) (a13 (i:=3) sc_statements_in.nd rfl (by walk_at "o")) (@a04 _ _ _ (@a29 _ _ _ _ (@a69 _ K _ _ _ _ _ _ _ _ _ _ _ PySem.F.plainAttrs_list PySem.F.slot_list_extend PySem.F.type_list_extend a78 (pv 1) (@a00 _ _ _ _ _ (@a09 _ _ _ _ _ _ _ _ _ _ _ _ _ _ _ _ G_statements_in (hr.mono (by omega)) rfl T.f_statements_in.m T.f_statements_in.F.kp T.f_statements_in.b .nil a18 (@a00 _ _ _ _ _ (pv 3) (@a01 _) (by rfl)) (by decide) (by rfl) (by rfl)) (@a01 _) (by rfl)) (by rfl) (by rfl) (by rfl) (by rfl) (by rfl) (by rfl)) (by rfl))) (by intro _; rfl)))) (by intro _; rfl))
     (@a04 _ _ _ (@a17 _ _ _ _ (pv 1))))),?_⟩
     have sl:(1000000:Nat)≤sizeLine:=le_line (Nat.le_refl _)
     walk_at "go"
     intro fl H1 f1 s1 e1
     walk_at "run"
     refine ⟨⟨us,SqL.of (s1 _ _ (sG _ _ eb))⟩,a54 (xs:=us) (fun i σ H'=>i≤us.length∧∃ vs y2 y3,σ=[some (.ref bl),some (.ref fl),y2,y3]∧Same H H'∧H' fl=some (.lst vs)∧Each (SAt G) vs (allB (b.take i))) ⟨Nat.zero_le _,[],_,_,rfl,s1,e1,Each.nil⟩ (fun i σ H' _ zz=>by obtain ⟨_,_,_,_,_,z,_⟩:=zz; exact SqL.of (z _ _ (sG _ _ eb))) ?_ ?_⟩
     · rintro i sv σ' H2 hi ⟨hib,vs,y2,y3,rfl,s2,e2,hE2⟩
       obtain ⟨st,hst⟩:∃ st,b[i]?=some st:=⟨_,List.getElem?_eq_getElem (by rw [← hE.1]; exact (List.getElem?_eq_some_iff.mp hi).1)⟩
       have hs:=hE.2 i _ _ hi hst
       have hmem:=List.mem_of_getElem? hst
       have hlt:=(List.getElem?_eq_some_iff.mp hi).1
       have hvl:=hE2.1
       have h1:=as3 (b:=b) (i+1)
       have h2:allB (b.take (i+1))=allB (b.take i)++allS st:=by
        rw [List.take_add_one,hst,ac3]
        simp [allB]
       rw [h2,List.length_append] at h1
       have h3:(allS st).length=1+(a82 (a22 st)).length:=by rw [am1,List.length_cons]; omega
       walk_at "run"
       refine aa0 (SqL.of e2) ?_
       walk_at "run"
       refine a86 e2 (by omega) ?_
       walk_at "run"
       have s3:Same H (upd H2 fl (.lst (vs++[sv]))):=a50 s2 f1
       have e3:upd H2 fl (.lst (vs++[sv])) fl=some (.lst (vs++[sv])):=a14
       generalize upd H2 fl (.lst (vs++[sv]))=H3 at s3 e3 ⊢
       have hkS:∀ x∈allS st,x.kd tn:=fun x hx=>hk x (b84 hmem hx)
       refine ⟨sv,st,G,tn,rfl,sG.trans s3,hs,hkS st (by rw [am1]; exact List.mem_cons_self),fun l4 us4 H4 f4 s4 e4 hE4=>?_⟩
       have hst':=bn0 hmem
       refine ⟨l4,rfl,⟨us4,SqL.of e4⟩,a54 (xs:=us4) (fun i2 σ H'=>i2≤us4.length∧∃ vs y3,σ=[some (.ref bl),some (.ref fl),some sv,y3]∧Same H H'∧H' l4=some (.lst us4)∧l4≠fl∧H' fl=some (.lst vs)∧Each (SAt G) vs (allB (b.take i)++(st::a82 ((a22 st).take i2)))) ⟨Nat.zero_le _,_,_,rfl,s3.trans s4,e4,fun z=>(by rw [z,e3] at f4; cases f4),s4 _ _ e3,hE2.snoc hs⟩ (fun i σ H' _ zz=>by obtain ⟨_,_,_,_,_,z,_⟩:=zz; exact SqL.of z) ?_ ?_⟩
       · rintro i2 bv σ' H5 hi2 ⟨hib2,vs,y3,rfl,s5,e5,nl5,e5f,hE5⟩
         obtain ⟨bb,hbb⟩:∃ bb,(a22 st)[i2]?=some bb:=⟨_,List.getElem?_eq_getElem (by rw [← hE4.1]; exact (List.getElem?_eq_some_iff.mp hi2).1)⟩
         have hbm:=List.mem_of_getElem? hbb
         have hlt2:=(List.getElem?_eq_some_iff.mp hi2).1
         have hh:=c67 hbm
         have hl5:=hE5.1
         have g1:=b10 (b:=a22 st) (i2+1)
         have g2:a82 ((a22 st).take (i2+1))=a82 ((a22 st).take i2)++allB bb:=by
          rw [List.take_add_one,hbb,as2]
          simp [a82]
         rw [g2,List.length_append] at g1
         walk_at "run"
         refine aa0 (SqL.of e5f) ?_
         walk_at "run"
         refine ⟨bv,bb,G,tn,rfl,by omega,sG.trans s5,hE4.2 i2 _ _ hi2 hbb,fun x hx=>hkS x (by rw [am1]; exact List.mem_cons_of_mem _ (b85 hbm hx)),by omega,fun l6 us6 H6 f6 s6 e6 hE6=>?_⟩
         have hl6:=hE6.1
         walk_at "run"
         refine aa1 (s6 _ _ e5f) e6 (by rw [List.length_append,List.length_cons] at hl5; omega) ?_
         refine ⟨by omega,vs++us6,_,rfl,a50 (s5.trans s6) f1,by rw [a11 nl5]; exact s6 _ _ e5,nl5,a14,?_⟩
         rw [g2,show allB (b.take i)++st::(a82 ((a22 st).take i2)++allB bb)=(allB (b.take i)++st::a82 ((a22 st).take i2))++allB bb by simp]
         exact hE5.append hE6
       · rintro σ' H5 ⟨_,vs,y3,rfl,s5,e5,nl5,e5f,hE5⟩
         refine ⟨by omega,vs,_,_,rfl,s5,e5f,?_⟩
         rw [hE4.1,List.take_of_length_le (Nat.le_refl _),←am1,←h2] at hE5
         exact hE5
     · rintro σ' H2 ⟨_,vs,y2,y3,rfl,s2,e2,hE2⟩
       walk_at "run"
       rw [hE.1,List.take_of_length_le (Nat.le_refl _)] at hE2
       exact q fl vs H2 f1 s2 e2 hE2
def ad6 (c:Str) (b:List Stm):Prop:=Stm.plain [.s "call",.s c]∈allB b
theorem ao2 {tn:List Str}{s:Stm}(h:s.kd tn) (hw:s.wd=Str.ofString "call"):∃ c,s=.plain [.s "call",.s c]:=by
 cases s with
 | put n e=>exact absurd hw (by simp only [Stm.wd]; decide +kernel)
 | loop b=>exact absurd hw (by simp only [Stm.wd]; decide +kernel)
 | wait n bs=>exact absurd hw (by simp only [Stm.wd]; decide +kernel)
 | test c x y=>exact absurd hw (by simp only [Stm.wd]; decide +kernel)
 | plain ps =>
   rcases h with ⟨w,rfl⟩ | ⟨l,w,rfl⟩ | ⟨w,rfl,_⟩ | rfl | rfl | rfl | rfl
   · exact absurd hw (by simp only [Stm.wd]; decide +kernel)
   · exact absurd hw (by simp only [Stm.wd]; decide +kernel)
   · exact ⟨w,rfl⟩
   all_goals exact absurd hw (by simp only [Stm.wd]; decide +kernel)
def c68 (K:PySem.W.Frag):Sp:=fun vs H Q _=>∃ (tv bv:V) (ts:Tks) (b:List Stm) (tn:List Str),vs=[tv,bv]∧TksAt H tv ts∧BAt H bv b∧KdB tn b∧Tr.hs (Stm.trs b)<100∧(allB b).length≤100000∧(∀ c,ad6 c b→∃ x,a51 ts c=some x)∧∀ l (ks:List Nat) H',H l=none→Same H H'→H' l=some (.lst (a55 ks))→ks.length≤(allB b).length→(∀ k∈ks,∃ x,ts[k]?=some x∧ad6 x.1 b)→Q (.ref l) H'
theorem aj2 (T:Txt K mg t):FnOk P w K mg base CX0 105 t.a_called_talks t.fd_called_talks ["talks","body"] (c68 K):=by
 have G_first_talk:=af3 (P:=P) (w:=w) (base:=base) T
 have G_statements_in:=aa5 (P:=P) (w:=w) (base:=base) T
 refine T.f_called_talks.F.ok sc_called_talks (fun vs H Q E h=>?_) (fun cdv A outer s H vs Q E hr h=>?_)
 · obtain ⟨tv,bv,ts,b,tn,rfl,_⟩:=h
   rfl
 · obtain ⟨tv,bv,ts,b,tn,rfl,hts,hb,hk,hd,hl,hc,q⟩:=h
   replace G_statements_in:=G_statements_in 100
   refine ⟨_,(@a02 _ _ _ _ _ (bb5 (i:=2) (Nt:=["statement"]) (Nf:=["talks"]) (caps:=[0]) rfl (a41 (sc:=a07 a66) rfl rfl (by decide +kernel) (by decide +kernel) (by decide +kernel) rfl (by decide +kernel)) (a21 K (@a09 _ _ _ _ _ _ _ _ _ _ _ _ _ _ _ _ G_statements_in (hr.mono (by omega)) rfl T.f_statements_in.m T.f_statements_in.F.kp T.f_statements_in.b .nil a18 (@a00 _ _ _ _ _ (pv 1) (@a01 _) (by rfl)) (by decide) (by rfl) (by rfl))) (fun _ _ _ _ _=>(a13 (i:=0) (show (["statement","talks"]:List Str).Nodup by decide +kernel) rfl (by walk_at "o"))) (fun _ _ _ _ _=>(@a73 _ _ _ (@a08 _ _ _ _ _ _ _ _ a38 (@a19 _ _ _ _ _ _ _ (a10 K) (pv 0) (@a03 _ _ _ _) (fun _ _=>rfl)) (@a05 _ _ _ _) (nomark _)))) (fun _ _ _ _ _=>(@a09 _ _ _ _ _ _ _ _ _ _ _ _ _ _ _ _ G_first_talk (hr.mono (by omega)) rfl T.f_first_talk.m T.f_first_talk.F.kp T.f_first_talk.b .nil a18 (@a00 _ _ _ _ _ (pv 1) (@a00 _ _ _ _ _ (@a19 _ _ _ _ _ _ _ (a10 K) (pv 0) (@a03 _ _ _ _) (fun _ _=>rfl)) (@a01 _) (by rfl)) (by rfl)) (by decide) (by rfl) (by rfl))) sc_called_talks.nd rfl (by walk_at "o") rfl)
    (@a04 _ _ _ (@a17 _ _ _ _ (ac4 (Nt:=["number"]) (Nf:=[]) (caps:=[]) rfl (a41 (sc:=a07 a66) rfl rfl (by decide +kernel) (by decide +kernel) (by decide +kernel) rfl (by decide +kernel)) (a21 K (pv 2)) (fun _ _ _ _ _=>(a13 (i:=0) (show (["number"]:List Str).Nodup by decide +kernel) rfl (by walk_at "o"))) (fun _ _ _ _ _=>(@a73 _ _ _ (@a08 _ _ _ _ _ _ _ _ bc2 (pv 0) (@bf0 _ _ _) (nomark _)))) (fun _ _ _ _ _=>(pv 0)))))),?_⟩
   have sl:(1000000:Nat)≤sizeLine:=le_line (Nat.le_refl _)
   walk_at "go"
   refine ⟨bv,b,H,tn,rfl,hd,Same.refl _,hb,hk,hl,fun l1 us H1 f1 s1 e1 hE=>?_⟩
   have hul:=hE.1
   refine ⟨l1,rfl,⟨us,SqL.of e1⟩,a60 (xs:=us) (by omega) (fun i acc H'=>Same H1 H'∧∃ ks:List Nat,acc=a55 ks∧ks.length≤i∧∀ k∈ks,∃ x,ts[k]?=some x∧ad6 x.1 b) ⟨Same.refl _,[],rfl,Nat.zero_le _,fun k h=>(by cases h)⟩ (fun i acc H' ⟨h1,ks,h2,h3,_⟩=>⟨by rw [h2,a70]; exact h3,SqL.of (h1 _ _ e1)⟩) ?_ ?_⟩
   · rintro i v acc H2 hv ⟨s2,ks,rfl,hkl,hks⟩
     obtain ⟨st,hst⟩:∃ st,(allB b)[i]?=some st:=⟨_,List.getElem?_eq_getElem (by rw [← hE.1]; exact (List.getElem?_eq_some_iff.mp hv).1)⟩
     have hmem:=List.mem_of_getElem? hst
     obtain ⟨a,r,rfl,ea⟩:=al8 (hE.2 i _ _ hv hst) (hk st hmem)
     have sH2:=s1.trans s2
     walk_at "run"
     refine a23 (SqT.of (sH2 _ _ ea)) (a06 (j:=0) rfl) ?_
     walk_at "run"
     by_cases h1:st.wd=Str.ofString "call"
     · refine a35 h1 ?_
       walk_at "run"
       obtain ⟨c,rfl⟩:=ao2 (hk st hmem) h1
       obtain ⟨a',hz,ea'⟩:=ax7 (hE.2 i _ _ hv hst)
       cases hz
       refine a23 (SqT.of (sH2 _ _ ea')) (a06 (j:=1) rfl) ?_
       walk_at "run"
       obtain ⟨bb,hbb⟩:=hc c hmem
       refine ⟨tv,c,ts,bb,rfl,hts.same sH2,hbb,fun j x H3 s3 hj hx2 hx1=>?_⟩
       refine ⟨s2.trans s3,ks++[j],ac2 ks j,by rw [List.length_append,List.length_singleton]; omega,fun k hk'=>?_⟩
       rcases List.mem_append.mp hk' with hk' | hk'
       · exact hks k hk'
       · rw [List.mem_singleton.mp hk']
         exact ⟨x,hj,by rw [hx1]; exact hmem⟩
     · refine a28 h1 ?_
       exact ⟨s2,ks,rfl,by omega,hks⟩
   · rintro acc H2 ⟨s2,ks,rfl,hkl,hks⟩ l3 H3 f3 s3 e3
     walk_at "run"
     have sH3:=(s1.trans s2).trans s3
     refine ⟨⟨_,SqL.of e3⟩,a60 (xs:=a55 ks) (by rw [a70]; omega) (fun i acc H'=>H'=H3∧acc=a55 (ks.take i)) ⟨rfl,rfl⟩ (fun i acc H' ⟨h1,h2⟩=>⟨by rw [h2,a70,List.length_take]; exact Nat.min_le_left _ _,by rw [h1]; exact SqL.of e3⟩) ?_ ?_⟩
     · rintro i x acc H' hx ⟨rfl,rfl⟩
       obtain ⟨k,hk2,rfl⟩:∃ k,ks[i]?=some k∧x=.int (k:Nat):=by
        unfold a55 at hx
        rw [List.getElem?_map] at hx
        cases e:ks[i]? with
        | none=>rw [e] at hx; cases hx
        | some k=>rw [e] at hx; exact ⟨k,rfl,(Option.some.inj hx).symm⟩
       walk_at "run"
       try rw [if_pos (by simp)]
       try walk_at "run"
       refine ⟨rfl,?_⟩
       rw [List.take_add_one,hk2]
       exact ac2 _ _
     · rintro acc H' ⟨rfl,rfl⟩ l5 H5 f5 s5 e5
       rw [a70,List.take_of_length_le (Nat.le_refl _)] at e5
       refine q l5 ks H5 (a26 sH3 f5) (sH3.trans s5) e5 (by omega) hks
def bn1 (H:Hp) (v:V) (ks:List Nat):Prop:=∃ a,v=.ref a∧H a=some (.lst (a55 ks))
theorem ay0 (ks:List Nat):a55 ks=(ks.map fun k=>((k:Nat):Int)).map V.int:=by simp [a55]
theorem nats_mem {k:Nat}{ks:List Nat}:((k:Nat):Int)∈(ks.map fun k=>((k:Nat):Int))↔k∈ks:=by
 rw [List.mem_map]
 exact ⟨fun ⟨x,h1,h2⟩=>by rw [← Int.ofNat.inj h2]; exact h1,fun h=>⟨k,h,rfl⟩⟩
def crM (N r a:Nat):Nat:=(N - r)*1001+a
theorem bn2 {N r a m:Nat}(h:m=a+1):crM N r a<crM N r m:=by unfold crM; omega
theorem bn3 {N r a b m q:Nat}(h:m=a+1) (hr:r<N) (hb:b≤1000) (hq:q=r+1):crM N q (a+b)<crM N r m:=by unfold crM; omega
def c69 (K:PySem.W.Frag):Sp:=fun vs H Q _=>∃ (t:Nat) (cl:Addr) (us:List V) (Ks:List (List Nat)) (rk:Nat→Nat),vs=[.int (t:Nat),.ref cl]∧H cl=some (.lst us)∧Each (bn1 H) us Ks∧Ks.length≤100∧(∀ ks∈Ks,ks.length≤1000∧∀ k∈ks,k<Ks.length)∧(∀ i ks,Ks[i]?=some ks→∀ k∈ks,rk i<rk k)∧t<Ks.length∧∀ H',Same H H'→Q (.bl false) H'
theorem ak2 (T:Txt K mg t):FnOk P w K mg base CX0 1 t.a_comes_round t.fd_comes_round ["talk","called"] (c69 K):=by
 refine T.f_comes_round.F.ok sc_comes_round (fun vs H Q E h=>?_) (fun cdv A outer s H vs Q E hr h=>?_)
 · obtain ⟨t0,cl,us,Ks,rk,rfl,_⟩:=h
   rfl
 · obtain ⟨t0,cl,us,Ks,rk,rfl,e0,hE,hl,hK,hrk,ht,q⟩:=h
   refine ⟨_,(@a02 _ _ _ _ _ (@a16 _ _ 2 _ _ _ _ sc_comes_round.nd rfl (by walk_at "o") (@a15 _ _ _ _ (@a01 _)) (by rfl) (by walk_at "o"))
    (@a02 _ _ _ _ _ (@a16 _ _ 3 _ _ _ _ sc_comes_round.nd rfl (by walk_at "o") (@ae0 _ _ _ _ _ _ _ _ _ (am5 K) (by rfl) T.z_list am7 (@a00 _ _ _ _ _ (@a19 _ _ _ _ _ _ _ (a31 K) (pv 1) (pv 0) (fun _ _=>rfl)) (@a01 _) (by rfl)) (by decide) (by decide) (by rfl) (by rfl)) (by rfl) (by walk_at "o"))
    (@a02 _ _ _ _ _ (@ba2 _ _ _ _ _ _ PassesOwn.never (@a08 _ _ _ _ _ _ _ _ at5 (@a56 _ _ _ _ _ _ _ _ _ (a99 K) (by rfl) T.z_len ae8 (@a00 _ _ _ _ _ (pv 3) (@a01 _) (by rfl)) (by decide) (by decide) (by rfl) (by rfl)) (@a03 _ _ _ _) (nomark _)) (@a02 _ _ _ _ _ (@a16 _ _ 4 _ _ _ _ sc_comes_round.nd rfl (by walk_at "o") (au1 K PySem.F.plainAttrs_list PySem.F.slot_list_pop PySem.F.type_list_pop bf8 (pv 3)) (by rfl) (by walk_at "o"))
     (@a04 _ _ _ (@a33 _ _ _ _ _ _ _ _ (@a08 _ _ _ _ _ _ _ _ (ae7 K) (pv 4) (pv 2) (by with_unfolding_all rfl)) (@a02 _ _ _ _ _ (@a29 _ _ _ _ (@a69 _ K _ _ _ _ _ _ _ _ _ _ _ PySem.F.plainAttrs_list PySem.F.slot_list_append PySem.F.type_list_append a57 (pv 2) (@a00 _ _ _ _ _ (pv 4) (@a01 _) (by rfl)) (by rfl) (by rfl) (by rfl) (by rfl) (by rfl) (by rfl)) (by rfl))
      (@a04 _ _ _ (@a29 _ _ _ _ (@a69 _ K _ _ _ _ _ _ _ _ _ _ _ PySem.F.plainAttrs_list PySem.F.slot_list_extend PySem.F.type_list_extend a78 (pv 3) (@a00 _ _ _ _ _ (@a19 _ _ _ _ _ _ _ (a31 K) (pv 1) (pv 4) (fun _ _=>rfl)) (@a01 _) (by rfl)) (by rfl) (by rfl) (by rfl) (by rfl) (by rfl) (by rfl)) (by rfl)))) (@a12 _)))))
    (@a04 _ _ _ (@a17 _ _ _ _ (@a90 _ _ _ _ _ _ _ _ (a80 K) (pv 0) (pv 2) (by with_unfolding_all rfl))))))),?_⟩
   have sl:(1000000:Nat)≤sizeLine:=le_line (Nat.le_refl _)
   walk_at "go"
   intro rl H1 f1 s1 e1
   walk_at "run"
   obtain ⟨k0,hk0⟩:∃ ks,Ks[t0]?=some ks:=⟨_,List.getElem?_eq_getElem ht⟩
   obtain ⟨v0,hv0,a0,rfl,ea0⟩:=hE.get hk0
   refine a83 (SqL.of (s1 _ _ e0)) (a06 hv0) ?_
   walk_at "run"
   refine au3 (SqL.of (s1 _ _ ea0)) ?_
   intro al H2 f2 s2 e2
   walk_at "run"
   have hne:rl≠al:=fun z=>by rw [← z,e1] at f2; cases f2
   have fr:=a26 (Same.refl _) f1
   have fa:=a26 s1 f2
   obtain ⟨hkl,hkk⟩:=hK k0 (List.mem_of_getElem? hk0)
   obtain ⟨Pv,hPv⟩:∃ Pv:Nat→St→Hp→Prop,Pv=(fun n σ' H'=>∃ (re ah:List Nat) (y:Option V),n=crM Ks.length re.length ah.length∧σ'=[some (.int (t0:Nat)),some (.ref cl),some (.ref rl),some (.ref al),y]∧Same H H'∧H' rl=some (.lst (a55 re))∧H' al=some (.lst (a55 ah))∧re.Nodup∧(∀ k∈re,k<Ks.length∧rk t0<rk k)∧(∀ k∈ah,k<Ks.length∧rk t0<rk k)∧ah.length+(Ks.length - re.length)*1000≤101000):=⟨_,rfl⟩
   refine bm1 Pv (crM Ks.length 0 k0.length) (by rw [hPv]; exact ⟨[],k0,_,rfl,rfl,s1.trans s2,s2 _ _ e1,e2,List.nodup_nil,fun k h=>(by cases h),fun k h=>⟨hkk k h,hrk t0 k0 hk0 k h⟩,by rw [List.length_nil]; omega⟩) ?_
   intro n σ' H3 hI
   rw [hPv] at hI
   obtain ⟨re,ah,y,hn,rfl,s3,er,ea,hnd,hre,hah,hsz⟩:=hI
   walk_at "run"
   refine ae9 (SqL.of ea) ?_
   walk_at "run"
   rw [a70]
   rcases List.eq_nil_or_concat ah with rfl | ⟨ah,k1,hcc⟩
   · refine a28 (by simp) ?_
     walk_at "run"
     refine c60 (ns:=re.map fun k=>((k:Nat):Int)) (SqL.of (by rw [← ay0]; exact er)) ?_
     rw [decide_eq_false (fun z=>by have:=(hre t0 (nats_mem.mp z)).2; omega)]
     exact q _ s3
   · rw [List.concat_eq_append] at hcc
     subst hcc
     refine a35 (by simp) ?_
     refine ⟨fun σ' H'=>∃ m',m'<n∧Pv m' σ' H',fun σ' H' z=>z,?_⟩
     walk_at "run"
     refine aa0 (SqL.of ea) ?_
     refine bw4 (by rw [ea,←ac2]) ?_
     walk_at "run"
     have hl1:(ah++[k1]).length=ah.length+1:=by rw [List.length_append,List.length_singleton]
     rw [hl1] at hsz
     obtain ⟨hk1,hk2⟩:=hah k1 (by simp)
     have hah':∀ k∈ah,k<Ks.length∧rk t0<rk k:=fun k hk=>hah k (by simp [hk])
     have s4:Same H (upd H3 al (.lst (a55 ah))):=a50 s3 fa
     have r4:upd H3 al (.lst (a55 ah)) rl=some (.lst (a55 re)):=by rw [a11 hne]; exact er
     have a4:upd H3 al (.lst (a55 ah)) al=some (.lst (a55 ah)):=a14
     generalize upd H3 al (.lst (a55 ah))=H4 at s4 r4 a4 ⊢
     refine bc3 (ns:=re.map fun k=>((k:Nat):Int)) (SqL.of (by rw [← ay0]; exact r4)) ?_
     walk_at "run"
     by_cases hm:k1∈re
     · rw [decide_eq_true (nats_mem.mpr hm),if_neg (by simp)]
       refine ⟨crM Ks.length re.length ah.length,by rw [hn]; exact bn2 hl1,?_⟩
       rw [hPv]
       exact ⟨re,ah,_,rfl,rfl,s4,r4,a4,hnd,hre,hah',by omega⟩
     · rw [decide_eq_false (fun z=>hm (nats_mem.mp z)),if_pos (by simp)]
       obtain ⟨ks,hks⟩:∃ ks,Ks[k1]?=some ks:=⟨_,List.getElem?_eq_getElem hk1⟩
       obtain ⟨v1,hv1,a1,rfl,ea1⟩:=hE.get hks
       obtain ⟨hl1',hl2⟩:=hK ks (List.mem_of_getElem? hks)
       have hrl:re.length<Ks.length:=by
        have:(k1::re).Nodup:=List.nodup_cons.mpr ⟨hm,hnd⟩
        have:=List.Nodup.length_le_of_subset this (l₂:=List.range Ks.length) (fun x hx=>by
         rw [List.mem_range]
         rcases List.mem_cons.mp hx with rfl | hx
         · exact hk1
         · exact (hre x hx).1)
        rw [List.length_cons,List.length_range] at this
        omega
       walk_at "run"
       refine aa0 (SqL.of r4) ?_
       walk_at "run"
       refine a86 r4 (by rw [a70]; omega) ?_
       rw [ac2]
       have s5:Same H (upd H4 rl (.lst (a55 (re++[k1])))):=a50 s4 fr
       have a5:upd H4 rl (.lst (a55 (re++[k1]))) al=some (.lst (a55 ah)):=by rw [a11 hne.symm]; exact a4
       have r5:upd H4 rl (.lst (a55 (re++[k1]))) rl=some (.lst (a55 (re++[k1]))):=a14
       generalize upd H4 rl (.lst (a55 (re++[k1])))=H5 at s5 a5 r5 ⊢
       walk_at "run"
       refine aa0 (SqL.of a5) ?_
       walk_at "run"
       refine a83 (SqL.of (s5 _ _ e0)) (a06 hv1) ?_
       walk_at "run"
       refine aa1 a5 (s5 _ _ ea1) (by rw [a70,a70]; omega) ?_
       have ee:a55 ah++a55 ks=a55 (ah++ks):=by simp [a55]
       rw [ee]
       have hl2':(re++[k1]).length=re.length+1:=by rw [List.length_append,List.length_singleton]
       refine ⟨crM Ks.length (re++[k1]).length (ah++ks).length,by rw [hn,List.length_append (as:=ah)]; exact bn3 hl1 hrl hl1' hl2',?_⟩
       rw [hPv]
       refine ⟨re++[k1],ah++ks,_,rfl,rfl,a50 s5 fa,by rw [a11 hne]; exact r5,a14,?_,fun k hk=>?_,fun k hk=>?_,?_⟩
       · rw [List.nodup_append]
         exact ⟨hnd,by simp,fun a ha b hb z=>hm (by rw [← List.mem_singleton.mp hb,←z]; exact ha)⟩
       · rcases List.mem_append.mp hk with hk | hk
         · exact hre k hk
         · rw [List.mem_singleton.mp hk]; exact ⟨hk1,hk2⟩
       · rcases List.mem_append.mp hk with hk | hk
         · exact hah' k hk
         · exact ⟨hl2 k hk,Nat.lt_trans hk2 (hrk k1 ks hks k hk)⟩
       · rw [List.length_append,hl2']; omega
theorem b11:∀ e:Ex,e.tr.h≤2*e.h+2
 | .num _=>by simp [Ex.tr,Tr.h,Tr.hs]
 | .box _=>by simp [Ex.tr,Tr.h,Tr.hs]
 | .two _ a b=>by
   have h1:=b11 a
   have h2:=b11 b
   simp only [Ex.tr,Tr.h,Tr.hs,Ex.h]
   omega
theorem bd9:∀ c:Cd,c.tr.h≤2*c.hh+2
 | .cmp _ a b=>by
   have h1:=b11 a
   have h2:=b11 b
   simp only [Cd.tr,Tr.h,Tr.hs,Cd.hh]
   omega
 | .nt c=>by
   have h1:=bd9 c
   simp only [Cd.tr,Tr.h,Tr.hs,Cd.hh]
   omega
 | .both c d=>by
   have h1:=bd9 c
   have h2:=bd9 d
   simp only [Cd.tr,Tr.h,Tr.hs,Cd.hh]
   omega
structure ThO (bn:List Str) (x:Th):Prop where
 h:x.hh<10
 z:x.sz≤1000
 n:∀ n∈x.names,n∈bn
def plO (tn:List Str) (lp:Bool) (ps:List Pt):Prop:=(∃ w,ps=[.s "say",.s w])∨(∃ l w,ps=[.s "hand",.i l,.s w])∨(∃ c∈tn,ps=[.s "call",.s c])∨(lp=true∧(ps=[.s "again"]∨ps=[.s "leave"]))∨ps=[.s "back"]∨ps=[.s "stop"]
def ptsB:List Br→List (List Pt)
 | []=>[]
 | .mk p _::bs=>p::ptsB bs
theorem ay1:∀ bs:List Br,(ptsB bs).length=bs.length
 | []=>rfl
 | .mk p b::bs=>by simp [ptsB,ay1 bs]
def okS (L:Nat) (bn tn:List Str):Nat→Bool→Stm→Prop
 | _,lp,.plain ps=>plO tn lp ps
 | _,_,.put n e=>n∈bn∧ThO bn (.ex e)
 | 0,_,.loop _=>False
 | 0,_,.test _ _ _=>False
 | 0,_,.wait _ _=>False
 | k+1,_,.loop x=>x.length≤L∧∀ s∈x,okS L bn tn k true s
 | k+1,lp,.test c x y=>ThO bn (.cd c)∧(x.length≤L∧∀ s∈x,okS L bn tn k lp s)∧y.length≤L∧∀ s∈y,okS L bn tn k lp s
 | k+1,lp,.wait n bs=>bs.length≤L∧(ptsB bs).Nodup∧(n=0→[.s "none"]∉ptsB bs)∧∀ b∈bs,∃ p x,b=.mk p x∧(x.length≤L∧∀ s∈x,okS L bn tn k lp s)
def okB (L:Nat) (bn tn:List Str) (k:Nat) (lp:Bool) (b:List Stm):Prop:=b.length≤L∧∀ s∈b,okS L bn tn k lp s
theorem okS_pl {L:Nat}{bn tn:List Str}{k:Nat}{lp:Bool}{ps:List Pt}:okS L bn tn k lp (.plain ps)↔plO tn lp ps:=by cases k <;> exact Iff.rfl
theorem okS_put {L:Nat}{bn tn:List Str}{k:Nat}{lp:Bool}{n:Str}{e:Ex}:okS L bn tn k lp (.put n e)↔n∈bn∧ThO bn (.ex e):=by cases k <;> exact Iff.rfl
theorem be0 {L:Nat}{bn tn tn':List Str}(hs:∀ c∈tn,c∈tn'):∀ (k k':Nat),k≤k'→∀ (lp lp':Bool),(lp=true→lp'=true)→∀ s,okS L bn tn k lp s→okS L bn tn' k' lp' s:=by
 intro k
 induction k with
 | zero =>
   intro k' hk lp lp' hl s h
   cases s with
   | plain ps =>
     rw [okS_pl] at h ⊢
     rcases h with h | h | ⟨c,h1,h2⟩ | ⟨h1,h2⟩ | h
     · exact .inl h
     · exact .inr (.inl h)
     · exact .inr (.inr (.inl ⟨c,hs c h1,h2⟩))
     · exact .inr (.inr (.inr (.inl ⟨hl h1,h2⟩)))
     · exact .inr (.inr (.inr (.inr h)))
   | put n e=>rw [okS_put] at h ⊢; exact h
   | loop _=>exact h.elim
   | test _ _ _=>exact h.elim
   | wait _ _=>exact h.elim
 | succ k ih =>
   intro k' hk lp lp' hl s h
   cases s with
   | plain ps =>
     rw [okS_pl] at h ⊢
     rcases h with h | h | ⟨c,h1,h2⟩ | ⟨h1,h2⟩ | h
     · exact .inl h
     · exact .inr (.inl h)
     · exact .inr (.inr (.inl ⟨c,hs c h1,h2⟩))
     · exact .inr (.inr (.inr (.inl ⟨hl h1,h2⟩)))
     · exact .inr (.inr (.inr (.inr h)))
   | put n e=>rw [okS_put] at h ⊢; exact h
   | loop x =>
     cases k' with
     | zero=>omega
     | succ k'=>exact ⟨h.1,fun s hs'=>ih k' (by omega) true true id s (h.2 s hs')⟩
   | test c x y =>
     cases k' with
     | zero=>omega
     | succ k'=>exact ⟨h.1,⟨h.2.1.1,fun s hs'=>ih k' (by omega) lp lp' hl s (h.2.1.2 s hs')⟩,h.2.2.1,fun s hs'=>ih k' (by omega) lp lp' hl s (h.2.2.2 s hs')⟩
   | wait n bs =>
     cases k' with
     | zero=>omega
     | succ k' =>
       refine ⟨h.1,h.2.1,h.2.2.1,fun b hb=>?_⟩
       obtain ⟨p,x,e,h1,h2⟩:=h.2.2.2 b hb
       exact ⟨p,x,e,h1,fun s hs'=>ih k' (by omega) lp lp' hl s (h2 s hs')⟩
theorem ah7 {L:Nat}{bn tn tn':List Str}(hs:∀ c∈tn,c∈tn') {k k':Nat}(hk:k≤k') {lp lp':Bool}(hl:lp=true→lp'=true) {b:List Stm}(h:okB L bn tn k lp b):okB L bn tn' k' lp' b:=⟨h.1,fun s z=>be0 hs k k' hk lp lp' hl s (h.2 s z)⟩
theorem bn4 {L:Nat}{bn tn:List Str}{k:Nat}{lp:Bool}{s:Stm}(h:okS L bn tn k lp s):∀ b∈a22 s,∃ j lp',k=j+1∧okB L bn tn j lp' b:=by
 intro b hb
 cases s with
 | plain ps=>cases hb
 | put n e=>cases hb
 | loop x =>
   cases k with
   | zero=>exact h.elim
   | succ k=>rw [List.mem_singleton.mp hb]; exact ⟨k,true,rfl,h⟩
 | test c x y =>
   cases k with
   | zero=>exact h.elim
   | succ k =>
     simp only [a22,List.mem_cons,List.not_mem_nil,or_false] at hb
     rcases hb with rfl | rfl
     · exact ⟨k,lp,rfl,h.2.1⟩
     · exact ⟨k,lp,rfl,h.2.2⟩
 | wait n bs =>
   cases k with
   | zero=>exact h.elim
   | succ k =>
     obtain ⟨br,hbr,rfl⟩:=List.mem_map.mp hb
     obtain ⟨p,x,rfl,hx⟩:=h.2.2.2 br hbr
     exact ⟨k,lp,rfl,hx⟩
theorem be1 {L:Nat}(hL:L≤1000) {bn tn:List Str}{k:Nat}{lp:Bool}{s:Stm}(h:okS L bn tn k lp s):s.kd tn:=by
 cases s with
 | plain ps =>
   rcases okS_pl.mp h with h | h | ⟨c,h1,h2⟩ | ⟨_,h | h⟩ | h | h
   · exact .inl h
   · exact .inr (.inl h)
   · exact .inr (.inr (.inl ⟨c,h2,h1⟩))
   · exact .inr (.inr (.inr (.inl h)))
   · exact .inr (.inr (.inr (.inr (.inl h))))
   · exact .inr (.inr (.inr (.inr (.inr (.inl h)))))
   · exact .inr (.inr (.inr (.inr (.inr (.inr h)))))
 | wait n bs =>
   cases k with
   | zero=>exact h.elim
   | succ k=>exact Nat.le_trans h.1 hL
 | _=>exact trivial
theorem ao3 {b:List Stm}{x:Stm}(h:x∈allB b):∃ s∈b,x∈allS s:=by
 induction b with
 | nil=>cases h
 | cons y b ih =>
   rw [allB] at h
   rcases List.mem_append.mp h with h | h
   · exact ⟨y,List.mem_cons_self,h⟩
   · obtain ⟨s,h1,h2⟩:=ih h
     exact ⟨s,List.mem_cons_of_mem _ h1,h2⟩
theorem ay2 {bs:List (List Stm)}{x:Stm}(h:x∈a82 bs):∃ b∈bs,x∈allB b:=by
 induction bs with
 | nil=>cases h
 | cons y b ih =>
   rw [a82] at h
   rcases List.mem_append.mp h with h | h
   · exact ⟨y,List.mem_cons_self,h⟩
   · obtain ⟨s,h1,h2⟩:=ih h
     exact ⟨s,List.mem_cons_of_mem _ h1,h2⟩
theorem bh8 {L:Nat}{bn tn:List Str}:∀ (k:Nat) (lp:Bool) (s:Stm),okS L bn tn k lp s→∀ x∈allS s,∃ j lp',j≤k∧okS L bn tn j lp' x:=by
 intro k
 induction k with
 | zero =>
   intro lp s h x hx
   rw [am1] at hx
   rcases List.mem_cons.mp hx with rfl | hx
   · exact ⟨0,lp,Nat.le_refl _,h⟩
   · obtain ⟨b,hb,_⟩:=ay2 hx
     obtain ⟨j,_,hj,_⟩:=bn4 h b hb
     omega
 | succ k ih =>
   intro lp s h x hx
   rw [am1] at hx
   rcases List.mem_cons.mp hx with rfl | hx
   · exact ⟨k+1,lp,Nat.le_refl _,h⟩
   · obtain ⟨b,hb,hx⟩:=ay2 hx
     obtain ⟨j,lp',hj,hB⟩:=bn4 h b hb
     obtain rfl:j=k:=by omega
     obtain ⟨s',hs',hx'⟩:=ao3 hx
     obtain ⟨i,lp2,hi,hz⟩:=ih lp' s' (hB.2 s' hs') x hx'
     exact ⟨i,lp2,Nat.le_succ_of_le hi,hz⟩
theorem bh9 {L:Nat}(hL:L≤1000) {bn tn:List Str}{k:Nat}{lp:Bool}{b:List Stm}(h:okB L bn tn k lp b):KdB tn b:=fun x hx=>by
 obtain ⟨s,hs,hx⟩:=ao3 hx
 obtain ⟨j,lp',_,hz⟩:=bh8 k lp s (h.2 s hs) x hx
 exact be1 hL hz
theorem av3:∀ p:List Pt,Tr.hs (p.map Pt.tr)≤0
 | []=>Nat.le_refl _
 | x::p=>by
   have:=av3 p
   have h:x.tr.h=0:=by cases x <;> rfl
   simp only [List.map_cons,Tr.hs,h]
   omega
theorem c70 {L:Nat}{bn tn:List Str}:∀ (k:Nat) (lp:Bool) (s:Stm),okS L bn tn k lp s→s.tr.h≤24+4*k:=by
 intro k
 induction k with
 | zero =>
   intro lp s h
   cases s with
   | plain ps=>have:=av3 ps; simp only [Stm.tr,Tr.h]; omega
   | put n e =>
     have h1:=(okS_put.mp h).2.h
     have h2:=b11 e
     simp only [Th.hh] at h1
     simp only [Stm.tr,Tr.h,Tr.hs]
     omega
   | loop _=>exact h.elim
   | test _ _ _=>exact h.elim
   | wait _ _=>exact h.elim
 | succ k ih =>
   intro lp s h
   cases s with
   | plain ps=>have:=av3 ps; simp only [Stm.tr,Tr.h]; omega
   | put n e =>
     have h1:=(okS_put.mp h).2.h
     have h2:=b11 e
     simp only [Th.hh] at h1
     simp only [Stm.tr,Tr.h,Tr.hs]
     omega
   | loop x =>
     have:=al9 (b:=x) (n:=24+4*k) fun s hs=>ih true s (h.2 s hs)
     simp only [Stm.tr,Tr.h,Tr.hs]
     omega
   | test c x y =>
     have h1:=h.1.h
     have h0:=bd9 c
     simp only [Th.hh] at h1
     have h2:=al9 (b:=x) (n:=24+4*k) fun s hs=>ih lp s (h.2.1.2 s hs)
     have h3:=al9 (b:=y) (n:=24+4*k) fun s hs=>ih lp s (h.2.2.2 s hs)
     simp only [Stm.tr,Tr.h,Tr.hs]
     omega
   | wait n bs =>
     have:=bh5 (b:=bs) (n:=26+4*k) fun s hs=>by
      obtain ⟨p,x,rfl,_,hx⟩:=h.2.2.2 s hs
      have h1:=al9 fun s hs=>ih lp s (hx s hs)
      have h2:=av3 p
      simp only [Br.tr,Tr.h,Tr.hs]
      omega
     simp only [Stm.tr,Tr.h,Tr.hs]
     omega
def c03 (K:PySem.W.Frag) (d:Nat):Sp:=fun vs H Q _=>∃ (v:V) (x:Th),vs=[v]∧x.At H v∧x.hh<d∧x.sz≤10000∧∀ l H',H l=none→Same H H'→H' l=some (.lst (a25 x.names))→Q (.ref l) H'
theorem av4 (T:Txt K mg t):∀ d:Nat,FnOk P w K mg base CX0 (d+1) t.a_names_in t.fd_names_in ["thing"] (c03 K d):=by
 intro d
 induction d with
 | zero=>exact vac (fun vs H Q E ⟨_,_,_,_,h,_⟩=>Nat.not_lt_zero _ h)
 | succ d G_names_in =>
   refine T.f_names_in.F.ok sc_names_in (fun vs H Q E h=>?_) (fun cdv A outer s H vs Q E hr h=>?_)
   · obtain ⟨v,x,rfl,_⟩:=h
     rfl
   · obtain ⟨v,x,rfl,hx,hh,hz,q⟩:=h
     refine ⟨_,(@a02 _ _ _ _ _ (@a16 _ _ 1 _ _ _ _ sc_names_in.nd rfl (by walk_at "o") (@a19 _ _ _ _ _ _ _ (a10 K) (pv 0) (@a03 _ _ _ _) (fun _ _=>rfl)) (by rfl) (by walk_at "o"))
     (@a02 _ _ _ _ _ (@a33 _ _ _ _ _ _ _ _ (@a08 _ _ _ _ _ _ _ _ a38 (pv 1) (@a05 _ _ _ _) (nomark _)) (@a04 _ _ _ (@a17 _ _ _ _ (@a15 _ _ _ _ (@a01 _)))) (@a12 _))
     (@a02 _ _ _ _ _ (@a33 _ _ _ _ _ _ _ _ (@a08 _ _ _ _ _ _ _ _ a38 (pv 1) (@a05 _ _ _ _) (nomark _)) (@a04 _ _ _ (@a17 _ _ _ _ (@a15 _ _ _ _ (@a00 _ _ _ _ _ (@a19 _ _ _ _ _ _ _ (a10 K) (pv 0) (@a03 _ _ _ _) (fun _ _=>rfl)) (@a01 _) (by rfl))))) (@a12 _))
     (@a02 _ _ _ _ _ (@a33 _ _ _ _ _ _ _ _ (@a08 _ _ _ _ _ _ _ _ a38 (pv 1) (@a05 _ _ _ _) (nomark _)) (@a04 _ _ _ (@a17 _ _ _ _ (@a09 _ _ _ _ _ _ _ _ _ _ _ _ _ _ _ _ G_names_in (hr.mono (by omega)) rfl T.f_names_in.m T.f_names_in.F.kp T.f_names_in.b .nil a18 (@a00 _ _ _ _ _ (@a19 _ _ _ _ _ _ _ (a10 K) (pv 0) (@a03 _ _ _ _) (fun _ _=>rfl)) (@a01 _) (by rfl)) (by decide) (by rfl) (by rfl)))) (@a12 _))
     (@a04 _ _ _ (@a17 _ _ _ _ (@a37 _ _ _ _ _ _ _ _ a32 (@a09 _ _ _ _ _ _ _ _ _ _ _ _ _ _ _ _ G_names_in (hr.mono (by omega)) rfl T.f_names_in.m T.f_names_in.F.kp T.f_names_in.b .nil a18 (@a00 _ _ _ _ _ (@a19 _ _ _ _ _ _ _ (a10 K) (pv 0) (@a03 _ _ _ _) (fun _ _=>rfl)) (@a01 _) (by rfl)) (by decide) (by rfl) (by rfl)) (@a09 _ _ _ _ _ _ _ _ _ _ _ _ _ _ _ _ G_names_in (hr.mono (by omega)) rfl T.f_names_in.m T.f_names_in.F.kp T.f_names_in.b .nil a18 (@a00 _ _ _ _ _ (@a19 _ _ _ _ _ _ _ (a10 K) (pv 0) (@a03 _ _ _ _) (fun _ _=>rfl)) (@a01 _) (by rfl)) (by decide) (by rfl) (by rfl))))))))),?_⟩
     walk_at "go"
     rcases Th.view hx with ⟨i,a,rfl,rfl,ha⟩ | ⟨n,a,rfl,rfl,ha⟩ | ⟨c,a,v1,rfl,rfl,ha,h1⟩ | ⟨m,sg,x1,x2,a,v1,v2,W⟩
     · refine a23 (SqT.of ha) (a06 (j:=0) rfl) ?_
       walk_at "run"
       refine a35 rfl ?_
       walk_at "run"
       intro p H1 f1 s1 e1
       exact q p H1 f1 s1 e1
     · refine a23 (SqT.of ha) (a06 (j:=0) rfl) ?_
       walk_at "run"
       refine a28 (by decide +kernel) ?_
       walk_at "run"
       refine a35 rfl ?_
       walk_at "run"
       refine a23 (SqT.of ha) (a06 (j:=1) rfl) ?_
       walk_at "run"
       intro p H1 f1 s1 e1
       exact q p H1 f1 s1 e1
     · refine a23 (SqT.of ha) (a06 (j:=0) rfl) ?_
       walk_at "run"
       refine a28 (by decide +kernel) ?_
       walk_at "run"
       refine a28 (by decide +kernel) ?_
       walk_at "run"
       refine a35 rfl ?_
       walk_at "run"
       refine a23 (SqT.of ha) (a06 (j:=1) rfl) ?_
       walk_at "run"
       simp only [Th.hh,Cd.hh,Th.sz,Cd.sz] at hh hz
       exact ⟨v1,.cd c,rfl,h1,by simp only [Th.hh]; omega,by simp only [Th.sz]; omega,q⟩
     · obtain ⟨rfl,ha,h1,h2,n1,n2,n3,hn,k1,k2,ksz,_,_,_,_⟩:=W
       refine a23 (SqT.of ha) (a06 (j:=0) rfl) ?_
       walk_at "run"
       refine a28 n1 ?_
       walk_at "run"
       refine a28 n2 ?_
       walk_at "run"
       refine a28 n3 ?_
       walk_at "run"
       refine a23 (SqT.of ha) (a06 (j:=1) rfl) ?_
       walk_at "run"
       refine ⟨v1,x1,rfl,h1,by omega,by omega,fun l1 H1 f1 s1 e1=>?_⟩
       walk_at "run"
       refine a23 (SqT.of (s1 _ _ ha)) (a06 (j:=2) rfl) ?_
       walk_at "run"
       refine ⟨v2,x2,rfl,h2.mono s1.tups,by omega,by omega,fun l2 H2 f2 s2 e2=>?_⟩
       have b1:=x1.names_le
       have b2:=x2.names_le
       refine a44 (s2 _ _ e1) e2 (le_line (by simp only [a25,List.length_map]; omega)) ?_
       intro l3 H3 f3 s3 e3
       rw [b56,←hn] at e3
       exact q l3 H3 (s1.free (s2.free f3)) (s1.trans (s2.trans s3)) e3
theorem c71 {H:Hp}{v:V}{n:Str}{e:Ex}(h:SAt H v (.put n e)):∃ a u,v=.ref a∧H a=some (.tup [.str "put",.str n,u])∧(Th.ex e).At H u:=by
 obtain ⟨a,vs,rfl,e1,h⟩:=at_tup0.mp (show (Tr.tup [.str (Str.ofString "put"),.str n,e.tr]).At H v [] from b69 h)
 obtain ⟨v1,w1,rfl,h1,h⟩:=ats_cons0.mp h
 obtain ⟨v2,w2,rfl,h2,h⟩:=ats_cons0.mp h
 obtain ⟨v3,w3,rfl,h3,h⟩:=ats_cons0.mp h
 obtain rfl:=ats_nil0.mp h
 obtain rfl:=at_str0.mp h1
 obtain rfl:=at_str0.mp h2
 exact ⟨a,v3,rfl,e1,ar2 h3⟩
theorem c72 {H:Hp}{v:V}{c:Cd}{x y:List Stm}(h:SAt H v (.test c x y)):∃ a u1 u2 u3,v=.ref a∧H a=some (.tup [.str "test",u1,u2,u3])∧(Th.cd c).At H u1:=by
 obtain ⟨a,u1,u2,u3,rfl,e,_,_,h⟩:=b70 h
 exact ⟨a,u1,u2,u3,rfl,e,ax1 h⟩
def lkS (a b c d:V):List (Str×V):=putF "found" d (putF "talk_names" c (putF "box_names" b (putF "talk" a [])))
theorem b86 (a b c d:V):(lkS a b c d).lookup ("found":Str)=some d:=by
 unfold lkS
 rw [a34,if_pos rfl]
theorem c04 (a b c d:V):(lkS a b c d).lookup ("talk_names":Str)=some c:=by
 unfold lkS
 rw [a34,if_neg (by decide +kernel),a34,if_pos rfl]
theorem c05 (a b c d:V):(lkS a b c d).lookup ("box_names":Str)=some b:=by
 unfold lkS
 rw [a34,if_neg (by decide +kernel),a34,if_neg (by decide +kernel),a34,if_pos rfl]
theorem aj3 {m:Str}(a b c d:V) (h1:m≠"found") (h2:m≠"talk_names") (h3:m≠"box_names") (h4:m≠"talk"):(lkS a b c d).lookup m=none:=by
 unfold lkS
 rw [a34,if_neg h1,a34,if_neg h2,a34,if_neg h3,a34,if_neg h4]
 rfl
structure LkO (C:Addr) (H:Hp) (p:Addr) (bn tn:List Str):Prop where
 ex:∃ dx a bl tl fl,H p=some (.ins C dx (lkS a (.ref bl) (.ref tl) (.ref fl)))∧H bl=some (.lst (a25 bn))∧H tl=some (.lst (a25 tn))∧H fl=some (.lst [])
theorem LkO.same {C:Addr}{H H':Hp}{p:Addr}{bn tn:List Str}(h:LkO C H p bn tn) (s:Same H H'):LkO C H' p bn tn:=by
 obtain ⟨dx,a,bl,tl,fl,h1,h2,h3,h4⟩:=h.ex
 exact ⟨dx,a,bl,tl,fl,s _ _ h1,s _ _ h2,s _ _ h3,s _ _ h4⟩
def bn5 (K:PySem.W.Frag) (C:Addr):Sp:=fun vs H Q _=>∃ (p dx sp bl tl:Addr) (nm:V) (bs us:List V) (bn tn:List Str),vs=[.ref p,nm,.ref sp]∧H p=some (.ins C dx [])∧H sp=some (.tup [.ref bl,.ref tl])∧H bl=some (.lst bs)∧Each (Nmd H) bs bn∧bn.length≤1000∧H tl=some (.lst us)∧Each (Nmd H) us tn∧tn.length≤1000∧∀ H',LkO C H' p bn tn→(∀ x o,H x=some o→x≠p→H' x=some o)→Q .non H'
theorem ac7 (T:Txt K mg t):FnOk P w K mg base CX0 1 t.a_TalkLook___init__ t.fd_TalkLook___init__ ["self","talk","script"] (bn5 K t.c_TalkLook):=by
 refine T.f_TalkLook___init__.F.ok ac5 (fun vs H Q E h=>?_) (fun cdv A outer s H vs Q E hr h=>?_)
 · obtain ⟨p,dx,sp,bl,tl,nm,bs,us,bn,tn,rfl,_⟩:=h
   rfl
 · obtain ⟨p,dx,sp,bl,tl,nm,bs,us,bn,tn,rfl,hp,e0,eb,hb,hbl,et,ht,htl,q⟩:=h
   refine ⟨_,(@a02 _ _ _ _ _ (an1 K (pv 0) (pv 1) rfl)
    (@a02 _ _ _ _ _ (an1 K (pv 0) (ac4 (Nt:=["box"]) (Nf:=[]) (caps:=[]) rfl (a41 (sc:=a07 a43) rfl rfl (by decide +kernel) (by decide +kernel) (by decide +kernel) rfl (by decide +kernel)) (a21 K (@a19 _ _ _ _ _ _ _ (a10 K) (pv 2) (@a03 _ _ _ _) (fun _ _=>rfl))) (fun _ _ _ _ _=>(a13 (i:=0) (show (["box"]:List Str).Nodup by decide +kernel) rfl (by walk_at "o"))) (fun _ _ _ _ _=>(@ab3 _)) (fun _ _ _ _ _=>(@a19 _ _ _ _ _ _ _ (a10 K) (pv 0) (@a03 _ _ _ _) (fun _ _=>rfl)))) rfl)
    (@a02 _ _ _ _ _ (an1 K (pv 0) (ac4 (Nt:=["named"]) (Nf:=[]) (caps:=[]) rfl (a41 (sc:=a07 a43) rfl rfl (by decide +kernel) (by decide +kernel) (by decide +kernel) rfl (by decide +kernel)) (a21 K (@a19 _ _ _ _ _ _ _ (a10 K) (pv 2) (@a03 _ _ _ _) (fun _ _=>rfl))) (fun _ _ _ _ _=>(a13 (i:=0) (show (["named"]:List Str).Nodup by decide +kernel) rfl (by walk_at "o"))) (fun _ _ _ _ _=>(@ab3 _)) (fun _ _ _ _ _=>(@a19 _ _ _ _ _ _ _ (a10 K) (pv 0) (@a03 _ _ _ _) (fun _ _=>rfl)))) rfl)
    (@a04 _ _ _ (an1 K (pv 0) (@a15 _ _ _ _ (@a01 _)) rfl))))),?_⟩
   have sl:(1000000:Nat)≤sizeLine:=le_line (Nat.le_refl _)
   walk_at "go"
   refine ⟨p,_,dx,_,rfl,hp,T.cl_TalkLook,T.n_TalkLook_talk,by decide,?_⟩
   have k1:∀ x o,H x=some o→x≠p→upd H p (.ins t.c_TalkLook dx (putF "talk" nm [])) x=some o:=fun x o e z=>by rw [a11 z]; exact e
   have e1:upd H p (.ins t.c_TalkLook dx (putF "talk" nm [])) p=some (.ins t.c_TalkLook dx (putF "talk" nm [])):=a14
   generalize upd H p (.ins t.c_TalkLook dx (putF "talk" nm []))=H1 at k1 e1 ⊢
   walk_at "run"
   have nT:∀ {x:Addr}{vs:List V},H x=some (.tup vs)→H1 x=some (.tup vs):=fun e=>k1 _ _ e (af7 e hp (fun z=>nomatch z))
   have nL:∀ {x:Addr}{vs:List V},H x=some (.lst vs)→H1 x=some (.lst vs):=fun e=>k1 _ _ e (af7 e hp (fun z=>nomatch z))
   refine a23 (SqT.of (nT e0)) (a06 (j:=0) rfl) ?_
   walk_at "run"
   refine ⟨⟨bs,SqL.of (nL eb)⟩,a60 (xs:=bs) (by rw [hb.1]; omega) (fun i acc H'=>H'=H1∧acc=a25 (bn.take i)) ⟨rfl,rfl⟩ (fun i acc H' ⟨h1,h2⟩=>⟨by rw [h2]; unfold a25; rw [List.length_map,List.length_take]; exact Nat.min_le_left _ _,by rw [h1]; exact SqL.of (nL eb)⟩) ?_ ?_⟩
   · rintro i x acc H' hx ⟨rfl,rfl⟩
     obtain ⟨n,hn⟩:∃ n,bn[i]?=some n:=⟨_,List.getElem?_eq_getElem (by rw [← hb.1]; exact (List.getElem?_eq_some_iff.mp hx).1)⟩
     obtain ⟨a,r,rfl,ea⟩:=hb.2 i _ _ hx hn
     walk_at "run"
     refine a23 (SqT.of (nT ea)) (a06 (j:=0) rfl) ?_
     refine ⟨rfl,?_⟩
     rw [List.take_add_one,hn]
     unfold a25
     rw [List.map_append]
     rfl
   · rintro acc H' ⟨rfl,rfl⟩ nb H2 f2 s2 e2
     rw [hb.1,List.take_of_length_le (Nat.le_refl _)] at e2
     walk_at "run"
     have p2:=s2 _ _ e1
     refine ⟨p,_,dx,_,rfl,p2,T.cl_TalkLook,T.n_TalkLook_box_names,(by have h1:=a47 "talk" nm []; rw [List.length_nil] at h1; omega),?_⟩
     have np2:nb≠p:=af7 e2 p2 (fun z=>nomatch z)
     have k3:∀ x o,H x=some o→x≠p→upd H2 p (.ins t.c_TalkLook dx (putF "box_names" (.ref nb) (putF "talk" nm []))) x=some o:=fun x o e z=>by rw [a11 z]; exact s2 _ _ (k1 _ _ e z)
     have e3:upd H2 p (.ins t.c_TalkLook dx (putF "box_names" (.ref nb) (putF "talk" nm []))) p=some (.ins t.c_TalkLook dx (putF "box_names" (.ref nb) (putF "talk" nm []))):=a14
     have g3:upd H2 p (.ins t.c_TalkLook dx (putF "box_names" (.ref nb) (putF "talk" nm []))) nb=some (.lst (a25 bn)):=by rw [a11 np2]; exact e2
     generalize upd H2 p (.ins t.c_TalkLook dx (putF "box_names" (.ref nb) (putF "talk" nm [])))=H3 at k3 e3 g3 ⊢
     walk_at "run"
     have nT3:∀ {x:Addr}{vs:List V},H x=some (.tup vs)→H3 x=some (.tup vs):=fun e=>k3 _ _ e (af7 e hp (fun z=>nomatch z))
     have nL3:∀ {x:Addr}{vs:List V},H x=some (.lst vs)→H3 x=some (.lst vs):=fun e=>k3 _ _ e (af7 e hp (fun z=>nomatch z))
     refine a23 (SqT.of (nT3 e0)) (a06 (j:=1) rfl) ?_
     walk_at "run"
     refine ⟨⟨us,SqL.of (nL3 et)⟩,a60 (xs:=us) (by rw [ht.1]; omega) (fun i acc H'=>H'=H3∧acc=a25 (tn.take i)) ⟨rfl,rfl⟩ (fun i acc H' ⟨h1,h2⟩=>⟨by rw [h2]; unfold a25; rw [List.length_map,List.length_take]; exact Nat.min_le_left _ _,by rw [h1]; exact SqL.of (nL3 et)⟩) ?_ ?_⟩
     · rintro i x acc H' hx ⟨rfl,rfl⟩
       obtain ⟨n,hn⟩:∃ n,tn[i]?=some n:=⟨_,List.getElem?_eq_getElem (by rw [← ht.1]; exact (List.getElem?_eq_some_iff.mp hx).1)⟩
       obtain ⟨a,r,rfl,ea⟩:=ht.2 i _ _ hx hn
       walk_at "run"
       refine a23 (SqT.of (nT3 ea)) (a06 (j:=0) rfl) ?_
       refine ⟨rfl,?_⟩
       rw [List.take_add_one,hn]
       unfold a25
       rw [List.map_append]
       rfl
     · rintro acc H' ⟨rfl,rfl⟩ nt H4 f4 s4 e4
       rw [ht.1,List.take_of_length_le (Nat.le_refl _)] at e4
       walk_at "run"
       have p4:=s4 _ _ e3
       refine ⟨p,_,dx,_,rfl,p4,T.cl_TalkLook,T.n_TalkLook_talk_names,(by have h1:=a47 "talk" nm []; have h2:=a47 "box_names" (V.ref nb) (putF "talk" nm []); rw [List.length_nil] at h1; omega),?_⟩
       have np4:nt≠p:=af7 e4 p4 (fun z=>nomatch z)
       have nbp:nb≠p:=af7 g3 e3 (fun z=>nomatch z)
       have g4:=s4 _ _ g3
       have k5:∀ x o,H x=some o→x≠p→upd H4 p (.ins t.c_TalkLook dx (putF "talk_names" (.ref nt) (putF "box_names" (.ref nb) (putF "talk" nm [])))) x=some o:=fun x o e z=>by rw [a11 z]; exact s4 _ _ (k3 _ _ e z)
       have e5:upd H4 p (.ins t.c_TalkLook dx (putF "talk_names" (.ref nt) (putF "box_names" (.ref nb) (putF "talk" nm [])))) p=some (.ins t.c_TalkLook dx (putF "talk_names" (.ref nt) (putF "box_names" (.ref nb) (putF "talk" nm [])))):=a14
       have g5:upd H4 p (.ins t.c_TalkLook dx (putF "talk_names" (.ref nt) (putF "box_names" (.ref nb) (putF "talk" nm [])))) nb=some (.lst (a25 bn)):=by rw [a11 nbp]; exact g4
       have h5:upd H4 p (.ins t.c_TalkLook dx (putF "talk_names" (.ref nt) (putF "box_names" (.ref nb) (putF "talk" nm [])))) nt=some (.lst (a25 tn)):=by rw [a11 np4]; exact e4
       generalize upd H4 p (.ins t.c_TalkLook dx (putF "talk_names" (.ref nt) (putF "box_names" (.ref nb) (putF "talk" nm []))))=H5 at k5 e5 g5 h5 ⊢
       walk_at "run"
       intro fl H6 f6 s6 e6
       walk_at "run"
       have p6:=s6 _ _ e5
       have np6:fl≠p:=af7 e6 p6 (fun z=>nomatch z)
       have np5:nt≠p:=np4
       refine ⟨p,_,dx,_,rfl,p6,T.cl_TalkLook,T.n_TalkLook_found,(by have h1:=a47 "talk" nm []; have h2:=a47 "box_names" (V.ref nb) (putF "talk" nm []); have h3:=a47 "talk_names" (V.ref nt) (putF "box_names" (V.ref nb) (putF "talk" nm [])); rw [List.length_nil] at h1; omega),?_⟩
       refine q _ ⟨dx,nm,nb,nt,fl,a14,?_,?_,?_⟩ fun x o e z=>?_
       · rw [a11 nbp]; exact s6 _ _ g5
       · rw [a11 np5]; exact s6 _ _ h5
       · rw [a11 np6]; exact e6
       · rw [a11 z]; exact s6 _ _ (k5 _ _ e z)
def bn6:Sp:=fun vs H Q _=>∃ a b c,vs=[a,b,c]∧False
theorem a75 (T:Txt K mg t):FnOk P w K mg base CX0 1 t.a_TalkLook_tell t.fd_TalkLook_tell ["self","word","what"] bn6:=by
 refine T.f_TalkLook_tell.F.ok ag8 (fun vs H Q E h=>?_) (fun cdv A outer s H vs Q E hr h=>?_)
 · obtain ⟨a,b,c,rfl,_⟩:=h
   rfl
 · obtain ⟨a,b,c,rfl,z⟩:=h
   exact z.elim
def c06:Sp:=fun vs H Q _=>∃ a,vs=[a]∧False
theorem ag9 (T:Txt K mg t):FnOk P w K mg base CX0 1 t.a_shown_pattern t.fd_shown_pattern ["pattern"] c06:=by
 refine T.f_shown_pattern.F.ok ag7 (fun vs H Q E h=>?_) (fun cdv A outer s H vs Q E hr h=>?_)
 · obtain ⟨a,rfl,_⟩:=h
   rfl
 · obtain ⟨a,rfl,z⟩:=h
   exact z.elim
theorem as4 {K:PySem.W.Frag}{H:Hp}{Q:VK}{p:Addr}{ys:List Str}{w:Str}(h1:SqL K H p (a25 ys)) (h:Q (.bl (!decide (w∈ys))) H):rIn K true (.str w) (.ref p) H Q:=⟨p,a25 ys,rfl,.inl h1,rfl,aq9 ys,by rw [if_pos rfl,ah4]; exact h⟩
def c07 (K:PySem.W.Frag) (C:Addr):Sp:=fun vs H Q _=>∃ (p nl:Addr) (bn tn ys:List Str),vs=[.ref p,.ref nl]∧LkO C H p bn tn∧H nl=some (.lst (a25 ys))∧(∀ y∈ys,y∈bn)∧Q .non H
theorem aa6 (T:Txt K mg t):FnOk P w K mg base CX0 2 t.a_TalkLook_look_names t.fd_TalkLook_look_names ["self","names"] (c07 K t.c_TalkLook):=by
 have G_TalkLook_tell:=a75 (P:=P) (w:=w) (base:=base) T
 refine T.f_TalkLook_look_names.F.ok sc_TalkLook_look_names (fun vs H Q E h=>?_) (fun cdv A outer s H vs Q E hr h=>?_)
 · obtain ⟨p,nl,bn,tn,ys,rfl,_⟩:=h
   rfl
 · obtain ⟨p,nl,bn,tn,ys,rfl,hL,hn,hy,q⟩:=h
   refine ⟨_,(@a04 _ _ _ (@a62 _ _ _ _ _ _ _ _ PassesOwn.never rfl (a21 K (pv 1)) (a13 (i:=2) sc_TalkLook_look_names.nd rfl (by walk_at "o")) (@a04 _ _ _ (@a33 _ _ _ _ _ _ _ _ (@a08 _ _ _ _ _ _ _ _ (ae7 K) (pv 2) (au9 K (pv 0) rfl) (by with_unfolding_all rfl)) (@a04 _ _ _ (@a29 _ _ _ _ (a72 (pv 0) T.cl_TalkLook T.f_TalkLook_tell.M G_TalkLook_tell (hr.mono (by omega)) T.f_TalkLook_tell.b .nil a18 (@a00 _ _ _ _ _ (@a05 _ _ _ _) (@a00 _ _ _ _ _ (pv 2) (@a01 _) (by rfl)) (by rfl))) (by rfl))) (@a12 _))) (by intro _; rfl))),?_⟩
   have sl:(1000000:Nat)≤sizeLine:=le_line (Nat.le_refl _)
   obtain ⟨dx,a,bl,tl,fl,h1,h2,h3,h4⟩:=hL.ex
   walk_at "go"
   refine ⟨⟨_,SqL.of hn⟩,a54 (xs:=a25 ys) (fun i σ H'=>H'=H∧∃ y,σ=[some (.ref p),some (.ref nl),y]) ⟨rfl,_,rfl⟩ (fun i σ H' _ zz=>by rw [zz.1]; exact SqL.of hn) ?_ ?_⟩
   · rintro i x σ H' hx ⟨rfl,y,rfl⟩
     obtain ⟨n,hn',rfl⟩:=strs_at hx
     walk_at "run"
     refine ⟨p,_,dx,_,_,rfl,h1,T.cl_TalkLook,T.n_TalkLook_box_names,c05 _ _ _ _,?_⟩
     refine as4 (SqL.of h2) ?_
     rw [decide_eq_true (hy n (List.mem_of_getElem? hn'))]
     walk_at "run"
     exact ⟨rfl,_,rfl⟩
   · rintro σ H' ⟨rfl,y,rfl⟩
     walk_at "run"
     exact q
theorem av5 {H:Hp}:∀ {vs:List V}{ps:List (List Pt)},Each (PAt H) vs ps→Tr.Ats H (ps.map patB) vs []
 | [],[],_=>by simp [Tr.Ats]
 | v::vs,p::ps,h=>by
   have h0:=h.2 0 v p rfl rfl
   have h1:=av5 (vs:=vs) (ps:=ps) ⟨by simpa using h.1,fun j a b e1 e2=>h.2 (j+1) a b (by simpa using e1) (by simpa using e2)⟩
   simp only [List.map_cons,Tr.Ats]
   exact ⟨v,vs,[],[],rfl,rfl,h0,h1⟩
 | [],p::ps,h=>absurd h.1 (by simp)
 | v::vs,[],h=>absurd h.1 (by simp)
theorem be2 {p q:List Pt}(h:patB p=patB q):p=q:=by
 unfold patB at h
 injection h with h
 exact b77 h
theorem av6:∀ ps:List (List Pt),Tr.hs (ps.map patB)≤1
 | []=>by simp [Tr.hs]
 | p::ps=>by
   have h1:=av3 p
   have h2:=av6 ps
   simp only [List.map_cons,Tr.hs,patB,Tr.h]
   omega
theorem patB_mem {p:List Pt}{ps:List (List Pt)}:patB p∈ps.map patB↔p∈ps:=by
 rw [List.mem_map]
 exact ⟨fun ⟨q,h1,h2⟩=>by rw [← be2 h2]; exact h1,fun h=>⟨p,h,rfl⟩⟩
theorem ay3 {bs:List Br}{i:Nat}{p:List Pt}{b:List Stm}(h:bs[i]?=some (.mk p b)):(ptsB bs)[i]?=some p:=by
 induction bs generalizing i with
 | nil=>cases h
 | cons x bs ih =>
   cases x with
   | mk q c =>
     cases i with
     | zero=>simp at h; simp [ptsB,h.1]
     | succ i=>simp at h; simp [ptsB,ih h]
theorem c73 {K:PySem.W.Frag}{H:Hp}{a:Addr}{z:Str}(h:TupK K a [.str z]):(Tr.tup [.str z]).AtK K H (.ref a):=by
 simp only [Tr.AtK,Tr.AtsK]
 exact ⟨_,_,rfl,.inr h,_,_,rfl,rfl,rfl⟩
def ay4 (K:PySem.W.Frag) (C:Addr) (d:Nat):Sp:=fun vs H Q _=>∃ (p:Addr) (bv:V) (lp:Bool) (bn tn:List Str) (b:List Stm) (k L:Nat),vs=[.ref p,bv,.bl lp]∧LkO C H p bn tn∧BAt H bv b∧okB L bn tn k lp b∧L≤1000∧k<d∧∀ H',Same H H'→Q .non H'
def bi0 (K:PySem.W.Frag) (C:Addr) (d:Nat):Sp:=fun vs H Q _=>∃ (p:Addr) (v:V) (lp:Bool) (bn tn:List Str) (s:Stm) (k L:Nat),vs=[.ref p,v,.bl lp]∧LkO C H p bn tn∧SAt H v s∧okS L bn tn k lp s∧L≤1000∧k<d∧∀ H',Same H H'→Q .non H'
def bi1 (K:PySem.W.Frag) (C:Addr) (d:Nat):Sp:=fun vs H Q _=>∃ (p:Addr) (v:V) (lp:Bool) (bn tn:List Str) (n:Int) (bs:List Br) (k L:Nat),vs=[.ref p,v,.bl lp]∧LkO C H p bn tn∧SAt H v (.wait n bs)∧okS L bn tn k lp (.wait n bs)∧L≤1000∧k<d∧∀ H',Same H H'→Q .non H'
theorem c08 {tn:List Str}{s:Stm}(hk:s.kd tn) (h:s.wd=Str.ofString "put"):∃ n e,s=.put n e:=by
 cases s with
 | put n e=>exact ⟨n,e,rfl⟩
 | plain ps =>
   rcases hk with ⟨w,rfl⟩ | ⟨l,w,rfl⟩ | ⟨w,rfl,_⟩ | rfl | rfl | rfl | rfl <;> exact absurd h (by simp only [Stm.wd]; decide +kernel)
 | _=>exact absurd h (by simp only [Stm.wd]; decide +kernel)
theorem c74 {L:Nat}{bn tn:List Str}{k:Nat}{lp:Bool}{s:Stm}(h:okS L bn tn (k+1) lp s):∀ b∈a22 s,okB L bn tn k (lp || decide (s.wd=Str.ofString "loop")) b:=by
 intro b hb
 cases s with
 | plain ps=>cases hb
 | put n e=>cases hb
 | loop x =>
   rw [List.mem_singleton.mp hb,show decide ((Stm.loop x).wd=Str.ofString "loop")=true from decide_eq_true rfl,Bool.or_true]
   exact h
 | test c x y =>
   simp only [a22,List.mem_cons,List.not_mem_nil,or_false] at hb
   rcases hb with rfl | rfl
   · exact ah7 (fun _ z=>z) (Nat.le_refl _) (fun z=>by rw [z,Bool.true_or]) h.2.1
   · exact ah7 (fun _ z=>z) (Nat.le_refl _) (fun z=>by rw [z,Bool.true_or]) h.2.2
 | wait n bs =>
   obtain ⟨br,hbr,rfl⟩:=List.mem_map.mp hb
   obtain ⟨p,x,rfl,hx⟩:=h.2.2.2 br hbr
   exact ah7 (fun _ z=>z) (Nat.le_refl _) (fun z=>by rw [z,Bool.true_or]) hx
theorem ab5 (T:Txt K mg t) {d:Nat}(G_TalkLook_look_body:FnOk P w K mg base CX0 (3*d+20) t.a_TalkLook_look_body t.fd_TalkLook_look_body ["self","body","in_loop"] (ay4 K t.c_TalkLook d)):FnOk P w K mg base CX0 (3*d+21) t.a_TalkLook_look_wait t.fd_TalkLook_look_wait ["self","statement","in_loop"] (bi1 K t.c_TalkLook (d+1)):=by
 have G_TalkLook_tell:=a75 (P:=P) (w:=w) (base:=base) T
 have G_shown_pattern:=ag9 (P:=P) (w:=w) (base:=base) T
 refine T.f_TalkLook_look_wait.F.ok sc_TalkLook_look_wait (fun vs H Q E h=>?_) (fun cdv A outer s H vs Q E hr h=>?_)
 · obtain ⟨p,v,lp,bn,tn,n,bs,k,L,rfl,_⟩:=h
   rfl
 · obtain ⟨p,v,lp,bn,tn,n,bs,k,L,rfl,hL,hs,hw,hL1,hk,q⟩:=h
   refine ⟨_,(@a02 _ _ _ _ _ (bb5 (i:=3) (Nt:=["pattern","body"]) (Nf:=[]) (caps:=[]) rfl (a41 (sc:=a07 a52) rfl rfl (by decide +kernel) (by decide +kernel) (by decide +kernel) rfl (by decide +kernel)) (a21 K (@a19 _ _ _ _ _ _ _ (a10 K) (pv 1) (@a03 _ _ _ _) (fun _ _=>rfl))) (fun _ _ _ _ _=>(a74 K (n:=2) rfl (a27 (a13 (i:=0) (show (["pattern","body"]:List Str).Nodup by decide +kernel) rfl (by walk_at "o")) (a27 (a13 (i:=1) (show (["pattern","body"]:List Str).Nodup by decide +kernel) rfl (by walk_at "o")) (@a71 _))))) (fun _ _ _ _ _=>(@ab3 _)) (fun _ _ _ _ _=>(pv 0)) sc_TalkLook_look_wait.nd rfl (by walk_at "o") rfl)
    (@a30 _ _ _ _ _ (@a33 _ _ _ _ _ _ _ _ (@au5 _ _ _ (@PW.pt _ _ _ (@ac8 _ _ _ _ _ _ _ (@a08 _ _ _ _ _ _ _ _ a38 (@a19 _ _ _ _ _ _ _ (a10 K) (pv 1) (@a03 _ _ _ _) (fun _ _=>rfl)) (@a03 _ _ _ _) (nomark _)) (@a89 _ _ _ _ (@a08 _ _ _ _ _ _ _ _ (ax6 K (by exact hr.units)) (at4 (by rfl) T.m_NONE (by exact T.r_NONE)) (pv 3) (by with_unfolding_all rfl)))))) (@a04 _ _ _ (@a29 _ _ _ _ (a72 (pv 0) T.cl_TalkLook T.f_TalkLook_tell.M G_TalkLook_tell (hr.mono (by omega)) T.f_TalkLook_tell.b .nil a18 (@a00 _ _ _ _ _ (@a05 _ _ _ _) (@a00 _ _ _ _ _ (@a05 _ _ _ _) (@a01 _) (by rfl)) (by rfl))) (by rfl))) (@a12 _))
    (@a04 _ _ _ (@a62 _ _ _ _ _ _ _ _ PassesOwn.never rfl (am9 K rfl T.z_enumerate (@a00 _ _ _ _ _ (@a19 _ _ _ _ _ _ _ (a10 K) (pv 1) (@a03 _ _ _ _) (fun _ _=>rfl)) (@a01 _) (by rfl))) (a74 K (n:=2) rfl (a27 (a13 (i:=4) sc_TalkLook_look_wait.nd rfl (by walk_at "o")) (a27 (a13 (i:=5) sc_TalkLook_look_wait.nd rfl (by walk_at "o")) (@a71 _)))) (@a30 _ _ _ _ _ (@a33 _ _ _ _ _ _ _ _ (@a08 _ _ _ _ _ _ _ _ (ax6 K (by exact hr.units)) (@a19 _ _ _ _ _ _ _ (a10 K) (pv 5) (@a03 _ _ _ _) (fun _ _=>rfl)) (@a92 _ _ _ _ _ _ _ _ _ _ (a98 K) (pv 3) (@ai1 _) (@a91 _ _ _ (pv 4))) (by with_unfolding_all rfl)) (@a04 _ _ _ (@a29 _ _ _ _ (a72 (pv 0) T.cl_TalkLook T.f_TalkLook_tell.M G_TalkLook_tell (hr.mono (by omega)) T.f_TalkLook_tell.b .nil a18 (@a00 _ _ _ _ _ (@a05 _ _ _ _) (@a00 _ _ _ _ _ (@a09 _ _ _ _ _ _ _ _ _ _ _ _ _ _ _ _ G_shown_pattern (hr.mono (by omega)) rfl T.f_shown_pattern.m T.f_shown_pattern.F.kp T.f_shown_pattern.b .nil a18 (@a00 _ _ _ _ _ (@a19 _ _ _ _ _ _ _ (a10 K) (pv 5) (@a03 _ _ _ _) (fun _ _=>rfl)) (@a01 _) (by rfl)) (by decide) (by rfl) (by rfl)) (@a01 _) (by rfl)) (by rfl))) (by rfl))) (@a12 _))
     (@a04 _ _ _ (@a29 _ _ _ _ (a72 (pv 0) T.cl_TalkLook T.f_TalkLook_look_body.M G_TalkLook_look_body (hr.mono (by omega)) T.f_TalkLook_look_body.b .nil a18 (@a00 _ _ _ _ _ (@a19 _ _ _ _ _ _ _ (a10 K) (pv 5) (@a03 _ _ _ _) (fun _ _=>rfl)) (@a00 _ _ _ _ _ (pv 2) (@a01 _) (by rfl)) (by rfl))) (by rfl)))) (by intro _; rfl))))),?_⟩
   have sl:(1000000:Nat)≤sizeLine:=le_line (Nat.le_refl _)
   obtain ⟨a,wl,ws,rfl,e0,e1,hE⟩:=sat_wait.mp hs
   obtain ⟨dx,nm,bl,tl,fl,h1,h2,h3,h4⟩:=hL.ex
   obtain ⟨k,rfl⟩:∃ k',k=k'+1:=by
    cases k with
    | zero=>exact hw.elim
    | succ k=>exact ⟨k,rfl⟩
   obtain ⟨w1,w2,w3,w4⟩:=hw
   walk_at "go"
   refine a23 (SqT.of e0) (a06 (j:=2) rfl) ?_
   walk_at "run"
   refine ⟨⟨ws,SqL.of e1⟩,am8 (xs:=ws) (by rw [hE.1]; omega) (fun i acc H'=>H'=H∧Each (PAt H) acc ((ptsB bs).take i)) ⟨rfl,Each.nil⟩ (fun i acc H' ⟨h1,h2⟩=>⟨by rw [h2.1,List.length_take]; exact Nat.min_le_left _ _,by rw [h1]; exact SqL.of e1⟩) ?_ ?_⟩
   · rintro i x acc H' hx ⟨rfl,hA⟩
     obtain ⟨br,hbr⟩:∃ br,bs[i]?=some br:=⟨_,List.getElem?_eq_getElem (by rw [← hE.1]; exact (List.getElem?_eq_some_iff.mp hx).1)⟩
     have hba:=hE.2 i _ _ hx hbr
     cases br with
     | mk pp xx =>
       obtain ⟨q',pv,bv,rfl,hq,g1,g2⟩:=hba
       refine ⟨q',pv,bv,rfl,SqT.of hq,?_⟩
       walk_at "run"
       refine ⟨rfl,?_⟩
       rw [List.take_add_one,ay3 hbr]
       exact hA.snoc g1
   · rintro acc H' ⟨rfl,hA⟩ pl H1 f1 s1 e2
     rw [hE.1,←ay1,List.take_of_length_le (Nat.le_refl _)] at hA
     have hal:=hA.1
     walk_at "run"
     refine a64 (fun σ' H'=>σ'=[some (.ref p),some (.ref a),some (.bl lp),some (.ref pl),none,none]∧H'=H1) ?_ ?_
     · refine b60 (False) (fun R hR=>?_) ?_
       · walk_at "run"
         refine a23 (SqT.of (s1 _ _ e0)) (a06 (j:=1) rfl) ?_
         walk_at "run"
         by_cases hn:n=0
         · refine a35 hn ?_
           walk_at "run"
           refine bh6 (t:=patB [.s "none"]) (ts:=(ptsB bs).map patB) (c73 T.d_NONE) (SqL.of e2) (Tr.Ats.toK K (av5 (hA.mono fun _ _ z=>z.same s1))) (by decide) (Nat.le_trans (av6 _) (by decide)) ?_
           rw [decide_eq_false (fun z=>w3 hn (patB_mem.mp z))]
           exact ⟨_,rfl,rF hR id⟩
         · refine a28 hn ?_
           exact rF hR id
       · refine a28 id ?_
         exact ⟨rfl,rfl⟩
     rintro σ' H2 ⟨rfl,e12⟩
     rw [e12]
     clear e12 H2
     walk_at "run"
     refine a23 (SqT.of (s1 _ _ e0)) (a06 (j:=2) rfl) ?_
     walk_at "run"
     refine ⟨⟨_,SqL.of (s1 _ _ e1)⟩,ax2 (K:=K) (a:=wl) (xs:=ws) (fun i σ H'=>Same H' H'∧Same H1 H'∧∃ y1 y2,σ=[some (.ref p),some (.ref a),some (.bl lp),some (.ref pl),y1,y2]) ⟨Same.refl _,Same.refl _,_,_,rfl⟩ (fun i σ H' _ zz=>by obtain ⟨_,z,_⟩:=zz; exact SqL.of (z _ _ (s1 _ _ e1))) ?_ ?_⟩
     · rintro i bv σ H2 pq H3 hv ⟨_,s2,y1,y2,rfl⟩ s3 e3
       obtain ⟨br,hbr⟩:∃ br,bs[i]?=some br:=⟨_,List.getElem?_eq_getElem (by rw [← hE.1]; exact (List.getElem?_eq_some_iff.mp hv).1)⟩
       have hba:=hE.2 i _ _ hv hbr
       have hbm:=List.mem_of_getElem? hbr
       cases br with
       | mk pp xx =>
         obtain ⟨q',pv,bv',rfl,hq,g1,g2⟩:=hba
         refine ⟨_,_,rfl,SqT.of e3,rfl,?_⟩
         walk_at "run"
         have s13:=s2.trans s3
         have sH3:=s1.trans s13
         refine a64 (fun σ' H'=>σ'=[some (.ref p),some (.ref a),some (.bl lp),some (.ref pl),some (.int (i:Nat)),some (.ref q')]∧Same H3 H') ?_ ?_
         · walk_at "run"
           refine a23 (SqT.of (sH3 _ _ hq)) (a06 (j:=0) rfl) ?_
           walk_at "run"
           refine au2 (SqL.of (s13 _ _ e2)) ?_
           rw [ao1]
           intro p5 H5 f5 s5 e5
           have sH5:=sH3.trans s5
           have hpp:=ay3 hbr
           refine bh6 (t:=patB pp) (ts:=((ptsB bs).take i).map patB) (Tr.At.toK K (g1.same sH5)) (SqL.of e5) (Tr.Ats.toK K (av5 ((af4 hA i).mono fun _ _ z=>z.same sH5))) (by have:=av3 pp; simp only [patB,Tr.h]; omega) (Nat.le_trans (av6 _) (by decide)) ?_
           rw [decide_eq_false (fun z=>by
            obtain ⟨j,hj⟩:=List.mem_iff_getElem?.mp (patB_mem.mp z)
            rw [List.getElem?_take] at hj
            split at hj
            · rename_i hji
              have hil:=(List.getElem?_eq_some_iff.mp hpp).1
              have:=(List.getElem?_inj (by omega) w2).mp (hj.trans hpp.symm)
              omega
            · cases hj)]
           walk_at "run"
           exact ⟨rfl,s5⟩
         rintro σ' H5 ⟨rfl,s5⟩
         have sH5:=sH3.trans s5
         walk_at "run"
         obtain ⟨p0,x0,hz,hx0⟩:=w4 _ hbm
         cases hz
         refine ⟨p,dx,_,rfl,sH5 _ _ h1,aj3 _ _ _ _ (by decide +kernel) (by decide +kernel) (by decide +kernel) (by decide +kernel),?_⟩
         walk_at "run"
         refine a23 (SqT.of (sH5 _ _ hq)) (a06 (j:=1) rfl) ?_
         walk_at "run"
         refine ⟨p,bv',lp,bn,tn,xx,k,L,rfl,hL.same sH5,g2.same sH5,hx0,hL1,by omega,fun H6 s6=>?_⟩
         walk_at "run"
         exact ⟨Same.refl _,s13.trans (s5.trans s6),_,_,rfl⟩
     · rintro σ H2 ⟨_,s2,y1,y2,rfl⟩
       walk_at "run"
       exact q H2 (s1.trans s2)
theorem a84 (T:Txt K mg t) {d:Nat}(G_TalkLook_look_wait:FnOk P w K mg base CX0 (3*d+21) t.a_TalkLook_look_wait t.fd_TalkLook_look_wait ["self","statement","in_loop"] (bi1 K t.c_TalkLook (d+1))) (G_TalkLook_look_body:FnOk P w K mg base CX0 (3*d+20) t.a_TalkLook_look_body t.fd_TalkLook_look_body ["self","body","in_loop"] (ay4 K t.c_TalkLook d)):FnOk P w K mg base CX0 (3*d+22) t.a_TalkLook_look_statement t.fd_TalkLook_look_statement ["self","statement","in_loop"] (bi0 K t.c_TalkLook (d+1)):=by
 have G_TalkLook_look_names:=aa6 (P:=P) (w:=w) (base:=base) T
 have G_TalkLook_tell:=a75 (P:=P) (w:=w) (base:=base) T
 have G_bodies_of:=ag5 (P:=P) (w:=w) (base:=base) T
 have G_names_in:=av4 (P:=P) (w:=w) (base:=base) T
 refine T.f_TalkLook_look_statement.F.ok sc_TalkLook_look_statement (fun vs H Q E h=>?_) (fun cdv A outer s H vs Q E hr h=>?_)
 · obtain ⟨p,v,lp,bn,tn,s,k,L,rfl,_⟩:=h
   rfl
 · obtain ⟨p,v,lp,bn,tn,s,k,L,rfl,hL,hs,hw,hL1,hk,q⟩:=h
   replace G_names_in:=G_names_in 12
   refine ⟨_,(@a02 _ _ _ _ _ (@a16 _ _ 3 _ _ _ _ sc_TalkLook_look_statement.nd rfl (by walk_at "o") (@a19 _ _ _ _ _ _ _ (a10 K) (pv 1) (@a03 _ _ _ _) (fun _ _=>rfl)) (by rfl) (by walk_at "o"))
    (@a02 _ _ _ _ _ (@a33 _ _ _ _ _ _ _ _ (@a08 _ _ _ _ _ _ _ _ a38 (pv 3) (@a05 _ _ _ _) (nomark _)) (@a02 _ _ _ _ _ (@a29 _ _ _ _ (a72 (pv 0) T.cl_TalkLook T.f_TalkLook_look_wait.M G_TalkLook_look_wait (hr.mono (by omega)) T.f_TalkLook_look_wait.b .nil a18 (@a00 _ _ _ _ _ (pv 1) (@a00 _ _ _ _ _ (pv 2) (@a01 _) (by rfl)) (by rfl))) (by rfl))
     (@a04 _ _ _ (@bi8 _ _))) (@a12 _))
    (@a30 _ _ _ _ _ (@a33 _ _ _ _ _ _ _ _ (@a08 _ _ _ _ _ _ _ _ a38 (pv 3) (@a05 _ _ _ _) (nomark _)) (@a04 _ _ _ (@a29 _ _ _ _ (a72 (pv 0) T.cl_TalkLook T.f_TalkLook_look_names.M G_TalkLook_look_names (hr.mono (by omega)) T.f_TalkLook_look_names.b .nil a18 (@a00 _ _ _ _ _ (@a37 _ _ _ _ _ _ _ _ a32 (@a15 _ _ _ _ (@a00 _ _ _ _ _ (@a19 _ _ _ _ _ _ _ (a10 K) (pv 1) (@a03 _ _ _ _) (fun _ _=>rfl)) (@a01 _) (by rfl))) (@a09 _ _ _ _ _ _ _ _ _ _ _ _ _ _ _ _ G_names_in (hr.mono (by omega)) rfl T.f_names_in.m T.f_names_in.F.kp T.f_names_in.b .nil a18 (@a00 _ _ _ _ _ (@a19 _ _ _ _ _ _ _ (a10 K) (pv 1) (@a03 _ _ _ _) (fun _ _=>rfl)) (@a01 _) (by rfl)) (by decide) (by rfl) (by rfl))) (@a01 _) (by rfl))) (by rfl))) (@a12 _))
    (@a30 _ _ _ _ _ (@a33 _ _ _ _ _ _ _ _ (@a08 _ _ _ _ _ _ _ _ a38 (pv 3) (@a05 _ _ _ _) (nomark _)) (@a04 _ _ _ (@a29 _ _ _ _ (a72 (pv 0) T.cl_TalkLook T.f_TalkLook_look_names.M G_TalkLook_look_names (hr.mono (by omega)) T.f_TalkLook_look_names.b .nil a18 (@a00 _ _ _ _ _ (@a09 _ _ _ _ _ _ _ _ _ _ _ _ _ _ _ _ G_names_in (hr.mono (by omega)) rfl T.f_names_in.m T.f_names_in.F.kp T.f_names_in.b .nil a18 (@a00 _ _ _ _ _ (@a19 _ _ _ _ _ _ _ (a10 K) (pv 1) (@a03 _ _ _ _) (fun _ _=>rfl)) (@a01 _) (by rfl)) (by decide) (by rfl) (by rfl)) (@a01 _) (by rfl))) (by rfl))) (@a12 _))
    (@a30 _ _ _ _ _ (@a33 _ _ _ _ _ _ _ _ (@au5 _ _ _ (@PW.pt _ _ _ (@ac8 _ _ _ _ _ _ _ (@a08 _ _ _ _ _ _ _ _ a38 (pv 3) (@a05 _ _ _ _) (nomark _)) (@a89 _ _ _ _ (@a08 _ _ _ _ _ _ _ _ (ae7 K) (@a19 _ _ _ _ _ _ _ (a10 K) (pv 1) (@a03 _ _ _ _) (fun _ _=>rfl)) (au9 K (pv 0) rfl) (by with_unfolding_all rfl)))))) (@a04 _ _ _ (@a29 _ _ _ _ (a72 (pv 0) T.cl_TalkLook T.f_TalkLook_tell.M G_TalkLook_tell (hr.mono (by omega)) T.f_TalkLook_tell.b .nil a18 (@a00 _ _ _ _ _ (@a05 _ _ _ _) (@a00 _ _ _ _ _ (@a19 _ _ _ _ _ _ _ (a10 K) (pv 1) (@a03 _ _ _ _) (fun _ _=>rfl)) (@a01 _) (by rfl)) (by rfl))) (by rfl))) (@a12 _))
    (@a30 _ _ _ _ _ (@a33 _ _ _ _ _ _ _ _ (@au5 _ _ _ (@PW.pt _ _ _ (@ac8 _ _ _ _ _ _ _ (@PW.pt _ _ _ (@am2 _ _ _ _ _ _ _ (@a08 _ _ _ _ _ _ _ _ a38 (pv 3) (@a05 _ _ _ _) (nomark _)) (@ag2 _ _ _ _ (@a08 _ _ _ _ _ _ _ _ a38 (pv 3) (@a05 _ _ _ _) (nomark _))))) (@a89 _ _ _ _ (@b18 _ _ _ _ (ad5 K (pv 2) (fun _=>rfl))))))) (@a04 _ _ _ (@a29 _ _ _ _ (a72 (pv 0) T.cl_TalkLook T.f_TalkLook_tell.M G_TalkLook_tell (hr.mono (by omega)) T.f_TalkLook_tell.b .nil a18 (@a00 _ _ _ _ _ (pv 3) (@a00 _ _ _ _ _ (@a05 _ _ _ _) (@a01 _) (by rfl)) (by rfl))) (by rfl))) (@a12 _))
    (@a04 _ _ _ (@a62 _ _ _ _ _ _ _ _ PassesOwn.never rfl (a21 K (@a09 _ _ _ _ _ _ _ _ _ _ _ _ _ _ _ _ G_bodies_of (hr.mono (by omega)) rfl T.f_bodies_of.m T.f_bodies_of.F.kp T.f_bodies_of.b .nil a18 (@a00 _ _ _ _ _ (pv 1) (@a01 _) (by rfl)) (by decide) (by rfl) (by rfl))) (a13 (i:=4) sc_TalkLook_look_statement.nd rfl (by walk_at "o")) (@a04 _ _ _ (@a29 _ _ _ _ (a72 (pv 0) T.cl_TalkLook T.f_TalkLook_look_body.M G_TalkLook_look_body (hr.mono (by omega)) T.f_TalkLook_look_body.b .nil a18 (@a00 _ _ _ _ _ (pv 4) (@a00 _ _ _ _ _ (@bq2 _ _ _ _ _ _ _ (pv 2) (@b19 _ _ _ _ _ (@a90 _ _ _ _ _ _ _ _ a38 (pv 3) (@a05 _ _ _ _) (nomark _)))) (@a01 _) (by rfl)) (by rfl))) (by rfl))) (by intro _; rfl))))))))),?_⟩
   have sl:(1000000:Nat)≤sizeLine:=le_line (Nat.le_refl _)
   have hkd:=be1 hL1 hw
   obtain ⟨a,us,rfl,ea⟩:=al8 hs hkd
   obtain ⟨dx,nm,bl,tl,fl,h1,h2,h3,h4⟩:=hL.ex
   walk_at "go"
   refine a23 (SqT.of ea) (a06 (j:=0) rfl) ?_
   walk_at "run"
   by_cases c1:s.wd=Str.ofString "wait"
   · refine a35 c1 ?_
     walk_at "run"
     obtain ⟨n,bs,rfl⟩:=an5 hkd c1
     refine ⟨p,dx,_,rfl,h1,aj3 _ _ _ _ (by decide +kernel) (by decide +kernel) (by decide +kernel) (by decide +kernel),?_⟩
     walk_at "run"
     refine ⟨p,.ref a,lp,bn,tn,n,bs,k,L,rfl,hL,hs,hw,hL1,hk,fun H1 s1=>?_⟩
     walk_at "run"
     exact q H1 s1
   refine a28 c1 ?_
   walk_at "run"
   refine a64 (fun σ' H'=>σ'=[some (.ref p),some (.ref a),some (.bl lp),some (.str s.wd),none]∧Same H H') ?_ ?_
   · walk_at "run"
     by_cases c2:s.wd=Str.ofString "put"
     · refine a35 c2 ?_
       walk_at "run"
       obtain ⟨m,e,rfl⟩:=c08 hkd c2
       obtain ⟨hm,hT⟩:=okS_put.mp hw
       obtain ⟨a',u,hz,ea',hu⟩:=c71 hs
       cases hz
       refine ⟨p,dx,_,rfl,h1,aj3 _ _ _ _ (by decide +kernel) (by decide +kernel) (by decide +kernel) (by decide +kernel),?_⟩
       walk_at "run"
       refine a23 (SqT.of ea') (a06 (j:=1) rfl) ?_
       walk_at "run"
       intro l1 H1 f1 s1 e1
       walk_at "run"
       refine a23 (SqT.of (s1 _ _ ea')) (a06 (j:=2) rfl) ?_
       walk_at "run"
       refine ⟨u,.ex e,rfl,hu.mono s1.tups,Nat.lt_trans hT.h (by decide),Nat.le_trans hT.z (by decide),fun l2 H2 f2 s2 e2=>?_⟩
       have hzl:=Th.names_le (.ex e)
       have hz:=hT.z
       walk_at "run"
       refine a44 (s2 _ _ e1) e2 (by unfold a25; rw [List.length_map]; simp only [List.length_cons,List.length_nil]; omega) ?_
       intro l3 H3 f3 s3 e3
       have s13:=s1.trans (s2.trans s3)
       refine ⟨p,l3,bn,tn,m::(Th.ex e).names,rfl,hL.same s13,e3,fun y hy=>?_,?_⟩
       · rcases List.mem_cons.mp hy with rfl | hy
         · exact hm
         · exact hT.n y hy
       · exact ⟨rfl,s13⟩
     · refine a28 c2 ?_
       walk_at "run"
       exact ⟨rfl,Same.refl _⟩
   rintro σ' H1 ⟨rfl,s1⟩
   walk_at "run"
   refine a64 (fun σ' H'=>σ'=[some (.ref p),some (.ref a),some (.bl lp),some (.str s.wd),none]∧Same H H') ?_ ?_
   · walk_at "run"
     by_cases c2:s.wd=Str.ofString "test"
     · refine a35 c2 ?_
       walk_at "run"
       obtain ⟨c,x,y,rfl⟩:=an4 hkd c2
       have hT:ThO bn (.cd c):=by
        cases k with
        | zero=>exact hw.elim
        | succ k=>exact hw.1
       obtain ⟨a',u,u2,u3,hz,ea',hu⟩:=c72 hs
       cases hz
       refine ⟨p,dx,_,rfl,s1 _ _ h1,aj3 _ _ _ _ (by decide +kernel) (by decide +kernel) (by decide +kernel) (by decide +kernel),?_⟩
       walk_at "run"
       refine a23 (SqT.of (s1 _ _ ea')) (a06 (j:=1) rfl) ?_
       walk_at "run"
       refine ⟨u,.cd c,rfl,hu.mono s1.tups,Nat.lt_trans hT.h (by decide),Nat.le_trans hT.z (by decide),fun l2 H2 f2 s2 e2=>?_⟩
       walk_at "run"
       exact ⟨p,l2,bn,tn,(Th.cd c).names,rfl,hL.same (s1.trans s2),e2,hT.n,rfl,s1.trans s2⟩
     · refine a28 c2 ?_
       walk_at "run"
       exact ⟨rfl,s1⟩
   rintro σ' H2 ⟨rfl,s2⟩
   walk_at "run"
   refine a64 (fun σ' H'=>σ'=[some (.ref p),some (.ref a),some (.bl lp),some (.str s.wd),none]∧H'=H2) ?_ ?_
   · refine b60 (False) (fun R hR=>?_) ?_
     · walk_at "run"
       by_cases c2:s.wd=Str.ofString "call"
       · refine a35 c2 ?_
         walk_at "run"
         obtain ⟨c,rfl⟩:=ao2 hkd c2
         obtain ⟨a',hz,ea'⟩:=ax7 hs
         cases hz
         refine a23 (SqT.of (s2 _ _ ea')) (a06 (j:=1) rfl) ?_
         walk_at "run"
         refine ⟨p,_,dx,_,_,rfl,s2 _ _ h1,T.cl_TalkLook,T.n_TalkLook_talk_names,c04 _ _ _ _,?_⟩
         refine as4 (SqL.of (s2 _ _ h3)) ?_
         have hc:c∈tn:=by
          rcases okS_pl.mp hw with ⟨w,e⟩ | ⟨l,w,e⟩ | ⟨c',h1,e⟩ | ⟨_,e | e⟩ | e | e
          · exact absurd (congrArg (fun l=>l.head?) e) (by simp; decide +kernel)
          · simp at e
          · simp at e; rw [e]; exact h1
          all_goals simp at e
         rw [decide_eq_true hc]
         exact ⟨_,rfl,rF hR id⟩
       · refine a28 c2 ?_
         exact rF hR id
     · refine a28 id ?_
       walk_at "run"
       exact ⟨rfl,rfl⟩
   rintro σ' H3 ⟨rfl,e32⟩
   subst e32
   walk_at "run"
   refine a64 (fun σ' H'=>σ'=[some (.ref p),some (.ref a),some (.bl lp),some (.str s.wd),none]∧H'=H3) ?_ ?_
   · refine b60 (False) (fun R hR=>?_) ?_
     · walk_at "run"
       have hal:s.wd=Str.ofString "again"∨s.wd=Str.ofString "leave"→lp=true:=fun z=>by
        cases s with
        | plain ps =>
          rcases okS_pl.mp hw with ⟨w,rfl⟩ | ⟨l,w,rfl⟩ | ⟨c',h1,rfl⟩ | ⟨h,_⟩ | rfl | rfl
          · exact absurd z (by simp only [Stm.wd]; decide +kernel)
          · exact absurd z (by simp only [Stm.wd]; decide +kernel)
          · exact absurd z (by simp only [Stm.wd]; decide +kernel)
          · exact h
          · exact absurd z (by decide +kernel)
          · exact absurd z (by decide +kernel)
        | _=>exact absurd z (by simp only [Stm.wd]; decide +kernel)
       by_cases c2:s.wd=Str.ofString "again"
       · refine a35 c2 ?_
         walk_at "run"
         rw [hal (.inl c2)]
         exact rF hR id
       · refine a28 c2 ?_
         walk_at "run"
         by_cases c3:s.wd=Str.ofString "leave"
         · refine a35 c3 ?_
           walk_at "run"
           rw [hal (.inr c3)]
           exact rF hR id
         · refine a28 c3 ?_
           exact rF hR id
     · refine a28 id ?_
       walk_at "run"
       exact ⟨rfl,rfl⟩
   rintro σ' H4 ⟨rfl,e43⟩
   subst e43
   walk_at "run"
   refine ⟨.ref a,s,H,tn,rfl,s2,hs,hkd,fun l us5 H5 f5 s5 e5 hE=>?_⟩
   have s25:=s2.trans s5
   refine ⟨l,rfl,⟨us5,SqL.of e5⟩,a54 (xs:=us5) (fun i σ H'=>Same H H'∧H' l=some (.lst us5)∧∃ y,σ=[some (.ref p),some (.ref a),some (.bl lp),some (.str s.wd),y]) ⟨s25,e5,_,rfl⟩ (fun i σ H' _ zz=>by obtain ⟨_,z,_⟩:=zz; exact SqL.of z) ?_ ?_⟩
   · rintro i bv σ H6 hv ⟨s6,e6,y,rfl⟩
     obtain ⟨b,hb⟩:∃ b,(a22 s)[i]?=some b:=⟨_,List.getElem?_eq_getElem (by rw [← hE.1]; exact (List.getElem?_eq_some_iff.mp hv).1)⟩
     have hbm:=List.mem_of_getElem? hb
     have hbv:=(hE.2 i _ _ hv hb).same s6
     obtain ⟨j,lp',rfl,hB⟩:=bn4 hw b hbm
     have hB:okB L bn tn j (lp || decide (s.wd=Str.ofString "loop")) b:=c74 hw b hbm
     walk_at "run"
     refine ⟨p,dx,_,rfl,s6 _ _ h1,aj3 _ _ _ _ (by decide +kernel) (by decide +kernel) (by decide +kernel) (by decide +kernel),?_⟩
     walk_at "run"
     by_cases hlp:lp=true
     · rw [if_pos hlp]
       walk_at "run"
       refine ⟨p,bv,true,bn,tn,b,j,L,rfl,hL.same s6,hbv,(by rw [hlp,Bool.true_or] at hB; exact hB),hL1,by omega,fun H7 s7=>?_⟩
       walk_at "run"
       exact ⟨s6.trans s7,s7 _ _ e6,_,rfl⟩
     · rw [if_neg hlp]
       walk_at "run"
       refine ⟨p,bv,decide (s.wd=Str.ofString "loop"),bn,tn,b,j,L,rfl,hL.same s6,hbv,(by rw [Bool.eq_false_iff.mpr hlp,Bool.false_or] at hB; exact hB),hL1,by omega,fun H7 s7=>?_⟩
       walk_at "run"
       exact ⟨s6.trans s7,s7 _ _ e6,_,rfl⟩
   · rintro σ H6 ⟨s6,e6,y,rfl⟩
     walk_at "run"
     exact q H6 s6
theorem ab6 (T:Txt K mg t) {d:Nat}(G_TalkLook_look_statement:FnOk P w K mg base CX0 (3*d+22) t.a_TalkLook_look_statement t.fd_TalkLook_look_statement ["self","statement","in_loop"] (bi0 K t.c_TalkLook (d+1))):FnOk P w K mg base CX0 (3*d+23) t.a_TalkLook_look_body t.fd_TalkLook_look_body ["self","body","in_loop"] (ay4 K t.c_TalkLook (d+1)):=by
 refine T.f_TalkLook_look_body.F.ok sc_TalkLook_look_body (fun vs H Q E h=>?_) (fun cdv A outer s H vs Q E hr h=>?_)
 · obtain ⟨p,bv,lp,bn,tn,b,k,L,rfl,_⟩:=h
   rfl
 · obtain ⟨p,bv,lp,bn,tn,b,k,L,rfl,hL,hb,hw,hL1,hk,q⟩:=h
   refine ⟨_,(@a04 _ _ _ (@a62 _ _ _ _ _ _ _ _ PassesOwn.never rfl (a21 K (pv 1)) (a13 (i:=3) sc_TalkLook_look_body.nd rfl (by walk_at "o")) (@a04 _ _ _ (@a29 _ _ _ _ (a72 (pv 0) T.cl_TalkLook T.f_TalkLook_look_statement.M G_TalkLook_look_statement (hr.mono (by omega)) T.f_TalkLook_look_statement.b .nil a18 (@a00 _ _ _ _ _ (pv 3) (@a00 _ _ _ _ _ (pv 2) (@a01 _) (by rfl)) (by rfl))) (by rfl))) (by intro _; rfl))),?_⟩
   have sl:(1000000:Nat)≤sizeLine:=le_line (Nat.le_refl _)
   obtain ⟨bl,us,rfl,e0,hE⟩:=bat_iff.mp hb
   obtain ⟨dx,nm,bl',tl,fl,h1,h2,h3,h4⟩:=hL.ex
   walk_at "go"
   refine ⟨⟨us,SqL.of e0⟩,a54 (xs:=us) (fun i σ H'=>Same H H'∧∃ y,σ=[some (.ref p),some (.ref bl),some (.bl lp),y]) ⟨Same.refl _,_,rfl⟩ (fun i σ H' _ zz=>by obtain ⟨z,_⟩:=zz; exact SqL.of (z _ _ e0)) ?_ ?_⟩
   · rintro i sv σ H6 hv ⟨s6,y,rfl⟩
     obtain ⟨s,hs⟩:∃ s,b[i]?=some s:=⟨_,List.getElem?_eq_getElem (by rw [← hE.1]; exact (List.getElem?_eq_some_iff.mp hv).1)⟩
     walk_at "run"
     refine ⟨p,dx,_,rfl,s6 _ _ h1,aj3 _ _ _ _ (by decide +kernel) (by decide +kernel) (by decide +kernel) (by decide +kernel),?_⟩
     walk_at "run"
     refine ⟨p,sv,lp,bn,tn,s,k,L,rfl,hL.same s6,(hE.2 i _ _ hv hs).same s6,hw.2 s (List.mem_of_getElem? hs),hL1,hk,fun H7 s7=>?_⟩
     walk_at "run"
     exact ⟨s6.trans s7,_,rfl⟩
   · rintro σ H6 ⟨s6,y,rfl⟩
     walk_at "run"
     exact q H6 s6
theorem a48 (T:Txt K mg t):∀ d:Nat,FnOk P w K mg base CX0 (3*d+20) t.a_TalkLook_look_body t.fd_TalkLook_look_body ["self","body","in_loop"] (ay4 K t.c_TalkLook d)
 | 0=>vac fun vs H Q E ⟨_,_,_,_,_,_,_,_,_,_,_,_,_,h,_⟩=>Nat.not_lt_zero _ h
 | d+1=>ab6 T (a84 T (ab5 T (a48 T d)) (a48 T d))
structure TkO (L:Nat) (ts:Tks) (bn:List Str) (rk:Str→Nat):Prop where
 l:ts.length≤100
 m:L≤1000
 u:(ts.map (·.1)).Nodup
 o:∀ x∈ts,okB L bn (ts.map (·.1)) 10 false x.2
 z:∀ x∈ts,(allB x.2).length≤1000
 c:∀ x∈ts,∀ c,ad6 c x.2→rk x.1<rk c
theorem b87 {ts:Tks}{c:Str}(h:c∈ts.map (·.1)):∃ b,a51 ts c=some b:=by
 unfold a51
 obtain ⟨x,hx,rfl⟩:=List.mem_map.mp h
 cases e:ts.find? fun t=>decide (t.1=x.1) with
 | some y=>exact ⟨y.2,rfl⟩
 | none=>have:=List.find?_eq_none.mp e x hx; simp at this
theorem TkO.kd {L:Nat}{ts:Tks}{bn:List Str}{rk:Str→Nat}(h:TkO L ts bn rk) {x:Str×List Stm}(hx:x∈ts):KdB (ts.map (·.1)) x.2:=bh9 h.m (h.o x hx)
theorem TkO.hs {L:Nat}{ts:Tks}{bn:List Str}{rk:Str→Nat}(h:TkO L ts bn rk) {x:Str×List Stm}(hx:x∈ts):Tr.hs (Stm.trs x.2)<100:=by
 have:=al9 (b:=x.2) (n:=24+4*10) fun s hs=>c70 10 false s ((h.o x hx).2 s hs)
 omega
theorem TkO.call {L:Nat}{ts:Tks}{bn:List Str}{rk:Str→Nat}(h:TkO L ts bn rk) {x:Str×List Stm}(hx:x∈ts) {c:Str}(hc:ad6 c x.2):∃ b,a51 ts c=some b:=by
 have:=h.kd hx _ hc
 rcases this with ⟨w,e⟩ | ⟨l,w,e⟩ | ⟨w,e,hw⟩ | e | e | e | e
 · exact absurd (congrArg (fun l=>l.head?) e) (by simp; decide +kernel)
 · simp at e
 · simp at e
   subst e
   exact b87 hw
 all_goals simp at e
def c75 (K:PySem.W.Frag):Sp:=fun vs H Q _=>∃ (tv:V) (ts:Tks) (L:Nat) (bn:List Str) (rk:Str→Nat),vs=[tv]∧TksAt H tv ts∧TkO L ts bn rk∧∀ p H',Same H H'→H p=none→H' p=some (.lst [])→Q (.ref p) H'
theorem aj4 (T:Txt K mg t):FnOk P w K mg base CX0 107 t.a_round_faults t.fd_round_faults ["talks"] (c75 K):=by
 have G_called_talks:=aj2 (P:=P) (w:=w) (base:=base) T
 have G_comes_round:=ak2 (P:=P) (w:=w) (base:=base) T
 refine T.f_round_faults.F.ok sc_round_faults (fun vs H Q E h=>?_) (fun cdv A outer s H vs Q E hr h=>?_)
 · obtain ⟨tv,ts,L,bn,rk,rfl,_⟩:=h
   rfl
 · obtain ⟨tv,ts,L,bn,rk,rfl,ht,hO,q⟩:=h
   refine ⟨_,(@a02 _ _ _ _ _ (@a16 _ _ 1 _ _ _ _ sc_round_faults.nd rfl (by walk_at "o") (ac4 (Nt:=["name","body"]) (Nf:=["talks"]) (caps:=[0]) rfl (a41 (sc:=a07 a65) rfl rfl (by decide +kernel) (by decide +kernel) (by decide +kernel) rfl (by decide +kernel)) (a21 K (pv 0)) (fun _ _ _ _ _=>(a74 K (n:=2) rfl (a27 (a13 (i:=0) (show (["name","body","talks"]:List Str).Nodup by decide +kernel) rfl (by walk_at "o")) (a27 (a13 (i:=1) (show (["name","body","talks"]:List Str).Nodup by decide +kernel) rfl (by walk_at "o")) (@a71 _))))) (fun _ _ _ _ _=>(@ab3 _)) (fun _ _ _ _ _=>(@a09 _ _ _ _ _ _ _ _ _ _ _ _ _ _ _ _ G_called_talks (hr.mono (by omega)) rfl T.f_called_talks.m T.f_called_talks.F.kp T.f_called_talks.b .nil a18 (@a00 _ _ _ _ _ (pv 2) (@a00 _ _ _ _ _ (pv 1) (@a01 _) (by rfl)) (by rfl)) (by decide) (by rfl) (by rfl)))) (by rfl) (by walk_at "o"))
    (@a04 _ _ _ (@a17 _ _ _ _ (ac4 (Nt:=["place","talk"]) (Nf:=["called"]) (caps:=[1]) rfl (a41 (sc:=a07 a65) rfl rfl (by decide +kernel) (by decide +kernel) (by decide +kernel) rfl (by decide +kernel)) (am9 K rfl T.z_enumerate (@a00 _ _ _ _ _ (pv 0) (@a01 _) (by rfl))) (fun _ _ _ _ _=>(a74 K (n:=2) rfl (a27 (a13 (i:=0) (show (["place","talk","called"]:List Str).Nodup by decide +kernel) rfl (by walk_at "o")) (a27 (a13 (i:=1) (show (["place","talk","called"]:List Str).Nodup by decide +kernel) rfl (by walk_at "o")) (@a71 _))))) (fun _ _ _ _ _=>(@a73 _ _ _ (ad5 K (@a09 _ _ _ _ _ _ _ _ _ _ _ _ _ _ _ _ G_comes_round (hr.mono (by omega)) rfl T.f_comes_round.m T.f_comes_round.F.kp T.f_comes_round.b .nil a18 (@a00 _ _ _ _ _ (pv 0) (@a00 _ _ _ _ _ (pv 2) (@a01 _) (by rfl)) (by rfl)) (by decide) (by rfl) (by rfl)) (fun _=>rfl)))) (fun _ _ _ _ _=>(@a20 _ _ _ _ _ (@a00 _ _ _ _ _ (@a19 _ _ _ _ _ _ _ (a10 K) (pv 1) (@a03 _ _ _ _) (fun _ _=>rfl)) (@a00 _ _ _ _ _ (@a05 _ _ _ _) (@a00 _ _ _ _ _ (@a05 _ _ _ _) (@a01 _) (by rfl)) (by rfl)) (by rfl)))))))),?_⟩
   have sl:(1000000:Nat)≤sizeLine:=le_line (Nat.le_refl _)
   obtain ⟨lt,tvs,rfl,et,hE,hl⟩:=ht
   walk_at "go"
   refine ⟨⟨tvs,SqL.of et⟩,am8 (xs:=tvs) (by rw [hE.1]; omega) (fun i acc H'=>Same H H'∧∃ Ks:List (List Nat),Ks.length=i∧Each (bn1 H') acc Ks∧∀ (j:Nat) (ks:List Nat),Ks[j]?=some ks→ks.length≤1000∧∀ k∈ks,∃ (x y:Str×List Stm),ts[j]?=some x∧ts[k]?=some y∧ad6 y.1 x.2) ⟨Same.refl _,[],rfl,Each.nil,fun j ks h=>by cases h⟩ (fun i acc H' ⟨h1,Ks,h2,h3,_⟩=>⟨by rw [h3.1,h2]; exact Nat.le_refl _,SqL.of (h1 _ _ et)⟩) ?_ ?_⟩
   · rintro i v acc H2 hv ⟨s2,Ks,hKl,hA,hK⟩
     obtain ⟨x,hx⟩:∃ x,ts[i]?=some x:=⟨_,List.getElem?_eq_getElem (by rw [← hE.1]; exact (List.getElem?_eq_some_iff.mp hv).1)⟩
     have hxm:=List.mem_of_getElem? hx
     obtain ⟨a,u,rfl,ea,hb⟩:=hE.2 i _ _ hv hx
     refine ⟨a,_,u,rfl,SqT.of (s2 _ _ ea),?_⟩
     walk_at "run"
     refine ⟨.ref lt,u,ts,x.2,ts.map (·.1),rfl,⟨lt,tvs,rfl,s2 _ _ et,hE.mono fun _ _ z=>z.same s2,hl⟩,hb.same s2,hO.kd hxm,hO.hs hxm,Nat.le_trans (hO.z x hxm) (by decide),fun c hc=>hO.call hxm hc,fun l3 ks H3 f3 s3 e3 hkl hks=>?_⟩
     refine ⟨s2.trans s3,Ks++[ks],by simp [hKl],(hA.mono fun v k z=>by obtain ⟨a,z1,z2⟩:=z; exact ⟨a,z1,s3 _ _ z2⟩).snoc ⟨l3,rfl,e3⟩,fun j ks' hj=>?_⟩
     by_cases hji:j<Ks.length
     · rw [List.getElem?_append_left hji] at hj
       exact hK j ks' hj
     · rw [List.getElem?_append_right (by omega)] at hj
       have:j - Ks.length=0:=by
        have:=(List.getElem?_eq_some_iff.mp hj).1
        simp at this
        omega
       rw [this] at hj
       obtain rfl:=Option.some.inj hj
       refine ⟨Nat.le_trans hkl (hO.z x hxm),fun k hk=>?_⟩
       obtain ⟨y,h1,h2⟩:=hks k hk
       exact ⟨x,y,by rw [show j=i by omega]; exact hx,h1,h2⟩
   · rintro acc H2 ⟨s2,Ks,hKl,hA,hK⟩ cl H3 f3 s3 e3
     walk_at "run"
     have sH3:=s2.trans s3
     have hA3:Each (bn1 H3) acc Ks:=hA.mono fun v k z=>by obtain ⟨a,z1,z2⟩:=z; exact ⟨a,z1,s3 _ _ z2⟩
     have hKt:Ks.length=ts.length:=by rw [hKl,hE.1]
     refine ⟨⟨_,SqL.of (sH3 _ _ et)⟩,b59 (xs:=tvs) (by rw [hE.1]; omega) (fun i acc H'=>Same H3 H'∧acc=[]) ⟨Same.refl _,rfl⟩ (fun i acc H' ⟨h1,h2⟩=>⟨by rw [h2]; exact Nat.zero_le _,SqL.of ((sH3.trans h1) _ _ et)⟩) ?_ ?_⟩
     · rintro i v acc' H4 H5 hv ⟨s4,rfl⟩ s5
       have s45:=s4.trans s5
       have hil:=(List.getElem?_eq_some_iff.mp hv).1
       walk_at "run"
       refine ⟨i,cl,acc,Ks,fun k=>rk ((ts.map (·.1)).getD k ⟨#[]⟩),rfl,s45 _ _ e3,hA3.mono fun v k z=>(by obtain ⟨a,z1,z2⟩:=z; exact ⟨a,z1,s45 _ _ z2⟩),by have:=hO.l; omega,fun ks hks=>?_,fun j ks hj k hk=>?_,by rw [hKt,←hE.1]; exact hil,fun H6 s6=>?_⟩
       · obtain ⟨j,hj⟩:=List.mem_iff_getElem?.mp hks
         obtain ⟨h1,h2⟩:=hK j ks hj
         refine ⟨h1,fun k hk=>?_⟩
         obtain ⟨x,y,_,h4,_⟩:=h2 k hk
         rw [hKt]
         exact (List.getElem?_eq_some_iff.mp h4).1
       · obtain ⟨x,y,h3,h4,h5⟩:=(hK j ks hj).2 k hk
         have g1:(ts.map (·.1)).getD j ⟨#[]⟩=x.1:=by simp [List.getD,h3]
         have g2:(ts.map (·.1)).getD k ⟨#[]⟩=y.1:=by simp [List.getD,h4]
         show rk _<rk _
         rw [g1,g2]
         exact hO.c x (List.mem_of_getElem? h3) _ h5
       · walk_at "run"
         exact ⟨s45.trans s6,rfl⟩
     · rintro acc' H4 ⟨s4,rfl⟩ p H5 f5 s5 e5
       have s:=sH3.trans (s4.trans s5)
       exact q p H5 s (a26 (sH3.trans s4) f5) e5
def dryE (E:List Wd):Bool:=decide (.on∈E) || decide (.again∈E)
def a46 (ts:Tks):Stm→Bool
 | .loop x=>match eBf (eS ts 30) x with
   | some E=>dryE E
   | none=>false
 | _=>false
def dueL (ts:Tks) (us:Tks):List Str:=us.flatMap fun t=>List.replicate ((allB t.2).countP (a46 ts)) t.1
def RowD (H:Hp) (v:V) (nm:Str):Prop:=∃ a,v=.ref a∧H a=some (.tup [.str nm,.str "dry",.str ""])
def bn7 (ts:Tks):Prop:=∀ t∈ts,∀ x,Stm.loop x∈allB t.2→∃ E,eBf (eS ts 30) x=some E
def c09 (K:PySem.W.Frag):Sp:=fun vs H Q _=>∃ (v tv:V) (kd:Addr) (kvs:List (Key×V)) (x:List Stm) (ts:Tks) (E:List Wd) (p:Addr→Prop),vs=[v,tv,.ref kd]∧SAt (woO (some kd) H) v (.loop x)∧TksAt (woO (some kd) H) tv ts∧KnAt p ts H kd kvs∧eBf (eS ts 30) x=some E∧∀ H' kvs',KS kd H H'→KnAt p ts H' kd kvs'→Q (.bl (dryE E)) H'
theorem b88 (T:Txt K mg t):FnOk P w K mg base CX0 95 t.a_is_dry t.fd_is_dry ["loop","talks","known"] (c09 K):=by
 have G_ends_of_body:=a81 (P:=P) (w:=w) (base:=base) T
 refine T.f_is_dry.F.ok sc_is_dry (fun vs H Q E h=>?_) (fun cdv A outer s H vs Q E hr h=>?_)
 · obtain ⟨v,tv,kd,kvs,x,ts,E,p,rfl,_⟩:=h
   rfl
 · obtain ⟨v,tv,kd,kvs,x,ts,E0,p,rfl,hs,ht,hk,he,q⟩:=h
   replace G_ends_of_body:=G_ends_of_body 31
   refine ⟨_,(@a02 _ _ _ _ _ (@a16 _ _ 3 _ _ _ _ sc_is_dry.nd rfl (by walk_at "o") (@a09 _ _ _ _ _ _ _ _ _ _ _ _ _ _ _ _ G_ends_of_body (hr.mono (by omega)) rfl T.f_ends_of_body.m T.f_ends_of_body.F.kp T.f_ends_of_body.b .nil a18 (@a00 _ _ _ _ _ (@a19 _ _ _ _ _ _ _ (a10 K) (pv 0) (@a03 _ _ _ _) (fun _ _=>rfl)) (@a00 _ _ _ _ _ (pv 1) (@a00 _ _ _ _ _ (pv 2) (@a01 _) (by rfl)) (by rfl)) (by rfl)) (by decide) (by rfl) (by rfl)) (by rfl) (by walk_at "o"))
    (@a04 _ _ _ (@a17 _ _ _ _ (@bq2 _ _ _ _ _ _ _ (@a90 _ _ _ _ _ _ _ _ (a80 K) (@a05 _ _ _ _) (pv 3) (by with_unfolding_all rfl)) (@b19 _ _ _ _ _ (@a90 _ _ _ _ _ _ _ _ (a80 K) (@a05 _ _ _ _) (pv 3) (by with_unfolding_all rfl))))))),?_⟩
   obtain ⟨a,u,rfl,e0,hb⟩:=sat_loop.mp hs
   walk_at "go"
   refine a23 (SqT.of (woL _ _ e0)) (a06 (j:=1) rfl) ?_
   walk_at "run"
   refine ⟨u,tv,kd,kvs,x,ts,30,E0,p,rfl,hb,ht,hk,by omega,he,fun l H2 kvs2 s2 k2 f2 e2=>?_⟩
   walk_at "run"
   refine ad0 .on e2 ?_
   walk_at "run"
   unfold dryE at q
   by_cases h:Wd.on∈E0
   · rw [decide_eq_true h]
     have:=q H2 kvs2 s2 k2
     rw [decide_eq_true h,Bool.true_or] at this
     simpa using this
   · rw [decide_eq_false h]
     have:=q H2 kvs2 s2 k2
     rw [decide_eq_false h,Bool.false_or] at this
     rw [if_neg (by simp)]
     walk_at "run"
     refine ad0 .again e2 ?_
     exact this
theorem ao4 {H H':Hp}{kd:Addr}{vs:List V}{ns:List Str}(h:Each (RowD (woO (some kd) H)) vs ns) (s:KS kd H H'):Each (RowD (woO (some kd) H')) vs ns:=h.mono fun v n z=>by
 obtain ⟨a,z1,z2⟩:=z
 exact ⟨a,z1,s _ _ z2⟩
theorem aj5 {R:V→Str→Prop}(hR:∀ v n,R v n→∃ a,v=.ref a):∀ {vs:List V}{ns:List Str},Each R vs ns→∃ ms:List Addr,vs=ms.map V.ref
 | [],_,_=>⟨[],rfl⟩
 | v::vs,n::ns,h=>by
   obtain ⟨a,rfl⟩:=hR v n (h.2 0 _ _ rfl rfl)
   obtain ⟨ms,rfl⟩:=aj5 hR (vs:=vs) (ns:=ns) ⟨by simpa using h.1,fun j a b e1 e2=>h.2 (j+1) a b (by simpa using e1) (by simpa using e2)⟩
   exact ⟨a::ms,rfl⟩
 | v::vs,[],h=>absurd h.1 (by simp)
def isLp:Stm→Bool
 | .loop _=>true
 | _=>false
theorem c10 {ts:Tks}(ss:List Stm):(ss.filter isLp).countP (a46 ts)=ss.countP (a46 ts):=by
 rw [List.countP_filter]
 congr 1
 funext s
 cases s <;> simp [a46,isLp]
def bn8 (K:PySem.W.Frag):Sp:=fun vs H Q _=>∃ (tv:V) (ts:Tks) (L:Nat) (bn:List Str) (rk:Str→Nat),vs=[tv]∧TksAt H tv ts∧TkO L ts bn rk∧bn7 ts∧∀ p vs H',Same H H'→H p=none→H' p=some (.lst vs)→Each (RowD H') vs (dueL ts ts)→Q (.ref p) H'
theorem ao5 {L:Nat}{ts:Tks}{bn:List Str}{rk:Str→Nat}(h:TkO L ts bn rk):∀ {us:Tks},(∀ x∈us,x∈ts)→(dueL ts us).length≤1000*us.length:=by
 intro us
 induction us with
 | nil=>intro _; simp [dueL]
 | cons x us ih =>
   intro hu
   have h1:=ih fun y hy=>hu y (by simp [hy])
   have h2:=h.z x (hu x (by simp))
   have h3:=List.countP_le_length (p:=a46 ts) (l:=allB x.2)
   unfold dueL at h1 ⊢
   rw [List.flatMap_cons,List.length_append,List.length_replicate,List.length_cons]
   omega
theorem as5 {ts us:Tks}{x:Str×List Stm}:dueL ts (us++[x])=dueL ts us++List.replicate ((allB x.2).countP (a46 ts)) x.1:=by
 unfold dueL
 rw [List.flatMap_append]
 simp
theorem ao6 (T:Txt K mg t):FnOk P w K mg base CX0 107 t.a_dry_faults t.fd_dry_faults ["talks"] (bn8 K):=by
 have G_is_dry:=b88 (P:=P) (w:=w) (base:=base) T
 have G_statements_in:=aa5 (P:=P) (w:=w) (base:=base) T
 refine T.f_dry_faults.F.ok sc_dry_faults (fun vs H Q E h=>?_) (fun cdv A outer s H vs Q E hr h=>?_)
 · obtain ⟨tv,ts,L,bn,rk,rfl,_⟩:=h
   rfl
 · obtain ⟨tv,ts,L,bn,rk,rfl,ht,hO,hD,q⟩:=h
   replace G_statements_in:=G_statements_in 100
   refine ⟨_,(@a02 _ _ _ _ _ (@a16 _ _ 1 _ _ _ _ sc_dry_faults.nd rfl (by walk_at "o") (@a15 _ _ _ _ (@a01 _)) (by rfl) (by walk_at "o"))
    (@a02 _ _ _ _ _ (@a16 _ _ 2 _ _ _ _ sc_dry_faults.nd rfl (by walk_at "o") (@bc4 _ _) (by rfl) (by walk_at "o"))
    (@a02 _ _ _ _ _ (@a62 _ _ _ _ _ _ _ _ PassesOwn.never rfl (a21 K (pv 0)) (a74 K (n:=2) rfl (a27 (a13 (i:=3) sc_dry_faults.nd rfl (by walk_at "o")) (a27 (a13 (i:=4) sc_dry_faults.nd rfl (by walk_at "o")) (@a71 _)))) (@a02 _ _ _ _ _ (bb5 (i:=5) (Nt:=["statement"]) (Nf:=[]) (caps:=[]) rfl (a41 (sc:=a07 a85) rfl rfl (by decide +kernel) (by decide +kernel) (by decide +kernel) rfl (by decide +kernel)) (a21 K (@a09 _ _ _ _ _ _ _ _ _ _ _ _ _ _ _ _ G_statements_in (hr.mono (by omega)) rfl T.f_statements_in.m T.f_statements_in.F.kp T.f_statements_in.b .nil a18 (@a00 _ _ _ _ _ (pv 4) (@a01 _) (by rfl)) (by decide) (by rfl) (by rfl))) (fun _ _ _ _ _=>(a13 (i:=0) (show (["statement"]:List Str).Nodup by decide +kernel) rfl (by walk_at "o"))) (fun _ _ _ _ _=>(@a73 _ _ _ (@a08 _ _ _ _ _ _ _ _ a38 (@a19 _ _ _ _ _ _ _ (a10 K) (pv 0) (@a03 _ _ _ _) (fun _ _=>rfl)) (@a05 _ _ _ _) (nomark _)))) (fun _ _ _ _ _=>(pv 0)) sc_dry_faults.nd rfl (by walk_at "o") rfl)
     (@a04 _ _ _ (@a29 _ _ _ _ (@a69 _ K _ _ _ _ _ _ _ _ _ _ _ PySem.F.plainAttrs_list PySem.F.slot_list_extend PySem.F.type_list_extend a78 (pv 1) (@a00 _ _ _ _ _ (ac4 (Nt:=["loop"]) (Nf:=["name","talks","known"]) (caps:=[3,0,2]) rfl (a41 (sc:=a07 a85) rfl rfl (by decide +kernel) (by decide +kernel) (by decide +kernel) rfl (by decide +kernel)) (a21 K (pv 5)) (fun _ _ _ _ _=>(a13 (i:=0) (show (["loop","name","talks","known"]:List Str).Nodup by decide +kernel) rfl (by walk_at "o"))) (fun _ _ _ _ _=>(@a73 _ _ _ (ad5 K (@a09 _ _ _ _ _ _ _ _ _ _ _ _ _ _ _ _ G_is_dry (hr.mono (by omega)) rfl T.f_is_dry.m T.f_is_dry.F.kp T.f_is_dry.b .nil a18 (@a00 _ _ _ _ _ (pv 0) (@a00 _ _ _ _ _ (pv 2) (@a00 _ _ _ _ _ (pv 3) (@a01 _) (by rfl)) (by rfl)) (by rfl)) (by decide) (by rfl) (by rfl)) (fun _=>rfl)))) (fun _ _ _ _ _=>(@a20 _ _ _ _ _ (@a00 _ _ _ _ _ (pv 1) (@a00 _ _ _ _ _ (@a05 _ _ _ _) (@a00 _ _ _ _ _ (@a05 _ _ _ _) (@a01 _) (by rfl)) (by rfl)) (by rfl))))) (@a01 _) (by rfl)) (by rfl) (by rfl) (by rfl) (by rfl) (by rfl) (by rfl)) (by rfl)))) (by intro _; rfl))
    (@a04 _ _ _ (@a17 _ _ _ _ (pv 1)))))),?_⟩
   have sl:(1000000:Nat)≤sizeLine:=le_line (Nat.le_refl _)
   obtain ⟨lt,tvs,rfl,et,hE,hl⟩:=ht
   walk_at "go"
   intro fl H1 f1 s1 e1
   walk_at "run"
   intro kd H2 f2 s2 e2
   walk_at "run"
   have hfk:fl≠kd:=fun z=>by rw [z,f2] at e1; cases e1
   have hkH:H kd=none:=a26 s1 f2
   have w2:Same H (woO (some kd) H2):=by
    have:=woS (d:=some kd) (s1.trans s2)
    rw [woX hkH] at this
    exact this
   refine ⟨⟨tvs,SqL.of ((s1.trans s2) _ _ et)⟩,a54 (xs:=tvs) (fun i σ H'=>i≤ts.length∧Same H (woO (some kd) H')∧(∃ kvs,KnAt (fun a=>a=fl) ts H' kd kvs)∧(∃ vs,H' fl=some (.lst vs)∧Each (RowD (woO (some kd) H')) vs (dueL ts (ts.take i)))∧∃ y1 y2 y3,σ=[some (.ref lt),some (.ref fl),some (.ref kd),y1,y2,y3]) ⟨Nat.zero_le _,w2,⟨[],e2,fun a ha z=>(by rw [ha,s2 _ _ e1] at z; cases z),by simp,by simp,fun nm v hv=>by simp [valV] at hv⟩,⟨[],s2 _ _ e1,Each.nil⟩,_,_,_,rfl⟩ (fun i σ H' _ zz=>by obtain ⟨_,z,_⟩:=zz; exact SqL.of (woL _ _ (z _ _ et))) ?_ ?_⟩
   · rintro i v σ H3 hv ⟨hi,w3,⟨kvs,k3⟩,⟨vs,e3,hR⟩,y1,y2,y3,rfl⟩
     obtain ⟨x,hx⟩:∃ x,ts[i]?=some x:=⟨_,List.getElem?_eq_getElem (by rw [← hE.1]; exact (List.getElem?_eq_some_iff.mp hv).1)⟩
     have hxm:=List.mem_of_getElem? hx
     have hil:=(List.getElem?_eq_some_iff.mp hx).1
     obtain ⟨a,u,rfl,ea,hb⟩:=hE.2 i _ _ hv hx
     refine ⟨a,_,rfl,SqT.of (woL _ _ (w3 _ _ ea)),rfl,?_⟩
     walk_at "run"
     have hkd:=hO.kd hxm
     have hz:=hO.z x hxm
     refine ⟨u,x.2,woO (some kd) H3,ts.map (·.1),rfl,hO.hs hxm,woL,hb.same w3,hkd,Nat.le_trans hz (by decide),fun l4 us H4 f4 s4 e4 hE4=>?_⟩
     refine ⟨l4,rfl,⟨us,SqL.of e4⟩,a60 (xs:=us) (by rw [hE4.1]; omega) (fun i acc H'=>H'=H4∧Each (SAt (woO (some kd) H3)) acc (((allB x.2).take i).filter isLp)) ⟨rfl,Each.nil⟩ (fun i acc H' ⟨h1,h2⟩=>⟨by rw [h2.1]; exact Nat.le_trans (List.length_filter_le _ _) (by rw [List.length_take]; exact Nat.min_le_left _ _),by rw [h1]; exact SqL.of e4⟩) ?_ ?_⟩
     · rintro j sv acc H' hsv ⟨rfl,hA⟩
       obtain ⟨st,hst⟩:∃ st,(allB x.2)[j]?=some st:=⟨_,List.getElem?_eq_getElem (by rw [← hE4.1]; exact (List.getElem?_eq_some_iff.mp hsv).1)⟩
       have hS:=hE4.2 j _ _ hsv hst
       have hk:=hkd st (List.mem_of_getElem? hst)
       obtain ⟨a',us',rfl,ea'⟩:=al8 hS hk
       have e:((allB x.2).take (j+1)).filter isLp=((allB x.2).take j).filter isLp++(if isLp st=true then [st] else []):=by
        rw [List.take_add_one,hst,Option.toList_some,List.filter_append]
        by_cases h:isLp st=true
        · rw [if_pos h]; simp [h]
        · rw [if_neg h]; simp [h]
       walk_at "run"
       refine a23 (SqT.of (s4 _ _ (woL _ _ ea'))) (a06 (j:=0) rfl) ?_
       walk_at "run"
       by_cases hw:st.wd=Str.ofString "loop"
       · refine a35 hw ?_
         walk_at "run"
         obtain ⟨xb,rfl⟩:=an6 hk hw
         refine ⟨rfl,?_⟩
         rw [e,if_pos (show isLp (.loop xb)=true from rfl)]
         exact hA.snoc hS
       · refine a28 hw ?_
         refine ⟨rfl,?_⟩
         rw [e,if_neg (by cases st <;> simp [isLp]; exact hw rfl),List.append_nil]
         exact hA
     · rintro acc H' ⟨rfl,hA⟩ ll H5 f5 s5 e5
       rw [hE4.1,List.take_of_length_le (Nat.le_refl _)] at hA
       have hal:=hA.1
       have hfl2:=List.length_filter_le isLp (allB x.2)
       walk_at "run"
       have s35:=s4.trans s5
       have e35:=s35 _ _ e3
       refine aa0 (SqL.of e35) ?_
       walk_at "run"
       have hlk:ll≠kd:=fun z=>by rw [z,s4 _ _ k3.h] at f5; cases f5
       refine ⟨⟨_,SqL.of e5⟩,a60 (xs:=acc) (by omega) (fun j acc' H'=>KS kd H5 H'∧(∃ kvs,KnAt (fun a=>a=fl) ts H' kd kvs)∧Each (RowD (woO (some kd) H')) acc' (List.replicate ((((allB x.2).filter isLp).take j).countP (a46 ts)) x.1)) ⟨KS.of (Same.refl _),⟨kvs,k3.same s35⟩,Each.nil⟩ (fun j acc' H' ⟨h1,_,h3⟩=>⟨by rw [h3.1,List.length_replicate]; exact Nat.le_trans List.countP_le_length (by rw [List.length_take]; exact Nat.min_le_left _ _),SqL.of (h1.at hlk e5)⟩) ?_ ?_⟩
       · rintro j lv acc' H6 hlv ⟨s6,⟨kvs6,k6⟩,hA6⟩
         obtain ⟨st,hst⟩:∃ st,((allB x.2).filter isLp)[j]?=some st:=⟨_,List.getElem?_eq_getElem (by rw [← hA.1]; exact (List.getElem?_eq_some_iff.mp hlv).1)⟩
         have hS:=hA.2 j _ _ hlv hst
         obtain ⟨hm,hp⟩:=List.mem_filter.mp (List.mem_of_getElem? hst)
         obtain ⟨xb,rfl⟩:∃ xb,st=.loop xb:=by
          cases st with
          | loop xb=>exact ⟨xb,rfl⟩
          | _=>cases hp
         obtain ⟨E,hE'⟩:=hD x hxm xb hm
         have w36:Same (woO (some kd) H3) (woO (some kd) H6):=(woS s35).trans s6
         have hdr:a46 ts (.loop xb)=dryE E:=by simp only [a46,hE']
         have e:(((allB x.2).filter isLp).take (j+1)).countP (a46 ts)=(((allB x.2).filter isLp).take j).countP (a46 ts)+(if dryE E=true then 1 else 0):=by
          rw [List.take_add_one,hst,Option.toList_some,List.countP_append,List.countP_singleton,hdr]
         walk_at "run"
         refine ⟨lv,.ref lt,kd,kvs6,xb,ts,E,fun a=>a=fl,rfl,hS.same w36,⟨lt,tvs,rfl,(w3.trans w36) _ _ et,hE.mono fun _ _ z=>z.same (w3.trans w36),hl⟩,k6,hE',fun H7 kvs7 s7 k7=>?_⟩
         refine bg4 ?_
         by_cases hd:dryE E=true
         · rw [if_pos hd]
           walk_at "run"
           intro p8 H8 f8 s8 e8
           have hpk:p8≠kd:=fun z=>by rw [z,k7.h] at f8; cases f8
           refine ⟨s6.trans (s7.trans (KS.of s8)),⟨kvs7,k7.same s8⟩,?_⟩
           rw [e,if_pos hd,List.replicate_succ']
           exact (ao4 hA6 (s7.trans (KS.of s8))).snoc ⟨p8,rfl,by rw [woG (fun z=>hpk (Option.some.inj z).symm)]; exact e8⟩
         · rw [if_neg hd]
           refine ⟨s6.trans s7,⟨kvs7,k7⟩,?_⟩
           rw [e,if_neg hd,Nat.add_zero]
           exact ao4 hA6 s7
       · rintro acc' H6 ⟨s6,⟨kvs6,k6⟩,hA6⟩ p7 H7 f7 s7 e7
         rw [hA.1,List.take_of_length_le (Nat.le_refl _),c10] at hA6
         have hal6:=hA6.1
         rw [List.length_replicate] at hal6
         have hcl:=List.countP_le_length (p:=a46 ts) (l:=allB x.2)
         have hdl:=ao5 (us:=ts.take i) hO fun y hy=>List.mem_of_mem_take hy
         have hR1:=hR.1
         rw [List.length_take] at hdl
         walk_at "run"
         have efl:H7 fl=some (.lst vs):=s7 _ _ (s6.at hfk e35)
         refine aa1 efl e7 (by have:=hl; omega) ?_
         have w37:Same (woO (some kd) H3) (woO (some kd) H7):=((woS s35).trans s6).trans (woS s7)
         have hfH:H fl=none:=f1
         have w7:Same H (woO (some kd) (upd H7 fl (.lst (vs++acc')))):=fun b o eb=>by
          have h1:=(w3.trans w37) b o eb
          have hbf:b≠fl:=fun z=>by rw [z,hfH] at eb; cases eb
          have hbk:b≠kd:=fun z=>by rw [z,hkH] at eb; cases eb
          rw [woG (fun z=>hbk (Option.some.inj z).symm)] at h1 ⊢
          rw [a11 hbf]
          exact h1
         have up:∀ {vs':List V}{ns:List Str},Each (RowD (woO (some kd) H7)) vs' ns→Each (RowD (woO (some kd) (upd H7 fl (.lst (vs++acc'))))) vs' ns:=fun h=>h.mono fun v n z=>by
          obtain ⟨b,z1,z2⟩:=z
          have hbk:b≠kd:=fun z=>by rw [z] at z2; unfold woO at z2; rw [if_pos rfl] at z2; cases z2
          rw [woG (fun z=>hbk (Option.some.inj z).symm)] at z2
          refine ⟨b,z1,?_⟩
          rw [woG (fun z=>hbk (Option.some.inj z).symm),a11 (af7 z2 efl (fun z=>nomatch z))]
          exact z2
         refine ⟨hil,w7,⟨kvs6,?_⟩,⟨vs++acc',a14,?_⟩,_,_,_,rfl⟩
         · have k7:=k6.same s7
           refine ⟨by rw [a11 hfk.symm]; exact k7.h,fun a ha z=>(by rw [show a=fl from ha,a14] at z; cases z),k7.n,k7.k,fun nm v hv=>?_⟩
           obtain ⟨l,b,n,E,z1,z2,z3,z4,z5⟩:=k7.v nm v hv
           refine ⟨l,b,n,E,z1,z2,z3,z4,?_⟩
           rw [a11 z2.2]
           exact z5
         · rw [List.take_add_one,hx,Option.toList_some,as5]
           exact (up (ao4 hR (show KS kd H3 H7 from w37))).append (up (ao4 hA6 (KS.of s7)))
   · rintro σ H3 ⟨hi,w3,⟨kvs,k3⟩,⟨vs,e3,hR⟩,y1,y2,y3,rfl⟩
     walk_at "run"
     rw [hE.1,List.take_of_length_le (Nat.le_refl _)] at hR
     exact q fl vs H3 (w3.trans woL) f1 e3 (hR.mono fun v n z=>by
      obtain ⟨a,z1,z2⟩:=z
      exact ⟨a,z1,woL _ _ z2⟩)
theorem TkN.nmd {H:Hp}{v:V}{x:Str×List Stm}(h:TkN H v x):Nmd H v x.1:=by
 obtain ⟨a,u,z1,z2,_⟩:=h
 exact ⟨a,[u],z1,z2⟩
theorem ay5 {α β γ:Type}{R:α→β→Prop}{S:α→γ→Prop}{f:β→γ}(hR:∀ v x,R v x→S v (f x)) {vs:List α}{xs:List β}(h:Each R vs xs):Each S vs (xs.map f):=by
 refine ⟨by rw [h.1,List.length_map],fun j v y h1 h2=>?_⟩
 rw [List.getElem?_map] at h2
 obtain ⟨x,h3,rfl⟩:=Option.map_eq_some_iff.mp h2
 exact hR _ _ (h.2 j v x h1 h3)
theorem bn9 {H:Hp}{x dx:Addr}{o o':HO}(h1:H x=none) (h2:H dx=none):Same H (upd (upd H dx o) x o'):=a50 (a50 (Same.refl _) h2) h1
structure ScrO (L:Nat) (H:Hp) (sp:Addr) (ts:Tks) (bn:List Str) (rk:Str→Nat):Prop where
 ex:∃ (bl tl:Addr) (bs:List V),H sp=some (.tup [.ref bl,.ref tl])∧H bl=some (.lst bs)∧Each (Nmd H) bs bn∧TksAt H (.ref tl) ts
 bu:bn.Nodup
 bl:bn.length≤1000
 ne:ts≠[]
 o:TkO L ts bn rk
 d:bn7 ts
theorem ScrO.same {L:Nat}{H H':Hp}{sp:Addr}{ts:Tks}{bn:List Str}{rk:Str→Nat}(h:ScrO L H sp ts bn rk) (s:Same H H'):ScrO L H' sp ts bn rk:=by
 obtain ⟨bl,tl,bs,h1,h2,h3,h4⟩:=h.ex
 exact ⟨⟨bl,tl,bs,s _ _ h1,s _ _ h2,h3.mono fun _ _ z=>z.same s,h4.same s⟩,h.bu,h.bl,h.ne,h.o,h.d⟩
def c11 (K:PySem.W.Frag):Sp:=fun vs H Q _=>∃ (sp:Addr) (ts:Tks) (bn:List Str) (L:Nat) (rk:Str→Nat),vs=[.ref sp]∧ScrO L H sp ts bn rk∧∀ p vs' H',Same H H'→H p=none→H' p=some (.lst vs')→Each (RowD H') vs' (dueL ts ts)→Q (.ref p) H'
theorem as6 (T:Txt K mg t):FnOk P w K mg base CX0 110 t.a_faults t.fd_faults ["script"] (c11 K):=by
 have G_TalkLook___init__:=ac7 (P:=P) (w:=w) (base:=base) T
 have G_TalkLook_look_body:=a48 (P:=P) (w:=w) (base:=base) T
 have G_dry_faults:=ao6 (P:=P) (w:=w) (base:=base) T
 have G_head_faults:=ak1 (P:=P) (w:=w) (base:=base) T
 have G_round_faults:=aj4 (P:=P) (w:=w) (base:=base) T
 refine T.f_faults.F.ok sc_faults (fun vs H Q E h=>?_) (fun cdv A outer s H vs Q E hr h=>?_)
 · obtain ⟨sp,ts,bn,L,rk,rfl,_⟩:=h
   rfl
 · obtain ⟨sp,ts,bn,L,rk,rfl,hS,q⟩:=h
   replace G_TalkLook_look_body:=G_TalkLook_look_body 11
   refine ⟨_,(@a02 _ _ _ _ _ (@a16 _ _ 1 _ _ _ _ sc_faults.nd rfl (by walk_at "o") (@a09 _ _ _ _ _ _ _ _ _ _ _ _ _ _ _ _ G_head_faults (hr.mono (by omega)) rfl T.f_head_faults.m T.f_head_faults.F.kp T.f_head_faults.b .nil a18 (@a00 _ _ _ _ _ (pv 0) (@a01 _) (by rfl)) (by decide) (by rfl) (by rfl)) (by rfl) (by walk_at "o"))
    (@a02 _ _ _ _ _ (@a62 _ _ _ _ _ _ _ _ PassesOwn.never rfl (a21 K (@a19 _ _ _ _ _ _ _ (a10 K) (pv 0) (@a03 _ _ _ _) (fun _ _=>rfl))) (a74 K (n:=2) rfl (a27 (a13 (i:=2) sc_faults.nd rfl (by walk_at "o")) (a27 (a13 (i:=3) sc_faults.nd rfl (by walk_at "o")) (@a71 _)))) (@a02 _ _ _ _ _ (@a16 _ _ 4 _ _ _ _ sc_faults.nd rfl (by walk_at "o") (bj6 T.mk_TalkLook G_TalkLook___init__ (hr.mono (by omega)) rfl T.m_TalkLook T.f_TalkLook___init__.b .nil a18 (@a00 _ _ _ _ _ (pv 2) (@a00 _ _ _ _ _ (pv 0) (@a01 _) (by rfl)) (by rfl))) (by rfl) (by walk_at "o"))
     (@a02 _ _ _ _ _ (@a29 _ _ _ _ (a72 (pv 4) T.cl_TalkLook T.f_TalkLook_look_body.M G_TalkLook_look_body (hr.mono (by omega)) T.f_TalkLook_look_body.b .nil a18 (@a00 _ _ _ _ _ (pv 3) (@a00 _ _ _ _ _ (@ba0 _ _ _ _) (@a01 _) (by rfl)) (by rfl))) (by rfl))
     (@a04 _ _ _ (@a29 _ _ _ _ (@a69 _ K _ _ _ _ _ _ _ _ _ _ _ PySem.F.plainAttrs_list PySem.F.slot_list_extend PySem.F.type_list_extend a78 (pv 1) (@a00 _ _ _ _ _ (au9 K (pv 4) rfl) (@a01 _) (by rfl)) (by rfl) (by rfl) (by rfl) (by rfl) (by rfl) (by rfl)) (by rfl))))) (by intro _; rfl))
    (@a02 _ _ _ _ _ (@a29 _ _ _ _ (@a69 _ K _ _ _ _ _ _ _ _ _ _ _ PySem.F.plainAttrs_list PySem.F.slot_list_extend PySem.F.type_list_extend a78 (pv 1) (@a00 _ _ _ _ _ (@a09 _ _ _ _ _ _ _ _ _ _ _ _ _ _ _ _ G_round_faults (hr.mono (by omega)) rfl T.f_round_faults.m T.f_round_faults.F.kp T.f_round_faults.b .nil a18 (@a00 _ _ _ _ _ (@a19 _ _ _ _ _ _ _ (a10 K) (pv 0) (@a03 _ _ _ _) (fun _ _=>rfl)) (@a01 _) (by rfl)) (by decide) (by rfl) (by rfl)) (@a01 _) (by rfl)) (by rfl) (by rfl) (by rfl) (by rfl) (by rfl) (by rfl)) (by rfl))
    (@a30 _ _ _ _ _ (@a33 _ _ _ _ _ _ _ _ (@a08 _ _ _ _ _ _ _ _ a38 (@a56 _ _ _ _ _ _ _ _ _ (a99 K) (by rfl) T.z_len ae8 (@a00 _ _ _ _ _ (pv 1) (@a01 _) (by rfl)) (by decide) (by decide) (by rfl) (by rfl)) (@a03 _ _ _ _) (nomark _)) (@a04 _ _ _ (@a29 _ _ _ _ (@a69 _ K _ _ _ _ _ _ _ _ _ _ _ PySem.F.plainAttrs_list PySem.F.slot_list_extend PySem.F.type_list_extend a78 (pv 1) (@a00 _ _ _ _ _ (@a09 _ _ _ _ _ _ _ _ _ _ _ _ _ _ _ _ G_dry_faults (hr.mono (by omega)) rfl T.f_dry_faults.m T.f_dry_faults.F.kp T.f_dry_faults.b .nil a18 (@a00 _ _ _ _ _ (@a19 _ _ _ _ _ _ _ (a10 K) (pv 0) (@a03 _ _ _ _) (fun _ _=>rfl)) (@a01 _) (by rfl)) (by decide) (by rfl) (by rfl)) (@a01 _) (by rfl)) (by rfl) (by rfl) (by rfl) (by rfl) (by rfl) (by rfl)) (by rfl))) (@a12 _))
    (@a04 _ _ _ (@a17 _ _ _ _ (pv 1))))))),?_⟩
   have sl:(1000000:Nat)≤sizeLine:=le_line (Nat.le_refl _)
   obtain ⟨bl,tl,bs,e0,eb,hb,hts⟩:=hS.ex
   obtain ⟨_,tvs,hz,et,hE,hl⟩:=id hts
   cases hz
   have hnm:∀ {H':Hp},Same H H'→Each (Nmd H') tvs (ts.map (·.1)):=fun s=>ay5 (fun v x z=>TkN.nmd z) (hE.mono fun _ _ z=>z.same s)
   walk_at "go"
   refine ⟨sp,bl,tl,bs,tvs,bn,ts.map (·.1),rfl,e0,eb,hb,hS.bu,hS.bl,et,hnm (Same.refl _),hS.o.u,by rw [List.length_map]; omega,fun z=>hS.ne (List.map_eq_nil_iff.mp z),fun fl H1 s1 f1 e1=>?_⟩
   walk_at "run"
   refine a23 (SqT.of (s1 _ _ e0)) (a06 (j:=1) rfl) ?_
   refine ⟨tl,rfl,⟨tvs,SqL.of (s1 _ _ et)⟩,a54 (xs:=tvs) (fun i σ H'=>Same H H'∧H' fl=some (.lst [])∧∃ y1 y2 y3,σ=[some (.ref sp),some (.ref fl),y1,y2,y3]) ⟨s1,e1,_,_,_,rfl⟩ (fun i σ H' _ zz=>by obtain ⟨z,_⟩:=zz; exact SqL.of (z _ _ et)) ?_ ?_⟩
   · rintro i v σ H2 hv ⟨s2,e2,y1,y2,y3,rfl⟩
     obtain ⟨x,hx⟩:∃ x,ts[i]?=some x:=⟨_,List.getElem?_eq_getElem (by rw [← hE.1]; exact (List.getElem?_eq_some_iff.mp hv).1)⟩
     have hxm:=List.mem_of_getElem? hx
     obtain ⟨a,u,rfl,ea,hbd⟩:=hE.2 i _ _ hv hx
     refine ⟨a,_,rfl,SqT.of (s2 _ _ ea),rfl,?_⟩
     walk_at "run"
     intro p dx f1' f2' fn
     have sm:=bn9 (o:=.own p) (o':=.ins t.c_TalkLook dx []) f1' f2'
     have s3:=s2.trans sm
     refine ⟨p,dx,sp,bl,tl,_,bs,tvs,bn,ts.map (·.1),rfl,a14,s3 _ _ e0,s3 _ _ eb,hb.mono fun _ _ z=>z.same s3,hS.bl,s3 _ _ et,hnm s3,by rw [List.length_map]; omega,fun H4 hL kk=>⟨rfl,?_⟩⟩
     have s4:Same H2 H4:=fun b o eb=>kk b o (sm b o eb) (fun z=>by rw [z,f1'] at eb; cases eb)
     have sH4:=s2.trans s4
     rename_i N hN
     refine hN _ _ ?_
     clear hN
     walk_at "run"
     obtain ⟨dx4,nm4,b4,t4,l4,g1,g2,g3,g4⟩:=id hL.ex
     refine ⟨p,dx4,_,rfl,g1,aj3 _ _ _ _ (by decide +kernel) (by decide +kernel) (by decide +kernel) (by decide +kernel),?_⟩
     walk_at "run"
     refine ⟨p,u,false,bn,ts.map (·.1),x.2,10,L,rfl,hL,hbd.same sH4,hS.o.o x hxm,hS.o.m,by omega,fun H5 s5=>?_⟩
     walk_at "run"
     have s25:=s4.trans s5
     refine aa0 (SqL.of (s25 _ _ e2)) ?_
     walk_at "run"
     refine ⟨p,_,dx4,_,_,rfl,s5 _ _ g1,T.cl_TalkLook,T.n_TalkLook_found,b86 _ _ _ _,?_⟩
     walk_at "run"
     refine aa1 (s25 _ _ e2) (s5 _ _ g4) (by simp) ?_
     exact ⟨a50 (s2.trans s25) f1,a14,_,_,_,rfl⟩
   · rintro σ H2 ⟨s2,e2,y1,y2,y3,rfl⟩
     walk_at "run"
     refine aa0 (SqL.of e2) ?_
     walk_at "run"
     refine a23 (SqT.of (s2 _ _ e0)) (a06 (j:=1) rfl) ?_
     walk_at "run"
     refine ⟨.ref tl,ts,L,bn,rk,rfl,hts.same s2,hS.o,fun p3 H3 s3 f3 e3=>?_⟩
     walk_at "run"
     refine aa1 (s3 _ _ e2) e3 (by simp) ?_
     have s4:Same H (upd H3 fl (.lst ([]++[]))):=a50 (s2.trans s3) f1
     have e4:upd H3 fl (.lst ([]++[])) fl=some (.lst []):=a14
     generalize upd H3 fl (.lst ([]++[]))=H4 at s4 e4 ⊢
     walk_at "run"
     refine a64 (fun σ' H'=>(∃ y1 y2 y3,σ'=[some (.ref sp),some (.ref fl),y1,y2,y3])∧Same H H'∧∃ vs',H' fl=some (.lst vs')∧Each (RowD H') vs' (dueL ts ts)) ?_ ?_
     · walk_at "run"
       refine ae9 (SqL.of e4) ?_
       walk_at "run"
       refine a35 rfl ?_
       walk_at "run"
       refine aa0 (SqL.of e4) ?_
       walk_at "run"
       refine a23 (SqT.of (s4 _ _ e0)) (a06 (j:=1) rfl) ?_
       walk_at "run"
       refine ⟨.ref tl,ts,L,bn,rk,rfl,hts.same s4,hS.o,hS.d,fun p5 vs5 H5 s5 f5 e5 hR=>?_⟩
       walk_at "run"
       have hdl:=ao5 hS.o (us:=ts) (fun _ z=>z)
       have hll:=hS.o.l
       have hR1:=hR.1
       refine aa1 (s5 _ _ e4) e5 (by simp only [List.length_nil]; omega) ?_
       refine ⟨⟨_,_,_,rfl⟩,a50 (s4.trans s5) f1,_,a14,?_⟩
       rw [List.nil_append]
       exact hR.mono fun v n z=>by
        obtain ⟨b,z1,z2⟩:=z
        exact ⟨b,z1,by rw [a11 (af7 z2 (s5 _ _ e4) (fun z=>nomatch z))]; exact z2⟩
     rintro σ' H5 ⟨⟨y1,y2,y3,rfl⟩,s5,vs5,e5,hR⟩
     walk_at "run"
     exact q fl vs5 H5 s5 f1 e5 hR
def c12 (K:PySem.W.Frag):Sp:=fun vs H Q _=>∃ (sp:Addr) (ts:Tks) (bn:List Str) (L:Nat) (rk:Str→Nat),vs=[.ref sp]∧ScrO L H sp ts bn rk∧∀ H',Same H H'→Q (.bl (decide (dueL ts ts=[]))) H'
theorem be3 (T:Txt K mg t):FnOk P w K mg base CX0 111 t.a_sound t.fd_sound ["script"] (c12 K):=by
 have G_faults:=as6 (P:=P) (w:=w) (base:=base) T
 refine T.f_sound.F.ok bd3 (fun vs H Q E h=>?_) (fun cdv A outer s H vs Q E hr h=>?_)
 · obtain ⟨sp,ts,bn,L,rk,rfl,_⟩:=h
   rfl
 · obtain ⟨sp,ts,bn,L,rk,rfl,hS,q⟩:=h
   refine ⟨_,(@a04 _ _ _ (@a17 _ _ _ _ (@a90 _ _ _ _ _ _ _ _ a38 (@a56 _ _ _ _ _ _ _ _ _ (a99 K) (by rfl) T.z_len ae8 (@a00 _ _ _ _ _ (@a09 _ _ _ _ _ _ _ _ _ _ _ _ _ _ _ _ G_faults (hr.mono (by omega)) rfl T.f_faults.m T.f_faults.F.kp T.f_faults.b .nil a18 (@a00 _ _ _ _ _ (pv 0) (@a01 _) (by rfl)) (by decide) (by rfl) (by rfl)) (@a01 _) (by rfl)) (by decide) (by decide) (by rfl) (by rfl)) (@a03 _ _ _ _) (nomark _)))),?_⟩
   walk_at "go"
   refine ⟨sp,ts,bn,L,rk,rfl,hS,fun p vs' H1 s1 f1 e1 hR=>?_⟩
   walk_at "run"
   refine ae9 (SqL.of e1) ?_
   walk_at "run"
   have:=q H1 s1
   have h1:=hR.1
   rw [show decide (dueL ts ts=[])=decide ((vs'.length:Int)=0) from decide_eq_decide.mpr ⟨fun z=>by rw [z] at h1; rw [h1]; rfl,fun z=>List.eq_nil_of_length_eq_zero (by omega)⟩] at this
   exact this
open Classical in
noncomputable def woP (p:Addr→Prop) (H:Hp):Hp:=fun a=>if p a then none else H a
theorem wpG {p:Addr→Prop}{H:Hp}{a:Addr}(h:¬ p a):woP p H a=H a:=if_neg h
theorem wpT {p:Addr→Prop}{H:Hp}{a:Addr}{o:HO}(e:woP p H a=some o):¬ p a∧H a=some o:=by
 by_cases h:p a
 · unfold woP at e; rw [if_pos h] at e; cases e
 · rw [wpG h] at e; exact ⟨h,e⟩
theorem wpS {p:Addr→Prop}{H H':Hp}(s:Same H H'):Same (woP p H) (woP p H'):=fun a o e=>by
 obtain ⟨h1,h2⟩:=wpT e
 rw [wpG h1]
 exact s _ _ h2
theorem wpL {p:Addr→Prop}{H:Hp}:Same (woP p H) H:=fun a o e=>(wpT e).2
theorem wpB {p q:Addr→Prop}{H:Hp}(h:∀ a,q a→p a):Same (woP p H) (woP q H):=fun a o e=>by
 obtain ⟨h1,h2⟩:=wpT e
 rw [wpG (fun z=>h1 (h a z))]
 exact h2
theorem wpU {p:Addr→Prop}{H:Hp}{d:Addr}{o:HO}(h:p d):woP p (upd H d o)=woP p H:=funext fun a=>by
 by_cases e:p a
 · unfold woP; rw [if_pos e,if_pos e]
 · rw [wpG e,wpG e,a11 (fun z=>e (by rw [z]; exact h))]
def OfD (d l:Addr) (H H':Hp):Prop:=Same (woP (fun a=>a=d∨a=l) H) (woP (fun a=>a=d∨a=l) H')
theorem OfD.of {d l:Addr}{H H':Hp}(s:Same H H'):OfD d l H H':=wpS s
theorem OfD.trans {d l:Addr}{H H' H2:Hp}(a:OfD d l H H') (b:OfD d l H' H2):OfD d l H H2:=Same.trans a b
theorem OfD.at {d l:Addr}{H H':Hp}(s:OfD d l H H') {a:Addr}{o:HO}(h1:a≠d) (h2:a≠l) (e:H a=some o):H' a=some o :=
 (wpT (s a o (by rw [wpG (fun z=>z.elim h1 h2)]; exact e))).2
theorem OfD.p {d l:Addr}{H H':Hp}(s:OfD d l H H') {p:Addr→Prop}(h1:p d) (h2:p l):Same (woP p H) (woP p H'):=fun a o e=>by
 obtain ⟨h3,h4⟩:=wpT e
 rw [wpG h3]
 exact s.at (fun z=>h3 (by rw [z]; exact h1)) (fun z=>h3 (by rw [z]; exact h2)) h4
theorem OfD.u1 {d l:Addr}{H H':Hp}{o:HO}(s:OfD d l H H'):OfD d l H (upd H' d o):=by
 unfold OfD at *
 rw [wpU (.inl rfl)]
 exact s
theorem OfD.u2 {d l:Addr}{H H':Hp}{o:HO}(s:OfD d l H H'):OfD d l H (upd H' l o):=by
 unfold OfD at *
 rw [wpU (.inr rfl)]
 exact s
structure Dk5 (H:Hp) (d l:Addr) (left:Int) (bx calls:Nat):Prop where
 ex:∃ (ms:List Int) (cur:Int),H d=some (.lst [.ref l,.int cur,.int left,.int (bx:Nat),.int (calls:Nat)])∧H l=some (.lst (ms.map V.int))∧ms.length≤100
 ne:d≠l
theorem Dk5.same {H H':Hp}{d l:Addr}{left:Int}{bx calls:Nat}(k:Dk5 H d l left bx calls) (s:Same H H'):Dk5 H' d l left bx calls:=by
 obtain ⟨ms,cur,h1,h2,h3⟩:=k.ex
 exact ⟨⟨ms,cur,s _ _ h1,s _ _ h2,h3⟩,k.ne⟩
theorem Dk5.new {H:Hp}{d l a:Addr}{left:Int}{bx calls:Nat}(k:Dk5 H d l left bx calls) (f:H a=none):a≠d∧a≠l:=by
 obtain ⟨ms,cur,h1,h2,h3⟩:=k.ex
 exact ⟨fun z=>(by rw [z,h1] at f; cases f),fun z=>(by rw [z,h2] at f; cases f)⟩
theorem Dk5.upd {H:Hp}{d l a:Addr}{left:Int}{bx calls:Nat}{o:HO}(k:Dk5 H d l left bx calls) (h1:a≠d) (h2:a≠l):Dk5 (upd H a o) d l left bx calls:=by
 obtain ⟨ms,cur,g1,g2,g3⟩:=k.ex
 exact ⟨⟨ms,cur,by rw [a11 h1.symm]; exact g1,by rw [a11 h2.symm]; exact g2,g3⟩,k.ne⟩
theorem sqS {K:PySem.W.Frag}{H H':Hp}{a:Addr}{xs:List V}(h:SqL K H a xs) (s:Same H H'):SqL K H' a xs:=by
 rcases h with (h | ⟨o,h⟩) | h
 · exact .inl (.inl (s _ _ h))
 · exact .inl (.inr ⟨o,s _ _ h⟩)
 · exact .inr h
def c13 (K:PySem.W.Frag):Sp:=fun vs H Q _=>∃ (a:Addr) (ns:List Int) (k:Nat),vs=[.ref a,.int (k:Nat)]∧SqL K H a (ns.map V.int)∧∀ z:Int,Q (.int z) H
theorem ak3 (T:Txt K mg t):FnOk P w K mg base CX0 1 t.a__law_cell_at t.fd__law_cell_at ["script","k"] (c13 K):=by
 refine T.f__law_cell_at.F.ok ak0 (fun vs H Q E h=>?_) (fun cdv A outer s H vs Q E hr h=>?_)
 · obtain ⟨a,ns,k,rfl,_⟩:=h
   rfl
 · obtain ⟨a,ns,k,rfl,hS,q⟩:=h
   refine ⟨_,(@a02 _ _ _ _ _ (@a33 _ _ _ _ _ _ _ _ (@a08 _ _ _ _ _ _ _ _ c25 (pv 1) (@a56 _ _ _ _ _ _ _ _ _ (a99 K) (by rfl) T.z_len ae8 (@a00 _ _ _ _ _ (pv 0) (@a01 _) (by rfl)) (by decide) (by decide) (by rfl) (by rfl)) (nomark _)) (@a04 _ _ _ (@a17 _ _ _ _ (@a19 _ _ _ _ _ _ _ (a31 K) (pv 0) (pv 1) (fun _ _=>rfl)))) (@a12 _))
    (@a04 _ _ _ (@a17 _ _ _ _ (@a03 _ _ _ _)))),?_⟩
   walk_at "go"
   refine ae9 hS ?_
   walk_at "run"
   rw [List.length_map]
   by_cases hk:k<ns.length
   · refine a35 (by omega) ?_
     walk_at "run"
     exact a83 hS (a06 (j:=k) (v:=.int ns[k]) (by simp [hk])) (q _)
   · refine a28 (by omega) ?_
     walk_at "run"
     exact q 0
def be4:Sp:=fun vs H Q _=>∃ (c:Int) (k:Nat),vs=[.int c,.int (k:Nat)]∧k≤100∧∀ r:Int,Q (.int r) H
theorem m61 (c:Int):0≤c % 2305843009213693951∧c % 2305843009213693951<2305843009213693951:=⟨Int.emod_nonneg c (by decide),Int.emod_lt_of_pos c (by decide)⟩
theorem m61b {r:Int}(h0:0≤r) (h1:r<2305843009213693951):Bd 61 r:=Bd.of h0 (by rw [show (2:Int) ^ 61=2305843009213693952 by decide]; omega)
theorem as7 (T:Txt K mg t):FnOk P w K mg base CX0 1 t.a__law_drawn t.fd__law_drawn ["cell","k"] be4:=by
 refine T.f__law_drawn.F.ok sc_law_drawn (fun vs H Q E h=>?_) (fun cdv A outer s H vs Q E hr h=>?_)
 · obtain ⟨c,k,rfl,_⟩:=h
   rfl
 · obtain ⟨c,k,rfl,hk,q⟩:=h
   refine ⟨_,(@a02 _ _ _ _ _ (@a16 _ _ 2 _ _ _ _ sc_law_drawn.nd rfl (by walk_at "o") (@a37 _ _ _ _ _ _ _ _ ah9 (@a37 _ _ _ _ _ _ _ _ ac1 (@a37 _ _ _ _ _ _ _ _ a32 (@a37 _ _ _ _ _ _ _ _ a32 (@a37 _ _ _ _ _ _ _ _ ah9 (pv 0) (@a37 _ _ _ _ _ _ _ _ br0 (@a03 _ _ _ _) (@a03 _ _ _ _))) (@a37 _ _ _ _ _ _ _ _ ac1 (@a03 _ _ _ _) (pv 1))) (@a03 _ _ _ _)) (@a03 _ _ _ _)) (@a03 _ _ _ _)) (by rfl) (by walk_at "o"))
    (@a02 _ _ _ _ _ (@a16 _ _ 2 _ _ _ _ sc_law_drawn.nd rfl (by walk_at "o") (@a37 _ _ _ _ _ _ _ _ ah9 (@a37 _ _ _ _ _ _ _ _ ac1 (pv 2) (pv 2)) (@a03 _ _ _ _)) (by rfl) (by walk_at "o"))
    (@a04 _ _ _ (@a17 _ _ _ _ (@a37 _ _ _ _ _ _ _ _ b22 (@a37 _ _ _ _ _ _ _ _ ah9 (@a37 _ _ _ _ _ _ _ _ a32 (@a37 _ _ _ _ _ _ _ _ ac1 (pv 2) (@a03 _ _ _ _)) (@a37 _ _ _ _ _ _ _ _ ac1 (pv 1) (pv 1))) (@a03 _ _ _ _)) (@a03 _ _ _ _)))))),?_⟩
   walk_at "go"
   refine ah3 (Bd.big (m61b (m61 _).1 (m61 _).2) (m61b (m61 _).1 (m61 _).2)) ?_
   walk_at "run"
   refine ah3 (.inr (.inl ⟨by omega,by omega⟩)) ?_
   walk_at "run"
   exact q _
def bo0 (K:PySem.W.Frag):Sp:=fun vs H Q _=>∃ (a:Addr) (ns:List Int) (own:Bool),vs=[.ref a,.bl own]∧SqL K H a (ns.map V.int)∧ns.length≤63∧∀ d l H',H d=none→H l=none→Same H H'→Dk5 H' d l 50 0 6→Q (.ref d) H'
theorem be5 (ns:List Int) (a b:Option Int):∃ ms:List Int,cutV (ns.map V.int) a b=ms.map V.int∧ms.length≤ns.length:=by
 unfold cutV
 refine ⟨_,by rw [← List.map_drop,←List.map_take],?_⟩
 rw [List.length_take,List.length_drop]
 omega
theorem av7 (T:Txt K mg t):FnOk P w K mg base CX0 2 t.a__law_deck t.fd__law_deck ["script","own"] (bo0 K):=by
 have G__law_drawn:=as7 (P:=P) (w:=w) (base:=base) T
 refine T.f__law_deck.F.ok sc_law_deck (fun vs H Q E h=>?_) (fun cdv A outer s H vs Q E hr h=>?_)
 · obtain ⟨a,ns,own,rfl,_⟩:=h
   rfl
 · obtain ⟨a,ns,own,rfl,hS,hl,q⟩:=h
   refine ⟨_,(@a02 _ _ _ _ _ (@a16 _ _ 2 _ _ _ _ sc_law_deck.nd rfl (by walk_at "o") (@a15 _ _ _ _ (@a01 _)) (by rfl) (by walk_at "o"))
    (@a02 _ _ _ _ _ (@a62 _ _ _ _ _ _ _ _ PassesOwn.never rfl (a21 K (@a92 _ _ _ _ _ _ _ _ _ _ (a98 K) (pv 0) (@a91 _ _ _ (@a03 _ _ _ _)) (@a91 _ _ _ (@a03 _ _ _ _)))) (a13 (i:=3) sc_law_deck.nd rfl (by walk_at "o")) (@a02 _ _ _ _ _ (@a16 _ _ 4 _ _ _ _ sc_law_deck.nd rfl (by walk_at "o") (@a56 _ _ _ _ _ _ _ _ _ ba5 (by rfl) T.z_abs bu7 (@a00 _ _ _ _ _ (pv 3) (@a01 _) (by rfl)) (by decide) (by decide) (by rfl) (by rfl)) (by rfl) (by walk_at "o"))
     (@a30 _ _ _ _ _ (@a33 _ _ _ _ _ _ _ _ (@b18 _ _ _ _ (ad5 K (pv 1) (fun _=>rfl))) (@a04 _ _ _ (@a62 _ _ _ _ _ _ _ _ PassesOwn.never rfl (ad8 rfl T.z_range (@a00 _ _ _ _ _ (@a03 _ _ _ _) (@a01 _) (by rfl))) (a13 (i:=5) sc_law_deck.nd rfl (by walk_at "o")) (@a04 _ _ _ (@a16 _ _ 4 _ _ _ _ sc_law_deck.nd rfl (by walk_at "o") (@a37 _ _ _ _ _ _ _ _ a32 (@a37 _ _ _ _ _ _ _ _ ac1 (pv 4) (@a03 _ _ _ _)) (@a09 _ _ _ _ _ _ _ _ _ _ _ _ _ _ _ _ G__law_drawn (hr.mono (by omega)) rfl T.f__law_drawn.m T.f__law_drawn.F.kp T.f__law_drawn.b .nil a18 (@a00 _ _ _ _ _ (pv 3) (@a00 _ _ _ _ _ (pv 5) (@a01 _) (by rfl)) (by rfl)) (by decide) (by rfl) (by rfl))) (by rfl) (by walk_at "o"))) (by intro _; rfl))) (@a12 _))
     (@a04 _ _ _ (@a29 _ _ _ _ (@a69 _ K _ _ _ _ _ _ _ _ _ _ _ PySem.F.plainAttrs_list PySem.F.slot_list_append PySem.F.type_list_append a57 (pv 2) (@a00 _ _ _ _ _ (pv 4) (@a01 _) (by rfl)) (by rfl) (by rfl) (by rfl) (by rfl) (by rfl) (by rfl)) (by rfl))))) (by intro _; rfl))
    (@a02 _ _ _ _ _ (@a29 _ _ _ _ (au1 K PySem.F.plainAttrs_list PySem.F.slot_list_reverse PySem.F.type_list_reverse b04 (pv 2)) (by rfl))
    (@a04 _ _ _ (@a17 _ _ _ _ (@a15 _ _ _ _ (@a00 _ _ _ _ _ (pv 2) (@a00 _ _ _ _ _ (@a03 _ _ _ _) (@a00 _ _ _ _ _ (@a03 _ _ _ _) (@a00 _ _ _ _ _ (@a03 _ _ _ _) (@a00 _ _ _ _ _ (@a03 _ _ _ _) (@a01 _) (by rfl)) (by rfl)) (by rfl)) (by rfl)) (by rfl)))))))),?_⟩
   have sl:(1000000:Nat)≤sizeLine:=le_line (Nat.le_refl _)
   walk_at "go"
   intro ln H1 f1 s1 e1
   walk_at "run"
   have hS1:SqL K H1 a (ns.map V.int):=sqS hS s1
   refine au2 hS1 ?_
   obtain ⟨ms,hms,hml⟩:=be5 ns (some 1) (some 62)
   rw [hms]
   intro pc H2 f2 s2 e2
   have hS2:=sqS hS1 s2
   have hmv:(ms.map V.int).length=ms.length:=List.length_map _
   have hne:pc≠ln:=fun z=>by rw [z,e1] at f2; cases f2
   refine ⟨pc,rfl,⟨_,SqL.of e2⟩,a54 (K:=K) (a:=pc) (xs:=ms.map V.int) (fun i σ H'=>Same H H'∧i≤ms.length∧H' pc=some (.lst (ms.map V.int))∧(∃ zs:List Int,zs.length=i∧H' ln=some (.lst (zs.map V.int)))∧∃ y1 y2 y3,σ=[some (.ref a),some (.bl own),some (.ref ln),y1,y2,y3]) ⟨s1.trans s2,Nat.zero_le _,e2,⟨[],rfl,s2 _ _ e1⟩,_,_,_,rfl⟩ (fun i σ H' _ zz=>by obtain ⟨_,_,z,_⟩:=zz; exact SqL.of z) ?_ ?_⟩
   · rintro i x σ H3 hx ⟨s3,_,e3,⟨zs,hz,e4⟩,y1,y2,y3,rfl⟩
     obtain ⟨c,_,rfl⟩:∃ c,ms[i]?=some c∧x=.int c:=by
      rw [List.getElem?_map] at hx
      obtain ⟨c,z1,z2⟩:=Option.map_eq_some_iff.mp hx
      exact ⟨c,z1,z2.symm⟩
     have hi:=(List.getElem?_eq_some_iff.mp hx).1
     walk_at "run"
     refine a64 (fun σ' H'=>H3=H'∧∃ (z:Int) (y:Option V),σ'=[some (.ref a),some (.bl own),some (.ref ln),some (.int c),some (.int z),y]) ?_ ?_
     · walk_at "run"
       cases own with
       | true =>
         walk_at "run"
         exact ⟨rfl,_,_,rfl⟩
       | false =>
         walk_at "run"
         refine ad9 (lo:=0) (n:=6) (fun k σ' H'=>H3=H'∧k≤6∧∃ (z:Int) (y:Option V),σ'=[some (.ref a),some (.bl false),some (.ref ln),some (.int c),some (.int z),y]) ⟨rfl,by omega,_,_,rfl⟩ ?_ ?_
         · rintro k σ' H' hk ⟨rfl,_,z,y,rfl⟩
           walk_at "run"
           rw [Int.zero_add]
           refine ⟨c,k,rfl,by omega,fun r=>?_⟩
           walk_at "run"
           exact ⟨rfl,by omega,_,_,rfl⟩
         · rintro σ' H' ⟨rfl,_,z,y,rfl⟩
           exact ⟨rfl,z,y,rfl⟩
     rintro σ' H' ⟨rfl,z,y,rfl⟩
     walk_at "run"
     refine aa0 (SqL.of e4) ?_
     walk_at "run"
     refine a86 e4 (by rw [List.length_map]; omega) ?_
     refine ⟨s3.updNew f1,by omega,by rw [a11 hne]; exact e3,⟨zs++[z],by simp [hz],?_⟩,_,_,_,rfl⟩
     rw [a14]
     simp
   · rintro σ H3 ⟨s3,_,_,⟨zs,hz,e4⟩,y1,y2,y3,rfl⟩
     walk_at "run"
     refine aa0 (SqL.of e4) ?_
     walk_at "run"
     refine ⟨ln,_,rfl,rfl,e4,?_⟩
     have hr3:(zs.map V.int).reverse=zs.reverse.map V.int:=by rw [List.map_reverse]
     rw [hr3]
     have s4:Same H (upd H3 ln (.lst (zs.reverse.map V.int))):=a50 s3 f1
     have e5:upd H3 ln (.lst (zs.reverse.map V.int)) ln=some (.lst (zs.reverse.map V.int)):=a14
     generalize upd H3 ln (.lst (zs.reverse.map V.int))=H4 at s4 e5 ⊢
     rename_i N hN
     refine hN _ _ ?_
     walk_at "run"
     intro dk H5 f5 s5 e6
     have hne:dk≠ln:=fun z=>by rw [z,e5] at f5; cases f5
     refine q dk ln H5 (a26 s4 f5) f1 (s4.trans s5) ⟨⟨zs.reverse,0,e6,s5 _ _ e5,by rw [List.length_reverse,hz,List.length_map]; omega⟩,hne⟩
def bo1 (K:PySem.W.Frag):Sp:=fun vs H Q _=>∃ (d l:Addr) (left:Int) (bx calls m:Nat),vs=[.ref d,.int (m:Nat)]∧Dk5 H d l left bx calls∧0<m∧m≤1000∧∀ (r:Nat) (H':Hp),r<m→OfD d l H H'→Dk5 H' d l left bx calls→Q (.int (r:Nat)) H'
theorem aa4 (T:Txt K mg t):FnOk P w K mg base CX0 1 t.a__law_take t.fd__law_take ["deck","many"] (bo1 K):=by
 refine T.f__law_take.F.ok sc_law_take (fun vs H Q E h=>?_) (fun cdv A outer s H vs Q E hr h=>?_)
 · obtain ⟨d,l,left,bx,calls,m,rfl,_⟩:=h
   rfl
 · obtain ⟨d,l,left,bx,calls,m,rfl,k,hm0,hm,q⟩:=h
   refine ⟨_,(@a30 _ _ _ _ _ (@a33 _ _ _ _ _ _ _ _ (@PW.pt _ _ _ (@ac8 _ _ _ _ _ _ _ (@a08 _ _ _ _ _ _ _ _ a38 (@a19 _ _ _ _ _ _ _ (a31 K) (pv 0) (@a03 _ _ _ _) (fun _ _=>rfl)) (@a03 _ _ _ _) (nomark _)) (@a89 _ _ _ _ (@a08 _ _ _ _ _ _ _ _ (ar4 K (by exact hr.units)) (@a19 _ _ _ _ _ _ _ (a31 K) (pv 0) (@a03 _ _ _ _) (fun _ _=>rfl)) (@a15 _ _ _ _ (@a01 _)) (nomark _))))) (@a04 _ _ _ (@ah8 _ _ _ _ _ _ (au1 K PySem.F.plainAttrs_list PySem.F.slot_list_pop PySem.F.type_list_pop bf8 (@a19 _ _ _ _ _ _ _ (a31 K) (pv 0) (@a03 _ _ _ _) (fun _ _=>rfl))) (ak5 (pv 0) (@a03 _ _ _ _) ab8) (by rfl) (by rfl) (by rfl))) (@a12 _))
    (@a02 _ _ _ _ _ (@a16 _ _ 2 _ _ _ _ sc_law_take.nd rfl (by walk_at "o") (@a37 _ _ _ _ _ _ _ _ ah9 (@a19 _ _ _ _ _ _ _ (a31 K) (pv 0) (@a03 _ _ _ _) (fun _ _=>rfl)) (pv 1)) (by rfl) (by walk_at "o"))
    (@a02 _ _ _ _ _ (@ah8 _ _ _ _ _ _ (@a37 _ _ _ _ _ _ _ _ b22 (@a19 _ _ _ _ _ _ _ (a31 K) (pv 0) (@a03 _ _ _ _) (fun _ _=>rfl)) (pv 1)) (ak5 (pv 0) (@a03 _ _ _ _) ab8) (by rfl) (by rfl) (by rfl))
    (@a04 _ _ _ (@a17 _ _ _ _ (pv 2)))))),?_⟩
   have sl:(1000000:Nat)≤sizeLine:=le_line (Nat.le_refl _)
   obtain ⟨ms,cur,h1,h2,hml⟩:=k.ex
   have ne:=k.ne
   walk_at "go"
   refine a64 (fun σ' H'=>σ'=[some (.ref d),some (.int (m:Nat)),none]∧OfD d l H H'∧Dk5 H' d l left bx calls) ?_ ?_
   · walk_at "run"
     refine a83 (SqL.of h1) (a06 (j:=1) rfl) ?_
     walk_at "run"
     by_cases hc:cur=0
     · refine a35 hc ?_
       walk_at "run"
       refine a83 (SqL.of h1) (a06 (j:=0) rfl) ?_
       walk_at "run"
       intro t1 J1 g1 m1 j1
       have n1:=k.new g1
       have k1:=k.same m1
       refine b66 (SqL.of (m1 _ _ h2)) (SqL.of j1) ?_
       have h1:=m1 _ _ h1
       have h2:=m1 _ _ h2
       have o1:OfD d l H J1:=OfD.of m1
       rcases List.eq_nil_or_concat ms with rfl | ⟨zs,z,rfl⟩
       · refine ⟨false,rfl,?_⟩
         rw [if_neg Bool.false_ne_true]
         walk_at "run"
         exact ⟨rfl,o1,k1⟩
       · refine ⟨true,by simp,?_⟩
         rw [if_pos rfl]
         walk_at "run"
         refine a83 (SqL.of h1) (a06 (j:=0) rfl) ?_
         walk_at "run"
         refine aa0 (SqL.of h2) ?_
         walk_at "run"
         rw [List.concat_eq_append,List.map_append] at h2
         refine bw4 h2 ?_
         walk_at "run"
         have h1':upd J1 l (.lst (zs.map V.int)) d=some (.lst [.ref l,.int cur,.int left,.int (bx:Nat),.int (calls:Nat)]):=by rw [a11 ne]; exact h1
         refine al6 h1' (j:=1) rfl ?_
         refine ⟨rfl,(o1.u2).u1,⟨⟨zs,z,a14,?_,by simp at hml; omega⟩,ne⟩⟩
         rw [a11 ne.symm,a14]
     · refine a28 hc ?_
       walk_at "run"
       exact ⟨rfl,OfD.of (Same.refl _),k⟩
   rintro σ' H1 ⟨rfl,s1,k1⟩
   obtain ⟨ms1,cur1,g1,g2,gml⟩:=k1.ex
   walk_at "run"
   refine a83 (SqL.of g1) (a06 (j:=1) rfl) ?_
   walk_at "run"
   refine a83 (SqL.of g1) (a06 (j:=1) rfl) ?_
   walk_at "run"
   refine i_rI (show CDiv _ _ from ⟨by omega,by omega⟩) ?_
   walk_at "run"
   refine al6 g1 (j:=1) rfl ?_
   walk_at "run"
   have r0:=Int.emod_nonneg cur1 (show (m:Int)≠0 by omega)
   have r1:=Int.emod_lt_of_pos cur1 (show (0:Int)<(m:Int) by omega)
   obtain ⟨r,hr⟩:∃ r:Nat,cur1 % (m:Int)=(r:Int):=⟨(cur1 % (m:Int)).toNat,by omega⟩
   rw [hr]
   exact q r _ (by omega) s1.u1 ⟨⟨ms1,_,a14,by rw [a11 ne.symm]; exact g2,gml⟩,ne⟩
structure BPre (H:Hp) (dk l ln:Addr) (left:Int) (bx calls:Nat) (nm:List Str) (p:Addr→Prop):Prop where
 k:Dk5 H dk l left bx calls
 n:woP p H ln=some (.lst (a25 nm))
 hn:nm.length≤4
 pd:p dk
 pl:p l
 ex:∀ a,p a→H a≠none
theorem BPre.go {H H':Hp}{dk l ln:Addr}{left left':Int}{bx bx' calls calls':Nat}{nm:List Str}{p:Addr→Prop}(h:BPre H dk l ln left bx calls nm p) (o:OfD dk l H H') (k:Dk5 H' dk l left' bx' calls'):BPre H' dk l ln left' bx' calls' nm p :=
 ⟨k,(o.p h.pd h.pl) _ _ h.n,h.hn,h.pd,h.pl,fun a ha=>by
  obtain ⟨ms,cur,h1,h2,_⟩:=k.ex
  by_cases e1:a=dk
  · rw [e1,h1]; exact fun z=>by cases z
  by_cases e2:a=l
  · rw [e2,h2]; exact fun z=>by cases z
  cases e:H a with
  | none=>exact absurd e (h.ex a ha)
  | some x=>rw [o.at e1 e2 e]; exact fun z=>by cases z⟩
theorem BPre.same {H H':Hp}{dk l ln:Addr}{left:Int}{bx calls:Nat}{nm:List Str}{p:Addr→Prop}(h:BPre H dk l ln left bx calls nm p) (s:Same H H'):BPre H' dk l ln left bx calls nm p:=h.go (OfD.of s) (h.k.same s)
theorem BPre.fr {H:Hp}{dk l ln a:Addr}{left:Int}{bx calls:Nat}{nm:List Str}{p:Addr→Prop}(h:BPre H dk l ln left bx calls nm p) (f:H a=none):¬ p a:=fun z=>h.ex a z f
theorem OfD.un {d l bd:Addr}{H H':Hp}{o:HO}(s:OfD d l H H') (f:H bd=none):OfD d l H (upd H' bd o):=fun a x e=>by
 obtain ⟨h1,h2⟩:=wpT e
 rw [wpG h1,a11 (fun z=>by rw [z,f] at h2; cases h2)]
 have:=s a x e
 exact (wpT this).2
theorem bo2 {p:Addr→Prop}{H:Hp}{a:Addr}{v:V}{b:List Stm}(f:¬ p a) (h:H a=some (.tup [.str "loop",v])) (hb:BAt (woP p H) v b):SAt (woP p H) (.ref a) (.loop b):=sat_loop.mpr ⟨a,v,rfl,by rw [wpG f]; exact h,hb⟩
theorem b89 {H:Hp}{a:Addr}{n:Int}(h:H a=some (.tup [.str "number",.int n])):(Ex.num n).tr.At H (.ref a) []:=au6 h ag0 bg7
theorem bo3 {H:Hp}{a:Addr}{c:Cd}{x y:List Stm}{u1 u2 u3:V}(h:H a=some (.tup [.str "test",u1,u2,u3])) (h1:c.tr.At H u1 []) (h2:BAt H u2 x) (h3:BAt H u3 y):SAt H (.ref a) (.test c x y):=by
 obtain ⟨f2,h2⟩:=h2
 obtain ⟨f3,h3⟩:=h3
 refine ⟨[]++([]++(f2++(f3++[]))),?_⟩
 simp only [Stm.tr,Tr.At,Tr.Ats] at h2 h3 ⊢
 exact ⟨a,_,rfl,h,_,_,[],_,rfl,rfl,⟨rfl,rfl⟩,u1,_,[],_,rfl,rfl,h1,u2,_,f2,_,rfl,rfl,h2,u3,_,f3,[],rfl,rfl,h3,rfl,rfl⟩
theorem c14 {H:Hp}{a:Addr}{n:Str}{e:Ex}{u:V}(h:H a=some (.tup [.str "put",.str n,u])) (h1:e.tr.At H u []):SAt H (.ref a) (.put n e):=by
 refine ⟨[],?_⟩
 simp only [Stm.tr,Tr.At,Tr.Ats]
 exact ⟨a,_,rfl,h,_,_,[],[],rfl,rfl,⟨rfl,rfl⟩,_,_,[],[],rfl,rfl,⟨rfl,rfl⟩,u,_,[],[],rfl,rfl,h1,rfl,rfl⟩
theorem bo4 {H:Hp}{a:Addr}{k:Int}(h:H a=some (.tup [.str "key",.int k])):PAt H (.ref a) [.s "key",.i k]:=by
 unfold PAt
 exact au6 h ag0 bg7
theorem b90 {H:Hp}{a:Addr}{z:Str}(h:H a=some (.tup [.str z])):PAt H (.ref a) [.s z]:=by
 unfold PAt
 exact bm2 h ag0
theorem c76 {H:Hp}{a:Addr}{u v:V}{p:List Pt}{b:List Stm}(h:H a=some (.tup [u,v])) (hp:PAt H u p) (hb:BAt H v b):BrAt H (.ref a) (.mk p b):=⟨a,u,v,rfl,h,hp,hb⟩
theorem be6 {H:Hp}{a:Addr}{k z:Str}(h:H a=some (.tup [.str k,.str z])):PAt H (.ref a) [.s k,.s z]:=by
 unfold PAt
 exact au6 h ag0 ag0
theorem bo5 {H:Hp}{a p1 p2:Addr}{m:Bool}{i j:Int}(h1:H p1=some (.tup [.str "number",.int i])) (h2:H p2=some (.tup [.str "number",.int j])) (h:H a=some (.tup [.str (bc0 m),.ref p1,.ref p2])):(Cd.cmp m (.num i) (.num j)).tr.At H (.ref a) []:=by
 have a1:=b89 h1
 have a2:=b89 h2
 simp only [Cd.tr,Tr.At,Tr.Ats]
 exact ⟨a,_,rfl,h,_,_,[],[],rfl,rfl,⟨rfl,rfl⟩,_,_,[],[],rfl,rfl,a1,_,_,[],[],rfl,rfl,a2,rfl,rfl⟩
theorem be7 {c:Bool}{R X Y:Prop}(h:R→X) (h1:c=true→R) (h2:c=false→(R→X)→Y):if c=true then X else Y:=by
 cases c with
 | true=>rw [if_pos rfl]; exact h (h1 rfl)
 | false=>rw [if_neg Bool.false_ne_true]; exact h2 rfl h
theorem as8 (bs:List Br) (p:List Pt) (b:List Stm):allR (bs++[.mk p b])=allR bs++allB b:=by
 induction bs with
 | nil=>simp [allR]
 | cons x bs ih=>cases x; simp only [List.cons_append,allR,ih,List.append_assoc]
theorem as9 (bs:List Br) (p:List Pt) (b:List Stm):ptsB (bs++[.mk p b])=ptsB bs++[p]:=by
 induction bs with
 | nil=>simp [ptsB]
 | cons x bs ih=>cases x; simp only [List.cons_append,ptsB,ih]
theorem b12 {α β:Type}{R:α→β→Prop}{vs:List α}{xs:List β}(h:Each R vs xs) (k:Nat):Each R (vs.eraseIdx k) (xs.eraseIdx k):=by
 refine ⟨by rw [List.length_eraseIdx,List.length_eraseIdx,h.1],fun j v x h1 h2=>?_⟩
 rw [List.getElem?_eraseIdx] at h1 h2
 split at h1
 · rename_i hj; rw [if_pos hj] at h2; exact h.2 _ v x h1 h2
 · rename_i hj; rw [if_neg hj] at h2; exact h.2 _ v x h1 h2
def bnx (bx:Nat):List Str:=[Str.ofString "a",Str.ofString "box"].take bx
def aj6 (K:PySem.W.Frag) (d:Nat):Sp:=fun vs H Q _=>∃ (dk l ln:Addr) (left:Int) (bx calls deep e:Nat) (lp:Bool) (nm:List Str) (p:Addr→Prop),vs=[.ref dk,.int (deep:Nat),.ref ln,.bl lp]∧BPre H dk l ln left bx calls nm p∧e<d∧deep+e=5∧1≤e∧-1≤left∧∀ v b left' calls' H',OfD dk l H H'→Dk5 H' dk l left' bx calls'→BAt (woP p H') v b→okB 8 (bnx bx) nm e lp b→b.length≤7→((allB b).length:Int)+left'≤left→-1≤left'→Q v H'
def bi2 (K:PySem.W.Frag) (d:Nat):Sp:=fun vs H Q _=>∃ (dk l ln:Addr) (left:Int) (bx calls deep e:Nat) (lp:Bool) (nm:List Str) (p:Addr→Prop),vs=[.ref dk,.int (deep:Nat),.ref ln,.bl lp]∧BPre H dk l ln left bx calls nm p∧e<d∧deep+e=5∧1≤e∧1≤left∧∀ v s left' calls' H',OfD dk l H H'→Dk5 H' dk l left' bx calls'→SAt (woP p H') v s→okS 8 (bnx bx) nm e lp s→((allS s).length:Int)+left'≤left→-1≤left'→Q v H'
def c15 (K:PySem.W.Frag) (d:Nat):Sp:=fun vs H Q _=>∃ (dk l ln:Addr) (left:Int) (bx calls deep e:Nat) (lp:Bool) (nm:List Str) (p:Addr→Prop),vs=[.ref dk,.int (deep:Nat),.ref ln,.bl lp]∧BPre H dk l ln left bx calls nm p∧e<d∧deep+e=5∧2≤e∧-1≤left∧∀ v s left' calls' H',OfD dk l H H'→Dk5 H' dk l left' bx calls'→SAt (woP p H') v s→okS 8 (bnx bx) nm e lp s→((allS s).length:Int)+left'≤left+1→-1≤left'→Q v H'
theorem c16 {n:Nat}{m:Nat}(h:n<m):seqIndex? (n:Int) m=some n:=by
 unfold seqIndex?
 simp only [show ¬ ((n:Int)<0) by omega,if_false,show (0:Int)≤(n:Int) by omega,show (n:Int)<(m:Int) by omega,decide_true,Bool.and_self,if_true,Int.toNat_natCast]
theorem av8 (T:Txt K mg t) {d:Nat}(G__law_body:FnOk P w K mg base CX0 (3*d+2) t.a__law_body t.fd__law_body ["deck","deep","later","looped"] (aj6 K d)):FnOk P w K mg base CX0 (3*d+3) t.a__law_wait t.fd__law_wait ["deck","deep","later","looped"] (c15 K (d+1)):=by
 have G__law_take:=aa4 (P:=P) (w:=w) (base:=base) T
 refine T.f__law_wait.F.ok sc_law_wait (fun vs H Q E h=>?_) (fun cdv A outer s H vs Q E hr h=>?_)
 · obtain ⟨dk,l,ln,left,bx,calls,deep,e,lp,nm,p,rfl,_⟩:=h
   rfl
 · obtain ⟨dk,l,ln,left,bx,calls,deep,e,lp,nm,p,rfl,hB,he,hde,he2,hl,q⟩:=h
   refine ⟨_,(@a02 _ _ _ _ _ (@a16 _ _ 4 _ _ _ _ sc_law_wait.nd rfl (by walk_at "o") (@a09 _ _ _ _ _ _ _ _ _ _ _ _ _ _ _ _ G__law_take (hr.mono (by omega)) rfl T.f__law_take.m T.f__law_take.F.kp T.f__law_take.b .nil a18 (@a00 _ _ _ _ _ (pv 0) (@a00 _ _ _ _ _ (@a03 _ _ _ _) (@a01 _) (by rfl)) (by rfl)) (by decide) (by rfl) (by rfl)) (by rfl) (by walk_at "o"))
    (@a02 _ _ _ _ _ (@a16 _ _ 5 _ _ _ _ sc_law_wait.nd rfl (by walk_at "o") (@a15 _ _ _ _ (@a01 _)) (by rfl) (by walk_at "o"))
    (@a02 _ _ _ _ _ (@a16 _ _ 6 _ _ _ _ sc_law_wait.nd rfl (by walk_at "o") (@a15 _ _ _ _ (@a00 _ _ _ _ _ (@a20 _ _ _ _ _ (@a00 _ _ _ _ _ (@a05 _ _ _ _) (@a00 _ _ _ _ _ (@a03 _ _ _ _) (@a01 _) (by rfl)) (by rfl))) (@a00 _ _ _ _ _ (@a20 _ _ _ _ _ (@a00 _ _ _ _ _ (@a05 _ _ _ _) (@a00 _ _ _ _ _ (@a05 _ _ _ _) (@a01 _) (by rfl)) (by rfl))) (@a00 _ _ _ _ _ (@a20 _ _ _ _ _ (@a00 _ _ _ _ _ (@a05 _ _ _ _) (@a01 _) (by rfl))) (@a00 _ _ _ _ _ (@a20 _ _ _ _ _ (@a00 _ _ _ _ _ (@a05 _ _ _ _) (@a01 _) (by rfl))) (@a01 _) (by rfl)) (by rfl)) (by rfl)) (by rfl))) (by rfl) (by walk_at "o"))
    (@a02 _ _ _ _ _ (@a62 _ _ _ _ _ _ _ _ PassesOwn.never rfl (ad8 rfl T.z_range (@a00 _ _ _ _ _ (@a09 _ _ _ _ _ _ _ _ _ _ _ _ _ _ _ _ G__law_take (hr.mono (by omega)) rfl T.f__law_take.m T.f__law_take.F.kp T.f__law_take.b .nil a18 (@a00 _ _ _ _ _ (pv 0) (@a00 _ _ _ _ _ (@a03 _ _ _ _) (@a01 _) (by rfl)) (by rfl)) (by decide) (by rfl) (by rfl)) (@a01 _) (by rfl))) (a13 (i:=7) sc_law_wait.nd rfl (by walk_at "o")) (@a02 _ _ _ _ _ (@a16 _ _ 8 _ _ _ _ sc_law_wait.nd rfl (by walk_at "o") (@a69 _ K _ _ _ _ _ _ _ _ _ _ _ PySem.F.plainAttrs_list PySem.F.slot_list_pop PySem.F.type_list_pop bb1 (pv 6) (@a00 _ _ _ _ _ (@a09 _ _ _ _ _ _ _ _ _ _ _ _ _ _ _ _ G__law_take (hr.mono (by omega)) rfl T.f__law_take.m T.f__law_take.F.kp T.f__law_take.b .nil a18 (@a00 _ _ _ _ _ (pv 0) (@a00 _ _ _ _ _ (@a56 _ _ _ _ _ _ _ _ _ (a99 K) (by rfl) T.z_len ae8 (@a00 _ _ _ _ _ (pv 6) (@a01 _) (by rfl)) (by decide) (by decide) (by rfl) (by rfl)) (@a01 _) (by rfl)) (by rfl)) (by decide) (by rfl) (by rfl)) (@a01 _) (by rfl)) (by rfl) (by rfl) (by rfl) (by rfl) (by rfl) (by rfl)) (by rfl) (by walk_at "o"))
     (@a04 _ _ _ (@a33 _ _ _ _ _ _ _ _ (@PW.pt _ _ _ (@am2 _ _ _ _ _ _ _ (@a08 _ _ _ _ _ _ _ _ (bc7 K (by exact hr.units)) (pv 8) (@a20 _ _ _ _ _ (@a00 _ _ _ _ _ (@a05 _ _ _ _) (@a01 _) (by rfl))) (nomark _)) (@ag2 _ _ _ _ (@a08 _ _ _ _ _ _ _ _ at5 (pv 4) (@a03 _ _ _ _) (nomark _))))) (@a04 _ _ _ (@a29 _ _ _ _ (@a69 _ K _ _ _ _ _ _ _ _ _ _ _ PySem.F.plainAttrs_list PySem.F.slot_list_append PySem.F.type_list_append a57 (pv 5) (@a00 _ _ _ _ _ (@a20 _ _ _ _ _ (@a00 _ _ _ _ _ (pv 8) (@a00 _ _ _ _ _ (@a09 _ _ _ _ _ _ _ _ _ _ _ _ _ _ _ _ G__law_body (hr.mono (by omega)) rfl T.f__law_body.m T.f__law_body.F.kp T.f__law_body.b .nil a18 (@a00 _ _ _ _ _ (pv 0) (@a00 _ _ _ _ _ (@a37 _ _ _ _ _ _ _ _ a32 (pv 1) (@a03 _ _ _ _)) (@a00 _ _ _ _ _ (pv 2) (@a00 _ _ _ _ _ (pv 3) (@a01 _) (by rfl)) (by rfl)) (by rfl)) (by rfl)) (by decide) (by rfl) (by rfl)) (@a01 _) (by rfl)) (by rfl))) (@a01 _) (by rfl)) (by rfl) (by rfl) (by rfl) (by rfl) (by rfl) (by rfl)) (by rfl))) (@a12 _)))) (by intro _; rfl))
    (@a04 _ _ _ (@a17 _ _ _ _ (@a20 _ _ _ _ _ (@a00 _ _ _ _ _ (@a05 _ _ _ _) (@a00 _ _ _ _ _ (pv 4) (@a00 _ _ _ _ _ (pv 5) (@a01 _) (by rfl)) (by rfl)) (by rfl))))))))),?_⟩
   have sl:(1000000:Nat)≤sizeLine:=le_line (Nat.le_refl _)
   obtain ⟨e,rfl⟩:∃ e',e=e'+1:=⟨e - 1,by omega⟩
   walk_at "go"
   refine ⟨dk,l,left,bx,calls,3,rfl,hB.k,by omega,by omega,fun lim H1 hlim o1 k1=>?_⟩
   walk_at "run"
   have hB1:=hB.go o1 k1
   intro bl J1 g1 m1 j1
   walk_at "run"
   intro t1 J2 g2 m2 j2
   walk_at "run"
   intro t2 J3 g3 m3 j3
   walk_at "run"
   intro t3 J4 g4 m4 j4
   walk_at "run"
   intro t4 J5 g5 m5 j5
   walk_at "run"
   intro pl J6 g6 m6 j6
   walk_at "run"
   have m26:=m2.trans (m3.trans (m4.trans (m5.trans m6)))
   have m16:=m1.trans m26
   refine ⟨dk,l,left,bx,calls,4,rfl,k1.same m16,by omega,by omega,fun many J7 hmany o7 k7=>?_⟩
   walk_at "run"
   have nb:=(k1.same (Same.refl _)).new g1
   have np:=(k1.same (m1.trans (m2.trans (m3.trans (m4.trans m5))))).new g6
   have hBJ6:=hB1.same m16
   have fb:¬ p bl:=hB1.fr g1
   have fp:¬ p pl:=(hB1.same (m1.trans (m2.trans (m3.trans (m4.trans m5))))).fr g6
   have hbp:bl≠pl:=fun z=>by rw [← z,(m2.trans (m3.trans (m4.trans m5))) _ _ j1] at g6; cases g6
   have hlnb:ln≠bl:=fun z=>by
    have:=(wpT hB1.n).2
    rw [z,g1] at this
    cases this
   have hlnp:ln≠pl:=fun z=>by
    have:=(m1.trans (m2.trans (m3.trans (m4.trans m5)))) _ _ (wpT hB1.n).2
    rw [z,g6] at this
    cases this
   let p2:Addr→Prop:=fun a=>p a∨a=bl∨a=pl
   have w:∀ {Hk:Hp}{a:Addr}{ys:List V},Same J1 Hk→Hk a=none→J6 a=some (.tup ys)→woP p2 J6 a=some (.tup ys):=fun {Hk a ys} s f e=>by
    refine (wpG fun z=>?_).trans e
    rcases z with z | rfl | rfl
    · exact ((hB1.same m1).same s).fr f z
    · rw [s _ _ j1] at f; cases f
    · rw [j6] at e; cases e
   have P1:PAt (woP p2 J6) (.ref t1) [.s "key",.i 3]:=bo4 (w (Same.refl _) g2 ((m3.trans (m4.trans (m5.trans m6))) _ _ j2))
   have P2:PAt (woP p2 J6) (.ref t2) [.s "word",.s "yes"]:=be6 (w m2 g3 ((m4.trans (m5.trans m6)) _ _ j3))
   have P3:PAt (woP p2 J6) (.ref t3) [.s "other"]:=b90 (w (m2.trans m3) g4 ((m5.trans m6) _ _ j4))
   have P4:PAt (woP p2 J6) (.ref t4) [.s "none"]:=b90 (w (m2.trans (m3.trans m4)) g5 (m6 _ _ j5))
   have hP:Each (PAt (woP p2 J7)) [.ref t1,.ref t2,.ref t3,.ref t4] [[.s "key",.i 3],[.s "word",.s "yes"],[.s "other"],[.s "none"]]:=((((Each.nil.snoc P1).snoc P2).snoc P3).snoc P4).mono fun _ _ z=>z.same (o7.p (.inl hB.pd) (.inl hB.pl))
   have hnd:([[.s "key",.i 3],[.s "word",.s "yes"],[.s "other"],[.s "none"]]:List (List Pt)).Nodup:=by
    simp only [List.nodup_cons,List.mem_cons,List.not_mem_nil,or_false,not_or,List.nodup_nil,and_true]
    refine ⟨⟨?_,?_,?_⟩,⟨?_,?_⟩,?_,id⟩ <;> (intro z; simp at z <;> exact absurd z (by decide +kernel))
   have m15:=m1.trans (m2.trans (m3.trans (m4.trans m5)))
   have hpH:H pl=none:=by
    cases e:H pl with
    | none=>rfl
    | some o=>have:=(o1.trans (OfD.of m15)).at np.1 np.2 e; rw [g6] at this; cases this
   have hbH:H bl=none:=by
    cases e:H bl with
    | none=>rfl
    | some o=>have:=o1.at nb.1 nb.2 e; rw [g1] at this; cases this
   have o17:OfD dk l H J7:=(o1.trans (OfD.of m16)).trans o7
   refine ad9 (lo:=0) (n:=many) (fun i σ' H'=>i≤many∧∃ (left':Int) (calls':Nat) (bs:List Br) (us pvs:List V) (ps:List (List Pt)) (y1 y2:Option V),σ'=[some (.ref dk),some (.int (deep:Nat)),some (.ref ln),some (.bl lp),some (.int (lim:Nat)),some (.ref bl),some (.ref pl),y1,y2]∧OfD dk l H H'∧Dk5 H' dk l left' bx calls'∧H' bl=some (.lst us)∧Each (BrAt (woP p2 H')) us bs∧H' pl=some (.lst pvs)∧Each (PAt (woP p2 H')) pvs ps∧ps.length+i=4∧bs.length≤i∧(ptsB bs++ps).Nodup∧(lim=0→[.s "none"]∉ptsB bs)∧(∀ br∈bs,∃ q x,br=.mk q x∧okB 8 (bnx bx) nm e lp x)∧((allR bs).length:Int)+left'≤left∧-1≤left') ⟨Nat.zero_le _,left,calls,[],[],_,_,_,_,rfl,o17,k7,o7.at nb.1 nb.2 (m26 _ _ j1),Each.nil,o7.at np.1 np.2 j6,hP,rfl,Nat.le_refl _,hnd,fun _ z=>(by cases z),fun br z=>(by cases z),by simp [allR],hl⟩ ?_ ?_
   · rintro i σ' H3 hi ⟨_,left',calls',bs,us,pvs,ps,y1,y2,rfl,o3,k3,eb,hE,ep,hPs,hpl,hbl,hN,hz,hok,hsz,hlo⟩
     walk_at "run"
     refine aa0 (SqL.of ep) ?_
     walk_at "run"
     refine ae9 (SqL.of ep) ?_
     walk_at "run"
     have hpv:=hPs.1
     refine ⟨dk,l,left',bx,calls',pvs.length,rfl,k3,by omega,by omega,fun r H4 hr o4 k4=>?_⟩
     have ep4:=o4.at np.1 np.2 ep
     have eb4:=o4.at nb.1 nb.2 eb
     obtain ⟨pv,hpv1⟩:∃ v,pvs[r]?=some v:=⟨_,List.getElem?_eq_getElem hr⟩
     obtain ⟨pp,hpp⟩:∃ x,ps[r]?=some x:=⟨_,List.getElem?_eq_getElem (by omega)⟩
     have hPp:=(hPs.2 r _ _ hpv1 hpp).same (o4.p (.inl hB.pd) (.inl hB.pl))
     refine ⟨pl,pvs,_,r,pv,rfl,rfl,ep4,by omega,by omega,c16 hr,hpv1,?_⟩
     walk_at "run"
     have o34:=o3.trans o4
     have w34:Same (woP p2 H3) (woP p2 H4):=o4.p (.inl hB.pd) (.inl hB.pl)
     have k5:Dk5 (upd H4 pl (.lst (pvs.eraseIdx r))) dk l left' bx calls':=k4.upd np.1 np.2
     have o5:OfD dk l H (upd H4 pl (.lst (pvs.eraseIdx r))):=o34.un hpH
     have e5:upd H4 pl (.lst (pvs.eraseIdx r)) pl=some (.lst (pvs.eraseIdx r)):=a14
     have eb5:upd H4 pl (.lst (pvs.eraseIdx r)) bl=some (.lst us):=by rw [a11 hbp]; exact eb4
     have w5:woP p2 (upd H4 pl (.lst (pvs.eraseIdx r)))=woP p2 H4:=wpU (.inr (.inr rfl))
     generalize upd H4 pl (.lst (pvs.eraseIdx r))=H5 at k5 o5 e5 eb5 w5 ⊢
     have hE5:Each (BrAt (woP p2 H5)) us bs:=by rw [w5]; exact hE.mono fun _ _ z=>af5 z w34
     have hPs5:Each (PAt (woP p2 H5)) (pvs.eraseIdx r) (ps.eraseIdx r):=by rw [w5]; exact b12 (hPs.mono fun _ _ z=>z.same w34) r
     rw [← w5] at hPp
     have hrp:r<ps.length:=by omega
     have hpg:ps[r]=pp:=by
      obtain ⟨_,h⟩:=List.getElem?_eq_some_iff.mp hpp
      exact h
     have hper:=al7 ps r hrp
     rw [hpg] at hper
     have hN2:(pp::(ptsB bs++ps.eraseIdx r)).Nodup:=(List.perm_middle.symm.trans (List.Perm.append_left (ptsB bs) hper)).nodup_iff.mpr hN
     have hpl2:(ps.eraseIdx r).length+(i+1)=4:=by rw [List.length_eraseIdx_of_lt hrp]; omega
     intro t5 J9 g9 m9 j9
     have hB9:BPre J9 dk l ln left' bx calls' nm p2:=⟨k5.same m9,by
      have h1:=(hB.go o5 k5).same m9
      obtain ⟨q1,q2⟩:=wpT h1.n
      rw [wpG (fun z=>z.elim q1 (fun z=>z.elim hlnb hlnp))]
      exact q2,hB.hn,.inl hB.pd,.inl hB.pl,fun a ha=>by
      rcases ha with ha | rfl | rfl
      · exact ((hB.go o5 k5).same m9).ex a ha
      · rw [m9 _ _ eb5]; exact fun z=>by cases z
      · rw [m9 _ _ e5]; exact fun z=>by cases z⟩
     refine by4 (ts:=pp.map Pt.tr) (rs:=[.str "none"]) (Tr.At.toK K ((hPp.same wpL).same m9)) (by simp only [Tr.AtK,Tr.AtsK]; exact ⟨t5,_,rfl,.inl j9,_,_,rfl,rfl,rfl⟩) (by have:=av3 pp; simp only [Tr.h]; omega) (by decide) ?_
     refine ⟨_,rfl,?_⟩
     refine be7 (R:=pp≠[.s "none"]∨0<lim) (fun hR=>?_) (fun hc=>.inl fun z=>?_) (fun hc hX=>?_)
     · rw [if_pos rfl]
       walk_at "run"
       refine aa0 (SqL.of (m9 _ _ eb5)) ?_
       walk_at "run"
       refine ⟨dk,l,ln,left',bx,calls',deep+1,e,lp,nm,p2,rfl,hB9,by omega,by omega,by omega,hlo,fun v b left2 calls2 H6 o6 k6 hb hw hb7 hz2 hlo2=>?_⟩
       walk_at "run"
       intro tp H7 f7 s7 e7
       walk_at "run"
       have hB7:=(hB9.go o6 k6).same s7
       have f7':=(hB9.go o6 k6).fr f7
       have o97:OfD dk l J9 H7:=o6.trans (OfD.of s7)
       have w97:Same (woP p2 J9) (woP p2 H7):=o97.p (.inl hB.pd) (.inl hB.pl)
       have w57:Same (woP p2 H5) (woP p2 H7):=(wpS m9).trans w97
       have eb7:=o97.at nb.1 nb.2 (m9 _ _ eb5)
       have ep7:=o97.at np.1 np.2 (m9 _ _ e5)
       have hul:=hE.1
       refine a86 eb7 (by omega) ?_
       refine ⟨hi,left2,calls2,bs++[.mk pp b],us++[.ref tp],_,ps.eraseIdx r,_,_,rfl,((o5.trans (OfD.of m9)).trans o97).un hbH,(k6.same s7).upd nb.1 nb.2,a14,?_,by rw [a11 hbp.symm]; exact ep7,?_,hpl2,by rw [List.length_append,List.length_singleton]; omega,?_,?_,?_,?_,hlo2⟩
       · rw [wpU (.inr (.inl rfl))]
         exact (hE5.mono fun _ _ z=>af5 z w57).snoc (c76 (by rw [wpG f7']; exact e7) (hPp.same w57) (hb.same (wpS s7)))
       · rw [wpU (.inr (.inl rfl))]
         exact hPs5.mono fun _ _ z=>z.same w57
       · rw [as9,List.append_assoc,List.singleton_append]
         exact List.perm_middle.nodup_iff.mpr hN2
       · intro hz0 hm
         rw [as9] at hm
         rcases List.mem_append.mp hm with hm | hm
         · exact hz hz0 hm
         · rcases hR with hR | hR
           · exact hR (List.mem_singleton.mp hm).symm
           · omega
       · intro br hbr
         rcases List.mem_append.mp hbr with hbr | hbr
         · exact hok br hbr
         · exact ⟨pp,b,List.mem_singleton.mp hbr,hw⟩
       · rw [as8,List.length_append]
         omega
     · rw [z] at hc
       simp [Pt.tr] at hc
     · walk_at "run"
       by_cases hl0:0<lim
       · refine a35 (show (0:Int)<(lim:Int) by omega) ?_
         have:=hX (.inr hl0)
         rw [if_pos rfl] at this
         exact this
       · refine a28 (show ¬ (0:Int)<(lim:Int) by omega) ?_
         walk_at "run"
         have w59:Same (woP p2 H5) (woP p2 J9):=wpS m9
         exact ⟨hi,left',calls',bs,us,_,ps.eraseIdx r,_,_,rfl,o5.trans (OfD.of m9),k5.same m9,m9 _ _ eb5,hE5.mono fun _ _ z=>af5 z w59,m9 _ _ e5,hPs5.mono fun _ _ z=>z.same w59,hpl2,by omega,(List.nodup_cons.mp hN2).2,hz,hok,hsz,hlo⟩
   · rintro σ' H3 ⟨_,left',calls',bs,us,pvs,ps,y1,y2,rfl,o3,k3,eb,hE,ep,hPs,hpl,hbl,hN,hz,hok,hsz,hlo⟩
     walk_at "run"
     intro tw J8 g8 m8 j8
     have hB3:=hB.go o3 k3
     have f8:=hB3.fr g8
     refine q _ (.wait lim bs) left' calls' J8 (o3.trans (OfD.of m8)) (k3.same m8) (sat_wait.mpr ⟨tw,bl,us,rfl,by rw [wpG f8]; exact j8,by rw [wpG fb]; exact m8 _ _ eb,hE.mono fun _ _ z=>af5 z ((wpB fun a h=>.inl h).trans (wpS m8))⟩) ⟨by omega,(List.nodup_append.mp hN).1,fun hz0=>hz (by omega),hok⟩ (by rw [allS,List.length_cons]; omega) hlo
theorem ah0 (T:Txt K mg t) {d:Nat}(G__law_wait:FnOk P w K mg base CX0 (3*d+3) t.a__law_wait t.fd__law_wait ["deck","deep","later","looped"] (c15 K (d+1))) (G__law_body:FnOk P w K mg base CX0 (3*d+2) t.a__law_body t.fd__law_body ["deck","deep","later","looped"] (aj6 K d)):FnOk P w K mg base CX0 (3*d+4) t.a__law_statement t.fd__law_statement ["deck","deep","later","looped"] (bi2 K (d+1)):=by
 have G__law_take:=aa4 (P:=P) (w:=w) (base:=base) T
 refine T.f__law_statement.F.ok sc_law_statement (fun vs H Q E h=>?_) (fun cdv A outer s H vs Q E hr h=>?_)
 · obtain ⟨dk,l,ln,left,bx,calls,deep,e,lp,nm,p,rfl,_⟩:=h
   rfl
 · obtain ⟨dk,l,ln,left0,bx,calls,deep,e,lp,nm,p,rfl,hB,he,hde,he1,hl0,q⟩:=h
   refine ⟨_,(@a02 _ _ _ _ _ (@a16 _ _ 4 _ _ _ _ sc_law_statement.nd rfl (by walk_at "o") (@a09 _ _ _ _ _ _ _ _ _ _ _ _ _ _ _ _ G__law_take (hr.mono (by omega)) rfl T.f__law_take.m T.f__law_take.F.kp T.f__law_take.b .nil a18 (@a00 _ _ _ _ _ (pv 0) (@a00 _ _ _ _ _ (@a03 _ _ _ _) (@a01 _) (by rfl)) (by rfl)) (by decide) (by rfl) (by rfl)) (by rfl) (by walk_at "o"))
    (@a02 _ _ _ _ _ (@ah8 _ _ _ _ _ _ (@a37 _ _ _ _ _ _ _ _ aw5 (@a19 _ _ _ _ _ _ _ (a31 K) (pv 0) (@a03 _ _ _ _) (fun _ _=>rfl)) (@a03 _ _ _ _)) (ak5 (pv 0) (@a03 _ _ _ _) ab8) (by rfl) (by rfl) (by rfl))
    (@a30 _ _ _ _ _ (@a33 _ _ _ _ _ _ _ _ (@PW.pt _ _ _ (@ac8 _ _ _ _ _ _ _ (@a08 _ _ _ _ _ _ _ _ at5 (pv 4) (@a03 _ _ _ _) (nomark _)) (@a89 _ _ _ _ (@a08 _ _ _ _ _ _ _ _ at5 (pv 1) (@a03 _ _ _ _) (nomark _))))) (@a04 _ _ _ (@a16 _ _ 4 _ _ _ _ sc_law_statement.nd rfl (by walk_at "o") (@a37 _ _ _ _ _ _ _ _ ah9 (pv 4) (@a03 _ _ _ _)) (by rfl) (by walk_at "o"))) (@a12 _))
    (@a02 _ _ _ _ _ (@a33 _ _ _ _ _ _ _ _ (@PW.pt _ _ _ (@ac8 _ _ _ _ _ _ _ (@a08 _ _ _ _ _ _ _ _ a38 (pv 4) (@a03 _ _ _ _) (nomark _)) (@ac8 _ _ _ _ _ _ _ (@a08 _ _ _ _ _ _ _ _ (ar4 K (by exact hr.units)) (pv 2) (@a15 _ _ _ _ (@a01 _)) (nomark _)) (@a89 _ _ _ _ (@a08 _ _ _ _ _ _ _ _ at5 (@a19 _ _ _ _ _ _ _ (a31 K) (pv 0) (@a03 _ _ _ _) (fun _ _=>rfl)) (@a03 _ _ _ _) (nomark _)))))) (@a02 _ _ _ _ _ (@ah8 _ _ _ _ _ _ (@a37 _ _ _ _ _ _ _ _ aw5 (@a19 _ _ _ _ _ _ _ (a31 K) (pv 0) (@a03 _ _ _ _) (fun _ _=>rfl)) (@a03 _ _ _ _)) (ak5 (pv 0) (@a03 _ _ _ _) ab8) (by rfl) (by rfl) (by rfl))
     (@a04 _ _ _ (@a17 _ _ _ _ (@a20 _ _ _ _ _ (@a00 _ _ _ _ _ (@a05 _ _ _ _) (@a00 _ _ _ _ _ (@a19 _ _ _ _ _ _ _ (a31 K) (pv 2) (@a09 _ _ _ _ _ _ _ _ _ _ _ _ _ _ _ _ G__law_take (hr.mono (by omega)) rfl T.f__law_take.m T.f__law_take.F.kp T.f__law_take.b .nil a18 (@a00 _ _ _ _ _ (pv 0) (@a00 _ _ _ _ _ (@a56 _ _ _ _ _ _ _ _ _ (a99 K) (by rfl) T.z_len ae8 (@a00 _ _ _ _ _ (pv 2) (@a01 _) (by rfl)) (by decide) (by decide) (by rfl) (by rfl)) (@a01 _) (by rfl)) (by rfl)) (by decide) (by rfl) (by rfl)) (fun _ _=>rfl)) (@a01 _) (by rfl)) (by rfl)))))) (@a12 _))
    (@a02 _ _ _ _ _ (@a33 _ _ _ _ _ _ _ _ (@PW.pt _ _ _ (@am2 _ _ _ _ _ _ _ (@a08 _ _ _ _ _ _ _ _ a38 (pv 4) (@a03 _ _ _ _) (nomark _)) (@ag2 _ _ _ _ (@PW.pt _ _ _ (@ac8 _ _ _ _ _ _ _ (@a08 _ _ _ _ _ _ _ _ a38 (pv 4) (@a03 _ _ _ _) (nomark _)) (@a89 _ _ _ _ (ad5 K (pv 3) (fun _=>rfl)))))))) (@a04 _ _ _ (@a17 _ _ _ _ (@a19 _ _ _ _ _ _ _ (a31 K) (@a15 _ _ _ _ (@a00 _ _ _ _ _ (@a20 _ _ _ _ _ (@a00 _ _ _ _ _ (@a05 _ _ _ _) (@a01 _) (by rfl))) (@a00 _ _ _ _ _ (@a20 _ _ _ _ _ (@a00 _ _ _ _ _ (@a05 _ _ _ _) (@a01 _) (by rfl))) (@a01 _) (by rfl)) (by rfl))) (@a37 _ _ _ _ _ _ _ _ aw5 (pv 4) (@a03 _ _ _ _)) (fun _ _=>rfl)))) (@a12 _))
    (@a02 _ _ _ _ _ (@a33 _ _ _ _ _ _ _ _ (@PW.pt _ _ _ (@ac8 _ _ _ _ _ _ _ (@a08 _ _ _ _ _ _ _ _ a38 (pv 4) (@a03 _ _ _ _) (nomark _)) (@a89 _ _ _ _ (ad5 K (pv 3) (fun _=>rfl))))) (@a04 _ _ _ (@a17 _ _ _ _ (@a20 _ _ _ _ _ (@a00 _ _ _ _ _ (@a05 _ _ _ _) (@a01 _) (by rfl))))) (@a12 _))
    (@a02 _ _ _ _ _ (@a33 _ _ _ _ _ _ _ _ (@PW.pt _ _ _ (@ac8 _ _ _ _ _ _ _ (@a08 _ _ _ _ _ _ _ _ a38 (pv 4) (@a03 _ _ _ _) (nomark _)) (@a89 _ _ _ _ (@a08 _ _ _ _ _ _ _ _ a38 (@a09 _ _ _ _ _ _ _ _ _ _ _ _ _ _ _ _ G__law_take (hr.mono (by omega)) rfl T.f__law_take.m T.f__law_take.F.kp T.f__law_take.b .nil a18 (@a00 _ _ _ _ _ (pv 0) (@a00 _ _ _ _ _ (@a03 _ _ _ _) (@a01 _) (by rfl)) (by rfl)) (by decide) (by rfl) (by rfl)) (@a03 _ _ _ _) (nomark _))))) (@a04 _ _ _ (@a17 _ _ _ _ (@a20 _ _ _ _ _ (@a00 _ _ _ _ _ (@a05 _ _ _ _) (@a01 _) (by rfl))))) (@a12 _))
    (@a02 _ _ _ _ _ (@a33 _ _ _ _ _ _ _ _ (@PW.pt _ _ _ (@am2 _ _ _ _ _ _ _ (@a08 _ _ _ _ _ _ _ _ a38 (pv 4) (@a03 _ _ _ _) (nomark _)) (@ag2 _ _ _ _ (@a08 _ _ _ _ _ _ _ _ a38 (pv 4) (@a03 _ _ _ _) (nomark _))))) (@a02 _ _ _ _ _ (@a16 _ _ 5 _ _ _ _ sc_law_statement.nd rfl (by walk_at "o") (@a09 _ _ _ _ _ _ _ _ _ _ _ _ _ _ _ _ G__law_body (hr.mono (by omega)) rfl T.f__law_body.m T.f__law_body.F.kp T.f__law_body.b .nil a18 (@a00 _ _ _ _ _ (pv 0) (@a00 _ _ _ _ _ (@a37 _ _ _ _ _ _ _ _ a32 (pv 1) (@a03 _ _ _ _)) (@a00 _ _ _ _ _ (pv 2) (@a00 _ _ _ _ _ (pv 3) (@a01 _) (by rfl)) (by rfl)) (by rfl)) (by rfl)) (by decide) (by rfl) (by rfl)) (by rfl) (by walk_at "o"))
     (@a02 _ _ _ _ _ (@a16 _ _ 6 _ _ _ _ sc_law_statement.nd rfl (by walk_at "o") (@a09 _ _ _ _ _ _ _ _ _ _ _ _ _ _ _ _ G__law_body (hr.mono (by omega)) rfl T.f__law_body.m T.f__law_body.F.kp T.f__law_body.b .nil a18 (@a00 _ _ _ _ _ (pv 0) (@a00 _ _ _ _ _ (@a37 _ _ _ _ _ _ _ _ a32 (pv 1) (@a03 _ _ _ _)) (@a00 _ _ _ _ _ (pv 2) (@a00 _ _ _ _ _ (pv 3) (@a01 _) (by rfl)) (by rfl)) (by rfl)) (by rfl)) (by decide) (by rfl) (by rfl)) (by rfl) (by walk_at "o"))
     (@a04 _ _ _ (@a17 _ _ _ _ (@a20 _ _ _ _ _ (@a00 _ _ _ _ _ (@a05 _ _ _ _) (@a00 _ _ _ _ _ (@a20 _ _ _ _ _ (@a00 _ _ _ _ _ (@a05 _ _ _ _) (@a00 _ _ _ _ _ (@a20 _ _ _ _ _ (@a00 _ _ _ _ _ (@a05 _ _ _ _) (@a00 _ _ _ _ _ (@a03 _ _ _ _) (@a01 _) (by rfl)) (by rfl))) (@a00 _ _ _ _ _ (@a20 _ _ _ _ _ (@a00 _ _ _ _ _ (@a05 _ _ _ _) (@a00 _ _ _ _ _ (@a03 _ _ _ _) (@a01 _) (by rfl)) (by rfl))) (@a01 _) (by rfl)) (by rfl)) (by rfl))) (@a00 _ _ _ _ _ (pv 5) (@a00 _ _ _ _ _ (pv 6) (@a01 _) (by rfl)) (by rfl)) (by rfl)) (by rfl))))))) (@a12 _))
    (@a02 _ _ _ _ _ (@a33 _ _ _ _ _ _ _ _ (@PW.pt _ _ _ (@am2 _ _ _ _ _ _ _ (@a08 _ _ _ _ _ _ _ _ a38 (pv 4) (@a03 _ _ _ _) (nomark _)) (@ag2 _ _ _ _ (@a08 _ _ _ _ _ _ _ _ a38 (pv 4) (@a03 _ _ _ _) (nomark _))))) (@a02 _ _ _ _ _ (@ah8 _ _ _ _ _ _ (@a37 _ _ _ _ _ _ _ _ aw5 (@a19 _ _ _ _ _ _ _ (a31 K) (pv 0) (@a03 _ _ _ _) (fun _ _=>rfl)) (@a03 _ _ _ _)) (ak5 (pv 0) (@a03 _ _ _ _) ab8) (by rfl) (by rfl) (by rfl))
     (@a02 _ _ _ _ _ (@a16 _ _ 5 _ _ _ _ sc_law_statement.nd rfl (by walk_at "o") (@a09 _ _ _ _ _ _ _ _ _ _ _ _ _ _ _ _ G__law_body (hr.mono (by omega)) rfl T.f__law_body.m T.f__law_body.F.kp T.f__law_body.b .nil a18 (@a00 _ _ _ _ _ (pv 0) (@a00 _ _ _ _ _ (@a37 _ _ _ _ _ _ _ _ a32 (pv 1) (@a03 _ _ _ _)) (@a00 _ _ _ _ _ (pv 2) (@a00 _ _ _ _ _ (@ba0 _ _ _ _) (@a01 _) (by rfl)) (by rfl)) (by rfl)) (by rfl)) (by decide) (by rfl) (by rfl)) (by rfl) (by walk_at "o"))
     (@a02 _ _ _ _ _ (@a16 _ _ 7 _ _ _ _ sc_law_statement.nd rfl (by walk_at "o") (@a15 _ _ _ _ (@a00 _ _ _ _ _ (pv 5) (@a00 _ _ _ _ _ (@a37 _ _ _ _ _ _ _ _ a32 (pv 5) (@a15 _ _ _ _ (@a00 _ _ _ _ _ (@a20 _ _ _ _ _ (@a00 _ _ _ _ _ (@a05 _ _ _ _) (@a00 _ _ _ _ _ (@a03 _ _ _ _) (@a00 _ _ _ _ _ (@a15 _ _ _ _ (@a01 _)) (@a01 _) (by rfl)) (by rfl)) (by rfl))) (@a01 _) (by rfl)))) (@a00 _ _ _ _ _ (@a37 _ _ _ _ _ _ _ _ a32 (@a15 _ _ _ _ (@a00 _ _ _ _ _ (@a20 _ _ _ _ _ (@a00 _ _ _ _ _ (@a05 _ _ _ _) (@a00 _ _ _ _ _ (@a03 _ _ _ _) (@a00 _ _ _ _ _ (@a15 _ _ _ _ (@a01 _)) (@a01 _) (by rfl)) (by rfl)) (by rfl))) (@a01 _) (by rfl))) (pv 5)) (@a00 _ _ _ _ _ (pv 5) (@a01 _) (by rfl)) (by rfl)) (by rfl)) (by rfl))) (by rfl) (by walk_at "o"))
     (@a04 _ _ _ (@a17 _ _ _ _ (@a20 _ _ _ _ _ (@a00 _ _ _ _ _ (@a05 _ _ _ _) (@a00 _ _ _ _ _ (@a19 _ _ _ _ _ _ _ (a31 K) (pv 7) (@a09 _ _ _ _ _ _ _ _ _ _ _ _ _ _ _ _ G__law_take (hr.mono (by omega)) rfl T.f__law_take.m T.f__law_take.F.kp T.f__law_take.b .nil a18 (@a00 _ _ _ _ _ (pv 0) (@a00 _ _ _ _ _ (@a03 _ _ _ _) (@a01 _) (by rfl)) (by rfl)) (by decide) (by rfl) (by rfl)) (fun _ _=>rfl)) (@a01 _) (by rfl)) (by rfl)))))))) (@a12 _))
    (@a02 _ _ _ _ _ (@a33 _ _ _ _ _ _ _ _ (@a08 _ _ _ _ _ _ _ _ a38 (pv 4) (@a03 _ _ _ _) (nomark _)) (@a04 _ _ _ (@a17 _ _ _ _ (@a09 _ _ _ _ _ _ _ _ _ _ _ _ _ _ _ _ G__law_wait (hr.mono (by omega)) rfl T.f__law_wait.m T.f__law_wait.F.kp T.f__law_wait.b .nil a18 (@a00 _ _ _ _ _ (pv 0) (@a00 _ _ _ _ _ (pv 1) (@a00 _ _ _ _ _ (pv 2) (@a00 _ _ _ _ _ (pv 3) (@a01 _) (by rfl)) (by rfl)) (by rfl)) (by rfl)) (by decide) (by rfl) (by rfl)))) (@a12 _))
    (@a02 _ _ _ _ _ (@a16 _ _ 7 _ _ _ _ sc_law_statement.nd rfl (by walk_at "o") (@a15 _ _ _ _ (@a00 _ _ _ _ _ (@a20 _ _ _ _ _ (@a00 _ _ _ _ _ (@a05 _ _ _ _) (@a00 _ _ _ _ _ (@a05 _ _ _ _) (@a01 _) (by rfl)) (by rfl))) (@a00 _ _ _ _ _ (@a20 _ _ _ _ _ (@a00 _ _ _ _ _ (@a05 _ _ _ _) (@a00 _ _ _ _ _ (@a03 _ _ _ _) (@a00 _ _ _ _ _ (@a05 _ _ _ _) (@a01 _) (by rfl)) (by rfl)) (by rfl))) (@a01 _) (by rfl)) (by rfl))) (by rfl) (by walk_at "o"))
    (@a30 _ _ _ _ _ (@a33 _ _ _ _ _ _ _ _ (@a08 _ _ _ _ _ _ _ _ at5 (@a19 _ _ _ _ _ _ _ (a31 K) (pv 0) (@a03 _ _ _ _) (fun _ _=>rfl)) (@a03 _ _ _ _) (nomark _)) (@a04 _ _ _ (@a29 _ _ _ _ (@a69 _ K _ _ _ _ _ _ _ _ _ _ _ PySem.F.plainAttrs_list PySem.F.slot_list_append PySem.F.type_list_append a57 (pv 7) (@a00 _ _ _ _ _ (@a20 _ _ _ _ _ (@a00 _ _ _ _ _ (@a05 _ _ _ _) (@a00 _ _ _ _ _ (@a05 _ _ _ _) (@a00 _ _ _ _ _ (@a20 _ _ _ _ _ (@a00 _ _ _ _ _ (@a05 _ _ _ _) (@a00 _ _ _ _ _ (@a03 _ _ _ _) (@a01 _) (by rfl)) (by rfl))) (@a01 _) (by rfl)) (by rfl)) (by rfl))) (@a01 _) (by rfl)) (by rfl) (by rfl) (by rfl) (by rfl) (by rfl) (by rfl)) (by rfl))) (@a12 _))
    (@a04 _ _ _ (@a17 _ _ _ _ (@a19 _ _ _ _ _ _ _ (a31 K) (pv 7) (@a09 _ _ _ _ _ _ _ _ _ _ _ _ _ _ _ _ G__law_take (hr.mono (by omega)) rfl T.f__law_take.m T.f__law_take.F.kp T.f__law_take.b .nil a18 (@a00 _ _ _ _ _ (pv 0) (@a00 _ _ _ _ _ (@a56 _ _ _ _ _ _ _ _ _ (a99 K) (by rfl) T.z_len ae8 (@a00 _ _ _ _ _ (pv 7) (@a01 _) (by rfl)) (by decide) (by decide) (by rfl) (by rfl)) (@a01 _) (by rfl)) (by rfl)) (by decide) (by rfl) (by rfl)) (fun _ _=>rfl)))))))))))))))),?_⟩
   have sl:(1000000:Nat)≤sizeLine:=le_line (Nat.le_refl _)
   walk_at "go"
   refine ⟨dk,l,left0,bx,calls,14,rfl,hB.k,by omega,by omega,fun kind0 H1 hkind0 o1 k1=>?_⟩
   walk_at "run"
   obtain ⟨ms,cur,d1,d2,d3⟩:=k1.ex
   have dne:=hB.k.ne
   refine a83 (SqL.of d1) (a06 (j:=2) rfl) ?_
   walk_at "run"
   refine al6 d1 (j:=2) rfl ?_
   walk_at "run"
   obtain ⟨left,hleft⟩:∃ x:Int,x=left0 - 1:=⟨_,rfl⟩
   have k2:Dk5 (upd H1 dk (.lst [.ref l,.int cur,.int (left0 - 1),.int (bx:Nat),.int (calls:Nat)])) dk l left bx calls:=⟨⟨ms,cur,by rw [a14,hleft],by rw [a11 dne.symm]; exact d2,d3⟩,dne⟩
   have o2:OfD dk l H (upd H1 dk (.lst [.ref l,.int cur,.int (left0 - 1),.int (bx:Nat),.int (calls:Nat)])):=o1.u1
   show bm0 _ _ _ _ (upd H1 dk (.lst [.ref l,.int cur,.int (left0 - 1),.int (bx:Nat),.int (calls:Nat)]))
   generalize upd H1 dk (.lst [.ref l,.int cur,.int (left0 - 1),.int (bx:Nat),.int (calls:Nat)])=H2 at k2 o2 ⊢
   refine a64 (fun σ' H'=>H'=H2∧∃ kind:Nat,(kind≤8∨deep≤3)∧kind<14∧σ'=[some (.ref dk),some (.int (deep:Nat)),some (.ref ln),some (.bl lp),some (.int (kind:Nat)),none,none,none]) ?_ ?_
   · walk_at "run"
     by_cases h8:8<kind0
     · rw [if_pos (decide_eq_true (by omega))]
       walk_at "run"
       by_cases h3:3<deep
       · rw [if_pos (decide_eq_true (by omega))]
         walk_at "run"
         refine ⟨rfl,kind0 % 9,.inl (by omega),by omega,?_⟩
         rw [show ((kind0 % 9:Nat):Int)=(kind0:Int) % 9 by omega]
       · rw [if_neg (by simp; omega)]
         walk_at "run"
         exact ⟨rfl,kind0,.inr (by omega),hkind0,rfl⟩
     · rw [if_neg (by simp; omega),if_neg Bool.false_ne_true]
       walk_at "run"
       exact ⟨rfl,kind0,.inl (by omega),hkind0,rfl⟩
   rintro σ' H' ⟨e12,kind,hkd,hk14,rfl⟩
   rw [e12]
   clear e12 H'
   have finP:∀ {H' H2:Hp}{a:Addr}{ps:List Pt},OfD dk l H H'→Dk5 H' dk l left bx calls→H' a=none→Same H' H2→H2 a=some (.tup (ps.map Pt.v))→plO nm lp ps→Q (.ref a) H2:=fun {H' H2 a ps} o k f s e hw=>by
    have f':=(hB.go o k).fr f
    exact q _ (.plain ps) left calls H2 (o.trans (OfD.of s)) (k.same s) (ax8 (by rw [wpG f']; exact e)) (okS_pl.mpr hw) (by simp only [allS,List.length_singleton]; omega) (by omega)
   walk_at "run"
   rename_i N1 hN1
   have r1:∀ H',OfD dk l H H'→Dk5 H' dk l left bx calls→N1 [some (.ref dk),some (.int (deep:Nat)),some (.ref ln),some (.bl lp),some (.int (kind:Nat)),none,none,none] H':=fun H' o k=>by
    refine hN1 _ _ ?_
    clear hN1
    walk_at "run"
    rename_i N2 hN2
    have r2:∀ H',OfD dk l H H'→Dk5 H' dk l left bx calls→N2 [some (.ref dk),some (.int (deep:Nat)),some (.ref ln),some (.bl lp),some (.int (kind:Nat)),none,none,none] H':=fun H' o k=>by
     refine hN2 _ _ ?_
     clear hN2
     walk_at "run"
     rename_i N3 hN3
     have r3:∀ H',OfD dk l H H'→Dk5 H' dk l left bx calls→N3 [some (.ref dk),some (.int (deep:Nat)),some (.ref ln),some (.bl lp),some (.int (kind:Nat)),none,none,none] H':=fun H' o k=>by
      refine hN3 _ _ ?_
      clear hN3
      walk_at "run"
      rename_i N4 hN4
      have r4:∀ H',OfD dk l H H'→Dk5 H' dk l left bx calls→N4 [some (.ref dk),some (.int (deep:Nat)),some (.ref ln),some (.bl lp),some (.int (kind:Nat)),none,none,none] H':=fun H' o k=>by
       refine hN4 _ _ ?_
       clear hN4
       walk_at "run"
       rename_i N5 hN5
       have r5:∀ H',OfD dk l H H'→Dk5 H' dk l left bx calls→N5 [some (.ref dk),some (.int (deep:Nat)),some (.ref ln),some (.bl lp),some (.int (kind:Nat)),none,none,none] H':=fun H' o k=>by
        refine hN5 _ _ ?_
        clear hN5
        walk_at "run"
        rename_i N6 hN6
        have r6:∀ H',OfD dk l H H'→Dk5 H' dk l left bx calls→N6 [some (.ref dk),some (.int (deep:Nat)),some (.ref ln),some (.bl lp),some (.int (kind:Nat)),none,none,none] H':=fun H' o k=>by
         refine hN6 _ _ ?_
         clear hN6
         walk_at "run"
         rename_i N7 hN7
         have r7:∀ H',OfD dk l H H'→Dk5 H' dk l left bx calls→N7 [some (.ref dk),some (.int (deep:Nat)),some (.ref ln),some (.bl lp),some (.int (kind:Nat)),none,none,none] H':=fun H' o k=>by
          refine hN7 _ _ ?_
          clear hN7
          walk_at "run"
          intro t1 J1 g1 m1 j1
          walk_at "run"
          intro t2 J2 g2 m2 j2
          walk_at "run"
          intro t3 J3 g3 m3 j3
          walk_at "run"
          have hBk:=hB.go o k
          have m13:=m1.trans (m2.trans m3)
          have f3:¬ p t3:=(hBk.same (m1.trans m2)).fr g3
          have n3:=(k.same (m1.trans m2)).new g3
          have hH3:H t3=none:=by
           cases e:H t3 with
           | none=>rfl
           | some x=>have:=(o.trans (OfD.of (m1.trans m2))).at n3.1 n3.2 e; rw [g3] at this; cases this
          have q1:¬ (p t1∨t1=t3):=fun z=>z.elim (hBk.fr g1) fun z=>by rw [← z,m2 _ _ j1] at g3; cases g3
          have q2:¬ (p t2∨t2=t3):=fun z=>z.elim ((hBk.same m1).fr g2) fun z=>by rw [← z,j2] at g3; cases g3
          have S1:SAt (woP (fun a=>p a∨a=t3) J3) (.ref t1) (.plain [.s "say",.s "yes"]):=ax8 (by rw [wpG q1]; exact (m2.trans m3) _ _ j1)
          have S2:SAt (woP (fun a=>p a∨a=t3) J3) (.ref t2) (.plain [.s "hand",.i 3,.s "yes"]):=ax8 (by rw [wpG q2]; exact m3 _ _ j2)
          refine a64 (fun σ' H'=>σ'=[some (.ref dk),some (.int (deep:Nat)),some (.ref ln),some (.bl lp),some (.int (kind:Nat)),none,none,some (.ref t3)]∧∃ (us:List V) (ss:List Stm),OfD dk l H H'∧Dk5 H' dk l left bx calls∧H' t3=some (.lst us)∧Each (fun v s=>SAt (woP (fun a=>p a∨a=t3) H') v s∧okS 8 (bnx bx) nm e lp s∧(allS s).length=1) us ss∧0<us.length∧us.length≤3) ?_ ?_
          · walk_at "run"
            have k3:=k.same m13
            obtain ⟨ms,cur,d1,d2,d3⟩:=k3.ex
            refine a83 (SqL.of d1) (a06 (j:=3) rfl) ?_
            walk_at "run"
            by_cases hbx:0<bx
            · refine a35 (show (0:Int)<(bx:Int) by omega) ?_
              walk_at "run"
              refine aa0 (SqL.of j3) ?_
              walk_at "run"
              intro t4 J4 g4 m4 j4
              walk_at "run"
              intro t5 J5 g5 m5 j5
              walk_at "run"
              refine a86 ((m4.trans m5) _ _ j3) (by simp only [List.length_cons,List.length_nil]; omega) ?_
              have m15:=m13.trans (m4.trans m5)
              have q4:¬ (p t4∨t4=t3):=fun z=>z.elim ((hBk.same m13).fr g4) fun z=>by rw [z,j3] at g4; cases g4
              have q5:¬ (p t5∨t5=t3):=fun z=>z.elim ((hBk.same (m13.trans m4)).fr g5) fun z=>by rw [z,m4 _ _ j3] at g5; cases g5
              have S5:SAt (woP (fun a=>p a∨a=t3) J5) (.ref t5) (.put "a" (.num 1)):=c14 (by rw [wpG q5]; exact j5) (b89 (by rw [wpG q4]; exact m5 _ _ j4))
              have up:Same (woP (fun a=>p a∨a=t3) J3) (woP (fun a=>p a∨a=t3) J5):=wpS (m4.trans m5)
              have hput:okS 8 (bnx bx) nm e lp (.put "a" (.num 1)):=okS_put.mpr ⟨by
               unfold bnx
               obtain ⟨b,rfl⟩:∃ b,bx=b+1:=⟨bx - 1,by omega⟩
               simp,⟨by decide,by decide,fun n hn=>by cases hn⟩⟩
              refine ⟨rfl,_,[.plain [.s "say",.s "yes"],.plain [.s "hand",.i 3,.s "yes"],.put "a" (.num 1)],(o.trans (OfD.of m15)).un hH3,(k.same m15).upd n3.1 n3.2,a14,?_,by simp,by simp⟩
              rw [wpU (.inr rfl)]
              exact ((Each.nil.snoc ⟨S1.same up,okS_pl.mpr (.inl ⟨_,rfl⟩),rfl⟩).snoc ⟨S2.same up,okS_pl.mpr (.inr (.inl ⟨_,_,rfl⟩)),rfl⟩).snoc ⟨S5,hput,rfl⟩
            · refine a28 (show ¬ (0:Int)<(bx:Int) by omega) ?_
              walk_at "run"
              exact ⟨rfl,_,[.plain [.s "say",.s "yes"],.plain [.s "hand",.i 3,.s "yes"]],o.trans (OfD.of m13),k3,j3,(Each.nil.snoc ⟨S1,okS_pl.mpr (.inl ⟨_,rfl⟩),rfl⟩).snoc ⟨S2,okS_pl.mpr (.inr (.inl ⟨_,_,rfl⟩)),rfl⟩,by simp,by simp⟩
          rintro σ' H3 ⟨rfl,us,ss,o,k,e3,hE,h0,h3⟩
          walk_at "run"
          refine ae9 (SqL.of e3) ?_
          walk_at "run"
          refine ⟨dk,l,left,bx,calls,us.length,rfl,k,h0,by omega,fun r J6 hr o6 k6=>?_⟩
          obtain ⟨v,hv⟩:∃ v,us[r]?=some v:=⟨_,List.getElem?_eq_getElem hr⟩
          obtain ⟨s,hs⟩:∃ s,ss[r]?=some s:=⟨_,List.getElem?_eq_getElem (by rw [← hE.1]; exact hr)⟩
          obtain ⟨z1,z2,z3⟩:=hE.2 r v s hv hs
          refine a83 (SqL.of (o6.at n3.1 n3.2 e3)) (a06 (j:=r) hv) ?_
          exact q v s left calls J6 (o.trans o6) k6 ((z1.same (wpB fun a h=>.inl h)).same (o6.p hB.pd hB.pl)) z2 (by rw [z3]; omega) (by omega)
         clear hN7
         by_cases h13:kind=13
         · rw [if_pos (decide_eq_true (by omega))]
           walk_at "run"
           exact ⟨dk,l,ln,left,bx,calls,deep,e,lp,nm,p,rfl,hB.go o k,he,hde,by omega,by omega,fun v s left' calls' H2 o2 k2 hs hw hz hl=>q v s left' calls' H2 (o.trans o2) k2 hs hw (by omega) hl⟩
         · rw [if_neg (by simp; omega)]
           walk_at "run"
           exact r7 H' o k
        clear hN6
        refine be7 (R:=kind=11∨kind=12) (fun hR=>?_) (fun hc=>.inl (by have:=of_decide_eq_true hc; omega)) (fun hc hX=>?_)
        · rw [if_pos rfl]
          obtain ⟨e,rfl⟩:∃ e',e=e'+1:=⟨e - 1,by omega⟩
          walk_at "run"
          obtain ⟨ms,cur,d1,d2,d3⟩:=k.ex
          refine a83 (SqL.of d1) (a06 (j:=2) rfl) ?_
          walk_at "run"
          refine al6 d1 (j:=2) rfl ?_
          walk_at "run"
          obtain ⟨left1,hleft1⟩:∃ x:Int,x=left - 1:=⟨_,rfl⟩
          have k3:Dk5 (upd H' dk (.lst [.ref l,.int cur,.int (left - 1),.int (bx:Nat),.int (calls:Nat)])) dk l left1 bx calls:=⟨⟨ms,cur,by rw [a14,hleft1],by rw [a11 dne.symm]; exact d2,d3⟩,dne⟩
          have o3:OfD dk l H (upd H' dk (.lst [.ref l,.int cur,.int (left - 1),.int (bx:Nat),.int (calls:Nat)])):=o.u1
          show aj6 K d _ (upd H' dk (.lst [.ref l,.int cur,.int (left - 1),.int (bx:Nat),.int (calls:Nat)])) _ _
          generalize upd H' dk (.lst [.ref l,.int cur,.int (left - 1),.int (bx:Nat),.int (calls:Nat)])=H3 at k3 o3 ⊢
          have hB3:=hB.go o3 k3
          refine ⟨dk,l,ln,left1,bx,calls,deep+1,e,true,nm,p,rfl,hB3,by omega,by omega,by omega,by omega,fun v b left' calls' H4 o4 k4 hb hw h7 hz hl=>?_⟩
          walk_at "run"
          obtain ⟨bl,us,rfl,eb,hE⟩:=bat_iff.mp hb
          have hB4:=hB3.go o4 k4
          obtain ⟨qb,eb⟩:=wpT eb
          have hul:=hE.1
          intro a1 J1 g1 m1 j1
          walk_at "run"
          intro a2 J2 g2 m2 j2
          walk_at "run"
          intro a3 J3 g3 m3 j3
          walk_at "run"
          have m13:=m1.trans (m2.trans m3)
          refine a44 (m13 _ _ eb) j3 (by simp only [List.length_cons,List.length_nil]; omega) ?_
          intro a4 J4 g4 m4 j4
          walk_at "run"
          intro a5 J5 g5 m5 j5
          walk_at "run"
          intro a6 J6 g6 m6 j6
          walk_at "run"
          intro a7 J7 g7 m7 j7
          walk_at "run"
          have m14:=m13.trans m4
          have m57:=m5.trans (m6.trans m7)
          have m17:=m14.trans m57
          refine a44 j7 (m17 _ _ eb) (by simp only [List.length_cons,List.length_nil]; omega) ?_
          intro a8 J8 g8 m8 j8
          walk_at "run"
          intro a9 J9 g9 m9 j9
          walk_at "run"
          have m89:=m8.trans m9
          have m19:=m17.trans m89
          have n9:=(k4.same (m17.trans m8)).new g9
          refine ⟨dk,l,left',bx,calls',4,rfl,k4.same m19,by omega,by omega,fun r G hr oG kG=>?_⟩
          obtain ⟨e,rfl⟩:∃ e',e=e'+1:=⟨e - 1,by omega⟩
          have w:∀ {Hk:Hp}{a:Addr}{o:HO},Same H4 Hk→Hk a=none→J9 a=some o→woP p J9 a=some o:=fun s f e=>by rw [wpG ((hB4.same s).fr f)]; exact e
          have W0:SAt (woP p J9) (.ref a2) (.wait 0 []):=sat_wait.mpr ⟨a2,a1,[],rfl,w m1 g2 ((m3.trans (m4.trans (m57.trans m89))) _ _ j2),w (Same.refl _) g1 ((m2.trans (m3.trans (m4.trans (m57.trans m89)))) _ _ j1),Each.nil⟩
          have W2:SAt (woP p J9) (.ref a6) (.wait 2 []):=sat_wait.mpr ⟨a6,a5,[],rfl,w (m14.trans m5) g6 ((m7.trans m89) _ _ j6),w m14 g5 ((m6.trans (m7.trans m89)) _ _ j5),Each.nil⟩
          have hE9:Each (SAt (woP p J9)) us b:=hE.mono fun _ _ z=>z.same (wpS m19)
          have X0:BAt (woP p J9) (.ref bl) b:=bat_iff.mpr ⟨bl,us,rfl,by rw [wpG qb]; exact m19 _ _ eb,hE9⟩
          have X1:BAt (woP p J9) (.ref a4) (b++[.wait 0 []]):=bat_iff.mpr ⟨a4,_,rfl,w m13 g4 ((m57.trans m89) _ _ j4),hE9.snoc W0⟩
          have X2:BAt (woP p J9) (.ref a8) ([.wait 2 []]++b):=bat_iff.mpr ⟨a8,_,rfl,w m17 g8 (m9 _ _ j8),(Each.nil.snoc W2).append hE9⟩
          have ow:∀ n:Int,okS 8 (bnx bx) nm (e+1) true (.wait n []):=fun n=>⟨by simp,by simp [ptsB],by simp [ptsB],fun b hb=>by cases hb⟩
          have hY:∃ (z:Addr) (y:List Stm),[V.ref bl,V.ref a4,V.ref a8,V.ref bl][r]?=some (.ref z)∧BAt (woP p J9) (.ref z) y∧okB 8 (bnx bx) nm (e+1) true y∧(allB y).length≤(allB b).length+1:=by
           have hr4:r=0∨r=1∨r=2∨r=3:=by omega
           rcases hr4 with rfl | rfl | rfl | rfl
           · exact ⟨bl,b,rfl,X0,hw,by omega⟩
           · refine ⟨a4,_,rfl,X1,⟨by rw [List.length_append,List.length_singleton]; omega,fun s hs=>?_⟩,by rw [ac3,List.length_append]; simp [allB,allS,allR]⟩
             rcases List.mem_append.mp hs with hs | hs
             · exact hw.2 s hs
             · rw [List.mem_singleton.mp hs]; exact ow 0
           · refine ⟨a8,_,rfl,X2,⟨by rw [List.length_append,List.length_singleton]; omega,fun s hs=>?_⟩,by rw [ac3,List.length_append]; simp [allB,allS,allR]; omega⟩
             rcases List.mem_append.mp hs with hs | hs
             · rw [List.mem_singleton.mp hs]; exact ow 2
             · exact hw.2 s hs
           · exact ⟨bl,b,rfl,X0,hw,by omega⟩
          obtain ⟨z,y,hzy,hy,hyo,hyl⟩:=hY
          refine a83 (SqL.of (oG.at n9.1 n9.2 j9)) (a06 (j:=r) hzy) ?_
          walk_at "run"
          intro aL J10 g10 m10 j10
          have hBG:=(hB4.same m19).go oG kG
          exact q _ (.loop y) left' calls' J10 (((o3.trans o4).trans (OfD.of m19)).trans (oG.trans (OfD.of m10))) (kG.same m10) (bo2 (fun z=>hBG.fr g10 (by exact z)) j10 ((hy.same (oG.p hB.pd hB.pl)).same (wpS m10))) ⟨hyo.1,hyo.2⟩ (by rw [allS,List.length_cons]; omega) hl
        · walk_at "run"
          by_cases h:kind=12
          · rw [if_pos (decide_eq_true (by omega))]
            exact hX (.inr h)
          · rw [if_neg (by simp; omega)]
            walk_at "run"
            exact r6 H' o k
       clear hN5
       refine be7 (R:=kind=9∨kind=10) (fun hR=>?_) (fun hc=>.inl (by have:=of_decide_eq_true hc; omega)) (fun hc hX=>?_)
       · rw [if_pos rfl]
         obtain ⟨e,rfl⟩:∃ e',e=e'+1:=⟨e - 1,by omega⟩
         have hBk:=hB.go o k
         walk_at "run"
         refine ⟨dk,l,ln,left,bx,calls,deep+1,e,lp,nm,p,rfl,hBk,by omega,by omega,by omega,by omega,fun v1 b1 left1 calls1 H3 o3 k3 hb1 hw1 h71 hz1 hl1=>?_⟩
         walk_at "run"
         have hB3:=hBk.go o3 k3
         refine ⟨dk,l,ln,left1,bx,calls1,deep+1,e,lp,nm,p,rfl,hB3,by omega,by omega,by omega,by omega,fun v2 b2 left2 calls2 H4 o4 k4 hb2 hw2 h72 hz2 hl2=>?_⟩
         walk_at "run"
         have hB4:=hB3.go o4 k4
         have hb1:=hb1.same (o4.p hB.pd hB.pl)
         intro t1 J1 g1 m1 j1
         walk_at "run"
         intro t2 J2 g2 m2 j2
         walk_at "run"
         intro t3 J3 g3 m3 j3
         walk_at "run"
         intro t4 J4 g4 m4 j4
         have m13:=m1.trans (m2.trans m3)
         have s14:=m13.trans m4
         have w:∀ {Hk:Hp}{a:Addr}{o:HO},Same H4 Hk→Hk a=none→J4 a=some o→woP p J4 a=some o:=fun s f e=>by rw [wpG ((hB4.same s).fr f)]; exact e
         have hc':(Cd.cmp false (.num 1) (.num 0)).tr.At (woP p J4) (.ref t3) []:=bo5 (w (Same.refl _) g1 ((m2.trans (m3.trans m4)) _ _ j1)) (w m1 g2 ((m3.trans m4) _ _ j2)) (w (m1.trans m2) g3 (m4 _ _ j3))
         exact q _ (.test (.cmp false (.num 1) (.num 0)) b1 b2) left2 calls2 J4 (((o.trans o3).trans o4).trans (OfD.of s14)) (k4.same s14) (bo3 (w m13 g4 j4) hc' (hb1.same (wpS s14)) (hb2.same (wpS s14))) ⟨⟨by decide,by decide,fun n hn=>by cases hn⟩,hw1,hw2⟩ (by rw [allS,List.length_cons,List.length_append]; omega) (by omega)
       · walk_at "run"
         by_cases h:kind=10
         · rw [if_pos (decide_eq_true (by omega))]
           exact hX (.inr h)
         · rw [if_neg (by simp; omega)]
           walk_at "run"
           exact r5 H' o k
      clear hN4
      by_cases h5:kind=5
      · rw [if_pos (decide_eq_true (by omega))]
        walk_at "run"
        refine ⟨dk,l,left,bx,calls,3,rfl,k,by omega,by omega,fun r J6 hr o6 k6=>?_⟩
        walk_at "run"
        by_cases h1:r=0
        · refine a35 (show (r:Int)=0 by omega) ?_
          walk_at "run"
          intro a J7 g7 m7 j7
          exact finP (ps:=[.s "stop"]) (o.trans o6) k6 g7 m7 j7 (.inr (.inr (.inr (.inr (.inr rfl)))))
        · refine a28 (show ¬ (r:Int)=0 by omega) ?_
          walk_at "run"
          exact r4 J6 (o.trans o6) k6
      · rw [if_neg (by simp; omega),if_neg Bool.false_ne_true]
        walk_at "run"
        exact r4 H' o k
     clear hN3
     by_cases h3:kind=4
     · rw [if_pos (decide_eq_true (by omega))]
       walk_at "run"
       cases lp with
       | true =>
         walk_at "run"
         intro a J7 g7 m7 j7
         exact finP (ps:=[.s "leave"]) o k g7 m7 j7 (.inr (.inr (.inr (.inl ⟨rfl,.inr rfl⟩))))
       | false =>
         walk_at "run"
         exact r3 H' o k
     · rw [if_neg (by simp; omega),if_neg Bool.false_ne_true]
       walk_at "run"
       exact r3 H' o k
    clear hN2
    by_cases h2:kind=2
    · rw [if_pos (decide_eq_true (by omega)),if_pos rfl]
      walk_at "run"
      intro t1 J1 g1 m1 j1
      walk_at "run"
      intro t2 J2 g2 m2 j2
      walk_at "run"
      intro t3 J3 g3 m3 j3
      walk_at "run"
      refine a83 (SqL.of j3) (v:=.ref t1) (by rw [h2]; rfl) ?_
      exact finP (ps:=[.s "back"]) o k g1 (m1.trans (m2.trans m3)) ((m2.trans m3) _ _ j1) (.inr (.inr (.inr (.inr (.inl rfl)))))
    · rw [if_neg (by simp; omega)]
      walk_at "run"
      by_cases h3:kind=3
      · rw [if_pos (decide_eq_true (by omega))]
        walk_at "run"
        cases lp with
        | true =>
          walk_at "run"
          intro t1 J1 g1 m1 j1
          walk_at "run"
          intro t2 J2 g2 m2 j2
          walk_at "run"
          intro t3 J3 g3 m3 j3
          walk_at "run"
          refine a83 (SqL.of j3) (v:=.ref t2) (by rw [h3]; rfl) ?_
          exact finP (ps:=[.s "again"]) (o.trans (OfD.of m1)) (k.same m1) g2 (m2.trans m3) (m3 _ _ j2) (.inr (.inr (.inr (.inl ⟨rfl,.inl rfl⟩))))
        | false =>
          walk_at "run"
          exact r2 H' o k
      · rw [if_neg (by simp; omega),if_neg Bool.false_ne_true]
        walk_at "run"
        exact r2 H' o k
   clear hN1
   by_cases h1:kind=1
   · rw [if_pos (decide_eq_true (by omega))]
     walk_at "run"
     intro t1 J1 g1 m1 j1
     have hB2:=hB.go o2 k2
     have n1:=hB2.same m1
     refine b66 (SqL.of (wpT n1.n).2) (SqL.of j1) ?_
     rcases nm with _ | ⟨n0,nm0⟩
     · refine ⟨false,rfl,?_⟩
       rw [if_neg Bool.false_ne_true,if_neg Bool.false_ne_true]
       walk_at "run"
       exact r1 _ (o2.trans (OfD.of m1)) (k2.same m1)
     · refine ⟨true,rfl,?_⟩
       rw [if_pos rfl]
       walk_at "run"
       have km:=k2.same m1
       obtain ⟨ms,cur,d1,d2,d3⟩:=km.ex
       refine a83 (SqL.of d1) (a06 (j:=4) rfl) ?_
       walk_at "run"
       by_cases hc0:0<calls
       · refine a35 (show (0:Int)<(calls:Int) by omega) ?_
         walk_at "run"
         refine a83 (SqL.of d1) (a06 (j:=4) rfl) ?_
         walk_at "run"
         refine al6 d1 (j:=4) rfl ?_
         obtain ⟨c,rfl⟩:∃ c,calls=c+1:=⟨calls - 1,by omega⟩
         walk_at "run"
         have e1:(((c+1:Nat):Int) - 1)=(c:Int):=by omega
         have k2':Dk5 (upd J1 dk (.lst [.ref l,.int cur,.int left,.int (bx:Nat),.int (((c+1:Nat):Int) - 1)])) dk l left bx c:=⟨⟨ms,cur,by rw [a14,e1],by rw [a11 dne.symm]; exact d2,d3⟩,dne⟩
         have o2':OfD dk l J1 (upd J1 dk (.lst [.ref l,.int cur,.int left,.int (bx:Nat),.int (((c+1:Nat):Int) - 1)])):=(OfD.of (Same.refl _)).u1
         have hB2':=n1.go o2' k2'
         refine ae9 (SqL.of (wpT hB2'.n).2) ?_
         walk_at "run"
         refine ⟨dk,l,left,bx,c,(a25 (n0::nm0)).length,rfl,k2',by simp [a25],by have:=hB.hn; simp [a25] at this ⊢; omega,fun r J3 hr o3 k3=>?_⟩
         have hB3:=hB2'.go o3 k3
         have hr':r<(n0::nm0).length:=by simpa [a25] using hr
         refine a83 (SqL.of (wpT hB3.n).2) (a06 (j:=r) (v:=.str (n0::nm0)[r]) (by unfold a25; rw [List.getElem?_map,List.getElem?_eq_getElem hr']; rfl)) ?_
         walk_at "run"
         intro a J4 g4 m4 j4
         exact q _ (.plain [.s "call",.s (n0::nm0)[r]]) left c J4 (((o2.trans (OfD.of m1)).trans o2').trans (o3.trans (OfD.of m4))) (k3.same m4) (ax8 (by rw [wpG (hB3.fr g4)]; exact j4)) (okS_pl.mpr (.inr (.inr (.inl ⟨_,List.getElem_mem hr',rfl⟩)))) (by simp only [allS,List.length_singleton]; omega) (by omega)
       · refine a28 (show ¬ (0:Int)<(calls:Int) by omega) ?_
         walk_at "run"
         exact r1 _ (o2.trans (OfD.of m1)) (k2.same m1)
   · rw [if_neg (by simp; omega),if_neg Bool.false_ne_true]
     walk_at "run"
     exact r1 _ o2 k2
theorem av9 (T:Txt K mg t) {d:Nat}(G__law_statement:FnOk P w K mg base CX0 (3*d+4) t.a__law_statement t.fd__law_statement ["deck","deep","later","looped"] (bi2 K (d+1))):FnOk P w K mg base CX0 (3*d+5) t.a__law_body t.fd__law_body ["deck","deep","later","looped"] (aj6 K (d+1)):=by
 have G__law_take:=aa4 (P:=P) (w:=w) (base:=base) T
 refine T.f__law_body.F.ok sc_law_body (fun vs H Q E h=>?_) (fun cdv A outer s H vs Q E hr h=>?_)
 · obtain ⟨dk,l,ln,left,bx,calls,deep,e,lp,nm,p,rfl,_⟩:=h
   rfl
 · obtain ⟨dk,l,ln,left,bx,calls,deep,e,lp,nm,p,rfl,hB,he,hde,he1,hl0,q⟩:=h
   refine ⟨_,(@a02 _ _ _ _ _ (@a16 _ _ 4 _ _ _ _ sc_law_body.nd rfl (by walk_at "o") (@a15 _ _ _ _ (@a01 _)) (by rfl) (by walk_at "o"))
    (@a02 _ _ _ _ _ (@a62 _ _ _ _ _ _ _ _ PassesOwn.never rfl (ad8 rfl T.z_range (@a00 _ _ _ _ _ (@a09 _ _ _ _ _ _ _ _ _ _ _ _ _ _ _ _ G__law_take (hr.mono (by omega)) rfl T.f__law_take.m T.f__law_take.F.kp T.f__law_take.b .nil a18 (@a00 _ _ _ _ _ (pv 0) (@a00 _ _ _ _ _ (@a03 _ _ _ _) (@a01 _) (by rfl)) (by rfl)) (by decide) (by rfl) (by rfl)) (@a01 _) (by rfl))) (a13 (i:=5) sc_law_body.nd rfl (by walk_at "o")) (@a04 _ _ _ (@a33 _ _ _ _ _ _ _ _ (@a08 _ _ _ _ _ _ _ _ at5 (@a19 _ _ _ _ _ _ _ (a31 K) (pv 0) (@a03 _ _ _ _) (fun _ _=>rfl)) (@a03 _ _ _ _) (nomark _)) (@a04 _ _ _ (@a29 _ _ _ _ (@a69 _ K _ _ _ _ _ _ _ _ _ _ _ PySem.F.plainAttrs_list PySem.F.slot_list_append PySem.F.type_list_append a57 (pv 4) (@a00 _ _ _ _ _ (@a09 _ _ _ _ _ _ _ _ _ _ _ _ _ _ _ _ G__law_statement (hr.mono (by omega)) rfl T.f__law_statement.m T.f__law_statement.F.kp T.f__law_statement.b .nil a18 (@a00 _ _ _ _ _ (pv 0) (@a00 _ _ _ _ _ (pv 1) (@a00 _ _ _ _ _ (pv 2) (@a00 _ _ _ _ _ (pv 3) (@a01 _) (by rfl)) (by rfl)) (by rfl)) (by rfl)) (by decide) (by rfl) (by rfl)) (@a01 _) (by rfl)) (by rfl) (by rfl) (by rfl) (by rfl) (by rfl) (by rfl)) (by rfl))) (@a12 _))) (by intro _; rfl))
    (@a04 _ _ _ (@a17 _ _ _ _ (pv 4))))),?_⟩
   have sl:(1000000:Nat)≤sizeLine:=le_line (Nat.le_refl _)
   walk_at "go"
   intro bd H1 f1 s1 e1
   walk_at "run"
   have nb:=hB.k.new f1
   refine ⟨dk,l,left,bx,calls,8,rfl,hB.k.same s1,by omega,by omega,fun r H2 hr o2 k2=>?_⟩
   walk_at "run"
   have hB2:=(hB.same s1).go o2 k2
   have hnb:¬ p bd:=hB.fr f1
   have hln:ln≠bd:=fun z=>by
    have:=(wpT hB.n).2
    rw [z,f1] at this
    cases this
   refine ad9 (lo:=0) (n:=r) (fun i σ' H'=>i≤r∧∃ (left':Int) (calls':Nat) (b:List Stm) (us:List V) (y:Option V),σ'=[some (.ref dk),some (.int (deep:Nat)),some (.ref ln),some (.bl lp),some (.ref bd),y]∧OfD dk l H H'∧Dk5 H' dk l left' bx calls'∧H' bd=some (.lst us)∧Each (SAt (woP (fun a=>p a∨a=bd) H')) us b∧b.length≤i∧(∀ s∈b,okS 8 (bnx bx) nm e lp s)∧((allB b).length:Int)+left'≤left∧-1≤left') ⟨Nat.zero_le _,left,calls,[],[],_,rfl,(OfD.of s1).trans o2,k2,o2.at nb.1 nb.2 e1,Each.nil,Nat.le_refl _,fun s h=>(by cases h),(by simp [allB]),hl0⟩ ?_ ?_
   · rintro i σ' H3 hi ⟨_,left',calls',b,us,y,rfl,o3,k3,e3,hE,hbl,hwf,hsz,hlo⟩
     walk_at "run"
     obtain ⟨ms,cur,d1,d2,d3⟩:=k3.ex
     refine a83 (SqL.of d1) (a06 (j:=2) rfl) ?_
     walk_at "run"
     by_cases h0:0<left'
     · refine a35 h0 ?_
       walk_at "run"
       refine aa0 (SqL.of e3) ?_
       walk_at "run"
       have hB3:BPre H3 dk l ln left' bx calls' nm (fun a=>p a∨a=bd):=⟨k3,by
        have hg:=(hB.go o3 k3).n
        obtain ⟨g1,g2⟩:=wpT hg
        rw [wpG (fun z=>z.elim g1 hln)]
        exact g2,hB.hn,.inl hB.pd,.inl hB.pl,fun a ha=>by
        rcases ha with ha | rfl
        · exact (hB.go o3 k3).ex a ha
        · rw [e3]; exact fun z=>by cases z⟩
       refine ⟨dk,l,ln,left',bx,calls',deep,e,lp,nm,fun a=>p a∨a=bd,rfl,hB3,by omega,by omega,by omega,by omega,fun v s left2 calls2 H4 o4 k4 hs hw hz hlo2=>?_⟩
       have e4:=o4.at nb.1 nb.2 e3
       have hul:us.length≤7:=by rw [hE.1]; omega
       walk_at "run"
       refine a86 e4 (by omega) ?_
       refine ⟨by omega,left2,calls2,b++[s],us++[v],_,rfl,(o3.trans o4).un f1,k4.upd nb.1 nb.2,a14,?_,by simp; omega,?_,?_,hlo2⟩
       · rw [wpU (.inr rfl)]
         exact (hE.mono fun _ _ z=>z.same (o4.p (.inl hB.pd) (.inl hB.pl))).snoc hs
       · intro x hx
         rcases List.mem_append.mp hx with hx | hx
         · exact hwf x hx
         · rw [List.mem_singleton.mp hx]; exact hw
       · rw [ac3,List.length_append]
         simp only [allB,List.append_nil]
         omega
     · refine a28 h0 ?_
       walk_at "run"
       exact ⟨by omega,left',calls',b,us,_,rfl,o3,k3,e3,hE,by omega,hwf,hsz,hlo⟩
   · rintro σ' H3 ⟨_,left',calls',b,us,y,rfl,o3,k3,e3,hE,hbl,hwf,hsz,hlo⟩
     walk_at "run"
     exact q (.ref bd) b left' calls' H3 o3 k3 (bat_iff.mpr ⟨bd,us,rfl,by rw [wpG hnb]; exact e3,hE.mono fun _ _ z=>z.same (wpB fun a h=>.inl h)⟩) ⟨by omega,hwf⟩ (by omega) hsz hlo
theorem ad7 (T:Txt K mg t):∀ d,FnOk P w K mg base CX0 (3*d+2) t.a__law_body t.fd__law_body [Str.ofString "deck",Str.ofString "deep",Str.ofString "later",Str.ofString "looped"] (aj6 K d)
 | 0=>vac fun vs H Q E ⟨_,_,_,_,_,_,_,_,_,_,_,_,_,h,_⟩=>Nat.not_lt_zero _ h
 | d+1=>av9 T (ah0 T (av8 T (ad7 T d)) (ad7 T d))
structure TksV (bx:Nat) (ts:Tks) (ns:List Str):Prop where
 t:∀ i n,ns[i]?=some n→∃ b,a51 ts n=some b∧okB 8 (bnx bx) (ns.drop (i+1)) 5 false b
 l:ns.length≤4
 n:ns.Nodup
 b:∀ x∈ts,∃ i,ns[i]?=some x.1∧okB 8 (bnx bx) (ns.drop (i+1)) 5 false x.2∧(allB x.2).length≤51
 tl:ts.length≤4
 u:(ts.map (·.1)).Nodup
 m:∀ c∈ns,c∈ts.map (·.1)
 ne:ts≠[]
theorem TksV.call {bx:Nat}{ts:Tks}{ns:List Str}(h:TksV bx ts ns) {j:Nat}{c:Str}(hc:c∈ns.drop j):∃ i b,j≤i∧i<ns.length∧a51 ts c=some b∧okB 8 (bnx bx) (ns.drop (i+1)) 5 false b:=by
 obtain ⟨k,hk⟩:=List.mem_iff_getElem?.mp hc
 rw [List.getElem?_drop] at hk
 obtain ⟨b,h1,h2⟩:=h.t _ _ hk
 exact ⟨j+k,b,Nat.le_add_right _ _,(List.getElem?_eq_some_iff.mp hk).1,h1,h2⟩
theorem at0 {f:Stm→Option (List Wd)}{b:List Stm}(hl:b.length≤8) (h:∀ s∈b,∃ r,f s=some r):∃ R,eBf f b=some R:=by
 obtain ⟨R,hR⟩:=bz4 (e:=[.on]) h
 unfold eBf
 rw [if_pos (by omega),hR]
 exact ⟨_,rfl⟩
theorem c77 {bx:Nat}{ts:Tks}{ns:List Str}(h:TksV bx ts ns):∀ (n d j k:Nat) (lp:Bool) (s:Stm),6*d+k<n→ns.length≤j+d→k≤5→okS 8 (bnx bx) (ns.drop j) k lp s→∃ r,eS ts n s=some r:=by
 intro n
 induction n with
 | zero=>intro d j k lp s hn; omega
 | succ n ih =>
   intro d j k lp s hn hj hk hw
   cases s with
   | plain ps =>
     rcases okS_pl.mp hw with ⟨w,rfl⟩ | ⟨l,w,rfl⟩ | ⟨c,hc,rfl⟩ | ⟨_,rfl | rfl⟩ | rfl | rfl
     · exact ⟨[.on],rfl⟩
     · exact ⟨[.on],rfl⟩
     · obtain ⟨i,b,h1,h2,h3,h4⟩:=h.call hc
       obtain ⟨R,hR⟩:=at0 (f:=eS ts n) h4.1 fun s hs=>ih (d - 1) (i+1) 5 false s (by omega) (by omega) (by omega) (h4.2 s hs)
       exact ⟨ag1 R,by rw [b80,h3]; simp [hR]⟩
     · obtain ⟨v,hv⟩:=ar7 .again; exact ⟨[v],by rw [show eS ts _ (.plain [.s "again"])=_ from ar6 Wd.again,hv]; rfl⟩
     · obtain ⟨v,hv⟩:=ar7 .leave; exact ⟨[v],by rw [show eS ts _ (.plain [.s "leave"])=_ from ar6 Wd.leave,hv]; rfl⟩
     · obtain ⟨v,hv⟩:=ar7 .back; exact ⟨[v],by rw [show eS ts _ (.plain [.s "back"])=_ from ar6 Wd.back,hv]; rfl⟩
     · obtain ⟨v,hv⟩:=ar7 .stop; exact ⟨[v],by rw [show eS ts _ (.plain [.s "stop"])=_ from ar6 Wd.stop,hv]; rfl⟩
   | put n e=>exact ⟨_,rfl⟩
   | wait n bs=>exact ⟨_,rfl⟩
   | loop x =>
     cases k with
     | zero=>exact hw.elim
     | succ k =>
       obtain ⟨R,hR⟩:=at0 (f:=eS ts n) hw.1 fun s hs=>ih d j k true s (by omega) hj (by omega) (hw.2 s hs)
       exact ⟨aj9 R,by rw [b78,hR]; rfl⟩
   | test c x y =>
     cases k with
     | zero=>exact hw.elim
     | succ k =>
       obtain ⟨R,hR⟩:=at0 (f:=eS ts n) hw.2.1.1 fun s hs=>ih d j k lp s (by omega) hj (by omega) (hw.2.1.2 s hs)
       obtain ⟨R2,hR2⟩:=at0 (f:=eS ts n) hw.2.2.1 fun s hs=>ih d j k lp s (by omega) hj (by omega) (hw.2.2.2 s hs)
       exact ⟨R++R2,by rw [b79,hR,hR2]; rfl⟩
theorem TksV.ex {bx:Nat}{ts:Tks}{ns:List Str}(h:TksV bx ts ns) {j k:Nat}(hk:k≤5) {lp:Bool}{b:List Stm}(hb:okB 8 (bnx bx) (ns.drop (j+1)) k lp b):∃ E,eBf (eS ts 30) b=some E:=by
 have:=h.l
 exact at0 hb.1 fun s hs=>c77 h 30 3 (j+1) k lp s (by omega) (by omega) hk (hb.2 s hs)
theorem TksV.dry {bx:Nat}{ts:Tks}{ns:List Str}(h:TksV bx ts ns):bn7 ts:=fun t ht x hx=>by
 obtain ⟨i,h1,h2,_⟩:=h.b t ht
 obtain ⟨s,hs,hx'⟩:=ao3 hx
 obtain ⟨j,lp',hj,hz⟩:=bh8 5 false s (h2.2 s hs) _ hx'
 cases j with
 | zero=>exact hz.elim
 | succ j=>exact h.ex (j:=i) (k:=j) (by omega) (lp:=true) hz
theorem bo6 {tn:List Str}{c:Str}{b:List Stm}(hk:KdB tn b) (hc:ad6 c b):c∈tn:=by
 have:=hk _ hc
 rcases this with ⟨w,e⟩ | ⟨l,w,e⟩ | ⟨w,e,hw⟩ | e | e | e | e
 · exact absurd (congrArg (fun l=>l.head?) e) (by simp; decide +kernel)
 · simp at e
 · simp at e
   subst e
   exact hw
 all_goals simp at e
theorem TksV.tko {bx:Nat}{ts:Tks}{ns:List Str}(h:TksV bx ts ns):TkO 8 ts (bnx bx) (fun c=>ns.idxOf c) where
 l:=Nat.le_trans h.tl (by decide)
 m:=by decide
 u:=h.u
 o:=fun x hx=>by
  obtain ⟨i,h1,h2,_⟩:=h.b x hx
  exact ah7 (fun c hc=>h.m c (List.mem_of_mem_drop hc)) (by decide) (fun z=>z) h2
 z:=fun x hx=>by
  obtain ⟨i,h1,h2,h3⟩:=h.b x hx
  exact Nat.le_trans h3 (by decide)
 c:=fun x hx c hc=>by
  obtain ⟨i,h1,h2,_⟩:=h.b x hx
  have hcd:=bo6 (bh9 (by decide) h2) hc
  obtain ⟨k,hk⟩:=List.mem_iff_getElem?.mp hcd
  rw [List.getElem?_drop] at hk
  obtain ⟨l1,e1⟩:=List.getElem?_eq_some_iff.mp h1
  obtain ⟨l2,e2⟩:=List.getElem?_eq_some_iff.mp hk
  rw [← e1,←e2,h.n.idxOf_getElem,h.n.idxOf_getElem]
  omega
structure TksB (bx:Nat) (ts:Tks) (nm:List Str) (i:Nat):Prop where
 n:ts.map (·.1)=nm.take i
 b:∀ (k:Nat) (x:Str×List Stm),ts[k]?=some x→okB 8 (bnx bx) (nm.drop (k+1)) 5 false x.2∧(allB x.2).length≤51
theorem b91 {ts:Tks}(hu:(ts.map (·.1)).Nodup) {n:Str}{b:List Stm}(h:(n,b)∈ts):a51 ts n=some b:=by
 unfold a51
 induction ts with
 | nil=>cases h
 | cons x ts ih =>
   rw [List.map_cons,List.nodup_cons] at hu
   rcases List.mem_cons.mp h with e | e
   · rw [List.find?_cons_of_pos (by simp [← e])]
     rw [← e]; rfl
   · rw [List.find?_cons_of_neg (by
      have:x.1≠n:=fun z=>hu.1 (List.mem_map.mpr ⟨_,e,z.symm⟩)
      simpa using this)]
     exact ih hu.2 e
theorem TksB.gd {bx:Nat}{ts ts':Tks}{nm:List Str}(h:TksB bx ts nm nm.length) (hu:nm.Nodup) (hl:nm.length≤4) (h0:nm≠[]) (hp:ts.Perm ts'):TksV bx ts' nm:=by
 have hn:=h.n
 rw [List.take_length] at hn
 have hl2:ts.length=nm.length:=by rw [← hn,List.length_map]
 have hu2:(ts'.map (·.1)).Nodup:=(hp.map (·.1)).nodup_iff.mp (by rw [hn]; exact hu)
 refine ⟨fun i n hn2=>?_,hl,hu,fun x hx=>?_,by rw [← hp.length_eq,hl2]; exact hl,hu2,fun c hc=>?_,fun z=>?_⟩
 · rw [← hn,List.getElem?_map] at hn2
   obtain ⟨x,hx,rfl⟩:=Option.map_eq_some_iff.mp hn2
   obtain ⟨b1,_⟩:=h.b i x hx
   exact ⟨x.2,b91 hu2 (hp.mem_iff.mp (List.mem_of_getElem? hx)),b1⟩
 · obtain ⟨k,hk⟩:=List.mem_iff_getElem?.mp (hp.mem_iff.mpr hx)
   obtain ⟨b1,b2⟩:=h.b k x hk
   exact ⟨k,by rw [← hn,List.getElem?_map,hk]; rfl,b1,b2⟩
 · rw [← hn] at hc
   exact (hp.map (·.1)).mem_iff.mp hc
 · rw [z] at hp
   have:=hp.length_eq
   rw [hl2] at this
   exact h0 (List.eq_nil_of_length_eq_zero this)
theorem b92 {us:List V}{k m:Nat}:cutV us (some (k:Int)) (some (m:Int))=(us.take m).drop k:=by
 unfold cutV
 have h1:HT.sIx us.length us.length (some (m:Int))=min m us.length:=by
  unfold HT.sIx
  simp only
  split <;> omega
 rw [h1,HT.sIx_nat,List.drop_take]
 by_cases h:k≤us.length
 · rw [Nat.min_eq_left (show k≤us.length from h)]
   rcases Nat.le_total m us.length with h2 | h2
   · rw [Nat.min_eq_left h2]
   · rw [Nat.min_eq_right h2,List.take_of_length_le (by rw [List.length_drop]; omega),List.take_of_length_le (by rw [List.length_drop]; omega)]
 · rw [Nat.min_eq_right (show us.length≤k by omega),List.drop_of_length_le (Nat.le_refl _),List.drop_of_length_le (show us.length≤k by omega)]
   simp
def c17 (K:PySem.W.Frag):Sp:=fun vs H Q _=>∃ (dk l:Addr),vs=[.ref dk]∧Dk5 H dk l 50 0 6∧∀ (sp bl tl:Addr) (bx:Nat) (bvs us:List V) (ts:Tks) (ns:List Str) (H':Hp),H' sp=some (.tup [.ref bl,.ref tl])→H' bl=some (.lst bvs)→Each (Nmd H') bvs (bnx bx)→H' tl=some (.lst us)→Each (TkN H') us ts→TksV bx ts ns→Q (.ref sp) H'
theorem ao7 (T:Txt K mg t):FnOk P w K mg base CX0 25 t.a__law_script t.fd__law_script ["deck"] (c17 K):=by
 have G__law_body:=ad7 (P:=P) (w:=w) (base:=base) T
 have G__law_take:=aa4 (P:=P) (w:=w) (base:=base) T
 refine T.f__law_script.F.ok sc_law_script (fun vs H Q E h=>?_) (fun cdv A outer s H vs Q E hr h=>?_)
 · obtain ⟨dk,l,rfl,_⟩:=h
   rfl
 · obtain ⟨dk,l,rfl,hk,q⟩:=h
   replace G__law_body:=G__law_body 6
   refine ⟨_,(@a02 _ _ _ _ _ (@a16 _ _ 1 _ _ _ _ sc_law_script.nd rfl (by walk_at "o") (@a15 _ _ _ _ (@a00 _ _ _ _ _ (@a05 _ _ _ _) (@a00 _ _ _ _ _ (@a05 _ _ _ _) (@a00 _ _ _ _ _ (@a05 _ _ _ _) (@a00 _ _ _ _ _ (@a05 _ _ _ _) (@a01 _) (by rfl)) (by rfl)) (by rfl)) (by rfl))) (by rfl) (by walk_at "o"))
    (@a02 _ _ _ _ _ (@a16 _ _ 2 _ _ _ _ sc_law_script.nd rfl (by walk_at "o") (@a92 _ _ _ _ _ _ _ _ _ _ (a98 K) (@a15 _ _ _ _ (@a00 _ _ _ _ _ (@a20 _ _ _ _ _ (@a00 _ _ _ _ _ (@a05 _ _ _ _) (@a00 _ _ _ _ _ (@a03 _ _ _ _) (@a01 _) (by rfl)) (by rfl))) (@a00 _ _ _ _ _ (@a20 _ _ _ _ _ (@a00 _ _ _ _ _ (@a05 _ _ _ _) (@a00 _ _ _ _ _ (@a03 _ _ _ _) (@a01 _) (by rfl)) (by rfl))) (@a01 _) (by rfl)) (by rfl))) (@ai1 _) (@a91 _ _ _ (@a09 _ _ _ _ _ _ _ _ _ _ _ _ _ _ _ _ G__law_take (hr.mono (by omega)) rfl T.f__law_take.m T.f__law_take.F.kp T.f__law_take.b .nil a18 (@a00 _ _ _ _ _ (pv 0) (@a00 _ _ _ _ _ (@a03 _ _ _ _) (@a01 _) (by rfl)) (by rfl)) (by decide) (by rfl) (by rfl)))) (by rfl) (by walk_at "o"))
    (@a02 _ _ _ _ _ (@ah8 _ _ _ _ _ _ (@a56 _ _ _ _ _ _ _ _ _ (a99 K) (by rfl) T.z_len ae8 (@a00 _ _ _ _ _ (pv 2) (@a01 _) (by rfl)) (by decide) (by decide) (by rfl) (by rfl)) (ak5 (pv 0) (@a03 _ _ _ _) ab8) (by rfl) (by rfl) (by rfl))
    (@a02 _ _ _ _ _ (@a16 _ _ 3 _ _ _ _ sc_law_script.nd rfl (by walk_at "o") (@a15 _ _ _ _ (@a01 _)) (by rfl) (by walk_at "o"))
    (@a02 _ _ _ _ _ (@a16 _ _ 4 _ _ _ _ sc_law_script.nd rfl (by walk_at "o") (@a37 _ _ _ _ _ _ _ _ a32 (@a03 _ _ _ _) (@a09 _ _ _ _ _ _ _ _ _ _ _ _ _ _ _ _ G__law_take (hr.mono (by omega)) rfl T.f__law_take.m T.f__law_take.F.kp T.f__law_take.b .nil a18 (@a00 _ _ _ _ _ (pv 0) (@a00 _ _ _ _ _ (@a03 _ _ _ _) (@a01 _) (by rfl)) (by rfl)) (by decide) (by rfl) (by rfl))) (by rfl) (by walk_at "o"))
    (@a02 _ _ _ _ _ (@a62 _ _ _ _ _ _ _ _ PassesOwn.never rfl (ad8 rfl T.z_range (@a00 _ _ _ _ _ (pv 4) (@a01 _) (by rfl))) (a13 (i:=5) sc_law_script.nd rfl (by walk_at "o")) (@a04 _ _ _ (@a29 _ _ _ _ (@a69 _ K _ _ _ _ _ _ _ _ _ _ _ PySem.F.plainAttrs_list PySem.F.slot_list_append PySem.F.type_list_append a57 (pv 3) (@a00 _ _ _ _ _ (@a20 _ _ _ _ _ (@a00 _ _ _ _ _ (@a19 _ _ _ _ _ _ _ (a31 K) (pv 1) (pv 5) (fun _ _=>rfl)) (@a00 _ _ _ _ _ (@a09 _ _ _ _ _ _ _ _ _ _ _ _ _ _ _ _ G__law_body (hr.mono (by omega)) rfl T.f__law_body.m T.f__law_body.F.kp T.f__law_body.b .nil a18 (@a00 _ _ _ _ _ (pv 0) (@a00 _ _ _ _ _ (@a03 _ _ _ _) (@a00 _ _ _ _ _ (@a92 _ _ _ _ _ _ _ _ _ _ (a98 K) (pv 1) (@a91 _ _ _ (@a37 _ _ _ _ _ _ _ _ a32 (pv 5) (@a03 _ _ _ _))) (@a91 _ _ _ (pv 4))) (@a00 _ _ _ _ _ (@ba0 _ _ _ _) (@a01 _) (by rfl)) (by rfl)) (by rfl)) (by rfl)) (by decide) (by rfl) (by rfl)) (@a01 _) (by rfl)) (by rfl))) (@a01 _) (by rfl)) (by rfl) (by rfl) (by rfl) (by rfl) (by rfl) (by rfl)) (by rfl))) (by intro _; rfl))
    (@a30 _ _ _ _ _ (@a33 _ _ _ _ _ _ _ _ (@a08 _ _ _ _ _ _ _ _ a38 (@a09 _ _ _ _ _ _ _ _ _ _ _ _ _ _ _ _ G__law_take (hr.mono (by omega)) rfl T.f__law_take.m T.f__law_take.F.kp T.f__law_take.b .nil a18 (@a00 _ _ _ _ _ (pv 0) (@a00 _ _ _ _ _ (@a03 _ _ _ _) (@a01 _) (by rfl)) (by rfl)) (by decide) (by rfl) (by rfl)) (@a03 _ _ _ _) (nomark _)) (@a04 _ _ _ (@a16 _ _ 3 _ _ _ _ sc_law_script.nd rfl (by walk_at "o") (@a37 _ _ _ _ _ _ _ _ a32 (@a92 _ _ _ _ _ _ _ _ _ _ (a98 K) (pv 3) (@ai1 _) (@a91 _ _ _ (@a03 _ _ _ _))) (bm6 K (pv 3) (@a03 _ _ _ _) (@c24 _ _ _ _ _ _ br1 (@a03 _ _ _ _)))) (by rfl) (by walk_at "o"))) (@a12 _))
    (@a04 _ _ _ (@a17 _ _ _ _ (@a20 _ _ _ _ _ (@a00 _ _ _ _ _ (pv 2) (@a00 _ _ _ _ _ (pv 3) (@a01 _) (by rfl)) (by rfl)))))))))))),?_⟩
   have sl:(1000000:Nat)≤sizeLine:=le_line (Nat.le_refl _)
   walk_at "go"
   intro nl H1 f1 m1 j1
   walk_at "run"
   intro t1 J1 g1 q1 p1
   walk_at "run"
   intro t2 J2 g2 q2 p2
   walk_at "run"
   intro b0 J3 g3 q3 p3
   walk_at "run"
   have s13:=m1.trans (q1.trans (q2.trans q3))
   refine ⟨dk,l,50,0,6,3,rfl,hk.same s13,by omega,by omega,fun bx H2 hbx o2 k2=>?_⟩
   have nb0:=(hk.same (m1.trans (q1.trans q2))).new g3
   walk_at "run"
   refine au2 (SqL.of (o2.at nb0.1 nb0.2 p3)) ?_
   rw [ao1]
   intro bl J4 g4 q4 p4
   walk_at "run"
   refine ae9 (SqL.of p4) ?_
   walk_at "run"
   have k4:=k2.same q4
   obtain ⟨ms,cur,d1,d2,d3⟩:=k4.ex
   refine al6 d1 (j:=3) rfl ?_
   walk_at "run"
   have k5:Dk5 (upd J4 dk (.lst [.ref l,.int cur,.int 50,.int ((List.take bx [V.ref t1,V.ref t2]).length:Nat),.int (6:Nat)])) dk l 50 bx 6:=⟨⟨ms,cur,by rw [a14]; rw [List.length_take]; rw [show min bx [V.ref t1,V.ref t2].length=bx from Nat.min_eq_left (by simp only [List.length_cons,List.length_nil]; omega)],by rw [a11 hk.ne.symm]; exact d2,d3⟩,hk.ne⟩
   have o5:OfD dk l H2 (upd J4 dk (.lst [.ref l,.int cur,.int 50,.int ((List.take bx [V.ref t1,V.ref t2]).length:Nat),.int (6:Nat)])):=(OfD.of q4).u1
   have o54:OfD dk l J4 (upd J4 dk (.lst [.ref l,.int cur,.int 50,.int ((List.take bx [V.ref t1,V.ref t2]).length:Nat),.int (6:Nat)])):=(OfD.of (Same.refl _)).u1
   show New (upd J4 dk (.lst [.ref l,.int cur,.int 50,.int ((List.take bx [V.ref t1,V.ref t2]).length:Nat),.int (6:Nat)])) _ _
   generalize upd J4 dk (.lst [.ref l,.int cur,.int 50,.int ((List.take bx [V.ref t1,V.ref t2]).length:Nat),.int (6:Nat)])=H5 at k5 o5 o54 ⊢
   have nn:=hk.new f1
   have n1:=(hk.same m1).new g1
   have n2:=(hk.same (m1.trans q1)).new g2
   have nbl':=k2.new g4
   have o05:OfD dk l J3 H5:=o2.trans o5
   have enl:H5 nl=some (.lst (a25 [Str.ofString "a",Str.ofString "b",Str.ofString "cc",Str.ofString "d"])):=o05.at nn.1 nn.2 ((q1.trans (q2.trans q3)) _ _ j1)
   have ebl:H5 bl=some (.lst (List.take bx [V.ref t1,V.ref t2])):=by
    exact o54.at nbl'.1 nbl'.2 p4
   have et1:H5 t1=some (.tup [.str "a",.int 2]):=o05.at n1.1 n1.2 ((q2.trans q3) _ _ p1)
   have et2:H5 t2=some (.tup [.str "box",.int 5]):=o05.at n2.1 n2.2 (q3 _ _ p2)
   have hbn0:Each (Nmd H5) [V.ref t1,V.ref t2] [Str.ofString "a",Str.ofString "box"]:=(Each.nil.snoc ⟨t1,_,rfl,et1⟩).snoc ⟨t2,_,rfl,et2⟩
   have hbn:Each (Nmd H5) (List.take bx [V.ref t1,V.ref t2]) (bnx bx):=af4 hbn0 bx
   intro tl J6 g6 q6 p6
   walk_at "run"
   have k6:=k5.same q6
   have ntl:=k5.new g6
   refine ⟨dk,l,50,bx,6,4,rfl,k6,by omega,by omega,fun r H7 hr o7 k7=>?_⟩
   walk_at "run"
   obtain ⟨many,hmany⟩:∃ m:Nat,m=1+r:=⟨_,rfl⟩
   rw [show (1+(r:Nat):Int)=(many:Int) by omega]
   have hnml:(List.take many [Str.ofString "a",Str.ofString "b",Str.ofString "cc",Str.ofString "d"]).length=many:=by
    rw [List.length_take]
    simp only [List.length_cons,List.length_nil]
    omega
   have hnmu:(List.take many [Str.ofString "a",Str.ofString "b",Str.ofString "cc",Str.ofString "d"]).Nodup:=List.Nodup.sublist (List.take_sublist _ _) (by decide +kernel)
   have hget:∀ i,i<many→∃ n,[Str.ofString "a",Str.ofString "b",Str.ofString "cc",Str.ofString "d"][i]?=some n∧(List.take many [Str.ofString "a",Str.ofString "b",Str.ofString "cc",Str.ofString "d"])[i]?=some n:=fun i hi=>by
    have:i<[Str.ofString "a",Str.ofString "b",Str.ofString "cc",Str.ofString "d"].length:=by simp only [List.length_cons,List.length_nil]; omega
    exact ⟨_,List.getElem?_eq_getElem this,by rw [List.getElem?_take,if_pos hi,List.getElem?_eq_getElem this]⟩
   have hnl:a25 [Str.ofString "a",Str.ofString "b",Str.ofString "cc",Str.ofString "d"]=[Str.ofString "a",Str.ofString "b",Str.ofString "cc",Str.ofString "d"].map V.str:=rfl
   generalize hns:[Str.ofString "a",Str.ofString "b",Str.ofString "cc",Str.ofString "d"]=ns at hnml hnmu hget hnl enl
   have o57:OfD dk l H5 H7:=(OfD.of q6).trans o7
   have fnl:¬ (nl=dk∨nl=l∨nl=tl):=fun z=>z.elim nn.1 fun z=>z.elim nn.2 fun z=>by rw [← z,enl] at g6; cases g6
   rw [Int.toNat_natCast]
   refine ad9 (lo:=0) (n:=many) (fun i σ' H'=>i≤many∧∃ (left:Int) (calls:Nat) (ts:Tks) (us:List V) (y:Option V),σ'=[some (.ref dk),some (.ref nl),some (.ref bl),some (.ref tl),some (.int (many:Nat)),y]∧OfD dk l H5 H'∧Dk5 H' dk l left bx calls∧H' tl=some (.lst us)∧Each (TkN (woP (fun a=>a=dk∨a=l∨a=tl) H')) us ts∧TksB bx ts (ns.take many) i∧-1≤left∧left≤50) ⟨Nat.zero_le _,50,6,[],[],_,rfl,o57,k7,o7.at ntl.1 ntl.2 p6,Each.nil,⟨rfl,fun k x h=>by cases h⟩,by omega,by omega⟩ ?_ ?_
   · rintro i σ' H8 hi ⟨_,left,calls,ts,us,y,rfl,o8,k8,e8,hE,hB,hlo,hhi⟩
     have enl8:=o8.at nn.1 nn.2 enl
     obtain ⟨n,hn1,hn2⟩:=hget i hi
     walk_at "run"
     refine aa0 (SqL.of e8) ?_
     walk_at "run"
     rw [show (0+(i:Nat):Int)=(i:Int) by omega]
     refine a83 (SqL.of enl8) (a06 (j:=i) (v:=.str n) (by rw [hnl,List.getElem?_map,hn1]; rfl)) ?_
     walk_at "run"
     refine au2 (SqL.of enl8) ?_
     rw [show ((i:Nat)+1:Int)=((i+1:Nat):Int) by omega,b92]
     intro sl1 H9 f9 s9 e9
     walk_at "run"
     have e9:H9 sl1=some (.lst (a25 ((ns.take many).drop (i+1)))):=by
      rw [e9,hnl]
      unfold a25
      rw [List.map_drop,List.map_take]
     have n9:=k8.new f9
     have hBP:BPre H9 dk l sl1 left bx calls ((ns.take many).drop (i+1)) (fun a=>a=dk∨a=l∨a=tl):=⟨k8.same s9,by rw [wpG (fun z=>z.elim n9.1 fun z=>z.elim n9.2 fun z=>by rw [z,e8] at f9; cases f9)]; exact e9,by rw [List.length_drop,hnml]; omega,.inl rfl,.inr (.inl rfl),fun a ha=>by
      obtain ⟨ms,cur,h1,h2,_⟩:=(k8.same s9).ex
      rcases ha with rfl | rfl | rfl
      · rw [h1]; exact fun z=>by cases z
      · rw [h2]; exact fun z=>by cases z
      · rw [s9 _ _ e8]; exact fun z=>by cases z⟩
     refine ⟨dk,l,sl1,left,bx,calls,0,5,false,(ns.take many).drop (i+1),_,rfl,hBP,by omega,by omega,by omega,hlo,fun v b left' calls' H10 o10 k10 hb hw h7 hz hlo2=>?_⟩
     walk_at "run"
     intro a H11 f11 s11 e11
     walk_at "run"
     have n11:=k10.new f11
     have etl:=(OfD.of s9).trans o10
     have e11t:=s11 _ _ (etl.at ntl.1 ntl.2 e8)
     have hul:=hE.1
     have htl:ts.length=i:=by
      have:=congrArg List.length hB.n
      rw [List.length_map,List.length_take,hnml] at this
      omega
     refine a86 e11t (by omega) ?_
     have up:Same (woP (fun a=>a=dk∨a=l∨a=tl) H8) (woP (fun a=>a=dk∨a=l∨a=tl) H11):=(wpS s9).trans ((o10.p (.inl rfl) (.inr (.inl rfl))).trans (wpS s11))
     have hHtl:H5 tl=none:=g6
     refine ⟨hi,left',calls',ts++[(n,b)],us++[.ref a],_,rfl,(((o8.trans (OfD.of s9)).trans o10).trans (OfD.of s11)).un hHtl,(k10.same s11).upd ntl.1 ntl.2,a14,?_,⟨?_,fun k x hx=>?_⟩,hlo2,by omega⟩
     · rw [wpU (.inr (.inr rfl))]
       refine (hE.mono fun _ _ z=>z.same up).snoc ⟨a,v,rfl,?_,hb.same (wpS s11)⟩
       rw [wpG (fun z=>z.elim n11.1 fun z=>z.elim n11.2 fun z=>by rw [z,etl.at ntl.1 ntl.2 e8] at f11; cases f11)]
       exact e11
     · rw [List.map_append,hB.n,List.take_add_one,hn2]; rfl
     · by_cases hk':k<ts.length
       · rw [List.getElem?_append_left hk'] at hx
         exact hB.b k x hx
       · rw [List.getElem?_append_right (by omega)] at hx
         have:k - ts.length=0:=by
          have:=(List.getElem?_eq_some_iff.mp hx).1
          simp at this
          omega
         rw [this] at hx
         obtain rfl:=Option.some.inj hx
         rw [show k=i by omega]
         exact ⟨hw,show (allB b).length≤51 by omega⟩
   · rintro σ' H8 ⟨_,left,calls,ts,us,y,rfl,o8,k8,e8,hE,hB,hlo,hhi⟩
     have hB:TksB bx ts (ns.take many) (ns.take many).length:=by rw [hnml]; exact hB
     have hne:ns.take many≠[]:=fun z=>by rw [z] at hnml; simp at hnml; omega
     have hl4:(ns.take many).length≤4:=by omega
     have hbn8:∀ {H':Hp},OfD dk l H5 H'→Each (Nmd H') (List.take bx [V.ref t1,V.ref t2]) (bnx bx):=fun o=>af4 ((Each.nil.snoc ⟨t1,_,rfl,o.at n1.1 n1.2 et1⟩).snoc ⟨t2,_,rfl,o.at n2.1 n2.2 et2⟩) bx
     walk_at "run"
     refine a64 (fun σ' H'=>∃ (tl2:Addr) (us:List V) (ts2:Tks) (y:Option V),σ'=[some (.ref dk),some (.ref nl),some (.ref bl),some (.ref tl2),some (.int (many:Nat)),y]∧OfD dk l H5 H'∧H' tl2=some (.lst us)∧Each (TkN H') us ts2∧ts.Perm ts2) ?_ ?_
     · walk_at "run"
       refine ⟨dk,l,left,bx,calls,2,rfl,k8,by omega,by omega,fun r2 H9 hr2 o9 k9=>?_⟩
       walk_at "run"
       have e9:=o9.at ntl.1 ntl.2 e8
       have up:Same (woP (fun a=>a=dk∨a=l∨a=tl) H8) (woP (fun a=>a=dk∨a=l∨a=tl) H9):=o9.p (.inl rfl) (.inr (.inl rfl))
       have hE9:=hE.mono fun _ _ z=>z.same (up.trans wpL)
       have o59:=o8.trans o9
       by_cases h1:r2=1
       · refine a35 (show (r2:Int)=1 by omega) ?_
         walk_at "run"
         refine au2 (SqL.of e9) ?_
         rw [show (1:Int)=((1:Nat):Int) from rfl,ao1]
         intro a6 H10 f6 s6 e6
         walk_at "run"
         refine ⟨rfl,rfl,tl,us,rfl,SqL.of (s6 _ _ e9),?_⟩
         intro a7 H11 f7 s7 e7
         have e67:=s7 _ _ e6
         have hul:=hE.1
         have htl:ts.length=many:=by
          have:=congrArg List.length hB.n
          rw [List.length_map,List.length_take,hnml] at this
          omega
         refine a44 e67 e7 (by
          rw [List.length_reverse,List.length_take,List.length_drop]
          omega) ?_
         intro a8 H12 f8 s8 e8'
         have s912:=s6.trans (s7.trans s8)
         refine ⟨a8,_,ts.take 1++(ts.drop 1).reverse,_,rfl,o59.trans (OfD.of s912),e8',((af4 hE9 1).append (bd8 (as1 hE9 1))).mono fun _ _ z=>z.same s912,?_⟩
         exact (List.Perm.of_eq (List.take_append_drop 1 ts).symm).trans (List.Perm.append_left _ (List.reverse_perm _).symm)
       · refine a28 (show ¬ (r2:Int)=1 by omega) ?_
         walk_at "run"
         exact ⟨tl,us,ts,_,rfl,o59,e9,hE9,List.Perm.refl _⟩
     rintro σ' H9 ⟨tl2,us2,ts2,y2,rfl,o9,e9,hE9,hp⟩
     walk_at "run"
     intro sp H10 f10 s10 e10
     exact q sp bl tl2 bx _ us2 ts2 (ns.take many) H10 e10 (s10 _ _ (o9.at nbl'.1 nbl'.2 ebl)) ((hbn8 o9).mono fun _ _ z=>z.same s10) (s10 _ _ e9) (hE9.mono fun _ _ z=>z.same s10) (hB.gd hnmu hl4 hne hp)
theorem ay6 {f:Stm→Option (List Wd)}{b:List Stm}{e:List Wd}(h:Wd.on∉e):eL f b e=some e:=by
 cases b with
 | nil=>rfl
 | cons s b=>rw [eL,if_neg h]
theorem bi3 {f:Stm→Option (List Wd)}:∀ {b:List Stm}{e R e':List Wd},eL f b e=some R→Wd.on∈e→Wd.on∈e'→∃ R',eL f b e'=some R'
 | [],e,R,e',_,_,_=>⟨e',rfl⟩
 | s::b,e,R,e',h,he,he'=>by
   rw [eL,if_pos he] at h
   obtain ⟨r,h1,h2⟩:=Option.bind_eq_some_iff.mp h
   rw [eL,if_pos he',h1]
   show ∃ R',eL f b (e'.filter (fun w=>decide (w≠.on))++r)=some R'
   by_cases hr:Wd.on∈r
   · exact bi3 h2 (List.mem_append_right _ hr) (List.mem_append_right _ hr)
   · exact ⟨_,ay6 (fun z=>(List.mem_append.mp z).elim (fun z=>by simp at z) hr)⟩
theorem b93 {f:Stm→Option (List Wd)}:∀ {b:List Stm}{e R:List Wd},eL f b e=some R→Wd.on∈e→∃ R',eL f b [.on]=some R'∧∀ w,w∈R↔(w∈e∧w≠.on)∨w∈R'
 | [],e,R,h,ho=>by
   obtain rfl:=Option.some.inj h
   refine ⟨[.on],rfl,fun w=>?_⟩
   by_cases hw:w=.on
   · subst hw; simp [ho]
   · simp [hw]
 | s::b,e,R,h,ho=>by
   rw [eL,if_pos ho] at h
   obtain ⟨r,h1,h2⟩:=Option.bind_eq_some_iff.mp h
   have hx:eL f (s::b) [.on]=eL f b r:=by
    rw [eL,if_pos (by simp),h1]
    rfl
   rw [hx]
   by_cases hr:Wd.on∈r
   · obtain ⟨R1,g1,g2⟩:=b93 h2 (List.mem_append_right _ hr)
     obtain ⟨R2,hR2⟩:=bi3 h2 (List.mem_append_right _ hr) hr
     obtain ⟨R3,k1,k2⟩:=b93 hR2 hr
     rw [g1] at k1
     obtain rfl:=Option.some.inj k1
     refine ⟨R2,hR2,fun w=>?_⟩
     rw [g2,k2,List.mem_append,List.mem_filter,decide_eq_true_eq]
     constructor
     · rintro (⟨h1 | h1,h2⟩ | h1)
       · exact .inl h1
       · exact .inr (.inl ⟨h1,h2⟩)
       · exact .inr (.inr h1)
     · rintro (h1 | h1 | h1)
       · exact .inl ⟨.inl h1,h1.2⟩
       · exact .inl ⟨.inr h1.1,h1.2⟩
       · exact .inr h1
   · have hno:Wd.on∉e.filter (fun w=>decide (w≠.on))++r:=fun z=>(List.mem_append.mp z).elim (fun z=>by simp at z) hr
     rw [ay6 hno] at h2
     obtain rfl:=Option.some.inj h2
     refine ⟨r,ay6 hr,fun w=>?_⟩
     rw [List.mem_append,List.mem_filter,decide_eq_true_eq]
theorem be8 {f:Stm→Option (List Wd)}{s:Stm}{b:List Stm}{E:List Wd}(h:eBf f (s::b)=some E):∃ r,f s=some r∧(Wd.on∉r→E=ordW r)∧(Wd.on∈r→∃ E',eBf f b=some E'∧E=ordW (r.filter (fun w=>decide (w≠.on))++E')):=by
 unfold eBf at h
 split at h
 · rename_i hl
   obtain ⟨R,h1,rfl⟩:=Option.map_eq_some_iff.mp h
   rw [eL,if_pos (by simp)] at h1
   obtain ⟨r,g1,g2⟩:=Option.bind_eq_some_iff.mp h1
   have g2:eL f b r=some R:=g2
   refine ⟨r,g1,fun hr=>?_,fun hr=>?_⟩
   · rw [ay6 hr] at g2
     rw [Option.some.inj g2]
   · obtain ⟨R',k1,k2⟩:=b93 g2 hr
     refine ⟨ordW R',?_,an8 fun w=>?_⟩
     · unfold eBf
       rw [if_pos (by rw [List.length_cons] at hl; omega),k1]
       rfl
     · rw [k2,List.mem_append,List.mem_filter,decide_eq_true_eq,ax5]
 · cases h
theorem bo7 {f:Stm→Option (List Wd)}{E:List Wd}(h:eBf f []=some E):E=[.on]:=by
 unfold eBf at h
 rw [if_pos (by simp)] at h
 exact (Option.some.inj h).symm
def bo8 (a b:List Wd):Prop:=∀ w,w∈a↔w∈b
def b94 (K:PySem.W.Frag):Sp:=fun vs H Q _=>∃ (a d:Addr) (E:List Wd) (kvs:List (Key×V)) (g:Wd→Option Wd),vs=[.ref a,.ref d]∧H a=some (.lst (wdsV E))∧H d=some (.dK kvs)∧(∀ w:Wd,valV kvs (Sum.inr w.txt)=(g w).map fun x=>V.str x.txt)∧E.length≤100∧∀ l H',H l=none→Same H H'→H' l=some (.lst (wdsV (E.filterMap g)))→Q (.ref l) H'
theorem ao8 (T:Txt K mg t):FnOk P w K mg base CX0 1 t.a__law_turned t.fd__law_turned ["ways","turned"] (b94 K):=by
 refine T.f__law_turned.F.ok an9 (fun vs H Q E h=>?_) (fun cdv A outer s H vs Q E hr h=>?_)
 · obtain ⟨a,d,E,kvs,g,rfl,_⟩:=h
   rfl
 · obtain ⟨a,d,E,kvs,g,rfl,ha,hd,hm,hl,q⟩:=h
   refine ⟨_,(@a04 _ _ _ (@a17 _ _ _ _ (ac4 (Nt:=["way"]) (Nf:=["turned"]) (caps:=[1]) rfl (a41 (sc:=a07 ab2) rfl rfl (by decide +kernel) (by decide +kernel) (by decide +kernel) rfl (by decide +kernel)) (a21 K (pv 0)) (fun _ _ _ _ _=>(a13 (i:=0) (show (["way","turned"]:List Str).Nodup by decide +kernel) rfl (by walk_at "o"))) (fun _ _ _ _ _=>(@a73 _ _ _ (bf1 (bt5 (by exact b05 hr) (pv 0) (pv 1))))) (fun _ _ _ _ _=>(@au0 _ _ _ _ _ _ (by exact b05 hr) (pv 1) (pv 0) (fun _ _=>rfl)))))),?_⟩
   have sl:(1000000:Nat)≤sizeLine:=le_line (Nat.le_refl _)
   walk_at "go"
   refine ⟨⟨_,SqL.of ha⟩,a60 (xs:=wdsV E) (by rw [a24]; omega) (fun i acc H'=>H'=H∧acc=wdsV ((E.take i).filterMap g)) ⟨rfl,rfl⟩ (fun i acc H' ⟨h1,h2⟩=>⟨by rw [h2,a24]; exact Nat.le_trans (List.length_filterMap_le _ _) (by rw [List.length_take]; exact Nat.min_le_left _ _),by rw [h1]; exact SqL.of ha⟩) ?_ ?_⟩
   · rintro i x acc H' hx ⟨rfl,rfl⟩
     obtain ⟨w,hw,rfl⟩:=am0 hx
     have e:(E.take (i+1)).filterMap g=(E.take i).filterMap g++(g w).toList:=by
      rw [List.take_add_one,hw,Option.toList_some,List.filterMap_append]
      congr 1
     rw [e]
     walk_at "run"
     refine ⟨d,_,rfl,DGet.k (k:=Sum.inr w.txt) hd,?_⟩
     rw [hm]
     cases h:g w with
     | none =>
       refine ⟨_,rfl,?_⟩
       rw [if_neg (by simp)]
       exact ⟨rfl,by simp⟩
     | some v =>
       refine ⟨_,rfl,?_⟩
       rw [if_pos (by simp)]
       walk_at "run"
       have hD:=DGet.k (k:=Sum.inr w.txt) hd
       rw [hm,h] at hD
       refine ⟨d,_,rfl,hD,rfl,?_⟩
       simp [wdsV,a25]
   · rintro acc H' ⟨rfl,rfl⟩ p H1 f1 s1 e1
     rw [a24,List.take_of_length_le (Nat.le_refl _)] at e1
     exact q p H1 f1 s1 e1
theorem c18 {H:Hp}{ts:Tks}{vs:List V}(h:Each (TkN H) vs ts) (hu:(ts.map (·.1)).Nodup):∀ n,n≤ts.length→∃ kvs:List (Key×V),PrK H (vs.take n) kvs∧∀ x∈ts.take n,∃ v,valV (a63 [] kvs) (Sum.inr x.1)=some v∧BAt H v x.2
 | 0,_=>⟨[],by rw [List.take_zero]; exact .nil,fun x hx=>by cases hx⟩
 | n+1,hn=>by
   obtain ⟨kvs,h1,h2⟩:=c18 h hu n (by omega)
   have hx:ts[n]?=some ts[n]:=List.getElem?_eq_getElem (by omega)
   obtain ⟨v,hv,a,u,rfl,e,hb⟩:=h.get hx
   refine ⟨kvs++[(Sum.inr ts[n].1,u)],by rw [List.take_add_one,hv]; exact h1.snoc e,fun x hm=>?_⟩
   rw [au7]
   rw [List.take_add_one,hx] at hm
   by_cases hx1:x.1=ts[n].1
   · refine ⟨u,by rw [ah2,if_pos (by rw [hx1])],?_⟩
     have:x=ts[n]:=by
      rcases List.mem_append.mp hm with hm | hm
      · exfalso
        obtain ⟨k,hk⟩:=List.mem_iff_getElem?.mp hm
        rw [List.getElem?_take] at hk
        split at hk
        · rename_i hkn
          have hk2:(ts.map (·.1))[k]?=some x.1:=by rw [List.getElem?_map,hk]; rfl
          have hn2:(ts.map (·.1))[n]?=some x.1:=by rw [List.getElem?_map,hx,hx1]; rfl
          have:=(List.getElem?_inj (by rw [List.length_map]; omega) hu).mp (hk2.trans hn2.symm)
          omega
        · cases hk
      · exact List.mem_singleton.mp hm
     rw [this]; exact hb
   · rcases List.mem_append.mp hm with hm | hm
     · obtain ⟨v,hv,hb⟩:=h2 x hm
       exact ⟨v,by rw [ah2,if_neg (fun z=>hx1 (by first | exact Sum.inr.inj z | exact (Sum.inr.inj z).symm))]; exact hv,hb⟩
     · exact absurd (by rw [List.mem_singleton.mp hm]) hx1
theorem ay7 {σ:St} {H:Hp}{Q:VK}{k1 k2 k3 v1 v2 v3:Str}(h:New H (.dK (a63 [] [(Sum.inr k1,.str v1),(Sum.inr k2,.str v2),(Sum.inr k3,.str v3)])) Q):bt7 [(tC (.str k1),tC (.str v1)),(tC (.str k2),tC (.str v2)),(tC (.str k3),tC (.str v3))] σ H Q:=fun p hp=>⟨a14,[(Sum.inr k1,.str v1),(Sum.inr k2,.str v2),(Sum.inr k3,.str v3)],rfl,by simp,by rw [bi4]; exact New.to h p hp⟩
def b95 (K:PySem.W.Frag) (D:Nat):Sp:=fun vs H Q _=>∃ (tv bv:V) (b:List Stm) (ts:Tks) (ns:List Str) (bx d j k:Nat) (lp:Bool) (n:Nat) (E:List Wd),vs=[tv,bv]∧TksAt H tv ts∧BAt H bv b∧TksV bx ts ns∧ns.length≤j+d∧k≤5∧okB 8 (bnx bx) (ns.drop j) k lp b∧9*(6*d+k)+b.length<D∧eBf (eS ts n) b=some E∧∀ l H',H l=none→Same H H'→H' l=some (.lst (wdsV E))→Q (.ref l) H'
def bo9 (K:PySem.W.Frag) (D:Nat):Sp:=fun vs H Q _=>∃ (tv sv:V) (s:Stm) (ts:Tks) (ns:List Str) (bx d j k:Nat) (lp:Bool) (n:Nat) (r:List Wd),vs=[tv,sv]∧TksAt H tv ts∧SAt H sv s∧TksV bx ts ns∧ns.length≤j+d∧k≤5∧okS 8 (bnx bx) (ns.drop j) k lp s∧9*(6*d+k)<D∧eS ts n s=some r∧∀ l r' H',H l=none→Same H H'→H' l=some (.lst (wdsV r'))→bo8 r' r→r'.length≤10→Q (.ref l) H'
def gL:Wd→Option Wd
 | .leave=>some .on
 | .back=>some .back
 | .stop=>some .stop
 | _=>none
def gC:Wd→Option Wd
 | .on=>some .on
 | .back=>some .on
 | .stop=>some .stop
 | _=>none
theorem ay8 {ts:Tks}{n:Nat}{w:Wd}:eS ts (n+1) (.plain [.s w.txt])=some [w]:=by
 rw [ar6]
 obtain ⟨v,hv⟩:=ar7 w
 rw [hv,ah5 (ai7 hv)]
 rfl
theorem c19 (w:Wd):valV (a63 [] [((Sum.inr (Str.ofString "leave"):Key),.str (Str.ofString "on")),(Sum.inr (Str.ofString "back"),.str (Str.ofString "back")),(Sum.inr (Str.ofString "stop"),.str (Str.ofString "stop"))]) (Sum.inr w.txt)=(gL w).map fun x=>V.str x.txt:=by
 cases w <;> kernel_rfl
theorem c20 (w:Wd):valV (a63 [] [((Sum.inr (Str.ofString "on"):Key),.str (Str.ofString "on")),(Sum.inr (Str.ofString "back"),.str (Str.ofString "on")),(Sum.inr (Str.ofString "stop"),.str (Str.ofString "stop"))]) (Sum.inr w.txt)=(gC w).map fun x=>V.str x.txt:=by
 cases w <;> kernel_rfl
theorem bp0 (E:List Wd):bo8 (E.filterMap gL) (aj9 E):=fun w=>by
 rw [List.mem_filterMap,b75]
 constructor
 · rintro ⟨a,h1,h2⟩
   cases a <;> simp [gL] at h2 <;> subst h2 <;> simp [h1]
 · rintro (⟨rfl,h⟩ | ⟨rfl | rfl,h⟩)
   · exact ⟨.leave,h,rfl⟩
   · exact ⟨.back,h,rfl⟩
   · exact ⟨.stop,h,rfl⟩
theorem bp1 (E:List Wd):bo8 (E.filterMap gC) (ag1 E):=fun w=>by
 rw [List.mem_filterMap,b76]
 constructor
 · rintro ⟨a,h1,h2⟩
   cases a <;> simp [gC] at h2 <;> subst h2 <;> simp [h1]
 · rintro (⟨rfl,h | h⟩ | ⟨rfl,h⟩)
   · exact ⟨.on,h,rfl⟩
   · exact ⟨.back,h,rfl⟩
   · exact ⟨.stop,h,rfl⟩
theorem aw0 (T:Txt K mg t) {d:Nat}(G__law_ways:FnOk P w K mg base CX0 (D+2) t.a__law_ways t.fd__law_ways ["talks","body"] (b95 K D)) (G__law_ways_of:FnOk P w K mg base CX0 (D+2) t.a__law_ways_of t.fd__law_ways_of ["talks","statement"] (bo9 K D)):FnOk P w K mg base CX0 (D+3) t.a__law_ways t.fd__law_ways ["talks","body"] (b95 K (D+1)):=by
 refine T.f__law_ways.F.ok sc_law_ways (fun vs H Q E h=>?_) (fun cdv A outer s H vs Q E hr h=>?_)
 · obtain ⟨tv,bv,b,ts,ns,bx,d,j,k,lp,n,E0,rfl,_⟩:=h
   rfl
 · obtain ⟨tv,bv,b,ts,ns,bx,d,j,k,lp,n,E0,rfl,ht,hb,hV,hj,hk,hw,hD,he,q⟩:=h
   refine ⟨_,(@a02 _ _ _ _ _ (@a33 _ _ _ _ _ _ _ _ (@a08 _ _ _ _ _ _ _ _ (ar3 K (by exact hr.units)) (pv 1) (@a15 _ _ _ _ (@a01 _)) (nomark _)) (@a04 _ _ _ (@a17 _ _ _ _ (@a15 _ _ _ _ (@a00 _ _ _ _ _ (@a05 _ _ _ _) (@a01 _) (by rfl))))) (@a12 _))
    (@a02 _ _ _ _ _ (@a16 _ _ 2 _ _ _ _ sc_law_ways.nd rfl (by walk_at "o") (@a09 _ _ _ _ _ _ _ _ _ _ _ _ _ _ _ _ G__law_ways_of (hr.mono (by omega)) rfl T.f__law_ways_of.m T.f__law_ways_of.F.kp T.f__law_ways_of.b .nil a18 (@a00 _ _ _ _ _ (pv 0) (@a00 _ _ _ _ _ (@a19 _ _ _ _ _ _ _ (a31 K) (pv 1) (@a03 _ _ _ _) (fun _ _=>rfl)) (@a01 _) (by rfl)) (by rfl)) (by decide) (by rfl) (by rfl)) (by rfl) (by walk_at "o"))
    (@a02 _ _ _ _ _ (@a16 _ _ 3 _ _ _ _ sc_law_ways.nd rfl (by walk_at "o") (ac4 (Nt:=["way"]) (Nf:=[]) (caps:=[]) rfl (a41 (sc:=a07 ab9) rfl rfl (by decide +kernel) (by decide +kernel) (by decide +kernel) rfl (by decide +kernel)) (a21 K (pv 2)) (fun _ _ _ _ _=>(a13 (i:=0) (show (["way"]:List Str).Nodup by decide +kernel) rfl (by walk_at "o"))) (fun _ _ _ _ _=>(@a73 _ _ _ (@a08 _ _ _ _ _ _ _ _ br2 (pv 0) (@a05 _ _ _ _) (nomark _)))) (fun _ _ _ _ _=>(pv 0))) (by rfl) (by walk_at "o"))
    (@a30 _ _ _ _ _ (@a33 _ _ _ _ _ _ _ _ (@a08 _ _ _ _ _ _ _ _ (a80 K) (@a05 _ _ _ _) (pv 2) (by with_unfolding_all rfl)) (@a04 _ _ _ (@a16 _ _ 3 _ _ _ _ sc_law_ways.nd rfl (by walk_at "o") (@a37 _ _ _ _ _ _ _ _ a32 (pv 3) (@a09 _ _ _ _ _ _ _ _ _ _ _ _ _ _ _ _ G__law_ways (hr.mono (by omega)) rfl T.f__law_ways.m T.f__law_ways.F.kp T.f__law_ways.b .nil a18 (@a00 _ _ _ _ _ (pv 0) (@a00 _ _ _ _ _ (@a92 _ _ _ _ _ _ _ _ _ _ (a98 K) (pv 1) (@a91 _ _ _ (@a03 _ _ _ _)) (@ai1 _)) (@a01 _) (by rfl)) (by rfl)) (by decide) (by rfl) (by rfl))) (by rfl) (by walk_at "o"))) (@a12 _))
    (@a04 _ _ _ (@a17 _ _ _ _ (ac4 (Nt:=["way"]) (Nf:=["found"]) (caps:=[3]) rfl (a41 (sc:=a07 ab9) rfl rfl (by decide +kernel) (by decide +kernel) (by decide +kernel) rfl (by decide +kernel)) (a21 K (@a15 _ _ _ _ (@a00 _ _ _ _ _ (@a05 _ _ _ _) (@a00 _ _ _ _ _ (@a05 _ _ _ _) (@a00 _ _ _ _ _ (@a05 _ _ _ _) (@a00 _ _ _ _ _ (@a05 _ _ _ _) (@a00 _ _ _ _ _ (@a05 _ _ _ _) (@a01 _) (by rfl)) (by rfl)) (by rfl)) (by rfl)) (by rfl)))) (fun _ _ _ _ _=>(a13 (i:=0) (show (["way","found"]:List Str).Nodup by decide +kernel) rfl (by walk_at "o"))) (fun _ _ _ _ _=>(@a73 _ _ _ (@a08 _ _ _ _ _ _ _ _ (a80 K) (pv 0) (pv 1) (by with_unfolding_all rfl)))) (fun _ _ _ _ _=>(pv 0))))))))),?_⟩
   have sl:(1000000:Nat)≤sizeLine:=le_line (Nat.le_refl _)
   obtain ⟨bl,us,rfl,e0,hE⟩:=bat_iff.mp hb
   walk_at "go"
   intro a1 H1 f1 s1 e1
   refine b65 (SqL.of (s1 _ _ e0)) (SqL.of e1) ?_
   cases b with
   | nil =>
     obtain rfl:us=[]:=List.eq_nil_of_length_eq_zero hE.1
     refine ⟨true,rfl,?_⟩
     rw [if_pos rfl]
     walk_at "run"
     intro l H2 f2 s2 e2
     rw [bo7 he] at q
     exact q l H2 (a26 s1 f2) (s1.trans s2) e2
   | cons s b =>
     obtain ⟨v,us,rfl⟩:∃ v us',us=v::us':=by
      cases us with
      | nil=>exact absurd hE.1 (by simp)
      | cons v us=>exact ⟨v,us,rfl⟩
     refine ⟨false,rfl,?_⟩
     rw [if_neg Bool.false_ne_true]
     walk_at "run"
     refine a83 (SqL.of (s1 _ _ e0)) (a06 (j:=0) rfl) ?_
     walk_at "run"
     obtain ⟨r,hr,hno,hon⟩:=be8 he
     have hs:=hE.2 0 v s rfl rfl
     rw [List.length_cons] at hD
     refine ⟨tv,v,s,ts,ns,bx,d,j,k,lp,n,r,rfl,ht.same s1,hs.same s1,hV,hj,hk,hw.2 s List.mem_cons_self,by omega,hr,fun l2 r' H2 f2 s2 e2 hrr hrl=>?_⟩
     walk_at "run"
     refine ⟨⟨_,SqL.of e2⟩,a60 (xs:=wdsV r') (by rw [a24]; omega) (fun i acc H3=>H2=H3∧i≤r'.length∧acc=wdsV ((r'.take i).filter fun w=>decide (w≠.on))) ⟨rfl,Nat.zero_le _,rfl⟩ (fun i acc H3 zz=>by
      obtain ⟨rfl,hi,rfl⟩:=zz
      have:=List.length_filter_le (fun w=>decide (w≠Wd.on)) (r'.take i)
      rw [List.length_take] at this
      exact ⟨by rw [a24]; omega,SqL.of e2⟩) ?_ ?_⟩
     · rintro j x acc H3 hx ⟨rfl,hj,rfl⟩
       obtain ⟨v,hv,rfl⟩:=am0 hx
       have hil:=(List.getElem?_eq_some_iff.mp hv).1
       walk_at "run"
       have e3:(r'.take (j+1)).filter (fun w=>decide (w≠Wd.on))=(r'.take j).filter (fun w=>decide (w≠Wd.on))++(if v=Wd.on then [] else [v]):=by
        rw [List.take_add_one,hv,Option.toList_some,List.filter_append]
        by_cases h:v=Wd.on
        · rw [if_pos h]; simp [h]
        · rw [if_neg h]; simp [h]
       rw [e3]
       by_cases h:v=Wd.on
       · subst h
         rw [if_neg (by simp [Wd.txt]),if_pos rfl,List.append_nil]
         exact ⟨rfl,hil,rfl⟩
       · rw [if_pos (by simpa using fun z:v.txt=Str.ofString "on"=>h (ah5 (b:=.on) z)),if_neg h]
         walk_at "run"
         exact ⟨rfl,hil,by simp [wdsV,a25]⟩
     rintro acc H3 ⟨rfl,_,rfl⟩ p9 H9 f9 s9 e9
     rw [a24,List.take_length] at e9
     have fl:=List.length_filter_le (fun w=>decide (w≠Wd.on)) r'
     have s29:=s1.trans (s2.trans s9)
     walk_at "run"
     refine a64 (fun σ' H'=>∃ (p:Addr) (F:List Wd),σ'=[some tv,some (.ref bl),some (.ref l2),some (.ref p)]∧Same H H'∧H' p=some (.lst (wdsV F))∧ordW F=E0) ?_ ?_
     · walk_at "run"
       refine ad0 .on (s9 _ _ e2) ?_
       walk_at "run"
       by_cases ho:Wd.on∈r'
       · rw [if_pos (decide_eq_true ho)]
         walk_at "run"
         obtain ⟨E',hE',hEo⟩:=hon ((hrr _).mp ho)
         refine au2 (SqL.of (s29 _ _ e0)) ?_
         rw [show (1:Int)=((1:Nat):Int) from rfl,b83]
         intro pb H10 f10 s10 e10
         walk_at "run"
         have sA:=s29.trans s10
         have hbb:BAt H10 (.ref pb) b:=bat_iff.mpr ⟨pb,us,rfl,e10,(as1 hE 1).mono fun _ _ z=>z.same sA⟩
         refine ⟨tv,.ref pb,b,ts,ns,bx,d,j,k,lp,n,E',rfl,ht.same sA,hbb,hV,hj,hk,⟨by have:=hw.1; rw [List.length_cons] at this; omega,fun s z=>hw.2 s (List.mem_cons_of_mem _ z)⟩,by omega,hE',fun l4 H11 f11 s11 e11=>?_⟩
         have h5:=(a88 hE').2
         refine a44 ((s10.trans s11) _ _ e9) e11 (by rw [a24,a24]; omega) ?_
         intro l5 H12 f12 s12 e12
         refine ⟨l5,_,rfl,sA.trans (s11.trans s12),by rw [e12,aa2],?_⟩
         rw [hEo]
         refine an8 fun w=>?_
         rw [List.mem_append,List.mem_append,List.mem_filter,List.mem_filter,hrr]
       · rw [if_neg (by simp [ho])]
         walk_at "run"
         have hno:=hno (fun z=>ho ((hrr _).mpr z))
         refine ⟨p9,_,rfl,s29,e9,?_⟩
         rw [hno]
         refine an8 fun w=>?_
         rw [List.mem_filter,decide_eq_true_eq,hrr]
         exact ⟨fun z=>z.1,fun z=>⟨z,fun e=>ho ((hrr _).mpr (by rw [← e]; exact z))⟩⟩
     rintro σ' H4 ⟨p,F,rfl,s4,e4,hF⟩
     walk_at "run"
     intro al H5 f5 s5 e5
     have e5:H5 al=some (.lst (wdsV allW)):=e5
     walk_at "run"
     have e45:=s5 _ _ e4
     refine ⟨⟨_,SqL.of e5⟩,a60 (xs:=wdsV allW) (le_line (by rw [a24]; decide)) (fun i acc H2=>H5=H2∧i≤allW.length∧acc=wdsV ((allW.take i).filter fun w=>decide (w∈F))) ⟨rfl,Nat.zero_le _,rfl⟩ (fun i acc H2 zz=>by
      obtain ⟨rfl,hi,rfl⟩:=zz
      have:=List.length_filter_le (fun w=>decide (w∈F)) (allW.take i)
      rw [List.length_take] at this
      exact ⟨by rw [a24]; omega,SqL.of e5⟩) ?_ ?_⟩
     · rintro i x acc H2 hx ⟨rfl,hi,rfl⟩
       obtain ⟨v,hv,rfl⟩:=am0 hx
       have hil:=(List.getElem?_eq_some_iff.mp hv).1
       walk_at "run"
       refine ad0 v e45 ?_
       walk_at "run"
       have e3:(allW.take (i+1)).filter (fun w=>decide (w∈F))=(allW.take i).filter (fun w=>decide (w∈F))++(if v∈F then [v] else []):=by
        rw [List.take_add_one,hv,Option.toList_some,List.filter_append]
        by_cases h:v∈F
        · rw [if_pos h]; simp [h]
        · rw [if_neg h]; simp [h]
       rw [e3]
       by_cases h:v∈F
       · rw [if_pos (decide_eq_true h),if_pos h]
         walk_at "run"
         exact ⟨rfl,hil,by simp [wdsV,a25]⟩
       · rw [if_neg (by simp [h]),if_neg h,List.append_nil]
         exact ⟨rfl,hil,rfl⟩
     · rintro acc H2 ⟨rfl,_,rfl⟩ p10 H10 f10 s10 e10
       rw [a24,List.take_length] at e10
       have e10:H10 p10=some (.lst (wdsV (ordW F))):=e10
       rw [hF] at e10
       exact q p10 H10 (a26 (s4.trans s5) f10) (s4.trans (s5.trans s10)) e10
theorem ak4 (T:Txt K mg t) {d:Nat}(G__law_ways:FnOk P w K mg base CX0 (D+2) t.a__law_ways t.fd__law_ways ["talks","body"] (b95 K D)):FnOk P w K mg base CX0 (D+3) t.a__law_ways_of t.fd__law_ways_of ["talks","statement"] (bo9 K (D+1)):=by
 have G__law_turned:=ao8 (P:=P) (w:=w) (base:=base) T
 refine T.f__law_ways_of.F.ok sc_law_ways_of (fun vs H Q E h=>?_) (fun cdv A outer s H vs Q E hr h=>?_)
 · obtain ⟨tv,sv,s,ts,ns,bx,d,j,k,lp,n,r,rfl,_⟩:=h
   rfl
 · obtain ⟨tv,sv,s,ts,ns,bx,d,j,k,lp,n,r,rfl,ht,hs,hV,hj,hk,hw,hD,he,q⟩:=h
   refine ⟨_,(@a02 _ _ _ _ _ (@a16 _ _ 2 _ _ _ _ sc_law_ways_of.nd rfl (by walk_at "o") (@a19 _ _ _ _ _ _ _ (a10 K) (pv 1) (@a03 _ _ _ _) (fun _ _=>rfl)) (by rfl) (by walk_at "o"))
    (@a02 _ _ _ _ _ (@a33 _ _ _ _ _ _ _ _ (@a08 _ _ _ _ _ _ _ _ a38 (pv 2) (@a05 _ _ _ _) (nomark _)) (@a04 _ _ _ (@a17 _ _ _ _ (@a37 _ _ _ _ _ _ _ _ a32 (@a09 _ _ _ _ _ _ _ _ _ _ _ _ _ _ _ _ G__law_ways (hr.mono (by omega)) rfl T.f__law_ways.m T.f__law_ways.F.kp T.f__law_ways.b .nil a18 (@a00 _ _ _ _ _ (pv 0) (@a00 _ _ _ _ _ (@a19 _ _ _ _ _ _ _ (a10 K) (pv 1) (@a03 _ _ _ _) (fun _ _=>rfl)) (@a01 _) (by rfl)) (by rfl)) (by decide) (by rfl) (by rfl)) (@a09 _ _ _ _ _ _ _ _ _ _ _ _ _ _ _ _ G__law_ways (hr.mono (by omega)) rfl T.f__law_ways.m T.f__law_ways.F.kp T.f__law_ways.b .nil a18 (@a00 _ _ _ _ _ (pv 0) (@a00 _ _ _ _ _ (@a19 _ _ _ _ _ _ _ (a10 K) (pv 1) (@a03 _ _ _ _) (fun _ _=>rfl)) (@a01 _) (by rfl)) (by rfl)) (by decide) (by rfl) (by rfl))))) (@a12 _))
    (@a02 _ _ _ _ _ (@a33 _ _ _ _ _ _ _ _ (@a08 _ _ _ _ _ _ _ _ a38 (pv 2) (@a05 _ _ _ _) (nomark _)) (@a04 _ _ _ (@a17 _ _ _ _ (@a15 _ _ _ _ (@a01 _)))) (@a12 _))
    (@a02 _ _ _ _ _ (@a33 _ _ _ _ _ _ _ _ (@a08 _ _ _ _ _ _ _ _ a38 (pv 2) (@a05 _ _ _ _) (nomark _)) (@a02 _ _ _ _ _ (@a16 _ _ 3 _ _ _ _ sc_law_ways_of.nd rfl (by walk_at "o") (@a09 _ _ _ _ _ _ _ _ _ _ _ _ _ _ _ _ G__law_ways (hr.mono (by omega)) rfl T.f__law_ways.m T.f__law_ways.F.kp T.f__law_ways.b .nil a18 (@a00 _ _ _ _ _ (pv 0) (@a00 _ _ _ _ _ (@a19 _ _ _ _ _ _ _ (a10 K) (pv 1) (@a03 _ _ _ _) (fun _ _=>rfl)) (@a01 _) (by rfl)) (by rfl)) (by decide) (by rfl) (by rfl)) (by rfl) (by walk_at "o"))
     (@a04 _ _ _ (@a17 _ _ _ _ (@a09 _ _ _ _ _ _ _ _ _ _ _ _ _ _ _ _ G__law_turned (hr.mono (by omega)) rfl T.f__law_turned.m T.f__law_turned.F.kp T.f__law_turned.b .nil a18 (@a00 _ _ _ _ _ (pv 3) (@a00 _ _ _ _ _ (@b51 _ _ _ _ _ (@ac0 _ _ _ _ _ _ _ _ _ (@a05 _ _ _ _) (@a05 _ _ _ _) (@ac0 _ _ _ _ _ _ _ _ _ (@a05 _ _ _ _) (@a05 _ _ _ _) (@ac0 _ _ _ _ _ _ _ _ _ (@a05 _ _ _ _) (@a05 _ _ _ _) (@b50 _ _)))) rfl rfl (by simp) (by decide)) (@a01 _) (by rfl)) (by rfl)) (by decide) (by rfl) (by rfl))))) (@a12 _))
    (@a02 _ _ _ _ _ (@a33 _ _ _ _ _ _ _ _ (@a08 _ _ _ _ _ _ _ _ a38 (pv 2) (@a05 _ _ _ _) (nomark _)) (@a02 _ _ _ _ _ (@a16 _ _ 3 _ _ _ _ sc_law_ways_of.nd rfl (by walk_at "o") (@a09 _ _ _ _ _ _ _ _ _ _ _ _ _ _ _ _ G__law_ways (hr.mono (by omega)) rfl T.f__law_ways.m T.f__law_ways.F.kp T.f__law_ways.b .nil a18 (@a00 _ _ _ _ _ (pv 0) (@a00 _ _ _ _ _ (@au0 _ _ _ _ _ _ (by exact b05 hr) (@ae0 _ _ _ _ _ _ _ _ _ (bc1 K) (by rfl) T.z_dict bl4 (@a00 _ _ _ _ _ (pv 0) (@a01 _) (by rfl)) (by decide) (by decide) (by rfl) (by rfl)) (@a19 _ _ _ _ _ _ _ (a10 K) (pv 1) (@a03 _ _ _ _) (fun _ _=>rfl)) (fun _ _=>rfl)) (@a01 _) (by rfl)) (by rfl)) (by decide) (by rfl) (by rfl)) (by rfl) (by walk_at "o"))
     (@a04 _ _ _ (@a17 _ _ _ _ (@a09 _ _ _ _ _ _ _ _ _ _ _ _ _ _ _ _ G__law_turned (hr.mono (by omega)) rfl T.f__law_turned.m T.f__law_turned.F.kp T.f__law_turned.b .nil a18 (@a00 _ _ _ _ _ (pv 3) (@a00 _ _ _ _ _ (@b51 _ _ _ _ _ (@ac0 _ _ _ _ _ _ _ _ _ (@a05 _ _ _ _) (@a05 _ _ _ _) (@ac0 _ _ _ _ _ _ _ _ _ (@a05 _ _ _ _) (@a05 _ _ _ _) (@ac0 _ _ _ _ _ _ _ _ _ (@a05 _ _ _ _) (@a05 _ _ _ _) (@b50 _ _)))) rfl rfl (by simp) (by decide)) (@a01 _) (by rfl)) (by rfl)) (by decide) (by rfl) (by rfl))))) (@a12 _))
    (@a02 _ _ _ _ _ (@a33 _ _ _ _ _ _ _ _ (@a08 _ _ _ _ _ _ _ _ (a80 K) (pv 2) (@a15 _ _ _ _ (@a00 _ _ _ _ _ (@a05 _ _ _ _) (@a00 _ _ _ _ _ (@a05 _ _ _ _) (@a00 _ _ _ _ _ (@a05 _ _ _ _) (@a01 _) (by rfl)) (by rfl)) (by rfl))) (by with_unfolding_all rfl)) (@a04 _ _ _ (@a17 _ _ _ _ (@a15 _ _ _ _ (@a00 _ _ _ _ _ (@a05 _ _ _ _) (@a01 _) (by rfl))))) (@a12 _))
    (@a04 _ _ _ (@a17 _ _ _ _ (@a15 _ _ _ _ (@a00 _ _ _ _ _ (pv 2) (@a01 _) (by rfl))))))))))),?_⟩
   have sl:(1000000:Nat)≤sizeLine:=le_line (Nat.le_refl _)
   have hkd:=be1 (by decide) hw
   obtain ⟨a,us,rfl,ea⟩:=al8 hs hkd
   obtain ⟨n,rfl⟩:∃ m,n=m+1:=by
    cases n with
    | zero=>cases he
    | succ m=>exact ⟨m,rfl⟩
   walk_at "go"
   refine a23 (SqT.of ea) (a06 (j:=0) rfl) ?_
   walk_at "run"
   by_cases c1:s.wd=Str.ofString "test"
   · refine a35 c1 ?_
     walk_at "run"
     obtain ⟨c,x,y,rfl⟩:=an4 hkd c1
     obtain ⟨a',u1,u2,u3,hz,ea',hx,hy⟩:=af1 hs
     cases hz
     cases k with
     | zero=>exact hw.elim
     | succ k =>
       rw [b79] at he
       obtain ⟨A,g1,g2⟩:=Option.bind_eq_some_iff.mp he
       obtain ⟨B,g3,rfl⟩:=Option.map_eq_some_iff.mp g2
       have l1:=hw.2.1.1
       have l2:=hw.2.2.1
       have b1:=(a88 g1).2
       have b2:=(a88 g3).2
       refine a23 (SqT.of ea') (a06 (j:=2) rfl) ?_
       walk_at "run"
       refine ⟨tv,u2,x,ts,ns,bx,d,j,k,lp,n,A,rfl,ht,hx,hV,hj,by omega,hw.2.1,by omega,g1,fun p1 H1 f1 s1 e1=>?_⟩
       walk_at "run"
       refine a23 (SqT.of (s1 _ _ ea')) (a06 (j:=3) rfl) ?_
       walk_at "run"
       refine ⟨tv,u3,y,ts,ns,bx,d,j,k,lp,n,B,rfl,ht.same s1,hy.same s1,hV,hj,by omega,hw.2.2,by omega,g3,fun p2 H2 f2 s2 e2=>?_⟩
       refine a44 (s2 _ _ e1) e2 (by rw [a24,a24]; omega) ?_
       intro p3 H3 f3 s3 e3
       exact q p3 (A++B) H3 (a26 (s1.trans s2) f3) (s1.trans (s2.trans s3)) (by rw [e3,aa2]) (fun _=>Iff.rfl) (by rw [List.length_append]; omega)
   refine a28 c1 ?_
   walk_at "run"
   by_cases c2:s.wd=Str.ofString "wait"
   · refine a35 c2 ?_
     walk_at "run"
     obtain ⟨m,bs,rfl⟩:=an5 hkd c2
     have he:some ([]:List Wd)=some r:=he
     obtain rfl:=Option.some.inj he
     intro p1 H1 f1 s1 e1
     exact q p1 [] H1 f1 s1 e1 (fun _=>Iff.rfl) (by simp)
   refine a28 c2 ?_
   walk_at "run"
   by_cases c3:s.wd=Str.ofString "loop"
   · refine a35 c3 ?_
     walk_at "run"
     obtain ⟨x,rfl⟩:=an6 hkd c3
     obtain ⟨a',u,hz,ea',hx⟩:=sat_loop.mp hs
     cases hz
     cases k with
     | zero=>exact hw.elim
     | succ k =>
       rw [b78] at he
       obtain ⟨A,g1,rfl⟩:=Option.map_eq_some_iff.mp he
       have l1:=hw.1
       have b1:=(a88 g1).2
       refine a23 (SqT.of ea') (a06 (j:=1) rfl) ?_
       walk_at "run"
       refine ⟨tv,u,x,ts,ns,bx,d,j,k,true,n,A,rfl,ht,hx,hV,hj,by omega,hw,by omega,g1,fun p1 H1 f1 s1 e1=>?_⟩
       walk_at "run"
       refine ay7 ?_
       intro dd H2 f2 s2 e2
       walk_at "run"
       refine ⟨p1,dd,A,_,gL,rfl,s2 _ _ e1,e2,c19,by omega,fun l H3 f3 s3 e3=>?_⟩
       exact q l _ H3 (a26 (s1.trans s2) f3) (s1.trans (s2.trans s3)) e3 (bp0 A) (Nat.le_trans (List.length_filterMap_le _ _) (by omega))
   refine a28 c3 ?_
   walk_at "run"
   by_cases c4:s.wd=Str.ofString "call"
   · refine a35 c4 ?_
     walk_at "run"
     obtain ⟨c,rfl⟩:=ao2 hkd c4
     obtain ⟨a',hz,ea'⟩:=ax7 hs
     cases hz
     have hc:c∈ns.drop j:=by
      rcases okS_pl.mp hw with ⟨w,e⟩ | ⟨l,w,e⟩ | ⟨c',h1,e⟩ | ⟨_,e | e⟩ | e | e
      · exact absurd (congrArg (fun l=>l.head?) e) (by simp; decide +kernel)
      · simp at e
      · simp at e; rw [e]; exact h1
      all_goals simp at e
     obtain ⟨i,b,hji,hi,hft,hbo⟩:=hV.call hc
     rw [b80,hft] at he
     obtain ⟨E1,g1,rfl⟩:=Option.map_eq_some_iff.mp (show (eBf (eS ts n) b).map ag1=some r from he)
     have l1:=hbo.1
     have b1:=(a88 g1).2
     obtain ⟨lt,tvs,rfl,elt,hEt,hlt⟩:=id ht
     obtain ⟨kvs,hpr,hkv⟩:=c18 hEt hV.u ts.length (Nat.le_refl _)
     rw [List.take_of_length_le (Nat.le_refl _)] at hkv
     rw [List.take_of_length_le (Nat.le_of_eq hEt.1)] at hpr
     obtain ⟨v,hv,hbv⟩:∃ v,valV (a63 [] kvs) (Sum.inr c)=some v∧BAt H v b:=by
      unfold a51 at hft
      obtain ⟨x,hx,rfl⟩:=Option.map_eq_some_iff.mp hft
      have hxm:=List.mem_of_find?_eq_some hx
      have hxc:=List.find?_some hx
      obtain ⟨v,h1,h2⟩:=hkv x hxm
      have:x.1=c:=by simpa using hxc
      rw [this] at h1
      exact ⟨v,h1,h2⟩
     refine bl9 (SqL.of elt) hpr ?_
     intro n4 H4 f4 s4 j4
     walk_at "run"
     refine a23 (SqT.of (s4 _ _ ea')) (a06 (j:=1) rfl) ?_
     refine ⟨n4,v,rfl,hv ▸ DGet.k (k:=Sum.inr c) j4,?_⟩
     walk_at "run"
     refine ⟨.ref lt,v,b,ts,ns,bx,d - 1,i+1,5,false,n,E1,rfl,ht.same s4,hbv.same s4,hV,by omega,by omega,hbo,by omega,g1,fun p1 H5 f5 s5 e5=>?_⟩
     walk_at "run"
     refine ay7 ?_
     intro dd H6 f6 s6 e6
     walk_at "run"
     have s46:=s4.trans (s5.trans s6)
     refine ⟨p1,dd,E1,_,gC,rfl,s6 _ _ e5,e6,c20,by omega,fun l H7 f7 s7 e7=>?_⟩
     exact q l _ H7 (a26 s46 f7) (s46.trans s7) e7 (bp1 E1) (Nat.le_trans (List.length_filterMap_le _ _) (by omega))
   refine a28 c4 ?_
   walk_at "run"
   intro p1 H1 f1 s1 e1
   refine bw5 (ys:=[Str.ofString "say",Str.ofString "hand",Str.ofString "put"]) (SqL.of e1) ?_
   refine ⟨_,rfl,?_⟩
   by_cases hm:s.wd∈[Str.ofString "say",Str.ofString "hand",Str.ofString "put"]
   · rw [if_pos (decide_eq_true hm)]
     walk_at "run"
     have hr:r=[.on]:=by
      cases s with
      | plain ps =>
        rcases okS_pl.mp hw with ⟨w,rfl⟩ | ⟨l,w,rfl⟩ | ⟨c,_,rfl⟩ | ⟨_,rfl | rfl⟩ | rfl | rfl
        · exact (Option.some.inj he).symm
        · exact (Option.some.inj he).symm
        · exact absurd rfl c4
        · exact absurd hm (by decide +kernel)
        · exact absurd hm (by decide +kernel)
        · exact absurd hm (by decide +kernel)
        · exact absurd hm (by decide +kernel)
      | put n' e=>exact (Option.some.inj he).symm
      | loop x=>exact absurd rfl c3
      | wait m bs=>exact absurd rfl c2
      | test c x y=>exact absurd rfl c1
     intro l H2 f2 s2 e2
     rw [hr] at q
     exact q l [.on] H2 (a26 s1 f2) (s1.trans s2) e2 (fun _=>Iff.rfl) (by simp)
   · rw [if_neg (by simpa using hm)]
     walk_at "run"
     obtain ⟨v,hv,hr⟩:∃ v:Wd,s.wd=v.txt∧r=[v]:=by
      cases s with
      | plain ps =>
        rcases okS_pl.mp hw with ⟨w,rfl⟩ | ⟨l,w,rfl⟩ | ⟨c,_,rfl⟩ | ⟨_,rfl | rfl⟩ | rfl | rfl
        · exact absurd (by simp [Stm.wd]) hm
        · exact absurd (by simp [Stm.wd]) hm
        · exact absurd rfl c4
        · exact ⟨.again,rfl,(Option.some.inj ((ay8 (w:=.again)).symm.trans he)).symm⟩
        · exact ⟨.leave,rfl,(Option.some.inj ((ay8 (w:=.leave)).symm.trans he)).symm⟩
        · exact ⟨.back,rfl,(Option.some.inj ((ay8 (w:=.back)).symm.trans he)).symm⟩
        · exact ⟨.stop,rfl,(Option.some.inj ((ay8 (w:=.stop)).symm.trans he)).symm⟩
      | put n' e=>exact absurd (by simp [Stm.wd]) hm
      | loop x=>exact absurd rfl c3
      | wait m bs=>exact absurd rfl c2
      | test c x y=>exact absurd rfl c1
     intro l H2 f2 s2 e2
     rw [hr] at q
     rw [hv] at e2
     exact q l [v] H2 (a26 s1 f2) (s1.trans s2) e2 (fun _=>Iff.rfl) (by simp)
theorem a87 (T:Txt K mg t):∀ D:Nat,FnOk P w K mg base CX0 (D+2) t.a__law_ways t.fd__law_ways ["talks","body"] (b95 K D)∧FnOk P w K mg base CX0 (D+2) t.a__law_ways_of t.fd__law_ways_of ["talks","statement"] (bo9 K D)
 | 0=>⟨vac fun vs H Q E ⟨_,_,_,_,_,_,_,_,_,_,_,_,_,_,_,_,_,_,_,h,_⟩=>Nat.not_lt_zero _ h,vac fun vs H Q E ⟨_,_,_,_,_,_,_,_,_,_,_,_,_,_,_,_,_,_,_,h,_⟩=>Nat.not_lt_zero _ h⟩
 | D+1=>⟨aw0 (d:=0) T (a87 T D).1 (a87 T D).2,ak4 (d:=0) T (a87 T D).1⟩
theorem aw1 (T:Txt K mg t):∀ D:Nat,FnOk P w K mg base CX0 (D+2) t.a__law_ways t.fd__law_ways ["talks","body"] (b95 K D):=fun D=>(a87 T D).1
def cK (ts:Tks) (w:Str) (s:Stm):Nat:=if s.wd=w then (allS s).countP (a46 ts) else 0
theorem c21 {ts:Tks}{s:Stm}:(allS s).countP (a46 ts)=cK ts (Str.ofString "loop") s+cK ts (Str.ofString "test") s+cK ts (Str.ofString "wait") s:=by
 unfold cK
 by_cases h1:s.wd=Str.ofString "loop"
 · rw [if_pos h1,if_neg (fun z=>absurd (h1.symm.trans z) (by decide +kernel)),if_neg (fun z=>absurd (h1.symm.trans z) (by decide +kernel))]
   rfl
 rw [if_neg h1]
 by_cases h2:s.wd=Str.ofString "test"
 · rw [if_pos h2,if_neg (fun z=>absurd (h2.symm.trans z) (by decide +kernel))]
   omega
 rw [if_neg h2]
 by_cases h3:s.wd=Str.ofString "wait"
 · rw [if_pos h3]; omega
 rw [if_neg h3]
 cases s with
 | loop x=>exact absurd rfl h1
 | test c x y=>exact absurd rfl h2
 | wait n bs=>exact absurd rfl h3
 | put n e=>simp [allS,a46]
 | plain ps=>simp [allS,a46]
theorem b13 {ts:Tks}{w:Str}{s:Stm}(h:¬ s.wd=w):cK ts w s=0:=if_neg h
theorem b96 {ts:Tks}{w:Str}{s:Stm}(h:s.wd=w):cK ts w s=(allS s).countP (a46 ts):=if_pos h
theorem aj7 {H:Hp}{us vs:List V}{m n:Nat}{nm:Str}(h:Each (RowD H) us (List.replicate m nm)) (h2:Each (RowD H) vs (List.replicate n nm)):Each (RowD H) (us++vs) (List.replicate (m+n) nm):=by
 rw [← List.replicate_append_replicate]
 exact h.append h2
theorem a40 {H H':Hp}{vs:List V}{ns:List Str}(h:Each (RowD H) vs ns) (s:Same H H'):Each (RowD H') vs ns:=h.mono fun v n z=>by
 obtain ⟨a,z1,z2⟩:=z
 exact ⟨a,z1,s _ _ z2⟩
theorem be9 {H:Hp}{fl:Addr}{ws:List V}{o:HO}{vs:List V}{ns:List Str}(h:Each (RowD H) vs ns) (e:H fl=some (.lst ws)):Each (RowD (upd H fl o)) vs ns:=h.mono fun v n z=>by
 obtain ⟨a,z1,z2⟩:=z
 exact ⟨a,z1,by rw [a11 (af7 z2 e (fun z=>nomatch z))]; exact z2⟩
theorem bp2 {bs:List Br}{i:Nat}:(allR (bs.take i)).length≤(allR bs).length:=by
 induction bs generalizing i with
 | nil=>simp [allR]
 | cons x bs ih =>
   cases i with
   | zero=>simp [allR]
   | succ i =>
     cases x
     simp only [List.take_succ_cons,allR,List.length_append]
     have:=ih (i:=i)
     omega
def c78 (K:PySem.W.Frag) (D:Nat):Sp:=fun vs H Q _=>∃ (tv bv:V) (nm:Str) (b:List Stm) (ts:Tks) (ns:List Str) (bx j k:Nat) (lp:Bool),vs=[tv,.str nm,bv]∧TksAt H tv ts∧BAt H bv b∧TksV bx ts ns∧k≤5∧okB 8 (bnx bx) (ns.drop (j+1)) k lp b∧k<D∧(allB b).length≤1000∧∀ l vs H',H l=none→Same H H'→H' l=some (.lst vs)→Each (RowD H') vs (List.replicate ((allB b).countP (a46 ts)) nm)→Q (.ref l) H'
theorem b14 (T:Txt K mg t):∀ d:Nat,FnOk P w K mg base CX0 (d+220) t.a__law_dry t.fd__law_dry ["talks","name","body"] (c78 K d):=by
 intro d
 induction d with
 | zero=>exact vac (fun vs H Q E ⟨_,_,_,_,_,_,_,_,_,_,_,_,_,_,_,_,h,_⟩=>Nat.not_lt_zero _ h)
 | succ d G__law_dry =>
   have G__law_ways:=aw1 (P:=P) (w:=w) (base:=base) T
   refine T.f__law_dry.F.ok sc_law_dry (fun vs H Q E h=>?_) (fun cdv A outer s H vs Q E hr h=>?_)
   · obtain ⟨tv,bv,nm,b,ts,ns,bx,j,k,lp,rfl,_⟩:=h
     rfl
   · obtain ⟨tv,bv,nm,b,ts,ns,bx,j,k,lp,rfl,ht,hb,hV,hk5,hw,hd,hz,q⟩:=h
     obtain ⟨bl,us,rfl,e0,hE⟩:=bat_iff.mp hb
     replace G__law_ways:=G__law_ways 210
     refine ⟨_,(@a02 _ _ _ _ _ (@a16 _ _ 3 _ _ _ _ sc_law_dry.nd rfl (by walk_at "o") (@a15 _ _ _ _ (@a01 _)) (by rfl) (by walk_at "o"))
     (@a02 _ _ _ _ _ (@a62 _ _ _ _ _ _ _ _ PassesOwn.never rfl (a21 K (pv 2)) (a13 (i:=4) sc_law_dry.nd rfl (by walk_at "o")) (@a30 _ _ _ _ _ (@a33 _ _ _ _ _ _ _ _ (@a08 _ _ _ _ _ _ _ _ a38 (@a19 _ _ _ _ _ _ _ (a10 K) (pv 4) (@a03 _ _ _ _) (fun _ _=>rfl)) (@a05 _ _ _ _) (nomark _)) (@a02 _ _ _ _ _ (@a16 _ _ 5 _ _ _ _ sc_law_dry.nd rfl (by walk_at "o") (@a09 _ _ _ _ _ _ _ _ _ _ _ _ _ _ _ _ G__law_ways (hr.mono (by omega)) rfl T.f__law_ways.m T.f__law_ways.F.kp T.f__law_ways.b .nil a18 (@a00 _ _ _ _ _ (pv 0) (@a00 _ _ _ _ _ (@a19 _ _ _ _ _ _ _ (a10 K) (pv 4) (@a03 _ _ _ _) (fun _ _=>rfl)) (@a01 _) (by rfl)) (by rfl)) (by decide) (by rfl) (by rfl)) (by rfl) (by walk_at "o"))
      (@a30 _ _ _ _ _ (@a33 _ _ _ _ _ _ _ _ (@PW.pt _ _ _ (@am2 _ _ _ _ _ _ _ (@a08 _ _ _ _ _ _ _ _ (a80 K) (@a05 _ _ _ _) (pv 5) (by with_unfolding_all rfl)) (@ag2 _ _ _ _ (@a08 _ _ _ _ _ _ _ _ (a80 K) (@a05 _ _ _ _) (pv 5) (by with_unfolding_all rfl))))) (@a04 _ _ _ (@a29 _ _ _ _ (@a69 _ K _ _ _ _ _ _ _ _ _ _ _ PySem.F.plainAttrs_list PySem.F.slot_list_append PySem.F.type_list_append a57 (pv 3) (@a00 _ _ _ _ _ (@a20 _ _ _ _ _ (@a00 _ _ _ _ _ (pv 1) (@a00 _ _ _ _ _ (@a05 _ _ _ _) (@a00 _ _ _ _ _ (@a05 _ _ _ _) (@a01 _) (by rfl)) (by rfl)) (by rfl))) (@a01 _) (by rfl)) (by rfl) (by rfl) (by rfl) (by rfl) (by rfl) (by rfl)) (by rfl))) (@a12 _))
      (@a04 _ _ _ (@a16 _ _ 3 _ _ _ _ sc_law_dry.nd rfl (by walk_at "o") (@a37 _ _ _ _ _ _ _ _ a32 (pv 3) (@a09 _ _ _ _ _ _ _ _ _ _ _ _ _ _ _ _ G__law_dry (hr.mono (by omega)) rfl T.f__law_dry.m T.f__law_dry.F.kp T.f__law_dry.b .nil a18 (@a00 _ _ _ _ _ (pv 0) (@a00 _ _ _ _ _ (pv 1) (@a00 _ _ _ _ _ (@a19 _ _ _ _ _ _ _ (a10 K) (pv 4) (@a03 _ _ _ _) (fun _ _=>rfl)) (@a01 _) (by rfl)) (by rfl)) (by rfl)) (by decide) (by rfl) (by rfl))) (by rfl) (by walk_at "o"))))) (@a12 _))
      (@a30 _ _ _ _ _ (@a33 _ _ _ _ _ _ _ _ (@a08 _ _ _ _ _ _ _ _ a38 (@a19 _ _ _ _ _ _ _ (a10 K) (pv 4) (@a03 _ _ _ _) (fun _ _=>rfl)) (@a05 _ _ _ _) (nomark _)) (@a02 _ _ _ _ _ (@a16 _ _ 3 _ _ _ _ sc_law_dry.nd rfl (by walk_at "o") (@a37 _ _ _ _ _ _ _ _ a32 (pv 3) (@a09 _ _ _ _ _ _ _ _ _ _ _ _ _ _ _ _ G__law_dry (hr.mono (by omega)) rfl T.f__law_dry.m T.f__law_dry.F.kp T.f__law_dry.b .nil a18 (@a00 _ _ _ _ _ (pv 0) (@a00 _ _ _ _ _ (pv 1) (@a00 _ _ _ _ _ (@a19 _ _ _ _ _ _ _ (a10 K) (pv 4) (@a03 _ _ _ _) (fun _ _=>rfl)) (@a01 _) (by rfl)) (by rfl)) (by rfl)) (by decide) (by rfl) (by rfl))) (by rfl) (by walk_at "o"))
       (@a04 _ _ _ (@a16 _ _ 3 _ _ _ _ sc_law_dry.nd rfl (by walk_at "o") (@a37 _ _ _ _ _ _ _ _ a32 (pv 3) (@a09 _ _ _ _ _ _ _ _ _ _ _ _ _ _ _ _ G__law_dry (hr.mono (by omega)) rfl T.f__law_dry.m T.f__law_dry.F.kp T.f__law_dry.b .nil a18 (@a00 _ _ _ _ _ (pv 0) (@a00 _ _ _ _ _ (pv 1) (@a00 _ _ _ _ _ (@a19 _ _ _ _ _ _ _ (a10 K) (pv 4) (@a03 _ _ _ _) (fun _ _=>rfl)) (@a01 _) (by rfl)) (by rfl)) (by rfl)) (by decide) (by rfl) (by rfl))) (by rfl) (by walk_at "o")))) (@a12 _))
      (@a04 _ _ _ (@a33 _ _ _ _ _ _ _ _ (@a08 _ _ _ _ _ _ _ _ a38 (@a19 _ _ _ _ _ _ _ (a10 K) (pv 4) (@a03 _ _ _ _) (fun _ _=>rfl)) (@a05 _ _ _ _) (nomark _)) (@a04 _ _ _ (@a62 _ _ _ _ _ _ _ _ PassesOwn.never rfl (a21 K (@a19 _ _ _ _ _ _ _ (a10 K) (pv 4) (@a03 _ _ _ _) (fun _ _=>rfl))) (a74 K (n:=2) rfl (a27 (a13 (i:=6) sc_law_dry.nd rfl (by walk_at "o")) (a27 (a13 (i:=7) sc_law_dry.nd rfl (by walk_at "o")) (@a71 _)))) (@a04 _ _ _ (@a16 _ _ 3 _ _ _ _ sc_law_dry.nd rfl (by walk_at "o") (@a37 _ _ _ _ _ _ _ _ a32 (pv 3) (@a09 _ _ _ _ _ _ _ _ _ _ _ _ _ _ _ _ G__law_dry (hr.mono (by omega)) rfl T.f__law_dry.m T.f__law_dry.F.kp T.f__law_dry.b .nil a18 (@a00 _ _ _ _ _ (pv 0) (@a00 _ _ _ _ _ (pv 1) (@a00 _ _ _ _ _ (pv 7) (@a01 _) (by rfl)) (by rfl)) (by rfl)) (by decide) (by rfl) (by rfl))) (by rfl) (by walk_at "o"))) (by intro _; rfl))) (@a12 _))))) (by intro _; rfl))
     (@a04 _ _ _ (@a17 _ _ _ _ (pv 3))))),?_⟩
     have sl:(1000000:Nat)≤sizeLine:=le_line (Nat.le_refl _)
     have hVl:=hV.l
     walk_at "go"
     intro f0 H1 g1 s1 e1
     walk_at "run"
     refine ⟨⟨us,SqL.of (s1 _ _ e0)⟩,a54 (xs:=us) (fun i σ H'=>i≤us.length∧∃ (fl:Addr) (vs:List V) (y4 y5 y6 y7:Option V),σ=[some tv,some (.str nm),some (.ref bl),some (.ref fl),y4,y5,y6,y7]∧Same H H'∧H fl=none∧H' fl=some (.lst vs)∧Each (RowD H') vs (List.replicate ((allB (b.take i)).countP (a46 ts)) nm)) ⟨Nat.zero_le _,f0,[],_,_,_,_,rfl,s1,g1,e1,Each.nil⟩ (fun i σ H' _ zz=>by obtain ⟨_,_,_,_,_,_,_,_,z,_⟩:=zz; exact SqL.of (z _ _ e0)) ?_ ?_⟩
     · rintro i sv σ' H2 hi ⟨hib,fl,vs,y4,y5,y6,y7,rfl,s2,f2,e2,hR⟩
       obtain ⟨st,hst⟩:∃ st,b[i]?=some st:=⟨_,List.getElem?_eq_getElem (by rw [← hE.1]; exact (List.getElem?_eq_some_iff.mp hi).1)⟩
       have hil:i<us.length:=(List.getElem?_eq_some_iff.mp hi).1
       have hS:=hE.2 i _ _ hi hst
       have hmem:=List.mem_of_getElem? hst
       have hws:=hw.2 st hmem
       have hkd:=be1 (by decide) hws
       obtain ⟨a,us',rfl,ea⟩:=al8 hS hkd
       have h0:=as3 (b:=b) (i+1)
       have h2:allB (b.take (i+1))=allB (b.take i)++allS st:=by
        rw [List.take_add_one,hst,ac3]
        simp [allB]
       rw [h2,List.length_append] at h0
       have hcc:(allB (b.take (i+1))).countP (a46 ts)=(allB (b.take i)).countP (a46 ts)+cK ts (Str.ofString "loop") st+cK ts (Str.ofString "test") st+cK ts (Str.ofString "wait") st:=by
        rw [h2,List.countP_append,c21]
        omega
       have hcl:=List.countP_le_length (p:=a46 ts) (l:=allB (b.take i))
       generalize hc0:(allB (b.take i)).countP (a46 ts)=c0 at hR hcc hcl
       walk_at "run"
       refine a64 (fun σ' H'=>∃ (fl:Addr) (vs:List V) (y5:Option V),σ'=[some tv,some (.str nm),some (.ref bl),some (.ref fl),some (.ref a),y5,y6,y7]∧Same H H'∧H fl=none∧H' fl=some (.lst vs)∧Each (RowD H') vs (List.replicate (c0+cK ts (Str.ofString "loop") st) nm)) ?_ ?_
       · walk_at "run"
         refine a23 (SqT.of (s2 _ _ ea)) (a06 (j:=0) rfl) ?_
         walk_at "run"
         by_cases h1:st.wd=Str.ofString "loop"
         · refine a35 h1 ?_
           walk_at "run"
           obtain ⟨x,rfl⟩:=an6 hkd h1
           obtain ⟨a',u,hz',ea',hx⟩:=sat_loop.mp hS
           cases hz'
           cases k with
           | zero=>exact hws.elim
           | succ k =>
             have hwx:okB 8 (bnx bx) (ns.drop (j+1)) k true x:=hws
             have hwl:=hwx.1
             have hsl:(allS (.loop x)).length=1+(allB x).length:=by simp only [allS,List.length_cons]; omega
             obtain ⟨E,hEx⟩:=hV.ex (j:=j) (by omega) hwx
             have hck:cK ts (Str.ofString "loop") (.loop x)=(if dryE E=true then 1 else 0)+(allB x).countP (a46 ts):=by
              rw [b96 (show (Stm.loop x).wd=Str.ofString "loop" from rfl)]
              simp only [allS,List.countP_cons,a46,hEx]
              omega
             have hcx:=List.countP_le_length (p:=a46 ts) (l:=allB x)
             refine a23 (SqT.of (s2 _ _ ea')) (a06 (j:=1) rfl) ?_
             walk_at "run"
             refine ⟨tv,u,x,ts,ns,bx,3,j+1,k,true,30,E,rfl,ht.same s2,hx.same s2,hV,by omega,by omega,hwx,by omega,hEx,fun l3 H3 f3 s3 e3=>?_⟩
             walk_at "run"
             refine a64 (fun σ' H'=>∃ (vs:List V),σ'=[some tv,some (.str nm),some (.ref bl),some (.ref fl),some (.ref a),some (.ref l3),y6,y7]∧Same H H'∧H' fl=some (.lst vs)∧Each (RowD H') vs (List.replicate (c0+(if dryE E=true then 1 else 0)) nm)) ?_ ?_
             · walk_at "run"
               refine ad0 .on e3 ?_
               walk_at "run"
               refine be7 (R:=dryE E=true) (fun hR1=>?_) (fun hc=>by unfold dryE; rw [hc]; rfl) (fun hc hX=>?_)
               · rw [if_pos rfl]
                 walk_at "run"
                 refine aa0 (SqL.of (s3 _ _ e2)) ?_
                 walk_at "run"
                 intro tp H4 f4 s4 e4
                 walk_at "run"
                 have e24:=(s3.trans s4) _ _ e2
                 have hvl:=hR.1
                 rw [List.length_replicate] at hvl
                 refine a86 e24 (by omega) ?_
                 refine ⟨_,rfl,a50 (s2.trans (s3.trans s4)) f2,a14,?_⟩
                 rw [if_pos hR1]
                 have hR3:Each (RowD (upd H4 fl (.lst (vs++[.ref tp])))) vs (List.replicate c0 nm):=be9 (a40 hR (s3.trans s4)) e24
                 exact aj7 (n:=1) hR3 (Each.nil.snoc ⟨tp,rfl,by rw [a11 (af7 e4 e24 (fun z=>nomatch z))]; exact e4⟩)
               · walk_at "run"
                 refine ad0 .again e3 ?_
                 walk_at "run"
                 by_cases ha:Wd.again∈E
                 · rw [decide_eq_true ha]
                   have:=hX (by unfold dryE; rw [decide_eq_true ha,Bool.or_true])
                   exact this
                 · rw [decide_eq_false ha,if_neg Bool.false_ne_true]
                   walk_at "run"
                   refine ⟨_,rfl,s2.trans s3,s3 _ _ e2,?_⟩
                   rw [if_neg (by unfold dryE; rw [hc,decide_eq_false ha]; simp),Nat.add_zero]
                   exact a40 hR s3
             rintro σ' H4 ⟨vs4,rfl,s4,e4,hR4⟩
             walk_at "run"
             refine a23 (SqT.of (s4 _ _ ea')) (a06 (j:=1) rfl) ?_
             refine ⟨tv,u,nm,x,ts,ns,bx,j,k,true,rfl,ht.same s4,hx.same s4,hV,by omega,hwx,by omega,by omega,fun l5 vs5 H5 f5 s5 e5 hR5=>?_⟩
             have q4:=hR4.1
             have q5:=hR5.1
             rw [List.length_replicate] at q4 q5
             refine a44 (s5 _ _ e4) e5 (by split at q4 <;> omega) ?_
             intro l6 H6 f6 s6 e6
             have s46:=s4.trans (s5.trans s6)
             refine ⟨l6,_,_,rfl,s46,a26 (s4.trans s5) f6,e6,?_⟩
             rw [hck,←Nat.add_assoc]
             exact aj7 (a40 hR4 (s5.trans s6)) (a40 hR5 s6)
         · refine a28 h1 ?_
           refine ⟨fl,vs,_,rfl,s2,f2,e2,?_⟩
           rw [b13 h1]
           exact hR
       rintro σ' H3 ⟨fl,vs,y5,rfl,s3,f3,e3,hR⟩
       refine a64 (fun σ' H'=>∃ (fl:Addr) (vs:List V) (y5:Option V),σ'=[some tv,some (.str nm),some (.ref bl),some (.ref fl),some (.ref a),y5,y6,y7]∧Same H H'∧H fl=none∧H' fl=some (.lst vs)∧Each (RowD H') vs (List.replicate (c0+cK ts (Str.ofString "loop") st+cK ts (Str.ofString "test") st) nm)) ?_ ?_
       · walk_at "run"
         refine a23 (SqT.of (s3 _ _ ea)) (a06 (j:=0) rfl) ?_
         walk_at "run"
         by_cases h1:st.wd=Str.ofString "test"
         · refine a35 h1 ?_
           walk_at "run"
           obtain ⟨c,x,y,rfl⟩:=an4 hkd h1
           obtain ⟨a',u1,u2,u3,hz',ea',hx,hy⟩:=af1 hS
           cases hz'
           have hlo:cK ts (Str.ofString "loop") (.test c x y)=0:=b13 (by show ¬ (Str.ofString "test"=Str.ofString "loop"); decide +kernel)
           cases k with
           | zero=>exact hws.elim
           | succ k =>
             have hsl:(allS (.test c x y)).length=1+(allB x).length+(allB y).length:=by simp only [allS,List.length_cons,List.length_append]; omega
             have hck:cK ts (Str.ofString "test") (.test c x y)=(allB x).countP (a46 ts)+(allB y).countP (a46 ts):=by
              rw [b96 (show (Stm.test c x y).wd=Str.ofString "test" from rfl)]
              simp only [allS,List.countP_cons,List.countP_append,a46]
              simp
             have hcx:=List.countP_le_length (p:=a46 ts) (l:=allB x)
             have hcy:=List.countP_le_length (p:=a46 ts) (l:=allB y)
             refine a23 (SqT.of (s3 _ _ ea')) (a06 (j:=2) rfl) ?_
             walk_at "run"
             refine ⟨tv,u2,nm,x,ts,ns,bx,j,k,lp,rfl,ht.same s3,hx.same s3,hV,by omega,hws.2.1,by omega,by omega,fun l5 vs5 H5 f5 s5 e5 hR5=>?_⟩
             rw [hlo] at hR
             have q4:=hR.1
             have q5:=hR5.1
             rw [List.length_replicate] at q4 q5
             refine a44 (s5 _ _ e3) e5 (by omega) ?_
             intro l6 H6 f6 s6 e6
             walk_at "run"
             have s36:=s3.trans (s5.trans s6)
             have hR6:=aj7 (a40 hR (s5.trans s6)) (a40 hR5 s6)
             refine a23 (SqT.of (s36 _ _ ea')) (a06 (j:=3) rfl) ?_
             walk_at "run"
             refine ⟨tv,u3,nm,y,ts,ns,bx,j,k,lp,rfl,ht.same s36,hy.same s36,hV,by omega,hws.2.2,by omega,by omega,fun l7 vs7 H7 f7 s7 e7 hR7=>?_⟩
             have q6:=hR6.1
             have q7:=hR7.1
             rw [List.length_replicate] at q6 q7
             refine a44 (s7 _ _ e6) e7 (by omega) ?_
             intro l8 H8 f8 s8 e8
             have s38:=s36.trans (s7.trans s8)
             refine ⟨l8,_,_,rfl,s38,a26 (s36.trans s7) f8,e8,?_⟩
             have hR8:=aj7 (a40 hR6 (s7.trans s8)) (a40 hR7 s8)
             rw [hlo,hck,←Nat.add_assoc]
             exact hR8
         · refine a28 h1 ?_
           refine ⟨fl,vs,_,rfl,s3,f3,e3,?_⟩
           rw [b13 h1]
           exact hR
       rintro σ' H4 ⟨fl,vs,y5,rfl,s4,f4,e4,hR⟩
       walk_at "run"
       refine a23 (SqT.of (s4 _ _ ea)) (a06 (j:=0) rfl) ?_
       walk_at "run"
       by_cases h1:st.wd=Str.ofString "wait"
       · refine a35 h1 ?_
         walk_at "run"
         obtain ⟨n,bs,rfl⟩:=an5 hkd h1
         obtain ⟨a',l,ws,hz',ea',el,hbr⟩:=sat_wait.mp hS
         cases hz'
         have hlo:cK ts (Str.ofString "loop") (.wait n bs)=0:=b13 (by show ¬ (Str.ofString "wait"=Str.ofString "loop"); decide +kernel)
         have hte:cK ts (Str.ofString "test") (.wait n bs)=0:=b13 (by show ¬ (Str.ofString "wait"=Str.ofString "test"); decide +kernel)
         rw [hlo,hte] at hR hcc
         cases k with
         | zero=>exact hws.elim
         | succ k =>
           have hsl:(allS (.wait n bs)).length=1+(allR bs).length:=by simp only [allS,List.length_cons]; omega
           have hck:cK ts (Str.ofString "wait") (.wait n bs)=(allR bs).countP (a46 ts):=by
            rw [b96 (show (Stm.wait n bs).wd=Str.ofString "wait" from rfl)]
            simp only [allS,List.countP_cons,a46]
            simp
           rw [hck] at hcc
           refine a23 (SqT.of (s4 _ _ ea')) (a06 (j:=2) rfl) ?_
           refine ⟨l,rfl,⟨ws,SqL.of (s4 _ _ el)⟩,a54 (xs:=ws) (fun i2 σ H'=>i2≤ws.length∧∃ (fl:Addr) (vs:List V) (y6 y7:Option V),σ=[some tv,some (.str nm),some (.ref bl),some (.ref fl),some (.ref a),y5,y6,y7]∧Same H H'∧H fl=none∧H' fl=some (.lst vs)∧Each (RowD H') vs (List.replicate (c0+(allR (bs.take i2)).countP (a46 ts)) nm)) ⟨Nat.zero_le _,fl,vs,_,_,rfl,s4,f4,e4,hR⟩ (fun i σ H' _ zz=>by obtain ⟨_,_,_,_,_,_,z,_⟩:=zz; exact SqL.of (z _ _ el)) ?_ ?_⟩
           · rintro i2 bv σ' H5 hi2 ⟨hib2,fl,vs,y6,y7,rfl,s5,f5,e5,hR5⟩
             obtain ⟨br,hbr2⟩:∃ br,bs[i2]?=some br:=⟨_,List.getElem?_eq_getElem (by rw [← hbr.1]; exact (List.getElem?_eq_some_iff.mp hi2).1)⟩
             have hil2:i2<ws.length:=(List.getElem?_eq_some_iff.mp hi2).1
             obtain ⟨pp,xx,rfl,hwx⟩:=hws.2.2.2 br (List.mem_of_getElem? hbr2)
             obtain ⟨q',pv,bv',rfl,hq,hp1,hp2⟩:=hbr.2 i2 _ _ hi2 hbr2
             have g2:allR (bs.take (i2+1))=allR (bs.take i2)++allB xx:=by
              rw [List.take_add_one,hbr2,Option.toList_some,as8]
             have g1:=bp2 (bs:=bs) (i:=i2+1)
             rw [g2,List.length_append] at g1
             rw [g2,List.countP_append,←Nat.add_assoc]
             have hcx:=List.countP_le_length (p:=a46 ts) (l:=allR (bs.take i2))
             have hcy:=List.countP_le_length (p:=a46 ts) (l:=allB xx)
             walk_at "run"
             refine b55 (SqT.of (s5 _ _ hq)) rfl ?_
             walk_at "run"
             refine ⟨tv,bv',nm,xx,ts,ns,bx,j,k,lp,rfl,ht.same s5,hp2.same s5,hV,by omega,hwx,by omega,by omega,fun l6 vs6 H6 f6 s6 e6 hR6=>?_⟩
             have q5:=hR5.1
             have q6:=hR6.1
             rw [List.length_replicate] at q5 q6
             walk_at "run"
             refine a44 (s6 _ _ e5) e6 (by omega) ?_
             intro l7 H7 f7 s7 e7
             refine ⟨by omega,l7,_,_,_,rfl,s5.trans (s6.trans s7),a26 (s5.trans s6) f7,e7,?_⟩
             exact aj7 (a40 hR5 (s6.trans s7)) (a40 hR6 s7)
           · rintro σ' H5 ⟨_,fl,vs,y6,y7,rfl,s5,f5,e5,hR5⟩
             refine ⟨by omega,fl,vs,_,_,_,_,rfl,s5,f5,e5,?_⟩
             rw [List.take_of_length_le (Nat.le_of_eq hbr.1.symm)] at hR5
             rw [hcc]
             exact hR5
       · refine a28 h1 ?_
         walk_at "run"
         refine ⟨by omega,fl,vs,_,_,_,_,rfl,s4,f4,e4,?_⟩
         rw [hcc,b13 h1]
         exact hR
     · rintro σ' H2 ⟨_,fl,vs,y4,y5,y6,y7,rfl,s2,f2,e2,hR⟩
       walk_at "run"
       rw [List.take_of_length_le (Nat.le_of_eq hE.1.symm)] at hR
       exact q fl vs H2 f2 s2 e2 hR
theorem ay9 {H:Hp}:∀ sd:List Str,Tr.Ats H (sd.map Tr.str) (a25 sd) []
 | []=>by simp [Tr.Ats,a25]
 | x::sd=>ats_cons0.mpr ⟨_,_,rfl,ag0,ay9 sd⟩
def rwT (n:Str):Tr:=.tup [.str n,.str "dry",.str ""]
theorem az0 {H:Hp}:∀ {vs:List V}{ns:List Str},Each (RowD H) vs ns→Tr.Ats H (ns.map rwT) vs []
 | [],[],_=>by simp [Tr.Ats]
 | [],n::ns,h=>absurd h.1 (by simp)
 | v::vs,[],h=>absurd h.1 (by simp)
 | v::vs,n::ns,h=>by
   obtain ⟨a,rfl,e⟩:=h.2 0 v n rfl rfl
   refine ats_cons0.mpr ⟨_,_,rfl,?_,az0 ⟨Nat.succ.inj h.1,fun j v x h1 h2=>h.2 (j+1) v x h1 h2⟩⟩
   unfold rwT
   simp only [Tr.At]
   exact ⟨a,_,rfl,e,ay9 [n,"dry",""]⟩
theorem b97 {H:Hp}{l:Addr}{vs:List V}{ns:List Str}(e:H l=some (.lst vs)) (h:Each (RowD H) vs ns):(Tr.lst (ns.map rwT)).At H (.ref l) [l]:=⟨l,_,[],rfl,e,az0 h,rfl⟩
theorem bp3 {ns:List Str}:Tr.hs (ns.map rwT)≤1:=by
 induction ns with
 | nil=>exact Nat.zero_le _
 | cons x ns ih =>
   simp only [List.map_cons,Tr.hs,rwT,Tr.h]
   exact Nat.max_le.mpr ⟨by simp,ih⟩
theorem b98 {H:Hp}{v:V}{n:Str}(h:Nmd H v n):∃ a,v=.ref a:=by
 obtain ⟨a,_,rfl,_⟩:=h
 exact ⟨a,rfl⟩
theorem c22 (bx:Nat):(bnx bx).Nodup:=by
 unfold bnx
 exact List.Nodup.sublist (List.take_sublist _ _) (by decide +kernel)
theorem bp4 (bx:Nat):(bnx bx).length≤2:=by
 unfold bnx
 rw [List.length_take]
 exact Nat.min_le_right _ _
theorem c23 (T:Txt K mg t):FnOk P w K mg base CX0 230 t.a_law t.fd_law ["script"] (aq3 K):=by
 have G__law_cell_at:=ak3 (P:=P) (w:=w) (base:=base) T
 have G__law_deck:=av7 (P:=P) (w:=w) (base:=base) T
 have G__law_dry:=b14 (P:=P) (w:=w) (base:=base) T
 have G__law_script:=ao7 (P:=P) (w:=w) (base:=base) T
 have G_faults:=as6 (P:=P) (w:=w) (base:=base) T
 have G_sound:=be3 (P:=P) (w:=w) (base:=base) T
 refine T.f_law.F.ok sc_law (fun vs H Q E h=>?_) (fun cdv A outer s H vs Q E hr h=>?_)
 · obtain ⟨a,ns,rfl,_⟩:=h
   rfl
 · obtain ⟨a,ns,rfl,hS,hn,q⟩:=h
   replace G__law_dry:=G__law_dry 6
   refine ⟨_,(@a02 _ _ _ _ _ (@a16 _ _ 1 _ _ _ _ sc_law.nd rfl (by walk_at "o") (@a09 _ _ _ _ _ _ _ _ _ _ _ _ _ _ _ _ G__law_deck (hr.mono (by omega)) rfl T.f__law_deck.m T.f__law_deck.F.kp T.f__law_deck.b .nil a18 (@a00 _ _ _ _ _ (pv 0) (@a00 _ _ _ _ _ (@a90 _ _ _ _ _ _ _ _ a38 (@a37 _ _ _ _ _ _ _ _ ah9 (@a09 _ _ _ _ _ _ _ _ _ _ _ _ _ _ _ _ G__law_cell_at (hr.mono (by omega)) rfl T.f__law_cell_at.m T.f__law_cell_at.F.kp T.f__law_cell_at.b .nil a18 (@a00 _ _ _ _ _ (pv 0) (@a00 _ _ _ _ _ (@a03 _ _ _ _) (@a01 _) (by rfl)) (by rfl)) (by decide) (by rfl) (by rfl)) (@a03 _ _ _ _)) (@a03 _ _ _ _) (nomark _)) (@a01 _) (by rfl)) (by rfl)) (by decide) (by rfl) (by rfl)) (by rfl) (by walk_at "o"))
    (@a02 _ _ _ _ _ (@ah8 _ _ _ _ _ _ (@a09 _ _ _ _ _ _ _ _ _ _ _ _ _ _ _ _ G__law_script (hr.mono (by omega)) rfl T.f__law_script.m T.f__law_script.F.kp T.f__law_script.b .nil a18 (@a00 _ _ _ _ _ (pv 1) (@a01 _) (by rfl)) (by decide) (by rfl) (by rfl)) (a74 K (n:=2) rfl (a27 (a13 (i:=2) sc_law.nd rfl (by walk_at "o")) (a27 (a13 (i:=3) sc_law.nd rfl (by walk_at "o")) (@a71 _)))) (by rfl) (by rfl) (by rfl))
    (@a02 _ _ _ _ _ (@a16 _ _ 4 _ _ _ _ sc_law.nd rfl (by walk_at "o") (@a15 _ _ _ _ (@a01 _)) (by rfl) (by walk_at "o"))
    (@a02 _ _ _ _ _ (@a62 _ _ _ _ _ _ _ _ PassesOwn.never rfl (a21 K (pv 3)) (a74 K (n:=2) rfl (a27 (a13 (i:=5) sc_law.nd rfl (by walk_at "o")) (a27 (a13 (i:=6) sc_law.nd rfl (by walk_at "o")) (@a71 _)))) (@a04 _ _ _ (@a16 _ _ 4 _ _ _ _ sc_law.nd rfl (by walk_at "o") (@a37 _ _ _ _ _ _ _ _ a32 (pv 4) (@a09 _ _ _ _ _ _ _ _ _ _ _ _ _ _ _ _ G__law_dry (hr.mono (by omega)) rfl T.f__law_dry.m T.f__law_dry.F.kp T.f__law_dry.b .nil a18 (@a00 _ _ _ _ _ (pv 3) (@a00 _ _ _ _ _ (pv 5) (@a00 _ _ _ _ _ (pv 6) (@a01 _) (by rfl)) (by rfl)) (by rfl)) (by decide) (by rfl) (by rfl))) (by rfl) (by walk_at "o"))) (by intro _; rfl))
    (@a02 _ _ _ _ _ (@a16 _ _ 7 _ _ _ _ sc_law.nd rfl (by walk_at "o") (@a20 _ _ _ _ _ (@a00 _ _ _ _ _ (@ae0 _ _ _ _ _ _ _ _ _ (am5 K) (by rfl) T.z_list am7 (@a00 _ _ _ _ _ (pv 2) (@a01 _) (by rfl)) (by decide) (by decide) (by rfl) (by rfl)) (@a00 _ _ _ _ _ (@ae0 _ _ _ _ _ _ _ _ _ (am5 K) (by rfl) T.z_list am7 (@a00 _ _ _ _ _ (pv 3) (@a01 _) (by rfl)) (by decide) (by decide) (by rfl) (by rfl)) (@a01 _) (by rfl)) (by rfl))) (by rfl) (by walk_at "o"))
    (@a02 _ _ _ _ _ (@a16 _ _ 8 _ _ _ _ sc_law.nd rfl (by walk_at "o") (@a09 _ _ _ _ _ _ _ _ _ _ _ _ _ _ _ _ G_faults (hr.mono (by omega)) rfl T.f_faults.m T.f_faults.F.kp T.f_faults.b .nil a18 (@a00 _ _ _ _ _ (pv 7) (@a01 _) (by rfl)) (by decide) (by rfl) (by rfl)) (by rfl) (by walk_at "o"))
    (@a02 _ _ _ _ _ (@a33 _ _ _ _ _ _ _ _ (@PW.pt _ _ _ (@am2 _ _ _ _ _ _ _ (@b18 _ _ _ _ (ad5 K (@a56 _ _ _ _ _ _ _ _ _ (bl2 K) (by rfl) T.z_isinstance am6 (@a00 _ _ _ _ _ (pv 8) (@a00 _ _ _ _ _ (bi7 (v:=.ty "list") (by rfl) T.z_list am7 rfl) (@a01 _) (by rfl)) (by rfl)) (by decide) (by decide) (by rfl) (by rfl)) (fun _=>rfl))) (@am2 _ _ _ _ _ _ _ (@a08 _ _ _ _ _ _ _ _ (bc6 (by exact hr.units)) (pv 8) (pv 4) (nomark _)) (@ag2 _ _ _ _ (@a08 _ _ _ _ _ _ _ _ (bd2 (by exact hr.units)) (pv 7) (@a20 _ _ _ _ _ (@a00 _ _ _ _ _ (pv 2) (@a00 _ _ _ _ _ (pv 3) (@a01 _) (by rfl)) (by rfl))) (nomark _)))))) (@a04 _ _ _ (@a17 _ _ _ _ (@ba0 _ _ _ _))) (@a12 _))
    (@a04 _ _ _ (@a17 _ _ _ _ (@bq1 _ _ _ _ _ _ _ (@a90 _ _ _ _ _ _ _ _ a38 (@a09 _ _ _ _ _ _ _ _ _ _ _ _ _ _ _ _ G_sound (hr.mono (by omega)) rfl T.f_sound.m T.f_sound.F.kp T.f_sound.b .nil a18 (@a00 _ _ _ _ _ (pv 7) (@a01 _) (by rfl)) (by decide) (by rfl) (by rfl)) (@a90 _ _ _ _ _ _ _ _ (ar3 K (by exact hr.units)) (pv 4) (@a15 _ _ _ _ (@a01 _)) (nomark _)) (nomark _)) (@b19 _ _ _ _ _ (@a90 _ _ _ _ _ _ _ _ (bc8 (by exact hr.units)) (@a09 _ _ _ _ _ _ _ _ _ _ _ _ _ _ _ _ G_faults (hr.mono (by omega)) rfl T.f_faults.m T.f_faults.F.kp T.f_faults.b .nil a18 (@a00 _ _ _ _ _ (pv 7) (@a01 _) (by rfl)) (by decide) (by rfl) (by rfl)) (pv 4) (nomark _))))))))))))),?_⟩
   have sl:(1000000:Nat)≤sizeLine:=le_line (Nat.le_refl _)
   walk_at "go"
   refine ⟨a,ns,0,rfl,hS,fun z=>?_⟩
   walk_at "run"
   refine ⟨a,ns,_,rfl,hS,hn,fun dk l H1 f1 f2 s1 k1=>?_⟩
   walk_at "run"
   refine ⟨dk,l,rfl,k1,fun sp bl tl bx bvs us ts nm H2 e0 eb hb et hE hV=>?_⟩
   walk_at "run"
   refine b55 (SqT.of e0) rfl ?_
   walk_at "run"
   intro d0 H3 f3 s3 e3
   walk_at "run"
   have hul:us.length≤4:=by rw [hE.1]; exact hV.tl
   have htk:∀ {H':Hp},Same H2 H'→TksAt H' (.ref tl) ts:=fun s=>⟨tl,us,rfl,s _ _ et,hE.mono fun _ _ z=>z.same s,Nat.le_trans hV.tl (by decide)⟩
   refine ⟨⟨us,SqL.of (s3 _ _ et)⟩,a54 (xs:=us) (fun i σ H'=>i≤us.length∧∃ (fl:Addr) (vs:List V) (y5 y6:Option V),σ=[some (.ref a),some (.ref dk),some (.ref bl),some (.ref tl),some (.ref fl),y5,y6,none,none]∧Same H2 H'∧H' fl=some (.lst vs)∧Each (RowD H') vs (dueL ts (ts.take i))) ⟨Nat.zero_le _,d0,[],_,_,rfl,s3,e3,Each.nil⟩ (fun i σ H' _ zz=>by obtain ⟨_,_,_,_,_,_,z,_⟩:=zz; exact SqL.of (z _ _ et)) ?_ ?_⟩
   · rintro i sv σ' H4 hi ⟨hib,fl,vs,y5,y6,rfl,s4,e4,hR4⟩
     obtain ⟨x,hx⟩:∃ x,ts[i]?=some x:=⟨_,List.getElem?_eq_getElem (by rw [← hE.1]; exact (List.getElem?_eq_some_iff.mp hi).1)⟩
     have hxm:=List.mem_of_getElem? hx
     obtain ⟨pa,u,rfl,ep,hbu⟩:=hE.2 i _ _ hi hx
     obtain ⟨j,hw1,hw2,hw3⟩:=hV.b x hxm
     have hlt:i<us.length:=(List.getElem?_eq_some_iff.mp hi).1
     walk_at "run"
     refine b55 (SqT.of (s4 _ _ ep)) rfl ?_
     walk_at "run"
     refine ⟨.ref tl,u,x.1,x.2,ts,nm,bx,j,5,false,rfl,htk s4,hbu.same s4,hV,Nat.le_refl _,hw2,by omega,Nat.le_trans hw3 (by decide),fun l2 vs2 H5 f5 s5 e5 hR5=>?_⟩
     walk_at "run"
     have q4:=hR4.1
     have q5:=hR5.1
     have d4:=ao5 hV.tko (us:=ts.take i) (fun y hy=>List.mem_of_mem_take hy)
     have d5:=List.countP_le_length (p:=a46 ts) (l:=allB x.2)
     rw [List.length_replicate] at q5
     have d6:(ts.take i).length≤i:=by rw [List.length_take]; exact Nat.min_le_left _ _
     refine a44 (s5 _ _ e4) e5 (by omega) ?_
     intro l3 H6 f6 s6 e6
     refine ⟨by omega,l3,_,_,_,rfl,s4.trans (s5.trans s6),e6,?_⟩
     rw [List.take_add_one,hx,Option.toList_some,as5]
     exact (a40 hR4 (s5.trans s6)).append (a40 hR5 s6)
   · rintro σ' H4 ⟨_,fl,vs,y5,y6,rfl,s4,e4,hR4⟩
     rw [List.take_of_length_le (Nat.le_of_eq hE.1.symm)] at hR4
     have hD:∀ {p:Addr}{vs':List V}{H':Hp},H' p=some (.lst vs')→Each (RowD H') vs' (dueL ts ts)→(Tr.lst ((dueL ts ts).map rwT)).At H' (.ref p) [p]:=fun e h=>b97 e h
     have hh:Tr.hs ((dueL ts ts).map rwT)≤60:=Nat.le_trans bp3 (by decide)
     obtain ⟨ms,rfl⟩:=aj5 (fun _ _=>b98) hb
     obtain ⟨nss,rfl⟩:=aj5 (fun _ _=>b98) (ay5 (f:=Prod.fst) (fun v x z=>TkN.nmd z) hE)
     walk_at "run"
     refine au3 (SqL.of (s4 _ _ eb)) ?_
     intro pb H5 f5 s5 e5
     walk_at "run"
     refine au3 (SqL.of ((s4.trans s5) _ _ et)) ?_
     intro pt H6 f6 s6 e6
     walk_at "run"
     intro ph H7 f7 s7 e7
     walk_at "run"
     have s27:=s4.trans (s5.trans (s6.trans s7))
     have hSc:ScrO 8 H7 ph ts (bnx bx) (fun c=>nm.idxOf c):=⟨⟨pb,pt,_,e7,(s6.trans s7) _ _ e5,hb.mono fun _ _ z=>z.same s27,⟨pt,_,rfl,s7 _ _ e6,hE.mono fun _ _ z=>z.same s27,Nat.le_trans hV.tl (by decide)⟩⟩,c22 bx,Nat.le_trans (bp4 bx) (by decide),hV.ne,hV.tko,hV.dry⟩
     refine ⟨ph,ts,bnx bx,8,_,rfl,hSc,fun p8 vs8 H8 s8 f8 e8 hR8=>?_⟩
     walk_at "run"
     refine bw3 e8 ?_
     walk_at "run"
     have s48:=s5.trans (s6.trans (s7.trans s8))
     refine bx8 (hD e8 hR8) (hD (s48 _ _ e4) (a40 hR4 s48)) hh ?_
     walk_at "run"
     intro pq H9 f9 s9 e9
     walk_at "run"
     have s79:=s8.trans s9
     have s29:=s27.trans s79
     refine bz7 (s79 _ _ e7) e9 ((s6.trans (s7.trans s79)) _ _ e5) (s29 _ _ eb) ((s7.trans s79) _ _ e6) (s29 _ _ et) ?_
     walk_at "run"
     refine ⟨ph,ts,bnx bx,8,_,rfl,hSc.same s79,fun H10 s10=>?_⟩
     walk_at "run"
     intro p11 H11 f11 s11 e11
     have s411:=s48.trans (s9.trans (s10.trans s11))
     refine b65 (SqL.of (s411 _ _ e4)) (SqL.of e11) ?_
     walk_at "run"
     have hlen:=hR4.1
     have hev:decide (dueL ts ts=[])=vs.isEmpty:=by
      rw [Bool.eq_iff_iff,decide_eq_true_eq,List.isEmpty_iff]
      exact ⟨fun z=>by rw [z] at hlen; exact List.eq_nil_of_length_eq_zero hlen,fun z=>by rw [z] at hlen; exact List.eq_nil_of_length_eq_zero hlen.symm⟩
     rw [if_pos (decide_eq_true hev)]
     walk_at "run"
     have s711:=s79.trans (s10.trans s11)
     refine ⟨ph,ts,bnx bx,8,_,rfl,hSc.same s711,fun p12 vs12 H12 s12 f12 e12 hR12=>?_⟩
     walk_at "run"
     refine by6 (hD e12 hR12) (hD ((s411.trans s12) _ _ e4) (a40 hR4 (s411.trans s12))) hh ?_
     exact q _
end
theorem all_mk {l:PySem.W.OpenLaw}{w:World}{K:PySem.W.Frag}{h:Heap}{mg:Str→Option Value}{fa:Addr}(X:K.In h) (G:h.Ns mainGlobals mg) (hfa:mg "law"=some (.ref fa)) (hF:HF w.params K):∃ fd:FuncData,(∀ (s:Shared) (v:Value),BindsTo s fd ⟨[v],[]⟩ [("script",v)])∧∀ base:Heap,K.In base→base.Ns mainGlobals mg→FnOk l.prog w K mg base CX0 230 fa fd ["script"] (aq3 K):=by
 obtain ⟨t,T⟩:=hF
 have T:=T mg h X G
 have e:=hfa.symm.trans T.f_law.m
 cases e
 obtain ⟨_,_,_,_,_,_,_,_,_,e,_⟩:=T.f_law.F.ex
 exact ⟨_,fun s v=>by rw [e]; exact .of_eq rfl,fun base _ _=>c23 T⟩
end K15
theorem PySem.Challenge.cw_callmill_k15_dry_loops_holds : PySem.Challenge.rw_callmill_k15_dry_loops.Holds := by
  exact K15.head fun K hF w mg fa h KX G hmg => K15.all_mk KX G hmg (hF w.params)
