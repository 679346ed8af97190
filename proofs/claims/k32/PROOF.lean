import PyProof.Rows.All
import Wide.All
import OpenK.KLine
import KE.KItem
import KE.KIsAll
import Wide.FinOn
import Lean
import PyProof.EqAt
import PyProof.EqKinds
import PyProof.TupleCall
import PyProof.NeKinds
import PyProof.DictUpdate
import PyProof.AttrMissHeap
import KE.KDictOf
import PyProof.TupleIter
import PyProof.WalksEnum
import PyProof.EnumMake
import PyProof.Rows.EnumRows
import PyProof.Rows.MaxTwoN
import PyProof.ZipIter
import PyProof.IsRules
import PyProof.DictRoadsH
import Wide.Seal
import PyProof.MeetsDict
import PyProof.DictIter
import PyProof.DictWalks
import KE.KDictList
import PyProof.Rows.SumAny
import PyProof.ListRange
import PyProof.AutoSeq1
import PyProof.WalkInts
import PyProof.SeqI3
import KE.KTextTable
import PyProof.MeetsStr
import PyProof.StrCalls5
import PyProof.Rows.TupDisplay
import PyProof.Rows.TupAdd
import PyProof.Rows.StrNews2
import PyProof.StrBlockI
import PyProof.DictTruth
import PyProof.Rows.SortShell
import PyProof.DictValues
import PyProof.ConsumeS
import PyProof.Draws
import PyProof.Rows.SetFrom
import PyProof.FactsAll.set_1
import KE.KDictSum
import PyProof.Rows.SortStr
import PyProof.Rows.SortWalk
import PyProof.Rows.TmSorted
import PyProof.Rows.CallKwBuiltin
import KE.KTryDeep
import PyProof.Rows.CatchBare
import PyProof.Rows.TopTwo
import OpenK.KOwn
import KE.KRevIter
import PyProof.Rows.FactsT2
import PySem.Challenge.RW_callmill_k32_graph_machine
set_option Elab.async false
set_option linter.all false
set_option maxRecDepth 100000
set_option maxHeartbeats 4000000
namespace L2
open PySem PySem.Spec PyProof.Rows
abbrev Key:=Sum Int Str
def bg4:Key→Value→Bool
 | .inl k,v=>Value.isInt k v
 | .inr x,v=>Value.isStrOf x v
def keyH (w:World):Key→Int
 | .inl k=>hashInt k
 | .inr x=>hashStr w x
theorem a44:∀ {k:Key}{v:Value},bg4 k v=true→(∃ i t,k=Sum.inl i∧v=Value.int i t)∨(∃ x t,k=Sum.inr x∧v=Value.str x t)
 | .inl i,v,h=>by
   obtain ⟨t,e⟩:=Value.isInt_shape (k:=i) (v:=v) h
   exact .inl ⟨i,t,rfl,e⟩
 | .inr x,v,h=>by
   obtain ⟨t,e⟩:=Value.isStrOf_shape (x:=x) (v:=v) h
   exact .inr ⟨x,t,rfl,e⟩
theorem bg5 (a b:Int):decide ((Sum.inl a:Key)=Sum.inl b)=(a == b):=by
 by_cases e:a=b
 · subst e; simp
 · have h:¬ (Sum.inl a:Key)=Sum.inl b:=fun q=>e (Sum.inl.inj q)
   rw [decide_eq_false h]
   exact (beq_eq_false_iff_ne.mpr e).symm
theorem bg6 (a b:Str):decide ((Sum.inr a:Key)=Sum.inr b)=decide (a=b):=by
 by_cases e:a=b
 · subst e; simp
 · have h:¬ (Sum.inr a:Key)=Sum.inr b:=fun q=>e (Sum.inr.inj q)
   rw [decide_eq_false h,decide_eq_false e]
theorem bg7 (a:Int) (b:Str):decide ((Sum.inl a:Key)=Sum.inr b)=false:=decide_eq_false (fun q=>nomatch q)
theorem bg8 (a:Str) (b:Int):decide ((Sum.inr a:Key)=Sum.inl b)=false:=decide_eq_false (fun q=>nomatch q)
def aq2 (prog:Program) (w:World):PySem.KeyKind prog w Key where
 is:=bg4
 hash:=keyH w
 inj:=fun v a b ha hb=>by
  rcases a44 ha with ⟨i,t,rfl,rfl⟩ | ⟨x,t,rfl,rfl⟩
  · rcases a44 hb with ⟨j,u,rfl,e⟩ | ⟨y,u,rfl,e⟩
    · injection e with e1 _; rw [e1]
    · exact nomatch e
  · rcases a44 hb with ⟨j,u,rfl,e⟩ | ⟨y,u,rfl,e⟩
    · exact nomatch e
    · injection e with e1 _; rw [e1]
 byValue:=fun k v h=>by
  rcases a44 h with ⟨i,t,rfl,rfl⟩ | ⟨x,t,rfl,rfl⟩ <;> rfl
 pyHash:=fun hv h=>by
  rcases a44 hv with ⟨i,t,rfl,rfl⟩ | ⟨x,t,rfl,rfl⟩
  · exact wpAny_pyHash_int h
  · exact wpAny_pyHash_str h
 eqBool:=fun hu hv h=>by
  rcases a44 hu with ⟨i,t,rfl,rfl⟩ | ⟨x,t,rfl,rfl⟩
  · rcases a44 hv with ⟨j,u,rfl,rfl⟩ | ⟨y,u,rfl,rfl⟩
    · rw [bg5] at h; exact wpAny_eqBool_int h
    · rw [bg7] at h; exact SeqAt.EqAt.int_str i t y u _ _ _ _ h
  · rcases a44 hv with ⟨j,u,rfl,rfl⟩ | ⟨y,u,rfl,rfl⟩
    · rw [bg8] at h; exact SeqAt.EqAt.str_int x t j u _ _ _ _ h
    · rw [bg6] at h; exact wpAny_eqBool_str h
 «strs»:=fun k x t v h=>by
  rcases a44 h with ⟨i,u,rfl,e⟩ | ⟨y,u,rfl,e⟩
  · exact nomatch e
  · injection e with e1 _
    subst e1
    cases v <;> rfl
inductive V where
 | non | bl (b:Bool) | int (i:Int) | str (x:Str) | byt (b:Array UInt8) | flt (b:UInt64) | ref (a:Addr) | ty (n:String)
 deriving DecidableEq
def RelV:V→Value→Prop
 | .non,u=>u=Value.none
 | .bl b,u=>u=Value.bool b
 | .int i,u=>∃ t,u=Value.int i t
 | .str x,u=>∃ t,u=Value.str x t
 | .byt b,u=>∃ t,u=Value.bytes b t
 | .flt b,u=>∃ t,u=Value.float b t
 | .ref a,u=>u=Value.ref a
 | .ty n,u=>u=Value.type n
abbrev Vals:List V→List Value→Prop:=Paired RelV
theorem Vals.length {xs:List V}{us:List Value}(r:Vals xs us):xs.length=us.length:=Paired.length r
theorem Vals.get:∀ {xs:List V}{us:List Value}{i:Nat}{x:V},Vals xs us→xs[i]?=some x→∃ u,us[i]?=some u∧RelV x u
 | _,_,_,_,.nil,e=>by simp at e
 | _,_,0,_,.cons r _,e=>by simp at e; subst e; exact ⟨_,rfl,r⟩
 | _,_,i+1,x,.cons _ t,e=>by
   obtain ⟨u,h1,h2⟩:=Vals.get (i:=i) (x:=x) t (by simpa using e)
   exact ⟨u,by simpa using h1,h2⟩
theorem Vals.set {x:V}{u:Value}(r:RelV x u):∀ {xs:List V}{us:List Value}(i:Nat),Vals xs us→Vals (xs.set i x) (us.set i u)
 | _,_,_,.nil=>.nil
 | _,_,0,.cons _ t=>.cons r t
 | _,_,i+1,.cons q t=>.cons q (Vals.set r i t)
theorem Vals.append:∀ {xs ys:List V}{us ws:List Value},Vals xs us→Vals ys ws→Vals (xs++ys) (us++ws)
 | _,_,_,_,.nil,s=>s
 | _,_,_,_,.cons r t,s=>.cons r (Vals.append t s)
theorem Vals.take:∀ {xs:List V}{us:List Value}(n:Nat),Vals xs us→Vals (xs.take n) (us.take n)
 | _,_,0,_=>.nil
 | _,_,_+1,.nil=>.nil
 | _,_,n+1,.cons r t=>.cons r (Vals.take n t)
theorem Vals.drop:∀ {xs:List V}{us:List Value}(n:Nat),Vals xs us→Vals (xs.drop n) (us.drop n)
 | _,_,0,r=>r
 | _,_,_+1,.nil=>.nil
 | _,_,n+1,.cons _ t=>Vals.drop n t
def RelO:Option V→Option Value→Prop
 | some v,some u=>RelV v u
 | none,none=>True
 | _,_=>False
def KV {κ:Type}:List (κ×V)→List (κ×Value)→Prop:=Paired fun (p:κ×V) (q:κ×Value)=>p.1=q.1∧RelV p.2 q.2
def kV:Key→V
 | .inl i=>.int i
 | .inr x=>.str x
inductive HO where
 | lst (xs:List V)
 | tup (xs:List V)
 | dK (kvs:List (Key×V)) | dT (kvs:List (List Key×V))
 | set (S:Int→Bool) (n:Nat)
 | ins (C dx:Addr) (fs:List (Str×V))
 | own (x:Addr)
 | xd (fs:List (Str×V))
 | met (f x:Addr)
 | rng (lo hi:Int)
 | frz (o:Obj) (u:HO)
 | tbl (ps:Array Value)
 | ext (φ:Heap→Prop)
abbrev Hp:=Addr→Option HO
def upd (H:Hp) (a:Addr) (o:HO):Hp:=fun b=>if b=a then some o else H b
theorem a32 {H:Hp}{a:Addr}{o:HO}:upd H a o a=some o:=by unfold upd; rw [if_pos rfl]
theorem a12 {H:Hp}{a b:Addr}{o:HO}(h:b≠a):upd H a o b=H b:=by unfold upd; rw [if_neg h]
theorem aj5 {H:Hp}{a b:Addr}{o u:HO}(h:H a=some o) (h':H b=some u) (d:o≠u):a≠b:=by
 intro e; subst e; rw [h] at h'; exact d (Option.some.inj h')
theorem a27 {H:Hp}{a b:Addr}{o:HO}(h:H a=some o) (h':H b=none):a≠b:=by
 intro e; subst e; rw [h] at h'; cases h'
section
variable (P:Program) (w:World)
def ObjOk (H:Hp) (h:Heap) (a:Addr):HO→Prop
 | .lst xs=>xs.length≤sizeLine∧∃ (its:List Value) (n:Nat),Vals xs its∧h.get? a=some { cls:=.type "list",data:=.seq its.toArray n }
 | .tup xs=>xs.length≤sizeLine∧∃ its:List Value,Vals xs its∧IsTup h a its.toArray
 | .dK kvs=>kvs.length≤sizeLine∧(a == sysModules)=false∧∃ vs,KV kvs vs∧h.DictOf (aq2 P w) a vs
 | .dT kvs=>kvs.length≤sizeLine∧(a == sysModules)=false∧∃ xs:List (List Key×Addr×Value),
  Paired (fun (p:List Key×V) (q:List Key×Addr×Value)=>p.1=q.1∧H q.2.1=some (.tup (p.1.map kV))∧RelV p.2 q.2.2) kvs xs ∧
  ∃ o es ep,h.get? a=some o∧o.ExactDict∧o.data=.dict es ep∧es.toList=xs.map (entryOfKey (tupleKind (aq2 P w)))∧(xs.map (·.1)).Nodup
 | .set S n=>h.SetOf (intKind P w) a S n
 | .ins C dx fs=>H dx=some (.own a)∧fs.length≤1000∧dx≠a∧h.get? a=some (PySem.W.instObj C dx) ∧
  ∃ mA,h.Ns1 dx mA∧(∀ f,RelO (fs.lookup f) (mA f))∧PySem.Within mA (fs.map (·.1))
 | .own _=>∃ o,h.get? a=some o
 | .xd fs=>∃ mA,h.Ns1 a mA∧∀ f,RelO (fs.lookup f) (mA f)
 | .rng lo hi=>∃ t u v,h.get? a=some { cls:=.type "range",data:=.fields #[.int lo t,.int hi u,.int 1 v] }
 | .frz o u=>h.get? a=some o∧ObjOk H h a u
 | .tbl ps=>h.get? a=some { cls:=.none,data:=.fields ps }
 | .met f x=>h.get? a=some (PySem.W.methodObj (.ref f) (.ref x))
 | .ext φ=>φ h∧(∃ o,h.get? a=some o)∧∀ h1 h2:Heap,φ h1→(∀ o,h1.get? a=some o→h2.get? a=some o)→φ h2
def HOk (H:Hp) (h:Heap):Prop:=∀ a o,H a=some o→ObjOk P w H h a o
end
section
variable {P:Program}{w:World}{H H':Hp}{h h':Heap}{a:Addr}{o:HO}
theorem ObjOk.lt (x:ObjOk P w H h a o):a<h.objs.size:=by
 cases o with
 | lst xs=>obtain ⟨_,_,_,_,e⟩:=x; exact Heap.lt_size e
 | tup xs=>obtain ⟨_,_,_,p⟩:=x; exact p.lt
 | dK kvs=>obtain ⟨_,_,_,_,o,_,_,e,_⟩:=x; exact Heap.lt_size e
 | dT kvs=>obtain ⟨_,_,_,_,o,_,_,e,_⟩:=x; exact Heap.lt_size e
 | set S n=>obtain ⟨o,_,_,_,e,_⟩:=x; exact Heap.lt_size e
 | ins C dx fs=>obtain ⟨_,_,_,e,_⟩:=x; exact Heap.lt_size e
 | own y=>obtain ⟨_,e⟩:=x; exact Heap.lt_size e
 | xd fs=>obtain ⟨_,⟨_,_,_,e,_⟩,_⟩:=x; exact Heap.lt_size e
 | rng lo hi=>obtain ⟨_,_,_,e⟩:=x; exact Heap.lt_size e
 | frz ob u=>obtain ⟨e,_⟩:=x; exact Heap.lt_size e
 | tbl ps=>exact Heap.lt_size (show h.get? a=some _ from x)
 | met f y=>exact Heap.lt_size (show h.get? a=some _ from x)
 | ext φ=>obtain ⟨_,⟨_,e⟩,_⟩:=x; exact Heap.lt_size e
theorem Paired.mapP {α β:Type}{F G:α→β→Prop}:∀ {l₁:List α}{l₂:List β},Paired F l₁ l₂→(∀ a b,F a b→G a b)→Paired G l₁ l₂
 | _,_,.nil,_=>.nil
 | _,_,.cons r t,f=>.cons (f _ _ r) (Paired.mapP t f)
theorem ObjOk.stay (x:ObjOk P w H h a o) (k:∀ b u,(b=a∨H b=some (.own a))→h.get? b=some u→h'.get? b=some u)
 (ho:∀ b,H b=some (.own a)→H' b=some (.own a)) (ht:∀ b xs,H b=some (.tup xs)→H' b=some (.tup xs)):ObjOk P w H' h' a o:=by
 induction o with
 | lst xs=>obtain ⟨z,its,n,r,e⟩:=x; exact ⟨z,its,n,r,k _ _ (.inl rfl) e⟩
 | tup xs=>obtain ⟨z,its,r,ob,e,c⟩:=x; exact ⟨z,its,r,ob,k _ _ (.inl rfl) e,c⟩
 | dK kvs=>obtain ⟨z,y,vs,r,ob,es,ep,e,c⟩:=x; exact ⟨z,y,vs,r,ob,es,ep,k _ _ (.inl rfl) e,c⟩
 | dT kvs =>
   obtain ⟨z,y,xs,r,ob,es,ep,e,c⟩:=x
   exact ⟨z,y,xs,Paired.mapP r fun p q z=>⟨z.1,ht _ _ z.2.1,z.2.2⟩,ob,es,ep,k _ _ (.inl rfl) e,c⟩
 | set S n=>obtain ⟨ob,es,ep,t,e,c⟩:=x; exact ⟨ob,es,ep,t,k _ _ (.inl rfl) e,c⟩
 | ins C dx fs =>
   obtain ⟨d,z,ne,e,mA,⟨od,es,ep,e2,c⟩,r⟩:=x
   exact ⟨ho _ d,z,ne,k _ _ (.inl rfl) e,mA,⟨od,es,ep,k _ _ (.inr d) e2,c⟩,r⟩
 | own y=>obtain ⟨ob,e⟩:=x; exact ⟨ob,k _ _ (.inl rfl) e⟩
 | xd fs=>obtain ⟨mA,⟨od,es,ep,e,c⟩,r⟩:=x; exact ⟨mA,⟨od,es,ep,k _ _ (.inl rfl) e,c⟩,r⟩
 | rng lo hi=>obtain ⟨t,u,v,e⟩:=x; exact ⟨t,u,v,k _ _ (.inl rfl) e⟩
 | frz ob u ih=>obtain ⟨e,q⟩:=x; exact ⟨k _ _ (.inl rfl) e,ih q⟩
 | tbl ps =>
   have e:h.get? a=some { cls:=.none,data:=.fields ps }:=x
   show h'.get? a=some { cls:=.none,data:=.fields ps }
   exact k a _ (.inl rfl) e
 | met f y =>
   have e:h.get? a=some (PySem.W.methodObj (.ref f) (.ref y)):=x
   show h'.get? a=some (PySem.W.methodObj (.ref f) (.ref y))
   exact k a _ (.inl rfl) e
 | ext φ=>obtain ⟨p,⟨o,e⟩,st⟩:=x; exact ⟨st _ _ p fun o q=>k _ _ (.inl rfl) q,⟨o,k _ _ (.inl rfl) e⟩,st⟩
theorem HOk.lt (x:HOk P w H h) (e:H a=some o):a<h.objs.size:=(x a o e).lt
theorem HOk.fresh (x:HOk P w H h) (e:h.objs.size≤a):H a=none:=by
 cases q:H a with
 | none=>rfl
 | some u=>exact absurd (Nat.lt_of_lt_of_le (x.lt q) e) (Nat.lt_irrefl _)
theorem HOk.kept (x:HOk P w H h) (k:∀ b u,h.get? b=some u→h'.get? b=some u):HOk P w H h':=fun a o e =>
 (x a o e).stay (fun b u _ q=>k b u q) (fun _ q=>q) fun _ _ q=>q
theorem HOk.laid (x:HOk P w H h) (k:∀ b u,h.get? b=some u→h'.get? b=some u) (hp:h.objs.size≤a) (new:ObjOk P w (upd H a o) h' a o):HOk P w (upd H a o) h':=fun b u e=>by
 have hn:=x.fresh hp
 by_cases hb:b=a
 · subst hb; rw [a32] at e; cases e; exact new
 · rw [a12 hb] at e
   exact (x b u e).stay (fun c v _ q=>k c v q) (fun c q=>by rw [a12 (a27 q hn)]; exact q) fun c xs q=>by rw [a12 (a27 q hn)]; exact q
end
def Rd (H:Hp) (a:Addr) (u:HO):Prop:=H a=some u∨∃ o,H a=some (.frz o u)
theorem Rd.ok {P:Program}{w:World}{H:Hp}{h:Heap}{a:Addr}{u:HO}(r:Rd H a u) (x:HOk P w H h):ObjOk P w H h a u:=by
 rcases r with r | ⟨o,r⟩
 · exact x a u r
 · obtain ⟨_,q⟩:=x a _ r
   exact q
def Mut:Option HO→Prop
 | some (.lst _)=>True
 | some (.dK _)=>True
 | some (.dT _)=>True
 | some (.set _ _)=>True
 | some (.ins _ _ _)=>True
 | some (.ext _)=>True
 | _=>False
section
variable {P:Program}{w:World}{H:Hp}{h h':Heap}{x e:Addr}{o':HO}
theorem HOk.write (ok:HOk P w H h) (mu:Mut (H x)) (he:e=x∨H e=some (.own x)) (k:∀ b u,b≠e→h.get? b=some u→h'.get? b=some u) (heo:∃ u,h'.get? e=some u)
 (new:ObjOk P w (upd H x o') h' x o'):HOk P w (upd H x o') h':=fun b u q=>by
 have nown:∀ c y,H c=some (.own y)→c≠x:=fun c y r z=>by subst z; rw [r] at mu; exact mu
 have ntup:∀ c xs,H c=some (.tup xs)→c≠x:=fun c xs r z=>by subst z; rw [r] at mu; exact mu
 by_cases hb:b=x
 · subst hb; rw [a32] at q; cases q; exact new
 · rw [a12 hb] at q
   by_cases hbe:b=e
   · have q':H b=some (.own x):=by
      rcases he with z | z
      · exact absurd (hbe.trans z) hb
      · rw [hbe]; exact z
     rw [q] at q'; cases q'
     obtain ⟨v,hv⟩:=heo
     exact ⟨v,by rw [hbe]; exact hv⟩
   · refine (ok b u q).stay (fun c v hc r=>k c v ?_ r) (fun c r=>by rw [a12 (nown c b r)]; exact r) fun c xs r=>by rw [a12 (ntup c xs r)]; exact r
     rcases hc with rfl | hc
     · exact hbe
     · rintro rfl
       rcases he with z | z
       · exact nown c b hc z
       · rw [hc] at z; cases z; exact hb rfl
end
structure Un (fs ex:List Addr) (H H':Hp) (h h':Heap):Prop where
 keep:∀ b o,h.get? b=some o→H b=none→b∉fs→b∉ex→h'.get? b=some o
 slot:∀ b o,h.get? b=some o→H b=none→b∈fs→b∉ex→∃ sl,h'.get? b=some { o with slots:=sl }
 free:∀ b o,h.get? b=some o→H b=none→b∉ex→H' b=none
 there:∀ b o,h.get? b=some o→b∉ex→∃ o',h'.get? b=some o'
 tups:∀ b xs,H b=some (.tup xs)→H' b=some (.tup xs)
 frzs:∀ b o u,H b=some (.frz o u)→H' b=some (.frz o u)
 tbls:∀ b ps,H b=some (.tbl ps)→∃ more,H' b=some (.tbl (ps++more))
section
variable {fs fs' ex ex':List Addr}{H H1 H2:Hp}{h h1 h2 h':Heap}{a x e:Addr}{o:HO}
theorem Un.any (u:Un fs ex H H1 h h1) {b:Addr}{ob:Obj}(q:h.get? b=some ob) (n:H b=none) (hx:b∉ex):∃ sl,h1.get? b=some { ob with slots:=sl }:=by
 by_cases hb:b∈fs
 · exact u.slot b ob q n hb hx
 · exact ⟨ob.slots,u.keep b ob q n hb hx⟩
theorem Un.kept (k:∀ b u,h.get? b=some u→h'.get? b=some u):Un fs ex H H h h' :=
 ⟨fun b ob q _ _ _=>k b ob q,fun b ob q _ _ _=>⟨ob.slots,k b ob q⟩,fun _ _ _ n _=>n,fun b ob q _=>⟨ob,k b ob q⟩,fun _ _ q=>q,fun _ _ _ q=>q,fun _ ps q=>⟨#[],by rw [q]; simp⟩⟩
theorem Un.refl:Un fs ex H H h h:=Un.kept fun _ _ q=>q
theorem Un.laid (k:∀ b u,h.get? b=some u→h'.get? b=some u) (hp:h.objs.size≤a) (hn:H a=none):Un fs ex H (upd H a o) h h' where
 keep:=fun b u q _ _ _=>k b u q
 slot:=fun b u q _ _ _=>⟨u.slots,k b u q⟩
 free:=fun b u q n _=>by rw [a12 (Nat.ne_of_lt (Nat.lt_of_lt_of_le (Heap.lt_size q) hp))]; exact n
 there:=fun b u q _=>⟨u,k b u q⟩
 tups:=fun b xs q=>by rw [a12 (a27 q hn)]; exact q
 frzs:=fun b u xs q=>by rw [a12 (a27 q hn)]; exact q
 tbls:=fun b ps q=>⟨#[],by rw [a12 (a27 q hn),q]; simp⟩
theorem Un.write (mu:Mut (H x)) (he:e=x∨H e=some (.own x)) (k:∀ b u,b≠e→h.get? b=some u→h'.get? b=some u) (heo:∃ u,h'.get? e=some u):Un fs ex H (upd H x o) h h':=by
 have hx:∀ b,H b=none→b≠x:=fun b n z=>by subst z; rw [n] at mu; exact mu
 have hb:∀ b,H b=none→b≠e:=fun b n z=>by
  subst z
  rcases he with r | r
  · exact hx b n r
  · rw [n] at r; cases r
 have hm:∀ b u,H b=some u→¬ Mut (some u)→b≠x:=fun b u q nm z=>by subst z; rw [q] at mu; exact nm mu
 refine ⟨fun b u q n _ _=>k b u (hb b n) q,fun b u q n _ _=>⟨u.slots,k b u (hb b n) q⟩,fun b u q n _=>by rw [a12 (hx b n)]; exact n,fun b u q _=>?_,
  fun b xs q=>by rw [a12 (hm b _ q fun z=>z)]; exact q,fun b u xs q=>by rw [a12 (hm b _ q fun z=>z)]; exact q,fun b ps q=>⟨#[],by rw [a12 (hm b _ q fun z=>z),q]; simp⟩⟩
 by_cases hbe:b=e
 · subst hbe; exact heo
 · exact ⟨u,k b u hbe q⟩
end
def trk (h:Heap) (H:Hp):List Addr:=(List.range h.objs.size).filter fun a=>(H a).isSome
def hidT (h:Heap) (H:Hp):Heap:=PySem.W.hideAll h (trk h H)
theorem aw7 (h:Heap) (H:Hp):(hidT h H).objs.size=h.objs.size:=PySem.W.hideAll_size _ _
theorem b36 {h:Heap}{H:Hp}{b:Addr}{o:Obj}(e:h.get? b=some o) (n:H b=none):(hidT h H).get? b=some o :=
 PySem.W.hideAll_get _ e fun hm=>by
  have q:(H b).isSome=true:=(List.mem_filter.mp hm).2
  rw [n] at q; simp at q
theorem ba7 {h:Heap}{H:Hp}{b:Addr}{o:Obj}(e:(hidT h H).get? b=some o):h.get? b=some o∧H b=none:=by
 have e':h.get? b=some o:=PySem.W.of_hideAll (trk h H) e
 refine ⟨e',?_⟩
 cases q:H b with
 | none=>rfl
 | some x =>
   have hm:b∈trk h H:=List.mem_filter.mpr ⟨List.mem_range.mpr (Heap.lt_size e'),by simp [q]⟩
   have z:(hidT h H).get? b=none:=PySem.W.hideAll_none (trk h H) hm
   rw [z] at e; cases e
def ba8 (g h:Heap) (L:Addr):List (Addr×Obj):=(List.range h.objs.size).filterMap fun a=>if a=L∨(g.get? a).isSome=true then none else (h.get? a).map fun o=>(a,o)
def rest (g h:Heap) (L d:Addr):List (Addr×Obj):=(ba8 g h L).filter fun p=>decide (p.1≠d)
structure Mod (K:PySem.W.Frag) (mg:Str→Option Value) (base:Heap):Prop where
 kin:K.In base
 glob:base.Ns mainGlobals mg
 blt:∃ mb,base.Ns builtinsNs mb∧∀ x:Str,x≠"__name__"→mb x=bootBuiltins x
 nolimit:base.NoLimit
structure Cx where
 prog:Program
 w:World
 K:PySem.W.Frag
 mg:Str→Option Value
 base:Heap
 A:Around
 N:List Str
 s₀:Shared
 H₀:Hp
 env:Env
 outer:List Env
 stack:List Env
 ex:List Addr
 fn:Str→Bool
 calm:Bool
 pn:List (Addr×Obj)
 xe:Value→Shared→Prop
def frs (l:List Env):List Addr:=l.filterMap (·.frame)
abbrev Cx.fs (X:Cx):List Addr:=frs X.outer
def Vis (sc:Scope) (x:Str):Prop:=sc.names.lookup x=some .local∨sc.names.lookup x=some .cell∨sc.names.lookup x=some .free
def Loc (sc:Scope) (x:Str):Prop:=sc.names.lookup x=some .local∨sc.names.lookup x=some .cell
def Look (env:Env) (h:Heap) (m:Str→Option Value) (x:Str) (u:Value):Prop :=
 (env.kindOf x=some .local∧m x=some u)∨((env.kindOf x=some .cell∨env.kindOf x=some .free)∧∃ c,env.cells.lookup x=some c∧h.IsCell c (some u))
structure Cx.Ok (X:Cx):Prop where
 mod:Mod X.K X.mg X.base
 kind:X.env.scope.kind=.function
 glob:X.env.globals=mainGlobals
 blt:X.env.builtins=builtinsNs
 above:X.s₀.heap.objs.size≤X.env.locals
 inj:∀ x y c,X.env.cells.lookup x=some c→X.env.cells.lookup y=some c→x=y
 has:∀ x,(X.env.kindOf x=some .cell∨X.env.kindOf x=some .free)→∃ c,X.env.cells.lookup x=some c
 cab:∀ x c,X.fn x=true→X.env.cells.lookup x=some c→X.s₀.heap.objs.size≤c
 hd:X.calm=true→X.A.handled=none
 frames:X.A.frames=some X.stack
 stk:X.stack=X.outer∨(X.stack=X.env::X.outer∧X.env.frame=some X.env.locals)
 exf:∀ b∈X.ex,b≠X.env.locals∧∀ x c,X.env.cells.lookup x=some c→c≠b
 bs:∀ b o,X.base.get? b=some o→X.s₀.heap.get? b=some o∧X.H₀ b=none
 bsz:X.base.objs.size≤X.s₀.heap.objs.size
 noex:∀ b o,X.base.get? b=some o→b∉X.ex
 exfs:∀ b∈X.ex,b∉X.fs
 funs:X.s₀.heap.FunFrames X.base X.outer
 frf:∀ b∈X.fs,X.H₀ b=none
structure Inv (X:Cx) (pins:List (Addr×Obj)) (σ:List (Option V)) (H:Hp) (s:Shared):Prop where
 ok:X.Ok
 os:s.os=X.s₀.os
 bare:AllBare s.gens
 base:Un X.fs X.ex X.H₀ H X.s₀.heap s.heap
 loc:∃ m,s.heap.Ns X.env.locals m∧∀ (i:Nat) (x:Str) (v:V),X.N[i]?=some x→σ[i]?=some (some v)→Vis X.env.scope x→∃ u,RelV v u∧Look X.env s.heap m x u
 cell:∀ x c,X.env.cells.lookup x=some c→∃ v,s.heap.IsCell c v
 free:H X.env.locals=none
 freeC:∀ x c,X.env.cells.lookup x=some c→H c=none
 pin:∀ p∈X.pn++pins,s.heap.get? p.1=some p.2∧H p.1=none∧p.1≠X.env.locals∧p.1∉X.fs∧∀ v,p.2.data≠.cell v
 hok:HOk X.prog X.w H s.heap
 len:σ.length=X.N.length
section
variable {X:Cx}{pins:List (Addr×Obj)}{σ:List (Option V)} {H H':Hp}{s:Shared}{h':Heap}
theorem Cx.Ok.nofr (ok:X.Ok) {b:Addr}{o:Obj}(e:X.base.get? b=some o):b∉X.fs:=fun hb=>by
 have:=(ok.funs.mem hb).1
 rw [e] at this; cases this
theorem Inv.bs (I:Inv X pins σ H s):∀ b o,X.base.get? b=some o→s.heap.get? b=some o∧H b=none:=fun b o e =>
 ⟨I.base.keep b o (I.ok.bs b o e).1 (I.ok.bs b o e).2 (I.ok.nofr e) (I.ok.noex b o e),I.base.free b o (I.ok.bs b o e).1 (I.ok.bs b o e).2 (I.ok.noex b o e)⟩
theorem Inv.bk (I:Inv X pins σ H s):∀ b o,X.base.get? b=some o→s.heap.get? b=some o:=fun b o e=>(I.bs b o e).1
theorem Inv.mod (I:Inv X pins σ H s):Mod X.K X.mg X.base:=I.ok.mod
theorem Inv.kIn (I:Inv X pins σ H s):X.K.In s.heap:=I.ok.mod.kin.keeps I.bk
theorem Inv.lt (I:Inv X pins σ H s):X.env.locals<s.heap.objs.size:=let ⟨_,hn,_⟩:=I.loc; hn.lt
theorem Inv.sz (I:Inv X pins σ H s):X.s₀.heap.objs.size≤s.heap.objs.size:=Nat.le_trans I.ok.above (Nat.le_of_lt I.lt)
theorem Inv.nofs (I:Inv X pins σ H s) {a:Addr}(h:s.heap.objs.size≤a):a∉X.fs:=fun hb=>by
 obtain ⟨_,o,ho,_⟩:=I.ok.funs.mem hb
 exact absurd (Nat.lt_of_lt_of_le (Heap.lt_size ho) (Nat.le_trans I.sz h)) (Nat.lt_irrefl _)
theorem Inv.cne (I:Inv X pins σ H s):∀ x c,X.env.cells.lookup x=some c→c≠X.env.locals:=fun x c e z=>by
 obtain ⟨v,o,ho,hd⟩:=I.cell x c e
 obtain ⟨m,⟨o',es,ep,ho',hd',_⟩,_⟩:=I.loc
 rw [z,ho'] at ho; cases ho; rw [hd'] at hd; cases hd
theorem Inv.funs (I:Inv X pins σ H s):s.heap.FunFrames X.base X.outer:=by
 have all:∀ (l:List Env),(∀ b∈frs l,b∈X.fs)→X.s₀.heap.FunFrames X.base l→s.heap.FunFrames X.base l:=by
  intro l
  induction l with
  | nil=>intro _ _; trivial
  | cons env r ih =>
    intro hs hl
    obtain ⟨hk,⟨L,o,hf,hn,ho,hd⟩,hr⟩:=hl
    have hL:L∈X.fs:=hs L (by unfold frs; rw [List.filterMap_cons,hf]; exact List.mem_cons_self)
    obtain ⟨sl,e⟩:=I.base.slot L o ho (I.ok.frf L hL) hL fun z=>I.ok.exfs L z hL
    exact ⟨hk,⟨L,_,hf,hn,e,hd⟩,ih (fun b hb=>hs b (by unfold frs; rw [List.filterMap_cons,hf]; exact List.mem_cons_of_mem _ hb)) hr⟩
 exact all X.outer (fun _ hb=>hb) I.ok.funs
theorem Inv.stack (I:Inv X pins σ H s):s.heap.FunFrames X.base X.stack:=by
 rcases I.ok.stk with e | ⟨e,hf⟩
 · rw [e]; exact I.funs
 · rw [e]
   obtain ⟨m,hn,_⟩:=I.loc
   refine .cons (by rw [I.ok.kind]; decide) hf hn ?_ I.funs
   exact Heap.get?_none_of_le (Nat.le_trans I.ok.bsz I.ok.above)
theorem Inv.stkSub (I:Inv X pins σ H s):∀ b∈frs X.stack,b∈X.env.locals::X.fs:=fun b hb=>by
 rcases I.ok.stk with e | ⟨e,hf⟩
 · rw [e] at hb; exact List.mem_cons_of_mem _ hb
 · rw [e] at hb
   unfold frs at hb
   rw [List.filterMap_cons,hf] at hb
   exact hb
theorem Inv.stkFree (I:Inv X pins σ H s):∀ b∈frs X.stack,H b=none:=fun b hb=>by
 rcases List.mem_cons.mp (I.stkSub b hb) with e | hb
 · rw [e]; exact I.free
 · obtain ⟨_,o,ho,_⟩:=I.ok.funs.mem hb
   exact I.base.free b o ho (I.ok.frf b hb) fun z=>I.ok.exfs b z hb
theorem Inv.step {g':Array GenState}{t':Nat}{d':Drawn}{ch:List Addr}(I:Inv X pins σ H s)
 (hch:∀ b∈ch,(b∈X.ex∨X.s₀.heap.objs.size≤b)∧b≠X.env.locals∧(∀ x c,X.env.cells.lookup x=some c→c≠b)∧∀ p∈X.pn++pins,p.1≠b)
 (keep:∀ b o,b≠X.env.locals→b∉X.fs→b∉ch→s.heap.get? b=some o→H b=none→h'.get? b=some o)
 (slot:∀ b o,b≠X.env.locals→b∈X.fs→b∉ch→s.heap.get? b=some o→H b=none→∃ sl,h'.get? b=some { o with slots:=sl }) (free:∀ b o,b∉ch→s.heap.get? b=some o→H b=none→H' b=none)
 (there:∀ b o,b∉ch→s.heap.get? b=some o→∃ o',h'.get? b=some o')
 (tups:∀ b xs,H b=some (.tup xs)→H' b=some (.tup xs)) (frzs:∀ b o u,H b=some (.frz o u)→H' b=some (.frz o u)) (tbls:∀ b ps,H b=some (.tbl ps)→∃ more,H' b=some (.tbl (ps++more)))
 (ns:∀ m,s.heap.Ns X.env.locals m→h'.Ns X.env.locals m) (hok:HOk X.prog X.w H' h') (hg:AllBare g') :
 Inv X pins σ H' { s with heap:=h',gens:=g',drawn:=d',toks:=t' }:=by
 have neL:∀ b o,X.s₀.heap.get? b=some o→b≠X.env.locals:=fun b o e=>Nat.ne_of_lt (Nat.lt_of_lt_of_le (Heap.lt_size e) I.ok.above)
 have neC:∀ b o,X.s₀.heap.get? b=some o→b∉X.ex→b∉ch:=fun b o e hx hb=>by
  rcases (hch b hb).1 with z | z
  · exact hx z
  · exact absurd (Nat.lt_of_lt_of_le (Heap.lt_size e) z) (Nat.lt_irrefl _)
 have cellK:∀ x c,X.env.cells.lookup x=some c→∀ v,s.heap.IsCell c v→h'.IsCell c v:=fun x c e v ⟨o,ho,hd⟩=>by
  have nch:c∉ch:=fun z=>(hch c z).2.2.1 x c e rfl
  by_cases hc:c∈X.fs
  · obtain ⟨sl,q⟩:=slot c o (I.cne x c e) hc nch ho (I.freeC x c e)
    exact ⟨_,q,hd⟩
  · exact ⟨o,keep c o (I.cne x c e) hc nch ho (I.freeC x c e),hd⟩
 refine ⟨I.ok,I.os,hg,⟨fun b o e n hb hx=>?_,fun b o e n hb hx=>?_,fun b o e n hx=>?_,fun b o e hx=>?_,fun b xs e=>tups b xs (I.base.tups b xs e),fun b o xs e=>frzs b o xs (I.base.frzs b o xs e),fun b ps e=>?_⟩,?_,fun x c e=>?_,?_,fun x c e=>?_,fun p hp=>?_,hok,I.len⟩
 · exact keep b o (neL b o e) hb (neC b o e hx) (I.base.keep b o e n hb hx) (I.base.free b o e n hx)
 · obtain ⟨sl,e1⟩:=I.base.slot b o e n hb hx
   obtain ⟨sl',e2⟩:=slot b _ (neL b o e) hb (neC b o e hx) e1 (I.base.free b o e n hx)
   exact ⟨sl',e2⟩
 · obtain ⟨o',e1⟩:=I.base.there b o e hx
   exact free b o' (neC b o e hx) e1 (I.base.free b o e n hx)
 · obtain ⟨o',e1⟩:=I.base.there b o e hx
   exact there b o' (neC b o e hx) e1
 · obtain ⟨m1,e1⟩:=I.base.tbls b ps e
   obtain ⟨m2,e2⟩:=tbls b _ e1
   exact ⟨m1++m2,by rw [e2,Array.append_assoc]⟩
 · obtain ⟨m,hn,hl⟩:=I.loc
   refine ⟨m,ns m hn,fun i x v e1 e2 e3=>?_⟩
   obtain ⟨u,r,l⟩:=hl i x v e1 e2 e3
   refine ⟨u,r,?_⟩
   rcases l with l | ⟨k,c,e,z⟩
   · exact .inl l
   · exact .inr ⟨k,c,e,cellK x c e _ z⟩
 · obtain ⟨v,z⟩:=I.cell x c e
   exact ⟨v,cellK x c e v z⟩
 · obtain ⟨m,⟨o,_,_,ho,_⟩,_⟩:=I.loc
   exact free _ o (fun z=>(hch _ z).2.1 rfl) ho I.free
 · obtain ⟨v,o,ho,hd⟩:=I.cell x c e
   exact free c o (fun z=>(hch c z).2.2.1 x c e rfl) ho (I.freeC x c e)
 · obtain ⟨e,n,ne,nf,d⟩:=I.pin p hp
   have nch:p.1∉ch:=fun z=>(hch p.1 z).2.2.2 p hp rfl
   exact ⟨keep p.1 p.2 ne nf nch e n,free p.1 p.2 nch e n,ne,nf,d⟩
theorem Inv.un {t':Nat}(I:Inv X pins σ H s) (u:Un X.fs [] H H' s.heap h') (hok:HOk X.prog X.w H' h'):Inv X pins σ H' { s with heap:=h',toks:=t' }:=by
 obtain ⟨m,⟨o,es,ep,ho,r⟩,_⟩:=id I.loc
 obtain ⟨sl,hL⟩:=u.any ho I.free (by simp)
 exact I.step (g':=s.gens) (d':=s.drawn) (ch:=[]) (fun _ z=>nomatch z) (fun b o _ hb _ e n=>u.keep b o e n hb (by simp)) (fun b o _ hb _ e n=>u.slot b o e n hb (by simp)) (fun b o _ e n=>u.free b o e n (by simp)) (fun b o _ e=>u.there b o e (by simp)) u.tups u.frzs u.tbls (fun m' hm=>by
  obtain ⟨o',es',ep',ho',r'⟩:=hm
  rw [ho] at ho'; cases ho'
  exact ⟨_,es',ep',hL,r'⟩) hok I.bare
theorem Inv.call {g':Array GenState}{t':Nat}{d':Drawn}{ch:List Addr}(I:Inv X pins σ H s) (u:Un (frs X.stack) ch H H' s.heap h') (hok:HOk X.prog X.w H' h') (hg:AllBare g')
 (hch:∀ b∈ch,(b∈X.ex∨X.s₀.heap.objs.size≤b)∧b≠X.env.locals∧(∀ x c,X.env.cells.lookup x=some c→c≠b)∧∀ p∈X.pn++pins,p.1≠b) :
 Inv X pins σ H' { s with heap:=h',gens:=g',drawn:=d',toks:=t' }:=by
 obtain ⟨m,⟨o,es,ep,ho,r⟩,_⟩:=id I.loc
 obtain ⟨sl,hL⟩:=u.any ho I.free fun z=>(hch _ z).2.1 rfl
 exact I.step (ch:=ch) hch (fun b o hL hb hc e n=>u.keep b o e n (fun z=>(List.mem_cons.mp (I.stkSub b z)).elim hL hb) hc) (fun b o _ _ hc e n=>u.any e n hc) (fun b o hc e n=>u.free b o e n hc) (fun b o hc e=>u.there b o e hc) u.tups u.frzs u.tbls (fun m' hm=>by
  obtain ⟨o',es',ep',ho',r'⟩:=hm
  rw [ho] at ho'; cases ho'
  exact ⟨_,es',ep',hL,r'⟩) hok hg
theorem Inv.turned {t':Nat}{it:Addr}(I:Inv X pins σ H s) (k:∀ b o,b≠it→s.heap.get? b=some o→h'.get? b=some o) (hn:H it=none) (hL:it≠X.env.locals)
 (h1:it∈X.ex∨X.s₀.heap.objs.size≤it) (h2:∀ x c,X.env.cells.lookup x=some c→c≠it) (h3:∀ p∈X.pn++pins,p.1≠it):Inv X pins σ H { s with heap:=h',toks:=t' }:=by
 have nit:∀ b u,H b=some u→b≠it:=fun b u e z=>by rw [z,hn] at e; cases e
 refine I.step (g':=s.gens) (d':=s.drawn) (ch:=[it]) (fun b hb=>?_) (fun b o _ _ hc e _=>k b o (fun z=>hc (by simp [z])) e) (fun b o _ _ hc e _=>⟨o.slots,k b o (fun z=>hc (by simp [z])) e⟩) (fun _ _ _ _ n=>n)
  (fun b o hc e=>⟨o,k b o (fun z=>hc (by simp [z])) e⟩) (fun _ _ e=>e) (fun _ _ _ e=>e) (fun b ps e=>⟨#[],by rw [e]; simp⟩) (fun m hm=>?_) (fun b u e=>?_) I.bare
 · have e:b=it:=by simpa using hb
   subst e
   exact ⟨h1,hL,h2,h3⟩
 · obtain ⟨o,es,ep,ho,r⟩:=hm
   exact ⟨o,es,ep,k _ o (Ne.symm hL) ho,r⟩
 · refine (I.hok b u e).stay (fun c v hc q=>k c v ?_ q) (fun _ q=>q) fun _ _ q=>q
   rcases hc with z | z
   · rw [z]; exact nit b u e
   · exact nit c _ z
theorem Inv.tok (I:Inv X pins σ H s) (t:Nat):Inv X pins σ H { s with toks:=t }:=I.un (h':=s.heap) (t':=t) Un.refl I.hok
theorem Inv.kept {t':Nat}(I:Inv X pins σ H s) (k:∀ b u,s.heap.get? b=some u→h'.get? b=some u):Inv X pins σ H { s with heap:=h',toks:=t' }:=I.un (Un.kept k) (I.hok.kept k)
theorem Inv.laid {a:Addr}{o:HO}{t':Nat}(I:Inv X pins σ H s) (k:∀ b u,s.heap.get? b=some u→h'.get? b=some u) (hp:s.heap.objs.size≤a) (new:ObjOk X.prog X.w (upd H a o) h' a o) :
 Inv X pins σ (upd H a o) { s with heap:=h',toks:=t' }:=I.un (Un.laid k hp (I.hok.fresh hp)) (I.hok.laid k hp new)
theorem Inv.write {x e:Addr}{o:HO}{t':Nat}(I:Inv X pins σ H s) (mu:Mut (H x)) (he:e=x∨H e=some (.own x)) (k:∀ b u,b≠e→s.heap.get? b=some u→h'.get? b=some u) (heo:∃ u,h'.get? e=some u)
 (new:ObjOk X.prog X.w (upd H x o) h' x o):Inv X pins σ (upd H x o) { s with heap:=h',toks:=t' }:=I.un (Un.write mu he k heo) (I.hok.write mu he k heo new)
theorem Inv.pins_of {pins':List (Addr×Obj)}(I:Inv X pins σ H s) (h:∀ p∈pins',s.heap.get? p.1=some p.2∧H p.1=none∧p.1≠X.env.locals∧p.1∉X.fs∧∀ v,p.2.data≠.cell v):Inv X pins' σ H s :=
 ⟨I.ok,I.os,I.bare,I.base,I.loc,I.cell,I.free,I.freeC,fun p hp=>(List.mem_append.mp hp).elim (fun z=>I.pin p (List.mem_append_left _ z)) (h p),I.hok,I.len⟩
theorem as8 {N:List Str}(hN:N.Nodup) {i j:Nat}{x:Str}(a:N[i]?=some x) (b:N[j]?=some x):i=j:=by
 obtain ⟨h1,e1⟩:=List.getElem?_eq_some_iff.mp a
 obtain ⟨h2,e2⟩:=List.getElem?_eq_some_iff.mp b
 exact (List.getElem_inj hN).mp (e1.trans e2.symm)
theorem al9 {M:Model}{A:Around}{E:Value→Shared→Prop}{i:Nat}{x:Str}{v:V}{u:Value}{Q:Unit→Shared→Prop}(I:Inv X pins σ H s) (hN:X.N.Nodup) (hi:X.N[i]?=some x) (hx:Loc X.env.scope x) (r:RelV v u)
 (h:∀ s',Inv X pins (σ.set i (some v)) H s'→(∃ a,Heap.SameBut a s.heap s'.heap∧(a=X.env.locals∨X.env.cells.lookup x=some a))→Q () s') (hf:X.fn x=true∨X.env.scope.names.lookup x=some .local:=by first | exact .inl rfl | exact .inr rfl | assumption):wpAny M A (storeName X.env x u) Q E s:=by
 obtain ⟨m,hn,hl⟩:=id I.loc
 have hcls:(X.env.scope.kind == .class || (X.env.scope.kind == .module && X.env.locals != X.env.globals))=false:=by rw [I.ok.kind]; rfl
 have hiσ:i<σ.length:=by rw [I.len]; exact (List.getElem?_eq_some_iff.mp hi).1
 have cne:=I.cne
 have tracked:∀ {a:Addr}{h':Heap},(∃ o,s.heap.get? a=some o∧H a=none)→Heap.SameBut a s.heap h'→HOk X.prog X.w H h':=fun {a h'} ha hs b ob e=>by
  obtain ⟨_,_,hfree⟩:=ha
  refine (I.hok b ob e).stay (fun c w' hc q=>(hs.2 c ?_).trans q) (fun _ q=>q) fun _ _ q=>q
  rintro rfl
  rcases hc with rfl | hc
  · rw [hfree] at e; cases e
  · rw [hfree] at hc; cases hc
 rcases hx with hk | hk
 · refine wpAny_storeName_local hk hn (fun h' hn' hs=>?_) hcls
   obtain ⟨oL,_,_,hoL,_⟩:=id hn
   refine h _ ⟨I.ok,I.os,I.bare,⟨fun b o e n hb hx=>?_,fun b o e n hb hx=>?_,I.base.free,fun b o e hx=>?_,I.base.tups,I.base.frzs,I.base.tbls⟩,⟨_,hn',fun j y v' e1 e2 e3=>?_⟩,fun y c e=>?_,I.free,I.freeC,fun p hp=>?_,tracked ⟨oL,hoL,I.free⟩ hs,by simpa using I.len⟩ ⟨_,hs,.inl rfl⟩
   · exact (hs.2 b (Nat.ne_of_lt (Nat.lt_of_lt_of_le (Heap.lt_size e) I.ok.above))).trans (I.base.keep b o e n hb hx)
   · obtain ⟨sl,e1⟩:=I.base.slot b o e n hb hx
     exact ⟨sl,(hs.2 b (Nat.ne_of_lt (Nat.lt_of_lt_of_le (Heap.lt_size e) I.ok.above))).trans e1⟩
   · obtain ⟨o',e1⟩:=I.base.there b o e hx
     exact ⟨o',(hs.2 b (Nat.ne_of_lt (Nat.lt_of_lt_of_le (Heap.lt_size e) I.ok.above))).trans e1⟩
   · by_cases hj:j=i
     · subst hj
       rw [hi] at e1; cases e1
       rw [List.getElem?_set_self hiσ] at e2
       cases e2
       exact ⟨u,r,.inl ⟨hk,by simp⟩⟩
     · rw [List.getElem?_set_ne (Ne.symm hj)] at e2
       obtain ⟨u',r',q⟩:=hl j y v' e1 e2 e3
       refine ⟨u',r',?_⟩
       rcases q with ⟨k,e⟩ | ⟨k,c,e,z⟩
       · refine .inl ⟨k,?_⟩
         have:y≠x:=fun e=>hj (as8 hN e1 (e ▸ hi))
         simp [this,e]
       · exact .inr ⟨k,c,e,z.sameBut hs (cne y c e)⟩
   · obtain ⟨w',z⟩:=I.cell y c e
     exact ⟨w',z.sameBut hs (cne y c e)⟩
   · obtain ⟨e,n,ne,nf,d⟩:=I.pin p hp
     exact ⟨(hs.2 p.1 ne).trans e,n,ne,nf,d⟩
 · have hfn:X.fn x=true:=by
    rcases hf with z | z
    · exact z
    · rw [z] at hk; cases hk
   obtain ⟨c,hc⟩:=I.ok.has x (.inl hk)
   obtain ⟨w',z⟩:=I.cell x c hc
   refine wpAny_storeName_cell I.ok.kind hk hc z (fun h' hc' hs=>?_)
   obtain ⟨oc,hoc,hocd⟩:=id z
   refine h { s with heap:=h' } ⟨I.ok,I.os,I.bare,⟨fun b o e n hb hx=>?_,fun b o e n hb hx=>?_,I.base.free,fun b o e hx=>?_,I.base.tups,I.base.frzs,I.base.tbls⟩,⟨m,hn.sameBut hs (Ne.symm (cne x c hc)),fun j y v' e1 e2 e3=>?_⟩,fun y c' e=>?_,I.free,I.freeC,fun p hp=>?_,tracked ⟨oc,hoc,I.freeC x c hc⟩ hs,by simpa using I.len⟩ ⟨c,hs,.inr hc⟩
   · exact (hs.2 b (Nat.ne_of_lt (Nat.lt_of_lt_of_le (Heap.lt_size e) (I.ok.cab x c hfn hc)))).trans (I.base.keep b o e n hb hx)
   · obtain ⟨sl,e1⟩:=I.base.slot b o e n hb hx
     exact ⟨sl,(hs.2 b (Nat.ne_of_lt (Nat.lt_of_lt_of_le (Heap.lt_size e) (I.ok.cab x c hfn hc)))).trans e1⟩
   · obtain ⟨o',e1⟩:=I.base.there b o e hx
     exact ⟨o',(hs.2 b (Nat.ne_of_lt (Nat.lt_of_lt_of_le (Heap.lt_size e) (I.ok.cab x c hfn hc)))).trans e1⟩
   · by_cases hj:j=i
     · subst hj
       rw [hi] at e1; cases e1
       rw [List.getElem?_set_self hiσ] at e2
       cases e2
       exact ⟨u,r,.inr ⟨.inl hk,c,hc,hc'⟩⟩
     · rw [List.getElem?_set_ne (Ne.symm hj)] at e2
       obtain ⟨u',r',q⟩:=hl j y v' e1 e2 e3
       refine ⟨u',r',?_⟩
       rcases q with q | ⟨k,c',e,z'⟩
       · exact .inl q
       · refine .inr ⟨k,c',e,z'.sameBut hs ?_⟩
         rintro rfl
         exact hj (as8 hN e1 (I.ok.inj _ _ _ e hc ▸ hi))
   · by_cases hcc:c'=c
     · subst hcc; exact ⟨_,hc'⟩
     · obtain ⟨w2,z2⟩:=I.cell y c' e
       exact ⟨w2,z2.sameBut hs hcc⟩
   · obtain ⟨e,n,ne,nf,d⟩:=I.pin p hp
     refine ⟨(hs.2 p.1 ?_).trans e,n,ne,nf,d⟩
     intro q
     rw [q,hoc] at e
     have q':oc=p.2:=Option.some.inj e
     exact d w' (by rw [← q']; exact hocd)
theorem as9 {M:Model}{A:Around}{E:Value→Shared→Prop}{i:Nat}{x:Str}{v:V}{u:Value}{Q:Unit→Shared→Prop}(I:Inv X pins σ H s) (hN:X.N.Nodup) (hi:X.N[i]?=some x) (hx:Loc X.env.scope x) (r:RelV v u)
 (h:∀ s',Inv X pins (σ.set i (some v)) H s'→Q () s') (hf:X.fn x=true∨X.env.scope.names.lookup x=some .local:=by first | exact .inl rfl | exact .inr rfl | assumption):wpAny M A (storeName X.env x u) Q E s :=
 al9 I hN hi hx r (fun s' I' _=>h s' I') hf
theorem Inv.call' {s':Shared}{ch:List Addr}(I:Inv X pins σ H s) (ho:s'.os=s.os) (u:Un (frs X.stack) ch H H' s.heap s'.heap) (hok:HOk X.prog X.w H' s'.heap) (hg:AllBare s'.gens)
 (hch:∀ b∈ch,(b∈X.ex∨X.s₀.heap.objs.size≤b)∧b≠X.env.locals∧(∀ x c,X.env.cells.lookup x=some c→c≠b)∧∀ p∈X.pn++pins,p.1≠b):Inv X pins σ H' s':=by
 obtain ⟨h',g',d',t',o'⟩:=s'
 have e:o'=s.os:=ho
 subst e
 exact I.call (g':=g') (t':=t') (d':=d') u hok hg hch
end
abbrev XK:=Value→Option Addr→Hp→Prop
abbrev St:=List (Option V)
abbrev VK:=V→Hp→Prop
abbrev TE:=St→Hp→VK→Prop
abbrev TT:=St→Hp→(Bool→Hp→Prop)→Prop
abbrev TA:=St→Hp→(List V→Hp→Prop)→Prop
structure Ends where
 nx:St→Hp→Prop
 rt:VK
 bk:St→Hp→Prop:=fun _ _=>False
 ct:St→Hp→Prop:=fun _ _=>False
abbrev TS:=Ends→St→Hp→Prop
def EP (X:Cx) (pins:List (Addr×Obj)) (σ:St) (Q:VK) (u:Value) (s':Shared):Prop:=∃ v H',Inv X pins σ H' s'∧RelV v u∧Q v H'
def TP (X:Cx) (pins:List (Addr×Obj)) (σ:St) (Q:Bool→Hp→Prop) (b:Bool) (s':Shared):Prop:=∃ H',Inv X pins σ H' s'∧Q b H'
def AP (X:Cx) (pins:List (Addr×Obj)) (σ:St) (Q:List V→Hp→Prop) (us:List Value) (s':Shared):Prop:=∃ vs H',Inv X pins σ H' s'∧Vals vs us∧Q vs H'
def SP (X:Cx) (pins:List (Addr×Obj)) (D:Ends) (f:Flow) (s':Shared):Prop :=
 match f with
 | .next=>∃ σ' H',Inv X pins σ' H' s'∧D.nx σ' H'
 | .brk=>∃ σ' H',Inv X pins σ' H' s'∧D.bk σ' H'
 | .cont=>∃ σ' H',Inv X pins σ' H' s'∧D.ct σ' H'
 | .ret u=>∃ v σ' H',Inv X pins σ' H' s'∧RelV v u∧D.rt v H'
def PE (X:Cx) (e:Expr) (t:TE):Prop :=
 ∀ (pins:List (Addr×Obj)) (s:Shared) (σ:St) (H:Hp) (Q:VK),Inv X pins σ H s→t σ H Q→wpAny (model X.prog X.w) X.A (eval e X.env) (EP X pins σ Q) X.xe s
def PT (X:Cx) (e:Expr) (t:TT):Prop :=
 ∀ (pins:List (Addr×Obj)) (s:Shared) (σ:St) (H:Hp) (Q:Bool→Hp→Prop),Inv X pins σ H s→t σ H Q→wpAny (model X.prog X.w) X.A (isTrue e X.env (eval e X.env)) (TP X pins σ Q) X.xe s
def PW (X:Cx) (e:Expr) (t:TT):Prop :=
 ∀ (whole:Sem Value) (pins:List (Addr×Obj)) (s:Shared) (σ:St) (H:Hp) (Q:Bool→Hp→Prop),Inv X pins σ H s→t σ H Q→wpAny (model X.prog X.w) X.A (isTrue e X.env whole) (TP X pins σ Q) X.xe s
theorem PW.pt {X:Cx}{e:Expr}{t:TT}(h:PW X e t):PT X e t:=h _
def PA (X:Cx) (es:List Expr) (t:TA):Prop :=
 ∀ (pos:Pos) (pins:List (Addr×Obj)) (s:Shared) (σ:St) (H:Hp) (Q:List V→Hp→Prop),Inv X pins σ H s→t σ H Q→wpAny (model X.prog X.w) X.A (spliced (backTo pos (starEach es X.env))) (AP X pins σ Q) X.xe s
def PS (X:Cx) (st:Stmt) (t:TS):Prop :=
 ∀ (pins:List (Addr×Obj)) (s:Shared) (σ:St) (H:Hp) (D:Ends),Inv X pins σ H s→t D σ H→wpAny (model X.prog X.w) X.A (exec st X.env) (SP X pins D) X.xe s
def PSs (X:Cx) (st:List Stmt) (t:TS):Prop :=
 ∀ (pins:List (Addr×Obj)) (s:Shared) (σ:St) (H:Hp) (D:Ends),Inv X pins σ H s→t D σ H→wpAny (model X.prog X.w) X.A (execs st X.env) (SP X pins D) X.xe s
theorem thn {α:Type}{t:Sem α}{Q Q':α→Shared→Prop}{M:Model}{A:Around}{E:Value→Shared→Prop}{s:Shared}(h:wpAny M A t Q E s) (hQ:∀ a s,Q a s→Q' a s):wpAny M A t Q' E s:=wpAny_mono h hQ fun _ _ x=>x
section
variable {X:Cx}
def tVar (i:Nat):TE:=fun σ H Q=>∃ v,σ[i]?=some (some v)∧Q v H
def tC (v:V):TE:=fun _ H Q=>Q v H
theorem bg9 {i:Nat}{x:Str}{pos:Pos}(hN:X.N[i]?=some x) (hv:Vis X.env.scope x) (hd:(x == ("__debug__":Str))=false:=by decide) (hcd:(x == ("__classdict__":Str))=false:=by decide):PE X (.Name x pos) (tVar i):=by
 intro pins s σ H Q I h
 obtain ⟨v,e,h⟩:=h
 obtain ⟨m,hn,hl⟩:=I.loc
 obtain ⟨u,r,l⟩:=hl i x v hN e hv
 have fin:EP X pins σ Q u s:=⟨v,H,I,r,h⟩
 rcases l with ⟨hk,hm⟩ | ⟨hk,c,hc,hcell⟩
 · exact wpAny_Name (wpAny_loadName_local I.ok.kind hk hn hm fin) hd
 · rcases hk with hk | hk
   · exact wpAny_Name (wpAny_loadName_cell I.ok.kind hk hc hcell fin) hd
   · exact wpAny_Name (wpAny_loadName_free I.ok.kind hk hc hcell fin hcd) hd
theorem a04 {i j pos}:PE X (.Constant (.int i) j pos) (tC (.int i)):=fun _ _ _ H _ I h=>wpAny_Constant_int ⟨.int i,H,I.tok _,⟨_,rfl⟩,h⟩
theorem b37 {b j pos}:PE X (.Constant (.bool b) j pos) (tC (.bl b)):=fun _ _ _ H _ I h=>Constant_bool ⟨.bl b,H,I,rfl,h⟩
theorem a51 {j pos}:PE X (.Constant .none j pos) (tC .non):=fun _ _ _ H _ I h=>Constant_none ⟨.non,H,I,rfl,h⟩
theorem a21 {x j pos}:PE X (.Constant (.str x) j pos) (tC (.str x)):=fun _ _ _ H _ I h=>Calls.Constant_str ⟨.str x,H,I.tok _,⟨_,rfl⟩,h⟩
def Gl (X:Cx) (x:Str):Prop:=X.env.kindOf x=some .globalImplicit
theorem aq3 {E:Value→Shared→Prop}{pins:List (Addr×Obj)}{s:Shared}{σ:St} {H:Hp}{x:Str}{u:Value}{pos:Pos}{Q:Value→Shared→Prop}(I:Inv X pins σ H s) (hg:Gl X x) (hm:X.mg x=some u) (h:Q u s)
 (hd:(x == ("__debug__":Str))=false:=by decide):wpAny (model X.prog X.w) X.A (eval (.Name x pos) X.env) Q E s :=
 Calls.Name_function_global I.ok.kind hg (Calls.loadGlobal_global (by rw [I.ok.glob]; exact I.mod.glob.keeps I.bk) hm h) hd
theorem ah9 {E:Value→Shared→Prop}{pins:List (Addr×Obj)}{s:Shared}{σ:St} {H:Hp}{x:Str}{u:Value}{pos:Pos}{Q:Value→Shared→Prop}(I:Inv X pins σ H s) (hg:Gl X x) (hm:X.mg x=none) (hv:bootBuiltins x=some u) (h:Q u s)
 (hn:x≠"__name__":=by decide) (hd:(x == ("__debug__":Str))=false:=by decide):wpAny (model X.prog X.w) X.A (eval (.Name x pos) X.env) Q E s:=by
 obtain ⟨mb,h1,h2⟩:=I.mod.blt
 exact Calls.Name_function_global I.ok.kind hg (Calls.loadGlobal_builtin (by rw [I.ok.glob]; exact I.mod.glob.keeps I.bk) hm (by rw [I.ok.blt]; exact h1.keeps I.bk) ((h2 x hn).trans hv) h) hd
theorem aq4 {x:Str}{v:V}{u:Value}{pos:Pos}(hg:Gl X x) (hm:X.mg x=some u) (r:RelV v u) (hd:(x == ("__debug__":Str))=false:=by decide):PE X (.Name x pos) (tC v) :=
 fun _ _ _ H _ I h=>aq3 I hg hm ⟨v,H,I,r,h⟩ hd
theorem aj6 {x:Str}{v:V}{u:Value}{pos:Pos}(hg:Gl X x) (hm:X.mg x=none) (hv:bootBuiltins x=some u) (r:RelV v u) (hn:x≠"__name__":=by decide) (hd:(x == ("__debug__":Str))=false:=by decide):PE X (.Name x pos) (tC v) :=
 fun _ _ _ H _ I h=>ah9 I hg hm hv ⟨v,H,I,r,h⟩ hn hd
variable {a b:Expr}{ta tb:TE}{pos:Pos}
def tB (t:TE):TT:=fun σ H Q=>t σ H fun x H1=>∃ c,x=.bl c∧Q c H1
variable {tA tB':TT}{rest:List Expr}
def tAnd (t u:TT):TT:=fun σ H Q=>t σ H fun c H1=>if c=true then u σ H1 Q else Q false H1
def tOr (t u:TT):TT:=fun σ H Q=>t σ H fun c H1=>if c=true then Q true H1 else u σ H1 Q
def tNot (t:TT):TT:=fun σ H Q=>t σ H fun c H1=>Q (!c) H1
theorem ac8 (ha:PT X a tA):PW X (.BoolOp .And [a] pos) tA:=by
 intro wh pins s σ H Q I h
 refine isTrue_and (thn (ha pins s σ H Q I h) fun c s1 e=>?_)
 cases c with
 | true=>exact isTrue_and_nil e
 | false=>exact e
theorem ae4 (ha:PT X a tA):PW X (.BoolOp .Or [a] pos) tA:=by
 intro wh pins s σ H Q I h
 refine isTrue_or (thn (ha pins s σ H Q I h) fun c s1 e=>?_)
 cases c with
 | false=>exact isTrue_or_nil e
 | true=>exact e
theorem ai0 (ha:PT X a tA) (hb:PW X (.BoolOp .And (b::rest) pos) tB'):PW X (.BoolOp .And (a::b::rest) pos) (tAnd tA tB'):=by
 intro wh pins s σ H Q I h
 refine isTrue_and (thn (ha pins s σ H _ I h) ?_)
 rintro c s1 ⟨H1,I1,q1⟩
 cases c with
 | true=>exact hb wh pins s1 σ H1 Q I1 q1
 | false=>exact ⟨H1,I1,q1⟩
theorem aj7 (ha:PT X a tA) (hb:PW X (.BoolOp .Or (b::rest) pos) tB'):PW X (.BoolOp .Or (a::b::rest) pos) (tOr tA tB'):=by
 intro wh pins s σ H Q I h
 refine isTrue_or (thn (ha pins s σ H _ I h) ?_)
 rintro c s1 ⟨H1,I1,q1⟩
 cases c with
 | true=>exact ⟨H1,I1,q1⟩
 | false=>exact hb wh pins s1 σ H1 Q I1 q1
theorem am0 (ha:PT X a tA):PT X (.UnaryOp .Not a pos) (tNot tA):=by
 intro pins s σ H Q I h
 exact isTrue_not (ha pins s σ H (fun c H1=>Q (!c) H1) I h)
def bh0 (ta tb:TE):TE:=fun σ H Q=>ta σ H fun x H1=>∃ c,x=.bl c∧if c=true then tb σ H1 Q else Q (.bl false) H1
def bh1 (ta:TE):TE:=fun σ H Q=>ta σ H fun x H1=>∃ c,x=.bl c∧Q (.bl (!c)) H1
theorem at0 {op}{t:TE}(h:PE X a t):PE X (.BoolOp op [a] pos) t:=fun pins s σ H Q I hw=>BoolOp_one (h pins s σ H Q I hw)
theorem at1 (ha:PE X a ta) (hb:PE X (.BoolOp .And (b::rest) pos) tb):PE X (.BoolOp .And (a::b::rest) pos) (bh0 ta tb):=by
 intro pins s σ H Q I h
 refine BoolOp_and (thn (ha pins s σ H _ I h) ?_)
 rintro v s1 ⟨x,H1,I1,r1,q1⟩
 obtain ⟨c,rfl,q1⟩:=q1
 cases r1
 refine wpAny_truthy_bool ?_
 cases c with
 | true=>exact hb pins s1 σ H1 Q I1 q1
 | false=>exact ⟨.bl false,H1,I1,rfl,q1⟩
theorem b81 (ha:PE X a ta):PE X (.UnaryOp .Not a pos) (bh1 ta):=by
 intro pins s σ H Q I h
 refine UnaryOp_ (thn (ha pins s σ H _ I h) ?_)
 rintro v s1 ⟨x,H1,I1,r1,q1⟩
 obtain ⟨c,rfl,q1⟩:=q1
 cases r1
 exact not_of (wpAny_truthy_bool ⟨.bl (!c),H1,I1,rfl,q1⟩)
def tIf (t:TT) (ta tb:TE):TE:=fun σ H Q=>t σ H fun c H1=>if c=true then ta σ H1 Q else tb σ H1 Q
theorem at2 {c:Expr}(hc:PT X c tA) (ha:PE X a ta) (hb:PE X b tb):PE X (.IfExp c a b pos) (tIf tA ta tb):=by
 intro pins s σ H Q I h
 refine wpAny_IfExp (thn (hc pins s σ H _ I h) ?_)
 rintro d s1 ⟨H1,I1,q1⟩
 cases d with
 | true=>exact ha pins s1 σ H1 Q I1 q1
 | false=>exact hb pins s1 σ H1 Q I1 q1
end
def SqL (K:PySem.W.Frag) (H:Hp) (a:Addr) (xs:List V):Prop :=
 Rd H a (.lst xs) ∨
  ∃ (o:Obj) (its:Array Value) (n:Nat),K.lookup a=some o∧o.cls=.type "list"∧o.dict=none∧o.data=.seq its n∧its.size≤sizeLine∧Vals xs its.toList
def SqT (K:PySem.W.Frag) (H:Hp) (a:Addr) (xs:List V):Prop :=
 Rd H a (.tup xs) ∨
  ∃ (o:Obj) (its:Array Value) (n:Nat),K.lookup a=some o∧o.cls=.type "tuple"∧o.data=.seq its n∧its.size≤sizeLine∧Vals xs its.toList
def absV:Value→Option V
 | .none=>some .non
 | .bool b=>some (.bl b)
 | .int i _=>some (.int i)
 | .str x _=>some (.str x)
 | .bytes b _=>some (.byt b)
 | .float b _=>some (.flt b)
 | .ref a=>some (.ref a)
 | .type n=>some (.ty n)
 | _=>none
theorem RelV.abs {x:V}{u:Value}(r:RelV x u):absV u=some x:=by
 cases x with
 | non=>cases r; rfl
 | bl _=>cases r; rfl
 | int _=>obtain ⟨t,rfl⟩:=r; rfl
 | str _=>obtain ⟨t,rfl⟩:=r; rfl
 | byt _=>obtain ⟨t,rfl⟩:=r; rfl
 | flt _=>obtain ⟨t,rfl⟩:=r; rfl
 | ref _=>cases r; rfl
 | ty _=>cases r; rfl
theorem RelV.inj {x y:V}{u:Value}(r:RelV x u) (q:RelV y u):x=y:=Option.some.inj (r.abs.symm.trans q.abs)
theorem Vals.inj:∀ {xs ys:List V}{us:List Value},Vals xs us→Vals ys us→xs=ys
 | _,_,_,.nil,.nil=>rfl
 | _,_,_,.cons r t,.cons r' t'=>by rw [r.inj r',Vals.inj t t']
section
variable {X:Cx}{pins:List (Addr×Obj)}{σ:St} {H:Hp}{s:Shared}{a:Addr}{xs ys:List V}
theorem SqL.of {K:PySem.W.Frag}(h:H a=some (.lst xs)):SqL K H a xs:=.inl (.inl h)
theorem SqT.of {K:PySem.W.Frag}(h:H a=some (.tup xs)):SqT K H a xs:=.inl (.inl h)
theorem Inv.list (I:Inv X pins σ H s) (h:SqL X.K H a xs):∃ its:List Value,Vals xs its∧PlainL s.heap a its.toArray∧xs.length≤sizeLine:=by
 rcases h with h | ⟨o,its,n,hk,hc,hd,hs,hz,r⟩
 · obtain ⟨z,its,n,r,e⟩:=h.ok I.hok
   exact ⟨its,r,⟨_,n,e,rfl,rfl,rfl⟩,z⟩
 · refine ⟨its.toList,r,⟨o,n,I.kIn a o hk,hc,hd,by simpa using hs⟩,?_⟩
   have e:=r.length
   simp only [Array.length_toList] at e
   omega
theorem Inv.tuple (I:Inv X pins σ H s) (h:SqT X.K H a xs):∃ its:List Value,Vals xs its∧IsTup s.heap a its.toArray∧xs.length≤sizeLine:=by
 rcases h with h | ⟨o,its,n,hk,hc,hs,hz,r⟩
 · obtain ⟨z,its,r,p⟩:=h.ok I.hok
   exact ⟨its,r,p,z⟩
 · refine ⟨its.toList,r,⟨o,I.kIn a o hk,hc,n,by simpa using hs⟩,?_⟩
   have e:=r.length
   simp only [Array.length_toList] at e
   omega
theorem Inv.list_inj (I:Inv X pins σ H s) (h:SqL X.K H a xs) (h':SqL X.K H a ys):xs=ys:=by
 obtain ⟨its,r,⟨o,n,e,_,_,d⟩,_⟩:=I.list h
 obtain ⟨its',r',⟨o',n',e',_,_,d'⟩,_⟩:=I.list h'
 rw [e] at e'; cases e'
 rw [d] at d'
 injection d' with d1 _
 have:its=its':=by simpa using congrArg Array.toList d1
 subst this
 exact r.inj r'
theorem Inv.tuple_inj (I:Inv X pins σ H s) (h:SqT X.K H a xs) (h':SqT X.K H a ys):xs=ys:=by
 obtain ⟨its,r,⟨o,e,_,n,d⟩,_⟩:=I.tuple h
 obtain ⟨its',r',⟨o',e',_,n',d'⟩,_⟩:=I.tuple h'
 rw [e] at e'; cases e'
 rw [d] at d'
 injection d' with d1 _
 have:its=its':=by simpa using congrArg Array.toList d1
 subst this
 exact r.inj r'
end
abbrev Cx.wish (X:Cx) (E:Value→Shared→Prop):Cx:={ X with xe:=E }
abbrev Cx.nox (X:Cx):Cx:=X.wish fun _ _=>False
theorem Cx.Ok.wish {X:Cx}(ok:X.Ok) (E:Value→Shared→Prop):(X.wish E).Ok :=
 ⟨ok.mod,ok.kind,ok.glob,ok.blt,ok.above,ok.inj,ok.has,ok.cab,ok.hd,ok.frames,ok.stk,ok.exf,ok.bs,ok.bsz,ok.noex,ok.exfs,ok.funs,ok.frf⟩
theorem Cx.Ok.unwish {X:Cx}{E:Value→Shared→Prop}(ok:(X.wish E).Ok):X.Ok :=
 ⟨ok.mod,ok.kind,ok.glob,ok.blt,ok.above,ok.inj,ok.has,ok.cab,ok.hd,ok.frames,ok.stk,ok.exf,ok.bs,ok.bsz,ok.noex,ok.exfs,ok.funs,ok.frf⟩
section
variable {X:Cx}{pins:List (Addr×Obj)}{σ:St} {H:Hp}{s:Shared}{E:Value→Shared→Prop}
theorem Inv.wish (I:Inv X pins σ H s) (E:Value→Shared→Prop):Inv (X.wish E) pins σ H s:=⟨I.ok.wish E,I.os,I.bare,I.base,I.loc,I.cell,I.free,I.freeC,I.pin,I.hok,I.len⟩
theorem Inv.unwish (I:Inv (X.wish E) pins σ H s):Inv X pins σ H s:=⟨I.ok.unwish,I.os,I.bare,I.base,I.loc,I.cell,I.free,I.freeC,I.pin,I.hok,I.len⟩
theorem SP.unwish {D:Ends}{f:Flow}{s':Shared}(h:SP (X.wish E) pins D f s'):SP X pins D f s':=by
 cases f with
 | next=>obtain ⟨σ',H',I,q⟩:=h; exact ⟨σ',H',I.unwish,q⟩
 | brk=>obtain ⟨σ',H',I,q⟩:=h; exact ⟨σ',H',I.unwish,q⟩
 | cont=>obtain ⟨σ',H',I,q⟩:=h; exact ⟨σ',H',I.unwish,q⟩
 | ret u=>obtain ⟨v,σ',H',I,r,q⟩:=h; exact ⟨v,σ',H',I.unwish,r,q⟩
theorem PSs.nox {st:List Stmt}{t:TS}(h:PSs X.nox st t):PSs X st t:=fun pins s σ H D I hw =>
 wpAny_mono (h pins s σ H D (I.wish _) hw) (fun _ _ q=>q.unwish) fun _ _ z=>False.elim z
end
section
variable {X:Cx}{st:Stmt}{rest:List Stmt}{t u:TS}{e:Expr}{te:TE}{pos:Pos}
def bh2:TS:=fun D σ H=>D.nx σ H
def tSeq (t u:TS):TS:=fun D σ H=>t { D with nx:=u D } σ H
theorem a18:PSs X [] bh2:=fun _ _ σ H _ I h=>wpAny_execs_nil ⟨σ,H,I,h⟩
theorem a01 (h1:PS X st t) (h2:PSs X rest u):PSs X (st::rest) (tSeq t u):=by
 intro pins s σ H D I h
 refine wpAny_execs_cons (thn (h1 pins s σ H { D with nx:=u D } I h) fun f s1 q=>?_)
 cases f with
 | next =>
   obtain ⟨σ',H',I',q⟩:=q
   exact h2 pins s1 σ' H' D I' q
 | ret v=>exact q
 | brk=>exact q
 | cont=>exact q
theorem a05 (h1:PS X st t):PSs X [st] t:=by
 intro pins s σ H D I h
 refine wpAny_execs_cons (thn (h1 pins s σ H D I h) fun f s1 q=>?_)
 cases f with
 | next=>exact wpAny_execs_nil q
 | ret v=>exact q
 | brk=>exact q
 | cont=>exact q
theorem Inv.quiet {pins:List (Addr×Obj)}{σ:St} {H:Hp}{s:Shared}(I:Inv X pins σ H s):interactive X.env=false:=by simp [interactive,I.ok.kind]
def bh3 (te:TE):TS:=fun D σ H=>te σ H fun _ H1=>D.nx σ H1
theorem a60 (he:PE X e te) (hs:swapsWith e none pos.line X.env=pure false:=by rfl):PS X (.Expr e pos) (bh3 te):=by
 intro pins s σ H D I h
 exact wpAny_Expr_any (thn (he pins s σ H _ I h) (by rintro v s1 ⟨x,H1,I1,r1,q1⟩; exact ⟨σ,H1,I1,q1⟩)) I.quiet hs
def tRet (te:TE):TS:=fun D σ H=>te σ H D.rt
theorem a19 (he:PE X e te):PS X (.Return (some e) pos) (tRet te):=by
 intro pins s σ H D I h
 exact wpAny_Return_some (thn (he pins s σ H _ I h) (by rintro v s1 ⟨x,H1,I1,r1,q1⟩; exact ⟨x,σ,H1,I1,r1,q1⟩))
def tIfS (c:TT) (t u:TS):TS:=fun D σ H=>c σ H fun b H1=>if b=true then t D σ H1 else u D σ H1
theorem a33 {c:Expr}{a b:List Stmt}{tc:TT}(hc:PT X c tc) (ha:PSs X a t) (hb:PSs X b u):PS X (.If c a b pos) (tIfS tc t u):=by
 intro pins s σ H D I h
 refine wpAny_If (thn (hc pins s σ H _ I h) ?_)
 rintro d s1 ⟨H1,I1,q1⟩
 cases d with
 | true=>exact ha pins s1 σ H1 D I1 q1
 | false=>exact hb pins s1 σ H1 D I1 q1
end
abbrev TG:=V→St→Hp→(St→Hp→Prop)→Prop
abbrev TGs:=List V→St→Hp→(St→Hp→Prop)→Prop
def PG (X:Cx) (target:Expr) (t:TG):Prop :=
 ∀ (pins:List (Addr×Obj)) (s:Shared) (σ:St) (H:Hp) (v:V) (u:Value) (Q:St→Hp→Prop),Inv X pins σ H s→RelV v u→t v σ H Q →
  wpAny (model X.prog X.w) X.A (assign target X.env u) (fun _ s'=>∃ σ' H',Inv X pins σ' H' s'∧Q σ' H') X.xe s
def PGs (X:Cx) (ts:List Expr) (t:TGs):Prop :=
 ∀ (pins:List (Addr×Obj)) (s:Shared) (σ:St) (H:Hp) (vs:List V) (us:List Value) (Q:St→Hp→Prop),Inv X pins σ H s→Vals vs us→t vs σ H Q →
  wpAny (model X.prog X.w) X.A (assignInOrder ((assignEach ts X.env).map (·.2)) us) (fun _ s'=>∃ σ' H',Inv X pins σ' H' s'∧Q σ' H') X.xe s
abbrev TSet:=V→V→V→Hp→(Hp→Prop)→Prop
def PSet (X:Cx) (t:TSet):Prop :=
 ∀ (pins:List (Addr×Obj)) (s:Shared) (σ:St) (H:Hp) (o i v:V) (ov iv u:Value) (Q:Hp→Prop),Inv X pins σ H s→RelV o ov→RelV i iv→RelV v u→t o i v H Q →
  wpAny (model X.prog X.w) X.A (setItem ov iv u) (fun _ s'=>∃ H',Inv X pins σ H' s'∧Q H') X.xe s
section
variable {X:Cx}{pos:Pos}
def ac9 (i:Nat):TG:=fun v σ H Q=>Q (σ.set i (some v)) H
theorem a36 {i:Nat}{x:Str}(hN:X.N.Nodup) (hi:X.N[i]?=some x) (hx:Loc X.env.scope x) (hf:X.fn x=true∨X.env.scope.names.lookup x=some .local:=by first | exact .inl rfl | exact .inr rfl | assumption):PG X (.Name x pos) (ac9 i):=by
 intro pins s σ H v u Q I r h
 exact wpAny_assign_Name (as9 I hN hi hx r (fun s' I'=>⟨_,H,I',h⟩) hf)
def gNil:TGs:=fun vs σ H Q=>vs=[]∧Q σ H
def aq5 (t:TG) (u:TGs):TGs:=fun vs σ H Q=>∃ v r,vs=v::r∧t v σ H fun σ' H'=>u r σ' H' Q
theorem a92:PGs X [] gNil:=by
 intro pins s σ H vs us Q I r h
 obtain ⟨e,h⟩:=h
 subst e
 cases r
 exact assignInOrder_nil ⟨σ,H,I,h⟩
theorem a37 {e:Expr}{es:List Expr}{t:TG}{u:TGs}(h1:PG X e t) (h2:PGs X es u)
 (hs:(assignEach (e::es) X.env).map (·.2)=assign e X.env::(assignEach es X.env).map (·.2):=by rfl):PGs X (e::es) (aq5 t u):=by
 intro pins s σ H vs us Q I r h
 obtain ⟨v,vr,e1,h⟩:=h
 subst e1
 cases r with
 | cons r rr =>
   rw [hs]
   refine assignInOrder_cons (thn (h1 pins s σ H _ _ _ I r h) ?_)
   rintro _ s1 ⟨σ1,H1,I1,q1⟩
   exact h2 pins s1 σ1 H1 _ _ Q I1 rr q1
def gTup (K:PySem.W.Frag) (n:Nat) (t:TGs):TG:=fun v σ H Q=>∃ a xs,v=.ref a∧SqT K H a xs∧xs.length=n∧t xs σ H Q
theorem bh4 {es:List Expr}{k:Nat}{t:TGs}{n:Nat}(hc:X.calm=true) (h:PGs X es t)
 (hn:(assignEach es X.env).length=n:=by rfl) (hst:(assignEach es X.env).findIdx? (·.1)=none:=by rfl):PG X (.Tuple es k pos) (gTup X.K n t):=by
 intro pins s σ H v u Q I r hw
 obtain ⟨a,xs,e1,hq,hl,hw⟩:=hw
 subst e1
 cases r
 obtain ⟨its,rv,ht,hz⟩:=I.tuple hq
 refine assign_Tuple_tuple (I.ok.hd hc) ht (by simp [hn,←hl,rv.length]) hst fun h' hx=>?_
 have I1:Inv X pins σ H { s with heap:=h' }:=I.kept (t':=s.toks) fun b o e=>hx b o (Nat.ne_of_lt (Heap.lt_size e)) e
 exact h pins _ σ H xs _ Q I1 (by simpa using rv) hw
def gSub (to ti:TE) (t:TSet):TG:=fun v σ H Q=>to σ H fun o H1=>ti σ H1 fun i H2=>t o i v H2 fun H3=>Q σ H3
theorem aw8 {o i:Expr}{to ti:TE}{t:TSet}(ho:PE X o to) (hi:PE X i ti) (hs:PSet X t)
 (ha:∀ v,assign (.Subscript o i pos) X.env v=(do
  let ov←holding [v] (eval o X.env)
  let iv←holding [v,ov] (eval i X.env)
  standAt pos
  holding [v,ov,iv] (setItem ov iv v)
  release [v,ov,iv] []):=by intro _; rfl):PG X (.Subscript o i pos) (gSub to ti t):=by
 intro pins s σ H v u Q I r h
 rw [ha]
 refine wpAny_bind (wpAny_holding (thn (ho pins s σ H _ I h) ?_))
 rintro ov s1 ⟨x,H1,I1,r1,q1⟩
 refine wpAny_bind (wpAny_holding (thn (hi pins s1 σ H1 _ I1 q1) ?_))
 rintro iv s2 ⟨y,H2,I2,r2,q2⟩
 refine wpAny_bind (wpAny_standAt (wpAny_bind (wpAny_holding (thn (hs pins s2 σ H2 x y v ov iv u _ I2 r1 r2 r q2) ?_))))
 rintro _ s3 ⟨H3,I3,q3⟩
 exact wpAny_release ⟨σ,H3,I3,q3⟩
def tAsg (te:TE) (g:TG):TS:=fun D σ H=>te σ H fun x H1=>g x σ H1 D.nx
theorem ai1 {tg e:Expr}{te:TE}{g:TG}(he:PE X e te) (hg:PG X tg g) (hs:swapsWithSole [tg] e pos.line X.env=pure false:=by rfl) (hw:swappedStores [tg] e X.env=pure none:=by rfl)
 (h1:(assignEach [tg] X.env).map (·.2)=[assign tg X.env]:=by rfl):PS X (.Assign [tg] e pos) (tAsg te g):=by
 intro pins s σ H D I h
 refine wpAny_Assign_stores (thn (he pins s σ H _ I h) ?_) hs hw
 rintro v s1 ⟨x,H1,I1,r1,q1⟩
 rw [h1]
 exact thn (hg pins s1 σ H1 x v _ I1 r1 q1) fun _ s2 q=>q
theorem a20 {i:Nat}{x:Str}{e:Expr}{te:TE}{pos':Pos}(hN:X.N.Nodup) (hi:X.N[i]?=some x) (hx:Loc X.env.scope x) (he:PE X e te) (hs:swapsWith e (some (.Name x pos')) pos.line X.env=pure false:=by rfl) (hf:X.fn x=true∨X.env.scope.names.lookup x=some .local:=by first | exact .inl rfl | exact .inr rfl | assumption) :
 PS X (.Assign [.Name x pos'] e pos) (tAsg te (ac9 i)):=by
 intro pins s σ H D I h
 refine wpAny_Assign_Name (thn (he pins s σ H _ I h) ?_) hs
 rintro v s1 ⟨y,H1,I1,r1,q1⟩
 exact as9 I1 hN hi hx r1 (fun s2 I2=>⟨_,H1,I2,q1⟩) hf
end
section
variable {X:Cx}{pos:Pos}
def b82 (c:TT) (tb:TS):TS:=fun D σ H=>∃ W:Nat→St→Hp→Prop,(∃ m,W m σ H)∧∀ m σ H,W m σ H →
 c σ H fun b H1=>if b=true then ∃ N:St→Hp→Prop,(∀ σ' H',N σ' H'→∃ m',m'<m∧W m' σ' H')∧tb { D with nx:=N,ct:=N,bk:=D.nx } σ H1 else D.nx σ H1
theorem at3 {c:Expr}{body:List Stmt}{tc:TT}{tb:TS}(hp:PassesOwn (model X.prog X.w) X.A X.env X.xe) (hc:PT X c tc) (hb:PSs X body tb):PS X (.While c body [] pos) (b82 tc tb):=by
 intro pins s σ H D I h
 obtain ⟨W,⟨m0,w0⟩,turn⟩:=h
 refine wpAny_While (codeAny_whileLoop (fun n s'=>∃ σ' H',Inv X pins σ' H' s'∧W n σ' H') ?_ m0 ⟨σ,H,I,w0⟩)
 rintro n s1 ⟨σ1,H1,I1,w1⟩
 refine wpAny_passesOwn hp (thn (hc pins s1 σ1 H1 _ I1 (turn n σ1 H1 w1)) ?_)
 rintro b s2 ⟨H2,I2,q2⟩
 cases b with
 | true =>
   obtain ⟨N,hN,q2⟩:=q2
   rw [if_pos rfl]
   refine wpAny_passesOwn hp (thn (hb pins s2 σ1 H2 _ I2 q2) fun f s3 q3=>?_)
   cases f with
   | next =>
     obtain ⟨σ3,H3,I3,n3⟩:=q3
     obtain ⟨m',hm,w3⟩:=hN σ3 H3 n3
     exact ⟨m',hm,σ3,H3,I3,w3⟩
   | cont =>
     obtain ⟨σ3,H3,I3,n3⟩:=q3
     obtain ⟨m',hm,w3⟩:=hN σ3 H3 n3
     exact ⟨m',hm,σ3,H3,I3,w3⟩
   | brk=>exact q3
   | ret v=>exact q3
 | false =>
   rw [if_neg Bool.false_ne_true]
   exact wpAny_execs_nil ⟨σ1,H2,I2,q2⟩
end
structure It where
 go:Nat→Hp→Prop
 yld:Nat→Hp→V→Hp→Prop
 stop:Nat→Hp→Prop
def FpOk (X:Cx) (pins:List (Addr×Obj)) (H:Hp) (b:Addr):Prop :=
 H b=none∧b≠X.env.locals∧b∉X.fs∧(b∈X.ex∨X.s₀.heap.objs.size≤b)∧(∀ x c,X.env.cells.lookup x=some c→c≠b)∧∀ p∈X.pn++pins,p.1≠b
theorem Inv.fpOk {X:Cx}{pins:List (Addr×Obj)}{σ:St} {H H':Hp}{s:Shared}{b:Addr}(I:Inv X pins σ H s) (hb:s.heap.objs.size≤b) (hn:H' b=none):FpOk X pins H' b:=by
 refine ⟨hn,Nat.ne_of_gt (Nat.lt_of_lt_of_le I.lt hb),I.nofs hb,.inr (Nat.le_trans I.sz hb),fun x c e z=>?_,fun p hp z=>?_⟩
 · obtain ⟨v,q⟩:=I.cell x c e
   exact absurd (Nat.lt_of_lt_of_le q.lt (by rw [z]; exact hb)) (Nat.lt_irrefl _)
 · exact absurd (Nat.lt_of_lt_of_le (Heap.lt_size (I.pin p hp).1) (by rw [z]; exact hb)) (Nat.lt_irrefl _)
structure Turn (P:Program) (w:World) (K:PySem.W.Frag) (tg:Expr) (J:It) (fp:List Addr) (it:Addr) (tn:Nat→Heap→Prop):Prop where
 mem:it∈fp
 obj:∀ i h,tn i h→∀ b∈fp,∃ o,h.get? b=some o∧∀ v,o.data≠.cell v
 keep:∀ i h h',tn i h→(∀ b∈fp,∀ o,h.get? b=some o→h'.get? b=some o)→tn i h'
 item:∀ (X:Cx),X.prog=P→X.w=w→X.K=K→X.calm=true→∀ (i:Nat) (pins:List (Addr×Obj)) (s:Shared) (σ:St) (H:Hp) (E:Value→Shared→Prop),Inv X pins σ H s→(∀ b∈fp,FpOk X pins H b)→tn i s.heap→J.go i H →
  wpAny (model P w) X.A (pyNext (.ref it)) (fun r s1=>∃ u,r=some u ∧
   wpAny (model P w) X.A (letOwnedTupleGo tg (.ref it) u) (fun _ s2=>∃ x H',Inv X pins σ H' s2∧RelV x u∧J.yld i H x H'∧tn (i+1) s2.heap∧∀ b∈fp,H' b=none) E s1) E s
 done:∀ (X:Cx),X.prog=P→X.w=w→X.K=K→X.calm=true→∀ (i:Nat) (pins:List (Addr×Obj)) (s:Shared) (σ:St) (H:Hp) (E:Value→Shared→Prop),Inv X pins σ H s→(∀ b∈fp,FpOk X pins H b)→tn i s.heap→J.stop i H →
  wpAny (model P w) X.A (pyNext (.ref it)) (fun r s1=>r=none∧Inv X pins σ H s1) E s
 self:∀ (A:Around) (i:Nat) (s:Shared) (Q:Value→Shared→Prop) (E:Value→Shared→Prop),tn i s.heap→Q (.ref it) s→wpAny (model P w) A (pyIter (.ref it)) Q E s
abbrev TI:=St→Hp→(It→Hp→Prop)→Prop
def PIE (X:Cx) (pins:List (Addr×Obj)) (σ:St) (tg:Expr) (R:It→Hp→Prop) (itv:Value) (s2:Shared):Prop :=
 ∃ (it:Addr) (fp:List Addr) (tn:Nat→Heap→Prop) (J:It) (H':Hp),itv=.ref it∧Inv X pins σ H' s2∧Turn X.prog X.w X.K tg J fp it tn∧tn 0 s2.heap∧(∀ b∈fp,FpOk X pins H' b)∧R J H'
def PI (X:Cx) (tg iter:Expr) (wi:TI):Prop :=
 ∀ (pins:List (Addr×Obj)) (s:Shared) (σ:St) (H:Hp) (R:It→Hp→Prop),Inv X pins σ H s→wi σ H R →
  wpAny (model X.prog X.w) X.A (eval iter X.env) (fun v s1=>wpAny (model X.prog X.w) X.A (pyIter v) (PIE X pins σ tg R) X.xe s1) X.xe s
theorem b38 {M:Model}{A:Around}{E:Value→Shared→Prop}{s:Shared}{tg:Expr}{it:Addr}{u:Value}{o:Obj}{n:String}{vs:Array Value}{Q:Unit→Shared→Prop}(ho:s.heap.get? it=some o) (hc:o.cls=.type n) (hd:o.data=.fields vs)
 (hn:["enumerate","zip","dict_itemiterator","dict_reverseitemiterator","odict_iterator","itertools.zip_longest","itertools.pairwise"].contains n=false) (hQ:Q () s):wpAny M A (letOwnedTupleGo tg (.ref it) u) Q E s:=by
 unfold letOwnedTupleGo
 cases tg <;> first
  | exact wpAny_pure hQ
  | (cases u <;> first
   | exact wpAny_pure hQ
   | (refine wpAny_bind (wpAny_load ho ?_)
      rw [hc,hd]
      show wpAny M A (if (["enumerate","zip","dict_itemiterator","dict_reverseitemiterator","odict_iterator","itertools.zip_longest","itertools.pairwise"].contains n && vs[0]? == some (rawInt _))=true then _ else _) Q E s
      rw [if_neg (by intro h; rw [hn,Bool.false_and] at h; cases h)]
      exact wpAny_pure hQ))
def Itl (K:PySem.W.Frag) (a:Addr):It :=
 ⟨fun i H=>∃ xs x,SqL K H a xs∧xs[i]?=some x,fun i H x H'=>H'=H∧∀ xs,SqL K H a xs→xs[i]?=some x,fun i H=>∃ xs,SqL K H a xs∧xs.length≤i⟩
def Itt (K:PySem.W.Frag) (a:Addr):It :=
 ⟨fun i H=>∃ xs x,SqT K H a xs∧xs[i]?=some x,fun i H x H'=>H'=H∧∀ xs,SqT K H a xs→xs[i]?=some x,fun i H=>∃ xs,SqT K H a xs∧xs.length≤i⟩
def Itr (lo:Int) (n:Nat):It:=⟨fun i _=>i<n,fun i H x H'=>H'=H∧x=.int (lo+i),fun i _=>n≤i⟩
theorem aw9 {P:Program}{w:World}{K:PySem.W.Frag}{tg:Expr}(a it:Addr):Turn P w K tg (Itl K a) [it] it (fun i h=>h.IsListIter it a i) where
 mem:=by simp
 obj:=fun i h st b hb=>by
  have e:b=it:=by simpa using hb
  subst e
  obtain ⟨o,e,c,d⟩:=st
  exact ⟨o,e,fun v z=>by rw [d] at z; cases z⟩
 keep:=fun i h h' st k=>st.at fun o e=>k it (by simp) o e
 item:=by
  intro X hP hw hK hc i pins s σ H E I hf st hg
  subst hP hw hK
  obtain ⟨xs,x,hq,hx⟩:=hg
  obtain ⟨its,rv,p,hz⟩:=I.list hq
  obtain ⟨u,hu,ru⟩:=rv.get hx
  obtain ⟨f0,f1,f2,f3,f4,f5⟩:=hf it (by simp)
  refine wpAny_pyNext_list_item st p.isList (x:=u) (by simpa using hu) fun h' st' sb=>?_
  have I1:Inv X pins σ H { s with heap:=h' }:=I.turned (t':=s.toks) (fun b o hb e=>(sb.2 b hb).trans e) f0 f1 f3 f4 f5
  obtain ⟨o,e,c,d⟩:=id st'
  exact ⟨u,rfl,b38 (s:={ s with heap:=h' }) e c d (by decide) ⟨x,H,I1,ru,⟨rfl,fun ys hy=>by rw [I.list_inj hy hq]; exact hx⟩,st',fun b hb=>(hf b hb).1⟩⟩
 done:=by
  intro X hP hw hK hc i pins s σ H E I hf st hg
  subst hP hw hK
  obtain ⟨xs,hq,hx⟩:=hg
  obtain ⟨its,rv,p,hz⟩:=I.list hq
  obtain ⟨f0,f1,f2,f3,f4,f5⟩:=hf it (by simp)
  have hl:=rv.length
  exact wpAny_pyNext_list_end (I.ok.hd hc) st p.isList (by simp; omega) fun h' eb=>⟨rfl,I.turned (t':=s.toks) (fun b o hb e=>eb b o hb e) f0 f1 f3 f4 f5⟩
 self:=fun _ _ _ _ _ st h=>wpAny_pyIter_listiter st h
theorem av0 {P:Program}{w:World}{K:PySem.W.Frag}{tg:Expr}(a it:Addr):Turn P w K tg (Itt K a) [it] it (fun i h=>h.IsTupleIter it a i) where
 mem:=by simp
 obj:=fun i h st b hb=>by
  have e:b=it:=by simpa using hb
  subst e
  obtain ⟨o,e,c,d⟩:=st
  exact ⟨o,e,fun v z=>by rw [d] at z; cases z⟩
 keep:=fun i h h' st k=>st.at fun o e=>k it (by simp) o e
 item:=by
  intro X hP hw hK hc i pins s σ H E I hf st hg
  subst hP hw hK
  obtain ⟨xs,x,hq,hx⟩:=hg
  obtain ⟨its,rv,p,hz⟩:=I.tuple hq
  obtain ⟨u,hu,ru⟩:=rv.get hx
  obtain ⟨f0,f1,f2,f3,f4,f5⟩:=hf it (by simp)
  refine wpAny_pyNext_tuple_item st (show s.heap.IsTuple a its.toArray from p) (x:=u) (by simpa using hu) fun h' st' sb=>?_
  have I1:Inv X pins σ H { s with heap:=h' }:=I.turned (t':=s.toks) (fun b o hb e=>(sb.2 b hb).trans e) f0 f1 f3 f4 f5
  obtain ⟨o,e,c,d⟩:=id st'
  exact ⟨u,rfl,b38 (s:={ s with heap:=h' }) e c d (by decide) ⟨x,H,I1,ru,⟨rfl,fun ys hy=>by rw [I.tuple_inj hy hq]; exact hx⟩,st',fun b hb=>(hf b hb).1⟩⟩
 done:=by
  intro X hP hw hK hc i pins s σ H E I hf st hg
  subst hP hw hK
  obtain ⟨xs,hq,hx⟩:=hg
  obtain ⟨its,rv,p,hz⟩:=I.tuple hq
  obtain ⟨f0,f1,f2,f3,f4,f5⟩:=hf it (by simp)
  have hl:=rv.length
  exact wpAny_pyNext_tuple_end (I.ok.hd hc) st (show s.heap.IsTuple a its.toArray from p) (by simp; omega) fun h' eb=>⟨rfl,I.turned (t':=s.toks) (fun b o hb e=>eb b o hb e) f0 f1 f3 f4 f5⟩
 self:=fun _ _ _ _ _ st h=>wpAny_pyIter_tupleiter st h
theorem av1 {P:Program}{w:World}{K:PySem.W.Frag}{tg:Expr}(it:Addr) (lo:Int) (n:Nat):Turn P w K tg (Itr lo n) [it] it (fun i h=>IsRangeIter h it (lo+(i:Nat)*1) ((n:Int) - (i:Nat)) 1) where
 mem:=by simp
 obj:=fun i h st b hb=>by
  have e:b=it:=by simpa using hb
  subst e
  exact ⟨_,st,fun v z=>by
   have z':Data.fields _=Data.cell v:=z
   cases z'⟩
 keep:=fun i h h' st k=>k it (by simp) _ st
 item:=by
  intro X hP hw hK hc i pins s σ H E I hf st hg
  subst hP hw hK
  obtain ⟨f0,f1,f2,f3,f4,f5⟩:=hf it (by simp)
  have W:=Walks.range (prog:=X.prog) (w:=X.w) (I.ok.hd hc) it lo 1 n
  refine W.item i s _ _ hg st fun v h' tk hv st' kk=>?_
  obtain ⟨t,rfl⟩:=hv
  have I1:Inv X pins σ H { s with heap:=h',toks:=tk }:=I.turned (fun b o hb e=>kk b o (by simpa using hb) e) f0 f1 f3 f4 f5
  refine ⟨_,rfl,b38 (s:={ s with heap:=h',toks:=tk }) (n:="range_iterator") st' rfl rfl (by decide) ⟨.int (lo+i),H,I1,⟨t,?_⟩,⟨rfl,rfl⟩,st',fun b hb=>(hf b hb).1⟩⟩
  rw [Int.mul_one]
 done:=by
  intro X hP hw hK hc i pins s σ H E I hf st hg
  subst hP hw hK
  obtain ⟨f0,f1,f2,f3,f4,f5⟩:=hf it (by simp)
  exact wpAny_pyNext_range_end (I.ok.hd hc) st (by have:n≤i:=hg; omega) fun h' eb=>⟨rfl,I.turned (t':=s.toks) (fun b o hb e=>eb b o hb e) f0 f1 f3 f4 f5⟩
 self:=fun _ _ _ _ _ st h=>wpAny_pyIter_rangeiter st h
section
variable {X:Cx}{tg:Expr}
def ba9 (K:PySem.W.Frag) (tl:TE):TI:=fun σ H R=>tl σ H fun x H1=>∃ a,x=.ref a∧(∃ xs,SqL K H1 a xs)∧R (Itl K a) H1
def iTup (K:PySem.W.Frag) (tl:TE):TI:=fun σ H R=>tl σ H fun x H1=>∃ a,x=.ref a∧(∃ xs,SqT K H1 a xs)∧R (Itt K a) H1
theorem bb0 {l:Expr}{tl:TE}(hl:PE X l tl):PI X tg l (ba9 X.K tl):=by
 intro pins s σ H R I h
 refine thn (hl pins s σ H _ I h) ?_
 rintro v s1 ⟨x,H1,I1,r1,q1⟩
 obtain ⟨a,e,⟨xs,hq⟩,q⟩:=q1
 subst e
 cases r1
 obtain ⟨its,rv,p,hz⟩:=I1.list hq
 refine wpAny_pyIter_list p.isList ?_
 refine ⟨s1.heap.objs.size,[s1.heap.objs.size],_,_,H1,rfl,I1.kept (t':=s1.toks) fun b o e=>Heap.get?_push_of_some _ e,aw9 a _,⟨_,Heap.get?_push_size _ rfl,rfl,rfl⟩,fun b hb=>?_,q⟩
 have e:b=s1.heap.objs.size:=by simpa using hb
 subst e
 exact I1.fpOk (Nat.le_refl _) (I1.hok.fresh (Nat.le_refl _))
theorem bh5 {l:Expr}{tl:TE}(hl:PE X l tl):PI X tg l (iTup X.K tl):=by
 intro pins s σ H R I h
 refine thn (hl pins s σ H _ I h) ?_
 rintro v s1 ⟨x,H1,I1,r1,q1⟩
 obtain ⟨a,e,⟨xs,hq⟩,q⟩:=q1
 subst e
 cases r1
 obtain ⟨its,rv,p,hz⟩:=I1.tuple hq
 refine wpAny_pyIter_tuple (show s1.heap.IsTuple a its.toArray from p) ?_
 refine ⟨s1.heap.objs.size,[s1.heap.objs.size],_,_,H1,rfl,I1.kept (t':=s1.toks) fun b o e=>Heap.get?_push_of_some _ e,av0 a _,⟨_,Heap.get?_push_size _ rfl,rfl,rfl⟩,fun b hb=>?_,q⟩
 have e:b=s1.heap.objs.size:=by simpa using hb
 subst e
 exact I1.fpOk (Nat.le_refl _) (I1.hok.fresh (Nat.le_refl _))
theorem b39 {pins:List (Addr×Obj)}{σ:St} {H:Hp}{s:Shared}{R:It→Hp→Prop}{E:Value→Shared→Prop}{lo hi:Int}{t u v:Tok}{tk:Nat}(I:Inv X pins σ H s) (h1:-(2 ^ 62)≤lo) (h2:lo<2 ^ 62) (h3:-(2 ^ 62)≤hi) (h4:hi<2 ^ 62)
 (q:R (Itr lo (hi - lo).toNat) H):wpAny (model X.prog X.w) X.A (pyIter (.ref s.heap.objs.size)) (PIE X pins σ tg R) E { s with heap:=s.heap.push { cls:=.type "range",data:=.fields #[.int lo t,.int hi u,.int 1 v] },toks:=tk }:=by
 refine wpAny_pyIter_range (IsRange.new ..) (small_one h1 h2 h3 h4) ?_
 have I1:Inv X pins σ H { s with heap:=s.heap.push { cls:=.type "range",data:=.fields #[.int lo t,.int hi u,.int 1 v] },toks:=tk }:=I.kept fun b o e=>Heap.get?_push_of_some _ e
 refine ⟨(s.heap.push { cls:=.type "range",data:=.fields #[.int lo t,.int hi u,.int 1 v] }).objs.size,[(s.heap.push { cls:=.type "range",data:=.fields #[.int lo t,.int hi u,.int 1 v] }).objs.size],_,_,H,rfl,
  I1.kept (t':=tk) fun b o e=>Heap.get?_push_of_some _ e,av1 _ lo (hi - lo).toNat,?_,fun b hb=>?_,q⟩
 · have e1:lo+((0:Nat):Int)*1=lo:=by simp
   have e2:(((hi - lo).toNat:Nat):Int) - ((0:Nat):Int)=Builtin.Range.rangeSize lo hi 1:=by rw [rangeSize_one]; split <;> omega
   show IsRangeIter _ _ (lo+((0:Nat):Int)*1) ((((hi - lo).toNat:Nat):Int) - ((0:Nat):Int)) 1
   rw [e1,e2]
   exact Heap.get?_push_size _ rfl
 · have e:b=(s.heap.push { cls:=.type "range",data:=.fields #[.int lo t,.int hi u,.int 1 v] }).objs.size:=by simpa using hb
   subst e
   exact I1.fpOk (Nat.le_refl _) (I1.hok.fresh (Nat.le_refl _))
def bh6 (ta:TA):TI:=fun σ H R=>ta σ H fun vs H1=>∃ j:Int,vs=[.int j]∧-(2 ^ 62)≤j∧j<2 ^ 62∧R (Itr 0 j.toNat) H1
theorem ab9 {a:Expr}{ta:TA}{p pos:Pos}(hg:Gl X "range") (hm:X.mg "range"=none) (ha:PA X [a] ta) (hs:starEach [a] X.env=[(false,eval a X.env)]:=by rfl):PI X tg (.Call (.Name "range" p) [a] [] pos) (bh6 ta):=by
 intro pins s σ H R I h
 refine Call_ (ah9 I hg hm boot_range (PyProof.Rows.callWith_type1 (thn (ha pos pins s σ H _ I h) ?_) hs rfl))
 rintro us s1 ⟨vs,H1,I1,r1,q1⟩
 obtain ⟨j,e,q1,q2,q⟩:=q1
 subst e
 cases r1 with
 | cons r rr =>
   cases rr
   obtain ⟨t,rfl⟩:=r
   exact call_range_1 (b39 I1 (by omega) (by omega) q1 q2 (by simpa using q))
def tFor (wi:TI) (g:TG) (tb:TS):TS:=fun D σ H=>wi σ H fun J H1=>∃ W:Nat→Nat→St→Hp→Prop,(∃ m,W 0 m σ H1)∧∀ i m σ H,W i m σ H →
 (J.stop i H∧D.nx σ H)∨(J.go i H∧∃ N:St→Hp→Prop,(∀ σ' H',N σ' H'→∃ m',m'<m∧W (i+1) m' σ' H')∧∀ x H',J.yld i H x H'→g x σ H' fun σ2 H2=>tb { D with nx:=N,ct:=N,bk:=D.nx } σ2 H2)
def am1 (fp:List Addr) (h:Heap):List (Addr×Obj):=fp.filterMap fun b=>(h.get? b).map fun o=>(b,o)
theorem aa6 {fp:List Addr}{h:Heap}{b:Addr}{o:Obj}(hb:b∈fp) (e:h.get? b=some o):(b,o)∈am1 fp h:=List.mem_filterMap.mpr ⟨b,hb,by rw [e]; rfl⟩
theorem ax0 {fp:List Addr}{h:Heap}{p:Addr×Obj}(hp:p∈am1 fp h):p.1∈fp∧h.get? p.1=some p.2:=by
 obtain ⟨b,hb,e⟩:=List.mem_filterMap.mp hp
 cases q:h.get? b with
 | none=>rw [q] at e; cases e
 | some o =>
   rw [q] at e
   have e':(b,o)=p:=Option.some.inj e
   subst e'
   exact ⟨hb,q⟩
theorem Inv.pinned {pins:List (Addr×Obj)}{σ:St} {H:Hp}{s:Shared}{fp:List Addr}(I:Inv X pins σ H s) (hf:∀ b∈fp,FpOk X pins H b) (ho:∀ b∈fp,∃ o,s.heap.get? b=some o∧∀ v,o.data≠.cell v):Inv X (pins++am1 fp s.heap) σ H s :=
 I.pins_of fun p hp=>(List.mem_append.mp hp).elim (fun z=>I.pin p (List.mem_append_right _ z)) fun z=>by
  obtain ⟨hb,e⟩:=ax0 z
  obtain ⟨f0,f1,f2,_⟩:=hf p.1 hb
  obtain ⟨o,e',d⟩:=ho p.1 hb
  rw [e] at e'; cases e'
  exact ⟨e,f0,f1,f2,d⟩
theorem Inv.unpinned {pins pl:List (Addr×Obj)}{σ:St} {H:Hp}{s:Shared}(I:Inv X (pins++pl) σ H s):Inv X pins σ H s:=I.pins_of fun p hp=>I.pin p (List.mem_append_right _ (List.mem_append_left _ hp))
theorem ai2 {iter:Expr}{body:List Stmt}{wi:TI}{g:TG}{tb:TS}{pos:Pos}(hp:PassesOwn (model X.prog X.w) X.A X.env X.xe) (hc:X.calm=true) (hi:PI X tg iter wi) (hg:PG X tg g) (hb:PSs X body tb)
 (hs:∀ x,foldedSetIterable iter X.env x=pure x:=by intro _; rfl):PS X (.For tg iter body [] pos) (tFor wi g tb):=by
 intro pins s σ H D I h
 refine wpAny_For (thn (hi pins s σ H _ I h) fun v s1 h1=>thn h1 fun itv s2 h2=>?_) hs
 obtain ⟨it,fp,tn,J,H2,e,I2,T,st2,f2,W,⟨m0,w0⟩,turn⟩:=h2
 subst e
 have stat:∀ {H':Hp},(∀ b∈fp,H' b=none)→∀ b∈fp,FpOk X pins H' b:=fun hn b hb=>⟨hn b hb,(f2 b hb).2⟩
 refine codeAny_forLoop_any (fun n s'=>∃ i σ' H',Inv X pins σ' H' s'∧tn i s'.heap∧(∀ b∈fp,H' b=none)∧W i n σ' H') ?_ m0 ⟨0,σ,H2,I2,st2,fun b hb=>(f2 b hb).1,w0⟩
 rintro n s3 ⟨i,σ3,H3,I3,st3,fr3,w3⟩
 rcases turn i n σ3 H3 w3 with ⟨stop,qn⟩ | ⟨go,N,hN,step⟩
 · refine wpAny_passesOwn hp (thn (T.done X rfl rfl rfl hc i pins s3 σ3 H3 X.xe I3 (stat fr3) st3 stop) ?_)
   rintro r s4 ⟨hr,I4⟩
   subst hr
   exact wpAny_execs_nil ⟨σ3,H3,I4,qn⟩
 · refine wpAny_passesOwn hp (thn (T.item X rfl rfl rfl hc i pins s3 σ3 H3 X.xe I3 (stat fr3) st3 go) ?_)
   rintro r s4 ⟨u,hr,h4⟩
   subst hr
   refine wpAny_passesOwn hp (thn h4 ?_)
   rintro _ s5 ⟨x,H5,I5,r5,y5,st5,fr5⟩
   have I5':=I5.pinned (stat fr5) (T.obj _ _ st5)
   refine wpAny_passesOwn hp (thn (hg _ s5 σ3 H5 x u _ I5' r5 (step x H5 y5)) ?_)
   rintro _ s6 ⟨σ6,H6,I6,q6⟩
   refine wpAny_passesOwn hp (thn (hb _ s6 σ6 H6 _ I6 q6) fun f s7 q7=>?_)
   have again:∀ {σ7:St} {H7:Hp},Inv X (pins++am1 fp s5.heap) σ7 H7 s7→N σ7 H7→∃ m,m<n∧∃ i σ' H',Inv X pins σ' H' s7∧tn i s7.heap∧(∀ b∈fp,H' b=none)∧W i m σ' H':=fun {σ7 H7} I7 n7=>by
    obtain ⟨m',hm,w7⟩:=hN σ7 H7 n7
    refine ⟨m',hm,i+1,σ7,H7,I7.unpinned,T.keep _ _ _ st5 fun b hb o e=>(I7.pin (b,o) (List.mem_append_right _ (List.mem_append_right _ (aa6 hb e)))).1,fun b hb=>?_,w7⟩
    obtain ⟨o,e,d⟩:=T.obj _ _ st5 b hb
    exact (I7.pin (b,o) (List.mem_append_right _ (List.mem_append_right _ (aa6 hb e)))).2.1
   cases f with
   | next=>obtain ⟨σ7,H7,I7,n7⟩:=q7; exact again I7 n7
   | cont=>obtain ⟨σ7,H7,I7,n7⟩:=q7; exact again I7 n7
   | brk=>obtain ⟨σ7,H7,I7,q7⟩:=q7; exact ⟨σ7,H7,I7.unpinned,q7⟩
   | ret v=>obtain ⟨x7,σ7,H7,I7,r7,q7⟩:=q7; exact ⟨x7,σ7,H7,I7.unpinned,r7,q7⟩
end
theorem bb1 {K:PySem.W.Frag}{a:Addr}{xs:List V}{g:TG}{tb:TS}{D:Ends}{σ:St} {H:Hp}(Pv:Nat→St→Hp→Prop) (h0:Pv 0 σ H) (hl:∀ i σ H,i≤xs.length→Pv i σ H→SqT K H a xs)
 (hs:∀ i x σ H,xs[i]?=some x→Pv i σ H→g x σ H fun σ2 H2=>tb { D with nx:=Pv (i+1),ct:=Pv (i+1),bk:=D.nx } σ2 H2) (hd:∀ σ H,Pv xs.length σ H→D.nx σ H) :
 ∃ W:Nat→Nat→St→Hp→Prop,(∃ m,W 0 m σ H)∧∀ i m σ H,W i m σ H →
  ((Itt K a).stop i H∧D.nx σ H)∨((Itt K a).go i H∧∃ N:St→Hp→Prop,(∀ σ' H',N σ' H'→∃ m',m'<m∧W (i+1) m' σ' H')∧∀ x H',(Itt K a).yld i H x H'→g x σ H' fun σ2 H2=>tb { D with nx:=N,ct:=N,bk:=D.nx } σ2 H2):=by
 refine ⟨fun i m σ H=>m=xs.length - i∧i≤xs.length∧Pv i σ H,⟨xs.length,by simp,Nat.zero_le _,h0⟩,?_⟩
 rintro i m σ H ⟨rfl,hi,p⟩
 have q:=hl i σ H hi p
 by_cases hlt:i<xs.length
 · refine .inr ⟨⟨xs,xs[i],q,by simp [hlt]⟩,Pv (i+1),fun σ' H' p'=>⟨xs.length - (i+1),by omega,rfl,hlt,p'⟩,fun x H' y=>?_⟩
   obtain ⟨e,y⟩:=y
   subst e
   exact hs i x σ _ (y xs q) p
 · have e:i=xs.length:=by omega
   subst e
   exact .inl ⟨⟨xs,q,Nat.le_refl _⟩,hd σ H p⟩
theorem ac0 {lo:Int}{n:Nat}{g:TG}{tb:TS}{D:Ends}{σ:St} {H:Hp}(Pv:Nat→St→Hp→Prop) (h0:Pv 0 σ H)
 (hs:∀ i σ H,i<n→Pv i σ H→g (.int (lo+i)) σ H fun σ2 H2=>tb { D with nx:=Pv (i+1),ct:=Pv (i+1),bk:=D.nx } σ2 H2) (hd:∀ σ H,Pv n σ H→D.nx σ H) :
 ∃ W:Nat→Nat→St→Hp→Prop,(∃ m,W 0 m σ H)∧∀ i m σ H,W i m σ H →
  ((Itr lo n).stop i H∧D.nx σ H)∨((Itr lo n).go i H∧∃ N:St→Hp→Prop,(∀ σ' H',N σ' H'→∃ m',m'<m∧W (i+1) m' σ' H')∧∀ x H',(Itr lo n).yld i H x H'→g x σ H' fun σ2 H2=>tb { D with nx:=N,ct:=N,bk:=D.nx } σ2 H2):=by
 refine ⟨fun i m σ H=>m=n - i∧i≤n∧Pv i σ H,⟨n,by simp,Nat.zero_le _,h0⟩,?_⟩
 rintro i m σ H ⟨rfl,hi,p⟩
 by_cases hlt:i<n
 · refine .inr ⟨hlt,Pv (i+1),fun σ' H' p'=>⟨n - (i+1),by omega,rfl,hlt,p'⟩,fun x H' y=>?_⟩
   obtain ⟨e,y⟩:=y
   subst e y
   exact hs i σ _ hlt p
 · have e:i=n:=by omega
   subst e
   exact .inl ⟨Nat.le_refl _,hd σ H p⟩
abbrev R2:=V→V→Hp→VK→Prop
def OpR (X:Cx) (f:Value→Value→Sem Value) (r:R2):Prop :=
 ∀ (pins:List (Addr×Obj)) (s:Shared) (σ:St) (H:Hp) (x y:V) (v u:Value) (Q:VK),Inv X pins σ H s→RelV x v→RelV y u→r x y H Q →
  wpAny (model X.prog X.w) X.A (f v u) (EP X pins σ Q) X.xe s
def UnR (X:Cx) (f:Value→Sem Value) (r:V→Hp→VK→Prop):Prop :=
 ∀ (pins:List (Addr×Obj)) (s:Shared) (σ:St) (H:Hp) (x:V) (v:Value) (Q:VK),Inv X pins σ H s→RelV x v→r x H Q →
  wpAny (model X.prog X.w) X.A (f v) (EP X pins σ Q) X.xe s
def CallR (X:Cx) (f:Value) (r:List V→Hp→VK→Prop):Prop :=
 ∀ (pins:List (Addr×Obj)) (s:Shared) (σ:St) (H:Hp) (xs:List V) (us:List Value) (Q:VK),Inv X pins σ H s→Vals xs us→r xs H Q →
  wpAny (model X.prog X.w) X.A (call f us) (EP X pins σ Q) X.xe s
def TruR (X:Cx) (r:V→Hp→(Bool→Hp→Prop)→Prop):Prop :=
 ∀ (pins:List (Addr×Obj)) (s:Shared) (σ:St) (H:Hp) (x:V) (v:Value) (Q:Bool→Hp→Prop),Inv X pins σ H s→RelV x v→r x H Q →
  wpAny (model X.prog X.w) X.A (truthy v) (TP X pins σ Q) X.xe s
def tOp (r:R2) (ta tb:TE):TE:=fun σ H Q=>ta σ H fun x H1=>tb σ H1 fun y H2=>r x y H2 Q
def tUn (r:V→Hp→VK→Prop) (ta:TE):TE:=fun σ H Q=>ta σ H fun x H1=>r x H1 Q
def rI (C:Int→Int→Prop) (g:Int→Int→V):R2:=fun x y H Q=>∃ i j,x=.int i∧y=.int j∧C i j∧Q (g i j) H
def rI0 (g:Int→Int→V):R2:=fun x y H Q=>∃ i j,x=.int i∧y=.int j∧Q (g i j) H
def rU (g:Int→V):V→Hp→VK→Prop:=fun x H Q=>∃ i,x=.int i∧Q (g i) H
section
variable {X:Cx}{a b c:Expr}{ta tb tc:TE}{pos:Pos}
theorem binT (ha:PE X a ta) (hb:PE X b tb) {pins:List (Addr×Obj)}{s:Shared}{σ:St} {H:Hp}{R:V→V→Hp→Prop}(I:Inv X pins σ H s)
 (h:ta σ H fun x H1=>tb σ H1 fun y H2=>R x y H2) {Q:Value→Shared→Prop}{f:Value→Value→Sem Value}
 (hf:∀ v u s2 x y H2,Inv X pins σ H2 s2→RelV x v→RelV y u→R x y H2→wpAny (model X.prog X.w) X.A (f v u) Q X.xe s2) :
 wpAny (model X.prog X.w) X.A (eval a X.env) (fun v s₁=>wpAny (model X.prog X.w) X.A (eval b X.env) (fun u s₂=>wpAny (model X.prog X.w) X.A (f v u) Q X.xe s₂) X.xe s₁) X.xe s:=by
 refine thn (ha pins s σ H _ I h) ?_
 rintro v s1 ⟨x,H1,I1,r1,q1⟩
 refine thn (hb pins s1 σ H1 _ I1 q1) ?_
 rintro u s2 ⟨y,H2,I2,r2,q2⟩
 exact hf v u s2 x y H2 I2 r1 r2 q2
theorem a40 {op:Operator}{r:R2}(ho:OpR X (binaryOp op) r) (ha:PE X a ta) (hb:PE X b tb):PE X (.BinOp a op b pos) (tOp r ta tb):=by
 intro pins s σ H Q I h
 exact wpAny_BinOp (binT ha hb I h fun v u s2 x y H2 I2 rx ry q=>ho pins s2 σ H2 x y v u Q I2 rx ry q)
theorem ax1 {op:UnaryOp}{r:V→Hp→VK→Prop}(ho:UnR X (unaryOp op) r) (ha:PE X a ta):PE X (.UnaryOp op a pos) (tUn r ta):=by
 intro pins s σ H Q I h
 exact UnaryOp_ (thn (ha pins s σ H _ I h) (by rintro v s1 ⟨x,H1,I1,r1,q1⟩; exact ho pins s1 σ H1 x v Q I1 r1 q1))
theorem opI {f:Value→Value→Sem Value}{C:Int→Int→Prop}{g:Int→Int→Int}
 (rule:∀ (i j:Int) (t u:Tok) (s:Shared) (Q:Value→Shared→Prop) (E:Value→Shared→Prop),C i j→Q (.int (g i j) s.toks) { s with toks:=s.toks+1 }→wpAny (model X.prog X.w) X.A (f (.int i t) (.int j u)) Q E s) :
 OpR X f (rI C fun i j=>.int (g i j)):=by
 intro pins s σ H x y v u Q I rx ry h
 obtain ⟨i,j,rfl,rfl,hc,q⟩:=h
 obtain ⟨t,rfl⟩:=rx
 obtain ⟨t',rfl⟩:=ry
 exact rule i j t t' s _ _ hc ⟨.int (g i j),H,I.tok _,⟨_,rfl⟩,q⟩
theorem opI0 {f:Value→Value→Sem Value}{g:Int→Int→Int}
 (rule:∀ (i j:Int) (t u:Tok) (s:Shared) (Q:Value→Shared→Prop) (E:Value→Shared→Prop),Q (.int (g i j) s.toks) { s with toks:=s.toks+1 }→wpAny (model X.prog X.w) X.A (f (.int i t) (.int j u)) Q E s) :
 OpR X f (rI0 fun i j=>.int (g i j)):=by
 intro pins s σ H x y v u Q I rx ry h
 obtain ⟨i,j,rfl,rfl,q⟩:=h
 obtain ⟨t,rfl⟩:=rx
 obtain ⟨t',rfl⟩:=ry
 exact rule i j t t' s _ _ ⟨.int (g i j),H,I.tok _,⟨_,rfl⟩,q⟩
theorem opB0 {f:Value→Value→Sem Value}{g:Int→Int→Bool}
 (rule:∀ (i j:Int) (t u:Tok) (s:Shared) (Q:Value→Shared→Prop) (E:Value→Shared→Prop),Q (.bool (g i j)) s→wpAny (model X.prog X.w) X.A (f (.int i t) (.int j u)) Q E s) :
 OpR X f (rI0 fun i j=>.bl (g i j)):=by
 intro pins s σ H x y v u Q I rx ry h
 obtain ⟨i,j,rfl,rfl,q⟩:=h
 obtain ⟨t,rfl⟩:=rx
 obtain ⟨t',rfl⟩:=ry
 exact rule i j t t' s _ _ ⟨.bl (g i j),H,I,rfl,q⟩
def CDiv (i j:Int):Prop:=0<j∧j<1073741824
def CPow (i j:Int):Prop:=0≤j∧j≤1000000∧i.natAbs<2 ^ 64
def CMul (i j:Int):Prop:=(-(2 ^ 64)<i∧i<2 ^ 64)∨(-(2 ^ 64)<j∧j<2 ^ 64)
theorem CMul.ok {i j:Int}(h:CMul i j):IntMulOk i j:=by
 rcases h with ⟨h1,h2⟩ | ⟨h1,h2⟩
 · exact .of_left (intBits_le_64 h1 h2)
 · exact .of_right (intBits_le_64 h1 h2)
theorem bh7:OpR X (binaryOp .Add) (rI0 fun i j=>.int (i+j)):=opI0 fun _ _ _ _ _ _ _ q=>add_int q
theorem a70:OpR X (binaryOp .Sub) (rI0 fun i j=>.int (i - j)):=opI0 fun _ _ _ _ _ _ _ q=>sub_int q
theorem bb2:OpR X (binaryOp .FloorDiv) (rI CDiv fun i j=>.int (i / j)):=opI fun i j _ _ _ _ _ hc q=>by
 have h1:(0:Int)<j:=hc.1
 have h2:j<1073741824:=hc.2
 exact floordiv_int (by omega) (by rw [Int.fdiv_eq_ediv_of_nonneg i (by omega)]; exact q) (.inl (PyProof.noPylong_small (by omega)))
theorem ac1:OpR X (binaryOp .Mod) (rI (fun _ j=>0<j) fun i j=>.int (i % j)):=opI fun i j _ _ _ _ _ hc q=>by
 have h1:(0:Int)<j:=hc
 exact mod_int' (by omega) (by rw [Int.fmod_eq_emod_of_nonneg i (by omega)]; exact q)
theorem bh8:OpR X (binaryOp .Pow) (rI CPow fun i j=>.int (i ^ j.toNat)):=opI fun _ _ _ _ _ _ _ hc q=>pow_int_small hc.1 hc.2.1 hc.2.2 q
theorem unI {f:Value→Sem Value}{g:Int→Int}
 (rule:∀ (i:Int) (t:Tok) (s:Shared) (Q:Value→Shared→Prop) (E:Value→Shared→Prop),Q (.int (g i) s.toks) { s with toks:=s.toks+1 }→wpAny (model X.prog X.w) X.A (f (.int i t)) Q E s) :
 UnR X f (rU fun i=>.int (g i)):=by
 intro pins s σ H x v Q I rx h
 obtain ⟨i,rfl,q⟩:=h
 obtain ⟨t,rfl⟩:=rx
 exact rule i t s _ _ ⟨.int (g i),H,I.tok _,⟨_,rfl⟩,q⟩
theorem am2:UnR X (unaryOp .USub) (rU fun i=>.int (-i)):=unI fun _ _ _ _ _ q=>neg_int q
end
def scal:V→V→Bool
 | .non,.non=>true | .non,.int _=>true | .int _,.non=>true | .non,.bl _=>true | .bl _,.non=>true | .non,.str _=>true | .str _,.non=>true
 | .int _,.int _=>true | .bl _,.bl _=>true | .str _,.str _=>true | .byt _,.byt _=>true
 | .int _,.str _=>true | .str _,.int _=>true | .bl _,.str _=>true | .str _,.bl _=>true
 | _,_=>false
def rEq:R2:=fun x y H Q=>scal x y=true∧Q (.bl (decide (x=y))) H
def rNe:R2:=fun x y H Q=>scal x y=true∧Q (.bl (!decide (x=y))) H
theorem ax2 {i j:Int}:decide (V.int i=V.int j)=(i == j):=by
 rw [Bool.eq_iff_iff]
 simp
theorem b83 {i j:Bool}:decide (V.bl i=V.bl j)=(i == j):=by
 rw [Bool.eq_iff_iff]
 simp
theorem ax3 {i j:Str}:decide (V.str i=V.str j)=(i == j):=by
 rw [Bool.eq_iff_iff]
 simp
theorem ax4 {i j:Array UInt8}:decide (V.byt i=V.byt j)=(i.toList == j.toList):=by
 rw [Bool.eq_iff_iff]
 cases i
 cases j
 simp
section
variable {X:Cx}{a b c:Expr}{ta tb tc:TE}{pos:Pos}
theorem a39 {pins:List (Addr×Obj)}{σ:St} {H:Hp}{s:Shared}{Q:VK}{k k':Bool}(I:Inv X pins σ H s) (q:Q (.bl k) H) (e:k=k'):EP X pins σ Q (.bool k') s:=by
 subst e
 exact ⟨.bl k,H,I,rfl,q⟩
theorem a41:OpR X (compareOp .Eq) rEq:=by
 intro pins s σ H x y v u Q I rx ry h
 obtain ⟨hs,q⟩:=h
 cases x with
 | non =>
   cases rx
   cases y with
   | non=>cases ry; exact PySem.EqNone.eq_none_none (a39 I q (by simp))
   | bl j=>cases ry; exact PySem.EqNone.eq_none_bool (a39 I q (by simp))
   | int j=>obtain ⟨t',rfl⟩:=ry; exact PySem.EqNone.eq_none_int (a39 I q (by simp))
   | str j=>obtain ⟨t',rfl⟩:=ry; exact PySem.EqNone.eq_none_str (a39 I q (by simp))
   | _=>exact absurd (show false=true from hs) Bool.false_ne_true
 | bl i =>
   cases rx
   cases y with
   | non=>cases ry; exact PySem.EqNone.eq_bool_none (a39 I q (by simp))
   | bl j=>cases ry; exact eq_bool (a39 I q b83)
   | str j=>obtain ⟨t',rfl⟩:=ry; exact PySem.EqMixed.eq_bool_str (a39 I q (by simp))
   | _=>exact absurd (show false=true from hs) Bool.false_ne_true
 | int i =>
   obtain ⟨t,rfl⟩:=rx
   cases y with
   | non=>cases ry; exact PySem.EqNone.eq_int_none (a39 I q (by simp))
   | int j=>obtain ⟨t',rfl⟩:=ry; exact eq_int (a39 I q ax2)
   | str j=>obtain ⟨t',rfl⟩:=ry; exact PySem.EqMixed.eq_int_str (a39 I q (by simp))
   | _=>exact absurd (show false=true from hs) Bool.false_ne_true
 | str i =>
   obtain ⟨t,rfl⟩:=rx
   cases y with
   | non=>cases ry; exact PySem.EqNone.eq_str_none (a39 I q (by simp))
   | bl j=>cases ry; exact PySem.EqMixed.eq_str_bool (a39 I q (by simp))
   | int j=>obtain ⟨t',rfl⟩:=ry; exact PySem.EqMixed.eq_str_int (a39 I q (by simp))
   | str j=>obtain ⟨t',rfl⟩:=ry; exact eq_str (a39 I q ax3)
   | _=>exact absurd (show false=true from hs) Bool.false_ne_true
 | byt i =>
   obtain ⟨t,rfl⟩:=rx
   cases y with
   | byt j=>obtain ⟨t',rfl⟩:=ry; exact PySem.W.eq_bytes (a39 I q ax4)
   | _=>exact absurd (show false=true from hs) Bool.false_ne_true
 | _=>cases y <;> exact absurd (show false=true from hs) Bool.false_ne_true
theorem bb3:OpR X (compareOp .NotEq) rNe:=by
 intro pins s σ H x y v u Q I rx ry h
 obtain ⟨hs,q⟩:=h
 cases x with
 | non =>
   cases rx
   cases y with
   | non=>cases ry; exact PySem.EqNone.ne_none_none (a39 I q (by simp))
   | bl j=>cases ry; exact PySem.EqNone.ne_none_bool (a39 I q (by simp))
   | int j=>obtain ⟨t',rfl⟩:=ry; exact PySem.EqNone.ne_none_int (a39 I q (by simp))
   | str j=>obtain ⟨t',rfl⟩:=ry; exact PySem.EqNone.ne_none_str (a39 I q (by simp))
   | _=>exact absurd (show false=true from hs) Bool.false_ne_true
 | bl i =>
   cases rx
   cases y with
   | non=>cases ry; exact PySem.EqNone.ne_bool_none (a39 I q (by simp))
   | bl j=>cases ry; exact ne_bool (a39 I q (congrArg not b83))
   | str j=>obtain ⟨t',rfl⟩:=ry; exact PySem.EqMixed.ne_bool_str (a39 I q (by simp))
   | _=>exact absurd (show false=true from hs) Bool.false_ne_true
 | int i =>
   obtain ⟨t,rfl⟩:=rx
   cases y with
   | non=>cases ry; exact PySem.EqNone.ne_int_none (a39 I q (by simp))
   | int j=>obtain ⟨t',rfl⟩:=ry; exact ne_int (a39 I q (congrArg not ax2))
   | str j=>obtain ⟨t',rfl⟩:=ry; exact PySem.EqMixed.ne_int_str (a39 I q (by simp))
   | _=>exact absurd (show false=true from hs) Bool.false_ne_true
 | str i =>
   obtain ⟨t,rfl⟩:=rx
   cases y with
   | non=>cases ry; exact PySem.EqNone.ne_str_none (a39 I q (by simp))
   | bl j=>cases ry; exact PySem.EqMixed.ne_str_bool (a39 I q (by simp))
   | int j=>obtain ⟨t',rfl⟩:=ry; exact PySem.EqMixed.ne_str_int (a39 I q (by simp))
   | str j=>obtain ⟨t',rfl⟩:=ry; exact ne_str (a39 I q (congrArg not ax3))
   | _=>exact absurd (show false=true from hs) Bool.false_ne_true
 | byt i =>
   obtain ⟨t,rfl⟩:=rx
   cases y with
   | byt j=>obtain ⟨t',rfl⟩:=ry; exact PySem.W.ne_bytes (a39 I q (congrArg not ax4))
   | _=>exact absurd (show false=true from hs) Bool.false_ne_true
 | _=>cases y <;> exact absurd (show false=true from hs) Bool.false_ne_true
theorem aq6:OpR X (compareOp .Lt) (rI0 fun i j=>.bl (decide (i<j))):=opB0 fun _ _ _ _ _ _ _ q=>lt_int q
theorem aj8:OpR X (compareOp .Gt) (rI0 fun i j=>.bl (decide (j<i))):=opB0 fun _ _ _ _ _ _ _ q=>gt_int q
theorem bh9:OpR X (compareOp .Is) (fun x y H Q=>y=.non∧Q (.bl (decide (x=.non))) H):=by
 intro pins s σ H x y v u Q I rx ry h
 obtain ⟨rfl,q⟩:=h
 cases ry
 refine is_none_gen (a39 I q ?_)
 cases x <;> first
  | (cases rx; rfl)
  | (obtain ⟨t,rfl⟩:=rx; rfl)
theorem bb4:OpR X (compareOp .IsNot) (fun x y H Q=>y=.non∧Q (.bl (!decide (x=.non))) H):=by
 intro pins s σ H x y v u Q I rx ry h
 obtain ⟨rfl,q⟩:=h
 cases ry
 refine isnot_none_gen (a39 I q ?_)
 cases x <;> first
  | (cases rx; rfl)
  | (obtain ⟨t,rfl⟩:=rx; rfl)
theorem nomark (b:Expr) {op:CmpOp}(h:op≠.In:=by decide) (h2:op≠.NotIn:=by decide):behindInMarks op b=false:=by
 have e1:(op == CmpOp.In)=false:=by cases op <;> first | rfl | exact absurd rfl h
 have e2:(op == CmpOp.NotIn)=false:=by cases op <;> first | rfl | exact absurd rfl h2
 cases b <;> simp [behindInMarks,e1,e2]
theorem a52 {op:CmpOp}{r:R2}(ho:OpR X (compareOp op) r) (ha:PE X a ta) (hb:PE X b tb) (hm:behindInMarks op b=false):PE X (.Compare a [op] [b] pos) (tOp r ta tb):=by
 intro pins s σ H Q I h
 exact wpAny_Compare1 (binT ha hb I h fun v u s2 x y H2 I2 rx ry q=>ho pins s2 σ H2 x y v u Q I2 rx ry q) hm
def bi0 (t:TE):TT:=fun σ H Q=>t σ H fun x H'=>∃ k,x=.bl k∧Q k H'
theorem a07 {op:CmpOp}{r:R2}(ho:OpR X (compareOp op) r) (ha:PE X a ta) (hb:PE X b tb) (hm:behindInMarks op b=false):PT X (.Compare a [op] [b] pos) (bi0 (tOp r ta tb)):=by
 intro pins s σ H Q I h
 refine wpAny_isTrue_Compare1 (thn (ha pins s σ H _ I h) fun v s1 ⟨x,H1,I1,r1,q1⟩=>thn (hb pins s1 σ H1 _ I1 q1) fun u s2 ⟨y,H2,I2,r2,q2⟩ =>
  thn (ho pins s2 σ H2 x y v u _ I2 r1 r2 q2) fun c s3 ⟨z,H3,I3,r3,k,e,q3⟩=>?_) hm
 subst e
 cases r3
 exact wpAny_truthy_bool ⟨H3,I3,q3⟩
def TruV (K:PySem.W.Frag) (x:V) (H:Hp) (k:Bool):Prop :=
 match x with
 | .non=>k=false
 | .bl b=>k=b
 | .int i=>k=(i != 0)
 | .str y=>y.length≤sizeLine∧k=((y.length:Int) != 0)
 | .byt y=>y.size≤sizeLine∧k=((y.size:Int) != 0)
 | .ref p=>(∃ xs,SqL K H p xs∧k=!xs.isEmpty)∨(∃ xs,SqT K H p xs∧k=!xs.isEmpty)∨∃ kvs,H p=some (.dK kvs)∧k=!kvs.isEmpty
 | _=>False
theorem av2 {κ:Type} {kvs:List (κ×V)}{vs:List (κ×Value)}(r:KV kvs vs):(!vs.isEmpty)=!kvs.isEmpty:=by
 cases r <;> rfl
theorem ai3 {xs:List V}{its:List Value}(r:Vals xs its):(!its.toArray.isEmpty)=!xs.isEmpty:=by
 cases r <;> simp
theorem am3:(sizeLine:Nat)<2 ^ 63:=by rw [sizeLine_eq]; decide
theorem bi1:TruR X (fun x H Q=>∃ k,TruV X.K x H k∧Q k H):=by
 intro pins s σ H x v Q I rx h
 obtain ⟨k,e,q⟩:=h
 have hl:=am3
 have hs:sizeLine=16777216:=sizeLine_eq
 cases x with
 | non =>
   cases rx
   have e':k=false:=e
   subst e'
   exact truthy_none ⟨H,I,q⟩
 | bl b =>
   cases rx
   have e':k=b:=e
   subst e'
   exact wpAny_truthy_bool ⟨H,I,q⟩
 | int i =>
   obtain ⟨t,rfl⟩:=rx
   have e':k=(i != 0):=e
   subst e'
   exact PySem.P.truthy_int ⟨H,I,q⟩
 | str y =>
   obtain ⟨t,rfl⟩:=rx
   obtain ⟨hy,e'⟩:y.length≤sizeLine∧k=((y.length:Int) != 0):=e
   subst e'
   exact PySem.P.truthy_str (by omega) ⟨H,I.tok _,q⟩
 | byt y =>
   obtain ⟨t,rfl⟩:=rx
   obtain ⟨hy,e'⟩:y.size≤sizeLine∧k=((y.size:Int) != 0):=e
   subst e'
   exact PySem.W.truthy_bytes (by omega) ⟨H,I.tok _,q⟩
 | ref p =>
   cases rx
   have e':(∃ xs,SqL X.K H p xs∧k=!xs.isEmpty)∨(∃ xs,SqT X.K H p xs∧k=!xs.isEmpty)∨∃ kvs,H p=some (.dK kvs)∧k=!kvs.isEmpty:=e
   rcases e' with ⟨xs,hx,e'⟩ | ⟨xs,hx,e'⟩ | ⟨kvs,hx,e'⟩
   · subst e'
     obtain ⟨its,r,pl,hz⟩:=I.list hx
     have hlen:=r.length
     exact wpAny_truthy_list pl.isList (by simp only [List.size_toArray]; omega) ⟨H,I.tok _,by rw [ai3 r]; exact q⟩
   · subst e'
     obtain ⟨its,r,pl,hz⟩:=I.tuple hx
     have hlen:=r.length
     exact truthy_tuple pl (by simp only [List.size_toArray]; omega) ⟨H,I.tok _,by rw [ai3 r]; exact q⟩
   · subst e'
     obtain ⟨hz,hS,vs,r,m⟩:kvs.length≤sizeLine∧(p == sysModules)=false∧∃ vs,KV kvs vs∧s.heap.DictOf (aq2 X.prog X.w) p vs:=I.hok p _ hx
     have hlen:kvs.length=vs.length:=Paired.length r
     exact wpAny_truthy_dict hS m (by omega) ⟨H,I.tok _,by rw [av2 r]; exact q⟩
 | _=>exact (show False from e).elim
theorem b40 (ha:PE X a ta) (he:∀ whole,isTrue a X.env whole=(do let v←whole; standAt a.pos; holding [v] (truthy v))) :
 PT X a (fun σ H Q=>ta σ H fun x H'=>∃ k,TruV X.K x H' k∧Q k H'):=by
 intro pins s σ H Q I h
 exact isTrue_plain (thn (ha pins s σ H _ I h) (by rintro v s1 ⟨x,H1,I1,r1,q1⟩; exact bi1 pins s1 σ H1 x v Q I1 r1 q1)) (he _)
theorem av3:OpR X (binaryOp .Add) (fun x y H Q=>∃ i j,x=.str i∧y=.str j∧i.length+j.length≤sizeLine∧Q (.str (i++j)) H):=by
 intro pins s σ H x y v u Q I rx ry h
 obtain ⟨i,j,rfl,rfl,hz,q⟩:=h
 obtain ⟨t,rfl⟩:=rx
 obtain ⟨t',rfl⟩:=ry
 exact add_str (fun t' tk=>⟨.str (i++j),H,I.tok _,⟨_,rfl⟩,q⟩) hz
theorem aj9 {x:V}{us:List Value}(r:Vals [x] us):∃ u,us=[u]∧RelV x u:=by
 cases r with
 | cons r1 r2=>cases r2; exact ⟨_,rfl,r1⟩
theorem vals2 {x y:V}{us:List Value}(r:Vals [x,y] us):∃ u w',us=[u,w']∧RelV x u∧RelV y w':=by
 cases r with
 | cons r1 r2 =>
   cases r2 with
   | cons r3 r4=>cases r4; exact ⟨_,_,rfl,r1,r3⟩
theorem b41:CallR X (.builtin "abs") (fun xs H Q=>∃ i,xs=[.int i]∧Q (.int (if i<0 then -i else i)) H):=by
 intro pins s σ H xs us Q I r h
 obtain ⟨i,rfl,q⟩:=h
 obtain ⟨u,rfl,t,rfl⟩:=aj9 r
 exact call_abs_int fun u tk=>⟨.int (if i<0 then -i else i),H,I.tok _,⟨_,rfl⟩,q⟩
theorem ax5:CallR X (.type "int") (fun xs H Q=>(∃ i,xs=[.int i]∧Q (.int i) H)∨∃ k,xs=[.bl k]∧Q (.int (if k then 1 else 0)) H):=by
 intro pins s σ H xs us Q I r h
 rcases h with ⟨i,rfl,q⟩ | ⟨k,rfl,q⟩
 · obtain ⟨u,rfl,t,rfl⟩:=aj9 r
   exact call_int_int ⟨.int i,H,I,⟨_,rfl⟩,q⟩
 · obtain ⟨u,rfl,r1⟩:=aj9 r
   cases r1
   exact call_int_bool ⟨.int (if k then 1 else 0),H,I.tok _,⟨_,rfl⟩,q⟩
theorem am4:CallR X (.type "str") (fun xs H Q=>∃ i,xs=[.int i]∧i.natAbs.log2<1920∧Q (.str (toString i)) H):=by
 intro pins s σ H xs us Q I r h
 obtain ⟨i,rfl,hz,q⟩:=h
 obtain ⟨u,rfl,t,rfl⟩:=aj9 r
 exact PySem.P.str_of_int hz ⟨.str _,H,I.tok _,⟨_,rfl⟩,q⟩
def LenV (K:PySem.W.Frag) (x:V) (H:Hp) (n:Nat):Prop :=
 match x with
 | .str y=>y.length≤sizeLine∧n=y.length
 | .byt y=>y.size≤sizeLine∧n=y.size
 | .ref p=>(∃ xs,SqL K H p xs∧n=xs.length)∨∃ xs,SqT K H p xs∧n=xs.length
 | _=>False
theorem b42:CallR X (.builtin "len") (fun xs H Q=>∃ x n,xs=[x]∧LenV X.K x H n∧Q (.int n) H):=by
 intro pins s σ H xs us Q I r h
 obtain ⟨x,n,rfl,e,q⟩:=h
 obtain ⟨u,rfl,rx⟩:=aj9 r
 have hl:=am3
 have hs:sizeLine=16777216:=sizeLine_eq
 cases x with
 | str y =>
   obtain ⟨t,rfl⟩:=rx
   obtain ⟨hy,e'⟩:y.length≤sizeLine∧n=y.length:=e
   subst e'
   exact len_str (by omega) ⟨.int _,H,I.tok _,⟨_,rfl⟩,q⟩
 | byt y =>
   obtain ⟨t,rfl⟩:=rx
   obtain ⟨hy,e'⟩:y.size≤sizeLine∧n=y.size:=e
   subst e'
   exact PySem.W.len_bytes (by omega) ⟨.int _,H,I.tok _,⟨_,rfl⟩,q⟩
 | ref p =>
   cases rx
   have e':(∃ xs,SqL X.K H p xs∧n=xs.length)∨∃ xs,SqT X.K H p xs∧n=xs.length:=e
   rcases e' with ⟨xs,hx,e'⟩ | ⟨xs,hx,e'⟩
   · subst e'
     obtain ⟨its,r',pl,hz⟩:=I.list hx
     have hlen:=r'.length
     exact Calls.call_len_list pl.isList (by simp only [List.size_toArray]; omega) ⟨.int xs.length,H,I.tok _,⟨_,by simp only [List.size_toArray]; rw [hlen]⟩,q⟩
   · subst e'
     obtain ⟨its,r',pl,hz⟩:=I.tuple hx
     have hlen:=r'.length
     exact len_tuple pl (by simp only [List.size_toArray]; omega) ⟨.int xs.length,H,I.tok _,⟨_,by simp only [List.size_toArray]; rw [hlen]⟩,q⟩
 | _=>exact (show False from e).elim
end
structure ObjM (h:Heap) (x dx C:Addr) (mA:Str→Option Value):Prop where
 obj:h.get? x=some (PySem.W.instObj C dx)
 ns:h.Ns1 dx mA
 ne:dx≠x
theorem ax6 {h:Heap}{dx:Addr}{mA:Str→Option Value}(n:h.Ns1 dx mA):∃ od,h.get? dx=some od∧∀ name,PySem.W.lookIn name od=some (mA name):=by
 obtain ⟨o,es,ep,ho,hd,hk,_,hm⟩:=n
 refine ⟨o,ho,fun name=>?_⟩
 have e:=hm name
 unfold nsFind findBy at e
 rw [← Array.find?_toList] at e
 unfold PySem.W.lookIn
 rw [hd]
 dsimp only
 split
 · rename_i y q
   rw [q] at e
   exact congrArg some e
 · rename_i q
   rw [q] at e
   have a:es.toList.any (·.refKey)=false:=by
    rw [List.any_eq_false]
    intro y hy
    obtain ⟨z,t,hkey⟩:=hk y (Array.mem_toList_iff.mp hy)
    simp [DictEntry.refKey,hkey]
   have a':¬ es.toList.any (·.refKey)=true:=by rw [a]; exact Bool.false_ne_true
   rw [if_neg a']
   exact congrArg some e
theorem ObjM.look {h:Heap}{x dx C:Addr}{mA:Str→Option Value}(I:ObjM h x dx C mA):∃ od,PySem.W.InstAt h x (PySem.W.instObj C dx) C (some od)∧∀ name,PySem.W.lookIn name od=some (mA name) :=
 let ⟨od,ho,hl⟩:=ax6 I.ns
 ⟨od,⟨I.obj,rfl,rfl,ho⟩,hl⟩
section
variable {prog:Program}{w:World}{A:Around}{E:Value→Shared→Prop}{s:Shared}{K:PySem.W.Frag}{x dx C f:Addr}{mA:Str→Option Value}{name:Str}{v:Value}
theorem bb5 {expr:Bool}{Q:Value→Shared→Prop}(X:K.In s.heap) (I:ObjM s.heap x dx C mA) (hg:PySem.W.plainGet K C name=true) (hh:PySem.W.hasDictIn K C=true)
 (ha:PySem.W.findIn K (.ref C) name=some none) (hv:mA name=some v) (hv':PySem.W.handedIn v=true) (h:Q v { s with toks:=s.toks+1 }) :
 wpAny (model prog w) A (getAttr (.ref x) name expr) Q E s:=by
 obtain ⟨od,J,hl⟩:=I.look
 exact PySem.W.get_value X J (PySem.W.plainGet_of hg).1 (PySem.W.findObj_own hh ha rfl (by rw [hl,hv])) hv' h
theorem b43 {pl:Sem Bool}{Q:Value×List Value→Shared→Prop}(X:K.In s.heap) (I:ObjM s.heap x dx C mA) (hg:PySem.W.plainGet K C name=true)
 (hf:PySem.W.findIn K (.ref C) name=some (some (.ref f))) (ht:PySem.W.isFn K (.ref f)=true) (hv:mA name=none) (h:Q (.ref f,[.ref x]) s) :
 wpAny (model prog w) A (getMethod (.ref x) name pl) Q E s:=by
 obtain ⟨od,J,hl⟩:=I.look
 exact PySem.W.method_fn X J (PySem.W.plainGet_of hg).1 (PySem.W.plainGet_of hg).2 hf (beq_iff_eq.mp ht) (by show (PySem.W.lookIn name od).map (·.isSome)=some false; rw [hl,hv]; rfl) h
theorem bb6 {ns:List Str}{Q:Unit→Shared→Prop}(X:K.In s.heap) (I:ObjM s.heap x dx C mA)
 (hs:PySem.W.findIn K (.ref C) "__setattr__"=some (some (.builtin "object.__setattr__"))) (hp:PySem.W.plainOver K C=true) (ht:PySem.W.takerIn K C name=some none) (hh:PySem.W.hasDictIn K C=true)
 (hw:PySem.Within mA ns) (hsz:ns.length≤sizeLine)
 (h:∀ h',ObjM h' x dx C (fun y=>if y=name then some v else mA y)→Heap.SameBut dx s.heap h'→Q () { s with heap:=h',toks:=s.toks+2 }) :
 wpAny (model prog w) A (setAttr (.ref x) name v) Q E s:=by
 obtain ⟨od,J,hl⟩:=I.look
 refine PySem.W.set_plain X J hs (PySem.W.osa_open (s:={ s with toks:=s.toks+1 }) (r:=none) X J hp ht fun b=>?_)
 obtain ⟨cd,hc,hd'⟩:=PySem.W.any_some hh
 have hx:s.heap.get? x=some ⟨.ref C,some dx,.plain,#[]⟩:=I.obj
 refine wpAny_bind (wpAny_pure (wpAny_bind (wpAny_bind (wpAny_loadPart hx (wpAny_bind (PySem.W.Looks.here (s:={ s with toks:=s.toks+1 }) (PySem.W.looks_clsIn X hc) ?_))))))
 rw [hd']
 refine wpAny_pure (a:=some dx) (wpAny_bind (wpAny_pure (wpAny_bind ?_)))
 refine wpAny_nsSet1 (s:={ s with toks:=s.toks+1 }) I.ns fun h' hn2 hs2=>?_
 obtain ⟨oD,esD,epD,hoD,hdD,hcD⟩:=hn2.count (PySem.Within.cons name v hw)
 refine wpAny_bind (wpAny_lookBehind hoD (by rw [hdD]; exact pastItsLine_dict (Nat.le_trans hcD (by rw [List.length_cons]; omega))) ?_)
 exact wpAny_pure (h _ ⟨(hs2.2 _ (Ne.symm I.ne)).trans I.obj,hn2,I.ne⟩ hs2)
theorem b44 {R:Result→Shared→Prop}{vs:List Value}{kw:List (Str×Value)}(X:K.In s.heap) (hm:PySem.W.makesIn K C=true)
 (hi:PySem.W.findIn K (.ref C) "__init__"=some (some (.ref f))) (hf:PySem.W.typeIn K (.ref f)=some (.type "function"))
 (h:codeAny (model prog w) (A.under (.builtin "type.__call__" ⟨.ref C::vs,kw⟩)) (.call (.ref f) ⟨.ref (s.heap.objs.size+1)::vs,kw⟩) (PySem.W.InitBack (s.heap.objs.size+1) R)
  { s with heap:=(s.heap.push PySem.W.emptyDict).push (PySem.W.instObj C s.heap.objs.size) }) :
 codeAny (model prog w) A (.call (.ref C) ⟨vs,kw⟩) R s:=by
 obtain ⟨hh,g,d,t,os⟩:=s
 exact PySem.W.make_core (PySem.W.makes_of X hm) (PySem.W.looks_findIn X hi) (fun self=>PySem.W.bind_fn X self hf) (.inl rfl) h
end
def putF (f:Str) (v:V):List (Str×V)→List (Str×V)
 | []=>[(f,v)]
 | (g,x)::r=>if g=f then (g,v)::r else (g,x)::putF f v r
theorem a42 (f g:Str) (v:V):∀ fs:List (Str×V),(putF f v fs).lookup g=if g=f then some v else fs.lookup g
 | []=>by
   show List.lookup g [(f,v)]=_
   by_cases h:g=f
   · have hb:(g == f)=true:=beq_iff_eq.mpr h
     simp only [List.lookup,hb,if_pos h]
   · have hb:(g == f)=false:=beq_eq_false_iff_ne.mpr h
     simp only [List.lookup,hb,if_neg h]
 | (k,x)::r=>by
   have ih:=a42 f g v r
   rw [show putF f v ((k,x)::r)=(if k=f then (k,v)::r else (k,x)::putF f v r) from rfl]
   by_cases hk:k=f
   · rw [if_pos hk]
     by_cases h:g=k
     · have hb:(g == k)=true:=beq_iff_eq.mpr h
       simp only [List.lookup,hb,if_pos (h.trans hk)]
     · have hb:(g == k)=false:=beq_eq_false_iff_ne.mpr h
       simp only [List.lookup,hb,if_neg (fun e:g=f=>h (e.trans hk.symm))]
   · rw [if_neg hk]
     by_cases h:g=k
     · have hb:(g == k)=true:=beq_iff_eq.mpr h
       simp only [List.lookup,hb,if_neg (fun e:g=f=>hk (h.symm.trans e))]
     · have hb:(g == k)=false:=beq_eq_false_iff_ne.mpr h
       simp only [List.lookup,hb]
       exact ih
theorem ae5 (f:Str) (v:V):∀ fs:List (Str×V),f∈(putF f v fs).map (·.1)∧∀ g,g∈fs.map (·.1)→g∈(putF f v fs).map (·.1)
 | []=>⟨by simp [putF],fun g h=>by simp at h⟩
 | (k,x)::r=>by
   obtain ⟨i1,i2⟩:=ae5 f v r
   rw [show putF f v ((k,x)::r)=(if k=f then (k,v)::r else (k,x)::putF f v r) from rfl]
   by_cases hk:k=f
   · rw [if_pos hk]
     subst hk
     exact ⟨by simp,fun g h=>by simpa using h⟩
   · rw [if_neg hk]
     refine ⟨?_,fun g h=>?_⟩
     · rw [List.map_cons]
       exact List.mem_cons_of_mem _ i1
     · rw [List.map_cons] at h ⊢
       rcases List.mem_cons.mp h with e | e
       · exact List.mem_cons.mpr (.inl e)
       · exact List.mem_cons_of_mem _ (i2 g e)
theorem a64 (f:Str) (v:V):∀ fs:List (Str×V),(putF f v fs).length≤fs.length+1
 | []=>by simp [putF]
 | (k,x)::r=>by
   have ih:=a64 f v r
   rw [show putF f v ((k,x)::r)=(if k=f then (k,v)::r else (k,x)::putF f v r) from rfl]
   by_cases hk:k=f
   · rw [if_pos hk,List.length_cons,List.length_cons]; omega
   · rw [if_neg hk,List.length_cons,List.length_cons]; omega
theorem RelO.some_of {v:V}{o:Option Value}(r:RelO (some v) o):∃ u,o=some u∧RelV v u:=by
 cases o with
 | none=>exact (show False from r).elim
 | some u=>exact ⟨u,rfl,r⟩
theorem RelO.none_of {o:Option Value}(r:RelO none o):o=none:=by
 cases o with
 | none=>rfl
 | some u=>exact (show False from r).elim
theorem ax7 {v:V}{u:Value}(r:RelV v u):PySem.W.handedIn u=true:=by
 cases v with
 | non=>cases (show u=Value.none from r); rfl
 | bl b=>cases (show u=Value.bool b from r); rfl
 | int i=>obtain ⟨t,e⟩:=(show ∃ t,u=Value.int i t from r); cases e; rfl
 | str x=>obtain ⟨t,e⟩:=(show ∃ t,u=Value.str x t from r); cases e; rfl
 | byt b=>obtain ⟨t,e⟩:=(show ∃ t,u=Value.bytes b t from r); cases e; rfl
 | flt b=>obtain ⟨t,e⟩:=(show ∃ t,u=Value.float b t from r); cases e; rfl
 | ref a=>cases (show u=Value.ref a from r); rfl
 | ty n=>cases (show u=Value.type n from r); rfl
section
variable {P:Program}{w:World}{H H':Hp}{h h':Heap}{a C dx:Addr}{fs fs':List (Str×V)}
theorem ak0 (hok:HOk P w H h) (e:H a=some (.ins C dx fs)):∃ mA,ObjM h a dx C mA∧(∀ f,RelO (fs.lookup f) (mA f))∧PySem.Within mA (fs.map (·.1))∧fs.length≤1000∧H dx=some (.own a):=by
 obtain ⟨d,z,ne,ob,mA,n,r,q⟩:=(show ObjOk P w H h a (.ins C dx fs) from hok a _ e)
 exact ⟨mA,⟨ob,n,ne⟩,r,q,z,d⟩
end
structure Cls (K:PySem.W.Frag) (C:Addr):Prop where
 pg:PySem.W.plainGet K C Str.empty=true
 hd:PySem.W.hasDictIn K C=true
 po:PySem.W.plainOver K C=true
 sa:PySem.W.findIn K (.ref C) "__setattr__"=some (some (.builtin "object.__setattr__"))
theorem Cls.get {K:PySem.W.Frag}{C:Addr}(c:Cls K C) (f:Str):PySem.W.plainGet K C f=true:=c.pg
def NoAttr (K:PySem.W.Frag) (C:Addr) (f:Str):Prop:=PySem.W.findIn K (.ref C) f=some none
theorem NoAttr.taker {K:PySem.W.Frag}{C:Addr}{f:Str}(n:NoAttr K C f):PySem.W.takerIn K C f=some none:=by
 unfold PySem.W.takerIn
 rw [show PySem.W.findIn K (.ref C) f=some none from n]
 rfl
structure Meth (K:PySem.W.Frag) (C:Addr) (m:Str) (f:Addr):Prop where
 at_:PySem.W.findIn K (.ref C) m=some (some (.ref f))
 fn:PySem.W.isFn K (.ref f)=true
 kp:PySem.W.keepIn K (.ref f)=true
section
variable {X:Cx}{pins:List (Addr×Obj)}{σ:St} {H:Hp}{s:Shared}{a C dx:Addr}{fs:List (Str×V)}{f:Str}{v:V}{A:Around}{E:Value→Shared→Prop}
theorem av4 {b:Bool}{Q:Value→Shared→Prop}(I:Inv X pins σ H s) (e:H a=some (.ins C dx fs)) (c:Cls X.K C) (n:NoAttr X.K C f) (l:fs.lookup f=some v)
 (h:∀ u s',Inv X pins σ H s'→RelV v u→Q u s'):wpAny (model X.prog X.w) A (getAttr (.ref a) f b) Q E s:=by
 obtain ⟨mA,O,r,_,_,_⟩:=ak0 I.hok e
 obtain ⟨u,hu,ru⟩:=RelO.some_of (v:=v) (o:=mA f) (by rw [← l]; exact r f)
 exact bb5 I.kIn O (c.get f) c.hd n hu (ax7 ru) (h u _ (I.tok _) ru)
theorem ai4 {m:Str}{g:Addr}{pl:Sem Bool}{Q:Value×List Value→Shared→Prop}(I:Inv X pins σ H s) (e:H a=some (.ins C dx fs)) (c:Cls X.K C) (k:Meth X.K C m g) (l:fs.lookup m=none)
 (h:Q (.ref g,[.ref a]) s):wpAny (model X.prog X.w) A (getMethod (.ref a) m pl) Q E s:=by
 obtain ⟨mA,O,r,_,_,_⟩:=ak0 I.hok e
 have hn:mA m=none:=RelO.none_of (by rw [← l]; exact r m)
 exact b43 I.kIn O (c.get m) k.at_ k.fn hn h
theorem av5 {y:V}{u:Value}{Q:Unit→Shared→Prop}(I:Inv X pins σ H s) (e:H a=some (.ins C dx fs)) (c:Cls X.K C) (n:NoAttr X.K C f) (hl:fs.length<1000) (ry:RelV y u)
 (h:∀ s',Inv X pins σ (upd H a (.ins C dx (putF f y fs))) s'→Q () s'):wpAny (model X.prog X.w) A (setAttr (.ref a) f u) Q E s:=by
 obtain ⟨mA,O,r,wi,_,ho⟩:=ak0 I.hok e
 have hz:(fs.map (·.1)).length≤sizeLine:=by rw [List.length_map,sizeLine_eq]; omega
 refine bb6 I.kIn O c.sa c.po n.taker c.hd wi hz fun h' O' sb=>h _ ?_
 have hd:∃ o,h'.get? dx=some o:=let ⟨o,_,_,e',_⟩:=O'.ns; ⟨o,e'⟩
 refine I.write (x:=a) (e:=dx) (by rw [e]; exact True.intro) (.inr ho) (fun b q hb z=>(sb.2 b hb).trans z) hd ?_
 refine ⟨by rw [a12 O.ne]; exact ho,?_,O.ne,O'.obj,_,O'.ns,fun g=>?_,fun g hg=>?_⟩
 · have:=a64 f y fs; omega
 · show RelO ((putF f y fs).lookup g) (if g=f then some u else mA g)
   rw [a42]
   by_cases q:g=f
   · rw [if_pos q,if_pos q]; exact ry
   · rw [if_neg q,if_neg q]; exact r g
 · by_cases q:g=f
   · rw [q]; exact (ae5 f y fs).1
   · refine (ae5 f y fs).2 g (wi g fun z=>hg ?_)
     show (if g=f then some u else mA g)=none
     rw [if_neg q]; exact z
theorem Inv.made (I:Inv X pins σ H s):Inv X pins σ (upd (upd H s.heap.objs.size (.own (s.heap.objs.size+1))) (s.heap.objs.size+1) (.ins C s.heap.objs.size []))
 { s with heap:=(s.heap.push PySem.W.emptyDict).push (PySem.W.instObj C s.heap.objs.size) }:=by
 have e1:(s.heap.push PySem.W.emptyDict).get? s.heap.objs.size=some PySem.W.emptyDict:=Heap.get?_push_size s.heap rfl
 have e2:((s.heap.push PySem.W.emptyDict).push (PySem.W.instObj C s.heap.objs.size)).get? (s.heap.objs.size+1)=some (PySem.W.instObj C s.heap.objs.size):=by
  have:=Heap.get?_push_size (s.heap.push PySem.W.emptyDict) (o:=PySem.W.instObj C s.heap.objs.size) rfl
  rwa [Heap.size_push] at this
 have e3:(s.heap.push PySem.W.emptyDict).Ns s.heap.objs.size (fun _=>none):=⟨PySem.W.emptyDict,#[],_,e1,rfl,(fun e he=>absurd he (by simp)),fun _=>rfl⟩
 have I1:=I.laid (a:=s.heap.objs.size) (o:=.own (s.heap.objs.size+1)) (h':=s.heap.push PySem.W.emptyDict) (t':=s.toks) (fun b u q=>Heap.get?_push_of_some _ q) (Nat.le_refl _) ⟨_,e1⟩
 refine I1.laid (a:=s.heap.objs.size+1) (o:=.ins C s.heap.objs.size []) (t':=s.toks) (fun b u q=>Heap.get?_push_of_some _ q) (Nat.le_of_eq (Heap.size_push _ _)) ?_
 have ne:s.heap.objs.size≠s.heap.objs.size+1:=Nat.ne_of_lt (Nat.lt_succ_self _)
 refine ⟨by rw [a12 ne,a32],Nat.zero_le _,ne,e2,fun _=>none,(Heap.Ns1.of_empty e3).at fun o q=>Heap.get?_push_of_some _ q,fun _=>True.intro,fun y hy=>absurd rfl hy⟩
theorem bb7 {prog:Program}{w:World}{env:Env}{e:Expr}{f:Str}{pos:Pos}{s:Shared}{Q:Value→Shared→Prop}(hb:attributeBase e f env (eval e env)=eval e env)
 (h:wpAny (model prog w) A (eval e env) (fun o s₁=>wpAny (model prog w) A (getAttr o f true) Q E s₁) E s):wpAny (model prog w) A (eval (.Attribute e f pos) env) Q E s :=
 Attribute_any_ h (by rw [arm_eval_Attribute,hb])
end
def tFld (K:PySem.W.Frag) (ta:TE) (f:Str):TE:=fun σ H Q=>ta σ H fun x H1=>∃ a C dx fs v,x=.ref a∧H1 a=some (.ins C dx fs)∧Cls K C∧NoAttr K C f∧fs.lookup f=some v∧Q v H1
def sFld (K:PySem.W.Frag) (ta tv:TE) (f:Str):TS:=fun D σ H=>tv σ H fun y H1=>ta σ H1 fun x H2=>∃ a C dx fs,x=.ref a∧H2 a=some (.ins C dx fs)∧Cls K C∧NoAttr K C f∧fs.length<1000 ∧
 D.nx σ (upd H2 a (.ins C dx (putF f y fs)))
section
variable {X:Cx}{o e value:Expr}{f:Str}{pos pos' tpos:Pos}{ta tv:TE}
theorem bi2 (he:PE X e ta) (hb:attributeBase e f X.env (eval e X.env)=eval e X.env):PE X (.Attribute e f pos) (tFld X.K ta f):=by
 intro pins s σ H Q I h
 refine bb7 hb (thn (he pins s σ H _ I h) ?_)
 rintro u s1 ⟨x,H1,I1,rx,a,C,dx,fs,v,ex,ea,c,n,l,q⟩
 subst ex
 obtain rfl:u=Value.ref a:=rx
 exact av4 I1 ea c n l fun u' s2 I2 ru=>⟨v,H1,I2,ru,q⟩
theorem bi3 (ha:PE X o ta) (hv:PE X value tv) (hs:swapsWith value (some (.Attribute o f pos')) pos.line X.env=pure false):PS X (.Assign [.Attribute o f pos'] value pos) (sFld X.K ta tv f):=by
 intro pins s σ H D I h
 refine plainObj_wpAny_Assign_Attribute (thn (hv pins s σ H _ I h) ?_) hs
 rintro u s1 ⟨y,H1,I1,ry,q⟩
 refine thn (ha pins s1 σ H1 _ I1 q) ?_
 rintro ov s2 ⟨x,H2,I2,rx,a,C,dx,fs,ex,ea,c,n,l,q2⟩
 subst ex
 obtain rfl:ov=Value.ref a:=rx
 exact av5 I2 ea c n l ry fun s3 I3=>⟨σ,_,I3,q2⟩
end
section
variable {X:Cx}{pins:List (Addr×Obj)}{σ:St} {H:Hp}{s:Shared}{A:Around}{E:Value→Shared→Prop}{Q:Value→Shared→Prop}{c:Value}{b:Bool}
inductive TyOf (K:PySem.W.Frag) (H:Hp):V→Value→Prop where
 | non:TyOf K H .non (.type "NoneType")
 | bl (x:Bool):TyOf K H (.bl x) (.type "bool")
 | int (i:Int):TyOf K H (.int i) (.type "int")
 | str (x:Str):TyOf K H (.str x) (.type "str")
 | flt (x:UInt64):TyOf K H (.flt x) (.type "float")
 | lst {a:Addr}{xs:List V}(e:H a=some (.lst xs)):TyOf K H (.ref a) (.type "list")
 | frz {a:Addr}{o:Obj}{xs:List V}(e:H a=some (.frz o (.lst xs))):TyOf K H (.ref a) (.type "list")
 | tup {a:Addr}{xs:List V}(e:H a=some (.tup xs)):TyOf K H (.ref a) (.type "tuple")
 | dK {a:Addr}{kvs:List (Key×V)}(e:H a=some (.dK kvs)):TyOf K H (.ref a) (.type "dict")
 | dT {a:Addr}{kvs:List (List Key×V)}(e:H a=some (.dT kvs)):TyOf K H (.ref a) (.type "dict")
 | ins {a C dx:Addr}{fs:List (Str×V)}(e:H a=some (.ins C dx fs)) (cl:Cls K C) (ha:PySem.W.findIn K (.ref C) "__class__"=some (some (.builtin "object.__class__")))
  (hn:PySem.W.specialIn K (.builtin "object.__class__") "__get__"=some (some (.builtin "getset_descriptor.__get__"))) (htk:PySem.W.takesIn K (.builtin "object.__class__")=some true)
  (hm:PySem.W.mroIn K C (.type "object")=some true):TyOf K H (.ref a) (.ref C)
theorem am5 {x:V}{u t:Value}(I:Inv X pins σ H s) (rx:RelV x u) (ty:TyOf X.K H x t) (e:PySem.W.kitOne X.K t c=some b) (h:∀ tk,Q (.bool b) { s with toks:=tk }) :
 wpAny (model X.prog X.w) A (call (.builtin "isinstance") [u,c]) Q E s:=by
 cases ty with
 | non=>cases (show u=Value.none from rx); exact PySem.W.kia_one PySem.W.kitx_none I.kIn True.intro e (fun z=>nomatch z) h
 | bl y=>cases (show u=Value.bool y from rx); exact PySem.W.kia_one PySem.W.kitx_bool I.kIn True.intro e (fun z=>nomatch z) h
 | int i=>obtain ⟨t,q⟩:=(show ∃ t,u=Value.int i t from rx); cases q; exact PySem.W.kia_one PySem.W.kitx_int I.kIn True.intro e (fun z=>nomatch z) h
 | str y=>obtain ⟨t,q⟩:=(show ∃ t,u=Value.str y t from rx); cases q; exact PySem.W.kia_one PySem.W.kitx_str I.kIn True.intro e (fun z=>nomatch z) h
 | flt y=>obtain ⟨t,q⟩:=(show ∃ t,u=Value.float y t from rx); cases q; exact PySem.W.kia_one PySem.W.kitx_float I.kIn True.intro e (fun z=>nomatch z) h
 | @lst a xs ea =>
   cases (show u=Value.ref a from rx)
   obtain ⟨_,_,n,_,h1⟩:=(show ObjOk X.prog X.w H s.heap a (.lst xs) from I.hok a _ ea)
   exact PySem.W.kia_one PySem.W.kitx_list I.kIn ⟨_,h1,rfl⟩ e (fun z=>nomatch z) h
 | @frz a ob xs ea =>
   cases (show u=Value.ref a from rx)
   obtain ⟨_,_,_,n,_,h1⟩:=(show ObjOk X.prog X.w H s.heap a (.frz ob (.lst xs)) from I.hok a _ ea)
   exact PySem.W.kia_one PySem.W.kitx_list I.kIn ⟨_,h1,rfl⟩ e (fun z=>nomatch z) h
 | @tup a xs ea =>
   cases (show u=Value.ref a from rx)
   obtain ⟨_,_,_,p⟩:=(show ObjOk X.prog X.w H s.heap a (.tup xs) from I.hok a _ ea)
   obtain ⟨o,h1,h2,_⟩:=p
   exact PySem.W.kia_one PySem.W.kitx_tuple I.kIn ⟨o,h1,h2⟩ e (fun z=>nomatch z) h
 | @dK a kvs ea =>
   cases (show u=Value.ref a from rx)
   obtain ⟨_,_,vs,_,p⟩:=(show ObjOk X.prog X.w H s.heap a (.dK kvs) from I.hok a _ ea)
   obtain ⟨o,es,ep,h1,h2,_⟩:=p
   exact PySem.W.kia_one PySem.W.kitx_dict I.kIn ⟨o,h1,h2.1⟩ e (fun z=>nomatch z) h
 | @dT a kvs ea =>
   cases (show u=Value.ref a from rx)
   obtain ⟨_,_,xs,_,o,es,ep,h1,h2,_⟩:=(show ObjOk X.prog X.w H s.heap a (.dT kvs) from I.hok a _ ea)
   exact PySem.W.kia_one PySem.W.kitx_dict I.kIn ⟨o,h1,h2.1⟩ e (fun z=>nomatch z) h
 | @ins a C dx fs ea cl ha hn htk hm =>
   cases (show u=Value.ref a from rx)
   obtain ⟨mA,O,_⟩:=ak0 I.hok ea
   obtain ⟨od,J,_⟩:=O.look
   exact PySem.W.kia_one (PySem.W.kitx_own (cl.get _) cl.hd ha hn htk hm) I.kIn J e (fun z=>nomatch z) h
end
structure Room (k:Nat) (A:Around):Prop where
 hd:A.handled=none
 dp:A.depth+3*k+5<recursionLimit
 un:A.units+16*k+200<cLine
theorem Room.mono {j k:Nat}{A:Around}(r:Room k A) (h:j≤k):Room j A:=⟨r.hd,by have:=r.dp; omega,by have:=r.un; omega⟩
theorem Room.deeper {k:Nat}{A:Around}(r:Room (k+1) A) (env:Env):Room k (A.deeper env) :=
 ⟨r.hd,by have:=r.dp; show A.depth+1+3*k+5<_; omega,by have:=r.un; show A.units+3+16*k+200<_; omega⟩
theorem av6 {A:Around}{C:Addr}{us:List Value}{kw:List (Str×Value)}:(A.under (.builtin "type.__call__" ⟨.ref C::us,kw⟩)).depth=A.depth+1:=by
 first | rfl | simp [Around.under,Code.weight,Code.isCreation,Code.isGuard,Code.isCaller,Code.frames,Code.isFrame,guardIds]
theorem av7 {A:Around}{C:Addr}{us:List Value}{kw:List (Str×Value)}:(A.under (.builtin "type.__call__" ⟨.ref C::us,kw⟩)).units=A.units+1:=by
 first | rfl | simp [Around.under,Code.cUnits,Code.frames,Code.isFrame]
theorem Room.make {k:Nat}{A:Around}(r:Room (k+1) A) (C:Addr) (us:List Value) (kw:List (Str×Value)):Room k (A.under (.builtin "type.__call__" ⟨.ref C::us,kw⟩)) :=
 ⟨r.hd,by have:=r.dp; rw [av6]; omega,by have:=r.un; rw [av7]; omega⟩
theorem Room.depth {k:Nat}{A:Around}(r:Room k A):A.depth<recursionLimit:=by have:=r.dp; omega
theorem Room.units {k:Nat}{A:Around}(r:Room k A):A.units+64<cLine:=by have:=r.un; omega
def tNil:TA:=fun _ H Q=>Q [] H
def tCons (ta:TE) (tr:TA):TA:=fun σ H Q=>ta σ H fun x H1=>tr σ H1 fun xs H2=>Q (x::xs) H2
section
variable {X:Cx}{e:Expr}{es:List Expr}{te:TE}{t:TA}{pos:Pos}
theorem a02:PA X [] tNil:=fun _ _ _ _ H Q I h=>Calls.spliced_nil ⟨[],H,I,.nil,h⟩
theorem a00 (ha:PE X e te) (hr:PA X es t) (hs:starEach (e::es) X.env=(false,eval e X.env)::starEach es X.env:=by rfl):PA X (e::es) (tCons te t):=by
 intro pos pins s σ H Q I h
 rw [hs]
 show wpAny _ _ (spliced ((false,eval e X.env)::backTo pos (starEach es X.env))) _ _ s
 refine Calls.spliced_cons (thn (ha pins s σ H _ I h) ?_)
 rintro u s1 ⟨x,H1,I1,r1,q1⟩
 exact thn (hr pos pins s1 σ H1 _ I1 q1) (by rintro us s2 ⟨xs,H2,I2,r2,q2⟩; exact ⟨x::xs,H2,I2,.cons r1 r2,q2⟩)
end
abbrev Sp:=List V→Hp→VK→XK→Prop
abbrev CXT:=List Env→Hp→Shared→XK→Value→Shared→Prop
structure Env0 (P:Program) (w:World) (K:PySem.W.Frag) (mg:Str→Option Value) (base:Heap) (A:Around) (outer:List Env) (s:Shared) (H:Hp):Prop where
 frames:A.frames=some outer
 mod:Mod K mg base
 bs:∀ b o,base.get? b=some o→s.heap.get? b=some o∧H b=none
 bsz:base.objs.size≤s.heap.objs.size
 funs:s.heap.FunFrames base outer
 frf:∀ b∈frs outer,H b=none
 hok:HOk P w H s.heap
 bare:AllBare s.gens
def CE (outer:List Env) (P:Program) (w:World) (H:Hp) (s:Shared) (Q:VK) (u:Value) (s':Shared):Prop :=
 ∃ v H',s'.os=s.os∧AllBare s'.gens∧Un (frs outer) [] H H' s.heap s'.heap∧HOk P w H' s'.heap∧RelV v u∧Q v H'
def CR (CX:CXT) (outer:List Env) (P:Program) (w:World) (H:Hp) (s:Shared) (Q:VK) (E:XK) (r:Result) (s':Shared):Prop :=
 match r with
 | .ok (.ret u)=>CE outer P w H s Q u s'
 | .ok _=>False
 | .error e=>CX outer H s E e s'
structure FnOk (P:Program) (w:World) (K:PySem.W.Frag) (mg:Str→Option Value) (base:Heap) (CX:CXT) (k:Nat) (f:Addr) (fd:FuncData) (ps:List Str) (sp:Sp):Prop where
 len:∀ vs H Q E,sp vs H Q E→vs.length=ps.length
 run:∀ (A:Around) (outer:List Env) (s:Shared) (H:Hp) (args:Args) (us:List Value) (vs:List V) (Q:VK) (E:XK),Room k A→Env0 P w K mg base A outer s H→BindsTo s fd args (ps.zip us)→Vals vs us→sp vs H Q E →
  codeAny (model P w) A (.call (.ref f) args) (CR CX outer P w H s Q E) s
theorem Env0.make {P:Program}{w:World}{K:PySem.W.Frag}{mg:Str→Option Value}{base:Heap}{A:Around}{outer:List Env}{s:Shared}{H:Hp}(e:Env0 P w K mg base A outer s H) (C:Addr) (us:List Value) (kw:List (Str×Value)) :
 Env0 P w K mg base (A.under (.builtin "type.__call__" ⟨.ref C::us,kw⟩)) outer s H:=⟨by first | exact e.frames | (simpa [Around.under,Code.envs,Code.isFrame,pushEnvs] using e.frames),e.mod,e.bs,e.bsz,e.funs,e.frf,e.hok,e.bare⟩
section
variable {X:Cx}{pins:List (Addr×Obj)}{σ:St} {H:Hp}{s s':Shared}
theorem Inv.env0 (I:Inv X pins σ H s):Env0 X.prog X.w X.K X.mg X.base X.A X.stack s H :=
 ⟨I.ok.frames,I.ok.mod,I.bs,Nat.le_trans I.ok.bsz I.sz,I.stack,I.stkFree,I.hok,I.bare⟩
theorem Inv.after {Q:VK}{u:Value}(I:Inv X pins σ H s) (h:CE X.stack X.prog X.w H s Q u s'):EP X pins σ Q u s':=by
 obtain ⟨v,H',os,bare,un,hok,r,q⟩:=h
 obtain ⟨hh,g,d,t,os'⟩:=s'
 obtain rfl:os'=s.os:=os
 exact ⟨v,H',I.call (h':=hh) (g':=g) (d':=d) (t':=t) (ch:=[]) un hok bare (fun b z=>absurd z (by simp)),r,q⟩
end
def bi4 (sp:Sp) (dvs:List V) (E:XK) (t:TA):TE:=fun σ H Q=>t σ H fun vs H1=>sp (vs++dvs) H1 Q E
def bb8 (C:Addr) (m:Str) (sp:Sp) (dvs:List V) (E:XK) (ta:TE) (t:TA):TE:=fun σ H Q=>ta σ H fun x H1=>∃ a dx fs,x=.ref a∧H1 a=some (.ins C dx fs)∧fs.lookup m=none ∧
 t σ H1 fun vs H2=>sp (x::(vs++dvs)) H2 Q E
def bi5 (C:Addr) (sp:Sp) (dvs:List V) (E:XK) (t:TA):TE:=fun σ H Q=>t σ H fun vs H1=>∀ x dx,H1 x=none→H1 dx=none→dx≠x →
 sp (.ref x::(vs++dvs)) (upd (upd H1 dx (.own x)) x (.ins C dx [])) (fun v H2=>v=.non∧Q (.ref x) H2) E
def Binds (K:PySem.W.Frag) (fd:FuncData) (ps:List Str) (ds:List Value):Prop :=
 ∀ (s:Shared) (us:List Value),K.In s.heap→(us++ds).length=ps.length→BindsTo s fd ⟨us,[]⟩ (ps.zip (us++ds))
theorem Binds.all {K:PySem.W.Frag}{fd:FuncData}{ps:List Str}(h:∀ us:List Value,us.length=ps.length→bindArgs fd ⟨us,[]⟩=pure (ps.zip us)):Binds K fd ps []:=fun s us _ hl=>by
 rw [List.append_nil] at hl ⊢
 exact .of_eq (h us hl)
def ae6 (CX:CXT) (X:Cx) (E:XK):Prop:=∀ (pins:List (Addr×Obj)) (σ:St) (H:Hp) (s:Shared) (e:Value) (s':Shared),Inv X pins σ H s→CX X.stack H s E e s'→X.xe e s'
section
variable {X:Cx}{CX:CXT}{k:Nat}{f C:Addr}{fd:FuncData}{ps:List Str}{sp:Sp}{dvs:List V}{ds:List Value}{E:XK}{x m:Str}{p pos apos:Pos}{e o:Expr}{es:List Expr}{ta:TE}{t:TA}
theorem ax8 {pins:List (Addr×Obj)}{σ:St} {H:Hp}{s:Shared}{Q:VK}{us:List Value}{vs:List V}(F:FnOk X.prog X.w X.K X.mg X.base CX k f fd ps sp) (hr:Room k X.A) (hb:Binds X.K fd ps ds) (hd:Vals dvs ds) (hx:ae6 CX X E)
 (I:Inv X pins σ H s) (r:Vals vs us) (h:sp (vs++dvs) H Q E):wpAny (model X.prog X.w) X.A (call (.ref f) us) (EP X pins σ Q) X.xe s:=by
 have r2:Vals (vs++dvs) (us++ds):=r.append hd
 have hl:(us++ds).length=ps.length:=by rw [← r2.length]; exact F.len _ _ _ _ h
 refine wpAny_call (codeAny_mono (F.run X.A X.stack s H ⟨us,[]⟩ (us++ds) (vs++dvs) Q E hr I.env0 (hb s us I.kIn hl) r2 h) fun r s' hq=>?_)
 cases r with
 | error e=>exact hx pins σ H s e s' I hq
 | ok fl =>
   cases fl with
   | ret u=>exact I.after hq
   | next=>exact False.elim hq
   | brk=>exact False.elim hq
   | cont=>exact False.elim hq
theorem a08 (F:FnOk X.prog X.w X.K X.mg X.base CX k f fd ps sp) (hr:Room k X.A) (hg:Gl X x) (hm:X.mg x=some (.ref f)) (hk:PySem.W.keepIn X.K (.ref f)=true) (hb:Binds X.K fd ps ds) (hd:Vals dvs ds) (hx:ae6 CX X E)
 (ha:PA X (e::es) t) (hdb:(x == ("__debug__":Str))=false:=by decide) (he:starEach (e::es) X.env=(false,eval e X.env)::starEach es X.env:=by rfl) (hpl:(backTo pos (starEach es X.env)).any (·.1)=false:=by rfl) :
 PE X (.Call (.Name x p) (e::es) [] pos) (bi4 sp dvs E t):=by
 intro pins s σ H Q I h
 refine wpAny_Call_Name_kw (aq3 I hg hm ?_ hdb)
 refine PySem.W.callWith_K (h₀:=X.base) I.ok.mod.kin hk (thn (ha pos pins s σ H _ I h) ?_) he hpl
 rintro us s1 ⟨vs,H1,I1,r,q⟩
 refine ⟨I1.kIn,?_⟩
 exact ax8 F hr hb hd hx I1 r q
theorem a93 {pl:Sem Bool}(he:PE X o ta) (c:Cls X.K C) (hm:Meth X.K C m f) (F:FnOk X.prog X.w X.K X.mg X.base CX k f fd ps sp) (hr:Room k X.A) (hb:Binds X.K fd ps ds) (hd:Vals dvs ds) (hx:ae6 CX X E) (ha:PA X (e::es) t)
 (hst:starEach (e::es) X.env=(false,eval e X.env)::starEach es X.env:=by rfl) (hpl:(backTo pos (starEach es X.env)).any (·.1)=false:=by rfl)
 (ht:eval (.Call (.Attribute o m apos) (e::es) [] pos) X.env=(do
  let ov←eval o X.env
  standAt apos.atName
  let (f,first)←holding [ov] (getMethod ov m pl)
  callWith pos f first (backTo pos (starEach (e::es) X.env)) (backToKw pos (keywordEach [] X.env))):=by rfl) :
 PE X (.Call (.Attribute o m apos) (e::es) [] pos) (bb8 C m sp dvs E ta t):=by
 intro pins s σ H Q I h
 refine PySem.W.methodCall_KW (pl:=pl) (thn (he pins s σ H _ I h) ?_) ht
 rintro u s1 ⟨x,H1,I1,rx,a,dx,fs,ex,ea,l,q⟩
 subst ex
 obtain rfl:u=Value.ref a:=rx
 refine ai4 I1 ea c hm l ?_
 refine PySem.W.callWith_K (first:=[.ref a]) (h₀:=X.base) I.ok.mod.kin hm.kp (thn (ha pos pins s1 σ H1 _ I1 q) ?_) hst hpl
 rintro us s2 ⟨vs,H2,I2,r,q2⟩
 refine ⟨I2.kIn,?_⟩
 exact ax8 (us:=.ref a::us) (vs:=.ref a::vs) F hr hb hd hx I2 (.cons rfl r) q2
theorem at4 {pl:Sem Bool}(he:PE X o ta) (c:Cls X.K C) (hm:Meth X.K C m f) (F:FnOk X.prog X.w X.K X.mg X.base CX k f fd ps sp) (hr:Room k X.A) (hb:Binds X.K fd ps ds) (hd:Vals dvs ds) (hx:ae6 CX X E)
 (ht:eval (.Call (.Attribute o m apos) [] [] pos) X.env=(do
  let ov←eval o X.env
  standAt apos.atName
  let (f,first)←holding [ov] (getMethod ov m pl)
  callWith pos f first (backTo pos (starEach [] X.env)) (backToKw pos (keywordEach [] X.env))):=by rfl) :
 PE X (.Call (.Attribute o m apos) [] [] pos) (bb8 C m sp dvs E ta tNil):=by
 intro pins s σ H Q I h
 refine PySem.W.methodCall_KW (pl:=pl) (thn (he pins s σ H _ I h) ?_) ht
 rintro u s1 ⟨x,H1,I1,rx,a,dx,fs,ex,ea,l,q⟩
 subst ex
 obtain rfl:u=Value.ref a:=rx
 refine ai4 I1 ea c hm l ?_
 exact PySem.W.callWith_K0 (first:=[.ref a]) I1.kIn hm.kp (ax8 (us:=[.ref a]) (vs:=[.ref a]) F hr hb hd hx I1 (.cons rfl .nil) q)
structure Mk (K:PySem.W.Frag) (C f:Addr):Prop where
 makes:PySem.W.makesIn K C=true
 init:PySem.W.findIn K (.ref C) "__init__"=some (some (.ref f))
 fn:PySem.W.isFn K (.ref f)=true
 kp:PySem.W.keepIn K (.ref C)=true
theorem b45 {pins:List (Addr×Obj)}{σ:St} {H:Hp}{s:Shared}{Q:VK}{us:List Value}{vs:List V}(M:Mk X.K C f) (F:FnOk X.prog X.w X.K X.mg X.base CX k f fd ps sp) (hr:Room (k+1) X.A) (hb:Binds X.K fd ps ds) (hd:Vals dvs ds)
 (hx:ae6 CX X E) (I:Inv X pins σ H s) (r:Vals vs us)
 (h:∀ x dx,H x=none→H dx=none→dx≠x→sp (.ref x::(vs++dvs)) (upd (upd H dx (.own x)) x (.ins C dx [])) (fun v H2=>v=.non∧Q (.ref x) H2) E) :
 wpAny (model X.prog X.w) X.A (call (.ref C) us) (EP X pins σ Q) X.xe s:=by
 have hq:=h (s.heap.objs.size+1) s.heap.objs.size (I.hok.fresh (Nat.le_succ _)) (I.hok.fresh (Nat.le_refl _)) (Nat.ne_of_lt (Nat.lt_succ_self _))
 have I2:=Inv.made (C:=C) I
 have r2:Vals (V.ref (s.heap.objs.size+1)::(vs++dvs)) (Value.ref (s.heap.objs.size+1)::(us++ds)):=.cons rfl (r.append hd)
 have hl:(Value.ref (s.heap.objs.size+1)::us++ds).length=ps.length:=by
  have e:=r2.length
  rw [F.len _ _ _ _ hq] at e
  exact e.symm
 refine wpAny_call (b44 (f:=f) I.kIn M.makes M.init (beq_iff_eq.mp M.fn) (codeAny_mono (F.run _ X.stack _ _ ⟨Value.ref (s.heap.objs.size+1)::us,[]⟩ (Value.ref (s.heap.objs.size+1)::(us++ds)) _ _ E (hr.make C us [])
  (I2.env0.make C us []) (hb _ (Value.ref (s.heap.objs.size+1)::us) I2.kIn hl) r2 hq) fun r s' hq'=>?_))
 cases r with
 | error e=>exact hx pins σ _ _ e s' I2 hq'
 | ok fl =>
   cases fl with
   | ret u =>
     obtain ⟨v,H',I3,rv,ev,q3⟩:=I2.after hq'
     subst ev
     exact ⟨rv,⟨V.ref (s.heap.objs.size+1),H',I3,rfl,q3⟩⟩
   | next=>exact False.elim hq'
   | brk=>exact False.elim hq'
   | cont=>exact False.elim hq'
theorem bb9 (M:Mk X.K C f) (F:FnOk X.prog X.w X.K X.mg X.base CX k f fd ps sp) (hr:Room (k+1) X.A) (hg:Gl X x) (hm:X.mg x=some (.ref C)) (hb:Binds X.K fd ps ds) (hd:Vals dvs ds) (hx:ae6 CX X E)
 (ha:PA X (e::es) t) (hdb:(x == ("__debug__":Str))=false:=by decide) (he:starEach (e::es) X.env=(false,eval e X.env)::starEach es X.env:=by rfl) (hpl:(backTo pos (starEach es X.env)).any (·.1)=false:=by rfl) :
 PE X (.Call (.Name x p) (e::es) [] pos) (bi5 C sp dvs E t):=by
 intro pins s σ H Q I h
 refine wpAny_Call_Name_kw (aq3 I hg hm ?_ hdb)
 refine PySem.W.callWith_K (h₀:=X.base) I.ok.mod.kin M.kp (thn (ha pos pins s σ H _ I h) ?_) he hpl
 rintro us s1 ⟨vs,H1,I1,r,q⟩
 refine ⟨I1.kIn,?_⟩
 exact b45 M F hr hb hd hx I1 r q
end
section
variable {X:Cx}{CX:CXT}{k:Nat}{f C:Addr}{fd:FuncData}{ps ks:List Str}{sp:Sp}{E:XK}{x m:Str}{p pos apos kpos:Pos}{e o:Expr}{es:List Expr}{kws:List Keyword}{te ta:TE}{t tk:TA}{nm:Option Str}
variable {g:List Value→List Value→List Value}{gV:List V→List V→List V}
end
structure FnScope (N P:List Str) (sc:Scope):Prop where
 kind:sc.kind=.function
 co:sc.isCoroutine=false
 gen:sc.isGenerator=false
 nd:N.Nodup
 pre:N.take P.length=P
 par:∀ x∈P,sc.names.lookup x=some .local∨sc.names.lookup x=some .cell
 nofree:∀ y∈sc.names,y.2≠.free
theorem am6 {kindOf:Str→Option NameKind}{x:Str}:∀ {binds:List (Str×Value)}{m:Str→Option Value},(∀ v,(x,v)∉binds)→bindL kindOf binds m x=m x
 | [],_,_=>rfl
 | (n,v)::r,m,h=>by
   unfold bindL
   rw [am6 fun w hw=>h w (List.mem_cons_of_mem _ hw)]
   split
   · have:x≠n:=by rintro rfl; exact h v List.mem_cons_self
     simp [this]
   · rfl
theorem am7 {kindOf:Str→Option NameKind}{x:Str}:∀ {binds:List (Str×Value)}{m:Str→Option Value},(∀ v,(x,v)∉binds)→bindC kindOf binds m x=m x
 | [],_,_=>rfl
 | (n,v)::r,m,h=>by
   unfold bindC
   rw [am7 fun w hw=>h w (List.mem_cons_of_mem _ hw)]
   split
   · rfl
   · have:x≠n:=by rintro rfl; exact h v List.mem_cons_self
     simp [this]
theorem am8 {kindOf:Str→Option NameKind}{x:Str}{v:Value}:∀ {P:List Str}{vs:List Value}{i:Nat}{m:Str→Option Value},P.Nodup→P[i]?=some x→vs[i]?=some v→kindOf x=some .local →
 bindL kindOf (P.zip vs) m x=some v
 | [],_,_,_,_,h,_,_=>by simp at h
 | _::_,[],_,_,_,_,h,_=>by simp at h
 | p::P,w::vs,0,m,nd,h1,h2,hk=>by
   simp at h1 h2; subst h1; subst h2
   show bindL kindOf ((p,w)::P.zip vs) m p=_
   unfold bindL
   rw [am6 fun v hv=>(List.nodup_cons.mp nd).1 (List.of_mem_zip hv).1,if_pos hk]
   simp
 | p::P,w::vs,i+1,m,nd,h1,h2,hk=>by
   show bindL kindOf ((p,w)::P.zip vs) m x=_
   unfold bindL
   exact am8 (i:=i) (List.nodup_cons.mp nd).2 (by simpa using h1) (by simpa using h2) hk
theorem am9 {kindOf:Str→Option NameKind}{x:Str}{v:Value}:∀ {P:List Str}{vs:List Value}{i:Nat}{m:Str→Option Value},P.Nodup→P[i]?=some x→vs[i]?=some v→kindOf x≠some .local →
 bindC kindOf (P.zip vs) m x=some v
 | [],_,_,_,_,h,_,_=>by simp at h
 | _::_,[],_,_,_,_,h,_=>by simp at h
 | p::P,w::vs,0,m,nd,h1,h2,hk=>by
   simp at h1 h2; subst h1; subst h2
   show bindC kindOf ((p,w)::P.zip vs) m p=_
   unfold bindC
   rw [am7 fun v hv=>(List.nodup_cons.mp nd).1 (List.of_mem_zip hv).1,if_neg hk]
   simp
 | p::P,w::vs,i+1,m,nd,h1,h2,hk=>by
   show bindC kindOf ((p,w)::P.zip vs) m x=_
   unfold bindC
   exact am9 (i:=i) (List.nodup_cons.mp nd).2 (by simpa using h1) (by simpa using h2) hk
def start (N:List Str) (vs:List V):St:=vs.map some++List.replicate (N.length - vs.length) none
def cxOf (CX:CXT) (P:Program) (w:World) (K:PySem.W.Frag) (mg:Str→Option Value) (base:Heap) (N:List Str) (qual:Str) (scope:Scope) (f:Addr) (cd:Value) (A:Around) (outer:List Env) (s:Shared) (H:Hp) (E:XK):Cx where
 prog:=P
 w:=w
 K:=K
 mg:=mg
 base:=base
 A:=A.deeper (envOfC qual scope s.heap.objs.size f cd)
 N:=N
 s₀:=s
 H₀:=H
 env:=envOfC qual scope s.heap.objs.size f cd
 outer:=outer
 stack:=envOfC qual scope s.heap.objs.size f cd::outer
 ex:=[]
 calm:=true
 fn:=fun _=>true
 pn:=[]
 xe:=fun e s'=>wpAny (model P w) (A.deeper (envOfC qual scope s.heap.objs.size f cd)) (leaving (envOfC qual scope s.heap.objs.size f cd) e) (fun _ s''=>CX outer H s E e s'') (fun e' s''=>CX outer H s E e' s'') s'
theorem at5 {sc:Scope}{n:Nat}{x:Str}(h:sc.names.lookup x=some .cell):∃ c,(cellsFrom n sc.names []).lookup x=some c:=by
 have q:=PySem.W.cellsFrom_some sc.names n [] (.inl h)
 exact Option.isSome_iff_exists.mp q
theorem ax9 {CX:CXT}{P:Program}{w:World}{K:PySem.W.Frag}{mg:Str→Option Value}{base:Heap}{N ps:List Str}{qual:Str}{scope:Scope}{f:Addr}{cd:Value}{A:Around}{outer:List Env}{s s1:Shared}{H:Hp}{E:XK}{us:List Value}{vs:List V}
 (S:FnScope N ps scope) (hd:A.handled=none) (e0:Env0 P w K mg base A outer s H) (hl:vs.length=ps.length) (r:Vals vs us)
 (x:InCallC s s.heap.objs.size (bindL (envOfC qual scope s.heap.objs.size f cd).kindOf (ps.zip us) fun _=>none) (cellsFrom (s.heap.objs.size+1) scope.names []) (bindC (envOfC qual scope s.heap.objs.size f cd).kindOf (ps.zip us) fun _=>none) s1) :
 Inv (cxOf CX P w K mg base N qual scope f cd A outer s H E) [] (start N vs) H s1:=by
 have hpl:ps.length≤N.length:=by have:=congrArg List.length S.pre; rw [List.length_take] at this; omega
 obtain ⟨h1,tk,rfl,hk⟩:=x.done
 have noA:∀ b:Addr,b∉(cxOf CX P w K mg base N qual scope f cd A outer s H E).ex:=fun b z=>absurd (show b∈([]:List Addr) from z) (by simp)
 refine ⟨⟨e0.mod,S.kind,rfl,rfl,Nat.le_refl _,fun y z c h1 h2=>?_,fun y hy=>?_,fun y c _ h=>?_,fun _=>hd,Around.frames_deeper e0.frames,.inr ⟨rfl,rfl⟩,fun b z=>absurd z (noA b),e0.bs,e0.bsz,fun b _ _=>noA b,fun b z=>absurd z (noA b),e0.funs,e0.frf⟩,
  rfl,e0.bare,Un.kept hk,⟨_,x.toInCall.ns,fun i y v h1 h2 h3=>?_⟩,fun y c h=>⟨_,x.cell y c h⟩,e0.hok.fresh (Nat.le_refl _),fun y c h=>?_,fun p hp=>absurd (show p∈([]:List (Addr×Obj)) from hp) (by simp),e0.hok.kept hk,?_⟩
 · exact name_of_addr x.apart (PySem.mem_of_lookup h1) (PySem.mem_of_lookup h2)
 · have hy:scope.names.lookup y=some .cell∨scope.names.lookup y=some .free:=hy
   rcases hy with hy | hy
   · exact at5 hy
   · exact absurd rfl (S.nofree _ (PySem.mem_of_lookup hy))
 · exact Nat.le_of_lt (x.above y c (PySem.mem_of_lookup h))
 · have hi:i<vs.length:=by
    unfold start at h2
    by_cases hi:i<vs.length
    · exact hi
    · rw [List.getElem?_append_right (by simpa using hi)] at h2
      rw [List.getElem?_replicate] at h2
      split at h2 <;> cases h2
   have ha:vs[i]?=some v:=by
    unfold start at h2
    rw [List.getElem?_append_left (by simpa using hi),List.getElem?_map] at h2
    cases e:vs[i]? with
    | none=>rw [e] at h2; cases h2
    | some a=>rw [e] at h2; cases h2; rfl
   obtain ⟨u,hu,rv⟩:=r.get ha
   have hp:ps[i]?=some y:=by
    rw [← S.pre,List.getElem?_take_of_lt (by omega)]; exact h1
   have ndP:ps.Nodup:=by rw [← S.pre]; exact S.nd.sublist (List.take_sublist _ _)
   refine ⟨u,rv,?_⟩
   rcases S.par y (List.mem_of_getElem? hp) with k | k
   · exact .inl ⟨k,am8 ndP hp hu k⟩
   · obtain ⟨c,e⟩:=at5 (n:=s.heap.objs.size+1) k
     refine .inr ⟨.inl k,c,e,?_⟩
     have q:=x.cell y c e
     rw [am9 ndP hp hu (by show scope.names.lookup y≠_; rw [k]; decide)] at q
     exact q
 · exact e0.hok.fresh (Nat.le_of_lt (x.above y c (PySem.mem_of_lookup h)))
 · unfold start
   show _=N.length
   rw [List.length_append,List.length_map,List.length_replicate]
   omega
theorem bq6 {CX:CXT}{P:Program}{w:World}{K:PySem.W.Frag}{mg:Str→Option Value}{base:Heap}{k:Nat}{f:Addr}{name qual:Str}{params:Arguments}{body:List Stmt}{scope:Scope}{dV kV doc pm cdv ct oc:Value}{an od:Option Addr}
 {osl:Array (Option Value)}{N ps:List Str}{sp:Sp}(lk:K.lookup f=some ⟨oc,od,.func (PySem.W.fnOf name qual params body scope dV kV doc pm an cdv ct),osl⟩) (hcd:PySem.W.codeIn K cdv qual=true) (S:FnScope N ps scope)
 (len:∀ vs H Q E,sp vs H Q E→vs.length=ps.length)
 (hbody:∀ (A:Around) (outer:List Env) (s:Shared) (H:Hp) (vs:List V) (Q:VK) (E:XK),Room k (A.deeper (envOfC qual scope s.heap.objs.size f cdv))→sp vs H Q E →
  ∃ t,PSs (cxOf CX P w K mg base N qual scope f cdv A outer s H E) body t∧t { nx:=fun _ H'=>Q .non H',rt:=Q } (start N vs) H) :
 FnOk P w K mg base CX (k+1) f (PySem.W.fnOf name qual params body scope dV kV doc pm an cdv ct) ps sp:=by
 refine ⟨len,fun A outer s H args us vs Q E hr e0 hb r hsp=>?_⟩
 have hl:=len _ _ _ _ hsp
 have KX:K.In s.heap:=e0.mod.kin.keeps fun b o e=>(e0.bs b o e).1
 have lim:s.heap.NoLimit:=e0.mod.nolimit.keeps fun b o e=>(e0.bs b o e).1
 have hkind:∀ y∈ps.zip us,scope.names.lookup y.1=some .local∨(scope.names.lookup y.1=some .cell∧((cellsFrom (s.heap.objs.size+1) scope.names []).lookup y.1).isSome=true):=fun ⟨n,v⟩ hy=>by
  rcases S.par n (List.of_mem_zip hy).1 with q | q
  · exact .inl q
  · exact .inr ⟨q,PySem.W.cellsFrom_some _ _ _ (.inl q)⟩
 refine codeAny_call_function hr.depth (KX _ _ lk) rfl S.co S.gen rfl (PySem.W.codeRec_of KX hcd) (hb _ _ _ _ ?_)
 refine wpAny_newFunctionEnv_cells S.kind hkind fun env he s1 x=>?_
 subst he
 refine ⟨lim.keeps x.toInCall.keep,codeAny_func ?_⟩
 obtain ⟨t,ht,hq⟩:=hbody A outer s H vs Q E (hr.deeper _) hsp
 have I:Inv (cxOf CX P w K mg base N qual scope f cdv A outer s H E) [] (start N vs) H s1:=ax9 S hr.hd e0 hl r x
 refine wpAny_mono (ht [] s1 (start N vs) H _ I hq) (fun fl s' hs=>?_) fun e s' hs=>hs
 have fin:∀ {σ':St} {H':Hp}{v:V}{u:Value},Inv (cxOf CX P w K mg base N qual scope f cdv A outer s H E) [] σ' H' s'→RelV v u→Q v H'→CE outer P w H s Q u s' :=
  fun {σ' H' v u} J rv q=>⟨v,H',J.os,J.bare,J.base,J.hok,rv,q⟩
 cases fl with
 | ret u =>
   obtain ⟨v,σ',H',J,rv,q⟩:=hs
   exact fin J rv q
 | next =>
   obtain ⟨σ',H',J,q⟩:=hs
   exact fin (v:=V.non) (u:=Value.none) J rfl q
 | brk =>
   obtain ⟨_,_,_,q⟩:=hs
   exact False.elim q
 | cont =>
   obtain ⟨_,_,_,q⟩:=hs
   exact False.elim q
section
variable {X:Cx}{x:Str}{p pos:Pos}{e:Expr}{es:List Expr}{t:TA}{id T:String}{r:List V→Hp→VK→Prop}
def tCB (r:List V→Hp→VK→Prop) (t:TA):TE:=fun σ H Q=>t σ H fun vs H1=>r vs H1 Q
theorem a46 (hc:CallR X (.builtin id) r) (hg:Gl X x) (hm:X.mg x=none) (hv:bootBuiltins x=some (.builtin id)) (ha:PA X (e::es) t) (hn:x≠"__name__":=by decide) (hdb:(x == ("__debug__":Str))=false:=by decide)
 (he:starEach (e::es) X.env=(false,eval e X.env)::starEach es X.env:=by rfl) (hpl:(backTo pos (starEach es X.env)).any (·.1)=false:=by rfl):PE X (.Call (.Name x p) (e::es) [] pos) (tCB r t):=by
 intro pins s σ H Q I h
 refine wpAny_Call_Name_kw (ah9 I hg hm hv ?_ hn hdb)
 exact PyProof.Rows.callWith_builtin1 (thn (ha pos pins s σ H _ I h) (by rintro us s1 ⟨vs,H1,I1,r1,q1⟩; exact hc pins s1 σ H1 vs us Q I1 r1 q1)) he hpl
theorem a34 (hc:CallR X (.type T) r) (hg:Gl X x) (hm:X.mg x=none) (hv:bootBuiltins x=some (.type T)) (ha:PA X (e::es) t) (hn:x≠"__name__":=by decide) (hdb:(x == ("__debug__":Str))=false:=by decide)
 (he:starEach (e::es) X.env=(false,eval e X.env)::starEach es X.env:=by rfl) (hpl:(backTo pos (starEach es X.env)).any (·.1)=false:=by rfl):PE X (.Call (.Name x p) (e::es) [] pos) (tCB r t):=by
 intro pins s σ H Q I h
 refine wpAny_Call_Name_kw (ah9 I hg hm hv ?_ hn hdb)
 exact PyProof.Rows.callWith_type1 (thn (ha pos pins s σ H _ I h) (by rintro us s1 ⟨vs,H1,I1,r1,q1⟩; exact hc pins s1 σ H1 vs us Q I1 r1 q1)) he hpl
end
end L2
namespace HT
open PySem PyProof.Rows
section
open PySem.SeqAt
open PySem.AutoSeq1 (wpAny_loadPart')
open PySem.MeetsSeq PySem.MeetsSeq2 PySem.MeetsSeq3
end
section
variable {prog:Program}{w:World}{A:Around}{E:Value→Shared→Prop}{s:Shared}
def sIx (n d:Nat):Option Int→Nat
 | none=>d
 | some v=>if v<0 then (v+(n:Int)).toNat else min v.toNat n
theorem sIx_none (n d:Nat):sIx n d none=d:=rfl
theorem sIx_nat (n d k:Nat):sIx n d (some (k:Int))=min k n:=by
 show (if (k:Int)<0 then ((k:Int)+(n:Int)).toNat else min (k:Int).toNat n)=min k n
 rw [if_neg (by omega),Int.toNat_natCast]
end
end HT
namespace L2
open PySem PySem.Spec PyProof.Rows
abbrev TO:=St→Hp→(Option Int→Hp→Prop)→Prop
def PO (X:Cx) (e:Option Expr) (t:TO):Prop :=
 ∀ (pins:List (Addr×Obj)) (s:Shared) (σ:St) (H:Hp) (Q:Option Int→Hp→Prop),Inv X pins σ H s→t σ H Q →
  wpAny (model X.prog X.w) X.A (evalPart e X.env) (fun u s'=>∃ o H',Inv X pins σ H' s'∧IsPart u o∧Q o H') X.xe s
def ay0:TO:=fun _ H Q=>Q none H
def bi6 (t:TE):TO:=fun σ H Q=>t σ H fun x H1=>∃ i,x=.int i∧Q (some i) H1
section
variable {X:Cx}{e:Expr}{te:TE}{lo hi:Option Expr}{tl th:TO}{pos p2:Pos}
theorem bc0:PO X none ay0:=by
 intro pins s σ H Q I h
 rw [evalPart_none]
 exact wpAny_pure ⟨none,H,I,.none,h⟩
theorem aq7 (h:PE X e te):PO X (some e) (bi6 te):=by
 intro pins s σ H Q I hw
 rw [evalPart_some]
 refine thn (h pins s σ H _ I hw) ?_
 rintro u s1 ⟨x,H1,I1,r1,q1⟩
 obtain ⟨i,rfl,q⟩:=q1
 obtain ⟨t,rfl⟩:=r1
 exact ⟨some i,H1,I1,.int i t,q⟩
def SlR (X:Cx) (r:V→Option Int→Option Int→Hp→VK→Prop):Prop :=
 ∀ (pins:List (Addr×Obj)) (s:Shared) (σ:St) (H:Hp) (x:V) (v vl vu:Value) (lo hi:Option Int) (sl:Addr) (Q:VK),Inv X pins σ H s→RelV x v→s.heap.IsSliceOf sl vl vu .none→IsPart vl lo→IsPart vu hi→r x lo hi H Q →
  ∃ T id,typeLookup (.type T) "__getitem__"=pure (some (.builtin id))∧s.TypeIs v T∧wpAny (model X.prog X.w) X.A (getItem v (.ref sl)) (EP X pins σ Q) X.xe s
def tSl (r:V→Option Int→Option Int→Hp→VK→Prop) (te:TE) (tl th:TO):TE:=fun σ H Q=>te σ H fun x H1=>tl σ H1 fun l H2=>th σ H2 fun u H3=>r x l u H3 Q
theorem at6 {r:V→Option Int→Option Int→Hp→VK→Prop}(hr:SlR X r) (he:PE X e te) (hl:PO X lo tl) (hu:PO X hi th):PE X (.Subscript e (.Slice lo hi none p2) pos) (tSl r te tl th):=by
 intro pins s σ H Q I h
 refine Subscript_ (thn (he pins s σ H _ I h) ?_)
 rintro v s1 ⟨x,H1,I1,r1,q1⟩
 refine wpAny_Slice (thn (hl pins s1 σ H1 _ I1 q1) ?_)
 rintro vl s2 ⟨l,H2,I2,pl,q2⟩
 refine thn (hu pins s2 σ H2 _ I2 q2) ?_
 rintro vu s3 ⟨u,H3,I3,pu,q3⟩
 rw [evalPart_none]
 refine wpAny_pure ?_
 have I4:Inv X pins σ H3 { s3 with heap:=s3.heap.push { cls:=.type "slice",data:=.fields #[vl,vu,.none] } }:=I3.kept (t':=s3.toks) fun b ob q=>Heap.get?_push_of_some _ q
 obtain ⟨T,id,hT,ht,hg⟩:=hr pins { s3 with heap:=s3.heap.push { cls:=.type "slice",data:=.fields #[vl,vu,.none] } } σ H3 x v vl vu l u s3.heap.objs.size Q I4 r1 (Heap.IsSliceOf.new ..) pl pu q3
 show wpAny (model X.prog X.w) X.A (subscriptTail e (.Slice lo hi none p2) v (.ref s3.heap.objs.size)) (EP X pins σ Q) X.xe { s3 with heap:=s3.heap.push { cls:=.type "slice",data:=.fields #[vl,vu,.none] } }
 exact tail_any (ops:=[.ref s3.heap.objs.size,v]) ht hT hg (by with_unfolding_all rfl)
def cutV (xs:List V) (lo hi:Option Int):List V:=(xs.drop (HT.sIx xs.length 0 lo)).take (HT.sIx xs.length xs.length hi - HT.sIx xs.length 0 lo)
theorem ae7 (xs:List V) (lo hi:Option Int):(cutV xs lo hi).length≤xs.length:=by
 unfold cutV
 rw [List.length_take,List.length_drop]
 omega
end
def ixN (n:Nat) (i:Int):Option Nat:=if 0≤i then (if i<n then some i.toNat else none) else if -(n:Int)≤i then some (i+n).toNat else none
def atI {α:Type}(xs:List α) (i:Int):Option α:=(ixN xs.length i).bind fun j=>xs[j]?
theorem ay1 {n:Nat}{i:Int}{j:Nat}(h:ixN n i=some j):seqIndex? i n=some j∧j<n∧-(n:Int)≤i∧i<n:=by
 unfold ixN at h
 by_cases h0:0≤i
 · rw [if_pos h0] at h
   by_cases h1:i<n
   · rw [if_pos h1] at h
     have e:i.toNat=j:=Option.some.inj h
     exact ⟨by rw [seqIndex_of h0 h1,e],by omega,by omega,h1⟩
   · rw [if_neg h1] at h; cases h
 · rw [if_neg h0] at h
   by_cases h1:-(n:Int)≤i
   · rw [if_pos h1] at h
     have e:(i+n).toNat=j:=Option.some.inj h
     exact ⟨by rw [seqIndex_neg (by omega) h1,e],by omega,h1,by omega⟩
   · rw [if_neg h1] at h; cases h
theorem ay2 {α:Type}{xs:List α}{i:Int}{v:α}(h:atI xs i=some v):∃ j,seqIndex? i xs.length=some j∧xs[j]?=some v∧j<xs.length∧-(xs.length:Int)≤i∧i<xs.length:=by
 unfold atI at h
 cases e:ixN xs.length i with
 | none=>rw [e] at h; cases h
 | some j =>
   rw [e] at h
   obtain ⟨h1,h2,h3,h4⟩:=ay1 e
   exact ⟨j,h1,h,h2,h3,h4⟩
theorem a03 {α:Type}{xs:List α}{j:Nat}{v:α}(h:xs[j]?=some v):atI xs (j:Int)=some v:=by
 have hj:j<xs.length:=(List.getElem?_eq_some_iff.mp h).1
 have e:ixN xs.length (j:Int)=some j:=by
  unfold ixN
  rw [if_pos (by omega),if_pos (by omega)]; simp
 unfold atI; rw [e]; exact h
theorem ak1 {α:Type}(xs:List α) (v:α):atI (xs++[v]) (-1)=some v:=by
 have hl:(xs++[v]).length=xs.length+1:=by simp
 have e:ixN (xs++[v]).length (-1)=some xs.length:=by
  unfold ixN
  rw [hl,if_neg (by decide),if_pos (by omega)]
  congr 1
  omega
 unfold atI
 rw [e]
 show (xs++[v])[xs.length]?=some v
 simp
def bc1 (b:Expr):Prop:=∀ o i,subscripted b false o i=operate [o,i] (getItem o i)
def IxR (X:Cx) (r:R2):Prop :=
 ∀ (value slice:Expr) (pins:List (Addr×Obj)) (s:Shared) (σ:St) (H:Hp) (x y:V) (v u:Value) (Q:VK),Inv X pins σ H s→RelV x v→RelV y u→r x y H Q →
  subscripted slice false v u=operate [v,u] (getItem v u)→wpAny (model X.prog X.w) X.A (subscriptTail value slice v u) (EP X pins σ Q) X.xe s
def MtR (X:Cx) (id:String) (r:V→List V→Hp→VK→Prop):Prop :=
 ∀ (pins:List (Addr×Obj)) (s:Shared) (σ:St) (H:Hp) (x:V) (xs:List V) (v:Value) (us:List Value) (Q:VK),Inv X pins σ H s→RelV x v→Vals xs us→r x xs H Q →
  wpAny (model X.prog X.w) X.A (call (.builtin id) (v::us)) (EP X pins σ Q) X.xe s
section
variable {X:Cx}{a b:Expr}{ta tb:TE}{pos:Pos}
theorem a14 {r:R2}(hr:IxR X r) (ha:PE X a ta) (hb:PE X b tb) (hs:bc1 b):PE X (.Subscript a b pos) (tOp r ta tb):=by
 intro pins s σ H Q I h
 exact Subscript_ (binT ha hb I h fun v u s2 x y H2 I2 rx ry q=>hr a b pins s2 σ H2 x y v u Q I2 rx ry q (hs _ _))
def rIxL (K:PySem.W.Frag):R2:=fun x y H Q=>∃ p xs i v,x=.ref p∧y=.int i∧SqL K H p xs∧atI xs i=some v∧Q v H
def rIxT (K:PySem.W.Frag):R2:=fun x y H Q=>∃ p xs i v,x=.ref p∧y=.int i∧SqT K H p xs∧atI xs i=some v∧Q v H
theorem bc2:IxR X (rIxL X.K):=by
 intro value slice pins s σ H x y v u Q I rx ry h hs
 obtain ⟨p,xs,i,z,rfl,rfl,hq,he,q⟩:=h
 cases rx
 obtain ⟨t,rfl⟩:=ry
 obtain ⟨its,r,pl,hz⟩:=I.list hq
 obtain ⟨j,h1,h2,h3,h4,h5⟩:=ay2 he
 obtain ⟨w,ew,rw'⟩:=r.get h2
 have hl:=r.length
 have hn:=am3
 have fin:EP X pins σ Q w s:=⟨z,H,I,rw',q⟩
 by_cases h0:0≤i
 · have hj:i.toNat=j:=by
    rw [seqIndex_of h0 h5] at h1
    exact Option.some.inj h1
   exact item_listR pl.isList h0 (by omega) (by rw [hj]; simpa using ew) fin hs
 · have hj:(i+(its.toArray.size:Int)).toNat=j:=by
    rw [seqIndex_neg (by omega) h4] at h1
    rw [List.size_toArray,←hl]
    exact Option.some.inj h1
   exact subscriptTail_builtinR (x:=w) pl.isList.typeIs slot_list_getitem.lookup
    (wpAny_getItem_list_neg (Q:=fun r s'=>r=w∧EP X pins σ Q r s') pl.isList (by omega) (by rw [List.size_toArray] <;> omega) (by omega) (by rw [hj]; simpa using ew) ⟨rfl,fin⟩) hs
theorem bi7:IxR X (rIxT X.K):=by
 intro value slice pins s σ H x y v u Q I rx ry h hs
 obtain ⟨p,xs,i,z,rfl,rfl,hq,he,q⟩:=h
 cases rx
 obtain ⟨t,rfl⟩:=ry
 obtain ⟨its,r,pl,hz⟩:=I.tuple hq
 obtain ⟨j,h1,h2,h3,h4,h5⟩:=ay2 he
 obtain ⟨w,ew,rw'⟩:=r.get h2
 have hl:=r.length
 have hn:=am3
 have fin:EP X pins σ Q w s:=⟨z,H,I,rw',q⟩
 exact subscriptTail_builtinR (x:=w) pl.typeIs slot_tuple_getitem.lookup
  (getItem_tuple (j:=j) (Q:=fun r s'=>r=w∧EP X pins σ Q r s') pl (by omega) (by omega) (by rw [List.size_toArray,←hl]; exact h1) (by simpa using ew) ⟨rfl,fin⟩) hs
theorem av8 (its:List Value) (n j:Nat) (u:Value):Obj.mapSeq (·.setIfInBounds j u) { cls:=.type "list",data:=.seq its.toArray n }={ cls:=.type "list",data:=.seq (its.set j u).toArray n }:=by
 simp [Obj.mapSeq]
theorem Inv.lst {pins:List (Addr×Obj)}{σ:St} {H:Hp}{s:Shared}{p:Addr}{xs:List V}(I:Inv X pins σ H s) (h:H p=some (.lst xs)) :
 ∃ (its:List Value) (n:Nat),Vals xs its∧s.heap.get? p=some { cls:=.type "list",data:=.seq its.toArray n }∧xs.length≤sizeLine:=by
 obtain ⟨z,its,n,r,e⟩:=I.hok p _ h
 exact ⟨its,n,r,e,z⟩
theorem Inv.lstUpd {pins:List (Addr×Obj)}{σ:St} {H:Hp}{s:Shared}{p:Addr}{xs ys:List V}{its its':List Value}{n n':Nat}{f:Obj→Obj}(I:Inv X pins σ H s) (h:H p=some (.lst xs))
 (ho:s.heap.get? p=some { cls:=.type "list",data:=.seq its.toArray n }) (hf:f { cls:=.type "list",data:=.seq its.toArray n }={ cls:=.type "list",data:=.seq its'.toArray n' }) (r:Vals ys its') (hz:ys.length≤sizeLine) (t:Nat) :
 Inv X pins σ (upd H p (.lst ys)) { s with heap:=s.heap.update p f,toks:=t }:=by
 have e:(s.heap.update p f).get? p=some { cls:=.type "list",data:=.seq its'.toArray n' }:=by
  rw [Heap.get?_update_self f ho (by rw [hf] <;> rfl),hf]
 refine I.write (x:=p) (e:=p) (by rw [h]; trivial) (.inl rfl) (fun b u hb q=>(Heap.get?_update_other _ _ (Ne.symm hb)).trans q) ⟨_,e⟩ ?_
 exact ⟨hz,its',n',r,e⟩
def bq7:V→V→V→Hp→(Hp→Prop)→Prop:=fun o i v H Q=>∃ p xs k j,o=.ref p∧i=.int k∧H p=some (.lst xs)∧ixN xs.length k=some j∧Q (upd H p (.lst (xs.set j v)))
theorem ak2:PSet X bq7:=by
 intro pins s σ H o i v ov iv u Q I ro ri rv h
 obtain ⟨p,xs,k,j,rfl,rfl,hp,hj,q⟩:=h
 cases ro
 obtain ⟨t,rfl⟩:=ri
 obtain ⟨its,n,r,ho,hz⟩:=I.lst hp
 obtain ⟨h1,h2,h3,h4⟩:=ay1 hj
 have hl:=r.length
 have hn:=am3
 have I':Inv X pins σ (upd H p (.lst (xs.set j v))) { s with heap:=s.heap.update p (Obj.mapSeq (·.setIfInBounds j u)) } :=
  I.lstUpd hp ho (av8 its n j u) (r.set rv j) (by rw [List.length_set]; exact hz) s.toks
 by_cases h0:0≤k
 · have hk:k.toNat=j:=by
    rw [seqIndex_of h0 h4] at h1
    exact Option.some.inj h1
   exact PySem.W.ki_setAt ho h0 (by omega) (by rw [List.size_toArray,←hl]; exact h4) (by rw [hk]; exact ⟨_,I',q⟩)
 · have hk:(k+(its.toArray.size:Int)).toNat=j:=by
    rw [seqIndex_neg (by omega) h3] at h1
    rw [List.size_toArray,←hl]
    exact Option.some.inj h1
   exact PySem.W.ki_setBack ho (by omega) (by rw [List.size_toArray,←hl]; exact h3) (by omega) (by rw [hk]; exact ⟨_,I',q⟩)
theorem an0 (lo hi:Option Int) (n:Nat):(sliceBounds lo hi none n).1=((HT.sIx n 0 lo:Nat):Int)∧(sliceBounds lo hi none n).2.1=((HT.sIx n n hi:Nat):Int)∧(sliceBounds lo hi none n).2.2=1:=by
 refine ⟨?_,?_,rfl⟩
 · cases lo with
   | none=>simp [sliceBounds,HT.sIx]
   | some i =>
     simp only [sliceBounds,HT.sIx,Option.getD_none,show (1:Int) > 0 by decide,if_true]
     by_cases h:i<0
     · simp only [h,if_true] <;> omega
     · simp only [h,if_false] <;> omega
 · cases hi with
   | none=>simp [sliceBounds,HT.sIx]
   | some i =>
     simp only [sliceBounds,HT.sIx,Option.getD_none,show (1:Int) > 0 by decide,if_true]
     by_cases h:i<0
     · simp only [h,if_true] <;> omega
     · simp only [h,if_false] <;> omega
theorem ak3 (its:List Value) (lo hi:Option Int):slicePick its.toArray lo hi none=((its.drop (HT.sIx its.length 0 lo)).take (HT.sIx its.length its.length hi - HT.sIx its.length 0 lo)).toArray:=by
 obtain ⟨h1,h2,h3⟩:=an0 lo hi its.toArray.size
 unfold slicePick
 rw [h1,h2,h3]
 simp only [sliceRange_one,pick_run,List.size_toArray] <;> rfl
def rSlL (K:PySem.W.Frag):V→Option Int→Option Int→Hp→VK→Prop:=fun x lo hi H Q=>∃ a xs,x=.ref a∧SqL K H a xs∧∀ p,H p=none→Q (.ref p) (upd H p (.lst (cutV xs lo hi)))
theorem bc3:SlR X (rSlL X.K):=by
 intro pins s σ H x v vl vu lo hi sl Q I rx hs pl pu h
 obtain ⟨a,xs,rfl,hx,q⟩:=h
 cases rx
 obtain ⟨its,r,ht,hz⟩:=I.list hx
 have hlen:=r.length
 refine ⟨"list",_,slot_list_getitem.lookup,ht.isList.typeIs,?_⟩
 refine wpAny_getItem_list_slice ht.isList hs pl pu .none (by simp) ?_ (by rw [List.size_toArray] <;> omega)
 rw [ak3,←hlen]
 refine ⟨.ref s.heap.objs.size,_,I.laid (t':=s.toks) (o:=.lst (cutV xs lo hi)) (fun b ob q=>Heap.get?_push_of_some _ q) (Nat.le_refl _) ?_,rfl,q _ (I.hok.fresh (Nat.le_refl _))⟩
 exact ⟨Nat.le_trans (ae7 xs lo hi) hz,_,0,(r.drop (HT.sIx xs.length 0 lo)).take (HT.sIx xs.length xs.length hi - HT.sIx xs.length 0 lo),Heap.get?_push_size _ rfl⟩
def ad0:V→Bool
 | .non=>true
 | .bl _=>true
 | .int _=>true
 | .str _=>true
 | _=>false
def eqV:V→V→Bool
 | .non,.non=>true
 | .bl a,.bl b=>a == b
 | .bl a,.int b=>(if a then 1 else 0) == b
 | .int a,.bl b=>a == (if b then 1 else 0)
 | .int a,.int b=>a == b
 | .str a,.str b=>a == b
 | _,_=>false
theorem bi8 {A:Around}{s:Shared}{y x:V}{u v:Value}(ry:RelV y u) (rx:RelV x v) (fy:ad0 y=true) (fx:ad0 x=true):SeqAt.EqAt A s u v (eqV y x):=by
 cases y with
 | non =>
   cases ry
   cases x with
   | non=>cases rx; exact SeqAt.EqAt.same _
   | bl b=>cases rx; exact SeqAt.EqAt.none_bool b
   | int b=>obtain ⟨t,rfl⟩:=rx; exact SeqAt.EqAt.none_int b t
   | str b=>obtain ⟨t,rfl⟩:=rx; exact SeqAt.EqAt.none_str b t
   | _=>exact absurd (show false=true from fx) Bool.false_ne_true
 | bl a =>
   cases ry
   cases x with
   | non=>cases rx; exact SeqAt.EqAt.bool_none a
   | bl b=>cases rx; exact SeqAt.EqAt.bool_bool a b
   | int b=>obtain ⟨t,rfl⟩:=rx; exact SeqAt.EqAt.bool_int a b t
   | str b=>obtain ⟨t,rfl⟩:=rx; exact SeqAt.EqAt.bool_str a b t
   | _=>exact absurd (show false=true from fx) Bool.false_ne_true
 | int a =>
   obtain ⟨t',rfl⟩:=ry
   cases x with
   | non=>cases rx; exact SeqAt.EqAt.int_none a t'
   | bl b=>cases rx; exact SeqAt.EqAt.int_bool a t' b
   | int b=>obtain ⟨t,rfl⟩:=rx; exact SeqAt.EqAt.int_int a t' b t
   | str b=>obtain ⟨t,rfl⟩:=rx; exact SeqAt.EqAt.int_str a t' b t
   | _=>exact absurd (show false=true from fx) Bool.false_ne_true
 | str a =>
   obtain ⟨t',rfl⟩:=ry
   cases x with
   | non=>cases rx; exact SeqAt.EqAt.str_none a t'
   | bl b=>cases rx; exact SeqAt.EqAt.str_bool a t' b
   | int b=>obtain ⟨t,rfl⟩:=rx; exact SeqAt.EqAt.str_int a t' b t
   | str b=>obtain ⟨t,rfl⟩:=rx; exact SeqAt.EqAt.str_str a t' b t
   | _=>exact absurd (show false=true from fx) Bool.false_ne_true
 | _=>exact absurd (show false=true from fy) Bool.false_ne_true
def eqU (x:V) (u:Value):Bool:=match u with
 | .none=>eqV .non x
 | .bool b=>eqV (.bl b) x
 | .int i _=>eqV (.int i) x
 | .str z _=>eqV (.str z) x
 | _=>false
theorem b84 {x y:V}{u:Value}(r:RelV y u) (f:ad0 y=true):eqU x u=eqV y x:=by
 cases y with
 | non=>cases r; rfl
 | bl b=>cases r; rfl
 | int i=>obtain ⟨t,rfl⟩:=r; rfl
 | str z=>obtain ⟨t,rfl⟩:=r; rfl
 | _=>exact absurd (show false=true from f) Bool.false_ne_true
theorem aq8 {x:V}:∀ {xs:List V}{us:List Value},Vals xs us→xs.all ad0=true→us.any (eqU x)=xs.any fun y=>eqV y x
 | _,_,.nil,_=>rfl
 | y::xs,u::us,.cons r t,f=>by
   rw [List.all_cons,Bool.and_eq_true] at f
   rw [List.any_cons,List.any_cons,b84 r f.1,aq8 t f.2]
theorem ae2 {A:Around}{s:Shared}{x:V}{v:Value}(rx:RelV x v) (fx:ad0 x=true):∀ {xs:List V}{us:List Value},Vals xs us→xs.all ad0=true→∀ u∈us,SeqAt.EqAt A s u v (eqU x u)
 | _,_,.nil,_=>fun u hu=>by cases hu
 | y::xs,u::us,.cons r t,f=>fun u' hu=>by
   rw [List.all_cons,Bool.and_eq_true] at f
   rcases List.mem_cons.mp hu with rfl | hu
   · rw [b84 r f.1]; exact bi8 r rx f.1 fx
   · exact ae2 rx fx t f.2 u' hu
def inV (x:V) (xs:List V):Bool:=xs.any fun y=>eqV y x
def rIn (K:PySem.W.Frag) (neg:Bool):R2:=fun x y H Q=>∃ p xs,y=.ref p∧(SqL K H p xs∨SqT K H p xs)∧ad0 x=true∧xs.all ad0=true∧Q (.bl (if neg then !inV x xs else inV x xs)) H
theorem an1:OpR X (compareOp .NotIn) (rIn X.K true):=by
 intro pins s σ H x y v u Q I rx ry h
 obtain ⟨p,xs,rfl,hq,fx,fs,q⟩:=h
 cases ry
 rcases hq with hq | hq
 · obtain ⟨its,r,pl,hz⟩:=I.list hq
   refine SeqAt.notIn_listAt (eqU x) pl.isList (fun w hw=>ae2 rx fx r fs w (by simpa using hw)) ⟨.bl _,H,I,rfl,?_⟩
   rw [show its.toArray.any (eqU x)=its.any (eqU x) by simp,aq8 r fs]
   exact q
 · obtain ⟨its,r,pl,hz⟩:=I.tuple hq
   refine SeqAt.notIn_tupleAt (eqU x) pl (fun w hw=>ae2 rx fx r fs w (by simpa using hw)) ⟨.bl _,H,I,rfl,?_⟩
   rw [show its.toArray.any (eqU x)=its.any (eqU x) by simp,aq8 r fs]
   exact q
theorem an2:CallR X (.type "list") (fun xs H Q=>∃ p ys,xs=[.ref p]∧(SqL X.K H p ys∨SqT X.K H p ys)∧∀ l,H l=none→Q (.ref l) (upd H l (.lst ys))):=by
 intro pins s σ H xs us Q I r h
 obtain ⟨p,ys,rfl,hq,q⟩:=h
 obtain ⟨u,rfl,rx⟩:=aj9 r
 cases rx
 have fin:∀ (its:List Value),Vals ys its→ys.length≤sizeLine→∀ (h':Heap) (c':Nat),(∀ b o',s.heap.get? b=some o'→h'.get? b=some o') →
  h'.get? s.heap.objs.size=some { cls:=.type "list",dict:=none,data:=.seq its.toArray c',slots:=#[] }→EP X pins σ Q (.ref s.heap.objs.size) { s with heap:=h' }:=fun its r' hz h' c' kp e =>
  ⟨.ref s.heap.objs.size,_,I.laid (t':=s.toks) kp (Nat.le_refl _) (show ObjOk X.prog X.w _ h' _ (.lst ys) from ⟨hz,its,c',r',e⟩),rfl,q _ (I.hok.fresh (Nat.le_refl _))⟩
 rcases hq with hq | hq
 · obtain ⟨its,r',pl,hz⟩:=I.list hq
   have hlen:=r'.length
   obtain ⟨o,ho,hc,n,hd⟩:=pl.isList
   exact call_list_seq p (.inl rfl) ho hc hd (fun h' c' kp e=>fin its r' hz h' c' kp e) (by simp only [List.size_toArray] <;> omega)
 · obtain ⟨its,r',pl,hz⟩:=I.tuple hq
   have hlen:=r'.length
   obtain ⟨o,ho,hc,n,hd⟩:=pl
   exact call_list_seq p (.inr rfl) ho hc hd (fun h' c' kp e=>fin its r' hz h' c' kp e) (by simp only [List.size_toArray] <;> omega)
theorem ak4:CallR X (.type "tuple") (fun xs H Q=>∃ p ys,xs=[.ref p]∧((SqL X.K H p ys∧∀ l,H l=none→Q (.ref l) (upd H l (.tup ys)))∨(SqT X.K H p ys∧Q (.ref p) H))):=by
 intro pins s σ H xs us Q I r h
 obtain ⟨p,ys,rfl,h⟩:=h
 obtain ⟨u,rfl,rx⟩:=aj9 r
 cases rx
 rcases h with ⟨hq,q⟩ | ⟨hq,q⟩
 · obtain ⟨its,r',pl,hz⟩:=I.list hq
   have hlen:=r'.length
   refine call_tuple_list pl.isList (fun h' kp=>?_) (by simp only [List.size_toArray] <;> omega)
   have I1:Inv X pins σ H { s with heap:=h' }:=I.kept (t':=s.toks) kp
   have I2:Inv X pins σ (upd H h'.objs.size (.tup ys)) { s with heap:=h'.push { cls:=.type "tuple",data:=.seq its.toArray } } :=
    I1.laid (t':=s.toks) (fun b o e=>Heap.get?_push_of_some _ e) (Nat.le_refl _) (show ObjOk X.prog X.w _ _ _ (.tup ys) from ⟨hz,its,r',IsTup.new _ _⟩)
   exact ⟨.ref h'.objs.size,_,I2,rfl,q _ (I1.hok.fresh (Nat.le_refl _))⟩
 · obtain ⟨its,r',pl,hz⟩:=I.tuple hq
   exact call_tuple_same pl ⟨.ref p,H,I,rfl,q⟩
def tyV (K:PySem.W.Frag) (T:String) (x:V) (H:Hp):Prop:=match x with
 | .str _=>T="str"
 | .int _=>T="int"
 | .ref p=>(T="list"∧∃ xs,SqL K H p xs)∨(T="tuple"∧∃ o,K.lookup p=some o∧o.cls=.type "tuple"∧o.dict=none) ∨
  (T="dict"∧((∃ kvs,H p=some (.dK kvs))∨∃ kvs,H p=some (.dT kvs)))∨(T="set"∧∃ S n,H p=some (.set S n))
 | _=>False
theorem b85 {pins:List (Addr×Obj)}{σ:St} {H:Hp}{s:Shared}{T:String}{x:V}{v:Value}(I:Inv X pins σ H s) (r:RelV x v) (ty:tyV X.K T x H) :
 s.TypeIs v T∧∀ a,v=.ref a→∃ ob,s.heap.get? a=some ob∧ob.dict=none:=by
 cases x with
 | str z =>
   obtain ⟨t,rfl⟩:=r
   cases (show T="str" from ty)
   exact ⟨typeIs_str s z t,fun _ e=>nomatch e⟩
 | int i =>
   obtain ⟨t,rfl⟩:=r
   cases (show T="int" from ty)
   exact ⟨typeIs_int s i t,fun _ e=>nomatch e⟩
 | ref p =>
   cases r
   rcases ty with ⟨rfl,xs,hq⟩ | ⟨rfl,o,hk,hc,hd⟩ | ⟨rfl,hk⟩ | ⟨rfl,S,n,hk⟩
   · obtain ⟨its,_,pl,_⟩:=I.list hq
     refine ⟨pl.isList.typeIs,fun a e=>?_⟩
     cases e
     obtain ⟨o,n,e,c,hd,_⟩:=pl
     exact ⟨o,e,hd⟩
   · refine ⟨⟨o,I.kIn p o hk,hc⟩,fun a e=>?_⟩
     cases e
     exact ⟨o,I.kIn _ o hk,hd⟩
   · have z:∃ o,s.heap.get? p=some o∧o.ExactDict:=by
      rcases hk with ⟨kvs,hk⟩ | ⟨kvs,hk⟩
      · obtain ⟨_,_,_,_,o,_,_,e,ex,_⟩:=I.hok p _ hk
        exact ⟨o,e,ex⟩
      · obtain ⟨_,_,_,_,o,_,_,e,ex,_⟩:=I.hok p _ hk
        exact ⟨o,e,ex⟩
     obtain ⟨o,e,ex⟩:=z
     refine ⟨⟨o,e,ex.1⟩,fun a e2=>?_⟩
     cases e2
     exact ⟨o,e,ex.2.1⟩
   · obtain ⟨o,_,_,_,e,ex,_⟩:=I.hok p _ hk
     refine ⟨⟨o,e,ex.1⟩,fun a e2=>?_⟩
     cases e2
     exact ⟨o,e,ex.2.1⟩
 | _=>exact False.elim ty
def tBM0 (K:PySem.W.Frag) (T:String) (r:V→List V→Hp→VK→Prop) (to:TE):TE:=fun σ H Q=>to σ H fun x H1=>tyV K T x H1∧r x [] H1 Q
def tBM (K:PySem.W.Frag) (T:String) (r:V→List V→Hp→VK→Prop) (to:TE) (t:TA):TE:=fun σ H Q=>to σ H fun x H1=>tyV K T x H1∧t σ H1 fun xs H2=>r x xs H2 Q
variable {o e:Expr}{es:List Expr}{to:TE}{t:TA}{name:Str}{apos cpos:Pos}{T id:String}{r:V→List V→Hp→VK→Prop}
theorem bi9 (pa:PlainAttrs T) (slot:Slot T name id) (hty:typeOf (.builtin id)=pure (.type "method_descriptor")) (hm:MtR X id r) (ho:PE X o to)
 (hbase:attributeBase o name X.env (eval o X.env)=eval o X.env:=by rfl) (hline:(apos.endLine == cpos.line)=true:=by rfl):PE X (.Call (.Attribute o name apos) [] [] cpos) (tBM0 X.K T r to):=by
 intro pins s σ H Q I h
 refine wpAny_Call_method0_late hbase hline (thn (ho pins s σ H _ I h) ?_)
 rintro v s1 ⟨x,H1,I1,r1,ty,q1⟩
 obtain ⟨h1,h2⟩:=b85 I1 r1 ty
 exact ⟨T,id,pa,slot,hty,h1,h2,Calls.callWith_builtin rfl (PySem.evalArgs_none (hm pins s1 σ H1 x [] v [] Q I1 r1 .nil q1))⟩
theorem bq8 (pa:PlainAttrs T) (slot:Slot T name id) (hty:typeOf (.builtin id)=pure (.type "method_descriptor")) (hm:MtR X id r) (ho:PE X o to) (ha:PA X (e::es) t)
 (hbase:attributeBase o name X.env (eval o X.env)=eval o X.env:=by rfl)
 (hfew:((backTo cpos (starEach (e::es) X.env)).all (fun x=>!x.1) && (backToKw cpos (keywordEach [] X.env)).all (fun x=>x.1.isSome)
  && decide ((e::es).length+([]:List Keyword).length+(if ([]:List Keyword).isEmpty then 0 else 1)<30))=true:=by rfl)
 (hline:(apos.endLine == cpos.line)=true:=by rfl) (hs:starEach (e::es) X.env=(false,eval e X.env)::starEach es X.env:=by rfl) (hplain:(backTo cpos (starEach es X.env)).any (·.1)=false:=by rfl) :
 PE X (.Call (.Attribute o name apos) (e::es) [] cpos) (tBM X.K T r to t):=by
 intro pins s σ H Q I h
 refine wpAny_Call_method_late hbase hfew hline rfl (thn (ho pins s σ H _ I h) ?_)
 rintro v s1 ⟨x,H1,I1,r1,ty,q1⟩
 obtain ⟨h1,h2⟩:=b85 I1 r1 ty
 refine ⟨T,id,pa,slot,hty,h1,h2,?_⟩
 have hA:=ha cpos pins s1 σ H1 _ I1 q1
 rw [hs] at hA ⊢
 refine Calls.callWith_builtin (by show (false || (backTo cpos (starEach es X.env)).any (·.1))=false; rw [hplain] <;> rfl) (Calls.evalArgs_plain ?_)
 exact thn hA (by rintro us s2 ⟨vs,H2,I2,r2,q2⟩; exact hm pins s2 σ H2 x vs v us Q I2 r1 r2 q2)
/- xs.append(e),list.index on a module's tuple .. are MtR facts of 06m -/
end
def MtM (X:Cx) (id:String) (r:V→List V→Hp→VK→Prop):Prop :=
 ∀ (pins:List (Addr×Obj)) (s:Shared) (σ:St) (H:Hp) (x:V) (xs:List V) (v:Value) (us:List Value) (Q:VK),Inv X pins σ H s→RelV x v→Vals xs us→r x xs H Q →
  wpAny (model X.prog X.w) X.A (call (.builtin id) (v::us)) (EP X pins σ Q) X.xe s
theorem Vals.one:∀ {x:V}{us:List Value},Vals [x] us→∃ u,us=[u]∧RelV x u
 | _,_,.cons r .nil=>⟨_,rfl,r⟩
theorem Vals.zero:∀ {us:List Value},Vals [] us→us=[]
 | _,.nil=>rfl
theorem Vals.dropLast {xs:List V}{us:List Value}(h:Vals xs us):Vals xs.dropLast us.dropLast:=by
 induction h with
 | nil=>exact .nil
 | cons r t ih =>
   cases t with
   | nil=>exact .nil
   | cons q t'=>exact .cons r ih
theorem Vals.rep {xs:List V}{us:List Value}(h:Vals xs us):∀ k:Nat,Vals (List.replicate k xs).flatten (List.replicate k us).flatten
 | 0=>.nil
 | k+1=>by
   rw [List.replicate_succ,List.replicate_succ,List.flatten_cons,List.flatten_cons]
   exact Vals.append h (Vals.rep h k)
theorem av9 {α:Type}(l:List α):l.eraseIdx (l.length - 1)=l.dropLast:=by
 induction l with
 | nil=>rfl
 | cons a r ih =>
   cases r with
   | nil=>rfl
   | cons b r =>
     have e:(a::b::r).length - 1=((b::r).length - 1)+1:=by
      have h1:(a::b::r).length=r.length+2:=rfl
      have h2:(b::r).length=r.length+1:=rfl
      omega
     rw [e,List.eraseIdx_cons_succ,ih]
     all_goals rfl
theorem an3 (its:List Value):∀ (k:Nat) (acc:List Value),
 List.foldl (fun x1 x2=>x1++x2) acc.toArray (List.replicate k its.toArray)=(acc++(List.replicate k its).flatten).toArray
 | 0,acc=>by simp
 | k+1,acc=>by
   have e:acc.toArray++its.toArray=(acc++its).toArray:=by simp
   have e2:(acc++its)++(List.replicate k its).flatten=acc++(List.replicate (k+1) its).flatten:=by
    rw [List.replicate_succ,List.flatten_cons,List.append_assoc]
   rw [← e2,←an3 its k (acc++its),←e,List.replicate_succ,List.foldl_cons]
section
variable {X:Cx}{pins:List (Addr×Obj)}{σ:St} {H:Hp}{s:Shared}{l b:Addr}{xs ys zs:List V}
theorem Inv.lset {its its':List Value}{n:Nat}{f:Array Value→Array Value}{t':Nat}(I:Inv X pins σ H s) (hH:H l=some (.lst xs))
 (e:s.heap.get? l=some { cls:=.type "list",data:=.seq its.toArray n }) (hf:f its.toArray=its'.toArray) (hv:Vals ys its') (hz:ys.length≤sizeLine) :
 Inv X pins σ (upd H l (.lst ys)) { s with heap:=s.heap.update l (Obj.mapSeq f),toks:=t' }:=by
 have q:=PySem.IsL.update e f
 rw [hf] at q
 refine I.write (x:=l) (e:=l) (by rw [hH]; exact trivial) (.inl rfl) (fun b' u hb hu=>(Heap.get?_update_other s.heap (Obj.mapSeq f) (Ne.symm hb)).trans hu) ⟨_,q⟩ ?_
 exact ⟨hz,its',_,hv,q⟩
theorem Inv.lnew {its:List Value}{t':Nat}(I:Inv X pins σ H s) (hv:Vals ys its) (hz:ys.length≤sizeLine) :
 Inv X pins σ (upd H s.heap.objs.size (.lst ys)) { s with heap:=s.heap.push { cls:=.type "list",data:=.seq its.toArray },toks:=t' } :=
 I.laid (fun _ _ q=>Heap.get?_push_of_some _ q) (Nat.le_refl _) ⟨hz,its,0,hv,Heap.get?_push_size _ rfl⟩
theorem Inv.fresh (I:Inv X pins σ H s):H s.heap.objs.size=none:=I.hok.fresh (Nat.le_refl _)
theorem Inv.lstM (I:Inv X pins σ H s) (hH:H l=some (.lst xs)):xs.length≤sizeLine∧∃ (its:List Value) (n:Nat),Vals xs its∧xs.length=its.length∧s.heap.get? l=some { cls:=.type "list",data:=.seq its.toArray n }:=by
 obtain ⟨z,its,n,r,e⟩:=I.hok l _ hH
 exact ⟨z,its,n,r,r.length,e⟩
theorem b46 {n:Nat}(h:n≤sizeLine):Builtin.List.listTooLong n=false:=by
 unfold Builtin.List.listTooLong
 exact decide_eq_false (by omega)
end
section
variable {X:Cx}
def ay3:V→List V→Hp→VK→Prop:=fun x vs H Q=>∃ l xs y,x=.ref l∧vs=[y]∧H l=some (.lst xs)∧xs.length<sizeLine∧Q .non (upd H l (.lst (xs++[y])))
theorem a50:MtM X "list.append" ay3:=by
 intro pins s σ H x vs v us Q I rx rv h
 obtain ⟨l,xs,y,rfl,rfl,hH,hz,q⟩:=h
 cases rx
 obtain ⟨u,rfl,ru⟩:=rv.one
 obtain ⟨z,its,n,r,hl,e⟩:=I.lstM hH
 refine call_meets F.slot_list_append ⟨_,e,rfl⟩ F.entry_list_append (F.args_list_append_2 _ _) (PySem.list_append l its.toArray n u (by rw [List.size_toArray]; omega)) ⟨e,?_⟩
 refine ⟨.non,_,I.lset (its':=its++[u]) hH e (by simp) (r.append (.cons ru .nil)) ?_,rfl,q⟩
 rw [List.length_append,List.length_singleton]
 omega
def rPop:V→List V→Hp→VK→Prop:=fun x vs H Q=>∃ l xs y,x=.ref l∧vs=[]∧H l=some (.lst xs)∧xs[xs.length - 1]?=some y∧Q y (upd H l (.lst xs.dropLast))
theorem ay4:MtM X "list.pop" rPop:=by
 intro pins s σ H x vs v us Q I rx rv h
 obtain ⟨l,xs,y,rfl,rfl,hH,hy,q⟩:=h
 cases rx
 have hus:=rv.zero
 subst hus
 obtain ⟨z,its,n,r,hl,e⟩:=I.lstM hH
 obtain ⟨u,hu,ru⟩:=r.get hy
 have hy':its.toArray[its.toArray.size - 1]?=some u:=by
  show its.toArray[its.length - 1]?=some u
  rw [← Array.getElem?_toList,←hl]
  exact hu
 refine call_meets F.slot_list_pop ⟨_,e,rfl⟩ F.entry_list_pop (F.args_list_pop_1 _) (MeetsSeq.list_pop_last l its.toArray n u hy' (by rw [List.size_toArray]; omega)) ⟨e,?_⟩
 refine ⟨y,_,I.lset (its':=its.dropLast) hH e ?_ r.dropLast ?_,ru,q⟩
 · show its.toArray.eraseIdxIfInBounds (its.toArray.size - 1)=its.dropLast.toArray
   rw [List.size_toArray,List.eraseIdxIfInBounds_toArray,av9]
 · rw [List.length_dropLast]
   omega
def b86:V→List V→Hp→VK→Prop:=fun x vs H Q=>∃ l xs,x=.ref l∧vs=[]∧H l=some (.lst xs)∧Q .non (upd H l (.lst []))
theorem at7:MtM X "list.clear" b86:=by
 intro pins s σ H x vs v us Q I rx rv h
 obtain ⟨l,xs,rfl,rfl,hH,q⟩:=h
 cases rx
 have hus:=rv.zero
 subst hus
 obtain ⟨z,its,n,r,hl,e⟩:=I.lstM hH
 refine call_meets F.slot_list_clear ⟨_,e,rfl⟩ F.entry_list_clear (F.args_list_clear_1 _) (AutoSeq1.list_clear_list_0 l its.toArray n (by rw [List.size_toArray]; omega)) ⟨e,?_⟩
 exact ⟨.non,_,I.lset (its':=[]) (ys:=[]) hH e rfl .nil (Nat.zero_le _),rfl,q⟩
def rCat:R2:=fun x y H Q=>∃ l b xs zs,x=.ref l∧y=.ref b∧H l=some (.lst xs)∧H b=some (.lst zs)∧xs.length+zs.length≤sizeLine∧∀ p,H p=none→Q (.ref p) (upd H p (.lst (xs++zs)))
theorem bj0:OpR X (binaryOp .Add) rCat:=by
 intro pins s σ H x y v u Q I rx ry h
 obtain ⟨l,b,xs,zs,rfl,rfl,hH,hB,hz,q⟩:=h
 cases rx
 cases ry
 obtain ⟨z,its,n,r,hl,e⟩:=I.lstM hH
 obtain ⟨z2,its2,n2,r2,hl2,e2⟩:=I.lstM hB
 refine PySem.P.add_list e e2 ?_ (by rw [List.size_toArray,List.size_toArray]; omega)
 have ea:its.toArray++its2.toArray=(its++its2).toArray:=by simp
 rw [ea]
 exact ⟨.ref _,_,I.lnew (t':=s.toks) (r.append r2) (by rw [List.length_append]; omega),rfl,q _ I.fresh⟩
def rRep:R2:=fun x y H Q=>∃ l k xs,x=.ref l∧y=.int k∧H l=some (.lst xs)∧-(2 ^ 63)≤k∧k<2 ^ 63∧xs.length*k.toNat≤sizeLine ∧
 ∀ p,H p=none→Q (.ref p) (upd H p (.lst (List.replicate k.toNat xs).flatten))
theorem bc4 {α:Type}(xs:List α) (k:Nat):(List.replicate k xs).flatten.length=k*xs.length:=by
 induction k with
 | zero=>simp
 | succ k ih=>rw [List.replicate_succ,List.flatten_cons,List.length_append,ih,Nat.succ_mul,Nat.add_comm]
theorem bj1:OpR X (binaryOp .Mult) rRep:=by
 intro pins s σ H x y v u Q I rx ry h
 obtain ⟨l,k,xs,rfl,rfl,hH,h1,h2,hz,q⟩:=h
 cases rx
 obtain ⟨t,rfl⟩:=ry
 obtain ⟨z,its,n,r,hl,e⟩:=I.lstM hH
 have hlen:its.toArray.size*k.toNat≤sizeLine:=by rw [List.size_toArray,←hl]; exact hz
 have hcap:¬ its.toArray.size*k.toNat > (2 ^ 63 - 1) / 8:=by
  have:(sizeLine:Nat)≤(2 ^ 63 - 1) / 8:=by decide
  omega
 have hfit:¬ (!Builtin.List.listFitsIndex k)=true:=by
  rw [fitsIndex_both h1 h2]
  exact Bool.false_ne_true
 have hlong:¬ Builtin.List.listTooLong (its.toArray.size*k.toNat)=true:=by
  rw [b46 hlen]
  exact Bool.false_ne_true
 have hnew:List.foldl (fun x1 x2=>x1++x2) #[] (List.replicate (if its.toArray.isEmpty=true then 0 else k.toNat) its.toArray)=(List.replicate k.toNat its).flatten.toArray:=by
  have f0:∀ m:Nat,List.foldl (fun x1 x2=>x1++x2) #[] (List.replicate m its.toArray)=(List.replicate m its).flatten.toArray:=fun m=>by
   have:=an3 its m []
   rw [List.nil_append] at this
   exact this
  rw [f0]
  cases its with
  | nil=>simp
  | cons a r'=>rw [if_neg (by simp)]
 refine wpAny_binaryOp_repeat_ref (T:="list") (U:="int") (by decide) ⟨_,e,rfl⟩ (fun s'=>typeIs_int s' k t) noFill_list_mul F.fills_int_mul F.slot_int_rmul repeat_list F.slot_int_index.lookup
  (call_meets F.slot_int_rmul (typeIs_int s k t) F.entry_int_rmul (F.args_int_rmul_2 _ _) (int___rmul___int_list k t l its.toArray n)
   ⟨e,rfl,⟨_,e,rfl⟩,call_meets F.slot_list_mul ⟨_,e,rfl⟩ F.entry_list_mul (F.args_list_mul_2 _ _) (AutoListH.list___mul___list_int_3 l its.toArray n k t hfit hcap hlong) ⟨e,?_⟩⟩)
 rw [hnew]
 exact ⟨.ref _,_,I.lnew (t':=s.toks) (r.rep k.toNat) (by rw [bc4,Nat.mul_comm]; exact hz),rfl,q _ I.fresh⟩
end
section
variable {prog:Program}{w:World}{A:Around}{E:Value→Shared→Prop}{s:Shared}
set_option maxRecDepth 100000 in
end
section
variable {X:Cx}
end
end L2
namespace Att
open PySem PySem.W PySem.Calls PyProof.Rows
theorem ae8 {P:Params}{h:Heap}:∀ (ns:List Int) (vs:List Value),WellAll P h vs (ns.map WData.int)→IntsAre vs ns:=by
 intro ns
 induction ns with
 | nil =>
   intro vs w
   rw [List.map_nil] at w
   cases w
   exact .nil
 | cons n ns ih =>
   intro vs w
   rw [List.map_cons] at w
   cases w with
   | cons a b =>
     cases a
     exact .cons _ _ (ih _ b)
theorem ay5 {l:OpenLaw}{n:Nat}(hn:l.most=some n) {P:Params}{h:Heap}{args:List WData}{vals:List Value}
 (hpre:l.row.toRowW.claim.pre args=true) (hwl:WellAll P h vals args) :
 ∃ a vs ns,vals=[Value.ref a]∧args=[WData.list (ns.map WData.int)]∧h.get? a=some { cls:=.type "list",data:=.seq vs.toArray }∧IntsAre vs ns∧ns.length≤n:=by
 have hsh:WShape.hasAll [] args [.list .int]=true:=(pre_splitW hpre).1
 have hc:l.pre.holds [] { args:=args }=true:=(pre_splitW hpre).2
 obtain ⟨d,r,rfl,h1,h2⟩:=hasAllW_cons hsh
 obtain rfl:=hasAllW_nil h2
 obtain ⟨xs,rfl,h3⟩:=hasW_list h1
 obtain ⟨ns,rfl⟩:=items_int h3
 have hlen:ns.length≤n:=by
  unfold OpenLaw.pre at hc
  have h4:(WTm.not (.lt (.lit (.int (n:Int))) (.len (.arg 0)))).holds [] { args:=[.list (ns.map .int)] }=true:=by
   have h4:=(holds_andW hc).1
   rw [hn] at h4
   exact h4
  have h5:=condW_of h4 (w_not (w_lt w_lit (w_len_list (w_arg rfl))))
  rw [List.length_map] at h5
  refine Nat.le_of_not_lt fun q=>?_
  have q':(n:Int)<((ns.length:Nat):Int):=by omega
  first
   | (rw [decide_eq_true q'] at h5; exact absurd h5 (by decide))
   | (simp at h5; omega)
 cases hwl with
 | cons w1 w2 =>
   cases w2
   cases w1 with
   | list ho hall=>exact ⟨_,_,ns,rfl,rfl,ho,ae8 ns _ hall,hlen⟩
theorem ay6 (l:OpenLaw) (args:List WData):l.row.toRowW.claim.post args (.bool true) args=true :=
 postW_of (r:=l.row.toRowW) (X:=(true == true))
  (show WShape.has [] (.bool true) .bool=true by first | rfl | decide | simp [WShape.has,WShape.arms,WShape.armsAll])
  (show (WTm.eq .res (.lit (.bool true))).value [] { args:=args,res:=some (.bool true),after:=args }=some (.bool (true == true)) from w_eq_bool (w_res rfl) w_lit) rfl
theorem attach_call {l:OpenLaw}{n:Nat}{q:Program}{loose:List Str}{XP:(Str→Option Value)→Heap→Prop}{YP:World→Heap→Prop}{d:DefRec}
 (hn:l.most=some n) (hdf:d.params.defaults=[])
 (call:∀ (w:World) (s₀ s₁:Shared) (mg mb:Str→Option Value) (fa:Addr) (o:Obj) (pm cd doc:Value) (a:Addr) (vs:List Value) (ns:List Int),
  Ground q loose [] XP w s₀ mg mb s₁.heap→YP w s₁.heap →
  s₁.heap.get? fa=some o→o.data=.func (docDef d.name d.params d.body d.scope pm cd doc)→s₁.heap.CodeRec cd d.name→mg d.name=some (.ref fa) →
  s₁.heap.get? a=some { cls:=.type "list",data:=.seq vs.toArray }→IntsAre vs ns→ns.length≤n→s₁.gens=#[] →
  codeAny (model l.prog w) callerA (.call (.ref fa) ⟨[.ref a],[]⟩) (fun r s'=>r=.ok (.ret (.bool true))∧OldK s₁.heap s'.heap∧s'.os=s₁.os∧AllBare s'.gens) s₁) :
 WalkO q loose XP YP l.row.toRowW d [] (fun f vs=>PySem.call f vs):=by
 intro w s₀ s₁ mg mb G Y fa o pm cd doc dV kV ho hd hcd hD hmg hg args vals as hpre hlay hrd hwl hlo
 obtain rfl:dV=.none:=Dflts.none hD hdf
 obtain rfl:kV=.none:=Dflts.noKw hD
 obtain ⟨a,vs,ns,rfl,rfl,hobj,hints,hlen⟩:=ay5 hn hpre hwl
 refine enter_call (codeAny_mono (call w s₀ s₁ mg mb fa o pm cd doc a vs ns G Y ho (fd_plain hd) hcd hmg hobj hints hlen hg) fun r s' hq=>?_)
 obtain ⟨rfl,h2,h3,h4⟩:=hq
 exact ⟨.inl ⟨.bool true,.bool true,[],rfl,fun _=>rfl,.bool true,ay6 l _,fun _=>⟨List.Pairwise.nil,fun _ hm=>(nomatch hm)⟩⟩,h2,h3,h4⟩
section
variable {prog:Program}{w:World}{A:Around}{E:Value→Shared→Prop}{s:Shared}{K:Frag}
end
end Att
namespace L2
open PySem PySem.Spec PyProof.Rows
theorem an4:∀ {vs:List Value}{ns:List Int},IntsAre vs ns→Vals (ns.map V.int) vs
 | _,_,.nil=>.nil
 | _,_,.cons n t h=>.cons ⟨t,rfl⟩ (an4 h)
def Only (H:Hp):Prop:=∀ b,H b=none∨∃ o xs,H b=some (.frz o (.lst xs))
theorem b47 {P:Program}{w:World}{K:PySem.W.Frag}{mg mb:Str→Option Value}{CX:CXT}{k:Nat}{fa a:Addr}{fd:FuncData}{x:Str}{sp:Sp}{s₁:Shared}{vs:List Value}{ns:List Int}
 (KX:K.In s₁.heap) (hns:s₁.heap.Ns mainGlobals mg) (hb:s₁.heap.Ns builtinsNs mb) (hbb:∀ x:Str,x≠"__name__"→mb x=bootBuiltins x) (hlim:s₁.heap.NoLimit) (hg:s₁.gens=#[])
 (ha:s₁.heap.get? a=some { cls:=.type "list",data:=.seq vs.toArray }) (hi:IntsAre vs ns) (hl:ns.length≤sizeLine) (hr:Room k callerA)
 (F:∀ base:Heap,K.In base→base.Ns mainGlobals mg→FnOk P w K mg base CX k fa fd [x] sp) (hbind:∀ (s:Shared) (u:Value),BindsTo s fd ⟨[u],[]⟩ [(x,u)])
 (hsp:∀ H:Hp,Only H→SqL K H a (ns.map V.int)→sp [.ref a] H (fun v _=>v=.bl true) fun _ _ _=>False)
 (hCX:∀ H e s',CX [] H s₁ (fun _ _ _=>False) e s'→False) :
 codeAny (model P w) callerA (.call (.ref fa) ⟨[.ref a],[]⟩) (fun r s'=>r=.ok (.ret (.bool true))∧OldK s₁.heap s'.heap∧s'.os=s₁.os∧AllBare s'.gens) s₁:=by
 have rv:=an4 hi
 have lenV:=hi.length
 have core:∀ H:Hp,Only H→SqL K H a (ns.map V.int)→HOk P w H s₁.heap→(∀ b,H b≠none→b=a)→(H a≠none→K.lookup a=none) →
  codeAny (model P w) callerA (.call (.ref fa) ⟨[.ref a],[]⟩) (fun r s'=>r=.ok (.ret (.bool true))∧OldK s₁.heap s'.heap∧s'.os=s₁.os∧AllBare s'.gens) s₁:=by
  intro H hO hS hok hA hK
  have base_of:∀ {b:Addr}{o:Obj},s₁.heap.get? b=some o→H b=none→(hidT s₁.heap H).get? b=some o:=fun e n=>b36 e n
  have noA:∀ {b:Addr}{o:Obj}{es:Array DictEntry}{ep:Nat},s₁.heap.get? b=some o→o.data=.dict es ep→H b=none:=fun {b o es ep} e d=>by
   cases q:H b with
   | none=>rfl
   | some u =>
     have e':b=a:=hA b (by rw [q]; simp)
     subst e'
     rw [ha] at e; cases e
     have d':Data.seq vs.toArray _=Data.dict es ep:=d
     cases d'
  have nsK:∀ {b:Addr}{m:Str→Option Value},s₁.heap.Ns b m→(hidT s₁.heap H).Ns b m:=fun {b m} ⟨o,es,ep,e,d,r⟩=>⟨o,es,ep,base_of e (noA e d),d,r⟩
  have hKb:K.In (hidT s₁.heap H):=fun b o e=>base_of (KX b o e) (by
   cases q:H b with
   | none=>rfl
   | some u =>
     have e':b=a:=hA b (by rw [q]; simp)
     subst e'
     rw [hK (by rw [q]; simp)] at e; cases e)
  have hM:Mod K mg (hidT s₁.heap H):=⟨hKb,nsK hns,⟨mb,nsK hb,hbb⟩,let ⟨mc,h1,h2⟩:=hlim; ⟨mc,nsK h1,h2⟩⟩
  have e0:Env0 P w K mg (hidT s₁.heap H) callerA [] s₁ H:=⟨rfl,hM,fun b o e=>ba7 e,Nat.le_of_eq (aw7 _ _),trivial,fun b hb=>absurd (show b∈([]:List Addr) from hb) (by simp),hok,.of_eq hg⟩
  refine codeAny_mono ((F _ hKb (nsK hns)).run callerA [] s₁ H ⟨[.ref a],[]⟩ [.ref a] [.ref a] _ _ hr e0 (hbind s₁ (.ref a)) (.cons rfl .nil) (hsp H hO hS)) fun r s' h=>?_
  cases r with
  | error e=>exact (hCX H e s' h).elim
  | ok fl =>
    cases fl with
    | next=>exact False.elim h
    | brk=>exact False.elim h
    | cont=>exact False.elim h
    | ret u =>
      obtain ⟨v,H',os,bare,un,hok',r',q⟩:=h
      have q':v=.bl true:=q
      subst q'
      obtain rfl:u=Value.bool true:=r'
      refine ⟨rfl,OldK.of_keep fun b o e=>?_,os,bare⟩
      cases q:H b with
      | none=>exact un.keep b o e q (by intro z; exact absurd (show b∈([]:List Addr) from z) (by simp)) (by simp)
      | some u =>
        rcases hO b with z | ⟨ob,xs,z⟩
        · rw [q] at z; cases z
        · have z2:=un.frzs b ob _ z
          obtain ⟨e1,_⟩:=hok b _ z
          obtain ⟨e2,_⟩:=hok' b _ z2
          rw [e] at e1; cases e1
          exact e2
 cases hk:K.lookup a with
 | some o =>
   have e:=KX a o hk
   rw [ha] at e
   cases e
   refine core (fun _=>none) (fun _=>.inl rfl) (.inr ⟨_,vs.toArray,_,hk,rfl,rfl,rfl,by rw [List.size_toArray,lenV]; exact hl,by simpa using rv⟩) (fun b u z=>by have z':(none:Option HO)=some u:=z; cases z') (fun b z=>absurd rfl z) fun z=>absurd rfl z
 | none =>
   refine core (fun b=>if b=a then some (.frz { cls:=.type "list",data:=.seq vs.toArray } (.lst (ns.map V.int))) else none) (fun b=>?_) (.inl (.inr ⟨{ cls:=.type "list",data:=.seq vs.toArray },if_pos rfl⟩)) (fun b u z=>?_) (fun b z=>?_) fun _=>hk
   · by_cases hb:b=a
     · exact .inr ⟨_,_,if_pos hb⟩
     · exact .inl (if_neg hb)
   · by_cases hb:b=a
     · have z':=(if_pos hb).symm.trans z
       cases z'
       subst hb
       exact ⟨ha,by rw [List.length_map]; exact hl,vs,_,rv,ha⟩
     · have z':=(if_neg hb).symm.trans z
       cases z'
   · by_cases hb:b=a
     · exact hb
     · exact absurd (if_neg hb) z
theorem walk_of {l:PySem.W.OpenLaw}{n k:Nat}{q:Program}{loose:List Str}{XP:(Str→Option Value)→Heap→Prop}{YP:World→Heap→Prop}{d:DefRec}{K:Params→PySem.W.Frag}{CX:World→CXT}{sp:World→Sp}{x:Str}
 (hn:l.most=some n) (hn2:n≤sizeLine) (hdf:d.params.defaults=[]) (hr:Room k callerA)
 (hY:∀ (w:World) (h:Heap),YP w h→(K w.params).In h)
 (F:∀ (w:World) (mg:Str→Option Value) (fa:Addr) (h:Heap),(K w.params).In h→h.Ns mainGlobals mg→mg d.name=some (.ref fa) →
  ∃ fd:FuncData,(∀ (s:Shared) (u:Value),BindsTo s fd ⟨[u],[]⟩ [(x,u)]) ∧
   ∀ base:Heap,(K w.params).In base→base.Ns mainGlobals mg→FnOk l.prog w (K w.params) mg base (CX w) k fa fd [x] (sp w))
 (hsp:∀ (w:World) (H:Hp) (a:Addr) (ns:List Int),ns.length≤n→Only H→SqL (K w.params) H a (ns.map V.int)→sp w [.ref a] H (fun v _=>v=.bl true) fun _ _ _=>False)
 (hCX:∀ (w:World) (H:Hp) (s:Shared) (e:Value) (s':Shared),CX w [] H s (fun _ _ _=>False) e s'→False) :
 PySem.W.WalkO q loose XP YP l.row.toRowW d [] (fun f vs=>PySem.call f vs):=by
 refine Att.attach_call hn hdf fun w s₀ s₁ mg mb fa o pm cd doc a vs ns G Y ho hd hcd hmg hobj hints hlen hg=>?_
 have KX:=hY w _ Y
 obtain ⟨fd,hb,hF⟩:=F w mg fa _ KX G.T.g hmg
 exact b47 KX G.T.g G.T.b G.T.builtins G.T.nolimit hg hobj hints (Nat.le_trans hlen hn2) hr hF hb (fun H hO hS=>hsp w H a ns hlen hO hS) fun H e s'=>hCX w H s₁ e s'
def ab5 (s:Stmt) (j:Nat):Stmt:=match s with
 | .ClassDef _ _ _ body _ _ _ _ _ _ _=>body.getD j (.Pass ⟨0,0,0,0⟩)
 | _=>.Pass ⟨0,0,0,0⟩
def ab6 (s:Stmt):Arguments:=match s with
 | .FunctionDef _ a _ _ _ _ _ _ _ _=>a
 | _=>{ posonlyargs:=[],args:=[],vararg:=none,kwonlyargs:=[],kw_defaults:=[],kwarg:=none,defaults:=[] }
def a94 (s:Stmt):List Stmt:=match s with
 | .FunctionDef _ _ b _ _ _ _ _ _ _=>b
 | _=>[]
def a17 (s:Stmt):Scope:=match s with
 | .FunctionDef _ _ _ _ _ _ sc _ _ _=>sc
 | _=>{ kind:=.function,names:=[],isGenerator:=false,isCoroutine:=false }
abbrev CX0:CXT:=fun _ _ _ _ _ _=>False
abbrev E0:XK:=fun _ _ _=>False
theorem a28 {X:Cx}:ae6 CX0 X E0:=fun _ _ _ _ _ _ _ h=>h.elim
structure Fun (K:PySem.W.Frag) (x qual:Str) (st:Stmt) (f:Addr) (fd:FuncData):Prop where
 ex:∃ (oc:Value) (od:Option Addr) (kV doc pm:Value) (an:Option Addr) (cdv ct:Value) (osl:Array (Option Value)),
  fd=PySem.W.fnOf x qual (ab6 st) (a94 st) (a17 st) .none kV doc pm an cdv ct∧K.lookup f=some ⟨oc,od,.func fd,osl⟩∧PySem.W.codeIn K cdv qual=true
 kp:PySem.W.keepIn K (.ref f)=true
section
variable {P:Program}{w:World}{K:PySem.W.Frag}{mg:Str→Option Value}{base:Heap}
theorem Fun.ok {x qual:Str}{st:Stmt}{f:Addr}{fd:FuncData}{N ps:List Str}{k:Nat}{sp:Sp}(F:Fun K x qual st f fd) (S:FnScope N ps (a17 st)) (len:∀ vs H Q E,sp vs H Q E→vs.length=ps.length)
 (hbody:∀ (cdv:Value) (A:Around) (outer:List Env) (s:Shared) (H:Hp) (vs:List V) (Q:VK) (E:XK),Room k (A.deeper (envOfC qual (a17 st) s.heap.objs.size f cdv))→sp vs H Q E →
  ∃ t,PSs (cxOf CX0 P w K mg base N qual (a17 st) f cdv A outer s H E).nox (a94 st) t∧t { nx:=fun _ H'=>Q .non H',rt:=Q } (start N vs) H):FnOk P w K mg base CX0 (k+1) f fd ps sp:=by
 obtain ⟨oc,od,kV,doc,pm,an,cdv,ct,osl,rfl,lk,hcd⟩:=F.ex
 refine bq6 lk hcd S len fun A outer s H vs Q E hr hsp=>?_
 obtain ⟨t,h,q⟩:=hbody cdv A outer s H vs Q E hr hsp
 exact ⟨t,h.nox,q⟩
theorem Fun.binds {x qual:Str}{st:Stmt}{f:Addr}{fd:FuncData}{ps:List Str}(F:Fun K x qual st f fd)
 (h:∀ (kV doc pm:Value) (an:Option Addr) (cdv ct:Value) (us:List Value),us.length=ps.length→bindArgs (PySem.W.fnOf x qual (ab6 st) (a94 st) (a17 st) .none kV doc pm an cdv ct) ⟨us,[]⟩=pure (ps.zip us)):Binds K fd ps []:=by
 obtain ⟨oc,od,kV,doc,pm,an,cdv,ct,osl,rfl,lk,hcd⟩:=F.ex
 exact .all (h kV doc pm an cdv ct)
theorem b87 {x qual:Str}{st:Stmt}{f:Addr}{oc:Value}{od an:Option Addr}{osl:Array (Option Value)}{kV doc pm cdv ct:Value}(l:K.lookup f=some ⟨oc,od,.func (PySem.W.fnOf x qual (ab6 st) (a94 st) (a17 st) .none kV doc pm an cdv ct),osl⟩)
 (c:PySem.W.codeIn K cdv qual=true) (k:PySem.W.keepIn K (.ref f)=true):Fun K x qual st f (PySem.W.fnOf x qual (ab6 st) (a94 st) (a17 st) .none kV doc pm an cdv ct):=⟨⟨oc,od,kV,doc,pm,an,cdv,ct,osl,rfl,l,c⟩,k⟩
end
theorem small1000 {n:Nat}(h:n≤1000):n<sizeLine:=Nat.lt_of_le_of_lt h (by decide)
section
variable {X:Cx}
theorem pv (i:Nat) {x:Str}{pos:Pos}(hN:X.N[i]?=some x:=by rfl) (hv:Vis X.env.scope x:=by first | exact Or.inl rfl | exact Or.inr (Or.inl rfl) | exact Or.inr (Or.inr rfl)) (hd:(x == ("__debug__":Str))=false:=by decide)
 (hcd:(x == ("__classdict__":Str))=false:=by decide):PE X (.Name x pos) (tVar i):=bg9 hN hv hd hcd
end
theorem iteF {A B:Prop}(h:B):if false=true then A else B:=by
 rw [if_neg Bool.false_ne_true]
 exact h
theorem iteT {A B:Prop}(h:A):if true=true then A else B:=by
 rw [if_pos rfl]
 exact h
def Same (H H':Hp):Prop:=∀ b o,H b=some o→H' b=some o
theorem Same.refl (H:Hp):Same H H:=fun _ _ h=>h
theorem Same.trans {H H1 H2:Hp}(a:Same H H1) (b:Same H1 H2):Same H H2:=fun c o h=>b c o (a c o h)
theorem Same.free {H H':Hp}(e:Same H H') {l:Addr}(h:H' l=Option.none):H l=Option.none:=by
 cases q:H l with
 | none=>rfl
 | some o =>
   rw [e l o q] at h
   cases h
theorem Same.seq {K:PySem.W.Frag}{H H':Hp}{a:Addr}{xs:List V}(e:Same H H') (h:SqL K H a xs):SqL K H' a xs:=by
 rcases h with (h | ⟨o,h⟩) | h
 · exact .inl (.inl (e _ _ h))
 · exact .inl (.inr ⟨o,e _ _ h⟩)
 · exact .inr h
end L2
namespace K32
open PySem L2
def top (i:Nat):Stmt:=PySem.Challenge.pw_callmill_k32_graph_machine.main.body.getD i (.Pass ⟨0,0,0,0⟩)
def view:Program:={ PySem.Challenge.pw_callmill_k32_graph_machine with main:={ PySem.Challenge.pw_callmill_k32_graph_machine.main with body:=[top 1,top 2,top 3,top 5,top 7,top 8,top 9,top 10,top 11,top 12,top 13,top 14,top 15,top 16,top 18,top 20,top 21,top 22,top 23,top 24,top 25,top 26,top 27,top 28,top 29,top 30,top 31,top 32,top 33,top 34,top 35,top 36] } }
abbrev a71:Stmt:=top 1
abbrev ay7:Stmt:=top 2
abbrev ay8:Stmt:=top 3
abbrev ae9:Stmt:=top 5
abbrev a72:Stmt:=top 10
abbrev a95:Stmt:=top 11
abbrev af0:Stmt:=top 12
abbrev af1:Stmt:=top 13
abbrev a87:Stmt:=top 14
abbrev ab3:Stmt:=top 15
abbrev an5:Stmt:=top 16
abbrev a53:Stmt:=ab5 (top 18) 0
abbrev a61:Stmt:=ab5 (top 18) 1
abbrev a65:Stmt:=ab5 (top 18) 2
abbrev a66:Stmt:=ab5 (top 18) 3
abbrev a59:Stmt:=ab5 (top 18) 4
abbrev a57:Stmt:=ab5 (top 18) 5
abbrev a49:Stmt:=ab5 (top 18) 6
abbrev ac2:Stmt:=top 20
abbrev af2:Stmt:=top 21
abbrev ai5:Stmt:=top 22
abbrev af3:Stmt:=top 23
abbrev a88:Stmt:=top 24
abbrev a96:Stmt:=top 25
abbrev ac3:Stmt:=top 26
abbrev ai6:Stmt:=top 27
abbrev ai7:Stmt:=top 28
abbrev af4:Stmt:=top 29
abbrev af5:Stmt:=top 30
abbrev af6:Stmt:=top 31
abbrev ak5:Stmt:=top 32
abbrev aa7:Stmt:=top 33
abbrev ai8:Stmt:=top 34
abbrev af7:Stmt:=top 35
abbrev bj2:Stmt:=top 36
def an6 (K:PySem.W.Frag):Sp:=fun vs H Q _=>∃ (a:Addr) (ns:List Int),vs=[.ref a]∧SqL K H a (ns.map V.int)∧ns.length≤63∧∀ H',Q (.bl true) H'
set_option genInjectivity false in
structure Adr where
 {a_value_of_box:Addr}
 {fd_value_of_box:FuncData}
 {a_worth:Addr}
 {fd_worth:FuncData}
 {a_holds:Addr}
 {fd_holds:FuncData}
 {a_hand_text:Addr}
 {fd_hand_text:FuncData}
 {a_first_values:Addr}
 {fd_first_values:FuncData}
 {a_values_put:Addr}
 {fd_values_put:FuncData}
 {a_said_text:Addr}
 {fd_said_text:FuncData}
 {a_rested_on:Addr}
 {fd_rested_on:FuncData}
 {a_way_of_pattern:Addr}
 {fd_way_of_pattern:FuncData}
 {a_way_of_event:Addr}
 {fd_way_of_event:FuncData}
 {a_stepped:Addr}
 {fd_stepped:FuncData}
 {a_GraphMachine___init__:Addr}
 {fd_GraphMachine___init__:FuncData}
 {a_GraphMachine_begin:Addr}
 {fd_GraphMachine_begin:FuncData}
 {a_GraphMachine_step:Addr}
 {fd_GraphMachine_step:FuncData}
 {a_GraphMachine_over:Addr}
 {fd_GraphMachine_over:FuncData}
 {a_GraphMachine_values:Addr}
 {fd_GraphMachine_values:FuncData}
 {a_GraphMachine_gone_on:Addr}
 {fd_GraphMachine_gone_on:FuncData}
 {a_GraphMachine_node_behind:Addr}
 {fd_GraphMachine_node_behind:FuncData}
 {a__law_cell_at:Addr}
 {fd__law_cell_at:FuncData}
 {a__law_mixed:Addr}
 {fd__law_mixed:FuncData}
 {a__law_deck:Addr}
 {fd__law_deck:FuncData}
 {a__law_digit:Addr}
 {fd__law_digit:FuncData}
 {a__law_expression:Addr}
 {fd__law_expression:FuncData}
 {a__law_condition:Addr}
 {fd__law_condition:FuncData}
 {a__law_pattern:Addr}
 {fd__law_pattern:FuncData}
 {a__law_wait:Addr}
 {fd__law_wait:FuncData}
 {a__law_node:Addr}
 {fd__law_node:FuncData}
 {a__law_graph:Addr}
 {fd__law_graph:FuncData}
 {a__law_worth:Addr}
 {fd__law_worth:FuncData}
 {a__law_holds:Addr}
 {fd__law_holds:FuncData}
 {a__law_on:Addr}
 {fd__law_on:FuncData}
 {a__law_step:Addr}
 {fd__law_step:FuncData}
 {a__law_same:Addr}
 {fd__law_same:FuncData}
 {a__law_event:Addr}
 {fd__law_event:FuncData}
 {a_law:Addr}
 {fd_law:FuncData}
 {c_Machine:Addr}
 {c_GraphMachine:Addr}
 {u_QUIET:Value}
 {u_OTHER:Value}
 {ad_QUIET:Addr}
 {ad_OTHER:Addr}
structure CIi (K:PySem.W.Frag) (x q:Str) (st:Stmt) (ps:List Str) (a:Addr) (fd:FuncData):Prop where
 F:Fun K x q st a fd
 b:Binds K fd ps []
structure CFi (K:PySem.W.Frag) (mg:Str→Option Value) (x:Str) (st:Stmt) (ps:List Str) (a:Addr) (fd:FuncData):Prop extends CIi K x x st ps a fd where
 m:mg x=some (.ref a)
structure CMi (K:PySem.W.Frag) (c:Addr) (x q:Str) (st:Stmt) (ps:List Str) (a:Addr) (fd:FuncData):Prop extends CIi K x q st ps a fd where
 M:Meth K c x a
structure Txt (K:PySem.W.Frag) (mg:Str→Option Value) (t:Adr):Prop where
 m_Machine:mg "Machine"=some (.ref t.c_Machine)
 m_GraphMachine:mg "GraphMachine"=some (.ref t.c_GraphMachine)
 cl_GraphMachine:Cls K t.c_GraphMachine
 mk_GraphMachine:Mk K t.c_GraphMachine t.a_GraphMachine___init__
 n_GraphMachine_boxes:NoAttr K t.c_GraphMachine "boxes"
 n_GraphMachine_first:NoAttr K t.c_GraphMachine "first"
 n_GraphMachine_nodes:NoAttr K t.c_GraphMachine "nodes"
 ia_GraphMachine:PySem.W.findIn K (.ref t.c_GraphMachine) "__class__"=some (some (.builtin "object.__class__"))
 in_GraphMachine:PySem.W.specialIn K (.builtin "object.__class__") "__get__"=some (some (.builtin "getset_descriptor.__get__"))
 it_GraphMachine:PySem.W.takesIn K (.builtin "object.__class__")=some true
 im_GraphMachine:PySem.W.mroIn K t.c_GraphMachine (.type "object")=some true
 mo_GraphMachine_Machine:PySem.W.mroIn K t.c_GraphMachine (.ref t.c_Machine)=some true
 lk_GraphMachine_Machine:∃ od cd sl,K.lookup t.c_Machine=some ⟨.type "type",od,.cls cd,sl⟩
 f_value_of_box:CFi K mg "value_of_box" a71 ["name","boxes","values"] t.a_value_of_box t.fd_value_of_box
 f_worth:CFi K mg "worth" ay7 ["expression","boxes","values"] t.a_worth t.fd_worth
 f_holds:CFi K mg "holds" ay8 ["condition","boxes","values"] t.a_holds t.fd_holds
 f_hand_text:CFi K mg "hand_text" ae9 ["line","word"] t.a_hand_text t.fd_hand_text
 f_first_values:CFi K mg "first_values" a72 ["boxes"] t.a_first_values t.fd_first_values
 f_values_put:CFi K mg "values_put" a95 ["boxes","values","name","expression"] t.a_values_put t.fd_values_put
 f_said_text:CFi K mg "said_text" af0 ["thing"] t.a_said_text t.fd_said_text
 f_rested_on:CFi K mg "rested_on" af1 ["standing"] t.a_rested_on t.fd_rested_on
 f_way_of_pattern:CFi K mg "way_of_pattern" a87 ["branches","pattern"] t.a_way_of_pattern t.fd_way_of_pattern
 f_way_of_event:CFi K mg "way_of_event" ab3 ["branches","event"] t.a_way_of_event t.fd_way_of_event
 f_stepped:CFi K mg "stepped" an5 ["machine","wait","standing","event"] t.a_stepped t.fd_stepped
 f_GraphMachine___init__:CIi K "__init__" "GraphMachine.__init__" a53 ["self","graph"] t.a_GraphMachine___init__ t.fd_GraphMachine___init__
 f_GraphMachine_begin:CMi K t.c_GraphMachine "begin" "GraphMachine.begin" a61 ["self"] t.a_GraphMachine_begin t.fd_GraphMachine_begin
 f_GraphMachine_step:CMi K t.c_GraphMachine "step" "GraphMachine.step" a65 ["self","standing","event"] t.a_GraphMachine_step t.fd_GraphMachine_step
 f_GraphMachine_over:CMi K t.c_GraphMachine "over" "GraphMachine.over" a66 ["self","standing"] t.a_GraphMachine_over t.fd_GraphMachine_over
 f_GraphMachine_values:CMi K t.c_GraphMachine "values" "GraphMachine.values" a59 ["self","standing"] t.a_GraphMachine_values t.fd_GraphMachine_values
 f_GraphMachine_gone_on:CMi K t.c_GraphMachine "gone_on" "GraphMachine.gone_on" a57 ["self","number","stack","values"] t.a_GraphMachine_gone_on t.fd_GraphMachine_gone_on
 f_GraphMachine_node_behind:CMi K t.c_GraphMachine "node_behind" "GraphMachine.node_behind" a49 ["self","node","kept","values"] t.a_GraphMachine_node_behind t.fd_GraphMachine_node_behind
 f__law_cell_at:CFi K mg "_law_cell_at" ac2 ["script","k"] t.a__law_cell_at t.fd__law_cell_at
 f__law_mixed:CFi K mg "_law_mixed" af2 ["cell","k"] t.a__law_mixed t.fd__law_mixed
 f__law_deck:CFi K mg "_law_deck" ai5 ["script"] t.a__law_deck t.fd__law_deck
 f__law_digit:CFi K mg "_law_digit" af3 ["deck","many"] t.a__law_digit t.fd__law_digit
 f__law_expression:CFi K mg "_law_expression" a88 ["deck","boxes"] t.a__law_expression t.fd__law_expression
 f__law_condition:CFi K mg "_law_condition" a96 ["deck","boxes"] t.a__law_condition t.fd__law_condition
 f__law_pattern:CFi K mg "_law_pattern" ac3 ["deck"] t.a__law_pattern t.fd__law_pattern
 f__law_wait:CFi K mg "_law_wait" ai6 ["deck","many","own","first"] t.a__law_wait t.fd__law_wait
 f__law_node:CFi K mg "_law_node" ai7 ["deck","boxes","many","own","calls"] t.a__law_node t.fd__law_node
 f__law_graph:CFi K mg "_law_graph" af4 ["deck"] t.a__law_graph t.fd__law_graph
 f__law_worth:CFi K mg "_law_worth" af5 ["expression","names","values"] t.a__law_worth t.fd__law_worth
 f__law_holds:CFi K mg "_law_holds" af6 ["condition","names","values"] t.a__law_holds t.fd__law_holds
 f__law_on:CFi K mg "_law_on" ak5 ["graph","number","stack","values"] t.a__law_on t.fd__law_on
 f__law_step:CFi K mg "_law_step" aa7 ["graph","standing","event"] t.a__law_step t.fd__law_step
 f__law_same:CFi K mg "_law_same" ai8 ["machine","found","due"] t.a__law_same t.fd__law_same
 f__law_event:CFi K mg "_law_event" af7 ["deck"] t.a__law_event t.fd__law_event
 f_law:CFi K mg "law" bj2 ["script"] t.a_law t.fd_law
 z_abs:mg "abs"=none
 z_bool:mg "bool"=none
 z_int:mg "int"=none
 z_isinstance:mg "isinstance"=none
 z_len:mg "len"=none
 z_list:mg "list"=none
 z_range:mg "range"=none
 z_reversed:mg "reversed"=none
 z_str:mg "str"=none
 z_tuple:mg "tuple"=none
 z_zip:mg "zip"=none
 m_QUIET:mg "QUIET"=some t.u_QUIET
 r_QUIET:RelV (.ref t.ad_QUIET) t.u_QUIET
 m_OTHER:mg "OTHER"=some t.u_OTHER
 r_OTHER:RelV (.ref t.ad_OTHER) t.u_OTHER
 dd_QUIET:∃ od its nn sl,K.lookup t.ad_QUIET=some ⟨.type "tuple",od,.seq its nn,sl⟩∧its.size≤sizeLine∧Vals [.str "quiet"] its.toList
 dd_OTHER:∃ od its nn sl,K.lookup t.ad_OTHER=some ⟨.type "tuple",od,.seq its nn,sl⟩∧its.size≤sizeLine∧Vals [.str "other"] its.toList
theorem ab7 {us:List Value}{n:Nat}(h:us.length=n+1):∃ u r,us=u::r:=by
 cases us with
 | nil=>cases h
 | cons u r=>exact ⟨u,r,rfl⟩
theorem bq9 {us:List Value}(h:us.length=1):∃ u0,us=[u0]:=by
 obtain ⟨u0,us,rfl⟩:=ab7 h; replace h:=Nat.succ.inj h
 obtain rfl:=List.length_eq_zero_iff.mp h
 exact ⟨u0,rfl⟩
theorem br0 {us:List Value}(h:us.length=2):∃ u0 u1,us=[u0,u1]:=by
 obtain ⟨u0,us,rfl⟩:=ab7 h; replace h:=Nat.succ.inj h
 obtain ⟨u1,us,rfl⟩:=ab7 h; replace h:=Nat.succ.inj h
 obtain rfl:=List.length_eq_zero_iff.mp h
 exact ⟨u0,u1,rfl⟩
theorem br1 {us:List Value}(h:us.length=3):∃ u0 u1 u2,us=[u0,u1,u2]:=by
 obtain ⟨u0,us,rfl⟩:=ab7 h; replace h:=Nat.succ.inj h
 obtain ⟨u1,us,rfl⟩:=ab7 h; replace h:=Nat.succ.inj h
 obtain ⟨u2,us,rfl⟩:=ab7 h; replace h:=Nat.succ.inj h
 obtain rfl:=List.length_eq_zero_iff.mp h
 exact ⟨u0,u1,u2,rfl⟩
theorem br2 {us:List Value}(h:us.length=4):∃ u0 u1 u2 u3,us=[u0,u1,u2,u3]:=by
 obtain ⟨u0,us,rfl⟩:=ab7 h; replace h:=Nat.succ.inj h
 obtain ⟨u1,us,rfl⟩:=ab7 h; replace h:=Nat.succ.inj h
 obtain ⟨u2,us,rfl⟩:=ab7 h; replace h:=Nat.succ.inj h
 obtain ⟨u3,us,rfl⟩:=ab7 h; replace h:=Nat.succ.inj h
 obtain rfl:=List.length_eq_zero_iff.mp h
 exact ⟨u0,u1,u2,u3,rfl⟩
theorem br3 {us:List Value}(h:us.length=5):∃ u0 u1 u2 u3 u4,us=[u0,u1,u2,u3,u4]:=by
 obtain ⟨u0,us,rfl⟩:=ab7 h; replace h:=Nat.succ.inj h
 obtain ⟨u1,us,rfl⟩:=ab7 h; replace h:=Nat.succ.inj h
 obtain ⟨u2,us,rfl⟩:=ab7 h; replace h:=Nat.succ.inj h
 obtain ⟨u3,us,rfl⟩:=ab7 h; replace h:=Nat.succ.inj h
 obtain ⟨u4,us,rfl⟩:=ab7 h; replace h:=Nat.succ.inj h
 obtain rfl:=List.length_eq_zero_iff.mp h
 exact ⟨u0,u1,u2,u3,u4,rfl⟩
theorem bc5 {K:PySem.W.Frag}{x q:Str}{st:Stmt}{f:Addr}{ps:List Str}{oc:Value}{od an:Option Addr}{osl:Array (Option Value)}{kV doc pm cdv ct:Value}(l:K.lookup f=some ⟨oc,od,.func (PySem.W.fnOf x q (ab6 st) (a94 st) (a17 st) .none kV doc pm an cdv ct),osl⟩) (c:PySem.W.codeIn K cdv q=true) (k:PySem.W.keepIn K (.ref f)=true) (b:∀ (kV doc pm:Value) (an:Option Addr) (cdv ct:Value) (us:List Value),us.length=ps.length→bindArgs (PySem.W.fnOf x q (ab6 st) (a94 st) (a17 st) .none kV doc pm an cdv ct) ⟨us,[]⟩=pure (ps.zip us)):CIi K x q st ps f (PySem.W.fnOf x q (ab6 st) (a94 st) (a17 st) .none kV doc pm an cdv ct):=⟨b87 l c k,(b87 l c k).binds b⟩
theorem br4 {K:PySem.W.Frag}{mg:Str→Option Value}{h:Heap}{x:Str}{st:Stmt}{ps:List Str}{f:Addr}{fd:FuncData}(X:K.In h) (G:h.Ns mainGlobals mg) (a:PySem.W.nsIn K mainGlobals x=some (some (.ref f))) (i:CIi K x x st ps f fd):CFi K mg x st ps f fd:=⟨i,PySem.W.mg_of X G a⟩
def HF (P:Params) (K:PySem.W.Frag):Prop:=∃ t:Adr,∀ (mg:Str→Option Value) (h:Heap),K.In h→h.Ns mainGlobals mg→Txt K mg t
theorem walk2 {l:PySem.W.OpenLaw}{q:Program}{loose:List Str}{XP:(Str→Option Value)→Heap→Prop}{YP:World→Heap→Prop}{d:DefRec}{K:Params→PySem.W.Frag}(hn:l.most=some 63) (hdf:d.params.defaults=[]) (hd:d.name="law") (hl:l=PySem.Challenge.rw_callmill_k32_graph_machine) (hY:∀ (w:World) (h:Heap),YP w h→(K w.params).In h) (hF:∀ P,HF P (K P)) (G:∀ K:Params→PySem.W.Frag,(∀ P,HF P (K P))→(∀ (w:World) (mg:Str→Option Value) (fa:Addr) (h:Heap),(K w.params).In h→h.Ns mainGlobals mg→mg "law"=some (.ref fa)→∃ fd:FuncData,(∀ (s:Shared) (u:Value),BindsTo s fd ⟨[u],[]⟩ [("script",u)])∧∀ base:Heap,(K w.params).In base→base.Ns mainGlobals mg→FnOk PySem.Challenge.rw_callmill_k32_graph_machine.prog w (K w.params) mg base CX0 21 fa fd ["script"] (an6 (K w.params)))):PySem.W.WalkO q loose XP YP l.row.toRowW d [] (fun f vs=>PySem.call f vs) :=
 L2.walk_of (n:=63) (k:=21) (x:="script") (CX:=fun _=>CX0) (sp:=fun w=>an6 (K w.params)) hn (by decide) hdf ⟨rfl,by decide,by decide⟩ hY (by rw [hd,hl]; exact G K hF) (fun _ _ a ns hl _ hS=>⟨a,ns,rfl,hS,hl,fun _=>rfl⟩) fun _ _ _ _ _ z=>z
theorem br5 {K:PySem.W.Frag}{C:Addr}{x q:Str}{st:Stmt}{ps:List Str}{f:Addr}{fd:FuncData}(a:PySem.W.findIn K (.ref C) x=some (some (.ref f))) (i:PySem.W.isFn K (.ref f)=true) (h:CIi K x q st ps f fd):CMi K C x q st ps f fd:=⟨h,a,i,h.F.kp⟩
theorem br6 {K:PySem.W.Frag}{a:Addr}{vs:List V}{od:Option Addr}{its:Array Value}{nn:Nat}{sl:Array (Option Value)}(h1:K.lookup a=some ⟨.type "tuple",od,.seq its nn,sl⟩) (h2:its.size≤sizeLine) (h3:Vals vs its.toList):∃ od its nn sl,K.lookup a=some ⟨.type "tuple",od,.seq its nn,sl⟩∧its.size≤sizeLine∧Vals vs its.toList:=⟨_,_,_,_,h1,h2,h3⟩
theorem br7 {K:PySem.W.Frag}{a:Addr}{od:Option Addr}{cd:ClassData}{sl:Array (Option Value)}(h:K.lookup a=some ⟨.type "type",od,.cls cd,sl⟩):∃ od cd sl,K.lookup a=some ⟨.type "type",od,.cls cd,sl⟩:=⟨_,_,_,h⟩
section
open PySem PySem.W PyProof.Rows
local macro_rules | `(tactic| o_head $H) => `(tactic| refine holds_open (q := K32.view) (loose := []) (Xt := fun s => xlAt K32.view [] s && recOk (RowW.records _) s) (XP := XL K32.view []) (Yf := Hook.obs $H) (Ya := Hook.val $H) (YP := Hook.says $H) (N := 8000) ?hl (Hook.of $H) (Hook.keeps $H) (fun s e => xl_of s (Bool.and_eq_true_iff.mp e).1) XL.keeps (by rfl) (by rfl) (by rfl) (fun s e => recFacts_of (Bool.and_eq_true_iff.mp e).2) (by rfl) (by first | assumption | decide +kernel) (by decide +kernel) ⟨rfl, rfl, rfl, rfl, rfl, by decide +kernel⟩ ?hw ?hc)
local macro_rules | `(tactic| walk_at "bi") => `(tactic| (intro _ _ _ _ _ _ us hl; first | (obtain ⟨_, z⟩ := bq9 hl; subst z; rfl) | (obtain ⟨_, _, z⟩ := br0 hl; subst z; rfl) | (obtain ⟨_, _, _, z⟩ := br1 hl; subst z; rfl) | (obtain ⟨_, _, _, _, z⟩ := br2 hl; subst z; rfl) | (obtain ⟨_, _, _, _, _, z⟩ := br3 hl; subst z; rfl)))
local macro_rules | `(tactic| walk_at "fi") => `(tactic| first | (refine' br4 $(Lean.mkIdent `X) $(Lean.mkIdent `G) ?a (bc5 ?l ?c ?k (by walk_at "bi")); (case a => k_is); (case l => k_is); (case c => k_is); (case k => k_is)) | (refine' br5 ?a ?i (bc5 ?l ?c ?k (by walk_at "bi")); (case a => k_is); (case i => k_is); (case l => k_is); (case c => k_is); (case k => k_is)) | (refine' bc5 ?l ?c ?k (by walk_at "bi"); (case l => k_is); (case c => k_is); (case k => k_is)) | (refine' PySem.W.mg_of $(Lean.mkIdent `X) $(Lean.mkIdent `G) ?a; (case a => k_is)) | (refine' PySem.W.mg_none_of $(Lean.mkIdent `X) $(Lean.mkIdent `G) ?a; (case a => k_is)) | (unfold NoAttr; k_is) | k_is | (refine' Cls.mk ?a ?b ?c ?d; (case a => k_is); (case b => k_is); (case c => k_is); (case d => k_is)) | (refine' Mk.mk ?a ?b ?c ?d; (case a => k_is); (case b => k_is); (case c => k_is); (case d => k_is)) | exact ⟨_, rfl⟩ | (with_reducible exact rfl) | (refine' br6 ?a ?b ?c; (case a => k_is); (case b => exact Nat.le_of_lt (L2.small1000 (by decide))); (case c => repeat first | exact .nil | refine .cons (by first | exact rfl | exact ⟨_, rfl⟩) ?_)) | (refine' br7 ?a; (case a => k_is)) | (change PySem.W.excIn _ _ _ _ = true; kernel_rfl) | exact rfl)
def bt:List Obj→Nat→BT→BT
 | [],_,t=>t
 | o::l,i,t=>bt l (i+1) (t.ins i o)
noncomputable def T0 (P:Params):BT:=bt (boot_heap P).objs.toList 0 .nil
def runT (tb:String→Option Builtin) (p:Program) (w:World) (n₀:Nat) (ann:Option Value):Nat→SharedT→Thread→Option SharedT
 | 0,_,_=>none
 | n+1,s,t=>match through t with
   | true=>some s
   | false=>match stepOk n₀ ann t with
     | false=>none
     | true=>match stepT (denote tb) p w s t with
       | some (s',t')=>runT tb p w n₀ ann n s' t'
       | none=>none
theorem ay9 {tb:String→Option Builtin}{p:Program}{w:World}{n₀:Nat}{ann:Option Value}:∀ {n:Nat}{s s':SharedT}{t:Thread},runT tb p w n₀ ann n s t=some s'→topRun tb p w n₀ ann n s.abs t=some s'.abs
 | 0,_,_,_,h=>by cases h
 | n+1,s,s',t,h=>by
   unfold runT at h
   unfold topRun
   cases he:through t with
   | true=>rw [he] at h; cases h; rfl
   | false =>
     rw [he] at h
     cases hk:stepOk n₀ ann t with
     | false=>rw [hk] at h; cases h
     | true =>
       rw [hk] at h
       cases hs:stepT (denote tb) p w s t with
       | none=>rw [hs] at h; cases h
       | some r=>obtain ⟨s₂,t₂⟩:=r; rw [hs] at h; rw [stepT_spec hs]; exact ay9 h
theorem az0 {p q:Program}{loose:List Str}{Xt:Shared→Bool}{α:Type}{Yf:Shared→α}{Ya:World→α}{N:Nat}{g0:Bool}{m₀:Nat}{ann:Option Value}(e:opening p=plainProg p.main.scope.names) (hN:Nat.ble 600 N=true) (f:∀ s,fenceModules? p s=some s)
 (b:∀ P,boot_heap P=absHeap (T0 P) m₀ (boot_heap P).life) (z:∀ w:World,(boot_heap w.params).isNs mainGlobals=true∧(boot_heap w.params).objs.size=m₀∧(boot_heap w.params).nsMap mainGlobals "__annotations__"=ann)
 (h:∀ (w:World) (os:OsState),(runT treeTable p w m₀ ann N ⟨T0 w.params,m₀,(boot_heap w.params).life,Array.mk [],boot_drawn,boot_toks,os⟩ (topStub p)).map (fun s=>(staticsOk (importedModules p.main.body) (boot_heap w.params) s.abs.heap && namesBound p s.abs.heap && gensDone s.abs && laidKept (boot_heap w.params) s.abs.heap,openSeen q loose (importedModules p.main.body) Xt g0 s.abs,Yf s.abs))=some (true,openGood q loose,Ya w)):LeftO p q loose Xt Yf Ya N g0:=fun w=>by
 obtain ⟨⟨hp,g,d,k,os⟩,hs,hv⟩:=Option.map_eq_some_iff.mp (boot_open e hN f w)
 injection hv with v1 v2
 injection v2 with v2 v3
 injection v3 with v3 v4
 dsimp only at v1 v2 v3 v4
 subst v1 v2 v3 v4
 obtain ⟨z1,z2,z3⟩:=z w
 obtain ⟨s',h1,h2⟩:=Option.map_eq_some_iff.mp (h w os)
 obtain ⟨l1,l2,l3⟩:_∧_∧_:=by simpa only [Prod.mk.injEq] using h2
 have r:=ay9 h1
 have r':topRun treeTable p w m₀ ann N ⟨boot_heap w.params,Array.mk [],boot_drawn,boot_toks,os⟩ (topStub p)=some s'.abs:=by
  rw [b w.params]
  exact r
 unfold openEnds
 rw [hs]
 show (topFrom treeTable p w N _).map _=_
 unfold topFrom
 dsimp only
 rw [z1,z2,z3,r']
 show (match staticsOk (importedModules p.main.body) (boot_heap w.params) s'.abs.heap && namesBound p s'.abs.heap && gensDone s'.abs && laidKept (boot_heap w.params) s'.abs.heap with | true=>some s'.abs | false=>none).map _=_
 rw [l1]
 exact congrArg some (Prod.ext l2 l3)
theorem bj3 (P:Params):boot_heap P=absHeap (T0 P) 11 (boot_heap P).life:=by kernel_rfl
theorem bj4 (w:World):(boot_heap w.params).isNs mainGlobals=true∧(boot_heap w.params).objs.size=11∧(boot_heap w.params).nsMap mainGlobals "__annotations__"=some (.ref 6):=⟨by kernel_rfl,by kernel_rfl,by kernel_rfl⟩
set_option maxRecDepth 100000 in
set_option maxHeartbeats 0 in
theorem head (G:∀ K:Params→PySem.W.Frag,(∀ P,HF P (K P))→(∀ (w:World) (mg:Str→Option Value) (fa:Addr) (h:Heap),(K w.params).In h→h.Ns mainGlobals mg→mg "law"=some (.ref fa)→∃ fd:FuncData,(∀ (s:Shared) (u:Value),BindsTo s fd ⟨[u],[]⟩ [("script",u)])∧∀ base:Heap,(K w.params).In base→base.Ns mainGlobals mg→FnOk PySem.Challenge.rw_callmill_k32_graph_machine.prog w (K w.params) mg base CX0 21 fa fd ["script"] (an6 (K w.params)))):PySem.Challenge.rw_callmill_k32_graph_machine.Holds:=by
 w_on; o_law; k_head; (case hw=>w_witness2); (case hl=>exact az0 rfl rfl (fun _=>rfl) bj3 bj4 (by intro w os; kernel_rfl))
 k_fill
 refine K32.walk2 (l:=PySem.Challenge.rw_callmill_k32_graph_machine) rfl rfl rfl rfl (fun w h Y=>PySem.W.kIn_of Y) ?facts G
 case facts =>
  intro P
  refine' ⟨Adr.mk,fun mg h X G=>?z⟩
  case z =>
   constructor
   all_goals (try dsimp only); walk_at "fi"
end
end K32
namespace L2
open PySem PySem.Spec PyProof.Rows
section
variable {κ:Type} [DecidableEq κ]
end
section
variable {P:Program}{w:World}{H:Hp}{h:Heap}{a:Addr}
end
section
variable {X:Cx}{pins:List (Addr×Obj)}{σ:St} {H:Hp}{s:Shared}{a:Addr}{y v:V}{u r:Value}{o:Option V}{A:Around}{E:Value→Shared→Prop}
end
section
variable {X:Cx}{pins:List (Addr×Obj)}{σ:St} {H:Hp}{s:Shared}{a:Addr}{kvs:List (Key×V)}{k:Key}{u:Value}{A:Around}{E:Value→Shared→Prop}
end
section
variable {X:Cx}{o i e value:Expr}{pos pos' tpos:Pos}{td ty tv:TE}
end
section
variable {X:Cx}{pos:Pos}
end
section
variable {X:Cx}{pins:List (Addr×Obj)}{σ:St} {H:Hp}{s:Shared}{a:Addr}{y d:V}{u r:Value}{o:Option V}{A:Around}{E:Value→Shared→Prop}
end
section
variable {X:Cx}{o e f:Expr}{apos cpos:Pos}{td ty tx:TE}
end
section
variable {X:Cx}{pins:List (Addr×Obj)}{σ:St} {H:Hp}{s:Shared}{a:Addr}{kvs:List (Key×V)}{A:Around}{E:Value→Shared→Prop}
end
section
variable {X:Cx}{pins:List (Addr×Obj)}{σ:St} {H:Hp}{s:Shared}{a:Addr}{y:V}{u:Value}{A:Around}{E:Value→Shared→Prop}
end
section
variable {κ:Type} [DecidableEq κ]
end
def cxC (X:Cx) (N:List Str) (scope:Scope) (cl:List (Str×Addr)) (C:Addr) (s0:Shared) (H0:Hp) (ex:List Addr):Cx :=
 { X with N:=N,s₀:=s0,H₀:=H0,env:=compEnvC scope cl C X.env,outer:=X.stack,stack:=X.stack,ex:=ex,fn:=fun x=>scope.names.lookup x == some .cell,pn:=[],xe:=fun _ _=>False }
theorem ai9 {env : Env} (has : ∀ x, (env.kindOf x = some .cell ∨ env.kindOf x = some .free) → ∃ c, env.cells.lookup x = some c) {scope : Scope}
    (hf : ∀ y ∈ scope.names, y.2 = .free → env.kindOf y.1 = some .cell ∨ env.kindOf y.1 = some .free) :
    ∃ cl, closureFor scope env = pure cl ∧ (∀ x c, cl.lookup x = some c → env.cells.lookup x = some c) ∧ (∀ y ∈ scope.names, y.2 = .free → ∃ c, cl.lookup y.1 = some c) := by
  have gen : ∀ (names : List (Str × NameKind)) (cs : List (Str × Addr)), (∀ y ∈ names, y.2 = .free → env.kindOf y.1 = some .cell ∨ env.kindOf y.1 = some .free) →
      (∀ x c, cs.lookup x = some c → env.cells.lookup x = some c) →
      ∃ cl, (forIn (m := Sem) names cs fun p r => do
          match p with
          | (name, kind) => if kind == .free then do let c ← cellOf env name; pure (ForInStep.yield ((name, c) :: r)) else pure (ForInStep.yield r)) = pure cl ∧
        (∀ x c, cl.lookup x = some c → env.cells.lookup x = some c) ∧ (∀ x c, cs.lookup x = some c → ∃ c, cl.lookup x = some c) ∧ (∀ y ∈ names, y.2 = .free → ∃ c, cl.lookup y.1 = some c) := by
    intro names
    induction names with
    | nil => intro cs _ h; exact ⟨cs, rfl, h, fun x c e => ⟨c, e⟩, fun y hy => nomatch hy⟩
    | cons p r ih =>
      intro cs hp h
      obtain ⟨n, k⟩ := p
      by_cases hk : k = .free
      · subst hk
        obtain ⟨c, hc⟩ := has n (hp (n, .free) List.mem_cons_self rfl)
        have h' : ∀ x d, ((n, c) :: cs).lookup x = some d → env.cells.lookup x = some d := by
          intro x d e
          rw [List.lookup_cons] at e
          cases hx : x == n with
          | true =>
            rw [hx] at e
            have : x = n := by simpa using hx
            cases e; rw [this]; exact hc
          | false => rw [hx] at e; exact h x d e
        obtain ⟨cl, e1, e2, e3, e4⟩ := ih ((n, c) :: cs) (fun y hy => hp y (List.mem_cons_of_mem _ hy)) h'
        have hn : ∃ d, cl.lookup n = some d := e3 n c (by simp [List.lookup_cons])
        refine ⟨cl, ?_, e2, fun x d e => ?_, fun y hy hyk => ?_⟩
        · rw [List.forIn_cons]
          have : cellOf env n = pure c := by unfold cellOf; rw [hc]
          simp only [beq_self_eq_true, if_true, this]
          exact e1
        · by_cases hx : x = n
          · subst hx; exact hn
          · exact e3 x d (by rw [List.lookup_cons]; have : (x == n) = false := by simpa using hx
                             rw [this]; exact e)
        · rcases List.mem_cons.mp hy with rfl | hy
          · exact hn
          · exact e4 y hy hyk
      · obtain ⟨cl, e1, e2, e3, e4⟩ := ih cs (fun y hy => hp y (List.mem_cons_of_mem _ hy)) h
        refine ⟨cl, ?_, e2, e3, fun y hy hyk => ?_⟩
        · rw [List.forIn_cons]
          have : (k == NameKind.free) = false := by simpa using hk
          simp only [this]
          exact e1
        · rcases List.mem_cons.mp hy with rfl | hy
          · exact absurd hyk hk
          · exact e4 y hy hyk
  obtain ⟨cl, e1, e2, _, e4⟩ := gen scope.names [] hf (fun x c e => nomatch e)
  refine ⟨cl, ?_, e2, e4⟩
  unfold closureFor
  simp only []
  exact congrArg (· >>= fun cs => pure cs) e1 |>.trans rfl
theorem an7 {scope:Scope}{env:Env}{x:Str}{k:NameKind}(h:(relabel scope env).names.lookup x=some k) (hk:k=.cell∨k=.free):∃ y∈scope.names,y.1=x∧(y.2=.free∨y.2=.cell):=by
 have gen:∀ names:List (Str×NameKind),(names.map fun (n,k)=>if (k == NameKind.free && env.scope.kind == .function && env.kindOf n == some .cell) then (n,NameKind.cell) else (n,k)).lookup x=some k →
  ∃ y∈names,y.1=x∧(y.2=.free∨y.2=.cell):=by
  intro names
  induction names with
  | nil=>intro h; cases h
  | cons p r ih =>
    obtain ⟨n,j⟩:=p
    intro h
    rw [List.map_cons,List.lookup_cons] at h
    have e1:(if (j == NameKind.free && env.scope.kind == .function && env.kindOf n == some .cell)=true then (n,NameKind.cell) else (n,j)).1=n:=by split <;> rfl
    dsimp only at h
    rw [e1] at h
    cases hx:x == n with
    | false =>
      rw [hx] at h
      obtain ⟨y,hy,q⟩:=ih h
      exact ⟨y,List.mem_cons_of_mem _ hy,q⟩
    | true =>
      rw [hx] at h
      have ex:x=n:=by simpa using hx
      refine ⟨(n,j),List.mem_cons_self,ex.symm,?_⟩
      by_cases hc:(j == NameKind.free && env.scope.kind == .function && env.kindOf n == some .cell)=true
      · have:=(Bool.and_eq_true _ _).mp ((Bool.and_eq_true _ _).mp hc).1
        exact .inl (by simpa using this.1)
      · rw [if_neg hc] at h
        cases h
        exact hk.symm
 exact gen scope.names h
theorem a80:∀ (names:List (Str×NameKind)) (n:Nat) (a b:List (Str×Addr)),cellsFrom n names (a++b)=cellsFrom n names a++b
 | [],_,_,_=>rfl
 | (x,k)::r,n,a,b=>by
   unfold cellsFrom
   split
   · exact a80 r (n+1) ((x,n)::a) b
   · exact a80 r n a b
theorem a81:∀ (names:List (Str×NameKind)) (n:Nat) (a:List (Str×Addr)) (x:Str) (c:Addr),(x,c)∈cellsFrom n names a→(x,c)∈a∨(x,NameKind.cell)∈names
 | [],_,_,_,_,h=>.inl h
 | (y,k)::r,n,a,x,c,h=>by
   unfold cellsFrom at h
   split at h
   · next hk =>
     rcases a81 r (n+1) _ x c h with z | z
     · rcases List.mem_cons.mp z with e | z
       · cases e
         have:k=.cell:=by simpa using hk
         subst this
         exact .inr List.mem_cons_self
       · exact .inl z
     · exact .inr (List.mem_cons_of_mem _ z)
   · rcases a81 r n a x c h with z | z
     · exact .inl z
     · exact .inr (List.mem_cons_of_mem _ z)
theorem ac4 {α:Type}:∀ {l:List (Str×α)}{x:Str}{c:α},(x,c)∈l→∃ d,l.lookup x=some d
 | [],_,_,h=>nomatch h
 | (y,d)::l,x,c,h=>by
   rw [List.lookup_cons]
   cases hx:x == y with
   | true=>exact ⟨d,rfl⟩
   | false =>
     rcases List.mem_cons.mp h with e | h
     · cases e
       simp at hx
     · exact ac4 h
theorem ad1 {α:Type}{x:Str}:∀ {a b:List (Str×α)},(a++b).lookup x=(a.lookup x).or (b.lookup x)
 | [],_=>rfl
 | (y,d)::a,b=>by
   rw [List.cons_append,List.lookup_cons,List.lookup_cons]
   cases hx:x == y with
   | true=>rfl
   | false=>exact ad1 (a:=a) (b:=b)
theorem a82:∀ (names:List (Str×NameKind)) (n:Nat) (a:List (Str×Addr)) (p:Str×Addr),p∈a→p∈cellsFrom n names a
 | [],_,_,_,h=>h
 | (y,k)::r,n,a,p,h=>by
   unfold cellsFrom
   split
   · exact a82 r (n+1) _ p (List.mem_cons_of_mem _ h)
   · exact a82 r n a p h
theorem a83:∀ (names:List (Str×NameKind)) (n:Nat) (a:List (Str×Addr)) (x:Str),(x,NameKind.cell)∈names→∃ c,(x,c)∈cellsFrom n names a
 | (y,k)::r,n,a,x,h=>by
   unfold cellsFrom
   rcases List.mem_cons.mp h with e | h
   · cases e
     exact ⟨n,a82 r (n+1) _ _ List.mem_cons_self⟩
   · split
     · exact a83 r (n+1) _ x h
     · exact a83 r n a x h
structure CellsR (X:Cx) (scope:Scope) (Nf:List Str) (r:List (Str×Addr)) (C:Addr) (h1:Heap):Prop where
 sp:∀ x c,r.lookup x=some c→(C<c∧h1.IsCell c none)∨X.env.cells.lookup x=some c
 inj:∀ x y c,r.lookup x=some c→r.lookup y=some c→x=y
 has:∀ y∈scope.names,(y.2=.free∨y.2=.cell)→∃ c,r.lookup y.1=some c
 cab:∀ x c,scope.names.lookup x=some .cell→r.lookup x=some c→C<c
 cap:∀ x∈Nf,∀ c,r.lookup x=some c→X.env.cells.lookup x=some c
theorem bc6 {X:Cx}{scope:Scope}{Nf:List Str}{cl:List (Str×Addr)}{h:Heap}{C:Addr}(hC:h.objs.size=C+1) (hX:∀ x c,X.env.cells.lookup x=some c→c<C) (hinj:∀ x y c,X.env.cells.lookup x=some c→X.env.cells.lookup y=some c→x=y)
 (hcl:∀ x c,cl.lookup x=some c→X.env.cells.lookup x=some c) (hcf:∀ y∈scope.names,y.2=.free→∃ c,cl.lookup y.1=some c) (hnx:∀ x∈Nf,(x,NameKind.cell)∉scope.names) :
 CellsR X scope Nf (cellsFrom (C+1) scope.names cl) C (pushCells h scope.names):=by
 have e0:cellsFrom (C+1) scope.names cl=cellsFrom (C+1) scope.names []++cl:=a80 scope.names (C+1) [] cl
 have ok:=cellsFrom_ok scope.names h (C+1) [] ⟨fun _ _ hm=>(nomatch hm),List.Pairwise.nil⟩ (by rw [hC]; exact Nat.le_refl _)
 rw [hC] at ok
 have hmem:∀ x c,(x,c)∈cellsFrom (C+1) scope.names []→(x,NameKind.cell)∈scope.names:=fun x c h=>by
  rcases a81 _ _ _ x c h with z | z
  · exact nomatch z
  · exact z
 have ho:∀ x,(x,NameKind.cell)∈scope.names→∃ c,(cellsFrom (C+1) scope.names []).lookup x=some c:=fun x hx=>by
  obtain ⟨c,hc⟩:=a83 scope.names (C+1) [] x hx
  exact ac4 hc
 rw [e0]
 generalize cellsFrom (C+1) scope.names []=own at ok hmem e0 ho
 have spl:∀ x c,(own++cl).lookup x=some c→(own.lookup x=some c∧C<c)∨(own.lookup x=none∧cl.lookup x=some c):=fun x c e=>by
  rw [ad1] at e
  cases hx:own.lookup x with
  | none=>rw [hx] at e; exact .inr ⟨rfl,e⟩
  | some d =>
    rw [hx] at e
    cases e
    exact .inl ⟨rfl,(ok.empty x c (PySem.mem_of_lookup hx)).2⟩
 refine ⟨fun x c e=>?_,fun x y c e1 e2=>?_,fun y hy hk=>?_,fun x c hk e=>?_,fun x hx c e=>?_⟩
 · rcases spl x c e with ⟨e1,h1⟩ | ⟨_,e1⟩
   · exact .inl ⟨h1,(ok.empty x c (PySem.mem_of_lookup e1)).1⟩
   · exact .inr (hcl x c e1)
 · rcases spl x c e1 with ⟨a1,b1⟩ | ⟨_,a1⟩ <;> rcases spl y c e2 with ⟨a2,b2⟩ | ⟨_,a2⟩
   · exact name_of_addr ok.apart (PySem.mem_of_lookup a1) (PySem.mem_of_lookup a2)
   · exact absurd (hX y c (hcl y c a2)) (Nat.not_lt.mpr (Nat.le_of_lt b1))
   · exact absurd (hX x c (hcl x c a1)) (Nat.not_lt.mpr (Nat.le_of_lt b2))
   · exact hinj x y c (hcl x c a1) (hcl y c a2)
 · rw [ad1]
   cases hx:own.lookup y.1 with
   | some d=>exact ⟨d,rfl⟩
   | none =>
     rcases hk with hk | hk
     · exact hcf y hy hk
     · obtain ⟨c,hc⟩:=ho y.1 (by rw [← hk]; exact hy)
       rw [hx] at hc
       cases hc
 · obtain ⟨d,hd⟩:=ho x (PySem.mem_of_lookup hk)
   rcases spl x c e with ⟨_,h1⟩ | ⟨z,_⟩
   · exact h1
   · rw [hd] at z
     cases z
 · rcases spl x c e with ⟨h1,_⟩ | ⟨_,e1⟩
   · exact absurd (hmem x c (PySem.mem_of_lookup h1)) (hnx x hx)
   · exact hcl x c e1
section
variable {X:Cx}{pins:List (Addr×Obj)}{σ:St} {H:Hp}{s:Shared}{N:List Str}{scope:Scope}{cl:List (Str×Addr)}{C:Addr}{ex:List Addr}{Nf:List Str}{h1:Heap}
theorem bj5 (I:Inv X pins σ H s) (hC:s.heap.objs.size≤C) (hkind:scope.kind=.function) (R:CellsR X scope Nf cl C h1)
 (hex:∀ b∈ex,FpOk X pins H b) (hexl:∀ b∈ex,b<s.heap.objs.size):(cxC X N scope cl C s H ex).Ok where
 mod:=I.ok.mod
 kind:=hkind
 glob:=I.ok.glob
 blt:=I.ok.blt
 above:=hC
 inj:=R.inj
 has:=fun x hx=>by
  have hx':∃ k,(relabel scope X.env).names.lookup x=some k∧(k=.cell∨k=.free):=by
   rcases hx with h | h
   · exact ⟨_,h,.inl rfl⟩
   · exact ⟨_,h,.inr rfl⟩
  obtain ⟨k,h,hk⟩:=hx'
  obtain ⟨y,hy,e1,e2⟩:=an7 h hk
  rw [← e1]
  exact R.has y hy e2
 cab:=fun x c h e=>Nat.le_trans hC (Nat.le_of_lt (R.cab x c (by have h':(scope.names.lookup x == some NameKind.cell)=true:=h; simpa using h') e))
 hd:=I.ok.hd
 frames:=I.ok.frames
 stk:=.inl rfl
 exf:=fun b hb=>⟨Nat.ne_of_lt (Nat.lt_of_lt_of_le (hexl b hb) hC),fun x c e=>by
  rcases R.sp x c e with ⟨z,_⟩ | z
  · exact Nat.ne_of_gt (Nat.lt_trans (Nat.lt_of_lt_of_le (hexl b hb) hC) z)
  · exact (hex b hb).2.2.2.2.1 x c z⟩
 bs:=I.bs
 bsz:=Nat.le_trans I.ok.bsz I.sz
 noex:=fun b o e hb=>by
  rcases (hex b hb).2.2.2.1 with z | z
  · exact I.ok.noex b o e z
  · have h1:=Heap.lt_size e
    have h2:=I.ok.bsz
    exact absurd (Nat.lt_of_lt_of_le h1 (Nat.le_trans h2 z)) (Nat.lt_irrefl _)
 exfs:=fun b hb z=>by
  have h1:=I.stkSub b z
  rcases List.mem_cons.mp h1 with z | z
  · exact (hex b hb).2.1 z
  · exact (hex b hb).2.2.1 z
 funs:=I.stack
 frf:=I.stkFree
def capV (caps:List Nat) (σ:St):St:=caps.map fun j=>(σ[j]?).join
def cSt (n:Nat) (caps:List Nat) (σ:St):St:=List.replicate n none++capV caps σ
theorem bc7 {caps:List Nat}{Nt:List Str}{s1:Shared}{m:Str→Option Value}(I:Inv X pins σ H s) (ok:(cxC X (Nt++Nf) scope cl C s H ex).Ok)
 (R:CellsR X scope Nf cl C s1.heap)
 (hcap:caps.map (fun j=>X.N[j]?)=Nf.map some)
 (hvis:∀ x∈Nf,scope.names.lookup x=some .free) (hXv:∀ x∈Nf,X.env.kindOf x=some .cell∨X.env.kindOf x=some .free) (hcf:∀ x∈Nf,∃ c,cl.lookup x=some c)
 (hos:s1.os=s.os) (hgens:s1.gens=s.gens) (hk:∀ b o,s.heap.get? b=some o→s1.heap.get? b=some o) (hns:s1.heap.Ns C m) (hC:s.heap.objs.size≤C) :
 Inv (cxC X (Nt++Nf) scope cl C s H ex) [] (cSt Nt.length caps σ) H s1:=by
 have hlen:caps.length=Nf.length:=by
  have:=congrArg List.length hcap
  simpa using this
 refine ⟨ok,hos,by rw [hgens]; exact I.bare,Un.kept hk,⟨m,hns,fun i x v h1 h2 h3=>?_⟩,fun x c e=>?_,I.hok.fresh hC,fun x c e=>by
  rcases R.sp x c e with ⟨z,_⟩ | z
  · exact I.hok.fresh (Nat.le_trans hC (Nat.le_of_lt z))
  · exact I.freeC x c z,fun p hp=>absurd (show p∈([]:List (Addr×Obj)) from hp) (by simp),I.hok.kept hk,?_⟩
 · -- a captured name
   have hi:Nt.length≤i:=by
    refine Nat.le_of_not_lt fun q=>?_
    unfold cSt at h2
    rw [List.getElem?_append_left (by simpa using q),List.getElem?_replicate] at h2
    split at h2 <;> cases h2
   have h1':Nf[i - Nt.length]?=some x:=by
    have:(Nt++Nf)[i]?=some x:=h1
    rwa [List.getElem?_append_right hi] at this
   unfold cSt at h2
   rw [List.getElem?_append_right (by simpa using hi)] at h2
   have e0:i - (List.replicate Nt.length (none:Option V)).length=i - Nt.length:=by simp
   rw [e0] at h2
   generalize hj:i - Nt.length=j at h1' h2
   unfold capV at h2
   rw [List.getElem?_map] at h2
   cases hc:caps[j]? with
   | none=>rw [hc] at h2; cases h2
   | some jj =>
     rw [hc] at h2
     have h2':(σ[jj]?).join=some v:=Option.some.inj h2
     have h2'':σ[jj]?=some (some v):=by
      cases q:σ[jj]? with
      | none=>rw [q] at h2'; cases h2'
      | some z=>rw [q] at h2'; cases z with
        | none=>cases h2'
        | some z'=>cases h2'; rfl
     have hN:X.N[jj]?=some x:=by
      have q:=congrArg (fun l=>l[j]?) hcap
      simp only [List.getElem?_map,hc,h1',Option.map_some] at q
      exact Option.some.inj q
     have hx:x∈Nf:=List.mem_of_getElem? h1'
     have hXk:=hXv x hx
     obtain ⟨mX,_,hl⟩:=I.loc
     obtain ⟨u,ru,lk⟩:=hl jj x v hN h2'' (by
      rcases hXk with z | z
      · exact .inr (.inl z)
      · exact .inr (.inr z))
     refine ⟨u,ru,.inr ?_⟩
     rcases lk with ⟨z,_⟩ | ⟨_,c,hc1,hcell⟩
     · rcases hXk with y | y <;> (rw [z] at y; cases y)
     · obtain ⟨c',hc'⟩:=hcf x hx
       have e:=R.cap x hx c' hc'
       rw [hc1] at e; cases e
       refine ⟨?_,c,hc',?_⟩
       · rcases h3 with z | z | z
         · -- not a local of the block
           exfalso
           have hfree:=hvis x hx
           have z':(relabel scope X.env).names.lookup x=some .local:=z
           have gen:∀ names:List (Str×NameKind),names.lookup x=some .free→(names.map fun (n,k)=>if (k == NameKind.free && X.env.scope.kind == .function && X.env.kindOf n == some .cell) then (n,NameKind.cell) else (n,k)).lookup x≠some .local:=by
            intro names
            induction names with
            | nil=>intro h; cases h
            | cons p r ih =>
              obtain ⟨n,k⟩:=p
              intro h
              rw [List.map_cons,List.lookup_cons]
              rw [List.lookup_cons] at h
              have e1:(if (k == NameKind.free && X.env.scope.kind == .function && X.env.kindOf n == some .cell)=true then (n,NameKind.cell) else (n,k)).1=n:=by split <;> rfl
              dsimp only
              rw [e1]
              cases hx:x == n with
              | false=>rw [hx] at h; exact ih h
              | true =>
                rw [hx] at h
                cases h
                show some (if _ then (n,NameKind.cell) else (n,NameKind.free)).2≠some .local
                split <;> (intro q; cases q)
           exact gen scope.names hfree z'
         · exact .inl z
         · exact .inr z
       · obtain ⟨o,eo,d⟩:=hcell
         exact ⟨o,hk _ _ eo,d⟩
 · rcases R.sp x c e with ⟨_,z⟩ | z
   · exact ⟨none,z⟩
   · obtain ⟨v,q⟩:=I.cell x c z
     obtain ⟨o,eo,d⟩:=q
     exact ⟨v,o,hk _ _ eo,d⟩
 · show (cSt Nt.length caps σ).length=(Nt++Nf).length
   unfold cSt capV
   simp [hlen]
end
abbrev b88 (ifs:List Expr) (env:Env):Sem Bool:=forIn ifs true fun c r=>if r=true then do let ok←isTrue c env (eval c env); pure (ForInStep.yield ok) else pure (ForInStep.yield r)
abbrev NoX:Value→Shared→Prop:=fun _ _=>False
theorem an8 {P:Program}{w:World}{B:Around}{R:Result→Shared→Prop}{s:Shared}{y tg l:Expr}{cs:List Expr}{sc:Scope}{ps:Pos}{iv av:Value}{en:Env}(G:Nat→Shared→Prop)
 (one:∀ n s,G n s→wpAny (model P w) B (pyNext iv) (fun r s1=>match r with
  | none=>R (.ok .next) s1
  | some v=>wpAny (model P w) B (letOwnedTupleGo tg iv v) (fun _ s1=>wpAny (model P w) B (assign tg en v) (fun _ s2=>wpAny (model P w) B (b88 cs en) (fun k s3 =>
   if k=true then wpAny (model P w) B (eval y en) (fun x s4=>wpAny (model P w) B (call (.builtin "list.append") [av,x]) (fun _ s5=>∃ m,m<n∧G m s5) NoX s4) NoX s3
   else ∃ m,m<n∧G m s3) NoX s2) NoX s1) NoX s1) NoX s) (n:Nat) (h:G n s) :
 codeAny (model P w) B (.compLoop (.ListComp y [⟨tg,l,cs,0⟩] sc ps) 0 iv av en) R s:=by
 refine codeAny_loop rfl G (fun n s hG=>?_) n h
 show wpAny _ B ((compTurn (.ListComp y [⟨tg,l,cs,0⟩] sc ps) 0 iv av en).onRaise (fun x=>do noteFrame x en; theTreesLotGoes x)) _ _ s
 refine wpAny_noted ?_
 rw [compTurn_list]
 refine wpAny_bind (wpAny_standAt (wpAny_bind (wpAny_mono (one n s hG) (fun r s1 h1=>?_) fun _ _ z=>z.elim)))
 cases r with
 | none=>exact wpAny_pure h1
 | some v =>
   refine wpAny_bind (wpAny_mono h1 (fun _ s1' h1'=>?_) fun _ _ z=>z.elim)
   refine wpAny_bind (wpAny_mono h1' (fun _ s2 h2=>wpAny_bind (wpAny_mono h2 (fun k s3 h3=>?_) fun _ _ z=>z.elim)) fun _ _ z=>z.elim)
   cases k with
   | false=>exact wpAny_pure ⟨rfl,h3⟩
   | true=>exact wpAny_bind (wpAny_bind (wpAny_mono h3 (fun x s4 h4=>wpAny_bind (wpAny_mono h4 (fun _ s5 h5=>wpAny_pure (wpAny_pure ⟨rfl,h5⟩)) fun _ _ z=>z.elim)) fun _ _ z=>z.elim))
def PTs (X:Cx) (ifs:List Expr) (t:TT):Prop :=
 ∀ (pins:List (Addr×Obj)) (s:Shared) (σ:St) (H:Hp) (Q:Bool→Hp→Prop),Inv X pins σ H s→t σ H Q →
  wpAny (model X.prog X.w) X.A (b88 ifs X.env) (TP X pins σ Q) X.xe s
def tNoIf:TT:=fun _ H Q=>Q true H
theorem ak6 {X:Cx}:PTs X [] tNoIf:=fun pins s σ H Q I h=>wpAny_tests_nil ⟨H,I,h⟩
theorem az1 {X:Cx}{c:Expr}{t:TT}(h:PT X c t):PTs X [c] t:=fun pins s σ H Q I q=>wpAny_tests_one (h pins s σ H Q I q)
section
variable {X:Cx}{pins:List (Addr×Obj)}{σ:St} {H:Hp}{s:Shared}
theorem Inv.adopt {D:Addr}{o:HO}(I:Inv X pins σ H s) (hD:H D=none) (h1:X.s₀.heap.objs.size≤D) (h2:D≠X.env.locals) (h3:∀ x c,X.env.cells.lookup x=some c→c≠D) (h4:∀ p∈X.pn++pins,p.1≠D)
 (new:ObjOk X.prog X.w (upd H D o) s.heap D o):Inv X pins σ (upd H D o) s:=by
 have old:∀ {b:Addr}{q:Obj},X.s₀.heap.get? b=some q→b≠D:=fun e=>Nat.ne_of_lt (Nat.lt_of_lt_of_le (Heap.lt_size e) h1)
 refine ⟨I.ok,I.os,I.bare,⟨I.base.keep,I.base.slot,fun b q e n hx=>by rw [a12 (old e)]; exact I.base.free b q e n hx,I.base.there,fun b xs e=>?_,fun b q u e=>?_,fun b ps e=>?_⟩,I.loc,I.cell,by rw [a12 (Ne.symm h2)]; exact I.free,fun x c e=>by rw [a12 (h3 x c e)]; exact I.freeC x c e,fun p hp=>?_,fun b u e=>?_,I.len⟩
 · have e':=I.base.tups b xs e
   rw [a12 (a27 e' hD)]; exact e'
 · have e':=I.base.frzs b q u e
   rw [a12 (a27 e' hD)]; exact e'
 · obtain ⟨more,e'⟩:=I.base.tbls b ps e
   exact ⟨more,by rw [a12 (a27 e' hD)]; exact e'⟩
 · obtain ⟨a1,a2,a3,a4,a5⟩:=I.pin p hp
   exact ⟨a1,by rw [a12 (h4 p hp)]; exact a2,a3,a4,a5⟩
 · by_cases hb:b=D
   · subst hb; rw [a32] at e; cases e; exact new
   · rw [a12 hb] at e
     exact (I.hok b u e).stay (fun c v _ q=>q) (fun c q=>by rw [a12 (a27 q hD)]; exact q) fun c xs q=>by rw [a12 (a27 q hD)]; exact q
def tLC (wi:TI) (g:TG) (tt:TT) (te:TE) (n:Nat) (caps:List Nat):TE:=fun σ H Q=>wi σ H fun J H1=>∃ W:Nat→Nat→List V→St→Hp→Prop,(∃ m,W 0 m [] (cSt n caps σ) H1)∧∀ i m acc σ' H',W i m acc σ' H' →
 (J.stop i H'∧∀ l,H' l=none→Q (.ref l) (upd H' l (.lst acc))) ∨
 (J.go i H'∧acc.length<sizeLine∧∃ N:List V→St→Hp→Prop,(∀ ac σ2 H2,N ac σ2 H2→∃ m',m'<m∧W (i+1) m' ac σ2 H2)∧∀ x H2,J.yld i H' x H2→g x σ' H2 fun σ3 H3=>tt σ3 H3 fun b H4=>if b=true then te σ3 H4 fun y H5=>N (acc++[y]) σ3 H5 else N acc σ3 H4)
structure CompOk (X:Cx) (scope:Scope) (Nt Nf:List Str) (caps:List Nat):Prop where
 kind:scope.kind=.function
 nx:∀ x∈Nf,(x,NameKind.cell)∉scope.names
 nm:∀ y∈scope.names,y.2=.local→scope.names.lookup y.1=some .local
 fr:∀ y∈scope.names,y.2=.free→X.env.kindOf y.1=some .cell∨X.env.kindOf y.1=some .free
 cap:caps.map (fun j=>X.N[j]?)=Nf.map some
 vis:∀ x∈Nf,scope.names.lookup x=some .free
theorem aw0 {M:Model}{A:Around}{E:Value→Shared→Prop}{scope:Scope}{globals:Addr}{closure:List (Str×Addr)}{qual:Str}{func:Option Addr}{code:Value}{env:Env}{builtins:Addr}{Q:Env→Shared→Prop}
 (hQ:Q (newEnv scope s.heap.objs.size globals (cellsFrom (s.heap.objs.size+1) scope.names closure) qual func code (some env) builtins) { s with heap:=pushCells (s.heap.push { cls:=.type "dict",data:=.dict #[] }) scope.names }) :
 wpAny M A (newFunctionEnv scope globals closure [] qual func code (some env) builtins) Q E s:=by
 simp only [newFunctionEnv,Option.isSome_some,if_true]
 refine wpAny_bind (wpAny_alloc ?_)
 refine wpAny_bind (wpAny_layCells _ (fun name kind cells=>by cases hkc:kind == NameKind.cell <;> simp [hkc]) _ _ _ _ ?_)
 rw [show ({ s with heap:=s.heap.push { cls:=.type "dict",data:=.dict #[] } }:Shared).heap.objs.size=s.heap.objs.size+1 from Heap.size_push ..]
 rw [List.forIn_nil]
 exact wpAny_bind (wpAny_pure (wpAny_pure hQ))
theorem aj0 {tg iter elt:Expr}{ifs:List Expr}{scope:Scope}{pos:Pos}{g:TG}{tt:TT}{te:TE}{Nt Nf:List Str}{caps:List Nat}{cl:List (Str×Addr)}{it:Addr}{fp:List Addr}{tn:Nat→Heap→Prop}{J:It}{Q:VK}{E:Value→Shared→Prop}
 {RR:Value→Addr→Result→Shared→Prop}
 (hc:X.calm=true) (S:CompOk X scope Nt Nf caps)
 (hg:∀ cl C s0 H0 ex,PG (cxC X (Nt++Nf) scope cl C s0 H0 ex) tg g)
 (ht:∀ cl C s0 H0 ex,PTs (cxC X (Nt++Nf) scope cl C s0 H0 ex) ifs tt)
 (he:∀ cl C s0 H0 ex,PE (cxC X (Nt++Nf) scope cl C s0 H0 ex) elt te)
 (hcl:∀ x c,cl.lookup x=some c→X.env.cells.lookup x=some c) (hcf:∀ y∈scope.names,y.2=.free→∃ c,cl.lookup y.1=some c)
 (I:Inv X pins σ H s) (T:Turn X.prog X.w X.K tg J fp it tn) (st:tn 0 s.heap) (hfp:∀ b∈fp,FpOk X pins H b)
 (hW:∃ W:Nat→Nat→List V→St→Hp→Prop,(∃ m,W 0 m [] (cSt Nt.length caps σ) H)∧∀ i m acc σ' H',W i m acc σ' H' →
  (J.stop i H'∧∀ l,H' l=none→Q (.ref l) (upd H' l (.lst acc))) ∨
  (J.go i H'∧acc.length<sizeLine∧∃ N:List V→St→Hp→Prop,(∀ ac σ2 H2,N ac σ2 H2→∃ m',m'<m∧W (i+1) m' ac σ2 H2)∧∀ x H2,J.yld i H' x H2→g x σ' H2 fun σ3 H3=>tt σ3 H3 fun b H4=>if b=true then te σ3 H4 fun y H5=>N (acc++[y]) σ3 H5 else N acc σ3 H4))
 (fin:∀ D C m s' H',Inv X pins σ H' s'→Q (.ref D) H'→s'.heap.Ns C m→H' C=none→C≠X.env.locals→X.s₀.heap.objs.size≤C→(∀ x c,X.env.cells.lookup x=some c→c≠C)→(∀ p∈X.pn++pins,p.1≠C)→RR (.ref D) C (.ok .next) s') :
 wpAny (model X.prog X.w) X.A (newList []) (fun acc s₃=>wpAny (model X.prog X.w) X.A (newFunctionEnv scope X.env.globals cl [] X.env.qual none .none (some X.env)) (fun cenv s₄ =>
  codeAny (model X.prog X.w) X.A (.compStart (.ListComp elt [⟨tg,iter,ifs,0⟩] scope pos) 0 (.ref it) acc { cenv with scope:=relabel scope X.env }) (RR acc cenv.locals) s₄) E s₃) E s:=by
 obtain ⟨W,⟨m0,w0⟩,turn⟩:=hW
 refine wpAny_newObj_type (aw0 ?_)
 dsimp only
 generalize hH2:s.heap.push { cls:=.type "list",dict:=none,data:=.seq ([]:List Value).toArray }=P2
 have hCs:P2.objs.size=s.heap.objs.size+1:=by rw [← hH2,Heap.size_push]
 have hDC:s.heap.objs.size≠P2.objs.size:=by rw [hCs]; exact Nat.ne_of_lt (Nat.lt_succ_self _)
 have hCle:s.heap.objs.size≤P2.objs.size:=by rw [hCs]; exact Nat.le_succ _
 have below:∀ b,b<s.heap.objs.size→b≠P2.objs.size:=fun b hb=>by rw [hCs]; exact Nat.ne_of_lt (Nat.lt_succ_of_lt hb)
 have kp:=pushCells_keeps scope.names (P2.push { cls:=.type "dict",data:=.dict #[] })
 have hns₁:=(Heap.Ns.new P2 (.type "dict")).keeps kp
 have old:∀ b o,s.heap.get? b=some o→(pushCells (P2.push { cls:=.type "dict",data:=.dict #[] }) scope.names).get? b=some o:=fun b o e=>kp _ _ (Heap.get?_push_of_some _ (hH2 ▸ Heap.get?_push_of_some _ e))
 have hacc:(pushCells (P2.push { cls:=.type "dict",data:=.dict #[] }) scope.names).PlainList s.heap.objs.size #[]:=⟨_,kp _ _ (Heap.get?_push_of_some _ (hH2 ▸ Heap.get?_push_size _ rfl))⟩
 have R:=bc6 (X:=X) (scope:=scope) (Nf:=Nf) (cl:=cl) (h:=P2.push { cls:=.type "dict",data:=.dict #[] }) (C:=P2.objs.size) (Heap.size_push ..) (fun x c e=>by
  obtain ⟨v,q⟩:=I.cell x c e
  exact Nat.lt_of_lt_of_le q.lt hCle) I.ok.inj hcl hcf S.nx
 generalize cellsFrom (P2.objs.size+1) scope.names cl=r at R ⊢
 generalize pushCells (P2.push { cls:=.type "dict",data:=.dict #[] }) scope.names=h₁ at R hns₁ old hacc ⊢
 have fpl:∀ b∈fp,b<s.heap.objs.size:=fun b hb=>by
  obtain ⟨o,e,_⟩:=T.obj _ _ st b hb
  exact Heap.lt_size e
 have st₁:tn 0 h₁:=T.keep _ _ _ st fun b _ o e=>old b o e
 generalize hCe:P2.objs.size=C at hns₁ R hDC hCle below ⊢
 generalize hDe:s.heap.objs.size=D at hacc hDC hCle ⊢
 have hDl:X.env.locals<D:=by rw [← hDe]; exact I.lt
 have hDs:X.s₀.heap.objs.size≤D:=by rw [← hDe]; exact I.sz
 have hcD:∀ x c,X.env.cells.lookup x=some c→c<D:=fun x c e=>by
  obtain ⟨v,q⟩:=I.cell x c e
  rw [← hDe]; exact q.lt
 have hpD:∀ p∈X.pn++pins,p.1<D:=fun p hp=>by rw [← hDe]; exact Heap.lt_size (I.pin p hp).1
 let Y:Cx:=cxC X (Nt++Nf) scope r C s H fp
 have okY:Y.Ok:=bj5 I (by rw [hDe]; exact hCle) S.kind R hfp fpl
 have hfsY:∀ b,b∈Y.fs→b<D:=fun b hb=>by
  rcases List.mem_cons.mp (I.stkSub b hb) with z | z
  · rw [z]; exact hDl
  · refine Nat.lt_of_lt_of_le ?_ hDs
    have:=(I.ok.funs.mem z)
    refine Nat.lt_of_not_le fun q=>?_
    exact absurd z (fun z=>by
     have:=I.nofs (a:=b)
     by_cases hb2:s.heap.objs.size≤b
     · exact this hb2 z
     · obtain ⟨_,o,e,_⟩:=I.ok.funs.mem z
       exact absurd (Heap.lt_size e) (Nat.not_lt.mpr q))
 have loop:∀ s₃:Shared,s₃={ s with heap:=h₁ } →
  codeAny (model X.prog X.w) X.A (.compLoop (.ListComp elt [⟨tg,iter,ifs,0⟩] scope pos) 0 (.ref it) (.ref D) Y.env) (RR (.ref D) C) s₃:=by
  rintro s₃ rfl
  have I0:Inv Y [] (cSt Nt.length caps σ) H { s with heap:=h₁ } :=
   bc7 I okY R S.cap S.vis (fun x hx=>S.fr (x,.free) (PySem.mem_of_lookup (S.vis x hx)) rfl) (fun x hx=>R.has (x,.free) (PySem.mem_of_lookup (S.vis x hx)) (.inl rfl)) rfl rfl old hns₁ (by rw [hDe]; exact hCle)
  have fpY:∀ {H':Hp},(∀ b∈fp,H' b=none)→∀ b∈fp,FpOk Y [] H' b:=fun hn b hb =>
   ⟨hn b hb,Nat.ne_of_lt (Nat.lt_of_lt_of_le (fpl b hb) (by rw [hDe]; exact hCle)),okY.exfs b hb,.inl hb,fun x c e=>by
    rcases R.sp x c e with ⟨z,_⟩ | z
    · exact Nat.ne_of_gt (Nat.lt_trans (Nat.lt_of_lt_of_le (fpl b hb) (by rw [hDe]; exact hCle)) z)
    · exact (hfp b hb).2.2.2.2.1 x c z,fun p hp=>absurd (show p∈([]:List (Addr×Obj)) from hp) (by simp)⟩
  have fpD:∀ b∈fp,b≠D:=fun b hb=>Nat.ne_of_lt (by rw [← hDe]; exact fpl b hb)
  refine an8 (fun n s'=>∃ i acc its σ' H',Inv Y [] σ' H' s'∧tn i s'.heap∧(∀ b∈fp,H' b=none)∧s'.heap.PlainList D its∧H' D=none∧Vals acc its.toList∧acc.length≤sizeLine∧W i n acc σ' H') ?_ m0
   ⟨0,[],#[],cSt Nt.length caps σ,H,I0,st₁,fun b hb=>(hfp b hb).1,hacc,by rw [← hDe]; exact I.hok.fresh (Nat.le_refl _),.nil,Nat.zero_le _,w0⟩
  rintro n s3 ⟨i,acc,its,σ3,H3,I3,st3,fr3,⟨nd,e3⟩,hD3,rv3,hl3,w3⟩
  have cD:C≠D:=Ne.symm hDC
  have pinOk:∀ {H':Hp}{s':Shared}{o:Obj},s'.heap.get? D=some o→H' D=none→(∀ v,o.data≠.cell v)→s'.heap.get? D=some o∧H' D=none∧D≠Y.env.locals∧D∉Y.fs∧∀ v,o.data≠.cell v:=fun e n d =>
   ⟨e,n,hDC,fun z=>absurd (hfsY D z) (Nat.lt_irrefl _),d⟩
  have I3':Inv Y [(D,{ cls:=.type "list",data:=.seq its nd })] σ3 H3 s3:=I3.pins_of fun p hp=>by
   obtain rfl:p=(D,({ cls:=.type "list",data:=.seq its nd }:Obj)):=List.mem_singleton.mp hp
   exact pinOk e3 hD3 (fun v z=>by cases z)
  have fpY':∀ {H':Hp},(∀ b∈fp,H' b=none)→∀ b∈fp,FpOk Y [(D,{ cls:=.type "list",data:=.seq its nd })] H' b:=fun hn b hb=>by
   obtain ⟨a1,a2,a3,a4,a5,_⟩:=fpY hn b hb
   refine ⟨a1,a2,a3,a4,a5,fun p hp=>?_⟩
   obtain rfl:p=(D,({ cls:=.type "list",data:=.seq its nd }:Obj)):=List.mem_singleton.mp hp
   exact Ne.symm (fpD b hb)
  rcases turn i n acc σ3 H3 w3 with ⟨stop,qn⟩ | ⟨go,hlt,N,hN,step⟩
  · refine thn (T.done Y rfl rfl rfl hc i _ s3 σ3 H3 _ I3' (fpY' fr3) st3 stop) ?_
    rintro r s4 ⟨hr,I4⟩
    subst hr
    have e4:=(I4.pin (D,{ cls:=.type "list",data:=.seq its nd }) (List.mem_append_right _ List.mem_cons_self)).1
    have IX:Inv X pins σ H3 s4:=I.call' (ch:=fp) I4.os I4.base I4.hok I4.bare fun b hb=>by
     obtain ⟨_,a2,_,a4,a5,a6⟩:=hfp b hb
     exact ⟨a4,a2,a5,a6⟩
    have IA:=IX.adopt (o:=.lst acc) hD3 hDs (Nat.ne_of_gt hDl) (fun x c e=>Nat.ne_of_lt (hcD x c e)) (fun p hp=>Nat.ne_of_lt (hpD p hp)) ⟨hl3,its.toList,nd,rv3,e4⟩
    obtain ⟨m,nsC,_⟩:=I4.loc
    refine fin D C m s4 _ IA (qn D hD3) nsC (by rw [a12 cD]; exact I4.free) ?_ ?_ ?_ ?_
    · exact Nat.ne_of_gt (Nat.lt_of_lt_of_le hDl hCle)
    · exact Nat.le_trans hDs hCle
    · exact fun x c e=>Nat.ne_of_lt (Nat.lt_of_lt_of_le (hcD x c e) hCle)
    · exact fun p hp=>Nat.ne_of_lt (Nat.lt_of_lt_of_le (hpD p hp) hCle)
  · refine thn (T.item Y rfl rfl rfl hc i _ s3 σ3 H3 _ I3' (fpY' fr3) st3 go) ?_
    rintro r s4 ⟨u,hr,h4⟩
    subst hr
    refine thn h4 ?_
    rintro _ s5 ⟨x,H5,I5,r5,y5,st5,fr5⟩
    have I5':=I5.pinned (fpY' fr5) (T.obj _ _ st5)
    refine thn (hg r C s H fp _ s5 σ3 H5 x u _ I5' r5 (step x H5 y5)) ?_
    rintro _ s6 ⟨σ6,H6,I6,q6⟩
    refine thn (ht r C s H fp _ s6 σ6 H6 _ I6 q6) ?_
    rintro b s7 ⟨H7,I7,q7⟩
    have back:∀ {σ':St} {H':Hp}{s':Shared},Inv Y ([(D,{ cls:=.type "list",data:=.seq its nd })]++am1 fp s5.heap) σ' H' s' →
     s'.heap.get? D=some { cls:=.type "list",data:=.seq its nd }∧H' D=none∧tn (i+1) s'.heap∧∀ b∈fp,H' b=none:=fun {σ' H' s'} J7=>by
     have hd:=J7.pin (D,{ cls:=.type "list",data:=.seq its nd }) (List.mem_append_right _ (List.mem_append_left _ List.mem_cons_self))
     refine ⟨hd.1,hd.2.1,T.keep _ _ _ st5 fun b hb o e=>(J7.pin (b,o) (List.mem_append_right _ (List.mem_append_right _ (aa6 hb e)))).1,fun b hb=>?_⟩
     obtain ⟨o,e,d⟩:=T.obj _ _ st5 b hb
     exact (J7.pin (b,o) (List.mem_append_right _ (List.mem_append_right _ (aa6 hb e)))).2.1
    cases b with
    | false =>
      rw [if_neg Bool.false_ne_true]
      rw [if_neg Bool.false_ne_true] at q7
      obtain ⟨m',hm,w7⟩:=hN _ _ _ q7
      obtain ⟨b1,b2,b3,b4⟩:=back I7
      exact ⟨m',hm,i+1,acc,its,σ6,H7,I7.pins_of (fun p hp=>nomatch hp),b3,b4,⟨nd,b1⟩,b2,rv3,hl3,w7⟩
    | true =>
      rw [if_pos rfl]
      rw [if_pos rfl] at q7
      refine thn (he r C s H fp _ s7 σ6 H7 _ I7 q7) ?_
      rintro u8 s8 ⟨y,H8,I8,r8,n8⟩
      obtain ⟨m',hm,w8⟩:=hN _ _ _ n8
      obtain ⟨b1,b2,b3,b4⟩:=back I8
      have hsz:its.size≤sizeLine:=by
       have h1:=rv3.length
       have h2:its.toList.length=its.size:=by simp
       omega
      refine wpAny_list_append_plain (hsz:=hsz) ⟨nd,b1⟩ fun h' pl' sb'=>?_
      have I8':Inv Y [] σ6 H8 s8:=I8.pins_of (fun p hp=>nomatch hp)
      refine ⟨m',hm,i+1,acc++[y],its.push u8,σ6,H8,I8'.turned (t':=s8.toks) (fun b o hb e=>(sb'.2 b hb).trans e) b2 hDC (.inr (by show s.heap.objs.size≤D; rw [hDe]; exact Nat.le_refl _)) (fun x c e=>by
       rcases R.sp x c e with ⟨z,_⟩ | z
       · exact Nat.ne_of_gt (Nat.lt_of_le_of_lt hCle z)
       · exact Nat.ne_of_lt (hcD x c z)) (fun p hp=>absurd (show p∈([]:List (Addr×Obj)) from hp) (by simp)),?_,b4,pl',b2,?_,?_,w8⟩
      · exact T.keep _ _ _ b3 fun b hb o e=>(sb'.2 b (fpD b hb)).trans e
      · rw [Array.toList_push]
        exact rv3.append (.cons r8 .nil)
      · rw [List.length_append,List.length_singleton]
        omega
 exact codeAny_compStart_list (loop _ rfl) (T.self _ _ _ _ _ st₁ (loop _ rfl))
theorem bj6 {tg iter elt:Expr}{ifs:List Expr}{scope:Scope}{pos:Pos}{wi:TI}{g:TG}{tt:TT}{te:TE}{Nt Nf:List Str}{caps:List Nat}(hc:X.calm=true) (S:CompOk X scope Nt Nf caps) (hi:PI X tg iter wi)
 (hg:∀ cl C s0 H0 ex,PG (cxC X (Nt++Nf) scope cl C s0 H0 ex) tg g)
 (ht:∀ cl C s0 H0 ex,PTs (cxC X (Nt++Nf) scope cl C s0 H0 ex) ifs tt)
 (he:∀ cl C s0 H0 ex,PE (cxC X (Nt++Nf) scope cl C s0 H0 ex) elt te)
 (hs:∀ x,foldedSetIterable iter X.env x=pure x:=by intro _; rfl):PE X (.ListComp elt [⟨tg,iter,ifs,0⟩] scope pos) (tLC wi g tt te Nt.length caps):=by
 intro pins s σ H Q I h
 obtain ⟨cl,hclos,hcl,hcf⟩:=ai9 I.ok.has S.fr
 rw [eval_ListComp]
 refine wpAny_comprehension_free (use:=none) rfl hs hclos S.kind S.nm (thn (hi pins s σ H _ I h) fun v s1 h1=>thn h1 fun itv s2 h2=>?_)
 obtain ⟨it,fp,tn,J,H2,e,I2,T,st2,f2,hW⟩:=h2
 subst e
 refine aj0 (RR:=fun acc C=>compPost (model X.prog X.w) X.A X.xe none (EP X pins σ Q) acc C) (Q:=Q) hc S hg ht he hcl hcf I2 T st2 f2 hW ?_
 intro D C m s' H' I' q nsC hCn hCl hCs hCc hCp
 exact ⟨m,nsC,fun h' sb=>⟨.ref D,H',I'.turned (t':=s'.toks) (fun b o hb e=>(sb.2 b hb).trans e) hCn hCl (.inr hCs) hCc hCp,rfl,q⟩⟩
theorem b48 {tg iter elt:Expr}{ifs:List Expr}{scope:Scope}{pos spos py:Pos}{y:Str}{i:Nat}{wi:TI}{g:TG}{tt:TT}{te:TE}{Nt Nf:List Str}{caps:List Nat}(hc:X.calm=true) (S:CompOk X scope Nt Nf caps) (hi:PI X tg iter wi)
 (hg:∀ cl C s0 H0 ex,PG (cxC X (Nt++Nf) scope cl C s0 H0 ex) tg g)
 (ht:∀ cl C s0 H0 ex,PTs (cxC X (Nt++Nf) scope cl C s0 H0 ex) ifs tt)
 (he:∀ cl C s0 H0 ex,PE (cxC X (Nt++Nf) scope cl C s0 H0 ex) elt te)
 (hN:X.N.Nodup) (hy:X.N[i]?=some y) (hx:Loc X.env.scope y)
 (hsw:swapsWith (.ListComp elt [⟨tg,iter,ifs,0⟩] scope pos) (some (.Name y py)) spos.line X.env=pure true)
 (hf:X.fn y=true∨X.env.scope.names.lookup y=some .local:=by first | exact .inl rfl | exact .inr rfl | assumption)
 (hs:∀ x,foldedSetIterable iter X.env x=pure x:=by intro _; rfl):PS X (.Assign [.Name y py] (.ListComp elt [⟨tg,iter,ifs,0⟩] scope pos) spos) (tAsg (tLC wi g tt te Nt.length caps) (ac9 i)):=by
 intro pins s σ H D I h
 obtain ⟨cl,hclos,hcl,hcf⟩:=ai9 I.ok.has S.fr
 rw [exec_Assign_Name_used _ _ _ _ hsw]
 refine wpAny_bind (wpAny_standAt (wpAny_bind ?_))
 show wpAny _ X.A (do let _←comprehension (.ListComp elt [⟨tg,iter,ifs,0⟩] scope pos) scope X.env _ (newList []) false (eval iter X.env) (some (assign (.Name y py) X.env))) _ _ s
 refine wpAny_bind (wpAny_mono (wpAny_comprehension_free (use:=some (assign (.Name y py) X.env)) (Q:=fun _ s'=>SP X pins D .next s') rfl hs hclos S.kind S.nm
  (thn (hi pins s σ H _ I h) fun v s1 h1=>thn h1 fun itv s2 h2=>?_)) (fun _ s' hq=>wpAny_pure (wpAny_pure hq)) fun _ _ e=>e)
 obtain ⟨it,fp,tn,J,H2,e,I2,T,st2,f2,hW⟩:=h2
 subst e
 refine aj0 (RR:=fun acc C=>compPost (model X.prog X.w) X.A X.xe (some (assign (.Name y py) X.env)) (fun _ s'=>SP X pins D .next s') acc C) (Q:=fun x H1=>ac9 i x σ H1 D.nx) hc S hg ht he hcl hcf I2 T st2 f2 hW ?_
 intro l C m s' H' I' q nsC hCn hCl hCs hCc hCp
 show wpAny _ X.A (assign (.Name y py) X.env (.ref l)) _ _ _
 refine wpAny_assign_Name (al9 (v:=.ref l) I' hN hy hx rfl (?_) hf)
 rintro s'' I'' ⟨a,sb,ha⟩
 have haC:C≠a:=by
  rcases ha with z | z
  · rw [z]; exact hCl
  · exact fun e=>hCc y a z e.symm
 refine ⟨m,nsC.sameBut sb haC,fun h' sb'=>⟨_,H',I''.turned (t':=s''.toks) (fun b o hb e=>(sb'.2 b hb).trans e) hCn hCl (.inr hCs) hCc hCp,q⟩⟩
end
section
variable {X:Cx}{tg:Expr}
end
section
variable {X:Cx}
def a35 (ys:List Str):List V:=ys.map V.str
def CBig (i j:Int):Prop:=(i.natAbs<2 ^ 4096∧j.natAbs<2 ^ 4096)∨CMul i j
theorem az2 {i:Int}{n:Nat}(h:i.natAbs<2 ^ n):Builtin.Int.intBits i≤n:=by
 unfold Builtin.Int.intBits
 split
 · exact Nat.zero_le _
 · rename_i h0
   have h1:i.natAbs≠0:=by simpa using h0
   have:=(Nat.log2_lt h1).mpr h
   omega
theorem CBig.ok {i j:Int}(h:CBig i j):IntMulOk i j:=by
 rcases h with ⟨h1,h2⟩ | h
 · exact IntMulOk.of_bits (Nat.le_trans (az2 h1) (by decide)) (Nat.le_trans (az2 h2) (by decide))
 · exact h.ok
theorem bj7:OpR X (binaryOp .Mult) (rI CBig fun i j=>.int (i*j)):=opI fun _ _ _ _ _ _ _ hc q=>mul_int q hc.ok
theorem an9:CallR X (.type "str") (fun xs H Q=>∃ z,xs=[.str z]∧Q (.str z) H):=by
 intro pins s σ H xs us Q I r h
 obtain ⟨z,rfl,q⟩:=h
 obtain ⟨u,rfl,t,rfl⟩:=aj9 r
 exact PySem.P.str_of_str ⟨.str _,H,I,⟨_,rfl⟩,q⟩
theorem b49:CallR X (.builtin "isinstance") (fun xs H Q=>∃ x n t b,xs=[x,.ty n]∧TyOf X.K H x t∧PySem.W.kitOne X.K t (.type n)=some b∧Q (.bl b) H):=by
 intro pins s σ H xs us Q I r h
 obtain ⟨x,n,t,b,rfl,ty,e,q⟩:=h
 obtain ⟨u,w',rfl,rx,ry⟩:=vals2 r
 cases (show w'=Value.type n from ry)
 exact am5 I rx ty e fun tk=>⟨.bl b,H,I.tok _,rfl,q⟩
theorem az3:∀ {ys:List Str}{us:List Value},Vals (a35 ys) us→∀ (i:Nat) (h:i<us.length),∃ y t,ys[i]?=some y∧us[i]=.str y t
 | [],_,r,i,h=>by cases r; simp at h
 | y::ys,_,r,i,h=>by
   cases r with
   | cons r1 r2 =>
     cases i with
     | zero =>
       obtain ⟨t,rfl⟩:=r1
       exact ⟨y,t,rfl,rfl⟩
     | succ i=>exact az3 (ys:=ys) r2 i (by simpa using h)
end
section
variable {X:Cx}{e:Expr}{te:TE}{pos:Pos}
def tFmt (te:TE):TE:=fun σ H Q=>te σ H fun x H1=>(∃ z,x=.str z∧z.length≤sizeLine∧Q (.str z) H1)∨∃ i:Int,x=.int i∧i.natAbs.log2<1920∧Q (.str (toString i)) H1
theorem b89 (he:PE X e te):PE X (.FormattedValue e (-1) none pos) (tFmt te):=by
 intro pins s σ H Q I h
 refine wpAny_FormattedValue_plain (thn (he pins s σ H _ I h) ?_)
 rintro v s1 ⟨x,H1,I1,r1,q1⟩
 rcases q1 with ⟨z,rfl,hz,q⟩ | ⟨i,rfl,hi,q⟩
 · obtain ⟨t,rfl⟩:=r1
   exact wpAny_formatField_str ⟨.str z,H1,I1,⟨_,rfl⟩,q⟩ ⟨.str z,H1,I1.tok _,⟨_,rfl⟩,q⟩ hz
 · obtain ⟨t,rfl⟩:=r1
   exact wpAny_formatField_int hi ⟨.str _,H1,I1.tok _,⟨_,rfl⟩,q⟩
inductive PEs (X:Cx):List Expr→List TE→Prop
 | nil:PEs X [] []
 | cons {e es t ts}:PE X e t→PEs X es ts→PEs X (e::es) (t::ts)
def aw1:List TE→Str→TE
 | [],out=>fun _ H Q=>out.length≤sizeLine∧Q (.str out) H
 | t::r,out=>fun σ H Q=>t σ H fun x H1=>∃ y,x=.str y∧(out++y).length≤sizeLine∧aw1 r (out++y) σ H1 Q
theorem ao0:∀ {es:List Expr}{ts:List TE},PEs X es ts→∀ (out:Str) (pins:List (Addr×Obj)) (s:Shared) (σ:St) (H:Hp) (Q:VK),Inv X pins σ H s→aw1 ts out σ H Q →
 wpAny (model X.prog X.w) X.A (joinParts out (evalEach es X.env)) (EP X pins σ Q) X.xe s:=by
 intro es ts P
 induction P with
 | nil =>
   intro out pins s σ H Q I h
   exact joinParts_nil ⟨.str out,H,I.tok _,⟨_,rfl⟩,h.2⟩ h.1
 | cons p _ ih =>
   intro out pins s σ H Q I h
   refine joinParts_cons (thn (p pins s σ H _ I h) ?_)
   rintro v s1 ⟨x,H1,I1,r1,y,e,hz,q⟩
   subst e
   obtain ⟨t,rfl⟩:=r1
   exact ⟨hz,ih _ pins s1 σ H1 Q I1 q⟩
theorem bc8 {a b:Expr}{rest:List Expr}{ts:List TE}(h:PEs X (a::b::rest) ts):PE X (.JoinedStr (a::b::rest) pos) (aw1 ts Str.empty):=by
 intro pins s σ H Q I hq
 exact JoinedStr_many (ao0 h Str.empty pins s σ H Q I hq)
end
abbrev New (H:Hp) (o:HO) (Q:VK):Prop:=∀ p H',H p=none→Same H H'→H' p=some o→Q (.ref p) H'
theorem Same.new {H:Hp}{p:Addr}{o:HO}(h:H p=none):Same H (upd H p o):=fun b u e=>by rw [a12 (a27 e h)]; exact e
theorem New.to {H:Hp}{Q:VK}{o:HO}(h:New H o Q):∀ p,H p=none→Q (.ref p) (upd H p o):=fun p hp=>h p _ hp (Same.new hp) a32
section
variable {X:Cx}{es:List Expr}{t:TA}{pos:Pos}
def bj8 (t:TA):TE:=fun σ H Q=>t σ H fun xs H1=>xs.length≤sizeLine∧New H1 (.lst xs) Q
def bj9 (t:TA):TE:=fun σ H Q=>t σ H fun xs H1=>xs.length≤sizeLine∧New H1 (.tup xs) Q
theorem a23 {x1}(h:PA X es t):PE X (.Tuple es x1 pos) (bj9 t):=by
 intro pins s σ H Q I hq
 refine wpAny_Tuple_spliced (thn (h pos pins s σ H _ I hq) fun us s1 ⟨xs,H1,I1,r,z,q⟩=>⟨by rw [← r.length]; exact z,?_⟩)
 refine ⟨.ref s1.heap.objs.size,upd H1 s1.heap.objs.size (.tup xs),I1.laid (t':=s1.toks) (fun b u e=>Heap.get?_push_of_some _ e) (Nat.le_refl _) ?_,rfl,New.to q _ (I1.hok.fresh (Nat.le_refl _))⟩
 exact ⟨z,us,r,⟨_,Heap.get?_push_size _ rfl,rfl,_,rfl⟩⟩
theorem a31 (h:PA X es t):PE X (.List es pos) (bj8 t):=by
 intro pins s σ H Q I hq
 refine wpAny_List_spliced (thn (h pos pins s σ H _ I hq) fun us s1 ⟨xs,H1,I1,r,z,q⟩=>⟨by rw [← r.length]; exact z,?_⟩)
 refine ⟨.ref s1.heap.objs.size,upd H1 s1.heap.objs.size (.lst xs),I1.laid (t':=s1.toks) (fun b u e=>Heap.get?_push_of_some _ e) (Nat.le_refl _) ?_,rfl,New.to q _ (I1.hok.fresh (Nat.le_refl _))⟩
 exact ⟨z,us,0,r,Heap.get?_push_size _ rfl⟩
def rSlN (K:PySem.W.Frag):V→Option Int→Option Int→Hp→VK→Prop:=fun x lo hi H Q=>∃ a xs,x=.ref a∧SqL K H a xs∧New H (.lst (cutV xs lo hi)) Q
theorem b50:SlR X (rSlN X.K):=by
 intro pins s σ H x v vl vu lo hi sl Q I rx hs pl pu h
 obtain ⟨a,xs,e,h1,h2⟩:=h
 exact bc3 pins s σ H x v vl vu lo hi sl Q I rx hs pl pu ⟨a,xs,e,h1,New.to h2⟩
theorem aw2:CallR X (.type "list") (fun xs H Q=>∃ p ys,xs=[.ref p]∧(SqL X.K H p ys∨SqT X.K H p ys)∧New H (.lst ys) Q):=by
 intro pins s σ H xs us Q I r h
 obtain ⟨p,ys,e,h1,h2⟩:=h
 exact an2 pins s σ H xs us Q I r ⟨p,ys,e,h1,New.to h2⟩
theorem aq9:CallR X (.type "tuple") (fun xs H Q=>∃ p ys,xs=[.ref p]∧SqL X.K H p ys∧New H (.tup ys) Q):=by
 intro pins s σ H xs us Q I r h
 obtain ⟨p,ys,e,h1,h2⟩:=h
 exact ak4 pins s σ H xs us Q I r ⟨p,ys,e,.inl ⟨h1,New.to h2⟩⟩
end
def rIsi (K:PySem.W.Frag):List V→Hp→VK→Prop:=fun xs H Q=>∃ x n t b,xs=[x,.ty n]∧TyOf K H x t∧PySem.W.kitOne K t (.type n)=some b∧Q (.bl b) H
def tTru (K:PySem.W.Frag) (ta:TE):TT:=fun σ H Q=>ta σ H fun x H'=>∃ k,TruV K x H' k∧Q k H'
def rLen (K:PySem.W.Frag):List V→Hp→VK→Prop:=fun xs H Q=>∃ x n,xs=[x]∧LenV K x H n∧Q (.int n) H
def b90:List V→Hp→VK→Prop:=fun xs H Q=>(∃ i,xs=[.int i]∧Q (.int i) H)∨∃ k,xs=[.bl k]∧Q (.int (if k then 1 else 0)) H
def az4 (K:PySem.W.Frag):List V→Hp→VK→Prop:=fun xs H Q=>∃ p ys,xs=[.ref p]∧(SqL K H p ys∨SqT K H p ys)∧New H (.lst ys) Q
def ar0 (K:PySem.W.Frag):List V→Hp→VK→Prop:=fun xs H Q=>∃ p ys,xs=[.ref p]∧SqL K H p ys∧New H (.tup ys) Q
section
variable {X:Cx}{a:Expr}{ta:TE}
theorem bk0:CallR X (.builtin "isinstance") (rIsi X.K):=b49
theorem bk1 (ha:PE X a ta) (he:∀ whole,isTrue a X.env whole=(do let v←whole; standAt a.pos; holding [v] (truthy v))):PT X a (tTru X.K ta):=b40 ha he
theorem bk2:CallR X (.builtin "len") (rLen X.K):=b42
theorem aj1:CallR X (.type "int") b90:=ax5
theorem bc9:CallR X (.type "list") (az4 X.K):=aw2
theorem b51:CallR X (.type "tuple") (ar0 X.K):=aq9
end
def bd0:R2:=fun x y H Q=>match x,y with
 | .int i,.int j=>Q (.int (i+j)) H
 | .str i,.str j=>i.length+j.length≤sizeLine∧Q (.str (i++j)) H
 | .ref l,.ref b=>∃ xs zs,H l=some (.lst xs)∧H b=some (.lst zs)∧xs.length+zs.length≤sizeLine∧New H (.lst (xs++zs)) Q
 | _,_=>False
def b91:R2:=fun x y H Q=>match x,y with
 | .int i,.int j=>CBig i j∧Q (.int (i*j)) H
 | .str z,.int n=>MulOk z n∧Q (.str (Txt.mul z n)) H
 | _,_=>False
def rStr:List V→Hp→VK→Prop:=fun xs H Q=>match xs with
 | [.int i]=>i.natAbs.log2<1920∧Q (.str (toString i)) H
 | [.str z]=>Q (.str z) H
 | _=>False
section
variable {X:Cx}
theorem a47:OpR X (binaryOp .Add) bd0:=by
 intro pins s σ H x y v u Q I rx ry h
 cases x with
 | int i=>cases y with
   | int j=>exact bh7 pins s σ H _ _ v u Q I rx ry ⟨i,j,rfl,rfl,h⟩
   | _=>exact (show False from h).elim
 | str i=>cases y with
   | str j=>exact av3 pins s σ H _ _ v u Q I rx ry ⟨i,j,rfl,rfl,h⟩
   | _=>exact (show False from h).elim
 | ref l=>cases y with
   | ref b =>
     obtain ⟨xs,zs,h1,h2,h3,h4⟩:=h
     exact bj0 pins s σ H _ _ v u Q I rx ry ⟨l,b,xs,zs,rfl,rfl,h1,h2,h3,New.to h4⟩
   | _=>exact (show False from h).elim
 | _=>exact (show False from h).elim
theorem ac5:OpR X (binaryOp .Mult) b91:=by
 intro pins s σ H x y v u Q I rx ry h
 cases x with
 | int i=>cases y with
   | int j=>exact bj7 pins s σ H _ _ v u Q I rx ry ⟨i,j,rfl,rfl,h⟩
   | _=>exact (show False from h).elim
 | str z=>cases y with
   | int n =>
     obtain ⟨t,rfl⟩:=rx
     obtain ⟨t',rfl⟩:=ry
     exact SB.mul h.1 fun t2 k=>⟨.str _,H,I.tok _,⟨_,rfl⟩,h.2⟩
   | _=>exact (show False from h).elim
 | _=>exact (show False from h).elim
theorem b52:CallR X (.type "str") rStr:=by
 intro pins s σ H xs us Q I r h
 match xs,h with
 | [.int i],h=>exact am4 pins s σ H _ us Q I r ⟨i,rfl,h⟩
 | [.str z],h=>exact an9 pins s σ H _ us Q I r ⟨z,rfl,h⟩
theorem b53 {scope sc:Scope}{Nt Nf:List Str}{caps:List Nat}(hsc:X.env.scope=sc) (kind:scope.kind=.function) (nx:∀ x∈Nf,(x,NameKind.cell)∉scope.names) (nm:∀ y∈scope.names,y.2=.local→scope.names.lookup y.1=some .local)
 (fr:∀ y∈scope.names,y.2=.free→sc.names.lookup y.1=some .cell∨sc.names.lookup y.1=some .free) (cap:caps.map (fun j=>X.N[j]?)=Nf.map some) (vis:∀ x∈Nf,scope.names.lookup x=some .free):CompOk X scope Nt Nf caps :=
 ⟨kind,nx,nm,fun y hy h=>by show X.env.scope.names.lookup y.1=_∨X.env.scope.names.lookup y.1=_; rw [hsc]; exact fr y hy h,cap,vis⟩
theorem ad2 {scope sc:Scope}{Nt Nf:List Str}{caps:List Nat}(hsc:X.env.scope=sc) (kind:scope.kind=.function) (nc:∀ y∈scope.names,y.2≠.cell) (nm:∀ y∈scope.names,y.2=.local→scope.names.lookup y.1=some .local)
 (fr:∀ y∈scope.names,y.2=.free→sc.names.lookup y.1=some .cell∨sc.names.lookup y.1=some .free) (cap:caps.map (fun j=>X.N[j]?)=Nf.map some) (vis:∀ x∈Nf,scope.names.lookup x=some .free):CompOk X scope Nt Nf caps :=
 b53 hsc kind (fun x _ h=>nc (x,.cell) h rfl) nm fr cap vis
abbrev bk3 (J:It) (te:TE) (tt:TT) (caps:List Nat) (σ:St) (H:Hp) (Q:VK):Prop:=∃ W:Nat→Nat→List V→St→Hp→Prop,(∃ m,W 0 m [] (cSt 1 caps σ) H)∧∀ i m acc σ' H',W i m acc σ' H' →
 (J.stop i H'∧∀ l,H' l=none→Q (.ref l) (upd H' l (.lst acc))) ∨
 (J.go i H'∧acc.length<sizeLine∧∃ N:List V→St→Hp→Prop,(∀ ac σ2 H2,N ac σ2 H2→∃ m',m'<m∧W (i+1) m' ac σ2 H2)∧∀ x H2,J.yld i H' x H2→ac9 0 x σ' H2 fun σ3 H3=>tt σ3 H3 fun b H4=>if b=true then te σ3 H4 fun y H5=>N (acc++[y]) σ3 H5 else N acc σ3 H4)
theorem bk4 {J:It}{te:TE}{tt:TT}{caps:List Nat}{σ:St} {H:Hp}{Q:VK}(n:Nat) (hz:n≤sizeLine) (Pv:Nat→List V→Hp→Prop) (h0:Pv 0 [] H) (hl:∀ i acc H,Pv i acc H→acc.length≤i)
 (hgo:∀ i acc H,i<n→Pv i acc H→J.go i H) (hst:∀ acc H,Pv n acc H→J.stop n H)
 (hs:∀ i x acc H H2,i<n→Pv i acc H→J.yld i H x H2→tt (some x::capV caps σ) H2 fun b H4=>if b=true then te (some x::capV caps σ) H4 fun y H5=>Pv (i+1) (acc++[y]) H5 else Pv (i+1) acc H4)
 (hd:∀ acc H,Pv n acc H→New H (.lst acc) Q):bk3 J te tt caps σ H Q:=by
 refine ⟨fun i m acc σ' H=>m=n - i∧i≤n∧(∃ v,σ'=v::capV caps σ)∧Pv i acc H,⟨n,by simp,Nat.zero_le _,⟨none,rfl⟩,h0⟩,?_⟩
 rintro i m acc σ' H' ⟨rfl,hi,⟨v,rfl⟩,p⟩
 by_cases hlt:i<n
 · refine .inr ⟨hgo i acc H' hlt p,?_,fun ac σ2 H2=>(∃ v,σ2=v::capV caps σ)∧Pv (i+1) ac H2,fun ac σ2 H2 ⟨e,p'⟩=>⟨n - (i+1),by omega,rfl,hlt,e,p'⟩,fun x H2 y=>?_⟩
   · have:=hl i acc H' p
     omega
   · have eN:∀ ac H5,((∃ u,some x::capV caps σ=u::capV caps σ)∧Pv (i+1) ac H5)=Pv (i+1) ac H5:=fun ac H5=>propext ⟨And.right,fun p=>⟨⟨_,rfl⟩,p⟩⟩
     show tt (some x::capV caps σ) H2 fun b H4=>if b=true then te (some x::capV caps σ) H4 fun y H5=>((∃ u,some x::capV caps σ=u::capV caps σ)∧Pv (i+1) (acc++[y]) H5) else ((∃ u,some x::capV caps σ=u::capV caps σ)∧Pv (i+1) acc H4)
     simp only [eN]
     exact hs i x acc H' H2 hlt p y
 · have e:i=n:=by omega
   subst e
   exact .inl ⟨hst acc H' p,New.to (hd acc H' p)⟩
theorem bd1 {K:PySem.W.Frag}{a:Addr}{xs:List V}{te:TE}{tt:TT}{caps:List Nat}{σ:St} {H:Hp}{Q:VK}(hz:xs.length≤sizeLine) (Pv:Nat→List V→Hp→Prop) (h0:Pv 0 [] H) (hl:∀ i acc H,Pv i acc H→acc.length≤i∧SqL K H a xs)
 (hs:∀ i x acc H,xs[i]?=some x→Pv i acc H→tt (some x::capV caps σ) H fun b H4=>if b=true then te (some x::capV caps σ) H4 fun y H5=>Pv (i+1) (acc++[y]) H5 else Pv (i+1) acc H4)
 (hd:∀ acc H,Pv xs.length acc H→New H (.lst acc) Q):bk3 (Itl K a) te tt caps σ H Q:=by
 refine bk4 xs.length hz Pv h0 (fun i acc H p=>(hl i acc H p).1) (fun i acc H hi p=>⟨xs,xs[i],(hl i acc H p).2,by simp [hi]⟩) (fun acc H p=>⟨xs,(hl _ acc H p).2,Nat.le_refl _⟩) ?_ hd
 rintro i x acc H1 H2 hi p ⟨rfl,y⟩
 exact hs i x acc _ (y xs (hl i acc _ p).2) p
end
end L2
namespace L2
open PySem
theorem ex_some_and {α:Type}{a:α}{p:α→Prop}:(∃ v,some (some a)=some (some v)∧p v)↔p a:=⟨fun ⟨_,e,h⟩=>by cases e; exact h,fun h=>⟨a,rfl,h⟩⟩
def b92 (J:It) (g:TG) (tb:TS) (D:Ends) (σ:St) (H1:Hp):Prop:=∃ W:Nat→Nat→St→Hp→Prop,(∃ m,W 0 m σ H1)∧∀ i m σ H,W i m σ H →
 (J.stop i H∧D.nx σ H)∨(J.go i H∧∃ N:St→Hp→Prop,(∀ σ' H',N σ' H'→∃ m',m'<m∧W (i+1) m' σ' H')∧∀ x H',J.yld i H x H'→g x σ H' fun σ2 H2=>tb { D with nx:=N,ct:=N,bk:=D.nx } σ2 H2)
def af8 (J:It) (g:TG) (tt:TT) (te:TE) (n:Nat) (caps:List Nat) (σ:St) (H:Hp) (Q:VK):Prop:=∃ W:Nat→Nat→List V→St→Hp→Prop,(∃ m,W 0 m [] (cSt n caps σ) H)∧∀ i m acc σ' H',W i m acc σ' H' →
 (J.stop i H'∧∀ l,H' l=none→Q (.ref l) (upd H' l (.lst acc))) ∨
 (J.go i H'∧acc.length<sizeLine∧∃ N:List V→St→Hp→Prop,(∀ ac σ2 H2,N ac σ2 H2→∃ m',m'<m∧W (i+1) m' ac σ2 H2)∧∀ x H2,J.yld i H' x H2→g x σ' H2 fun σ3 H3=>tt σ3 H3 fun b H4=>if b=true then te σ3 H4 fun y H5=>N (acc++[y]) σ3 H5 else N acc σ3 H4)
section
variable {K:PySem.W.Frag}{a:Addr}{xs:List V}{te:TE}{tt:TT}{caps:List Nat}{σ:St} {H:Hp}{Q:VK}{z:Str}{lo:Int}{n:Nat}
theorem az5 (hz:xs.length≤sizeLine) (Pv:Nat→List V→Hp→Prop) (h0:Pv 0 [] H) (hl:∀ i acc H,Pv i acc H→acc.length≤i∧SqL K H a xs)
 (hs:∀ i x acc H,xs[i]?=some x→Pv i acc H→tt (some x::capV caps σ) H fun b H4=>if b=true then te (some x::capV caps σ) H4 fun y H5=>Pv (i+1) (acc++[y]) H5 else Pv (i+1) acc H4)
 (hd:∀ acc H,Pv xs.length acc H→New H (.lst acc) Q):af8 (Itl K a) (ac9 0) tt te 1 caps σ H Q:=bd1 hz Pv h0 hl hs hd
end
theorem cxOf_K {CX:CXT}{P:Program}{w:World}{K:PySem.W.Frag}{mg:Str→Option Value}{base:Heap}{N:List Str}{qual:Str}{scope:Scope}{f:Addr}{cd:Value}{A:Around}{outer:List Env}{s:Shared}{H:Hp}{E:XK} :
 (cxOf CX P w K mg base N qual scope f cd A outer s H E).K=K:=rfl
theorem cxC_K {X:Cx}{N:List Str}{scope:Scope}{cl:List (Str×Addr)}{C:Addr}{s0:Shared}{H0:Hp}{ex:List Addr}:(cxC X N scope cl C s0 H0 ex).K=X.K:=rfl
theorem Same.seqT {K:PySem.W.Frag}{H H':Hp}{a:Addr}{xs:List V}(e:Same H H') (h:SqT K H a xs):SqT K H' a xs:=by
 rcases h with (h | ⟨o,h⟩) | h
 · exact .inl (.inl (e _ _ h))
 · exact .inl (.inr ⟨o,e _ _ h⟩)
 · exact .inr h
section
variable {X:Cx}
theorem a29 (K:PySem.W.Frag) (hK:X.K=K:=by rfl):IxR X (rIxL K):=hK ▸ bc2
theorem a06 (K:PySem.W.Frag) (hK:X.K=K:=by rfl):IxR X (rIxT K):=hK ▸ bi7
theorem at8 (K:PySem.W.Frag) (hK:X.K=K:=by rfl):SlR X (rSlN K):=hK ▸ b50
theorem ak7 (K:PySem.W.Frag) (hK:X.K=K:=by rfl):CallR X (.builtin "isinstance") (rIsi K):=hK ▸ bk0
theorem a97 (K:PySem.W.Frag) (hK:X.K=K:=by rfl):CallR X (.builtin "len") (rLen K):=hK ▸ bk2
theorem a84 (K:PySem.W.Frag) (hK:X.K=K:=by rfl):CallR X (.type "list") (az4 K):=hK ▸ bc9
theorem a73 (K:PySem.W.Frag) (hK:X.K=K:=by rfl):CallR X (.type "tuple") (ar0 K):=hK ▸ b51
theorem az6 (K:PySem.W.Frag) (hK:X.K=K:=by rfl):OpR X (compareOp .NotIn) (rIn K true):=hK ▸ an1
theorem ad3 (K:PySem.W.Frag) {a:Expr}{ta:TE}(ha:PE X a ta) (he:∀ whole,isTrue a X.env whole=(do let v←whole; standAt a.pos; holding [v] (truthy v))) (hK:X.K=K:=by rfl):PT X a (tTru K ta):=hK ▸ bk1 ha he
theorem ak8 (K:PySem.W.Frag) {tg l:Expr}{tl:TE}(hl:PE X l tl) (hK:X.K=K:=by rfl):PI X tg l (ba9 K tl):=hK ▸ bb0 hl
theorem ar1 (K:PySem.W.Frag) {tg l:Expr}{tl:TE}(hl:PE X l tl) (hK:X.K=K:=by rfl):PI X tg l (iTup K tl):=hK ▸ bh5 hl
theorem a98 (K:PySem.W.Frag) {pos:Pos}{es:List Expr}{k:Nat}{t:TGs}{n:Nat}(hc:X.calm=true) (h:PGs X es t) (hn:(assignEach es X.env).length=n:=by rfl) (hst:(assignEach es X.env).findIdx? (·.1)=none:=by rfl) (hK:X.K=K:=by rfl) :
 PG X (.Tuple es k pos) (gTup K n t):=hK ▸ bh4 hc h hn hst
theorem af9 (K:PySem.W.Frag) {o:Expr}{to:TE}{name:Str}{apos cpos:Pos}{T id:String}{r:V→List V→Hp→VK→Prop}(pa:PlainAttrs T) (slot:Slot T name id) (hty:typeOf (.builtin id)=pure (.type "method_descriptor")) (hm:MtR X id r) (ho:PE X o to)
 (hbase:attributeBase o name X.env (eval o X.env)=eval o X.env:=by rfl) (hline:(apos.endLine == cpos.line)=true:=by rfl) (hK:X.K=K:=by rfl):PE X (.Call (.Attribute o name apos) [] [] cpos) (tBM0 K T r to):=hK ▸ bi9 pa slot hty hm ho hbase hline
theorem a74 (K:PySem.W.Frag) {o e:Expr}{es:List Expr}{to:TE}{t:TA}{name:Str}{apos cpos:Pos}{T id:String}{r:V→List V→Hp→VK→Prop}(pa:PlainAttrs T) (slot:Slot T name id) (hty:typeOf (.builtin id)=pure (.type "method_descriptor")) (hm:MtR X id r) (ho:PE X o to) (ha:PA X (e::es) t)
 (hbase:attributeBase o name X.env (eval o X.env)=eval o X.env:=by rfl)
 (hfew:((backTo cpos (starEach (e::es) X.env)).all (fun x=>!x.1) && (backToKw cpos (keywordEach [] X.env)).all (fun x=>x.1.isSome) && decide ((e::es).length+([]:List Keyword).length+(if ([]:List Keyword).isEmpty then 0 else 1)<30))=true:=by rfl)
 (hline:(apos.endLine == cpos.line)=true:=by rfl) (hs:starEach (e::es) X.env=(false,eval e X.env)::starEach es X.env:=by rfl) (hplain:(backTo cpos (starEach es X.env)).any (·.1)=false:=by rfl) (hK:X.K=K:=by rfl) :
 PE X (.Call (.Attribute o name apos) (e::es) [] cpos) (tBM K T r to t):=hK ▸ bq8 pa slot hty hm ho ha hbase hfew hline hs hplain
end
theorem ad7:bootBuiltins "len"=some (.builtin "len"):=by decide +kernel
theorem a54:bootBuiltins "isinstance"=some (.builtin "isinstance"):=by decide +kernel
theorem bk5:bootBuiltins "abs"=some (.builtin "abs"):=by decide +kernel
theorem ag0:bootBuiltins "int"=some (.type "int"):=by decide +kernel
theorem bk6:bootBuiltins "str"=some (.type "str"):=by decide +kernel
theorem bd2:bootBuiltins "bool"=some (.type "bool"):=by decide +kernel
theorem a99:bootBuiltins "list"=some (.type "list"):=by decide +kernel
theorem a85:bootBuiltins "tuple"=some (.type "tuple"):=by decide +kernel
def Bd (p:Nat) (x:Int):Prop:=x.natAbs<2 ^ p
theorem Bd.mono {p q:Nat}{x:Int}(h:Bd p x) (l:p≤q):Bd q x:=Nat.lt_of_lt_of_le h (Nat.pow_le_pow_right (by decide) l)
theorem Bd.mul {p q:Nat}{x y:Int}(h:Bd p x) (h':Bd q y):Bd (p+q) (x*y):=by
 unfold Bd at *
 rw [Int.natAbs_mul,Nat.pow_add]
 exact Nat.mul_lt_mul'' h h'
theorem Bd.add {p:Nat}{x y:Int}(h:Bd p x) (h':Bd p y):Bd (p+1) (x+y):=by
 unfold Bd at *
 have:(x+y).natAbs≤x.natAbs+y.natAbs:=Int.natAbs_add_le x y
 rw [Nat.pow_succ]
 omega
theorem Bd.big {p q:Nat}{x y:Int}(h:Bd p x) (h':Bd q y) (hp:p≤4096:=by decide) (hq:q≤4096:=by decide):CBig x y:=.inl ⟨h.mono hp,h'.mono hq⟩
theorem Bd.of {p:Nat}{x:Int}(h0:0≤x) (h1:x<2 ^ p):Bd p x:=by
 unfold Bd
 have e:((2 ^ p:Nat):Int)=(2:Int) ^ p:=by norm_cast
 omega
end L2
local macro_rules | `(tactic| walk_at "rd") => `(tactic| simp only [L2.tCB, L2.tCons, L2.tNil, L2.tVar, L2.rStr, L2.tNoIf, L2.capV, List.map_nil, List.getElem?_cons_zero, L2.ex_some_and, if_true])
namespace L2
open PySem
theorem le_line {n:Nat}(h:n≤1000000):n≤sizeLine:=Nat.le_trans h (by decide)
theorem aw3 {ys:List Str}{i:Nat}{y:Str}(e:ys[i]?=some y):a35 (ys.take i)++[V.str y]=a35 (ys.take (i+1)):=by
 unfold a35
 rw [List.take_add_one,e]
 simp
theorem ao1 {i:Int}(h:i.natAbs<2 ^ 64):i.natAbs.log2<1920:=by
 by_cases h0:i.natAbs=0
 · rw [h0]; decide
 · exact Nat.lt_of_lt_of_le ((Nat.log2_lt h0).mpr h) (by decide)
theorem bk7 {x y:Str}(h:x.cps.toList=y.cps.toList):x=y:=by
 cases x; cases y
 simp at h
 simp [h]
theorem bk8 (x y:Str):(x++y).cps.toList=x.cps.toList++y.cps.toList:=by
 show (x.cps++y.cps).toList=_
 simp
theorem b54 (x:Str):Str.empty++x=x:=bk7 (by rw [bk8]; rfl)
theorem az7 {k:Int}(h0:0≤k) (h1:k<10):k=0∨k=1∨k=2∨k=3∨k=4∨k=5∨k=6∨k=7∨k=8∨k=9:=by
 obtain ⟨n,rfl⟩:=Int.eq_ofNat_of_zero_le h0
 exact (by decide:∀ n:Nat,n<10→(n:Int)=0∨(n:Int)=1∨(n:Int)=2∨(n:Int)=3∨(n:Int)=4∨(n:Int)=5∨(n:Int)=6∨(n:Int)=7∨(n:Int)=8∨(n:Int)=9) n (Int.ofNat_lt.mp h1)
theorem az8 {k:Int}(h0:0≤k) (h1:k<10):(Str.ofString (toString k)).length=1:=by
 rcases az7 h0 h1 with rfl | rfl | rfl | rfl | rfl | rfl | rfl | rfl | rfl | rfl <;> decide +kernel
theorem nox_K {X:Cx}:X.nox.K=X.K:=rfl
theorem wish_K {X:Cx}{E:Value→Shared→Prop}:(X.wish E).K=X.K:=rfl
section
variable {σ:St} {H:Hp}{Q:VK}{D:Ends}{nn bb cc:St→Hp→Prop}{rr:VK}{t u:TS}{ta tb tc te:TE}{tA tB:TT}{g:TG}{QT:Bool→Hp→Prop}{QA:List V→Hp→Prop}{QS:St→Hp→Prop}
theorem br8 (h:te σ H fun x H1=>g x σ H1 nn):tAsg te g ⟨nn,rr,bb,cc⟩ σ H:=h
theorem i_name {i:Nat}{v:V}(h:QS (σ.set i (some v)) H):ac9 i v σ H QS:=h
theorem i_var {i:Nat}{v:V}(e:σ[i]?=some (some v)) (h:Q v H):tVar i σ H Q:=⟨v,e,h⟩
theorem i_c {v:V}(h:Q v H):tC v σ H Q:=h
theorem i_op {r:R2}(h:ta σ H fun x H1=>tb σ H1 fun y H2=>r x y H2 Q):tOp r ta tb σ H Q:=h
theorem i_un {r:V→Hp→VK→Prop}(h:ta σ H fun x H1=>r x H1 Q):tUn r ta σ H Q:=h
theorem i_rU {f:Int→V}{i:Int}(h:Q (f i) H):rU f (.int i) H Q:=⟨i,rfl,h⟩
theorem i_rI {C:Int→Int→Prop}{f:Int→Int→V}{i j:Int}(c:C i j) (h:Q (f i j) H):rI C f (.int i) (.int j) H Q:=⟨i,j,rfl,rfl,c,h⟩
theorem br9 {f:Int→Int→V}{i j:Int}(h:Q (f i j) H):rI0 f (.int i) (.int j) H Q:=⟨i,j,rfl,rfl,h⟩
theorem bd3 {i j:Int}(h:Q (.int (i+j)) H):bd0 (.int i) (.int j) H Q:=h
theorem az9 {x y:Str}(z:x.length+y.length≤sizeLine) (h:Q (.str (x++y)) H):bd0 (.str x) (.str y) H Q:=⟨z,h⟩
theorem ak9 {i j:Int}(c:CBig i j) (h:Q (.int (i*j)) H):b91 (.int i) (.int j) H Q:=⟨c,h⟩
theorem decI (i j:Int):decide (V.int i=V.int j)=decide (i=j):=by rw [Bool.eq_iff_iff]; simp
theorem decS (i j:Str):decide (V.str i=V.str j)=decide (i=j):=by rw [Bool.eq_iff_iff]; simp
theorem decB (i j:Bool):decide (V.bl i=V.bl j)=decide (i=j):=by rw [Bool.eq_iff_iff]; simp
theorem bs1 {i j:Int}(h:Q (.bl (decide (i=j))) H):rEq (.int i) (.int j) H Q:=⟨rfl,by rw [decI]; exact h⟩
theorem bs2 {i j:Str}(h:Q (.bl (decide (i=j))) H):rEq (.str i) (.str j) H Q:=⟨rfl,by rw [decS]; exact h⟩
theorem bs3 {i j:Int}(h:Q (.bl (!decide (i=j))) H):rNe (.int i) (.int j) H Q:=⟨rfl,by rw [decI]; exact h⟩
theorem bs4 {i j:Str}(h:Q (.bl (!decide (i=j))) H):rNe (.str i) (.str j) H Q:=⟨rfl,by rw [decS]; exact h⟩
theorem bs5 {i j:Bool}(h:Q (.bl (!decide (i=j))) H):rNe (.bl i) (.bl j) H Q:=⟨rfl,by rw [decB]; exact h⟩
theorem bk9 (h:te σ H fun x H'=>∃ k,x=.bl k∧QT k H'):bi0 te σ H QT:=h
theorem i_bl {k:Bool}{p:Bool→Prop}(h:p k):∃ j,V.bl k=V.bl j∧p j:=⟨k,rfl,h⟩
theorem bs6 (h:tA σ H fun b H1=>if b=true then t D σ H1 else u D σ H1):tIfS tA t u D σ H:=h
theorem i_if (h:tA σ H fun b H1=>if b=true then ta σ H1 Q else tb σ H1 Q):tIf tA ta tb σ H Q:=h
theorem bs7 (h:te σ H rr):tRet te ⟨nn,rr,bb,cc⟩ σ H:=h
theorem bl0 (h:nn σ H):bh2 ⟨nn,rr,bb,cc⟩ σ H:=h
theorem bl1 (h:te σ H fun _ H1=>nn σ H1):bh3 te ⟨nn,rr,bb,cc⟩ σ H:=h
theorem bl2 {tr:TA}(h:te σ H fun x H1=>tr σ H1 fun xs H2=>QA (x::xs) H2):tCons te tr σ H QA:=h
theorem bs8 (h:QA [] H):tNil σ H QA:=h
theorem i_cb {r:List V→Hp→VK→Prop}{ts:TA}(h:ts σ H fun vs H1=>r vs H1 Q):tCB r ts σ H Q:=h
theorem bl3 {sp:Sp}{dvs:List V}{E:XK}{ts:TA}(h:ts σ H fun vs H1=>sp (vs++dvs) H1 Q E):bi4 sp dvs E ts σ H Q:=h
theorem bs9 {ts:TA}(h:ts σ H fun xs H1=>xs.length≤sizeLine∧New H1 (.lst xs) Q):bj8 ts σ H Q:=h
theorem bt0 {ts:TA}(h:ts σ H fun xs H1=>xs.length≤sizeLine∧New H1 (.tup xs) Q):bj9 ts σ H Q:=h
theorem bl4 {n:Nat}{P:Prop}(h:n≤sizeLine) (p:P):n≤sizeLine∧P:=⟨h,p⟩
theorem i_rgA {j:Int}{P:Prop}(h:-(2 ^ 62)≤j) (h':j<2 ^ 62) (p:P):-(2 ^ 62)≤j∧j<2 ^ 62∧P:=⟨h,h',p⟩
theorem bl5 (h:QT true H):tNoIf σ H QT:=h
theorem bt1 (h:tA σ H fun c H1=>QT (!c) H1):tNot tA σ H QT:=h
theorem bt2 (h:tA σ H fun c H1=>if c=true then tB σ H1 QT else QT false H1):tAnd tA tB σ H QT:=h
theorem i_or (h:tA σ H fun c H1=>if c=true then QT true H1 else tB σ H1 QT):tOr tA tB σ H QT:=h
theorem bl6 (h:ta σ H fun x H1=>∃ c,x=.bl c∧if c=true then tb σ H1 Q else Q (.bl false) H1):bh0 ta tb σ H Q:=h
theorem bl7 (h:ta σ H fun x H1=>∃ c,x=.bl c∧Q (.bl (!c)) H1):bh1 ta σ H Q:=h
theorem bl8 {i:Int}(z:i.natAbs.log2<1920) (h:Q (.str (Str.ofString (toString i))) H):rStr [.int i] H Q:=⟨z,h⟩
theorem bt3 {wi:TI}(h:wi σ H fun J H1=>b92 J g t D σ H1):tFor wi g t D σ H:=h
theorem i_lc {wi:TI}{n:Nat}{caps:List Nat}(h:wi σ H fun J H1=>af8 J g tA te n caps σ H1 Q):tLC wi g tA te n caps σ H Q:=h
theorem bl9 {R:It→Hp→Prop}{ts:TA}(h:ts σ H fun vs H1=>∃ j:Int,vs=[.int j]∧-(2 ^ 62)≤j∧j<2 ^ 62∧R (Itr 0 j.toNat) H1):bh6 ts σ H R:=h
theorem bd4 {K:PySem.W.Frag}{R:It→Hp→Prop}(h:te σ H fun x H1=>∃ a,x=.ref a∧(∃ xs,SqL K H1 a xs)∧R (Itl K a) H1):ba9 K te σ H R:=h
theorem bm0 {K:PySem.W.Frag}{R:It→Hp→Prop}(h:te σ H fun x H1=>∃ a,x=.ref a∧(∃ xs,SqT K H1 a xs)∧R (Itt K a) H1):iTup K te σ H R:=h
theorem bt4 {j:Int}{p:Int→Prop}(h:p j):∃ i:Int,[V.int j]=[V.int i]∧p i:=⟨j,rfl,h⟩
theorem bt5 {a:Addr}{p:Addr→Prop}(h:p a):∃ b,V.ref a=V.ref b∧p b:=⟨a,rfl,h⟩
theorem i_sx {z:Str}{p:Str→Prop}(h:p z):∃ b,V.str z=V.str b∧p b:=⟨z,rfl,h⟩
theorem i_bm {K:PySem.W.Frag}{T:String}{r:V→List V→Hp→VK→Prop}{to:TE}{ts:TA}(h:to σ H fun x H1=>tyV K T x H1∧ts σ H1 fun xs H2=>r x xs H2 Q):tBM K T r to ts σ H Q:=h
theorem bt6 {K:PySem.W.Frag}{T:String}{r:V→List V→Hp→VK→Prop}{to:TE}(h:to σ H fun x H1=>tyV K T x H1∧r x [] H1 Q):tBM0 K T r to σ H Q:=h
theorem a45 {K:PySem.W.Frag}{p:Addr}{xs:List V}{i:Int}{v:V}(h1:SqL K H p xs) (h2:atI xs i=some v) (h:Q v H):rIxL K (.ref p) (.int i) H Q:=⟨p,xs,i,v,rfl,rfl,h1,h2,h⟩
theorem a22 {K:PySem.W.Frag}{p:Addr}{xs:List V}{i:Int}{v:V}(h1:SqT K H p xs) (h2:atI xs i=some v) (h:Q v H):rIxT K (.ref p) (.int i) H Q:=⟨p,xs,i,v,rfl,rfl,h1,h2,h⟩
theorem i_sl {r:V→Option Int→Option Int→Hp→VK→Prop}{tl th:TO}(h:te σ H fun x H1=>tl σ H1 fun l H2=>th σ H2 fun u H3=>r x l u H3 Q):tSl r te tl th σ H Q:=h
theorem b55 {QO:Option Int→Hp→Prop}(h:QO none H):ay0 σ H QO:=h
theorem bm1 {QO:Option Int→Hp→Prop}(h:te σ H fun x H1=>∃ i,x=.int i∧QO (some i) H1):bi6 te σ H QO:=h
theorem bt7 {i:Int}{p:Int→Prop}(h:p i):∃ j,V.int i=V.int j∧p j:=⟨i,rfl,h⟩
theorem bm2 {K:PySem.W.Frag}{a:Addr}{xs:List V}{lo hi:Option Int}(h1:SqL K H a xs) (h:New H (.lst (cutV xs lo hi)) Q):rSlN K (.ref a) lo hi H Q:=⟨a,xs,rfl,h1,h⟩
theorem bt8 {A B:Prop}(h:A):if true=true then A else B:=iteT h
theorem bt9 {A B:Prop}(h:B):if false=true then A else B:=iteF h
theorem bm3 {A B:Prop}(h:B):if (!true)=true then A else B:=iteF h
theorem a26 {c A B:Prop} [Decidable c] (hc:c) (h:A):if decide c=true then A else B:=by rw [decide_eq_true hc]; exact iteT h
theorem a24 {c A B:Prop} [Decidable c] (hc:¬ c) (h:B):if decide c=true then A else B:=by rw [decide_eq_false hc]; exact iteF h
theorem aj2 {c A B:Prop} [Decidable c] (hc:¬ c) (h:A):if (!decide c)=true then A else B:=by rw [decide_eq_false hc]; exact iteT h
theorem ao2 {c A B:Prop} [Decidable c] (hc:c) (h:B):if (!decide c)=true then A else B:=by rw [decide_eq_true hc]; exact iteF h
theorem bm4 {K:PySem.W.Frag}{z:Bool}(h:Q (.bl true) H):rIsi K [V.bl z,V.ty "bool"] H Q:=⟨_,_,_,true,rfl,.bl z,rfl,h⟩
theorem bm5 {K:PySem.W.Frag}{z:Int}(h:Q (.bl true) H):rIsi K [V.int z,V.ty "int"] H Q:=⟨_,_,_,true,rfl,.int z,rfl,h⟩
theorem bm6 {K:PySem.W.Frag}{a:Addr}{xs:List V}(e:H a=some (.lst xs)) (h:Q (.bl true) H):rIsi K [V.ref a,V.ty "list"] H Q:=⟨_,_,_,true,rfl,.lst e,rfl,h⟩
theorem bu0 {K:PySem.W.Frag}(h:te σ H fun x H'=>∃ k,TruV K x H' k∧QT k H'):tTru K te σ H QT:=h
theorem bm7 {K:PySem.W.Frag}{k:Bool}{p:Bool→Prop}(h:p k):∃ j,TruV K (.bl k) H j∧p j:=⟨k,rfl,h⟩
theorem ag1 {K:PySem.W.Frag}{p:Addr}{xs:List V}(h1:SqL K H p xs) (h:Q (.int xs.length) H):rLen K [V.ref p] H Q:=⟨_,_,rfl,.inl ⟨xs,h1,rfl⟩,h⟩
theorem bm8 {K:PySem.W.Frag}{p:Addr}{xs:List V}(h1:SqT K H p xs) (h:Q (.int xs.length) H):rLen K [V.ref p] H Q:=⟨_,_,rfl,.inr ⟨xs,h1,rfl⟩,h⟩
theorem bm9 {k:Bool}(h:Q (.int (if k then 1 else 0)) H):b90 [V.bl k] H Q:=.inr ⟨k,rfl,h⟩
theorem al0 {K:PySem.W.Frag}{p:Addr}{ys:List V}(h1:SqL K H p ys) (h:New H (.lst ys) Q):az4 K [.ref p] H Q:=⟨p,ys,rfl,.inl h1,h⟩
theorem aa8 {K:PySem.W.Frag}{p:Addr}{ys:List V}(h1:SqL K H p ys) (h:New H (.tup ys) Q):ar0 K [.ref p] H Q:=⟨p,ys,rfl,h1,h⟩
end
end L2
namespace L2
open PySem PySem.Spec PyProof.Rows
def b93 (K:PySem.W.Frag):V→List V→Hp→VK→Prop:=fun x vs H Q=>∃ l ys y j,x=.ref l∧vs=[.str y]∧SqL K H l (a35 ys)∧ys[j]?=some y∧(∀ m,m<j→ys[m]?≠some y)∧Q (.int (j:Nat)) H
section
variable {X:Cx}
theorem ag2 (K:PySem.W.Frag) (hK:X.K=K:=by rfl):MtR X "list.index" (b93 K):=by
 subst hK
 intro pins s σ H x vs v us Q I rx rv h
 obtain ⟨l,ys,y,j,rfl,rfl,hq,hj,hno,q⟩:=h
 cases rx
 obtain ⟨u,rfl,ru⟩:=rv.one
 obtain ⟨its,r,pl,hz⟩:=I.list hq
 have hlen:ys.length=its.length:=by have:=r.length; simpa [a35] using this
 have hjl:j<its.length:=by have:=(List.getElem?_eq_some_iff.mp hj).1; omega
 obtain ⟨o,n,e,hc,hd,hs⟩:=pl
 obtain ⟨cls,dd,data,sl⟩:=o
 simp only at hc hd hs
 subst hc hs
 have fy:ad0 (.str y)=true:=rfl
 have fs:(a35 ys).all ad0=true:=by simp [a35,ad0]
 have at_:∀ (m:Nat) (hm:m<its.toArray.size),∃ z,ys[m]?=some z∧eqU (.str y) its.toArray[m]=(z == y):=fun m hm=>by
  obtain ⟨z,t,ez,eu⟩:=az3 r m (by simpa using hm)
  have g1:its.toArray[m]=.str z t:=by simpa using eu
  exact ⟨z,ez,by rw [g1]; rfl⟩
 have hl16:its.length≤sizeLine:=by have:=r.length; omega
 have hsm:((j:Nat):Int)<2 ^ 63 - 1:=by
  have:(sizeLine:Nat)+1<2 ^ 63:=by rw [sizeLine_eq]; decide
  omega
 refine call_meets F.slot_list_index ⟨_,e,rfl⟩ F.entry_list_index (F.args_list_index_2 _ _) (SeqAt.list_indexAt l its.toArray n dd sl u (eqU (.str y)) j (by simpa using hjl) hsm ?_ ?_) ⟨e,?_,⟨.int j,H,I.tok _,⟨_,rfl⟩,q⟩⟩
 · obtain ⟨z,ez,eq⟩:=at_ j (by simpa using hjl)
   rw [eq]
   rw [hj] at ez
   cases ez
   simp
 · intro m hm hmj
   obtain ⟨z,ez,eq⟩:=at_ m hm
   rw [eq]
   have:z≠y:=fun e=>hno m hmj (by rw [ez,e])
   simpa using this
 · intro w hw
   exact ae2 ru fy r fs w (by simpa using hw)
end
theorem b56 {K:PySem.W.Frag}{a:Addr}{xs:List V}{te:TE}{tt:TT}{caps:List Nat}{σ:St} {H:Hp}{Q:VK}(hz:xs.length≤sizeLine) (Pv:Nat→List V→Hp→Prop) (h0:Pv 0 [] H) (hl:∀ i acc H,Pv i acc H→acc.length≤i∧SqL K H a xs)
 (hs:∀ i x acc H,xs[i]?=some x→Pv i acc H→∃ p u v,x=.ref p∧SqT K H p [u,v]∧tt (some u::some v::capV caps σ) H fun b H4=>if b=true then te (some u::some v::capV caps σ) H4 fun y H5=>Pv (i+1) (acc++[y]) H5 else Pv (i+1) acc H4)
 (hd:∀ acc H,Pv xs.length acc H→New H (.lst acc) Q):af8 (Itl K a) (gTup K 2 (aq5 (ac9 0) (aq5 (ac9 1) gNil))) tt te 2 caps σ H Q:=by
 refine ⟨fun i m acc σ' H=>m=xs.length - i∧i≤xs.length∧(∃ u v,σ'=u::v::capV caps σ)∧Pv i acc H,⟨xs.length,by simp,Nat.zero_le _,⟨none,none,rfl⟩,h0⟩,?_⟩
 rintro i m acc σ' H' ⟨rfl,hi,⟨u0,v0,rfl⟩,p⟩
 obtain ⟨hl1,hq⟩:=hl i acc H' p
 by_cases hlt:i<xs.length
 · refine .inr ⟨⟨xs,xs[i],hq,by simp [hlt]⟩,by omega,fun ac σ2 H2=>(∃ u v,σ2=u::v::capV caps σ)∧Pv (i+1) ac H2,fun ac σ2 H2 ⟨e,p'⟩=>⟨xs.length - (i+1),by omega,rfl,hlt,e,p'⟩,fun x H2 y=>?_⟩
   obtain ⟨e,y⟩:=y
   subst e
   obtain ⟨q,u,v,rfl,hT,hst⟩:=hs i x acc _ (y xs hq) p
   have eN:∀ ac H5,((∃ u1 v1,some u::some v::capV caps σ=u1::v1::capV caps σ)∧Pv (i+1) ac H5)=Pv (i+1) ac H5:=fun ac H5=>propext ⟨And.right,fun p=>⟨⟨_,_,rfl⟩,p⟩⟩
   refine ⟨q,[u,v],rfl,hT,rfl,u,[v],rfl,v,[],rfl,rfl,?_⟩
   show tt (some u::some v::capV caps σ) _ fun b H4=>if b=true then te (some u::some v::capV caps σ) H4 fun y H5=>((∃ u1 v1,some u::some v::capV caps σ=u1::v1::capV caps σ)∧Pv (i+1) (acc++[y]) H5) else ((∃ u1 v1,some u::some v::capV caps σ=u1::v1::capV caps σ)∧Pv (i+1) acc H4)
   simp only [eN]
   exact hst
 · have e:i=xs.length:=by omega
   subst e
   exact .inl ⟨⟨xs,hq,Nat.le_refl _⟩,New.to (hd acc H' p)⟩
section
variable {σ:St} {H:Hp}{Q:VK}
theorem ar2 {K:PySem.W.Frag}{l:Addr}{ys:List Str}{y:Str}{j:Nat}(h1:SqL K H l (a35 ys)) (h2:ys[j]?=some y) (h3:∀ m,m<j→ys[m]?≠some y) (h:Q (.int (j:Nat)) H):b93 K (.ref l) [.str y] H Q:=⟨l,ys,y,j,rfl,rfl,h1,h2,h3,h⟩
theorem a58 {l:Addr}{xs:List V}{y:V}(h1:H l=some (.lst xs)) (hz:xs.length<sizeLine) (h:Q .non (upd H l (.lst (xs++[y])))):ay3 (.ref l) [y] H Q:=⟨l,xs,y,rfl,rfl,h1,hz,h⟩
theorem bd5 {l:Addr}{xs:List V}{y:V}(h1:H l=some (.lst (xs++[y]))) (h:Q y (upd H l (.lst xs))):rPop (.ref l) [] H Q:=⟨l,xs++[y],y,rfl,rfl,h1,by simp,by simpa using h⟩
theorem a89 {K:PySem.W.Frag}{l:Addr}{xs:List V}{P:Prop}(h1:SqL K H l xs) (h:P):tyV K "list" (.ref l) H∧P:=⟨.inl ⟨rfl,xs,h1⟩,h⟩
end
def Tups (H H':Hp):Prop:=∀ b xs,H b=some (.tup xs)→H' b=some (.tup xs)
theorem Same.tups {H H':Hp}(s:Same H H'):Tups H H':=fun b xs h=>s b _ h
theorem Tups.trans {H H1 H2:Hp}(a:Tups H H1) (b:Tups H1 H2):Tups H H2:=fun c xs h=>b c xs (a c xs h)
theorem Tups.upd {H:Hp}{l:Addr}{xs:List V}{o:HO}(h:H l=some (.lst xs)):Tups H (upd H l o):=fun b ys e=>by rw [a12 (aj5 e h (fun z=>nomatch z))]; exact e
theorem vac {P:Program}{w:World}{K:PySem.W.Frag}{mg:Str→Option Value}{base:Heap}{CX:CXT}{k:Nat}{f:Addr}{fd:FuncData}{ps:List Str}{sp:Sp}(h:∀ vs H Q E,¬ sp vs H Q E):FnOk P w K mg base CX k f fd ps sp :=
 ⟨fun vs H Q E q=>(h _ _ _ _ q).elim,fun A outer s H args us vs Q E _ _ _ _ q=>(h _ _ _ _ q).elim⟩
end L2
namespace L2
open PySem
theorem Same.updNew {H H1:Hp}{l:Addr}{o:HO}(s:Same H H1) (h:H l=none):Same H (upd H1 l o):=fun b u e=>by rw [a12 (a27 e h)]; exact s b u e
inductive Ex where
 | num (i:Int)
 | box (n:Str)
 | two (k:Bool) (a b:Ex)
def Ex.h:Ex→Nat
 | .num _=>0
 | .box _=>0
 | .two _ a b=>max a.h b.h+1
def Ex.ok (ns:List Str):Ex→Prop
 | .num i=>0≤i∧i<10
 | .box n=>n∈ns
 | .two _ a b=>a.ok ns∧b.ok ns
def b57 (k:Bool):Str:=if k then "plus" else "less"
def Ex.At (H:Hp):Ex→V→Prop
 | .num i,v=>∃ a,v=.ref a∧H a=some (.tup [.str "number",.int i])
 | .box n,v=>∃ a,v=.ref a∧H a=some (.tup [.str "box",.str n])
 | .two k e f,v=>∃ a x y,v=.ref a∧H a=some (.tup [.str (b57 k),x,y])∧e.At H x∧f.At H y
theorem Ex.At.mono {H H':Hp}(t:Tups H H'):∀ {e:Ex}{v:V},e.At H v→e.At H' v
 | .num _,_,⟨a,h1,h2⟩=>⟨a,h1,t _ _ h2⟩
 | .box _,_,⟨a,h1,h2⟩=>⟨a,h1,t _ _ h2⟩
 | .two _ e f,_,⟨a,x,y,h1,h2,h3,h4⟩=>⟨a,x,y,h1,t _ _ h2,Ex.At.mono t h3,Ex.At.mono t h4⟩
def bval:List Str→List Int→Str→Int
 | m::ns,v::vs,n=>if m=n then v else bval ns vs n
 | _,_,_=>0
def Ex.ev (ns:List Str) (vs:List Int):Ex→Int
 | .num i=>i
 | .box n=>bval ns vs n
 | .two k a b=>if k then a.ev ns vs+b.ev ns vs else a.ev ns vs - b.ev ns vs
theorem ar3:∀ {ns:List Str}{vs:List Int}{n:Str},n∈ns→ns.length≤vs.length→∃ j:Nat,ns[j]?=some n∧(∀ m:Nat,m<j→ns[m]?≠some n)∧vs[j]?=some (bval ns vs n)
 | [],_,_,h,_=>nomatch h
 | m::ns,[],n,_,hl=>by simp at hl
 | m::ns,v::vs,n,h,hl=>by
   by_cases e:m=n
   · exact ⟨0,by simp [e],fun m h=>absurd h (Nat.not_lt_zero _),by simp [bval,e]⟩
   · have h':n∈ns:=by
      rcases List.mem_cons.mp h with z | z
      · exact absurd z.symm e
      · exact z
     obtain ⟨j,h1,h2,h3⟩:=ar3 (vs:=vs) h' (by simpa using hl)
     refine ⟨j+1,by simpa using h1,fun k hk=>?_,by simpa [bval,e] using h3⟩
     cases k with
     | zero=>simpa using e
     | succ k=>simpa using h2 k (by omega)
inductive Boxes (H:Hp):List V→List Str→Prop
 | nil:Boxes H [] []
 | cons {p:Addr}{n:Str}{z:Int}{xs ns}:H p=some (.tup [.str n,.int z])→Boxes H xs ns→Boxes H (.ref p::xs) (n::ns)
theorem Boxes.mono {H H':Hp}(t:Tups H H') {xs:List V}{ns:List Str}(b:Boxes H xs ns):Boxes H' xs ns:=by
 induction b with
 | nil=>exact .nil
 | cons h _ ih=>exact .cons (t _ _ h) ih
theorem Boxes.len {H:Hp}{xs:List V}{ns:List Str}(b:Boxes H xs ns):xs.length=ns.length:=by
 induction b with
 | nil=>rfl
 | cons _ _ ih=>simp [ih]
theorem Boxes.get {H:Hp}:∀ {xs:List V}{ns:List Str},Boxes H xs ns→∀ (i:Nat) (x:V),xs[i]?=some x→∃ (p:Addr) (n:Str) (z:Int),x=.ref p∧ns[i]?=some n∧H p=some (.tup [.str n,.int z])
 | _,_,.nil,i,x,e=>by simp at e
 | _,_,.cons h r,0,x,e=>by simp at e; subst e; exact ⟨_,_,_,rfl,rfl,h⟩
 | _,_,.cons h r,i+1,x,e=>r.get i x (by simpa using e)
theorem bd6 {vs:List Int}{j:Nat}{v:Int}(h:vs[j]?=some v):atI (vs.map V.int) (j:Int)=some (.int v):=a03 (by rw [List.getElem?_map,h]; rfl)
end L2
namespace L2
open PySem PySem.Spec PyProof.Rows
inductive Cd where
 | cmp (k:Bool) (a b:Ex)
 | nt (c:Cd)
 | both (c d:Cd)
def Cd.h:Cd→Nat
 | .cmp _ _ _=>0
 | .nt c=>c.h+1
 | .both c d=>max c.h d.h+1
def Cd.ok (ns:List Str) (n:Nat):Cd→Prop
 | .cmp _ a b=>(a.ok ns∧a.h≤n)∧b.ok ns∧b.h≤n
 | .nt c=>c.ok ns n
 | .both c d=>c.ok ns n∧d.ok ns n
def bd7 (k:Bool):Str:=if k then "same" else "under"
def Cd.At (H:Hp):Cd→V→Prop
 | .cmp k e f,v=>∃ a x y,v=.ref a∧H a=some (.tup [.str (bd7 k),x,y])∧e.At H x∧f.At H y
 | .nt c,v=>∃ a x,v=.ref a∧H a=some (.tup [.str "not",x])∧c.At H x
 | .both c d,v=>∃ a x y,v=.ref a∧H a=some (.tup [.str "both",x,y])∧c.At H x∧d.At H y
theorem Cd.At.mono {H H':Hp}(t:Tups H H'):∀ {c:Cd}{v:V},c.At H v→c.At H' v
 | .cmp _ e f,_,⟨a,x,y,h1,h2,h3,h4⟩=>⟨a,x,y,h1,t _ _ h2,h3.mono t,h4.mono t⟩
 | .nt c,_,⟨a,x,h1,h2,h3⟩=>⟨a,x,h1,t _ _ h2,Cd.At.mono t h3⟩
 | .both c d,_,⟨a,x,y,h1,h2,h3,h4⟩=>⟨a,x,y,h1,t _ _ h2,Cd.At.mono t h3,Cd.At.mono t h4⟩
def Cd.ev (ns:List Str) (vs:List Int):Cd→Bool
 | .cmp k a b=>if k then decide (a.ev ns vs=b.ev ns vs) else decide (a.ev ns vs<b.ev ns vs)
 | .nt c=>!c.ev ns vs
 | .both c d=>c.ev ns vs && d.ev ns vs
end L2
namespace L2
open PySem
theorem b58 (w:Str) (ys:List Str):inV (.str w) (a35 ys)=decide (w∈ys):=by
 unfold inV a35
 rw [List.any_map,Bool.eq_iff_iff,List.any_eq_true,decide_eq_true_iff]
 constructor
 · rintro ⟨y,hy,e⟩
   have:(y == w)=true:=e
   have:y=w:=by simpa using this
   exact this ▸ hy
 · intro h
   exact ⟨w,h,by show (w == w)=true; simp⟩
theorem b00 (ys:List Str):(a35 ys).all ad0=true:=by simp [a35,ad0]
end L2
namespace L2
open PySem PySem.Spec PyProof.Rows
end L2
namespace L2
open PySem
inductive Tr where
 | non
 | int (i:Int)
 | str (s:Str)
 | tup (xs:List Tr)
 | lst (xs:List Tr)
mutual
def Tr.At (H:Hp):Tr→V→List Addr→Prop
 | .non,v,fs=>v=.non∧fs=[]
 | .int i,v,fs=>v=.int i∧fs=[]
 | .str s,v,fs=>v=.str s∧fs=[]
 | .tup xs,v,fs=>∃ a vs,v=.ref a∧H a=some (.tup vs)∧Tr.Ats H xs vs fs
 | .lst xs,v,fs=>∃ a vs gs,v=.ref a∧H a=some (.lst vs)∧Tr.Ats H xs vs gs∧fs=a::gs
def Tr.Ats (H:Hp):List Tr→List V→List Addr→Prop
 | [],vs,fs=>vs=[]∧fs=[]
 | x::xs,vs,fs=>∃ v ws f g,vs=v::ws∧fs=f++g∧Tr.At H x v f∧Tr.Ats H xs ws g
end
def Keep (fs:List Addr) (H H':Hp):Prop:=Tups H H'∧∀ a∈fs,∀ xs,H a=some (.lst xs)→H' a=some (.lst xs)
theorem Same.keep {H H':Hp}(s:Same H H') (fs:List Addr):Keep fs H H':=⟨s.tups,fun a _ xs h=>s a _ h⟩
theorem Keep.upd {fs:List Addr}{H:Hp}{l:Addr}{xs:List V}{o:HO}(h:H l=some (.lst xs)) (n:l∉fs):Keep fs H (upd H l o):=⟨Tups.upd h,fun a m ys e=>by
 have hne:a≠l:=fun z=>n (z ▸ m)
 rw [a12 hne]
 exact e⟩
theorem Keep.sub {fs gs:List Addr}{H H':Hp}(k:Keep fs H H') (h:∀ a∈gs,a∈fs):Keep gs H H':=⟨k.1,fun a m=>k.2 a (h a m)⟩
mutual
theorem Tr.At.mono {H H':Hp}:∀ {x:Tr}{v:V}{fs:List Addr},x.At H v fs→Keep fs H H'→x.At H' v fs
 | .non,_,_,h,_=>by simpa only [Tr.At] using h
 | .int _,_,_,h,_=>by simpa only [Tr.At] using h
 | .str _,_,_,h,_=>by simpa only [Tr.At] using h
 | .tup xs,v,fs,h,k=>by
   simp only [Tr.At] at h ⊢
   obtain ⟨a,vs,e,g,r⟩:=h
   exact ⟨a,vs,e,k.1 _ _ g,Tr.Ats.mono r k⟩
 | .lst xs,v,fs,h,k=>by
   simp only [Tr.At] at h ⊢
   obtain ⟨a,vs,gs,e,g,r,rfl⟩:=h
   exact ⟨a,vs,gs,e,k.2 _ (by simp) _ g,Tr.Ats.mono r (k.sub fun b m=>by simp [m]),rfl⟩
theorem Tr.Ats.mono {H H':Hp}:∀ {xs:List Tr}{vs:List V}{fs:List Addr},Tr.Ats H xs vs fs→Keep fs H H'→Tr.Ats H' xs vs fs
 | [],_,_,h,_=>by simpa only [Tr.Ats] using h
 | x::xs,vs,fs,h,k=>by
   simp only [Tr.Ats] at h ⊢
   obtain ⟨v,ws,f,g,e,rfl,a,b⟩:=h
   exact ⟨v,ws,f,g,e,rfl,Tr.At.mono a (k.sub fun c m=>by simp [m]),Tr.Ats.mono b (k.sub fun c m=>by simp [m])⟩
end
theorem Tr.Ats.snoc {H:Hp}:∀ {xs:List Tr}{vs:List V}{fs gs:List Addr}{x:Tr}{v:V},Tr.Ats H xs vs fs→x.At H v gs→Tr.Ats H (xs++[x]) (vs++[v]) (fs++gs)
 | [],vs,fs,gs,x,v,h,a=>by
   simp only [Tr.Ats] at h
   obtain ⟨rfl,rfl⟩:=h
   simp only [List.nil_append,Tr.Ats]
   exact ⟨v,[],gs,[],rfl,by simp,a,rfl,rfl⟩
 | y::xs,vs,fs,gs,x,v,h,a=>by
   simp only [Tr.Ats] at h
   obtain ⟨w,ws,f,g,rfl,rfl,b,c⟩:=h
   simp only [List.cons_append,Tr.Ats]
   exact ⟨w,ws++[v],f,g++gs,rfl,by simp,b,c.snoc a⟩
theorem Tr.Ats.len {H:Hp}:∀ {xs:List Tr}{vs:List V}{fs:List Addr},Tr.Ats H xs vs fs→vs.length=xs.length
 | [],vs,fs,h=>by
   simp only [Tr.Ats] at h
   obtain ⟨rfl,rfl⟩:=h
   rfl
 | y::xs,vs,fs,h=>by
   simp only [Tr.Ats] at h
   obtain ⟨w,ws,f,g,rfl,rfl,b,c⟩:=h
   simp [c.len]
theorem Tr.Ats.get {H:Hp}:∀ {xs:List Tr}{vs:List V}{fs:List Addr},Tr.Ats H xs vs fs→∀ (i:Nat) (v:V),vs[i]?=some v→∃ x f,xs[i]?=some x∧x.At H v f∧∀ a∈f,a∈fs
 | [],vs,fs,h,i,v,e=>by
   simp only [Tr.Ats] at h
   obtain ⟨rfl,rfl⟩:=h
   simp at e
 | y::xs,vs,fs,h,i,v,e=>by
   simp only [Tr.Ats] at h
   obtain ⟨w,ws,f,g,rfl,rfl,b,c⟩:=h
   cases i with
   | zero =>
     simp at e
     subst e
     exact ⟨y,f,rfl,b,fun a m=>by simp [m]⟩
   | succ i =>
     obtain ⟨x,f',h1,h2,h3⟩:=c.get i v (by simpa using e)
     exact ⟨x,f',by simpa using h1,h2,fun a m=>by simp [h3 a m]⟩
end L2
namespace L2
open PySem PySem.Spec PyProof.Rows
mutual
def Tr.h:Tr→Nat
 | .non=>0
 | .int _=>0
 | .str _=>0
 | .tup xs=>Tr.hs xs+1
 | .lst xs=>Tr.hs xs+1
def Tr.hs:List Tr→Nat
 | []=>0
 | x::xs=>max x.h (Tr.hs xs)
end
theorem b94 (n:Nat):((List.range n).all fun _=>true)=true:=by simp
theorem a67 (A:Around):A.in1.units=A.units+1:=rfl
section
variable {X:Cx}{pins:List (Addr×Obj)}{σ:St} {H:Hp}{s:Shared}
mutual
theorem Tr.eqAt (I:Inv X pins σ H s):∀ {t:Tr}{A:Around}{v w:V}{fs gs:List Addr}{u z:Value},t.At H v fs→t.At H w gs→RelV v u→RelV w z→A.units+t.h<cLine→SeqAt.EqAt A s u z true
 | .non,A,v,w,fs,gs,u,z,h1,h2,r1,r2,hu=>by
   simp only [Tr.At] at h1 h2
   obtain ⟨rfl,-⟩:=h1
   obtain ⟨rfl,-⟩:=h2
   cases r1
   cases r2
   exact SeqAt.EqAt.same _
 | .int i,A,v,w,fs,gs,u,z,h1,h2,r1,r2,hu=>by
   simp only [Tr.At] at h1 h2
   obtain ⟨rfl,-⟩:=h1
   obtain ⟨rfl,-⟩:=h2
   obtain ⟨t1,rfl⟩:=r1
   obtain ⟨t2,rfl⟩:=r2
   have:=SeqAt.EqAt.int_int (A:=A) (s:=s) i t1 i t2
   simpa using this
 | .str i,A,v,w,fs,gs,u,z,h1,h2,r1,r2,hu=>by
   simp only [Tr.At] at h1 h2
   obtain ⟨rfl,-⟩:=h1
   obtain ⟨rfl,-⟩:=h2
   obtain ⟨t1,rfl⟩:=r1
   obtain ⟨t2,rfl⟩:=r2
   have:=SeqAt.EqAt.str_str (A:=A) (s:=s) i t1 i t2
   simpa using this
 | .tup xs,A,v,w,fs,gs,u,z,h1,h2,r1,r2,hu=>by
   simp only [Tr.At] at h1 h2
   obtain ⟨a,vs,rfl,e1,c1⟩:=h1
   obtain ⟨b,ws,rfl,e2,c2⟩:=h2
   cases r1
   cases r2
   by_cases hab:a=b
   · subst hab
     exact SeqAt.EqAt.same _
   refine SeqAt.EqAt.of_refs hab ?_
   obtain ⟨is1,q1,p1,_⟩:=I.tuple (SqT.of e1)
   obtain ⟨is2,q2,p2,_⟩:=I.tuple (SqT.of e2)
   simp only [Tr.h] at hu
   have hl:is1.length=is2.length:=by rw [← q1.length,←q2.length,c1.len,c2.len]
   have:=SeqAt.RcAt.tuples (A:=A) (s:=s) (e:=fun _=>true) p1 p2 (by omega) (fun j h1 h2=>by
    have:=Tr.eqAts I (A:=A.in1) c1 c2 q1 q2 (by rw [a67]; omega) j (by simpa using h1) (by simpa using h2)
    simpa using this)
   simpa [hl,b94] using this
 | .lst xs,A,v,w,fs,gs,u,z,h1,h2,r1,r2,hu=>by
   simp only [Tr.At] at h1 h2
   obtain ⟨a,vs,_,rfl,e1,c1,_⟩:=h1
   obtain ⟨b,ws,_,rfl,e2,c2,_⟩:=h2
   cases r1
   cases r2
   by_cases hab:a=b
   · subst hab
     exact SeqAt.EqAt.same _
   refine SeqAt.EqAt.of_refs hab ?_
   obtain ⟨is1,q1,p1,_⟩:=I.list (SqL.of e1)
   obtain ⟨is2,q2,p2,_⟩:=I.list (SqL.of e2)
   simp only [Tr.h] at hu
   have hl:is1.length=is2.length:=by rw [← q1.length,←q2.length,c1.len,c2.len]
   have:=SeqAt.RcAt.lists (A:=A) (s:=s) (e:=fun _=>true) p1.isList p2.isList (by simpa using hl) (by omega) (fun j h1 h2=>by
    have:=Tr.eqAts I (A:=A.in1) c1 c2 q1 q2 (by rw [a67]; omega) j (by simpa using h1) (by simpa using h2)
    simpa using this)
   simpa [b94] using this
theorem Tr.eqAts (I:Inv X pins σ H s):∀ {ts:List Tr}{A:Around}{vs ws:List V}{fs gs:List Addr}{us zs:List Value},Tr.Ats H ts vs fs→Tr.Ats H ts ws gs→Vals vs us→Vals ws zs→A.units+Tr.hs ts<cLine →
 ∀ (j:Nat) (h1:j<us.length) (h2:j<zs.length),SeqAt.EqAt A s us[j] zs[j] true
 | [],A,vs,ws,fs,gs,us,zs,c1,c2,q1,q2,hu,j,h1,h2=>by
   simp only [Tr.Ats] at c1
   obtain ⟨rfl,-⟩:=c1
   cases q1
   exact absurd h1 (by simp)
 | t::ts,A,vs,ws,fs,gs,us,zs,c1,c2,q1,q2,hu,j,h1,h2=>by
   simp only [Tr.Ats] at c1 c2
   obtain ⟨v,vs,f,g,rfl,rfl,a1,b1⟩:=c1
   obtain ⟨w,ws,f',g',rfl,rfl,a2,b2⟩:=c2
   cases q1 with
   | cons r1 q1 =>
   cases q2 with
   | cons r2 q2 =>
   simp only [Tr.hs] at hu
   cases j with
   | zero=>exact Tr.eqAt I a1 a2 r1 r2 (by omega)
   | succ j=>exact Tr.eqAts I b1 b2 q1 q2 (by omega) j (by simpa using h1) (by simpa using h2)
end
def rEqT:R2:=fun x y H Q=>∃ t fs gs,(Tr.tup t).At H x fs∧(Tr.tup t).At H y gs∧Tr.hs t≤60∧Q (.bl true) H
theorem ar4 (hu:X.A.units+64<cLine):OpR X (compareOp .Eq) rEqT:=by
 intro pins s σ H x y v u Q I rx ry h
 obtain ⟨t,fs,gs,h1,h2,hh,q⟩:=h
 simp only [Tr.At] at h1 h2
 obtain ⟨a,vs,rfl,e1,c1⟩:=h1
 obtain ⟨b,ws,rfl,e2,c2⟩:=h2
 cases rx
 cases ry
 obtain ⟨is1,q1,p1,_⟩:=I.tuple (SqT.of e1)
 obtain ⟨is2,q2,p2,_⟩:=I.tuple (SqT.of e2)
 have hl:is1.length=is2.length:=by rw [← q1.length,←q2.length,c1.len,c2.len]
 have:=SeqAt.RcAt.tuples (A:=X.A) (s:=s) (e:=fun _=>true) p1 p2 (by omega) (fun j h1 h2=>by
  have:=Tr.eqAts I (A:=X.A.in1) c1 c2 q1 q2 (by rw [a67]; omega) j (by simpa using h1) (by simpa using h2)
  simpa using this)
 refine this X.prog X.w X.xe (EP X pins σ Q) ⟨.bl true,H,I,?_,q⟩
 rw [show ((List.range (min is1.toArray.size is2.toArray.size)).all (fun _=>true) && is1.toArray.size == is2.toArray.size)=true by simp [hl]]
 rfl
theorem bd8 {H:Hp}{Q:VK}{x y:V}{t:List Tr}{fs gs:List Addr}(h1:(Tr.tup t).At H x fs) (h2:(Tr.tup t).At H y gs) (hh:Tr.hs t≤60) (h:Q (.bl true) H):rEqT x y H Q:=⟨t,fs,gs,h1,h2,hh,h⟩
end
section
variable {prog:Program}{w:World}{A:Around}{E:Value→Shared→Prop}
end
section
variable {X:Cx}{pos:Pos}
end
inductive Pt where
 | s (z:Str)
 | i (n:Int)
theorem bd9 {out:Str}{σ:St} {H:Hp}{Q:VK}(hz:out.length≤sizeLine) (h:Q (.str out) H):aw1 [] out σ H Q:=⟨hz,h⟩
theorem be0 {t:TE}{r:List TE}{out:Str}{σ:St} {H:Hp}{Q:VK}(h:t σ H fun x H1=>∃ y,x=.str y∧(out++y).length≤sizeLine∧aw1 r (out++y) σ H1 Q):aw1 (t::r) out σ H Q:=h
theorem bu1 {te:TE}{σ:St} {H:Hp}{Q:VK}(h:te σ H fun x H1=>(∃ z,x=.str z∧z.length≤sizeLine∧Q (.str z) H1)∨∃ i:Int,x=.int i∧i.natAbs.log2<1920∧Q (.str (toString i)) H1):tFmt te σ H Q:=h
theorem bu2 {z:Str}{A:Str→Prop}{B:Int→Prop}(h:A z):(∃ y,V.str z=.str y∧A y)∨∃ i:Int,V.str z=.int i∧B i:=.inl ⟨z,rfl,h⟩
theorem bu3 {i:Int}{A:Str→Prop}{B:Int→Prop}(h:B i):(∃ y,V.int i=.str y∧A y)∨∃ j:Int,V.int i=.int j∧B j:=.inr ⟨i,rfl,h⟩
end L2
namespace L2
open PySem
def Pt.tr:Pt→Tr
 | .s z=>.str z
 | .i n=>.int n
def Ex.tr:Ex→Tr
 | .num i=>.tup [.str "number",.int i]
 | .box n=>.tup [.str "box",.str n]
 | .two k a b=>.tup [.str (b57 k),a.tr,b.tr]
def Cd.tr:Cd→Tr
 | .cmp k a b=>.tup [.str (bd7 k),a.tr,b.tr]
 | .nt c=>.tup [.str "not",c.tr]
 | .both c d=>.tup [.str "both",c.tr,d.tr]
section
variable {H:Hp}{v:V}{fs:List Addr}
end
section
variable {H:Hp}{v:V}{fs:List Addr}
end
end L2
namespace L2
open PySem PySem.Spec PyProof.Rows
section
variable {X:Cx}
end
theorem ae3 {H:Hp}:∀ ns:List Int,Tr.Ats H (ns.map Tr.int) (ns.map V.int) []
 | []=>by simp [Tr.Ats]
 | n::ns=>by
   simp only [List.map_cons,Tr.Ats]
   exact ⟨_,_,[],[],rfl,rfl,by simp [Tr.At],ae3 ns⟩
theorem hs_ints:∀ ns:List Int,Tr.hs (ns.map Tr.int)=0
 | []=>by simp [Tr.hs]
 | n::ns=>by simp [Tr.hs,Tr.h,hs_ints ns]
theorem ao3 {K:PySem.W.Frag}{a:Addr}{xs:List V}{te:TE}{tt:TT}{caps:List Nat}{σ:St} {H:Hp}{Q:VK}(hz:xs.length≤sizeLine) (Pv:Nat→List V→Hp→Prop) (h0:Pv 0 [] H) (hl:∀ i acc H,Pv i acc H→acc.length≤i∧SqT K H a xs)
 (hs:∀ i x acc H,xs[i]?=some x→Pv i acc H→∃ p u v,x=.ref p∧SqT K H p [u,v]∧tt (some u::some v::capV caps σ) H fun b H4=>if b=true then te (some u::some v::capV caps σ) H4 fun y H5=>Pv (i+1) (acc++[y]) H5 else Pv (i+1) acc H4)
 (hd:∀ acc H,Pv xs.length acc H→New H (.lst acc) Q):af8 (Itt K a) (gTup K 2 (aq5 (ac9 0) (aq5 (ac9 1) gNil))) tt te 2 caps σ H Q:=by
 refine ⟨fun i m acc σ' H=>m=xs.length - i∧i≤xs.length∧(∃ u v,σ'=u::v::capV caps σ)∧Pv i acc H,⟨xs.length,by simp,Nat.zero_le _,⟨none,none,rfl⟩,h0⟩,?_⟩
 rintro i m acc σ' H' ⟨rfl,hi,⟨u0,v0,rfl⟩,p⟩
 obtain ⟨hl1,hq⟩:=hl i acc H' p
 by_cases hlt:i<xs.length
 · refine .inr ⟨⟨xs,xs[i],hq,by simp [hlt]⟩,by omega,fun ac σ2 H2=>(∃ u v,σ2=u::v::capV caps σ)∧Pv (i+1) ac H2,fun ac σ2 H2 ⟨e,p'⟩=>⟨xs.length - (i+1),by omega,rfl,hlt,e,p'⟩,fun x H2 y=>?_⟩
   obtain ⟨e,y⟩:=y
   subst e
   obtain ⟨q,u,v,rfl,hT,hst⟩:=hs i x acc _ (y xs hq) p
   have eN:∀ ac H5,((∃ u1 v1,some u::some v::capV caps σ=u1::v1::capV caps σ)∧Pv (i+1) ac H5)=Pv (i+1) ac H5:=fun ac H5=>propext ⟨And.right,fun p=>⟨⟨_,_,rfl⟩,p⟩⟩
   refine ⟨q,[u,v],rfl,hT,rfl,u,[v],rfl,v,[],rfl,rfl,?_⟩
   show tt (some u::some v::capV caps σ) _ fun b H4=>if b=true then te (some u::some v::capV caps σ) H4 fun y H5=>((∃ u1 v1,some u::some v::capV caps σ=u1::v1::capV caps σ)∧Pv (i+1) (acc++[y]) H5) else ((∃ u1 v1,some u::some v::capV caps σ=u1::v1::capV caps σ)∧Pv (i+1) acc H4)
   simp only [eN]
   exact hst
 · have e:i=xs.length:=by omega
   subst e
   exact .inl ⟨⟨xs,hq,Nat.le_refl _⟩,New.to (hd acc H' p)⟩
end L2
namespace L2
def bu4 (ws:List (Option Nat)) (n:Nat):List Nat:=(List.range n).filter fun i=>decide (ws[i]?=some none)
def kept (ws:List (Option Nat)):List Nat:=bu4 ws ws.length
end L2
namespace L2
open PySem
section
variable {prog:Program}{w:World}{K:Type} [DecidableEq K] {knd:KeyKind prog w K}{A:Around}{E:Value→Shared→Prop}{s:Shared}
end
section
variable {prog:Program}{w:World}{K:Type} [DecidableEq K] {knd:KeyKind prog w K}{A:Around}{E:Value→Shared→Prop}{s:Shared}
end
end L2
namespace L2
open PySem PySem.Spec PyProof.Rows
section
variable {X:Cx}{pins:List (Addr×Obj)}{σ:St} {H:Hp}{s:Shared}
theorem Inv.turnedL {t':Nat}{h':Heap}{ch:List Addr}(I:Inv X pins σ H s) (k:∀ b o,b∉ch→s.heap.get? b=some o→h'.get? b=some o) (hf:∀ b∈ch,FpOk X pins H b):Inv X pins σ H { s with heap:=h',toks:=t' }:=by
 have nit:∀ b u,H b=some u→b∉ch:=fun b u e z=>by rw [(hf b z).1] at e; cases e
 refine I.step (g':=s.gens) (d':=s.drawn) (ch:=ch) (fun b hb=>⟨(hf b hb).2.2.2.1,(hf b hb).2.1,(hf b hb).2.2.2.2.1,(hf b hb).2.2.2.2.2⟩) (fun b o _ _ hc e _=>k b o hc e) (fun b o _ _ hc e _=>⟨o.slots,k b o hc e⟩) (fun _ _ _ _ n=>n)
  (fun b o hc e=>⟨o,k b o hc e⟩) (fun _ _ e=>e) (fun _ _ _ e=>e) (fun b ps e=>⟨#[],by rw [e]; simp⟩) (fun m hm=>?_) (fun b u e=>?_) I.bare
 · obtain ⟨o,es,ep,ho,r⟩:=hm
   exact ⟨o,es,ep,k _ o (fun z=>(hf _ z).2.1 rfl) ho,r⟩
 · refine (I.hok b u e).stay (fun c v hc q=>k c v ?_ q) (fun _ q=>q) fun _ _ q=>q
   rcases hc with z | z
   · rw [z]; exact nit b u e
   · exact nit c _ z
end
section
variable {X:Cx}{elts:List Expr}{x1:Nat}{tpos:Pos}
end
section
variable {X:Cx}
def rIsN:R2:=fun x y H Q=>y=.non∧Q (.bl (decide (x=.non))) H
def bn0:R2:=fun x y H Q=>y=.non∧Q (.bl (!decide (x=.non))) H
theorem aa0:OpR X (compareOp .Is) rIsN:=bh9
theorem at9:OpR X (compareOp .IsNot) bn0:=bb4
theorem bu5 {x:V}{H:Hp}{Q:VK}(h:Q (.bl (decide (x=.non))) H):rIsN x .non H Q:=⟨rfl,h⟩
theorem bn1 {x:V}{H:Hp}{Q:VK}(h:Q (.bl (!decide (x=.non))) H):bn0 x .non H Q:=⟨rfl,h⟩
theorem b01 {H:Hp}{Q:VK}{l:Addr}{xs:List V}(h1:H l=some (.lst xs)) (h:Q .non (upd H l (.lst []))):b86 (.ref l) [] H Q:=⟨l,xs,rfl,rfl,h1,h⟩
theorem bn2 {K:PySem.W.Frag}{H:Hp}{Q:VK}{a:Addr}{xs:List V}(e:H a=some (.tup xs)) (h:Q (.bl true) H):rIsi K [V.ref a,V.ty "tuple"] H Q:=⟨_,_,_,true,rfl,.tup e,rfl,h⟩
theorem bn3 {to ti:TE}{t:TSet}{v:V}{σ:St} {H:Hp}{Q:St→Hp→Prop}(h:to σ H fun o H1=>ti σ H1 fun i H2=>t o i v H2 fun H3=>Q σ H3):gSub to ti t v σ H Q:=h
def rNeU:R2:=fun x y H Q=>∃ t fs gs,(Tr.tup t).At H x fs∧(Tr.tup t).At H y gs∧Tr.hs t≤60∧Q (.bl false) H
theorem b02 (hu:X.A.units+64<cLine):OpR X (compareOp .NotEq) rNeU:=by
 intro pins s σ H x y v u Q I rx ry h
 obtain ⟨t,fs,gs,h1,h2,hh,q⟩:=h
 simp only [Tr.At] at h1 h2
 obtain ⟨a,vs,rfl,e1,c1⟩:=h1
 obtain ⟨b,ws,rfl,e2,c2⟩:=h2
 cases rx
 cases ry
 obtain ⟨is1,q1,p1,_⟩:=I.tuple (SqT.of e1)
 obtain ⟨is2,q2,p2,_⟩:=I.tuple (SqT.of e2)
 have hl:is1.length=is2.length:=by rw [← q1.length,←q2.length,c1.len,c2.len]
 have:=SeqAt.RcNeAt.tuples (A:=X.A) (s:=s) (e:=fun _=>true) p1 p2 (by omega) (fun j h1 h2=>by
  have:=Tr.eqAts I (A:=X.A.in1) c1 c2 q1 q2 (by rw [a67]; omega) j (by simpa using h1) (by simpa using h2)
  simpa using this)
 refine this X.prog X.w X.xe (EP X pins σ Q) ⟨.bl false,H,I,?_,q⟩
 rw [show ((List.range (min is1.toArray.size is2.toArray.size)).all (fun _=>true) && is1.toArray.size == is2.toArray.size)=true by simp [hl]]
 rfl
theorem bn4 {H:Hp}{Q:VK}{x y:V}{t:List Tr}{fs gs:List Addr}(h1:(Tr.tup t).At H x fs) (h2:(Tr.tup t).At H y gs) (hh:Tr.hs t≤60) (h:Q (.bl false) H):rNeU x y H Q:=⟨t,fs,gs,h1,h2,hh,h⟩
def bn5 (t u:TS):TS:=fun D σ H=>∃ R:St→Hp→Prop,t { D with nx:=R } σ H∧∀ σ' H',R σ' H'→u D σ' H'
theorem a38 {st:Stmt}{rest:List Stmt}{t u:TS}(h1:PS X st t) (h2:PSs X rest u):PSs X (st::rest) (bn5 t u):=by
 intro pins s σ H D I h
 obtain ⟨R,ha,hb⟩:=h
 refine wpAny_execs_cons (thn (h1 pins s σ H _ I ha) fun f s1 q=>?_)
 cases f with
 | next=>obtain ⟨σ1,H1,I1,q1⟩:=q; exact h2 pins s1 σ1 H1 D I1 (hb σ1 H1 q1)
 | brk=>exact q
 | cont=>exact q
 | ret v=>exact q
theorem a62 {t u:TS}{nn bb cc:St→Hp→Prop}{rr:VK}{σ:St} {H:Hp}(R:St→Hp→Prop) (h1:t ⟨R,rr,bb,cc⟩ σ H) (h2:∀ σ' H',R σ' H'→u ⟨nn,rr,bb,cc⟩ σ' H'):bn5 t u ⟨nn,rr,bb,cc⟩ σ H:=⟨R,h1,h2⟩
def bn6 (t:TT):TT:=t
theorem ag3 {e:Expr}{t:TT}(h:PT X e t):PT X e (bn6 t):=h
theorem ao4 {t:TT}{σ:St} {H:Hp}{QT:Bool→Hp→Prop}(c:Prop) [Decidable c] (h:∀ R:Bool→Hp→Prop,R (decide c) H→t σ H R) (h2:QT (decide c) H):bn6 t σ H QT:=h QT h2
theorem rT {R:Bool→Hp→Prop}{H:Hp}{c:Prop} [Decidable c] (h:R (decide c) H) (hc:c):R true H:=by rw [decide_eq_true hc] at h; exact h
theorem rF {R:Bool→Hp→Prop}{H:Hp}{c:Prop} [Decidable c] (h:R (decide c) H) (hc:¬ c):R false H:=by rw [decide_eq_false hc] at h; exact h
theorem b03 {c:TT}{tb:TS}{nn bb cc:St→Hp→Prop}{rr:VK}{σ:St} {H:Hp}(W:Nat→St→Hp→Prop) (m:Nat) (h0:W m σ H)
 (hs:∀ m σ H,W m σ H→c σ H fun b H1=>if b=true then ∃ N:St→Hp→Prop,(∀ σ' H',N σ' H'→∃ m',m'<m∧W m' σ' H')∧tb ⟨N,rr,nn,N⟩ σ H1 else nn σ H1):b82 c tb ⟨nn,rr,bb,cc⟩ σ H:=⟨W,⟨m,h0⟩,hs⟩
end
end L2
namespace L2
open PySem
inductive Nd where
 | say (w:Str) (n:Nat)
 | hand (l:Int) (w:Str) (n:Nat)
 | put (b:Str) (e:Ex) (n:Nat)
 | test (c:Cd) (m n:Nat)
 | wait (l:Int) (bs:List (List Pt×Nat)) (n:Nat)
 | call (m n:Nat)
 | back
 | stop
def brT (b:List Pt×Nat):Tr:=.tup [.tup (b.1.map Pt.tr),.int (b.2:Nat)]
def Nd.its:Nd→List Tr
 | .say w n=>[.str "say",.str w,.int (n:Nat)]
 | .hand l w n=>[.str "hand",.int l,.str w,.int (n:Nat)]
 | .put b e n=>[.str "put",.str b,e.tr,.int (n:Nat)]
 | .test c m n=>[.str "test",c.tr,.int (m:Nat),.int (n:Nat)]
 | .wait l bs n=>[.str "wait",.int l,.tup (bs.map brT),.int (n:Nat)]
 | .call m n=>[.str "call",.int (m:Nat),.int (n:Nat)]
 | .back=>[.str "back"]
 | .stop=>[.str "stop"]
def Nd.tr (d:Nd):Tr:=.tup d.its
def Nd.nexts:Nd→List Nat
 | .say _ n=>[n]
 | .hand _ _ n=>[n]
 | .put _ _ n=>[n]
 | .test _ m n=>[m,n]
 | .wait _ bs n=>bs.map (·.2)++[n]
 | .call m n=>[m,n]
 | .back=>[]
 | .stop=>[]
section
variable {H:Hp}{x:Tr}{xs:List Tr}{v:V}{vs ws:List V}
theorem ats_nil0:Tr.Ats H [] vs []↔vs=[]:=by simp [Tr.Ats]
theorem ats_cons0:Tr.Ats H (x::xs) vs []↔∃ v ws,vs=v::ws∧x.At H v []∧Tr.Ats H xs ws []:=by
 simp only [Tr.Ats]
 constructor
 · rintro ⟨v,ws,f,g,h1,h2,h3,h4⟩
   obtain ⟨rfl,rfl⟩:=List.append_eq_nil_iff.mp h2.symm
   exact ⟨v,ws,h1,h3,h4⟩
 · rintro ⟨v,ws,h1,h3,h4⟩
   exact ⟨v,ws,[],[],h1,rfl,h3,h4⟩
theorem at_tup0:(Tr.tup xs).At H v []↔∃ a vs,v=.ref a∧H a=some (.tup vs)∧Tr.Ats H xs vs []:=by simp only [Tr.At]
theorem at_int0 {i:Int}:(Tr.int i).At H v []↔v=.int i:=by simp [Tr.At]
theorem at_str0 {i:Str}:(Tr.str i).At H v []↔v=.str i:=by simp [Tr.At]
theorem Tr.At.same {H H':Hp}(h:x.At H v []) (s:Same H H'):x.At H' v []:=h.mono (s.keep _)
theorem Tr.Ats.same {H H':Hp}(h:Tr.Ats H xs vs []) (s:Same H H'):Tr.Ats H' xs vs []:=h.mono (s.keep _)
end
section
variable {H:Hp}{v:V}{a:Addr}
theorem aa1 {x:Tr}{u:V}(e:H a=some (.tup [u])) (h:x.At H u []):(Tr.tup [x]).At H (.ref a) []:=at_tup0.mpr ⟨a,_,rfl,e,ats_cons0.mpr ⟨_,_,rfl,h,ats_nil0.mpr rfl⟩⟩
theorem a68 {x y:Tr}{u v:V}(e:H a=some (.tup [u,v])) (h:x.At H u []) (h2:y.At H v []):(Tr.tup [x,y]).At H (.ref a) []:=at_tup0.mpr ⟨a,_,rfl,e,ats_cons0.mpr ⟨_,_,rfl,h,ats_cons0.mpr ⟨_,_,rfl,h2,ats_nil0.mpr rfl⟩⟩⟩
theorem a55 {i:Int}:(Tr.int i).At H (.int i) []:=at_int0.mpr rfl
theorem a30 {i:Str}:(Tr.str i).At H (.str i) []:=at_str0.mpr rfl
theorem Nd.test_at {c:Cd}{m n:Nat}(h:(Nd.test c m n).tr.At H v []):∃ a u,v=.ref a∧H a=some (.tup [.str "test",u,.int (m:Nat),.int (n:Nat)])∧c.tr.At H u []:=by
 obtain ⟨a,vs,rfl,e,h⟩:=at_tup0.mp h
 obtain ⟨v1,w1,rfl,h1,h⟩:=ats_cons0.mp h
 obtain ⟨v2,w2,rfl,h2,h⟩:=ats_cons0.mp h
 obtain ⟨v3,w3,rfl,h3,h⟩:=ats_cons0.mp h
 obtain ⟨v4,w4,rfl,h4,h⟩:=ats_cons0.mp h
 obtain rfl:=ats_nil0.mp h
 obtain rfl:=at_str0.mp h1
 obtain rfl:=at_int0.mp h3
 obtain rfl:=at_int0.mp h4
 exact ⟨a,v2,rfl,e,h2⟩
theorem Nd.call_at {m n:Nat}(h:(Nd.call m n).tr.At H v []):∃ a,v=.ref a∧H a=some (.tup [.str "call",.int (m:Nat),.int (n:Nat)]):=by
 obtain ⟨a,vs,rfl,e,h⟩:=at_tup0.mp h
 obtain ⟨v1,w1,rfl,h1,h⟩:=ats_cons0.mp h
 obtain ⟨v2,w2,rfl,h2,h⟩:=ats_cons0.mp h
 obtain ⟨v3,w3,rfl,h3,h⟩:=ats_cons0.mp h
 obtain rfl:=ats_nil0.mp h
 obtain rfl:=at_str0.mp h1
 obtain rfl:=at_int0.mp h2
 obtain rfl:=at_int0.mp h3
 exact ⟨a,rfl,e⟩
def Nd.word:Nd→Str
 | .say _ _=>"say"
 | .hand _ _ _=>"hand"
 | .put _ _ _=>"put"
 | .test _ _ _=>"test"
 | .wait _ _ _=>"wait"
 | .call _ _=>"call"
 | .back=>"back"
 | .stop=>"stop"
theorem Nd.word_at {d:Nd}(h:d.tr.At H v []):∃ a us,v=.ref a∧H a=some (.tup (.str d.word::us)):=by
 obtain ⟨a,vs,rfl,e,h⟩:=at_tup0.mp h
 have:∃ r,d.its=.str d.word::r:=by cases d <;> exact ⟨_,rfl⟩
 obtain ⟨r,hr⟩:=this
 rw [hr] at h
 obtain ⟨v1,w1,rfl,h1,h⟩:=ats_cons0.mp h
 obtain rfl:=at_str0.mp h1
 exact ⟨a,w1,rfl,e⟩
end
def a43 (l:List Nat):List V:=l.map fun k=>V.int (k:Nat)
theorem b04 (l:List Nat):(a43 l).length=l.length:=by simp [a43]
def ar5 (l:List Nat):List Tr:=l.map fun k=>Tr.int (k:Nat)
theorem au0 {H:Hp}:∀ l:List Nat,Tr.Ats H (ar5 l) (a43 l) []
 | []=>by simp [ar5,a43,Tr.Ats]
 | k::l=>ats_cons0.mpr ⟨_,_,rfl,a55,au0 l⟩
theorem hs_nats:∀ l:List Nat,Tr.hs (ar5 l)=0
 | []=>by simp [ar5,Tr.hs]
 | k::l=>by
   have:=hs_nats l
   simp only [ar5,List.map_cons,Tr.hs,Tr.h] at this ⊢
   omega
theorem ar6:∀ ps:List Pt,Tr.hs (ps.map Pt.tr)=0
 | []=>by simp [Tr.hs]
 | p::ps=>by
   have:p.tr.h=0:=by cases p <;> simp [Pt.tr,Tr.h]
   simp [Tr.hs,ar6 ps,this]
theorem hs_c {x:Tr}{xs:List Tr}{n:Nat}(h:x.h≤n) (h':Tr.hs xs≤n):Tr.hs (x::xs)≤n:=by
 simp only [Tr.hs]
 exact Nat.max_le.mpr ⟨h,h'⟩
theorem hs_0 {n:Nat}:Tr.hs []≤n:=by
 simp only [Tr.hs]
 exact Nat.zero_le _
theorem al1 {xs:List Tr}{n:Nat}(h:Tr.hs xs≤n):(Tr.tup xs).h≤n+1:=by
 simp only [Tr.h]
 exact Nat.succ_le_succ h
theorem b05:∀ e:Ex,e.tr.h=e.h+1
 | .num _=>by simp only [Ex.tr,Tr.h,Tr.hs,Ex.h,Nat.max_self]
 | .box _=>by simp only [Ex.tr,Tr.h,Tr.hs,Ex.h,Nat.max_self]
 | .two k a b=>by
   have h1:=b05 a
   have h2:=b05 b
   simp only [Ex.tr,Tr.h,Tr.hs,Ex.h,h1,h2,Nat.zero_max,Nat.max_zero,Nat.add_max_add_right]
theorem be1 {a:Ex}{n:Nat}(h:a.h≤n):a.tr.h≤n+1:=by
 rw [b05]
 exact Nat.succ_le_succ h
theorem au1 {ys:List Str}:∀ {c:Cd},c.ok ys 5→c.tr.h≤c.h+7
 | .cmp k a b,h=>al1 (n:=Cd.h (.cmp k a b)+6) (hs_c (Nat.zero_le _) (hs_c (Nat.le_trans (be1 h.1.2) (Nat.le_add_left 6 _)) (hs_c (Nat.le_trans (be1 h.2.2) (Nat.le_add_left 6 _)) hs_0)))
 | .nt c,h=>by
   have h1:=au1 (c:=c) h
   rw [show Cd.h (.nt c)+7=(c.h+7)+1 by simp only [Cd.h] <;> omega]
   exact al1 (hs_c (Nat.zero_le _) (hs_c h1 hs_0))
 | .both c d,h=>by
   have h1:=au1 (c:=c) h.1
   have h3:=au1 (c:=d) h.2
   rw [show Cd.h (.both c d)+7=(max c.h d.h+7)+1 by simp only [Cd.h] <;> omega]
   exact al1 (hs_c (Nat.zero_le _) (hs_c (Nat.le_trans h1 (Nat.add_le_add_right (Nat.le_max_left _ _) 7)) (hs_c (Nat.le_trans h3 (Nat.add_le_add_right (Nat.le_max_right _ _) 7)) hs_0)))
theorem bn7:∀ bs:List (List Pt×Nat),Tr.hs (bs.map brT)≤2
 | []=>hs_0
 | b::bs=>hs_c (al1 (n:=1) (hs_c (al1 (n:=0) (Nat.le_of_eq (ar6 b.1))) (hs_c (Nat.zero_le _) hs_0))) (bn7 bs)
theorem bn8 {b:Str}{e:Ex}{m:Nat}(h:e.h≤9):(Nd.put b e m).tr.h≤11 :=
 al1 (n:=10) (hs_c (Nat.zero_le _) (hs_c (Nat.zero_le _) (hs_c (be1 h) (hs_c (Nat.zero_le _) hs_0))))
theorem be2 {ys:List Str}{c:Cd}{a b:Nat}(h:c.ok ys 5) (h2:c.h≤3):(Nd.test c a b).tr.h≤11 :=
 al1 (n:=10) (hs_c (Nat.zero_le _) (hs_c (Nat.le_trans (au1 h) (Nat.add_le_add_right h2 7)) (hs_c (Nat.zero_le _) (hs_c (Nat.zero_le _) hs_0))))
def wayV:Option Nat→V
 | none=>.non
 | some k=>.int (k:Nat)
end L2
namespace L2
open PySem PySem.Spec PyProof.Rows
section
variable {σ:St} {H:Hp}{Q:VK}{QT:Bool→Hp→Prop}{td ty tv te:TE}{nn bb cc:St→Hp→Prop}{rr:VK}
end
theorem aj3 {H:Hp}:∀ {e:Ex}{v:V},e.tr.At H v []→e.At H v
 | .num i,v,h=>by
   obtain ⟨a,vs,rfl,e,h⟩:=at_tup0.mp h
   obtain ⟨v1,w1,rfl,h1,h⟩:=ats_cons0.mp h
   obtain ⟨v2,w2,rfl,h2,h⟩:=ats_cons0.mp h
   obtain rfl:=ats_nil0.mp h
   obtain rfl:=at_str0.mp h1
   obtain rfl:=at_int0.mp h2
   exact ⟨a,rfl,e⟩
 | .box i,v,h=>by
   obtain ⟨a,vs,rfl,e,h⟩:=at_tup0.mp h
   obtain ⟨v1,w1,rfl,h1,h⟩:=ats_cons0.mp h
   obtain ⟨v2,w2,rfl,h2,h⟩:=ats_cons0.mp h
   obtain rfl:=ats_nil0.mp h
   obtain rfl:=at_str0.mp h1
   obtain rfl:=at_str0.mp h2
   exact ⟨a,rfl,e⟩
 | .two k x y,v,h=>by
   obtain ⟨a,vs,rfl,e,h⟩:=at_tup0.mp h
   obtain ⟨v1,w1,rfl,h1,h⟩:=ats_cons0.mp h
   obtain ⟨v2,w2,rfl,h2,h⟩:=ats_cons0.mp h
   obtain ⟨v3,w3,rfl,h3,h⟩:=ats_cons0.mp h
   obtain rfl:=ats_nil0.mp h
   obtain rfl:=at_str0.mp h1
   exact ⟨a,v2,v3,rfl,e,aj3 h2,aj3 h3⟩
theorem ao5 {H:Hp}:∀ {c:Cd}{v:V},c.tr.At H v []→c.At H v
 | .cmp k x y,v,h=>by
   obtain ⟨a,vs,rfl,e,h⟩:=at_tup0.mp h
   obtain ⟨v1,w1,rfl,h1,h⟩:=ats_cons0.mp h
   obtain ⟨v2,w2,rfl,h2,h⟩:=ats_cons0.mp h
   obtain ⟨v3,w3,rfl,h3,h⟩:=ats_cons0.mp h
   obtain rfl:=ats_nil0.mp h
   obtain rfl:=at_str0.mp h1
   exact ⟨a,v2,v3,rfl,e,aj3 h2,aj3 h3⟩
 | .nt c,v,h=>by
   obtain ⟨a,vs,rfl,e,h⟩:=at_tup0.mp h
   obtain ⟨v1,w1,rfl,h1,h⟩:=ats_cons0.mp h
   obtain ⟨v2,w2,rfl,h2,h⟩:=ats_cons0.mp h
   obtain rfl:=ats_nil0.mp h
   obtain rfl:=at_str0.mp h1
   exact ⟨a,v2,rfl,e,ao5 h2⟩
 | .both x y,v,h=>by
   obtain ⟨a,vs,rfl,e,h⟩:=at_tup0.mp h
   obtain ⟨v1,w1,rfl,h1,h⟩:=ats_cons0.mp h
   obtain ⟨v2,w2,rfl,h2,h⟩:=ats_cons0.mp h
   obtain ⟨v3,w3,rfl,h3,h⟩:=ats_cons0.mp h
   obtain rfl:=ats_nil0.mp h
   obtain rfl:=at_str0.mp h1
   exact ⟨a,v2,v3,rfl,e,ao5 h2,ao5 h3⟩
theorem Nd.put_at {H:Hp}{v:V}{b:Str}{e:Ex}{n:Nat}(h:(Nd.put b e n).tr.At H v []):∃ a u,v=.ref a∧H a=some (.tup [.str "put",.str b,u,.int (n:Nat)])∧e.tr.At H u []:=by
 obtain ⟨a,vs,rfl,e,h⟩:=at_tup0.mp h
 obtain ⟨v1,w1,rfl,h1,h⟩:=ats_cons0.mp h
 obtain ⟨v2,w2,rfl,h2,h⟩:=ats_cons0.mp h
 obtain ⟨v3,w3,rfl,h3,h⟩:=ats_cons0.mp h
 obtain ⟨v4,w4,rfl,h4,h⟩:=ats_cons0.mp h
 obtain rfl:=ats_nil0.mp h
 obtain rfl:=at_str0.mp h1
 obtain rfl:=at_str0.mp h2
 obtain rfl:=at_int0.mp h4
 exact ⟨a,v3,rfl,e,h3⟩
end L2
namespace L2
end L2
namespace L2
open PySem PySem.Spec PyProof.Rows
section
variable {X:Cx}{σ:St} {H:Hp}{Q:VK}{QT:Bool→Hp→Prop}{td ty tv te:TE}{nn bb cc:St→Hp→Prop}{rr:VK}
def bu6:R2:=fun x y H Q=>∃ l k xs,x=.ref l∧y=.int k∧H l=some (.lst xs)∧-(2 ^ 63)≤k∧k<2 ^ 63∧xs.length*k.toNat≤sizeLine∧New H (.lst (List.replicate k.toNat xs).flatten) Q
theorem b59:OpR X (binaryOp .Mult) bu6:=by
 intro pins s σ H x y v u Q I rx ry h
 obtain ⟨l,k,xs,e1,e2,h1,h2,h3,h4,h5⟩:=h
 exact bj1 pins s σ H x y v u Q I rx ry ⟨l,k,xs,e1,e2,h1,h2,h3,h4,New.to h5⟩
end
section
variable {X:Cx}{elts:List Expr}{x1:Nat}{tpos:Pos}
theorem b06:bootBuiltins "zip"=some (.type "zip"):=by decide +kernel
end
end L2
namespace L2
open PySem
end L2
namespace L2
open PySem PySem.Spec PyProof.Rows
noncomputable instance trDec:DecidableEq Tr:=fun _ _=>Classical.propDecidable _
def b07 (z:Int) (u:Value):Prop:=(∃ t,u=.int z t)∨∃ b:Bool,u=.bool b∧z=(if b=true then 1 else 0)
mutual
def Tr.In (h:Heap):Tr→Value→Prop
 | .non,u=>u=.none
 | .int z,u=>b07 z u
 | .str x,u=>∃ t,u=.str x t
 | .tup ts,u=>∃ a us,u=.ref a∧h.IsTuple a us∧Tr.Ins h ts us.toList
 | .lst _,_=>False
def Tr.Ins (h:Heap):List Tr→List Value→Prop
 | [],us=>us=[]
 | t::ts,us=>∃ u r,us=u::r∧Tr.In h t u∧Tr.Ins h ts r
end
theorem Tr.Ins.len {h:Heap}:∀ {ts:List Tr}{us:List Value},Tr.Ins h ts us→us.length=ts.length
 | [],us,e=>by simp only [Tr.Ins] at e; rw [e]; rfl
 | t::ts,us,e=>by
   simp only [Tr.Ins] at e
   obtain ⟨u,r,rfl,_,e⟩:=e
   simp [e.len]
theorem ar7 {h:Heap}{a:Addr}{us vs:Array Value}(x:h.IsTuple a us) (y:h.IsTuple a vs):us=vs:=by
 obtain ⟨o,e,_,n,d⟩:=x
 obtain ⟨o',e',_,n',d'⟩:=y
 rw [e] at e'; cases e'
 rw [d] at d'
 injection d' with d1 _
mutual
theorem Tr.In.inj {h:Heap}:∀ {t r:Tr}{u:Value},Tr.In h t u→Tr.In h r u→t=r
 | .non,r,u,e,f=>by
   simp only [Tr.In] at e
   subst e
   cases r <;> simp [Tr.In,b07] at f ⊢
 | .int z,r,u,e,f=>by
   simp only [Tr.In] at e
   rcases e with ⟨t,rfl⟩ | ⟨b,rfl,rfl⟩
   · cases r <;> simp [Tr.In,b07] at f ⊢
     exact f
   · cases r <;> simp [Tr.In,b07] at f ⊢
     exact f.symm
 | .str x,r,u,e,f=>by
   simp only [Tr.In] at e
   obtain ⟨t,rfl⟩:=e
   cases r <;> simp [Tr.In,b07] at f ⊢
   exact f
 | .lst _,r,u,e,f=>e.elim
 | .tup ts,.tup rs,u,e,f=>by
   simp only [Tr.In] at e f
   obtain ⟨a,us,rfl,e2,e3⟩:=e
   obtain ⟨b,vs,hb,f2,f3⟩:=f
   cases hb
   cases ar7 e2 f2
   rw [Tr.Ins.inj e3 f3]
 | .tup ts,.non,u,e,f=>by
   simp only [Tr.In] at e f
   obtain ⟨a,us,rfl,e2,e3⟩:=e
   cases f
 | .tup ts,.int _,u,e,f=>by
   simp only [Tr.In] at e f
   obtain ⟨a,us,rfl,e2,e3⟩:=e
   rcases f with ⟨_,f⟩ | ⟨_,f,_⟩ <;> cases f
 | .tup ts,.str _,u,e,f=>by
   simp only [Tr.In] at e f
   obtain ⟨a,us,rfl,e2,e3⟩:=e
   obtain ⟨_,f⟩:=f
   cases f
 | .tup ts,.lst _,u,e,f=>f.elim
theorem Tr.Ins.inj {h:Heap}:∀ {ts rs:List Tr}{us:List Value},Tr.Ins h ts us→Tr.Ins h rs us→ts=rs
 | [],rs,us,e,f=>by
   simp only [Tr.Ins] at e
   subst e
   cases rs with
   | nil=>rfl
   | cons r rs=>simp [Tr.Ins] at f
 | t::ts,rs,us,e,f=>by
   simp only [Tr.Ins] at e
   obtain ⟨u,r,rfl,e1,e2⟩:=e
   cases rs with
   | nil=>simp [Tr.Ins] at f
   | cons q qs =>
     simp only [Tr.Ins] at f
     obtain ⟨u',r',hh,f1,f2⟩:=f
     cases hh
     rw [e1.inj f1,Tr.Ins.inj e2 f2]
end
theorem b08 {H:Hp}{ts:List Tr}{v:V}{h:(Tr.lst ts).At H v []}:False:=by
 simp only [Tr.At] at h
 obtain ⟨a,vs,_,rfl,e1,c1,e⟩:=h
 simp at e
section
variable {X:Cx}{pins:List (Addr×Obj)}{σ:St} {H:Hp}{s:Shared}
end
theorem b09 {n:Nat}{e:Nat→Bool}:(List.range n).all e=true↔∀ j,j<n→e j=true:=by simp [List.all_eq_true]
theorem b10 {ts rs:List Tr}:((List.range (min ts.length rs.length)).all (fun j=>decide (ts.getD j .non=rs.getD j .non)) && ts.length == rs.length)=decide (ts=rs):=by
 rw [Bool.eq_iff_iff,Bool.and_eq_true,b09,decide_eq_true_iff,beq_iff_eq]
 constructor
 · rintro ⟨h1,h2⟩
   refine List.ext_getElem h2 fun j h3 h4=>?_
   have:=of_decide_eq_true (h1 j (by omega))
   simpa [h3,h4] using this
 · rintro rfl
   exact ⟨fun j _=>decide_eq_true rfl,rfl⟩
section
variable {s:Shared}
mutual
theorem Tr.In.eqAt:∀ {t r:Tr}{A:Around}{u z:Value},Tr.In s.heap t u→Tr.In s.heap r z→A.units+t.h+r.h<cLine→SeqAt.EqAt A s u z (decide (t=r))
 | .non,r,A,u,z,h1,h2,hu=>by
   simp only [Tr.In] at h1
   subst h1
   cases r with
   | non =>
     simp only [Tr.In] at h2
     subst h2
     rw [decide_eq_true rfl]
     exact SeqAt.EqAt.same _
   | int i =>
     rw [decide_eq_false (by simp)]
     rcases h2 with ⟨t2,rfl⟩ | ⟨b2,rfl,rfl⟩
     · exact SeqAt.EqAt.none_int _ _
     · exact SeqAt.EqAt.none_bool _
   | str i =>
     obtain ⟨t2,rfl⟩:=h2
     rw [decide_eq_false (by simp)]
     exact SeqAt.EqAt.none_str _ _
   | tup rs =>
     simp only [Tr.In] at h2
     obtain ⟨a,us,rfl,p,_⟩:=h2
     rw [decide_eq_false (by simp)]
     exact SeqAt.EqAt.none_tuple p (by omega)
   | lst rs=>exact h2.elim
 | .int i,r,A,u,z,h1,h2,hu=>by
   cases r with
   | non =>
     simp only [Tr.In] at h2
     subst h2
     rw [decide_eq_false (by simp)]
     rcases h1 with ⟨t1,rfl⟩ | ⟨b1,rfl,rfl⟩
     · exact SeqAt.EqAt.int_none _ _
     · exact SeqAt.EqAt.bool_none _
   | int j =>
     rw [show decide (Tr.int i=Tr.int j)=(i == j) from Bool.eq_iff_iff.mpr (by simp)]
     rcases h1 with ⟨t1,rfl⟩ | ⟨b1,rfl,rfl⟩
     · rcases h2 with ⟨t2,rfl⟩ | ⟨b2,rfl,rfl⟩
       · exact SeqAt.EqAt.int_int _ _ _ _
       · exact SeqAt.EqAt.int_bool _ _ _
     · rcases h2 with ⟨t2,rfl⟩ | ⟨b2,rfl,rfl⟩
       · exact SeqAt.EqAt.bool_int _ _ _
       · have:=SeqAt.EqAt.bool_bool (A:=A) (s:=s) b1 b2
         cases b1 <;> cases b2 <;> exact this
   | str j =>
     obtain ⟨t2,rfl⟩:=h2
     rw [decide_eq_false (by simp)]
     rcases h1 with ⟨t1,rfl⟩ | ⟨b1,rfl,rfl⟩
     · exact SeqAt.EqAt.int_str _ _ _ _
     · exact SeqAt.EqAt.bool_str _ _ _
   | tup rs =>
     simp only [Tr.In] at h2
     obtain ⟨a,us,rfl,p,_⟩:=h2
     rw [decide_eq_false (by simp)]
     rcases h1 with ⟨t1,rfl⟩ | ⟨b1,rfl,rfl⟩
     · exact SeqAt.EqAt.int_tuple _ _ p (by omega)
     · exact SeqAt.EqAt.bool_tuple _ p (by omega)
   | lst rs=>exact h2.elim
 | .str i,r,A,u,z,h1,h2,hu=>by
   obtain ⟨t1,rfl⟩:=h1
   cases r with
   | non =>
     simp only [Tr.In] at h2
     subst h2
     rw [decide_eq_false (by simp)]
     exact SeqAt.EqAt.str_none _ _
   | int j =>
     rw [decide_eq_false (by simp)]
     rcases h2 with ⟨t2,rfl⟩ | ⟨b2,rfl,rfl⟩
     · exact SeqAt.EqAt.str_int _ _ _ _
     · exact SeqAt.EqAt.str_bool _ _ _
   | str j =>
     obtain ⟨t2,rfl⟩:=h2
     have:=SeqAt.EqAt.str_str (A:=A) (s:=s) i t1 j t2
     rw [show (i == j)=decide (Tr.str i=Tr.str j) from Bool.eq_iff_iff.mpr (by simp)] at this
     exact this
   | tup rs =>
     simp only [Tr.In] at h2
     obtain ⟨a,us,rfl,p,_⟩:=h2
     rw [decide_eq_false (by simp)]
     exact SeqAt.EqAt.str_tuple _ _ p (by omega)
   | lst rs=>exact h2.elim
 | .lst _,r,A,u,z,h1,h2,hu=>h1.elim
 | .tup ts,r,A,u,z,h1,h2,hu=>by
   have h1':=h1
   simp only [Tr.In] at h1
   obtain ⟨a,us,rfl,p1,c1⟩:=h1
   cases r with
   | non =>
     simp only [Tr.In] at h2
     subst h2
     rw [decide_eq_false (by simp)]
     exact SeqAt.EqAt.tuple_none p1 (by omega)
   | int j =>
     rw [decide_eq_false (by simp)]
     rcases h2 with ⟨t2,rfl⟩ | ⟨b2,rfl,rfl⟩
     · exact SeqAt.EqAt.tuple_int _ _ p1 (by omega)
     · exact SeqAt.EqAt.tuple_bool _ p1 (by omega)
   | str j =>
     obtain ⟨t2,rfl⟩:=h2
     rw [decide_eq_false (by simp)]
     exact SeqAt.EqAt.tuple_str _ _ p1 (by omega)
   | lst rs=>exact h2.elim
   | tup rs =>
     have h2':=h2
     simp only [Tr.In] at h2
     obtain ⟨b,vs,rfl,p2,c2⟩:=h2
     by_cases hab:a=b
     · subst hab
       rw [decide_eq_true (h1'.inj h2')]
       exact SeqAt.EqAt.same _
     refine SeqAt.EqAt.of_refs hab ?_
     simp only [Tr.h] at hu
     have l1:=c1.len
     have l2:=c2.len
     simp only [Array.length_toList] at l1 l2
     have:=SeqAt.RcAt.tuples (A:=A) (s:=s) (e:=fun j=>decide (ts.getD j .non=rs.getD j .non)) p1 p2 (by omega) (fun j h1 h2=>by
      have:=Tr.Ins.eqAts (A:=A.in1) c1 c2 (by rw [a67]; omega) j (by simpa using h1) (by simpa using h2)
      simpa using this)
     rw [l1,l2,b10] at this
     rw [show decide (Tr.tup ts=Tr.tup rs)=decide (ts=rs) from Bool.eq_iff_iff.mpr (by simp)]
     exact this
theorem Tr.Ins.eqAts:∀ {ts rs:List Tr}{A:Around}{us zs:List Value},Tr.Ins s.heap ts us→Tr.Ins s.heap rs zs→A.units+Tr.hs ts+Tr.hs rs<cLine →
 ∀ (j:Nat) (h1:j<us.length) (h2:j<zs.length),SeqAt.EqAt A s us[j] zs[j] (decide (ts.getD j .non=rs.getD j .non))
 | [],rs,A,us,zs,c1,c2,hu,j,h1,h2=>by
   simp only [Tr.Ins] at c1
   subst c1
   exact absurd h1 (by simp)
 | t::ts,[],A,us,zs,c1,c2,hu,j,h1,h2=>by
   simp only [Tr.Ins] at c2
   subst c2
   exact absurd h2 (by simp)
 | t::ts,r::rs,A,us,zs,c1,c2,hu,j,h1,h2=>by
   simp only [Tr.Ins] at c1 c2
   obtain ⟨u,us,rfl,a1,b1⟩:=c1
   obtain ⟨z,zs,rfl,a2,b2⟩:=c2
   simp only [Tr.hs] at hu
   cases j with
   | zero =>
     have:=a1.eqAt a2 (A:=A) (by omega)
     simpa using this
   | succ j =>
     have:=b1.eqAts b2 (A:=A) (by omega) j (by simpa using h1) (by simpa using h2)
     simpa using this
end
end
section
variable {prog:Program}{w:World}{E:Value→Shared→Prop}
end
section
variable {prog:Program}{w:World}{E:Value→Shared→Prop}
end
section
variable {prog:Program}{w:World}{E:Value→Shared→Prop}{A:Around}{s:Shared}{d:Addr}{o:Obj}{es:Array DictEntry}{ep:Nat}{ts:List Tr}{t:Tr}{u:Value}
end
section
variable {X:Cx}{pins:List (Addr×Obj)}{σ:St} {H:Hp}{s:Shared}{a:Addr}{t:Tr}{y v:V}{u r:Value}{A:Around}{E:Value→Shared→Prop}{kvs:List (Tr×V)}{m:List (Tr×V×V)}
end
section
variable {prog:Program}{w:World}{A:Around}{E:Value→Shared→Prop}{s:Shared}{d it:Addr}{es:Array DictEntry}{ep i:Nat}
end
section
variable {X:Cx}{pins:List (Addr×Obj)}{σ:St} {H:Hp}{s:Shared}{a:Addr}{t:Tr}{y v z:V}{u r:Value}{A:Around}{E:Value→Shared→Prop}{kvs:List (Tr×V)}{m:List (Tr×V×V)}
end
theorem aa2 {H H':Hp}{t:Tr}{v:V}(h:t.At H v []) (k:Tups H H'):t.At H' v []:=h.mono ⟨k,fun _ m=>absurd m (by simp)⟩
theorem a75 {H H':Hp}{ts:List Tr}{vs:List V}(h:Tr.Ats H ts vs []) (k:Tups H H'):Tr.Ats H' ts vs []:=h.mono ⟨k,fun _ m=>absurd m (by simp)⟩
section
variable {X:Cx}{o i e f value:Expr}{pos pos' apos cpos:Pos}{td ty tv tx:TE}{P:Params}
end
section
variable {X:Cx}
theorem Tr.In.rcAt {s:Shared}{t r:Tr}{A:Around}{u z:Value}(h1:Tr.In s.heap t u) (h2:Tr.In s.heap r z) (hu:A.units+t.h+r.h+2<cLine):SeqAt.RcAt A s u z (decide (t=r)):=by
 cases t with
 | lst _=>exact h1.elim
 | non =>
   simp only [Tr.In] at h1
   subst h1
   cases r with
   | lst _=>exact h2.elim
   | non=>simp only [Tr.In] at h2; subst h2; rw [decide_eq_true rfl]; exact SeqAt.RcAt.none_none
   | int j =>
     rw [decide_eq_false (by simp)]
     rcases h2 with ⟨t2,rfl⟩ | ⟨b2,rfl,rfl⟩
     · exact SeqAt.RcAt.none_int _ _
     · exact SeqAt.RcAt.none_bool _
   | str j=>obtain ⟨t2,rfl⟩:=h2; rw [decide_eq_false (by simp)]; exact SeqAt.RcAt.none_str _ _
   | tup rs=>simp only [Tr.In] at h2; obtain ⟨b,vs,rfl,p,_⟩:=h2; rw [decide_eq_false (by simp)]; exact SeqAt.RcAt.none_tuple p (by omega)
 | int i =>
   cases r with
   | lst _=>exact h2.elim
   | non =>
     simp only [Tr.In] at h2
     subst h2
     rw [decide_eq_false (by simp)]
     rcases h1 with ⟨t1,rfl⟩ | ⟨b1,rfl,rfl⟩
     · exact SeqAt.RcAt.int_none _ _
     · exact SeqAt.RcAt.bool_none _
   | int j =>
     rw [show decide (Tr.int i=Tr.int j)=(i == j) from Bool.eq_iff_iff.mpr (by simp)]
     rcases h1 with ⟨t1,rfl⟩ | ⟨b1,rfl,rfl⟩
     · rcases h2 with ⟨t2,rfl⟩ | ⟨b2,rfl,rfl⟩
       · exact SeqAt.RcAt.int_int _ _ _ _
       · exact SeqAt.RcAt.int_bool _ _ _
     · rcases h2 with ⟨t2,rfl⟩ | ⟨b2,rfl,rfl⟩
       · exact SeqAt.RcAt.bool_int _ _ _
       · have:=SeqAt.RcAt.bool_bool (A:=A) (s:=s) b1 b2
         cases b1 <;> cases b2 <;> exact this
   | str j =>
     obtain ⟨t2,rfl⟩:=h2
     rw [decide_eq_false (by simp)]
     rcases h1 with ⟨t1,rfl⟩ | ⟨b1,rfl,rfl⟩
     · exact SeqAt.RcAt.int_str _ _ _ _
     · exact SeqAt.RcAt.bool_str _ _ _
   | tup rs =>
     simp only [Tr.In] at h2
     obtain ⟨b,vs,rfl,p,_⟩:=h2
     rw [decide_eq_false (by simp)]
     rcases h1 with ⟨t1,rfl⟩ | ⟨b1,rfl,rfl⟩
     · exact SeqAt.RcAt.int_tuple _ _ p (by omega)
     · exact SeqAt.RcAt.bool_tuple _ p (by omega)
 | str i =>
   obtain ⟨t1,rfl⟩:=h1
   cases r with
   | lst _=>exact h2.elim
   | non=>simp only [Tr.In] at h2; subst h2; rw [decide_eq_false (by simp)]; exact SeqAt.RcAt.str_none _ _
   | int j =>
     rw [decide_eq_false (by simp)]
     rcases h2 with ⟨t2,rfl⟩ | ⟨b2,rfl,rfl⟩
     · exact SeqAt.RcAt.str_int _ _ _ _
     · exact SeqAt.RcAt.str_bool _ _ _
   | str j =>
     obtain ⟨t2,rfl⟩:=h2
     have:=SeqAt.RcAt.str_str (A:=A) (s:=s) i t1 j t2
     rw [show (i == j)=decide (Tr.str i=Tr.str j) from Bool.eq_iff_iff.mpr (by simp)] at this
     exact this
   | tup rs=>simp only [Tr.In] at h2; obtain ⟨b,vs,rfl,p,_⟩:=h2; rw [decide_eq_false (by simp)]; exact SeqAt.RcAt.str_tuple _ _ p (by omega)
 | tup ts =>
   simp only [Tr.In] at h1
   obtain ⟨a,us,rfl,p1,c1⟩:=h1
   cases r with
   | lst _=>exact h2.elim
   | non=>simp only [Tr.In] at h2; subst h2; rw [decide_eq_false (by simp)]; exact SeqAt.RcAt.tuple_none p1 (by omega)
   | int j =>
     rw [decide_eq_false (by simp)]
     rcases h2 with ⟨t2,rfl⟩ | ⟨b2,rfl,rfl⟩
     · exact SeqAt.RcAt.tuple_int _ _ p1 (by omega)
     · exact SeqAt.RcAt.tuple_bool _ p1 (by omega)
   | str j=>obtain ⟨t2,rfl⟩:=h2; rw [decide_eq_false (by simp)]; exact SeqAt.RcAt.tuple_str _ _ p1 (by omega)
   | tup rs =>
     simp only [Tr.In] at h2
     obtain ⟨b,vs,rfl,p2,c2⟩:=h2
     simp only [Tr.h] at hu
     have l1:=c1.len
     have l2:=c2.len
     simp only [Array.length_toList] at l1 l2
     have:=SeqAt.RcAt.tuples (A:=A) (s:=s) (e:=fun j=>decide (ts.getD j .non=rs.getD j .non)) p1 p2 (by omega) (fun j h1 h2=>by
      have:=Tr.Ins.eqAts (A:=A.in1) c1 c2 (by rw [a67]; omega) j (by simpa using h1) (by simpa using h2)
      simpa using this)
     rw [l1,l2,b10] at this
     rw [show decide (Tr.tup ts=Tr.tup rs)=decide (ts=rs) from Bool.eq_iff_iff.mpr (by simp)]
     exact this
end
section
variable {P:Params}{σ:St} {H:Hp}{Q:VK}{td ty tx tv:TE}{nn bb cc:St→Hp→Prop}{rr:VK}
end
def b95 (K:PySem.W.Frag):R2:=fun x y H Q=>∃ a b xs,x=.ref a∧y=.ref b∧SqL K H a xs∧SqL K H b []∧Q (.bl xs.isEmpty) H
def b96 (K:PySem.W.Frag):R2:=fun x y H Q=>∃ a b xs,x=.ref a∧y=.ref b∧SqL K H a xs∧SqL K H b []∧Q (.bl (!xs.isEmpty)) H
section
variable {X:Cx}
theorem aa3 (K:PySem.W.Frag) (hu:X.A.units+64<cLine) (hK:X.K=K:=by rfl):OpR X (compareOp .Eq) (b95 K):=by
 subst hK
 intro pins s σ H x y v u Q I rx ry h
 obtain ⟨a,b,xs,rfl,rfl,h1,h2,q⟩:=h
 cases rx
 cases ry
 obtain ⟨is1,q1,p1,_⟩:=I.list h1
 obtain ⟨is2,q2,p2,_⟩:=I.list h2
 cases q2
 cases q1 with
 | nil =>
   have:=SeqAt.RcAt.lists (A:=X.A) (s:=s) (e:=fun _=>true) p1.isList p2.isList rfl (by omega) (fun j h1 _=>absurd h1 (by simp))
   exact this X.prog X.w X.xe (EP X pins σ Q) ⟨.bl true,H,I,rfl,q⟩
 | cons r1 r2 =>
   have:=SeqAt.RcAt.lists_lengths (A:=X.A) (s:=s) p1.isList p2.isList (by simp) (by omega)
   exact this X.prog X.w X.xe (EP X pins σ Q) ⟨.bl false,H,I,rfl,q⟩
theorem b11 (K:PySem.W.Frag) (hu:X.A.units+64<cLine) (hK:X.K=K:=by rfl):OpR X (compareOp .NotEq) (b96 K):=by
 subst hK
 intro pins s σ H x y v u Q I rx ry h
 obtain ⟨a,b,xs,rfl,rfl,h1,h2,q⟩:=h
 cases rx
 cases ry
 obtain ⟨is1,q1,p1,_⟩:=I.list h1
 obtain ⟨is2,q2,p2,_⟩:=I.list h2
 cases q2
 cases q1 with
 | nil =>
   have:=SeqAt.RcNeAt.lists (A:=X.A) (s:=s) (e:=fun _=>true) p1.isList p2.isList rfl (by omega) (fun j h1 _=>absurd h1 (by simp))
   exact this X.prog X.w X.xe (EP X pins σ Q) ⟨.bl false,H,I,rfl,q⟩
 | cons r1 r2 =>
   have:=SeqAt.RcNeAt.lists_lengths (A:=X.A) (s:=s) p1.isList p2.isList (by simp) (by omega)
   exact this X.prog X.w X.xe (EP X pins σ Q) ⟨.bl true,H,I,rfl,q⟩
end
section
variable {K:PySem.W.Frag}{H:Hp}{Q:VK}
theorem ag4 {a b:Addr}{xs:List V}(h1:SqL K H a xs) (h2:SqL K H b []) (h:Q (.bl xs.isEmpty) H):b95 K (.ref a) (.ref b) H Q:=⟨a,b,xs,rfl,rfl,h1,h2,h⟩
theorem be3 {a b:Addr}{xs:List V}(h1:SqL K H a xs) (h2:SqL K H b []) (h:Q (.bl (!xs.isEmpty)) H):b96 K (.ref a) (.ref b) H Q:=⟨a,b,xs,rfl,rfl,h1,h2,h⟩
end
def Off (d l:Addr) (H H':Hp):Prop:=∀ b o,b≠d→b≠l→H b=some o→H' b=some o
theorem Off.refl {d l:Addr}{H:Hp}:Off d l H H:=fun _ _ _ _ e=>e
theorem Off.trans {d l:Addr}{H H1 H2:Hp}(a:Off d l H H1) (b:Off d l H1 H2):Off d l H H2:=fun c o h1 h2 e=>b c o h1 h2 (a c o h1 h2 e)
theorem Same.off {d l:Addr}{H H':Hp}(s:Same H H'):Off d l H H':=fun b o _ _ e=>s b o e
section
variable {X:Cx}{o e value:Expr}{f:Str}{pos pos':Pos}{ta tv:TE}
theorem ab8 (K:PySem.W.Frag) (he:PE X e ta) (hb:attributeBase e f X.env (eval e X.env)=eval e X.env) (hK:X.K=K:=by rfl):PE X (.Attribute e f pos) (tFld K ta f):=hK ▸ bi2 he hb
theorem ar8 (K:PySem.W.Frag) (ha:PE X o ta) (hv:PE X value tv) (hs:swapsWith value (some (.Attribute o f pos')) pos.line X.env=pure false) (hK:X.K=K:=by rfl):PS X (.Assign [.Attribute o f pos'] value pos) (sFld K ta tv f):=hK ▸ bi3 ha hv hs
structure ClsI (K:PySem.W.Frag) (C:Addr):Prop where
 ha:PySem.W.findIn K (.ref C) "__class__"=some (some (.builtin "object.__class__"))
 hn:PySem.W.specialIn K (.builtin "object.__class__") "__get__"=some (some (.builtin "getset_descriptor.__get__"))
 htk:PySem.W.takesIn K (.builtin "object.__class__")=some true
 hm:PySem.W.mroIn K C (.type "object")=some true
def be4 (K:PySem.W.Frag):List V→Hp→VK→Prop:=fun xs H Q=>∃ a C dx fs M b,xs=[.ref a,.ref M]∧H a=some (.ins C dx fs)∧Cls K C∧ClsI K C∧PySem.W.kitOne K (.ref C) (.ref M)=some b∧Q (.bl b) H
theorem be5:CallR X (.builtin "isinstance") (be4 X.K):=by
 intro pins s σ H xs us Q I r h
 obtain ⟨a,C,dx,fs,M,b,rfl,e,c,ci,k,q⟩:=h
 cases r with
 | cons r1 r2 =>
 cases r2 with
 | cons r2 r3 =>
 cases r3
 cases r2
 exact am5 I r1 (.ins e c ci.ha ci.hn ci.htk ci.hm) k fun tk=>⟨.bl b,H,I.tok _,rfl,q⟩
theorem b60 (K:PySem.W.Frag) (hK:X.K=K:=by rfl):CallR X (.builtin "isinstance") (be4 K):=hK ▸ be5
end
section
variable {K:PySem.W.Frag}{σ:St} {H:Hp}{Q:VK}{ta tv:TE}{t:TA}{f m:Str}{C:Addr}{sp:Sp}{dvs:List V}{E:XK}{nn bb cc:St→Hp→Prop}{rr:VK}
theorem bu7 (h:ta σ H fun x H1=>∃ a C dx fs v,x=.ref a∧H1 a=some (.ins C dx fs)∧Cls K C∧NoAttr K C f∧fs.lookup f=some v∧Q v H1):tFld K ta f σ H Q:=h
theorem bn9 (h:tv σ H fun y H1=>ta σ H1 fun x H2=>∃ a C dx fs,x=.ref a∧H2 a=some (.ins C dx fs)∧Cls K C∧NoAttr K C f∧fs.length<1000∧nn σ (upd H2 a (.ins C dx (putF f y fs)))):sFld K ta tv f ⟨nn,rr,bb,cc⟩ σ H:=h
theorem bo0 (h:ta σ H fun x H1=>∃ a dx fs,x=.ref a∧H1 a=some (.ins C dx fs)∧fs.lookup m=none∧t σ H1 fun vs H2=>sp (x::(vs++dvs)) H2 Q E):bb8 C m sp dvs E ta t σ H Q:=h
theorem bo1 (h:t σ H fun vs H1=>∀ x dx,H1 x=none→H1 dx=none→dx≠x→sp (.ref x::(vs++dvs)) (upd (upd H1 dx (.own x)) x (.ins C dx [])) (fun v H2=>v=.non∧Q (.ref x) H2) E):bi5 C sp dvs E t σ H Q:=h
theorem bo2 {a M dx:Addr}{fs:List (Str×V)}{b:Bool}(e:H a=some (.ins C dx fs)) (c:Cls K C) (ci:ClsI K C) (k:PySem.W.kitOne K (.ref C) (.ref M)=some b) (h:Q (.bl b) H):be4 K [.ref a,.ref M] H Q:=⟨a,C,dx,fs,M,b,rfl,e,c,ci,k,h⟩
end
section
variable {X:Cx}{pins:List (Addr×Obj)}{σ:St} {H:Hp}{s:Shared}
end
section
variable {X:Cx}
end
section
variable {K:PySem.W.Frag}{H:Hp}{Q:VK}
end
theorem be6 {K:PySem.W.Frag}{C D:Addr}{cd:ClassData}{od:Option Addr}{sl:Array (Option Value)}(h1:PySem.W.mroIn K C (.ref D)=some true) (h2:K.lookup D=some ⟨.type "type",od,.cls cd,sl⟩):PySem.W.kitOne K (.ref C) (.ref D)=some true:=by
 unfold PySem.W.kitOne
 split
 · rfl
 · have a:(PySem.W.clsIn K D).isSome=true:=by unfold PySem.W.clsIn; rw [h2]; rfl
   have b:PySem.W.typeIn K (.ref D)=some (.type "type"):=by unfold PySem.W.typeIn; simp [h2]
   show (if ((PySem.W.clsIn K D).isSome && PySem.W.typeIn K (.ref D) == some (.type "type"))=true then PySem.W.mroIn K C (.ref D) else none)=some true
   rw [a,b,h1]
   rfl
section
variable {X:Cx}{tg:Expr}
end
section
variable {σ:St} {H:Hp}{R:It→Hp→Prop}{ts:TA}
end
section
variable {X:Cx}
end
section
variable {K:PySem.W.Frag}{H:Hp}{Q:VK}
end
section
variable {X:Cx}{e st:Expr}{te ts:TE}{p2 pos:Pos}
end
structure ItS (prog:Program) (w:World) (it l:Addr) (xs:Array Value) (st:Nat→Heap→Prop):Prop where
 keep:∀ {k:Nat}{h h':Heap},st k h→(∀ c o,c=it∨c=l→h.get? c=some o→h'.get? c=some o)→st k h'
 item:∀ {A:Around}{E:Value→Shared→Prop}{s:Shared}{k:Nat}{x:Value}{Q:Value→Shared→Prop},st k s.heap→xs[k]?=some x→(∀ h':Heap,st (k+1) h'→Heap.SameBut it s.heap h'→Q x { s with heap:=h' })→wpAny (model prog w) A (Builtin.SmallTypes.nextOf (.ref it)) Q E s
 done:∀ {A:Around}{E:Value→Shared→Prop}{s:Shared}{k:Nat}{Q:Value→Shared→Prop},A.handled=none→st k s.heap→xs[k]?=none→(∀ (h':Heap) (e:Addr),Heap.ExtBut it s.heap h'→(∃ o,h'.get? e=some o∧o.cls=.type "StopIteration")→E (.ref e) { s with heap:=h' })→wpAny (model prog w) A (Builtin.SmallTypes.nextOf (.ref it)) Q E s
theorem au2 {prog:Program}{w:World}{it l:Addr}{xs:Array Value}(hn:l≠it):ItS prog w it l xs (fun k h=>h.IsListIter it l k∧h.IsList l xs) where
 keep:=fun ⟨h1,h2⟩ k=>⟨h1.at fun o e=>k it o (.inl rfl) e,by obtain ⟨o,e,r⟩:=h2; exact ⟨o,k l o (.inr rfl) e,r⟩⟩
 item:=fun ⟨h1,h2⟩ e q=>wpAny_nextOf_list_item h1 h2 e fun h' a b=>q h' ⟨a,h2.extBut b.extBut hn⟩ b
 done:=fun hA ⟨h1,h2⟩ e q=>wpAny_nextOf_list_end hA h1 h2 e q
theorem a09 {a b:Addr}{h h':Heap}{o:Obj}(s:Heap.SameBut a h h') (hn:b≠a) (e:h.get? b=some o):h'.get? b=some o:=(s.2 b hn).trans e
section
variable {prog:Program}{w:World}{z TI TO i1 i2 i3 l1 l2 l3:Addr}{xs ys us:Array Value}{st1 st2 st3:Nat→Heap→Prop}
end
structure SrcO (l:Addr) (o:Obj) (P:Heap→Prop):Prop where
 push:∀ {h:Heap}{o':Obj},P h→P (h.push o')
 iter:∀ {prog:Program}{w:World}{A:Around}{E:Value→Shared→Prop}{s:Shared}{Q:Value→Shared→Prop},P s.heap→Q (.ref s.heap.objs.size) { s with heap:=s.heap.push o }→wpAny (model prog w) A (pyIter (.ref l)) Q E s
theorem b61 (l:Addr) (xs:Array Value):SrcO l { cls:=.type "list_iterator",data:=.fields #[.ref l,.int 0 0] } (fun h=>h.IsList l xs) where
 push:=fun h=>h.push _
 iter:=fun p q=>wpAny_pyIter_list p q
section
variable {X:Cx}{elts:List Expr}{x1:Nat}{tpos:Pos}
end
section
variable {X:Cx}{k v:Expr}{pos:Pos}{tk tv:TE}{P:Params}
end
def Each {α β:Type}(R:α→β→Prop) (vs:List α) (xs:List β):Prop:=vs.length=xs.length∧∀ (j:Nat) (v:α) (x:β),vs[j]?=some v→xs[j]?=some x→R v x
section
variable {α β:Type}{R:α→β→Prop}{vs:List α}{xs:List β}
theorem Each.nil:Each R ([]:List α) ([]:List β):=⟨rfl,fun j v x h=>by simp at h⟩
theorem Each.mono {R':α→β→Prop}(h:Each R vs xs) (k:∀ v x,R v x→R' v x):Each R' vs xs:=⟨h.1,fun j v x h1 h2=>k v x (h.2 j v x h1 h2)⟩
theorem Each.append {ws:List α}{ys:List β}(h:Each R vs xs) (k:Each R ws ys):Each R (vs++ws) (xs++ys):=by
 refine ⟨by simp [h.1,k.1],fun j v x h1 h2=>?_⟩
 by_cases hj:j<vs.length
 · rw [List.getElem?_append_left hj] at h1
   rw [List.getElem?_append_left (by rw [← h.1]; exact hj)] at h2
   exact h.2 j v x h1 h2
 · rw [List.getElem?_append_right (by omega)] at h1
   rw [List.getElem?_append_right (by rw [← h.1]; omega),←h.1] at h2
   exact k.2 _ v x h1 h2
theorem Each.snoc {v:α}{x:β}(h:Each R vs xs) (k:R v x):Each R (vs++[v]) (xs++[x]):=h.append ⟨rfl,fun j w y h1 h2=>by
 cases j with
 | zero=>cases h1; cases h2; exact k
 | succ j=>simp at h1⟩
end
abbrev RRow:=List Str×Nat
abbrev bu8:=Bool×List RRow
section
variable {f:Nat→Option Nat}{rep rk:Nat→Nat}
end
def hF (d:Addr):List (Str×V):=putF "heads" (.ref d) []
abbrev Pr:=Nat×Nat
section
variable {X:Cx}
end
section
variable {H:Hp}{Q:VK}
end
def TupK (K:PySem.W.Frag) (a:Addr) (xs:List V):Prop:=∃ (o:Obj) (its:Array Value) (n:Nat),K.lookup a=some o∧o.cls=.type "tuple"∧o.data=.seq its n∧its.size≤sizeLine∧Vals xs its.toList
theorem TupK.sq {K:PySem.W.Frag}{a:Addr}{xs:List V}(h:TupK K a xs) (H:Hp):SqT K H a xs:=.inr h
mutual
def Tr.AtK (K:PySem.W.Frag) (H:Hp):Tr→V→Prop
 | .non,v=>v=.non
 | .int i,v=>v=.int i
 | .str s,v=>v=.str s
 | .tup xs,v=>∃ a vs,v=.ref a∧(H a=some (.tup vs)∨TupK K a vs)∧Tr.AtsK K H xs vs
 | .lst _,_=>False
def Tr.AtsK (K:PySem.W.Frag) (H:Hp):List Tr→List V→Prop
 | [],vs=>vs=[]
 | x::xs,vs=>∃ v ws,vs=v::ws∧Tr.AtK K H x v∧Tr.AtsK K H xs ws
end
mutual
theorem Tr.At.toK (K:PySem.W.Frag) {H:Hp}:∀ {x:Tr}{v:V},x.At H v []→x.AtK K H v
 | .non,_,h=>by simp only [Tr.At] at h; simp only [Tr.AtK]; exact h.1
 | .int _,_,h=>by simp only [Tr.At] at h; simp only [Tr.AtK]; exact h.1
 | .str _,_,h=>by simp only [Tr.At] at h; simp only [Tr.AtK]; exact h.1
 | .tup xs,v,h=>by
   simp only [Tr.At] at h
   simp only [Tr.AtK]
   obtain ⟨a,vs,e,g,r⟩:=h
   exact ⟨a,vs,e,.inl g,Tr.Ats.toK K r⟩
 | .lst xs,v,h=>(b08 (h:=h)).elim
theorem Tr.Ats.toK (K:PySem.W.Frag) {H:Hp}:∀ {xs:List Tr}{vs:List V},Tr.Ats H xs vs []→Tr.AtsK K H xs vs
 | [],_,h=>by simp only [Tr.Ats] at h; simp only [Tr.AtsK]; exact h.1
 | x::xs,vs,h=>by
   simp only [Tr.Ats] at h
   simp only [Tr.AtsK]
   obtain ⟨v,ws,f,g,e,e2,a,b⟩:=h
   have hf:f=[]∧g=[]:=by simpa using e2.symm
   obtain ⟨rfl,rfl⟩:=hf
   exact ⟨v,ws,e,Tr.At.toK K a,Tr.Ats.toK K b⟩
end
section
variable {X:Cx}{pins:List (Addr×Obj)}{σ:St} {H:Hp}{s:Shared}
mutual
theorem Tr.AtK.isIn (I:Inv X pins σ H s):∀ {t:Tr}{v:V}{u:Value},t.AtK X.K H v→RelV v u→Tr.In s.heap t u
 | .non,v,u,h,r=>by
   simp only [Tr.AtK] at h
   subst h
   cases r
   exact rfl
 | .int z,v,u,h,r=>by
   simp only [Tr.AtK] at h
   subst h
   obtain ⟨t,rfl⟩:=r
   exact .inl ⟨t,rfl⟩
 | .str z,v,u,h,r=>by
   simp only [Tr.AtK] at h
   subst h
   obtain ⟨t,rfl⟩:=r
   exact ⟨t,rfl⟩
 | .lst _,v,u,h,r=>by simp only [Tr.AtK] at h
 | .tup ts,v,u,h,r=>by
   simp only [Tr.AtK] at h
   obtain ⟨a,vs,rfl,e1,c1⟩:=h
   cases r
   obtain ⟨is1,q1,p1,_⟩:=I.tuple (show SqT X.K H a vs from e1.elim SqT.of (fun z=>z.sq H))
   simp only [Tr.In]
   exact ⟨a,is1.toArray,rfl,p1,by simpa using Tr.AtsK.isIns I c1 q1⟩
theorem Tr.AtsK.isIns (I:Inv X pins σ H s):∀ {ts:List Tr}{vs:List V}{us:List Value},Tr.AtsK X.K H ts vs→Vals vs us→Tr.Ins s.heap ts us
 | [],vs,us,c,q=>by
   simp only [Tr.AtsK] at c
   subst c
   cases q
   exact rfl
 | t::ts,vs,us,c,q=>by
   simp only [Tr.AtsK] at c
   obtain ⟨v,vs,rfl,a1,b1⟩:=c
   cases q with
   | cons r1 r2 =>
     simp only [Tr.Ins]
     exact ⟨_,_,rfl,Tr.AtK.isIn I a1 r1,Tr.AtsK.isIns I b1 r2⟩
end
end
def bo3 (K:PySem.W.Frag):R2:=fun x y H Q=>∃ (t r:Tr),t.AtK K H x∧r.AtK K H y∧t.h≤20∧r.h≤20∧Q (.bl (decide (t=r))) H
section
variable {X:Cx}{pins:List (Addr×Obj)}{σ:St} {H:Hp}{s:Shared}{a:Addr}{t:Tr}{y v z:V}{u r:Value}{A:Around}{E:Value→Shared→Prop}{kvs:List (Tr×V)}{m:List (Tr×V×V)}
end
section
variable {X:Cx}{o i e f value:Expr}{pos pos' apos cpos:Pos}{td ty tv tx:TE}{P:Params}
theorem ac6 (K:PySem.W.Frag) (hu:X.A.units+64<cLine) (hK:X.K=K:=by rfl):OpR X (compareOp .Eq) (bo3 K):=by
 subst hK
 intro pins s σ H x y v u Q I rx ry h
 obtain ⟨t,r,h1,h2,l1,l2,q⟩:=h
 exact (h1.isIn I rx).rcAt (h2.isIn I ry) (A:=X.A) (by omega) X.prog X.w X.xe (EP X pins σ Q) ⟨.bl _,H,I,rfl,q⟩
end
section
variable {K:PySem.W.Frag}{P:Params}{σ:St} {H:Hp}{Q:VK}{td ty tx tv:TE}
theorem ao6 {x y:V}{t r:Tr}(h1:t.AtK K H x) (h2:r.AtK K H y) (l1:t.h≤20) (l2:r.h≤20) (h:Q (.bl (decide (t=r))) H):bo3 K x y H Q:=⟨t,r,h1,h2,l1,l2,h⟩
end
section
variable {prog:Program}{w:World}{A:Around}{E:Value→Shared→Prop}{s:Shared}
theorem ad4 {it l:Addr}{i:Nat}{items}{x:Value}{Q:Value→Shared→Prop}(hit:s.heap.IsTupleIter it l i)
 (hl:s.heap.IsTuple l items) (hx:items[i]?=some x)
 (hQ:∀ h',h'.IsTupleIter it l (i+1)→Heap.SameBut it s.heap h'→Q x { s with heap:=h' }) :
 wpAny (model prog w) A (Builtin.SmallTypes.nextOf (.ref it)) Q E s:=by
 obtain ⟨o,ho,hc,hd⟩:=id hit
 obtain ⟨ol,hol,_,nl,hdl⟩:=hl
 unfold Builtin.SmallTypes.nextOf
 refine wpAny_bind (wpAny_callSpecial?_slot (name:=Str.ofString "__next__") hit.typeIs F.slot_tuple_iterator_next
  (wpAny_call_entry F.slot_tuple_iterator_next hit.typeIs F.entry_tuple_iterator_next ?_ (F.args_tuple_iterator_next_1 _)))
 show wpAny _ _ (field (.ref it) 0 >>= _) _ _ s
 refine wpAny_bind (wpAny_field ho hd (x:=.ref l) rfl ?_)
 show wpAny _ _ (if (Value.ref l == Value.none)=true then _ else _) _ _ s
 rw [if_neg (show ¬ ((Value.ref l == Value.none)=true) from Bool.false_ne_true)]
 show wpAny _ _ (field (.ref it) 1 >>= _) _ _ s
 refine wpAny_bind (wpAny_field ho hd (x:=.int i 0) rfl ?_)
 show wpAny _ _ (seqItems? (.ref l) >>= _) _ _ s
 refine wpAny_bind (wpAny_seqItems hol hdl ?_)
 simp only [Int.toNat_natCast,hx]
 refine wpAny_bind (wpAny_setField ho hd (by simp) (wpAny_pure ⟨x,rfl,wpAny_pure (hQ _ ?_ (Heap.SameBut.update ..))⟩))
 exact ⟨_,Heap.get?_update_self _ ho (Obj.isFreed_of_fields (Obj.data_mapFields hd _)),(Obj.cls_mapFields ..).trans hc,by
  rw [Obj.data_mapFields hd]; simp [rawInt]⟩
theorem ad9 {it l:Addr}{i:Nat}{items}{Q:Value→Shared→Prop}(hh:A.handled=none)
 (hit:s.heap.IsTupleIter it l i) (hl:s.heap.IsTuple l items) (hx:items[i]?=none)
 (hE:∀ h' e,Heap.ExtBut it s.heap h'→(∃ o,h'.get? e=some o∧o.cls=.type "StopIteration")→E (.ref e) { s with heap:=h' }) :
 wpAny (model prog w) A (Builtin.SmallTypes.nextOf (.ref it)) Q E s:=by
 obtain ⟨o,ho,hc,hd⟩:=id hit
 obtain ⟨ol,hol,_,nl,hdl⟩:=hl
 unfold Builtin.SmallTypes.nextOf
 refine wpAny_bind (wpAny_callSpecial?_slot (name:=Str.ofString "__next__") hit.typeIs F.slot_tuple_iterator_next
  (wpAny_call_entry F.slot_tuple_iterator_next hit.typeIs F.entry_tuple_iterator_next ?_ (F.args_tuple_iterator_next_1 _)))
 show wpAny _ _ (field (.ref it) 0 >>= _) _ _ s
 refine wpAny_bind (wpAny_field ho hd (x:=.ref l) rfl ?_)
 show wpAny _ _ (if (Value.ref l == Value.none)=true then _ else _) _ _ s
 rw [if_neg (show ¬ ((Value.ref l == Value.none)=true) from Bool.false_ne_true)]
 show wpAny _ _ (field (.ref it) 1 >>= _) _ _ s
 refine wpAny_bind (wpAny_field ho hd (x:=.int i 0) rfl ?_)
 show wpAny _ _ (seqItems? (.ref l) >>= _) _ _ s
 refine wpAny_bind (wpAny_seqItems hol hdl ?_)
 simp only [Int.toNat_natCast,hx]
 refine wpAny_bind (wpAny_rule (wpAny_bind (wpAny_setField ho hd (by simp) ?_)))
 show wpAny _ _ (newExc (.type "StopIteration") [] >>= _) _ _ _
 refine wpAny_bind ?_
 simp only [newExc,newTuple]
 refine wpAny_bind (wpAny_newObj_type ?_ (by size_fits))
 refine wpAny_bind (m:=firstArgMember _ _) (wpAny_of_eq (a:=Value.none) (by first | rfl | (simp only [firstArgMember]; rfl)) ?_)
 refine wpAny_newObj_type ?_ (by size_fits)
 simp only [raiseNew]
 refine wpAny_bind (wpAny_handled ?_)
 first | rw [show A.in1.handled=none from hh] | rw [hh]
 refine wpAny_bind (wpAny_pure (wpAny_throw ?_))
 exact hE _ _ (((Heap.SameBut.update ..).extBut.push _).push _) ⟨_,Heap.get?_push_size _ rfl,rfl⟩
end
theorem aj4 {h h':Heap}{a t:Addr}{i:Nat}(x:h.IsTupleIter a t i) (k:∀ o,h.get? a=some o→h'.get? a=some o):h'.IsTupleIter a t i:=let ⟨o,ho,r⟩:=x; ⟨o,k o ho,r⟩
theorem ao7 {prog:Program}{w:World}{it l:Addr}{xs:Array Value}(hn:l≠it):ItS prog w it l xs (fun k h=>h.IsTupleIter it l k∧h.IsTuple l xs) where
 keep:=fun ⟨h1,h2⟩ k=>⟨aj4 h1 fun o e=>k it o (.inl rfl) e,by obtain ⟨o,e,r⟩:=h2; exact ⟨o,k l o (.inr rfl) e,r⟩⟩
 item:=fun ⟨h1,h2⟩ e q=>ad4 h1 h2 e fun h' a b=>q h' ⟨a,h2.extBut b.extBut hn⟩ b
 done:=fun hA ⟨h1,h2⟩ e q=>ad9 hA h1 h2 e q
theorem b12 (l:Addr) (xs:Array Value):SrcO l { cls:=.type "tuple_iterator",data:=.fields #[.ref l,.int 0 0] } (fun h=>h.IsTuple l xs) where
 push:=fun h=>h.push _
 iter:=fun p q=>wpAny_pyIter_tuple p q
section
variable {X:Cx}{elts:List Expr}{x1:Nat}{tpos:Pos}
end
theorem Each.take {α β:Type}{R:α→β→Prop}{vs:List α}{xs:List β}(h:Each R vs xs) (n:Nat):Each R (vs.take n) (xs.take n):=by
 refine ⟨by simp [h.1],fun j v x h1 h2=>?_⟩
 by_cases hj:j<n
 · rw [List.getElem?_take,if_pos hj] at h1 h2
   exact h.2 j v x h1 h2
 · rw [List.getElem?_take,if_neg hj] at h1
   cases h1
theorem Tr.In.rcNeAt {s:Shared}{ts rs:List Tr}{A:Around}{u z:Value}(h1:Tr.In s.heap (.tup ts) u) (h2:Tr.In s.heap (.tup rs) z) (hu:A.units+(Tr.tup ts).h+(Tr.tup rs).h+2<cLine):SeqAt.RcNeAt A s u z (!decide (Tr.tup ts=Tr.tup rs)):=by
 simp only [Tr.In] at h1 h2
 obtain ⟨a,us,rfl,p1,c1⟩:=h1
 obtain ⟨b,vs,rfl,p2,c2⟩:=h2
 simp only [Tr.h] at hu
 have l1:=c1.len
 have l2:=c2.len
 simp only [Array.length_toList] at l1 l2
 have:=SeqAt.RcNeAt.tuples (A:=A) (s:=s) (e:=fun j=>decide (ts.getD j .non=rs.getD j .non)) p1 p2 (by omega) (fun j h1 h2=>by
  have:=Tr.Ins.eqAts (A:=A.in1) c1 c2 (by rw [a67]; omega) j (by simpa using h1) (by simpa using h2)
  simpa using this)
 rw [l1,l2,b10] at this
 rw [show decide (Tr.tup ts=Tr.tup rs)=decide (ts=rs) from Bool.eq_iff_iff.mpr (by simp)]
 exact this
def bo4 (K:PySem.W.Frag):R2:=fun x y H Q=>∃ (ts rs:List Tr),(Tr.tup ts).AtK K H x∧(Tr.tup rs).AtK K H y∧(Tr.tup ts).h≤20∧(Tr.tup rs).h≤20∧Q (.bl (!decide (Tr.tup ts=Tr.tup rs))) H
theorem au3 {X:Cx}(K:PySem.W.Frag) (hu:X.A.units+64<cLine) (hK:X.K=K:=by rfl):OpR X (compareOp .NotEq) (bo4 K):=by
 subst hK
 intro pins s σ H x y v u Q I rx ry h
 obtain ⟨t,r,h1,h2,l1,l2,q⟩:=h
 exact (h1.isIn I rx).rcNeAt (h2.isIn I ry) (A:=X.A) (by omega) X.prog X.w X.xe (EP X pins σ Q) ⟨.bl _,H,I,rfl,q⟩
theorem b97 {K:PySem.W.Frag}{H:Hp}{Q:VK}{x y:V}{ts rs:List Tr}(h1:(Tr.tup ts).AtK K H x) (h2:(Tr.tup rs).AtK K H y) (l1:(Tr.tup ts).h≤20) (l2:(Tr.tup rs).h≤20) (h:Q (.bl (!decide (Tr.tup ts=Tr.tup rs))) H):bo4 K x y H Q:=⟨ts,rs,h1,h2,l1,l2,h⟩
section
variable {prog:Program}{w:World}{A:Around}{E:Value→Shared→Prop}{s:Shared}{d:Addr}{es:Array DictEntry}{ep:Nat}
end
section
variable {prog:Program}{w:World}{A:Around}{E:Value→Shared→Prop}{s:Shared}{d it:Addr}{es:Array DictEntry}{ep i:Nat}
end
section
variable {X:Cx}{P:Params}{o:Expr}{td:TE}{apos cpos:Pos}
end
section
variable {prog:Program}{w:World}{A:Around}{E:Value→Shared→Prop}{s:Shared}{d v:Addr}{es:Array DictEntry}{ep:Nat}
end
section
variable {X:Cx}{P:Params}
end
open AutoSeq1 (wpAny_loadPart')
section
variable {X:Cx}{elts:List Expr}{x1:Nat}{tpos:Pos}
end
section
variable {prog:Program}{w:World}
variable {A:Around}{E:Value→Shared→Prop}{s:Shared}
end
section
variable {prog:Program}{w:World}{A:Around}{R:Result→Shared→Prop}{I:Addr}{fp wr:List Addr}{G:Array GenState→Array GenState→Prop}{n:Nat}{P:Nat→Value→Prop}{St:Nat→Shared→Prop}
end
section
variable {prog:Program}{w:World}{A:Around}{E:Value→Shared→Prop}{s:Shared}
end
section
variable {M:Model}{A:Around}{E:Value→Shared→Prop}{s:Shared}
end
section
variable {prog:Program}{w:World}{A:Around}{E:Value→Shared→Prop}{s:Shared}{S it:Addr}{o:Obj}{es:Array (Int×Value)}{ep:Nat}{t:SetTable}
end
section
variable {prog:Program}{w:World}{A:Around}{E:Value→Shared→Prop}{s:Shared}{S it tp:Addr}{o:Obj}{es:Array (Int×Value)}{ep i:Nat}{t:SetTable}{first:Value}
end
section
variable {prog:Program}{w:World}{A:Around}{E:Value→Shared→Prop}{s:Shared}{S it tp:Addr}{o:Obj}{es:Array (Int×Value)}{ep i:Nat}{t:SetTable}{first:Value}
end
section
variable {prog:Program}{w:World}{A:Around}{E:Value→Shared→Prop}{s:Shared}{S it tp:Addr}{o:Obj}{es:Array (Int×Value)}{ep i:Nat}{t:SetTable}{first:Value}
end
section
variable {prog:Program}{w:World}{A:Around}{E:Value→Shared→Prop}{s:Shared}{S:Addr}{es:Array (Int×Value)}
end
section
variable {prog:Program}{w:World}{A:Around}{E:Value→Shared→Prop}{s:Shared}{S:Addr}{es:Array (Int×Value)}
end
section
variable {X:Cx}{P:Program}{w:World}
end
section
variable {X:Cx}
end
section
variable {rs:List bu8}{many:Nat}{p:Pr}
variable {N k:Nat}{dv:Pr→Option Nat}
end
section
variable {prog:Program}{w:World}{A:Around}{E:Value→Shared→Prop}{s:Shared}
end
section
variable {X:Cx}{P:Params}
end
section
variable {prog:Program}{w:World}{A:Around}{R:Result→Shared→Prop}{J:Addr}{fp wr:List Addr}{n:Nat}{P:Nat→Value→Prop}{St:Nat→Heap→Prop}
end
section
variable {prog:Program}{w:World}{A:Around}{E:Value→Shared→Prop}{s:Shared}
end
section
variable {X:Cx}{e d:Expr}{t tk:TA}{p kp pos:Pos}
end
section
variable {X:Cx}
end
section
variable {P:Program}{w:World}{K:PySem.W.Frag}{mg:Str→Option Value}{base:Heap}
end
section
variable {σ:St} {H:Hp}{D:Ends}{C:Addr}{E:XK}{t:TA}{n:Nat}{tb:XK→TS}{ts:TS}
end
section
variable {X:Cx}{k k':Nat}{f f' C C':Addr}{fd fd':FuncData}{ps ps':List Str}{sp sp':Sp}{m:Str}{pos apos:Pos}{e o:Expr}{es:List Expr}{ta:TE}{t:TA}
end
section
variable {σ:St} {H:Hp}{Q:VK}{ta:TE}{t:TA}{m:Str}{C1 C2:Addr}{sp1 sp2:Sp}
end
section
variable {X:Cx}{tg:Expr}
end
section
variable {σ:St} {H:Hp}{R:It→Hp→Prop}{ts:TA}
end
end L2
namespace L2
end L2
namespace L2
open PySem PySem.Spec PyProof.Rows
@[reducible] def a76 (h:Heap) (T:Addr) (a b:Value):Prop:=h.get? T=some { cls:=.type "tuple",data:=.seq #[a,b] }
theorem a86 {prog:Program}{w:World}{A:Around}{E:Value→Shared→Prop}{s:Shared}{T:Addr}{a b x:Value}{k:Nat}{Q:Unit→Shared→Prop}(h:a76 s.heap T a b)
 (q:∀ h':Heap,h'.get? T=some { cls:=.type "tuple",data:=.seq (#[a,b].setIfInBounds k x) }→Heap.SameBut T s.heap h'→Q () { s with heap:=h' }):wpAny (model prog w) A (updateSeq T fun v=>v.setIfInBounds k x) Q E s:=by
 refine wpAny_updateSeq h rfl (q _ ?_ (Heap.SameBut.update _ _ _)) (by simp [sizeLine_eq]) (by simp [sizeLine_eq])
 rw [Heap.get?_update_self _ h rfl]
 simp [Obj.mapSeq]
structure Apt2 (z TI TO i1 i2 l1 l2:Addr):Prop where
 nd:[z,TI,TO,i1,i2].Nodup
 ls:∀ l∈[l1,l2],l∉[z,TO,i1,i2]
section
variable {prog:Program}{w:World}{z TI TO i1 i2 l1 l2:Addr}{xs ys:Array Value}{st1 st2:Nat→Heap→Prop}
theorem Apt2.all (D:[z,TI,TO,i1,i2].Nodup):z≠TI∧z≠TO∧z≠i1∧z≠i2∧TI≠TO∧TI≠i1∧TI≠i2∧TO≠i1∧TO≠i2∧i1≠i2:=by
 simp only [List.nodup_cons,List.mem_cons,List.not_mem_nil,or_false,not_or,List.nodup_nil,and_true] at D
 obtain ⟨⟨a1,a2,a3,a4⟩,⟨a6,a7,a8⟩,⟨a10,a11⟩,a13,_⟩:=D
 exact ⟨a1,a2,a3,a4,a6,a7,a8,a10,a11,a13⟩
theorem ItS.mv {it l p:Addr}{X:Array Value}{st:Nat→Heap→Prop}{j:Nat}{h h':Heap}(J:ItS prog w it l X st) (hs:st j h) (b:Heap.SameBut p h h') (x1:it≠p) (x2:l≠p):st j h':=J.keep hs fun c o hc e=>by
 rcases hc with rfl | rfl
 · exact a09 b x1 e
 · exact a09 b x2 e
theorem b13 {A:Around}{E:Value→Shared→Prop}{s:Shared}{k:Nat}{x y a b:Value}{Q:Value→Shared→Prop}
 (D:Apt2 z TI TO i1 i2 l1 l2) (J1:ItS prog w i1 l1 xs st1) (J2:ItS prog w i2 l2 ys st2) (hz:IsZip s.heap z TI TO .none) (hTI:a76 s.heap TI (.ref i1) (.ref i2)) (hTO:a76 s.heap TO a b)
 (h1:st1 k s.heap) (h2:st2 k s.heap) (e1:xs[k]?=some x) (e2:ys[k]?=some y)
 (q:∀ h':Heap,IsZip h' z TI TO (rawInt s.heap.objs.size)→a76 h' TO x y→st1 (k+1) h'→st2 (k+1) h'→a76 h' s.heap.objs.size x y→h'.objs.size=s.heap.objs.size+1→(∀ (c:Addr) (o:Obj),c∉[z,TO,i1,i2]→s.heap.get? c=some o→h'.get? c=some o)→Q (.ref s.heap.objs.size) { s with heap:=h' }) :
 wpAny (model prog w) A (Builtin.«zip.__next__» { pos:=[.ref z] }) (fun fin s'=>∃ v,fin=Fin.done (Flow.ret v)∧Q v s') E s:=by
 obtain ⟨D,D2⟩:=D
 unfold Builtin.«zip.__next__»
 refine wpAny_bind (wpAny_pure ?_)
 refine wpAny_bind (wpAny_field (x:=.bool false) hz rfl rfl ?_)
 refine wpAny_bind (wpAny_field (x:=.ref TI) hz rfl rfl ?_)
 refine wpAny_bind (wpAny_seqItems hTI rfl ?_)
 dsimp only
 rw [if_neg (show ¬ (#[Value.ref i1,Value.ref i2].isEmpty=true) by simp)]
 refine wpAny_bind (wpAny_bind (wpAny_field (x:=.none) hz rfl rfl (wpAny_pure ?_)))
 rw [if_pos rfl]
 refine wpAny_bind (wpAny_rule ?_)
 refine wpAny_bind (wpAny_field (x:=.ref TO) hz rfl rfl ?_)
 dsimp only
 refine wpAny_bind (wpAny_setField_rec hz (by simp) fun g1 z1 b1=>?_)
 refine wpAny_bind ?_
 obtain ⟨n1,n2,n3,n4,n6,n7,n8,n10,n11,n13⟩:=Apt2.all D
 obtain ⟨m1,m2,m3,m4⟩:l1≠z∧l1≠TO∧l1≠i1∧l1≠i2:=by simpa using D2 l1 (by simp)
 obtain ⟨m6,m7,m8,m9⟩:l2≠z∧l2≠TO∧l2≠i1∧l2≠i2:=by simpa using D2 l2 (by simp)
 show wpAny (model prog w) A (forIn [(Value.ref i1,0),(Value.ref i2,1)] (none,()) _) _ E _
 rw [List.forIn_cons]
 refine wpAny_bind (wpAny_bind (wpAny_onRaise ?_))
 refine wpAny_bind (m:=Builtin.SmallTypes.nextOf (.ref i1)) (f:=fun v=>pure (some v)) ?_
 refine J1.item (J1.mv h1 b1 n3.symm m1) e1 fun g2 z2 b2=>wpAny_pure ?_
 dsimp only
 refine wpAny_bind (wpAny_seqItems (items:=#[a,b]) (a09 b2 n10 (a09 b1 n2.symm hTO)) rfl ?_)
 dsimp only
 refine wpAny_bind (a86 (a09 b2 n10 (a09 b1 n2.symm hTO)) fun g3 t3 b3=>?_)
 refine wpAny_bind (wpAny_letGo (wpAny_pure ?_))
 dsimp only
 rw [List.forIn_cons]
 refine wpAny_bind (wpAny_bind (wpAny_onRaise ?_))
 refine wpAny_bind (m:=Builtin.SmallTypes.nextOf (.ref i2)) (f:=fun v=>pure (some v)) ?_
 refine J2.item (J2.mv (J2.mv (J2.mv h2 b1 n4.symm m6) b2 n13.symm m8) b3 n11.symm m7) e2 fun g4 z4 b4=>wpAny_pure ?_
 dsimp only
 have t4:a76 g4 TO x b:=a09 b4 n11 (by rw [t3]; rfl)
 refine wpAny_bind (wpAny_seqItems (items:=#[x,b]) t4 rfl ?_)
 dsimp only
 refine wpAny_bind (a86 t4 fun g5 t5 b5=>?_)
 refine wpAny_bind (wpAny_letGo (wpAny_pure ?_))
 dsimp only
 rw [List.forIn_nil]
 refine wpAny_pure ?_
 dsimp only
 have t5':a76 g5 TO x y:=by rw [a76,t5]; rfl
 refine wpAny_bind (wpAny_seqItems (items:=#[x,y]) t5' rfl ?_)
 dsimp only
 refine wpAny_bind (wpAny_newTuple ?_ (by simp [sizeLine_eq]))
 have sz:g5.objs.size=s.heap.objs.size:=by rw [b5.1,b4.1,b3.1,b2.1,b1.1]
 have zz:g5.get? z=some { cls:=.type "zip",data:=.fields #[.ellipsis,.bool false,.bool false,.ref TI,.ref TO] }:=a09 b5 n2 (a09 b4 n4 (a09 b3 n2 (a09 b2 n3 z1)))
 refine wpAny_bind (wpAny_bind ?_)
 refine wpAny_setField_rec (Heap.get?_push_of_some _ zz) (by simp) fun g8 z8 b8=>?_
 refine wpAny_setField_rec z8 (by simp) fun g9 z9 b9=>?_
 refine wpAny_pure ⟨_,rfl,?_⟩
 have lt:∀ {c:Addr}{o:Obj},g5.get? c=some o→c≠g5.objs.size:=fun e=>Nat.ne_of_lt (Heap.lt_size e)
 have mvp:∀ {it l:Addr}{X:Array Value}{st:Nat→Heap→Prop}{j:Nat},ItS prog w it l X st→st j g5→it≠z→l≠z→st j g9:=fun J hs x1 x2=>J.keep hs fun c o hc e=>by
  rcases hc with rfl | rfl
  · exact a09 b9 x1 (a09 b8 x1 (Heap.get?_push_of_some _ e))
  · exact a09 b9 x2 (a09 b8 x2 (Heap.get?_push_of_some _ e))
 have zne:g5.objs.size≠z:=(lt zz).symm
 rw [sz]
 refine q g9 ?_ ?_ (mvp J1 ?_ n3.symm m1) (mvp J2 ?_ n4.symm m6) ?_ ?_ ?_
 · rw [IsZip,z9]
   simp [sz]
 · exact a09 b9 n2.symm (a09 b8 n2.symm (Heap.get?_push_of_some _ t5'))
 · exact J1.mv (J1.mv (J1.mv z2 b3 n10.symm m2) b4 n13 m4) b5 n10.symm m2
 · exact J2.mv z4 b5 n11.symm m7
 · have:=a09 b9 zne (a09 b8 zne (Heap.get?_push_size g5 rfl))
   rw [← sz]
   exact this
 · rw [b9.1,b8.1,Heap.size_push,sz]
 · intro c o hc e
   simp only [List.mem_cons,List.not_mem_nil,or_false,not_or] at hc
   obtain ⟨c1,c2,c3,c4⟩:=hc
   exact a09 b9 c1 (a09 b8 c1 (Heap.get?_push_of_some _ (a09 b5 c2 (a09 b4 c4 (a09 b3 c2 (a09 b2 c3 (a09 b1 c1 e)))))))
theorem b62 {A:Around}{E:Value→Shared→Prop}{s:Shared}{k:Nat}{a b:Value}{Q:PySem.Fin→Shared→Prop}(hA:A.handled=none)
 (D:Apt2 z TI TO i1 i2 l1 l2) (J1:ItS prog w i1 l1 xs st1) (J2:ItS prog w i2 l2 ys st2) (hz:IsZip s.heap z TI TO .none) (hTI:a76 s.heap TI (.ref i1) (.ref i2)) (hTO:a76 s.heap TO a b)
 (h1:st1 k s.heap) (h2:st2 k s.heap) (e:xs[k]?=none∨ys[k]?=none)
 (q:∀ (h':Heap) (ex:Addr),(∀ (c:Addr) (o:Obj),c∉[z,TO,i1,i2]→s.heap.get? c=some o→h'.get? c=some o)→(∃ o,h'.get? ex=some o∧o.cls=.type "StopIteration")→E (.ref ex) { s with heap:=h' }) :
 wpAny (model prog w) A (Builtin.«zip.__next__» { pos:=[.ref z] }) Q E s:=by
 obtain ⟨D,D2⟩:=D
 unfold Builtin.«zip.__next__»
 refine wpAny_bind (wpAny_pure ?_)
 refine wpAny_bind (wpAny_field (x:=.bool false) hz rfl rfl ?_)
 refine wpAny_bind (wpAny_field (x:=.ref TI) hz rfl rfl ?_)
 refine wpAny_bind (wpAny_seqItems hTI rfl ?_)
 dsimp only
 rw [if_neg (show ¬ (#[Value.ref i1,Value.ref i2].isEmpty=true) by simp)]
 refine wpAny_bind (wpAny_bind (wpAny_field (x:=.none) hz rfl rfl (wpAny_pure ?_)))
 rw [if_pos rfl]
 refine wpAny_bind (wpAny_rule ?_)
 refine wpAny_bind (wpAny_field (x:=.ref TO) hz rfl rfl ?_)
 dsimp only
 refine wpAny_bind (wpAny_setField_rec hz (by simp) fun g1 z1 b1=>?_)
 refine wpAny_bind ?_
 obtain ⟨n1,n2,n3,n4,n6,n7,n8,n10,n11,n13⟩:=Apt2.all D
 obtain ⟨m1,m2,m3,m4⟩:l1≠z∧l1≠TO∧l1≠i1∧l1≠i2:=by simpa using D2 l1 (by simp)
 obtain ⟨m6,m7,m8,m9⟩:l2≠z∧l2≠TO∧l2≠i1∧l2≠i2:=by simpa using D2 l2 (by simp)
 have fin:∀ {it l p:Addr}{X:Array Value}{st:Nat→Heap→Prop}{g:Heap}{Q':Option Value→Shared→Prop},it∈[i1,i2]→ItS prog w it l X st→st k g→X[k]?=none→(∀ (c:Addr) (o:Obj),c∉[z,TO,i1,i2]→s.heap.get? c=some o→g.get? c=some o)→g.get? z=some { cls:=.type "zip",data:=.fields #[.ellipsis,.bool false,.bool false,.ref TI,.ref TO] }→z≠it →
  wpAny (model prog w) A (Builtin.SmallTypes.nextOf (.ref it) >>= fun v=>pure (some v)) Q' (fun e s'=>wpAny (model prog w) A (setField (.ref z) 0 .none) (fun _ s''=>E e s'') E s') { s with heap:=g }:=fun {it l p X st g Q'} hit J hs hx hk hzz hne=>by
  refine wpAny_bind (J.done hA hs hx fun g' ex b' hex=>?_)
  refine wpAny_setField_rec (b' _ _ hne hzz) (by simp) fun g'' z'' b''=>q g'' ex (fun c o hc e=>?_) ?_
  · have hc':=hc
    simp only [List.mem_cons,List.not_mem_nil,or_false,not_or] at hc
    refine a09 b'' hc.1 (b' c o (fun hq=>?_) (hk c o hc' e))
    subst hq
    simp only [List.mem_cons,List.not_mem_nil,or_false] at hit
    rcases hit with h | h
    · exact hc.2.2.1 h
    · exact hc.2.2.2 h
  · obtain ⟨o,e1,e2⟩:=hex
    by_cases hq:ex=z
    · subst hq
      rw [b' _ _ hne hzz] at e1
      cases e1
      simp at e2
    · exact ⟨o,a09 b'' hq e1,e2⟩
 show wpAny (model prog w) A (forIn [(Value.ref i1,0),(Value.ref i2,1)] (none,()) _) _ E _
 rw [List.forIn_cons]
 refine wpAny_bind (wpAny_bind (wpAny_onRaise ?_))
 have k1:∀ (c:Addr) (o:Obj),c∉[z,TO,i1,i2]→s.heap.get? c=some o→g1.get? c=some o:=fun c o hc e=>by
  simp only [List.mem_cons,List.not_mem_nil,or_false,not_or] at hc
  exact a09 b1 hc.1 e
 cases hx1:xs[k]? with
 | none=>exact fin (p:=z) (by simp) J1 (J1.mv h1 b1 n3.symm m1) hx1 k1 z1 n3
 | some x =>
   refine wpAny_bind (m:=Builtin.SmallTypes.nextOf (.ref i1)) (f:=fun v=>pure (some v)) ?_
   refine J1.item (J1.mv h1 b1 n3.symm m1) hx1 fun g2 z2 b2=>wpAny_pure ?_
   dsimp only
   refine wpAny_bind (wpAny_seqItems (items:=#[a,b]) (a09 b2 n10 (a09 b1 n2.symm hTO)) rfl ?_)
   dsimp only
   refine wpAny_bind (a86 (a09 b2 n10 (a09 b1 n2.symm hTO)) fun g3 t3 b3=>?_)
   refine wpAny_bind (wpAny_letGo (wpAny_pure ?_))
   dsimp only
   rw [List.forIn_cons]
   refine wpAny_bind (wpAny_bind (wpAny_onRaise ?_))
   have k3:∀ (c:Addr) (o:Obj),c∉[z,TO,i1,i2]→s.heap.get? c=some o→g3.get? c=some o:=fun c o hc e=>by
    have hc':=hc
    simp only [List.mem_cons,List.not_mem_nil,or_false,not_or] at hc
    exact a09 b3 hc.2.1 (a09 b2 hc.2.2.1 (k1 c o hc' e))
   have zz3:=a09 b3 n2 (a09 b2 n3 z1)
   have hx2:ys[k]?=none:=by
    rcases e with e | e
    · rw [hx1] at e; cases e
    · exact e
   exact fin (p:=z) (by simp) J2 (J2.mv (J2.mv (J2.mv h2 b1 n4.symm m6) b2 n13.symm m8) b3 n11.symm m7) hx2 k3 zz3 n4
theorem ae0 {A:Around}{E:Value→Shared→Prop}{s:Shared}{k:Nat}{x y a b:Value}{Q:Option Value→Shared→Prop}
 (D:Apt2 z TI TO i1 i2 l1 l2) (J1:ItS prog w i1 l1 xs st1) (J2:ItS prog w i2 l2 ys st2) (hz:IsZip s.heap z TI TO .none) (hTI:a76 s.heap TI (.ref i1) (.ref i2)) (hTO:a76 s.heap TO a b)
 (h1:st1 k s.heap) (h2:st2 k s.heap) (e1:xs[k]?=some x) (e2:ys[k]?=some y)
 (q:∀ h':Heap,IsZip h' z TI TO (rawInt s.heap.objs.size)→a76 h' TO x y→st1 (k+1) h'→st2 (k+1) h'→a76 h' s.heap.objs.size x y→h'.objs.size=s.heap.objs.size+1→(∀ (c:Addr) (o:Obj),c∉[z,TO,i1,i2]→s.heap.get? c=some o→h'.get? c=some o)→Q (some (.ref s.heap.objs.size)) { s with heap:=h' }) :
 wpAny (model prog w) A (pyNext (.ref z)) Q E s:=by
 unfold pyNext
 refine wpAny_bind (wpAny_attempt (wpAny_callSpecial?_slot (T:="zip") ⟨_,hz,rfl⟩ F.slot_zip_next (wpAny_call_entry F.slot_zip_next ⟨_,hz,rfl⟩ F.entry_zip_next ?_ (F.args_zip_next_1 _))))
 exact b13 D J1 J2 hz hTI hTO h1 h2 e1 e2 fun h' a1 a2 a3 a4 a6 a7 a8=>wpAny_pure (q h' a1 a2 a3 a4 a6 a7 a8)
theorem ag5 {A:Around}{E:Value→Shared→Prop}{s:Shared}{k:Nat}{a b:Value}{Q:Option Value→Shared→Prop}(hA:A.handled=none)
 (D:Apt2 z TI TO i1 i2 l1 l2) (J1:ItS prog w i1 l1 xs st1) (J2:ItS prog w i2 l2 ys st2) (hz:IsZip s.heap z TI TO .none) (hTI:a76 s.heap TI (.ref i1) (.ref i2)) (hTO:a76 s.heap TO a b)
 (h1:st1 k s.heap) (h2:st2 k s.heap) (e:xs[k]?=none∨ys[k]?=none)
 (q:∀ h':Heap,(∀ (c:Addr) (o:Obj),c∉[z,TO,i1,i2]→s.heap.get? c=some o→h'.get? c=some o)→Q none { s with heap:=h' }):wpAny (model prog w) A (pyNext (.ref z)) Q E s:=by
 unfold pyNext
 refine wpAny_bind (wpAny_attempt (wpAny_callSpecial?_slot (T:="zip") ⟨_,hz,rfl⟩ F.slot_zip_next (wpAny_call_entry F.slot_zip_next ⟨_,hz,rfl⟩ F.entry_zip_next ?_ (F.args_zip_next_1 _))))
 refine b62 (by exact hA) D J1 J2 hz hTI hTO h1 h2 e ?_
 rintro h' ex hk ⟨o,x1,x2⟩
 refine wpAny_bind (wpAny_isInstance (T:="StopIteration") ⟨o,x1,x2⟩ isSubtype_stop ?_)
 rw [if_pos rfl]
 exact wpAny_pure (q h' hk)
end
@[reducible] def z2H (h:Heap) (o1 o2:Obj):Heap:=((((h.push o1).push o2).push { cls:=.type "tuple",data:=.seq #[.ref h.objs.size,.ref (h.objs.size+1)] }).push { cls:=.type "tuple",data:=.seq #[.none,.none] }).push { cls:=.type "zip",data:=.fields #[.none,.bool false,.bool false,.ref (h.objs.size+2),.ref (h.objs.size+3)] }
theorem aw4 {l1 l2:Addr}{o1 o2:Obj}{P1 P2:Heap→Prop}(S1:SrcO l1 o1 P1) (S2:SrcO l2 o2 P2):Meets (Builtin.«zip.__new__» { pos:=[.type "zip",.ref l1,.ref l2] }) fun _ R s=>P1 s.heap∧P2 s.heap∧R (.ok (.ret (.ref (s.heap.objs.size+4)))) { s with heap:=z2H s.heap o1 o2 }:=by
 refine Meets.of_wp ?_
 rintro prog w A R s ⟨p1,p2,r⟩
 unfold Builtin.«zip.__new__»
 refine wpAny_bind ?_
 unfold Builtin.SmallTypes.newClass
 dsimp only
 refine wpAny_bind (wpAny_pure ?_)
 rw [if_neg (by decide)]
 refine wpAny_bind ?_
 rw [sub_zip]
 refine wpAny_pure ?_
 rw [if_neg (by decide)]
 refine wpAny_pure ?_
 dsimp only
 rw [if_neg (by decide)]
 refine wpAny_bind ?_
 unfold Builtin.SmallTypes.iterAll
 refine wpAny_bind ?_
 rw [List.forIn_cons]
 refine wpAny_bind (wpAny_bind (wpAny_holding (S1.iter p1 (wpAny_pure ?_))))
 dsimp only
 rw [List.forIn_cons]
 refine wpAny_bind (wpAny_bind (wpAny_holding (S2.iter (S2.push p2) (wpAny_pure ?_))))
 dsimp only
 rw [List.forIn_nil]
 refine wpAny_pure (wpAny_pure ?_)
 refine wpAny_bind (wpAny_newTuple ?_ (by simp [sizeLine_eq]))
 refine wpAny_bind (wpAny_newTuple ?_ (by simp [sizeLine_eq]))
 refine wpAny_bind ?_
 refine wpAny_bind (wpAny_alloc' ?_)
 refine wpAny_pure ?_
 refine wpAny_pure ⟨_,rfl,?_⟩
 simp only [Heap.size_push]
 exact r
theorem ag6 (a b:Value):checkTypeCall "zip" { pos:=[a,b] }=pure ():=by
 with_unfolding_all rfl
theorem ah6 (a b:Value):checkBuiltinCall "zip.__new__" { pos:=[.type "zip",a,b] }=pure ():=by
 with_unfolding_all rfl
theorem ao8 (a b c:Value):argsOk "object.__init__" { pos:=[a,b,c] }:=by
 with_unfolding_all rfl
theorem ar9 {prog:Program}{w:World}{A:Around}{E:Value→Shared→Prop}{s:Shared}{l1 l2:Addr}{xs ys:Array Value}{Q:Value→Shared→Prop}(p1:s.heap.IsList l1 xs) (p2:s.heap.IsTuple l2 ys)
 (q:∀ h':Heap,IsZip h' (s.heap.objs.size+4) (s.heap.objs.size+2) (s.heap.objs.size+3) .none→a76 h' (s.heap.objs.size+2) (.ref s.heap.objs.size) (.ref (s.heap.objs.size+1))→a76 h' (s.heap.objs.size+3) .none .none →
  h'.IsListIter s.heap.objs.size l1 0→h'.IsTupleIter (s.heap.objs.size+1) l2 0→(∀ (c:Addr) (o:Obj),s.heap.get? c=some o→h'.get? c=some o)→Q (.ref (s.heap.objs.size+4)) { s with heap:=h' }) :
 wpAny (model prog w) A (call (.type "zip") [.ref l1,.ref l2]) Q E s:=by
 refine callType_new F.called_zip (by decide) (ag6 _ _) (ah6 _ _) (fun obj=>ao8 _ _ _) F.entry_zip_new (aw4 (b61 l1 xs) (b12 l2 ys)) ⟨p1,p2,?_⟩
 have e4:(z2H s.heap { cls:=.type "list_iterator",data:=.fields #[.ref l1,.int 0 0] } { cls:=.type "tuple_iterator",data:=.fields #[.ref l2,.int 0 0] }).get? (s.heap.objs.size+4)=some { cls:=.type "zip",data:=.fields #[.none,.bool false,.bool false,.ref (s.heap.objs.size+2),.ref (s.heap.objs.size+3)] }:=by
  have:=Heap.get?_push_size ((((s.heap.push { cls:=.type "list_iterator",data:=.fields #[.ref l1,.int 0 0] }).push { cls:=.type "tuple_iterator",data:=.fields #[.ref l2,.int 0 0] }).push { cls:=.type "tuple",data:=.seq #[.ref s.heap.objs.size,.ref (s.heap.objs.size+1)] }).push { cls:=.type "tuple",data:=.seq #[.none,.none] }) (o:={ cls:=.type "zip",data:=.fields #[.none,.bool false,.bool false,.ref (s.heap.objs.size+2),.ref (s.heap.objs.size+3)] }) rfl
  simp only [Heap.size_push] at this
  exact this
 refine ⟨⟨_,e4,rfl⟩,q _ e4 ?_ ?_ ?_ ?_ ?_⟩
 · have:=Heap.get?_push_size ((s.heap.push { cls:=.type "list_iterator",data:=.fields #[.ref l1,.int 0 0] }).push { cls:=.type "tuple_iterator",data:=.fields #[.ref l2,.int 0 0] }) (o:={ cls:=.type "tuple",data:=.seq #[.ref s.heap.objs.size,.ref (s.heap.objs.size+1)] }) rfl
   simp only [Heap.size_push] at this
   exact Heap.get?_push_of_some _ (Heap.get?_push_of_some _ this)
 · have:=Heap.get?_push_size (((s.heap.push { cls:=.type "list_iterator",data:=.fields #[.ref l1,.int 0 0] }).push { cls:=.type "tuple_iterator",data:=.fields #[.ref l2,.int 0 0] }).push { cls:=.type "tuple",data:=.seq #[.ref s.heap.objs.size,.ref (s.heap.objs.size+1)] }) (o:={ cls:=.type "tuple",data:=.seq #[.none,.none] }) rfl
   simp only [Heap.size_push] at this
   exact Heap.get?_push_of_some _ this
 · refine ⟨_,Heap.get?_push_of_some _ (Heap.get?_push_of_some _ (Heap.get?_push_of_some _ (Heap.get?_push_of_some _ (Heap.get?_push_size s.heap rfl)))),rfl,rfl⟩
 · have:=Heap.get?_push_size (s.heap.push { cls:=.type "list_iterator",data:=.fields #[.ref l1,.int 0 0] }) (o:={ cls:=.type "tuple_iterator",data:=.fields #[.ref l2,.int 0 0] }) rfl
   simp only [Heap.size_push] at this
   exact ⟨_,Heap.get?_push_of_some _ (Heap.get?_push_of_some _ (Heap.get?_push_of_some _ this)),rfl,rfl⟩
 · intro c o e
   exact Heap.get?_push_of_some _ (Heap.get?_push_of_some _ (Heap.get?_push_of_some _ (Heap.get?_push_of_some _ (Heap.get?_push_of_some _ e))))
def b63 (K:PySem.W.Frag) (a b:Addr):It :=
 ⟨fun i H=>∃ xs ys x y,SqL K H a xs∧SqT K H b ys∧xs[i]?=some x∧ys[i]?=some y,
  fun i H v H'=>∃ p x y,v=.ref p∧H p=none∧Same H H'∧H' p=some (.tup [x,y])∧(∀ xs,SqL K H a xs→xs[i]?=some x)∧(∀ ys,SqT K H b ys→ys[i]?=some y),
  fun i H=>∃ xs ys,SqL K H a xs∧SqT K H b ys∧(xs.length≤i∨ys.length≤i)⟩
theorem aw5 {P:Program}{w:World}{K:PySem.W.Frag}{elts:List Expr}{x1:Nat}{pos:Pos}(a b z TI TO i1 i2:Addr) (D:Apt2 z TI TO i1 i2 a b) (E1:a≠i1) (E2:b≠i2) :
 Turn P w K (.Tuple elts x1 pos) (b63 K a b) [z,TI,TO,i1,i2] z (fun i h=>IsZip h z TI TO .none∧a76 h TI (.ref i1) (.ref i2)∧(∃ a b,a76 h TO a b)∧h.IsListIter i1 a i∧h.IsTupleIter i2 b i) where
 mem:=by simp
 obj:=fun i h st d hd=>by
  obtain ⟨hz,hTI,⟨a,b,hTO⟩,⟨o1,h1,_,d1⟩,⟨o2,h2,_,d2⟩⟩:=st
  rcases (by simpa using hd:d=z∨d=TI∨d=TO∨d=i1∨d=i2) with rfl | rfl | rfl | rfl | rfl
  · exact ⟨_,hz,fun v q=>by cases q⟩
  · exact ⟨_,hTI,fun v q=>by cases q⟩
  · exact ⟨_,hTO,fun v q=>by cases q⟩
  · exact ⟨_,h1,fun v q=>by rw [d1] at q; cases q⟩
  · exact ⟨_,h2,fun v q=>by rw [d2] at q; cases q⟩
 keep:=fun i h h' st k=>by
  obtain ⟨hz,hTI,⟨a,b,hTO⟩,h1,h2⟩:=st
  exact ⟨k z (by simp) _ hz,k TI (by simp) _ hTI,⟨a,b,k TO (by simp) _ hTO⟩,h1.at fun o x=>k i1 (by simp) o x,aj4 h2 fun o x=>k i2 (by simp) o x⟩
 item:=by
  intro X hP hw hK hc i pins s σ H E I hf st hg
  subst hP hw hK
  obtain ⟨xs,ys,x,y,hqa,hqb,hx,hy⟩:=hg
  obtain ⟨it1,rv1,p1,hz1⟩:=I.list hqa
  obtain ⟨it2,rv2,p2,hz2⟩:=I.tuple hqb
  obtain ⟨u1,hu1,ru1⟩:=rv1.get hx
  obtain ⟨u2,hu2,ru2⟩:=rv2.get hy
  obtain ⟨hz,hTI,⟨a',b',hTO⟩,h1,h2⟩:=st
  have fr:H s.heap.objs.size=none:=I.hok.fresh (Nat.le_refl _)
  have lt:∀ d∈[z,TI,TO,i1,i2],d<s.heap.objs.size:=fun d hd=>by
   obtain ⟨o1,e1,_⟩:=h1
   obtain ⟨o2,e2,_⟩:=h2
   rcases (by simpa using hd:d=z∨d=TI∨d=TO∨d=i1∨d=i2) with rfl | rfl | rfl | rfl | rfl
   · exact Heap.lt_size hz
   · exact Heap.lt_size hTI
   · exact Heap.lt_size hTO
   · exact Heap.lt_size e1
   · exact Heap.lt_size e2
  refine ae0 (k:=i) D (au2 (xs:=it1.toArray) E1) (ao7 (xs:=it2.toArray) E2) hz hTI hTO ⟨h1,p1.isList⟩ ⟨h2,p2⟩ (x:=u1) (y:=u2) (by simpa using hu1) (by simpa using hu2) fun h' a1 a2 a3 a4 a6 a7 hk=>?_
  have I1:Inv X pins σ H { s with heap:=h' }:=I.turnedL (t':=s.toks) (ch:=[z,TI,TO,i1,i2]) (fun d o hd q=>hk d o (fun e=>hd (by simp at e ⊢; rcases e with e | e | e | e <;> simp [e])) q) hf
  have I2:Inv X pins σ (upd H s.heap.objs.size (.tup [x,y])) { s with heap:=h' }:=I1.adopt (o:=.tup [x,y]) fr I.sz (Nat.ne_of_gt I.lt) (fun n c ec e=>by
   obtain ⟨v,q⟩:=I.cell n c ec
   exact absurd q.lt (by rw [e]; exact Nat.lt_irrefl _)) (fun q hq e=>absurd (Heap.lt_size (I.pin q hq).1) (by rw [e]; exact Nat.lt_irrefl _))
   ⟨le_line (by simp),[u1,u2],.cons ru1 (.cons ru2 .nil),⟨_,a6,rfl,_,rfl⟩⟩
  have hf2:∀ d∈[z,TI,TO,i1,i2],FpOk X pins (upd H s.heap.objs.size (.tup [x,y])) d:=fun d hd=>⟨by rw [a12 (Nat.ne_of_lt (lt d hd))]; exact (hf d hd).1,(hf d hd).2⟩
  obtain ⟨nd,_⟩:=D
  obtain ⟨n1,n2,n3,n4,n6,n7,n8,n10,n11,n13⟩:=Apt2.all nd
  refine ⟨_,rfl,wpAny_letOwnedTupleGo_zip a1 fun h2' hz' hs'=>⟨.ref s.heap.objs.size,_,I2.turnedL (t':=s.toks) (ch:=[z]) (fun d o hd q=>(hs'.2 d (fun e=>hd (by simp [e]))).trans q) (fun d hd=>hf2 d (by simp at hd; simp [hd])),rfl,⟨s.heap.objs.size,x,y,rfl,fr,Same.new fr,a32,fun q hq=>by rw [I.list_inj hq hqa]; exact hx,fun q hq=>by rw [I.tuple_inj hq hqb]; exact hy⟩,⟨hz',a09 hs' (Ne.symm n1) (hk _ _ (by simp [Ne.symm n1,n6,n7,n8]) hTI),⟨_,_,a09 hs' (Ne.symm n2) a2⟩,a3.1.extBut hs'.extBut (Ne.symm n3),a4.1.extBut hs'.extBut (Ne.symm n4)⟩,fun d hd=>(hf2 d hd).1⟩⟩
 done:=by
  intro X hP hw hK hc i pins s σ H E I hf st hg
  subst hP hw hK
  obtain ⟨xs,ys,hqa,hqb,hx⟩:=hg
  obtain ⟨it1,rv1,p1,hz1⟩:=I.list hqa
  obtain ⟨it2,rv2,p2,hz2⟩:=I.tuple hqb
  obtain ⟨hz,hTI,⟨a',b',hTO⟩,h1,h2⟩:=st
  have l1:=rv1.length
  have l2:=rv2.length
  refine ag5 (k:=i) (I.ok.hd hc) D (au2 (xs:=it1.toArray) E1) (ao7 (xs:=it2.toArray) E2) hz hTI hTO ⟨h1,p1.isList⟩ ⟨h2,p2⟩ ?_ fun h' hk=>⟨rfl,I.turnedL (t':=s.toks) (ch:=[z,TI,TO,i1,i2]) (fun d o hd q=>hk d o (fun e=>hd (by simp at e ⊢; rcases e with e | e | e | e <;> simp [e])) q) hf⟩
  rcases hx with e | e
  · exact .inl (by simp; omega)
  · exact .inr (by simp; omega)
 self:=fun A i s Q E st h=>wpAny_pyIter_zip st.1 h
section
variable {X:Cx}{elts:List Expr}{x1:Nat}{tpos:Pos}
def b98 (K:PySem.W.Frag) (ta:TA):TI:=fun σ H R=>ta σ H fun vs H1=>∃ a b,vs=[.ref a,.ref b]∧(∃ xs,SqL K H1 a xs)∧(∃ ys,SqT K H1 b ys)∧R (b63 K a b) H1
theorem b64 (K:PySem.W.Frag) {a b:Expr}{ta:TA}{p pos:Pos}(hg:Gl X "zip") (hm:X.mg "zip"=none) (ha:PA X [a,b] ta) (hs:starEach [a,b] X.env=[(false,eval a X.env),(false,eval b X.env)]:=by rfl) (hs2:starEach [b] X.env=[(false,eval b X.env)]:=by rfl) (hK:X.K=K:=by rfl) :
 PI X (.Tuple elts x1 tpos) (.Call (.Name "zip" p) [a,b] [] pos) (b98 K ta):=by
 subst hK
 intro pins s σ H R I h
 refine Call_ (ah9 I hg hm b06 (PyProof.Rows.callWith_type1 (thn (ha pos pins s σ H _ I h) fun us s1 ⟨vs,H1,I1,r1,q1⟩=>?_) (by rw [hs,hs2]) (by rw [hs2]; rfl)))
 obtain ⟨l1,l2,e,⟨xs,hq1⟩,⟨ys,hq2⟩,q⟩:=q1
 subst e
 obtain ⟨u1,u2,rfl,r2,r3⟩:=vals2 r1
 cases r2
 cases r3
 obtain ⟨it1,rv1,p1,hz1⟩:=I1.list hq1
 obtain ⟨it2,rv2,p2,hz2⟩:=I1.tuple hq2
 have a1:l1<s1.heap.objs.size:=by obtain ⟨_,e,_⟩:=p1.isList; exact Heap.lt_size e
 have a2:l2<s1.heap.objs.size:=by obtain ⟨_,e,_⟩:=p2; exact Heap.lt_size e
 refine ar9 p1.isList p2 fun h' b1 b2 b3 b4 b5 hk=>?_
 refine wpAny_pyIter_zip b1 ?_
 have fp:∀ d,s1.heap.objs.size≤d→FpOk X pins H1 d:=fun d hd=>I1.fpOk hd (I1.hok.fresh hd)
 generalize s1.heap.objs.size=m at a1 a2 b1 b2 b3 b4 b5 fp ⊢
 have hA1:l1<m:=a1
 have hA2:l2<m:=a2
 have ne:∀ {l k:Addr},l<m→l≠m+k:=fun {l k} h=>Nat.ne_of_lt (Nat.lt_of_lt_of_le h (Nat.le_add_right _ _))
 have D:Apt2 (m+4) (m+2) (m+3) m (m+1) l1 l2:=by
  constructor
  · simp
  · intro l hl
    have hlm:l<m:=by
     simp only [List.mem_cons,List.not_mem_nil,or_false] at hl
     rcases hl with rfl | rfl
     · exact hA1
     · exact hA2
    simp only [List.mem_cons,List.not_mem_nil,or_false,not_or]
    exact ⟨ne hlm,ne hlm,Nat.ne_of_lt hlm,ne hlm⟩
 refine ⟨m+4,[m+4,m+2,m+3,m,m+1],_,_,H1,rfl,I1.kept (t':=s1.toks) hk,aw5 l1 l2 _ _ _ _ _ D (Nat.ne_of_lt hA1) (ne hA2),⟨b1,b2,⟨_,_,b3⟩,b4,b5⟩,fun d hd=>fp d ?_,q⟩
 simp only [List.mem_cons,List.not_mem_nil,or_false] at hd
 rcases hd with rfl | rfl | rfl | rfl | rfl
 · exact Nat.le_add_right _ _
 · exact Nat.le_add_right _ _
 · exact Nat.le_add_right _ _
 · exact Nat.le_refl _
 · exact Nat.le_add_right _ _
end
theorem be7 {K:PySem.W.Frag}{σ:St} {H:Hp}{R:It→Hp→Prop}{ts:TA}(h:ts σ H fun vs H1=>∃ a b,vs=[.ref a,.ref b]∧(∃ xs,SqL K H1 a xs)∧(∃ ys,SqT K H1 b ys)∧R (b63 K a b) H1):b98 K ts σ H R:=h
theorem b65 {K:PySem.W.Frag}{a b:Addr}{xs ys:List V}{te:TE}{tt:TT}{caps:List Nat}{σ:St} {H:Hp}{Q:VK}(hl2:xs.length=ys.length) (hz:xs.length≤sizeLine) (Pv:Nat→List V→Hp→Prop) (h0:Pv 0 [] H) (hl:∀ i acc H,Pv i acc H→acc.length≤i∧SqL K H a xs∧SqT K H b ys)
 (hs:∀ i x z acc H H2,xs[i]?=some x→ys[i]?=some z→Pv i acc H→Same H H2→tt (some x::some z::capV caps σ) H2 fun b H4=>if b=true then te (some x::some z::capV caps σ) H4 fun y H5=>Pv (i+1) (acc++[y]) H5 else Pv (i+1) acc H4)
 (hd:∀ acc H,Pv xs.length acc H→New H (.lst acc) Q):af8 (b63 K a b) (gTup K 2 (aq5 (ac9 0) (aq5 (ac9 1) gNil))) tt te 2 caps σ H Q:=by
 refine ⟨fun i m acc σ' H=>m=xs.length - i∧i≤xs.length∧(∃ u v,σ'=u::v::capV caps σ)∧Pv i acc H,⟨xs.length,by simp,Nat.zero_le _,⟨none,none,rfl⟩,h0⟩,?_⟩
 rintro i m acc σ' H' ⟨rfl,hi,⟨u0,v0,rfl⟩,p⟩
 obtain ⟨hl1,hq,hq2⟩:=hl i acc H' p
 by_cases hlt:i<xs.length
 · have hlt2:i<ys.length:=by omega
   refine .inr ⟨⟨xs,ys,xs[i],ys[i],hq,hq2,by simp [hlt],by simp [hlt2]⟩,by omega,fun ac σ2 H2=>(∃ u v,σ2=u::v::capV caps σ)∧Pv (i+1) ac H2,fun ac σ2 H2 ⟨e,p'⟩=>⟨xs.length - (i+1),by omega,rfl,hlt,e,p'⟩,fun x H2 y=>?_⟩
   obtain ⟨q,x,z,rfl,hn,sm,hT,hx,hy⟩:=y
   have hst:=hs i x z acc H' H2 (hx xs hq) (hy ys hq2) p sm
   have eN:∀ ac H5,((∃ u1 v1,some x::some z::capV caps σ=u1::v1::capV caps σ)∧Pv (i+1) ac H5)=Pv (i+1) ac H5:=fun ac H5=>propext ⟨And.right,fun p=>⟨⟨_,_,rfl⟩,p⟩⟩
   refine ⟨q,[x,z],rfl,SqT.of hT,rfl,x,[z],rfl,z,[],rfl,rfl,?_⟩
   show tt (some x::some z::capV caps σ) _ fun b H4=>if b=true then te (some x::some z::capV caps σ) H4 fun y H5=>((∃ u1 v1,some x::some z::capV caps σ=u1::v1::capV caps σ)∧Pv (i+1) (acc++[y]) H5) else ((∃ u1 v1,some x::some z::capV caps σ=u1::v1::capV caps σ)∧Pv (i+1) acc H4)
   simp only [eN]
   exact hst
 · have e:i=xs.length:=by omega
   subst e
   exact .inl ⟨⟨xs,ys,hq,hq2,.inl (Nat.le_refl _)⟩,New.to (hd acc H' p)⟩
section
variable {prog:Program}{w:World}
variable {A:Around}{E:Value→Shared→Prop}{s:Shared}
end
section
variable {prog:Program}{w:World}{A:Around}{R:Result→Shared→Prop}{I:Addr}{fp wr:List Addr}{G:Array GenState→Array GenState→Prop}{n:Nat}{P:Nat→Value→Prop}{St:Nat→Shared→Prop}
end
section
variable {prog:Program}{w:World}{A:Around}{E:Value→Shared→Prop}{s:Shared}
end
section
variable {prog:Program}{w:World}{A:Around}{E:Value→Shared→Prop}{s:Shared}{S it tp:Addr}{o:Obj}{es:Array (Int×Value)}{ep i:Nat}{t:SetTable}{first:Value}
end
section
variable {prog:Program}{w:World}{A:Around}{E:Value→Shared→Prop}{s:Shared}{S:Addr}{es:Array (Int×Value)}
end
section
variable {prog:Program}{w:World}{A:Around}{E:Value→Shared→Prop}{s:Shared}{S:Addr}{es:Array (Int×Value)}
end
section
variable {X:Cx}{P:Program}{w:World}
end
section
variable {X:Cx}
end
section
variable {X:Cx}
end
section
variable {σ:St} {H:Hp}{nn bb cc:St→Hp→Prop}{rr:VK}{t u:TS}
theorem b99 (h:∀ N:St→Hp→Prop,(∀ σ H,u ⟨nn,rr,bb,cc⟩ σ H→N σ H)→t ⟨N,rr,bb,cc⟩ σ H):tSeq t u ⟨nn,rr,bb,cc⟩ σ H:=h _ fun _ _ x=>x
theorem ba0 {P N:St→Hp→Prop}(e:∀ σ H,P σ H→N σ H) (h:P σ H):N σ H:=e σ H h
end
def BxAt (H:Hp) (v:V) (b:Str×Int):Prop:=∃ p,v=.ref p∧H p=some (.tup [.str b.1,.int b.2])
theorem BxAt.same {H H':Hp}{v:V}{b:Str×Int}(h:BxAt H v b) (s:Same H H'):BxAt H' v b:=by
 obtain ⟨p,h1,h2⟩:=h
 exact ⟨p,h1,s _ _ h2⟩
theorem al2 {H:Hp}:∀ {vs:List V}{bs:List (Str×Int)},Each (BxAt H) vs bs→Boxes H vs (bs.map (·.1))
 | [],[],_=>.nil
 | v::vs,b::bs,h=>by
   obtain ⟨p,rfl,e⟩:=h.2 0 v b rfl rfl
   exact .cons e (al2 (vs:=vs) (bs:=bs) ⟨by simpa using h.1,fun j a b e1 e2=>h.2 (j+1) a b (by simpa using e1) (by simpa using e2)⟩)
 | [],b::bs,h=>absurd h.1 (by simp)
 | v::vs,[],h=>absurd h.1 (by simp)
def sayS (l:Int) (w:Str):Str:=Str.ofString (toString l)++":"++w
def vput (bs:List (Str×Int)) (vs:List Int) (n:Str) (k:Int):List Int:=List.zipWith (fun b v=>if b.1=n then k % b.2 else v) bs vs
theorem bu9 {tn:List Str}{w:Str}(h:w∈tn):tn[tn.idxOf w]?=some w∧∀ m,m<tn.idxOf w→tn[m]?≠some w:=by
 have hl:=List.idxOf_lt_length_of_mem h
 refine ⟨by rw [List.getElem?_eq_getElem hl]; simp,fun m hm he=>?_⟩
 have h1:=List.not_of_lt_findIdx (p:=fun x=>x == w) (xs:=tn) (i:=m) (by simpa [List.idxOf] using hm)
 obtain ⟨h2,h3⟩:=List.getElem?_eq_some_iff.mp he
 rw [h3] at h1
 simp at h1
abbrev StG:=Nat×List Nat×List Int×Int
def Nd.sd2:Nd→List Str
 | .say w _=>[w]
 | .hand l w _=>[sayS l w]
 | _=>[]
def Nd.vals2 (bs:List (Str×Int)) (ws:List Int):Nd→List Int
 | .put n e _=>vput bs ws n (e.ev (bs.map (·.1)) ws)
 | _=>ws
def b14 (ns:List Nd) (k:Nat):Bool:=match ns[k]? with
 | some .back=>true
 | _=>false
def behF (ns:List Nd) (nm:List Str) (ws:List Int) (stk:List Nat):Nd→Option Nat×List Nat
 | .test c a b=>(some (if c.ev nm ws then a else b),stk)
 | .call a b=>(some a,if b14 ns b then stk else stk++[b])
 | .back=>match stk.getLast? with
   | none=>(none,stk)
   | some k=>(some k,stk.dropLast)
 | .stop=>(none,stk)
 | .say _ k=>(some k,stk)
 | .hand _ _ k=>(some k,stk)
 | .put _ _ k=>(some k,stk)
 | .wait _ _ k=>(some k,stk)
def Nd.w2:Nd→Option Int
 | .wait l _ _=>some l
 | _=>none
def grF (ns:List Nd) (bs:List (Str×Int)):Nat→Option Nat→List Nat→List Int→Option (List Str×Option StG)
 | 0,_,_,_=>none
 | _+1,none,_,_=>some ([],none)
 | n+1,some k,stk,ws=>match ns[k]? with
   | none=>none
   | some d=>match d.w2 with
     | some l=>some ([],some (k,stk,ws,l))
     | none=>(grF ns bs n (behF ns (bs.map (·.1)) (d.vals2 bs ws) stk d).1 (behF ns (bs.map (·.1)) (d.vals2 bs ws) stk d).2 (d.vals2 bs ws)).map fun x=>(d.sd2++x.1,x.2)
def Nd.ok3 (ns:List Str):Nd→Prop
 | .say w _=>w.length≤100
 | .hand l w _=>0≤l∧l<10∧w.length≤100
 | .put b e _=>e.ok ns∧e.h<8∧b∈ns
 | .test c _ _=>c.ok ns 5∧c.h<4
 | .wait l br _=>0≤l∧br.length≤100
 | _=>True
structure GrOk (bs:List (Str×Int)) (ns:List Nd):Prop where
 ok:∀ d∈ns,d.ok3 (bs.map (·.1))
 nx:∀ d∈ns,∀ k∈d.nexts,k<ns.length
 bz:∀ b∈bs,0<b.2∧b.2<1000
 bl:bs.length≤100
 nl:ns.length≤1000
def gmS (x y z:V):List (Str×V):=putF "first" z (putF "nodes" y (putF "boxes" x []))
theorem ag7 (x y z:V):(gmS x y z).lookup ("boxes":Str)=some x:=by
 unfold gmS
 rw [a42,if_neg (by decide +kernel),a42,if_neg (by decide +kernel),a42,if_pos rfl]
theorem ag8 (x y z:V):(gmS x y z).lookup ("nodes":Str)=some y:=by
 unfold gmS
 rw [a42,if_neg (by decide +kernel),a42,if_pos rfl]
theorem b15 (x y z:V):(gmS x y z).lookup ("first":Str)=some z:=by
 unfold gmS
 rw [a42,if_pos rfl]
theorem ag9 {m:Str}(x y z:V) (h1:m≠"first") (h2:m≠"nodes") (h3:m≠"boxes"):(gmS x y z).lookup m=none:=by
 unfold gmS
 rw [a42,if_neg h1,a42,if_neg h2,a42,if_neg h3]
 rfl
structure GmAt (C:Addr) (H:Hp) (p:Addr) (bs:List (Str×Int)) (ns:List Nd) (f:Nat):Prop where
 ex:∃ dx bl nl bvs un,H p=some (.ins C dx (gmS (.ref bl) (.ref nl) (.int (f:Nat))))∧H bl=some (.lst bvs)∧Each (BxAt H) bvs bs∧H nl=some (.lst un)∧Tr.Ats H (ns.map Nd.tr) un []
theorem GmAt.same {C:Addr}{H H':Hp}{p:Addr}{bs:List (Str×Int)}{ns:List Nd}{f:Nat}(h:GmAt C H p bs ns f) (s:Same H H'):GmAt C H' p bs ns f:=by
 obtain ⟨dx,bl,nl,bvs,un,h1,h2,h3,h4,h5⟩:=h.ex
 exact ⟨dx,bl,nl,bvs,un,s _ _ h1,s _ _ h2,h3.mono fun _ _ z=>z.same s,s _ _ h4,h5.same s⟩
def SgAt (H:Hp) (v:V):Option StG→Prop
 | none=>v=.non
 | some (k,stk,ws,l)=>∃ q ps pa,v=.ref q∧H q=some (.tup [.int (k:Nat),.ref ps,.ref pa,.int l])∧H ps=some (.tup (a43 stk))∧H pa=some (.tup (ws.map V.int))
theorem SgAt.tups {H H':Hp}{v:V}{r:Option StG}(h:SgAt H v r) (s:Tups H H'):SgAt H' v r:=by
 cases r with
 | none=>exact h
 | some x =>
   obtain ⟨p,stk,vs,l⟩:=x
   obtain ⟨q,ps,pa,h1,h2,h3,h4⟩:=h
   exact ⟨q,ps,pa,h1,s _ _ h2,s _ _ h3,s _ _ h4⟩
theorem SgAt.same {H H':Hp}{v:V}{r:Option StG}(h:SgAt H v r) (s:Same H H'):SgAt H' v r:=h.tups s.tups
theorem b16 {bs:List (Str×Int)}{ws:List Int}{n:Str}{k:Int}(h:ws.length=bs.length):(vput bs ws n k).length=bs.length:=by
 simp [vput,h]
theorem ac7 {d:Nd}{bs:List (Str×Int)}{ws:List Int}(h:ws.length=bs.length):(d.vals2 bs ws).length=bs.length:=by
 cases d <;> first | exact h | exact b16 h
theorem as0 (d:Nd):d.sd2.length≤1:=by
 cases d <;> simp [Nd.sd2]
theorem au4 {ns:List Nd}{nm:List Str}{ws:List Int}{stk:List Nat}{d:Nd}:(behF ns nm ws stk d).2.length≤stk.length+1:=by
 cases d with
 | call a b =>
   simp only [behF]
   split
   · omega
   · simp
 | back =>
   simp only [behF]
   split
   · simp
   · simp only [List.length_dropLast]; omega
 | _=>simp [behF]
def Itv (K:PySem.W.Frag) (a:Addr) (n:Nat):It :=
 ⟨fun i H=>i<n∧∃ xs,SqL K H a xs∧xs.length=n,fun i H x H'=>H'=H∧∀ xs,SqL K H a xs→xs[n - 1 - i]?=some x,fun i _=>n=i⟩
theorem b66 {P:Program}{w:World}{K:PySem.W.Frag}{tg:Expr}(a it:Addr) (n:Nat):Turn P w K tg (Itv K a n) [it] it (fun i h=>h.IsRevIter it a ((n:Int) - 1 - (i:Int))) where
 mem:=by simp
 obj:=fun i h st b hb=>by
  have e:b=it:=by simpa using hb
  subst e
  obtain ⟨o,e,c,d⟩:=st
  exact ⟨o,e,fun v z=>by rw [d] at z; cases z⟩
 keep:=fun i h h' st k=>st.at fun o e=>k it (by simp) o e
 item:=by
  intro X hP hw hK hc i pins s σ H E I hf st hg
  subst hP hw hK
  obtain ⟨hin,xs,hq,hxl⟩:=hg
  obtain ⟨x,hx⟩:∃ x,xs[n - 1 - i]?=some x:=⟨_,List.getElem?_eq_getElem (by omega)⟩
  obtain ⟨its,rv,p,hz⟩:=I.list hq
  obtain ⟨u,hu,ru⟩:=rv.get hx
  obtain ⟨f0,f1,f2,f3,f4,f5⟩:=hf it (by simp)
  have e0:(n:Int) - 1 - (i:Int)=((n - 1 - i:Nat):Int):=by omega
  rw [e0] at st
  refine wpAny_pyNext_rev_item st p.isList (x:=u) (by simpa using hu) fun h' st' sb=>?_
  have I1:Inv X pins σ H { s with heap:=h' }:=I.turned (t':=s.toks) (fun b o hb e=>(sb.2 b hb).trans e) f0 f1 f3 f4 f5
  have st2:=st'
  rw [show ((n - 1 - i:Nat):Int) - 1=(n:Int) - 1 - ((i+1:Nat):Int) by omega] at st2
  obtain ⟨o,e,c,d⟩:=id st'
  exact ⟨u,rfl,b38 (s:={ s with heap:=h' }) e c d (by decide) ⟨x,H,I1,ru,⟨rfl,fun ys hy=>by rw [I.list_inj hy hq]; exact hx⟩,st2,fun b hb=>(hf b hb).1⟩⟩
 done:=by
  intro X hP hw hK hc i pins s σ H E I hf st hg
  subst hP hw hK
  have hn:n=i:=hg
  subst hn
  obtain ⟨f0,f1,f2,f3,f4,f5⟩:=hf it (by simp)
  rw [show (n:Int) - 1 - (n:Int)=-1 by omega] at st
  exact wpAny_pyNext_rev_end (I.ok.hd hc) st fun h' eb=>⟨rfl,I.turned (t':=s.toks) (fun b o hb e=>eb b o hb e) f0 f1 f3 f4 f5⟩
 self:=fun _ _ _ _ _ st h=>wpAny_pyIter_revIter st h
section
variable {X:Cx}{tg:Expr}
def bo5 (K:PySem.W.Frag) (ta:TA):TI:=fun σ H R=>ta σ H fun vs H1=>∃ a xs,vs=[.ref a]∧SqL K H1 a xs∧R (Itv K a xs.length) H1
theorem bo6 (K:PySem.W.Frag) {a:Expr}{ta:TA}{p pos:Pos}(hg:Gl X "reversed") (hm:X.mg "reversed"=none) (ha:PA X [a] ta) (hs:starEach [a] X.env=[(false,eval a X.env)]:=by rfl) (hK:X.K=K:=by rfl):PI X tg (.Call (.Name "reversed" p) [a] [] pos) (bo5 K ta):=by
 subst hK
 intro pins s σ H R I h
 refine Call_ (ah9 I hg hm boot_reversed (PyProof.Rows.callWith_type1 (thn (ha pos pins s σ H _ I h) ?_) hs rfl))
 rintro us s1 ⟨vs,H1,I1,r1,q1⟩
 obtain ⟨l,xs,e,hq,q⟩:=q1
 subst e
 obtain ⟨u,rfl,ru⟩:=aj9 r1
 cases ru
 obtain ⟨its,rv,pl,hz⟩:=I1.list hq
 have hl:=rv.length
 refine call_reversed_list pl.isList ?_
 have hit:(s1.heap.push (revObj l ((its.toArray.size:Int) - 1))).IsRevIter s1.heap.objs.size l ((xs.length:Int) - 1 - ((0:Nat):Int)):=⟨_,Heap.get?_push_size _ rfl,rfl,by
  have:(its.toArray.size:Int) - 1=(xs.length:Int) - 1 - ((0:Nat):Int):=by simp; omega
  show Data.fields #[.ref l,rawInt ((its.toArray.size:Int) - 1)]=_
  rw [this]⟩
 refine wpAny_pyIter_revIter hit ?_
 refine ⟨s1.heap.objs.size,[s1.heap.objs.size],_,_,H1,rfl,I1.kept (t':=s1.toks) fun b o e=>Heap.get?_push_of_some _ e,b66 l _ xs.length,hit,fun b hb=>?_,q⟩
 have e:b=s1.heap.objs.size:=by simpa using hb
 subst e
 exact I1.fpOk (Nat.le_refl _) (I1.hok.fresh (Nat.le_refl _))
theorem bo7 {K:PySem.W.Frag}{σ:St} {H:Hp}{R:It→Hp→Prop}{ts:TA}(h:ts σ H fun vs H1=>∃ a xs,vs=[.ref a]∧SqL K H1 a xs∧R (Itv K a xs.length) H1):bo5 K ts σ H R:=h
theorem be8 {K:PySem.W.Frag}{a:Addr}{xs:List V}{g:TG}{tb:TS}{D:Ends}{σ:St} {H:Hp}(Pv:Nat→St→Hp→Prop) (h0:Pv 0 σ H) (hl:∀ i σ H,i≤xs.length→Pv i σ H→SqL K H a xs)
 (hs:∀ i x σ H,i<xs.length→xs[xs.length - 1 - i]?=some x→Pv i σ H→g x σ H fun σ2 H2=>tb { D with nx:=Pv (i+1),ct:=Pv (i+1),bk:=D.nx } σ2 H2) (hd:∀ σ H,Pv xs.length σ H→D.nx σ H):b92 (Itv K a xs.length) g tb D σ H:=by
 refine ⟨fun i m σ H=>m=xs.length - i∧i≤xs.length∧Pv i σ H,⟨xs.length,by simp,Nat.zero_le _,h0⟩,?_⟩
 rintro i m σ H ⟨rfl,hi,p⟩
 have q:=hl i σ H hi p
 by_cases hlt:i<xs.length
 · refine .inr ⟨⟨hlt,xs,q,rfl⟩,Pv (i+1),fun σ' H' p'=>⟨xs.length - (i+1),by omega,rfl,hlt,p'⟩,fun x H' y=>?_⟩
   obtain ⟨e,y⟩:=y
   subst e
   exact hs i x σ _ hlt (y xs q) p
 · have e:i=xs.length:=by omega
   subst e
   exact .inl ⟨rfl,hd σ H p⟩
end
end L2
local macro_rules | `(tactic| walk_at "side") => `(tactic| first | exact ⟨by decide, by decide, by decide⟩ | exact ⟨by decide, by decide⟩ | exact .inr (.inr ⟨by decide, by decide⟩) | exact .inr (.inl ⟨by decide, by decide⟩) | decide | omega | exact L2.le_line (by simp only [List.length_cons, List.length_nil]; omega))
local macro_rules | `(tactic| walk_at "o") => `(tactic| first | exact Or.inl rfl | exact Or.inr rfl)
local macro_rules | `(tactic| walk_at "step") => do
  let mut acc ← `(tactic| ((with_reducible refine L2.i_rgA ?k ?l ?_); (case k => walk_at "side"); (case l => walk_at "side")))
  for s in ("i_rI ak9 b99 br8 i_c i_op i_un i_rU br9 bd3 bs1 bs2 bs3 bs4 bs5 bk9 i_bl bs6 i_if bs7 bl0 bl1 bl2 bs8 i_cb bl3 bs9 bt0 bt1 bl5 bt2 i_or bl6 bl7 bt3 i_lc bl9 bd4 bm0 be0 bu1 bu2 bu3 bt4 bt5 i_sx i_bm bt6 i_sl b55 bm1 bt7 bt8 bt9 bm3 bm7 bm9 bm4 bm5 bu0 bu5 bn1 bn3 bu7 bn9 bo0 bo1 be7 bo7 bl4 ba0".splitOn " ").reverse do
    let n := Lean.mkIdent (Lean.Name.str `L2 s)
    if s == "i_rI" || s == "ak9" || s == "bl4" then acc ← `(tactic| first | ((with_reducible refine $n ?k ?_); (case k => walk_at "side")) | $acc:tactic)
    else if s == "b99" then acc ← `(tactic| first | ((with_reducible refine $n ?_); intro _ _) | $acc:tactic)
    else if s == "ba0" then acc ← `(tactic| first | ((with_reducible refine' $n ?k ?_); (case k => assumption)) | $acc:tactic)
    else acc ← `(tactic| first | with_reducible refine $n ?_ | $acc:tactic)
  `(tactic| first | ((with_reducible refine L2.i_name ?_); dsimp only [List.set_cons_zero, List.set_cons_succ]) | ((with_reducible refine' L2.i_var ?k ?_); (case k => rfl)) | $acc:tactic)
local macro_rules | `(tactic| walk_at "run") => `(tactic| (repeat walk_at "step"))
local macro_rules | `(tactic| walk_at "go") => do
  let ids := (("L2.start List.map_cons List.map_nil List.length_cons List.length_nil List.replicate List.cons_append List.nil_append Nat.reduceSub Nat.reduceAdd L2.nox_K L2.wish_K L2.cxOf_K L2.cxC_K".splitOn " ").map fun s => Lean.mkIdent s.toName).toArray
  `(tactic| (simp only [$[$ids:term],*]; walk_at "run"))
namespace K32
open PySem L2
theorem sc_value_of_box:FnScope ["name","boxes","values","names"] ["name","boxes","values"] (a17 a71):=⟨rfl,rfl,rfl,by decide +kernel,rfl,by decide +kernel,by decide +kernel⟩
theorem sc_worth:FnScope ["expression","boxes","values","kind","one","other"] ["expression","boxes","values"] (a17 ay7):=⟨rfl,rfl,rfl,by decide +kernel,rfl,by decide +kernel,by decide +kernel⟩
theorem sc_holds:FnScope ["condition","boxes","values","kind","one","other"] ["condition","boxes","values"] (a17 ay8):=⟨rfl,rfl,rfl,by decide +kernel,rfl,by decide +kernel,by decide +kernel⟩
theorem ao9:FnScope ["line","word"] ["line","word"] (a17 ae9):=⟨rfl,rfl,rfl,by decide +kernel,rfl,by decide +kernel,by decide +kernel⟩
theorem ah0:FnScope ["boxes"] ["boxes"] (a17 a72):=⟨rfl,rfl,rfl,by decide +kernel,rfl,by decide +kernel,by decide +kernel⟩
theorem sc_values_put:FnScope ["boxes","values","name","expression","number"] ["boxes","values","name","expression"] (a17 a95):=⟨rfl,rfl,rfl,by decide +kernel,rfl,by decide +kernel,by decide +kernel⟩
theorem ap0:FnScope ["thing"] ["thing"] (a17 af0):=⟨rfl,rfl,rfl,by decide +kernel,rfl,by decide +kernel,by decide +kernel⟩
theorem sc_rested_on:FnScope ["standing","left"] ["standing"] (a17 af1):=⟨rfl,rfl,rfl,by decide +kernel,rfl,by decide +kernel,by decide +kernel⟩
theorem sc_way_of_pattern:FnScope ["branches","pattern","own","way"] ["branches","pattern"] (a17 a87):=⟨rfl,rfl,rfl,by decide +kernel,rfl,by decide +kernel,by decide +kernel⟩
theorem sc_way_of_event:FnScope ["branches","event","way"] ["branches","event"] (a17 ab3):=⟨rfl,rfl,rfl,by decide +kernel,rfl,by decide +kernel,by decide +kernel⟩
theorem sc_stepped:FnScope ["machine","wait","standing","event","way","rest"] ["machine","wait","standing","event"] (a17 an5):=⟨rfl,rfl,rfl,by decide +kernel,rfl,by decide +kernel,by decide +kernel⟩
theorem a77:FnScope ["self","graph"] ["self","graph"] (a17 a53):=⟨rfl,rfl,rfl,by decide +kernel,rfl,by decide +kernel,by decide +kernel⟩
theorem aa4:FnScope ["self"] ["self"] (a17 a61):=⟨rfl,rfl,rfl,by decide +kernel,rfl,by decide +kernel,by decide +kernel⟩
theorem aa9:FnScope ["self","standing","event"] ["self","standing","event"] (a17 a65):=⟨rfl,rfl,rfl,by decide +kernel,rfl,by decide +kernel,by decide +kernel⟩
theorem ab0:FnScope ["self","standing"] ["self","standing"] (a17 a66):=⟨rfl,rfl,rfl,by decide +kernel,rfl,by decide +kernel,by decide +kernel⟩
theorem a90:FnScope ["self","standing"] ["self","standing"] (a17 a59):=⟨rfl,rfl,rfl,by decide +kernel,rfl,by decide +kernel,by decide +kernel⟩
theorem sc_GraphMachine_gone_on:FnScope ["self","number","stack","values","said","kept","node","kind"] ["self","number","stack","values"] (a17 a57):=⟨rfl,rfl,rfl,by decide +kernel,rfl,by decide +kernel,by decide +kernel⟩
theorem sc_GraphMachine_node_behind:FnScope ["self","node","kept","values","kind"] ["self","node","kept","values"] (a17 a49):=⟨rfl,rfl,rfl,by decide +kernel,rfl,by decide +kernel,by decide +kernel⟩
theorem ah7:FnScope ["script","k"] ["script","k"] (a17 ac2):=⟨rfl,rfl,rfl,by decide +kernel,rfl,by decide +kernel,by decide +kernel⟩
theorem sc_law_mixed:FnScope ["cell","k","number"] ["cell","k"] (a17 af2):=⟨rfl,rfl,rfl,by decide +kernel,rfl,by decide +kernel,by decide +kernel⟩
theorem sc_law_deck:FnScope ["script","numbers","cell","number","k"] ["script"] (a17 ai5):=⟨rfl,rfl,rfl,by decide +kernel,rfl,by decide +kernel,by decide +kernel⟩
theorem sc_law_digit:FnScope ["deck","many","digit"] ["deck","many"] (a17 af3):=⟨rfl,rfl,rfl,by decide +kernel,rfl,by decide +kernel,by decide +kernel⟩
theorem sc_law_expression:FnScope ["deck","boxes","kind","number","box"] ["deck","boxes"] (a17 a88):=⟨rfl,rfl,rfl,by decide +kernel,rfl,by decide +kernel,by decide +kernel⟩
theorem sc_law_condition:FnScope ["deck","boxes","kind","one","plain"] ["deck","boxes"] (a17 a96):=⟨rfl,rfl,rfl,by decide +kernel,rfl,by decide +kernel,by decide +kernel⟩
theorem sc_law_pattern:FnScope ["deck","kind"] ["deck"] (a17 ac3):=⟨rfl,rfl,rfl,by decide +kernel,rfl,by decide +kernel,by decide +kernel⟩
theorem sc_law_wait:FnScope ["deck","many","own","first","limit","branches","k","pattern","none"] ["deck","many","own","first"] (a17 ai6):=⟨rfl,rfl,rfl,by decide +kernel,rfl,by decide +kernel,by decide +kernel⟩
theorem sc_law_node:FnScope ["deck","boxes","many","own","calls","kind","first","last","to","other"] ["deck","boxes","many","own","calls"] (a17 ai7):=⟨rfl,rfl,rfl,by decide +kernel,rfl,by decide +kernel,by decide +kernel⟩
theorem sc_law_graph:FnScope ["deck","boxes","calls","many","nodes","own"] ["deck"] (a17 af4):=⟨rfl,rfl,rfl,by decide +kernel,rfl,by decide +kernel,by decide +kernel⟩
theorem sc_law_worth:FnScope ["expression","names","values","kind","one","other"] ["expression","names","values"] (a17 af5):=⟨rfl,rfl,rfl,by decide +kernel,rfl,by decide +kernel,by decide +kernel⟩
theorem sc_law_holds:FnScope ["condition","names","values","one","other"] ["condition","names","values"] (a17 af6):=⟨rfl,rfl,rfl,by decide +kernel,rfl,by decide +kernel,by decide +kernel⟩
theorem sc_law_on:FnScope ["graph","number","stack","values","boxes","nodes","first","names","said","node","at"] ["graph","number","stack","values"] (a17 ak5):=⟨rfl,rfl,rfl,by decide +kernel,rfl,by decide +kernel,by decide +kernel⟩
theorem sc_law_step:FnScope ["graph","standing","event","number","stack","values","left","node","found"] ["graph","standing","event"] (a17 aa7):=⟨rfl,rfl,rfl,by decide +kernel,rfl,by decide +kernel,by decide +kernel⟩
theorem sc_law_same:FnScope ["machine","found","due","standing","over"] ["machine","found","due"] (a17 ai8):=⟨rfl,rfl,rfl,by decide +kernel,rfl,by decide +kernel,by decide +kernel⟩
theorem sc_law_event:FnScope ["deck","kind","pattern"] ["deck"] (a17 af7):=⟨rfl,rfl,rfl,by decide +kernel,rfl,by decide +kernel,by decide +kernel⟩
theorem sc_law:FnScope ["script","deck","graph","boxes","nodes","first","handed","machine","begun","due","found","k","event"] ["script"] (a17 bj2):=⟨rfl,rfl,rfl,by decide +kernel,rfl,by decide +kernel,by decide +kernel⟩
theorem Txt.ci_GraphMachine {K:PySem.W.Frag}{mg:Str→Option Value}{t:Adr}(T:Txt K mg t):ClsI K t.c_GraphMachine:=⟨T.ia_GraphMachine,T.in_GraphMachine,T.it_GraphMachine,T.im_GraphMachine⟩
theorem Txt.is_GraphMachine_Machine {K:PySem.W.Frag}{mg:Str→Option Value}{t:Adr}(T:Txt K mg t):PySem.W.kitOne K (.ref t.c_GraphMachine) (.ref t.c_Machine)=some true:=by obtain ⟨_,_,_,h⟩:=T.lk_GraphMachine_Machine; exact be6 T.mo_GraphMachine_Machine h
theorem Txt.d_QUIET {K:PySem.W.Frag}{mg:Str→Option Value}{t:Adr}(T:Txt K mg t):TupK K t.ad_QUIET [.str "quiet"]:=by obtain ⟨_,its,nn,_,h1,h2,h3⟩:=T.dd_QUIET; exact ⟨_,its,nn,h1,rfl,rfl,h2,h3⟩
theorem Txt.d_OTHER {K:PySem.W.Frag}{mg:Str→Option Value}{t:Adr}(T:Txt K mg t):TupK K t.ad_OTHER [.str "other"]:=by obtain ⟨_,its,nn,_,h1,h2,h3⟩:=T.dd_OTHER; exact ⟨_,its,nn,h1,rfl,rfl,h2,h3⟩
section
variable {P:Program}{w:World}{K:PySem.W.Frag}{mg:Str→Option Value}{base:Heap}{t:Adr}
def bo8 (K:PySem.W.Frag):Sp:=fun vs H Q _=>∃ (n:Str) (bx vl:Addr) (xs:List V) (ns:List Str) (ws:List Int),vs=[.str n,.ref bx,.ref vl]∧SqL K H bx xs∧Boxes H xs ns∧SqT K H vl (ws.map V.int)∧ns.length≤ws.length∧ns.length≤1000∧n∈ns∧∀ H',Same H H'→Q (.int (bval ns ws n)) H'
theorem ah1 (T:Txt K mg t):FnOk P w K mg base CX0 1 t.a_value_of_box t.fd_value_of_box ["name","boxes","values"] (bo8 K):=by
 refine T.f_value_of_box.F.ok sc_value_of_box (fun vs H Q E h=>?_) (fun cdv A outer s H vs Q E hr h=>?_)
 · obtain ⟨n,bx,vl,xs,ns,ws,rfl,_⟩:=h
   rfl
 · obtain ⟨n,bx,vl,xs,ns,ws,rfl,hb,hB,hv,hl,hl2,hn,q⟩:=h
   refine ⟨_,(@a01 _ _ _ _ _ (b48 (i:=3) (Nt:=["box"]) (Nf:=[]) (caps:=[]) rfl (ad2 (sc:=a17 a71) rfl rfl (by decide +kernel) (by decide +kernel) (by decide +kernel) rfl (by decide +kernel)) (ak8 K (pv 1)) (fun _ _ _ _ _=>(a36 (i:=0) (show (["box"]:List Str).Nodup by decide +kernel) rfl (by walk_at "o"))) (fun _ _ _ _ _=>(@ak6 _)) (fun _ _ _ _ _=>(@a14 _ _ _ _ _ _ _ (a06 K) (pv 0) (@a04 _ _ _ _) (fun _ _=>rfl))) sc_value_of_box.nd rfl (by walk_at "o") rfl)
    (@a05 _ _ _ (@a19 _ _ _ _ (@a14 _ _ _ _ _ _ _ (a06 K) (pv 2) (@a74 _ K _ _ _ _ _ _ _ _ _ _ _ PySem.F.plainAttrs_list PySem.F.slot_list_index PySem.F.type_list_index (ag2 K) (pv 3) (@a00 _ _ _ _ _ (pv 0) (@a02 _) (by rfl)) (by rfl) (by rfl) (by rfl) (by rfl) (by rfl) (by rfl)) (fun _ _=>rfl))))),?_⟩
   walk_at "go"
   refine ⟨⟨_,hb⟩,az5 (xs:=xs) (le_line (by rw [hB.len]; omega)) (fun i acc H2=>H2=H∧i≤xs.length∧acc=a35 (ns.take i)) ⟨rfl,Nat.zero_le _,rfl⟩ (fun i acc H2 ⟨e0,hi,e⟩=>⟨?_,e0 ▸ hb⟩) ?_ ?_⟩
   · subst e
     simp only [a35,List.length_map,List.length_take]
     omega
   · rintro i x acc H2 hx ⟨rfl,hi,rfl⟩
     obtain ⟨p,m,z,rfl,hm,hp⟩:=hB.get i x hx
     have hi':i<xs.length:=(List.getElem?_eq_some_iff.mp hx).1
     walk_at "run"
     refine a22 (SqT.of hp) (a03 (j:=0) rfl) ?_
     exact ⟨rfl,hi',aw3 hm⟩
   · rintro acc H2 ⟨rfl,_,rfl⟩ l H3 f3 s3 e3
     walk_at "run"
     rw [hB.len,List.take_length] at e3
     refine a89 (SqL.of e3) ?_
     walk_at "run"
     obtain ⟨j,h1,h2,h3⟩:=ar3 hn hl
     refine ar2 (SqL.of e3) h1 h2 ?_
     refine a22 (s3.seqT hv) (bd6 h3) ?_
     exact q _ s3
def b67 (K:PySem.W.Frag) (d:Nat):Sp:=fun vs H Q _=>∃ (v:V) (e:Ex) (bx vl:Addr) (xs:List V) (ns:List Str) (ws:List Int),vs=[v,.ref bx,.ref vl]∧e.At H v∧e.h<d∧e.ok ns∧SqL K H bx xs∧Boxes H xs ns∧SqT K H vl (ws.map V.int)∧ns.length≤ws.length∧ns.length≤1000 ∧
 ∀ H',Same H H'→Q (.int (e.ev ns ws)) H'
theorem au5 (T:Txt K mg t):∀ d:Nat,FnOk P w K mg base CX0 (d+2) t.a_worth t.fd_worth ["expression","boxes","values"] (b67 K d):=by
 intro d
 induction d with
 | zero=>exact vac (fun vs H Q E ⟨_,_,_,_,_,_,_,_,_,h,_⟩=>Nat.not_lt_zero _ h)
 | succ d G_worth =>
   have G_value_of_box:=ah1 (P:=P) (w:=w) (base:=base) T
   refine T.f_worth.F.ok sc_worth (fun vs H Q E h=>?_) (fun cdv A outer s H vs Q E hr h=>?_)
   · obtain ⟨v,e,bx,vl,xs,ns,ws,rfl,_⟩:=h
     rfl
   · obtain ⟨v,e,bx,vl,xs,ns,ws,rfl,he,hh,ho,hb,hB,hv,hl,hl2,q⟩:=h
     refine ⟨_,(@a01 _ _ _ _ _ (@a20 _ _ 3 _ _ _ _ sc_worth.nd rfl (by walk_at "o") (@a14 _ _ _ _ _ _ _ (a06 K) (pv 0) (@a04 _ _ _ _) (fun _ _=>rfl)) (by rfl) (by walk_at "o"))
     (@a01 _ _ _ _ _ (@a33 _ _ _ _ _ _ _ _ (@a07 _ _ _ _ _ _ _ _ a41 (pv 3) (@a21 _ _ _ _) (nomark _)) (@a05 _ _ _ (@a19 _ _ _ _ (@a14 _ _ _ _ _ _ _ (a06 K) (pv 0) (@a04 _ _ _ _) (fun _ _=>rfl)))) (@a18 _))
     (@a01 _ _ _ _ _ (@a33 _ _ _ _ _ _ _ _ (@a07 _ _ _ _ _ _ _ _ a41 (pv 3) (@a21 _ _ _ _) (nomark _)) (@a05 _ _ _ (@a19 _ _ _ _ (@a08 _ _ _ _ _ _ _ _ _ _ _ _ _ _ _ _ G_value_of_box (hr.mono (by omega)) rfl T.f_value_of_box.m T.f_value_of_box.F.kp T.f_value_of_box.b .nil a28 (@a00 _ _ _ _ _ (@a14 _ _ _ _ _ _ _ (a06 K) (pv 0) (@a04 _ _ _ _) (fun _ _=>rfl)) (@a00 _ _ _ _ _ (pv 1) (@a00 _ _ _ _ _ (pv 2) (@a02 _) (by rfl)) (by rfl)) (by rfl)) (by decide) (by rfl) (by rfl)))) (@a18 _))
     (@a01 _ _ _ _ _ (@a20 _ _ 4 _ _ _ _ sc_worth.nd rfl (by walk_at "o") (@a08 _ _ _ _ _ _ _ _ _ _ _ _ _ _ _ _ G_worth (hr.mono (by omega)) rfl T.f_worth.m T.f_worth.F.kp T.f_worth.b .nil a28 (@a00 _ _ _ _ _ (@a14 _ _ _ _ _ _ _ (a06 K) (pv 0) (@a04 _ _ _ _) (fun _ _=>rfl)) (@a00 _ _ _ _ _ (pv 1) (@a00 _ _ _ _ _ (pv 2) (@a02 _) (by rfl)) (by rfl)) (by rfl)) (by decide) (by rfl) (by rfl)) (by rfl) (by walk_at "o"))
     (@a01 _ _ _ _ _ (@a20 _ _ 5 _ _ _ _ sc_worth.nd rfl (by walk_at "o") (@a08 _ _ _ _ _ _ _ _ _ _ _ _ _ _ _ _ G_worth (hr.mono (by omega)) rfl T.f_worth.m T.f_worth.F.kp T.f_worth.b .nil a28 (@a00 _ _ _ _ _ (@a14 _ _ _ _ _ _ _ (a06 K) (pv 0) (@a04 _ _ _ _) (fun _ _=>rfl)) (@a00 _ _ _ _ _ (pv 1) (@a00 _ _ _ _ _ (pv 2) (@a02 _) (by rfl)) (by rfl)) (by rfl)) (by decide) (by rfl) (by rfl)) (by rfl) (by walk_at "o"))
     (@a01 _ _ _ _ _ (@a33 _ _ _ _ _ _ _ _ (@a07 _ _ _ _ _ _ _ _ a41 (pv 3) (@a21 _ _ _ _) (nomark _)) (@a05 _ _ _ (@a19 _ _ _ _ (@a40 _ _ _ _ _ _ _ _ a47 (pv 4) (pv 5)))) (@a18 _))
     (@a05 _ _ _ (@a19 _ _ _ _ (@a40 _ _ _ _ _ _ _ _ a70 (pv 4) (pv 5)))))))))),?_⟩
     walk_at "go"
     cases e with
     | num i =>
       obtain ⟨a,rfl,ha⟩:=he
       refine a22 (SqT.of ha) (a03 (j:=0) rfl) ?_
       walk_at "run"
       refine a26 rfl ?_
       walk_at "run"
       refine a22 (SqT.of ha) (a03 (j:=1) rfl) ?_
       exact q _ (Same.refl _)
     | box n =>
       obtain ⟨a,rfl,ha⟩:=he
       refine a22 (SqT.of ha) (a03 (j:=0) rfl) ?_
       walk_at "run"
       refine a24 (by decide +kernel) ?_
       walk_at "run"
       refine a26 rfl ?_
       walk_at "run"
       refine a22 (SqT.of ha) (a03 (j:=1) rfl) ?_
       walk_at "run"
       exact ⟨n,bx,vl,xs,ns,ws,rfl,hb,hB,hv,hl,hl2,ho,q⟩
     | two k e f =>
       obtain ⟨a,x,y,rfl,ha,h1,h2⟩:=he
       simp only [Ex.h] at hh
       refine a22 (SqT.of ha) (a03 (j:=0) rfl) ?_
       walk_at "run"
       refine a24 (by cases k <;> decide +kernel) ?_
       walk_at "run"
       refine a24 (by cases k <;> decide +kernel) ?_
       walk_at "run"
       refine a22 (SqT.of ha) (a03 (j:=1) rfl) ?_
       walk_at "run"
       refine ⟨x,e,bx,vl,xs,ns,ws,rfl,h1,by omega,ho.1,hb,hB,hv,hl,hl2,fun H1 s1=>?_⟩
       walk_at "run"
       refine a22 (SqT.of (s1 _ _ ha)) (a03 (j:=2) rfl) ?_
       walk_at "run"
       refine ⟨y,f,bx,vl,xs,ns,ws,rfl,h2.mono s1.tups,by omega,ho.2,s1.seq hb,hB.mono s1.tups,s1.seqT hv,hl,hl2,fun H2 s2=>?_⟩
       walk_at "run"
       have:=q H2 (s1.trans s2)
       cases k with
       | true =>
         refine a26 rfl ?_
         walk_at "run"
         exact this
       | false =>
         refine a24 (by decide +kernel) ?_
         walk_at "run"
         exact this
def b68 (K:PySem.W.Frag) (d:Nat):Sp:=fun vs H Q _=>∃ (v:V) (c:Cd) (bx vl:Addr) (xs:List V) (ns:List Str) (ws:List Int),vs=[v,.ref bx,.ref vl]∧c.At H v∧c.h<d∧c.ok ns 5∧SqL K H bx xs∧Boxes H xs ns∧SqT K H vl (ws.map V.int)∧ns.length≤ws.length∧ns.length≤1000 ∧
 ∀ H',Same H H'→Q (.bl (c.ev ns ws)) H'
theorem b69 (T:Txt K mg t):∀ d:Nat,FnOk P w K mg base CX0 (d+10) t.a_holds t.fd_holds ["condition","boxes","values"] (b68 K d):=by
 intro d
 induction d with
 | zero=>exact vac (fun vs H Q E ⟨_,_,_,_,_,_,_,_,_,h,_⟩=>Nat.not_lt_zero _ h)
 | succ d G_holds =>
   have G_worth:=au5 (P:=P) (w:=w) (base:=base) T
   refine T.f_holds.F.ok sc_holds (fun vs H Q E h=>?_) (fun cdv A outer s H vs Q E hr h=>?_)
   · obtain ⟨v,c,bx,vl,xs,ns,ws,rfl,_⟩:=h
     rfl
   · obtain ⟨v,c,bx,vl,xs,ns,ws,rfl,he,hh,ho,hb,hB,hv,hl,hl2,q⟩:=h
     have G_worth:=G_worth 7
     refine ⟨_,(@a01 _ _ _ _ _ (@a20 _ _ 3 _ _ _ _ sc_holds.nd rfl (by walk_at "o") (@a14 _ _ _ _ _ _ _ (a06 K) (pv 0) (@a04 _ _ _ _) (fun _ _=>rfl)) (by rfl) (by walk_at "o"))
     (@a01 _ _ _ _ _ (@a33 _ _ _ _ _ _ _ _ (@a07 _ _ _ _ _ _ _ _ a41 (pv 3) (@a21 _ _ _ _) (nomark _)) (@a05 _ _ _ (@a19 _ _ _ _ (@b81 _ _ _ _ (@a08 _ _ _ _ _ _ _ _ _ _ _ _ _ _ _ _ G_holds (hr.mono (by omega)) rfl T.f_holds.m T.f_holds.F.kp T.f_holds.b .nil a28 (@a00 _ _ _ _ _ (@a14 _ _ _ _ _ _ _ (a06 K) (pv 0) (@a04 _ _ _ _) (fun _ _=>rfl)) (@a00 _ _ _ _ _ (pv 1) (@a00 _ _ _ _ _ (pv 2) (@a02 _) (by rfl)) (by rfl)) (by rfl)) (by decide) (by rfl) (by rfl))))) (@a18 _))
     (@a01 _ _ _ _ _ (@a33 _ _ _ _ _ _ _ _ (@a07 _ _ _ _ _ _ _ _ a41 (pv 3) (@a21 _ _ _ _) (nomark _)) (@a05 _ _ _ (@a19 _ _ _ _ (@at1 _ _ _ _ _ _ _ (@a08 _ _ _ _ _ _ _ _ _ _ _ _ _ _ _ _ G_holds (hr.mono (by omega)) rfl T.f_holds.m T.f_holds.F.kp T.f_holds.b .nil a28 (@a00 _ _ _ _ _ (@a14 _ _ _ _ _ _ _ (a06 K) (pv 0) (@a04 _ _ _ _) (fun _ _=>rfl)) (@a00 _ _ _ _ _ (pv 1) (@a00 _ _ _ _ _ (pv 2) (@a02 _) (by rfl)) (by rfl)) (by rfl)) (by decide) (by rfl) (by rfl)) (@at0 _ _ _ _ _ (@a08 _ _ _ _ _ _ _ _ _ _ _ _ _ _ _ _ G_holds (hr.mono (by omega)) rfl T.f_holds.m T.f_holds.F.kp T.f_holds.b .nil a28 (@a00 _ _ _ _ _ (@a14 _ _ _ _ _ _ _ (a06 K) (pv 0) (@a04 _ _ _ _) (fun _ _=>rfl)) (@a00 _ _ _ _ _ (pv 1) (@a00 _ _ _ _ _ (pv 2) (@a02 _) (by rfl)) (by rfl)) (by rfl)) (by decide) (by rfl) (by rfl)))))) (@a18 _))
     (@a01 _ _ _ _ _ (@a20 _ _ 4 _ _ _ _ sc_holds.nd rfl (by walk_at "o") (@a08 _ _ _ _ _ _ _ _ _ _ _ _ _ _ _ _ G_worth (hr.mono (by omega)) rfl T.f_worth.m T.f_worth.F.kp T.f_worth.b .nil a28 (@a00 _ _ _ _ _ (@a14 _ _ _ _ _ _ _ (a06 K) (pv 0) (@a04 _ _ _ _) (fun _ _=>rfl)) (@a00 _ _ _ _ _ (pv 1) (@a00 _ _ _ _ _ (pv 2) (@a02 _) (by rfl)) (by rfl)) (by rfl)) (by decide) (by rfl) (by rfl)) (by rfl) (by walk_at "o"))
     (@a01 _ _ _ _ _ (@a20 _ _ 5 _ _ _ _ sc_holds.nd rfl (by walk_at "o") (@a08 _ _ _ _ _ _ _ _ _ _ _ _ _ _ _ _ G_worth (hr.mono (by omega)) rfl T.f_worth.m T.f_worth.F.kp T.f_worth.b .nil a28 (@a00 _ _ _ _ _ (@a14 _ _ _ _ _ _ _ (a06 K) (pv 0) (@a04 _ _ _ _) (fun _ _=>rfl)) (@a00 _ _ _ _ _ (pv 1) (@a00 _ _ _ _ _ (pv 2) (@a02 _) (by rfl)) (by rfl)) (by rfl)) (by decide) (by rfl) (by rfl)) (by rfl) (by walk_at "o"))
     (@a01 _ _ _ _ _ (@a33 _ _ _ _ _ _ _ _ (@a07 _ _ _ _ _ _ _ _ a41 (pv 3) (@a21 _ _ _ _) (nomark _)) (@a05 _ _ _ (@a19 _ _ _ _ (@a52 _ _ _ _ _ _ _ _ a41 (pv 4) (pv 5) (nomark _)))) (@a18 _))
     (@a05 _ _ _ (@a19 _ _ _ _ (@a52 _ _ _ _ _ _ _ _ aq6 (pv 4) (pv 5) (nomark _)))))))))),?_⟩
     walk_at "go"
     cases c with
     | nt c =>
       obtain ⟨a,x,rfl,ha,h1⟩:=he
       simp only [Cd.h] at hh
       refine a22 (SqT.of ha) (a03 (j:=0) rfl) ?_
       walk_at "run"
       refine a26 rfl ?_
       walk_at "run"
       refine a22 (SqT.of ha) (a03 (j:=1) rfl) ?_
       walk_at "run"
       refine ⟨x,c,bx,vl,xs,ns,ws,rfl,h1,by omega,ho,hb,hB,hv,hl,hl2,fun H1 s1=>?_⟩
       walk_at "run"
       exact q H1 s1
     | both c d' =>
       obtain ⟨a,x,y,rfl,ha,h1,h2⟩:=he
       simp only [Cd.h] at hh
       refine a22 (SqT.of ha) (a03 (j:=0) rfl) ?_
       walk_at "run"
       refine a24 (by decide +kernel) ?_
       walk_at "run"
       refine a26 rfl ?_
       walk_at "run"
       refine a22 (SqT.of ha) (a03 (j:=1) rfl) ?_
       walk_at "run"
       refine ⟨x,c,bx,vl,xs,ns,ws,rfl,h1,by omega,ho.1,hb,hB,hv,hl,hl2,fun H1 s1=>?_⟩
       walk_at "run"
       have qq:=fun H' s'=>q H' s'
       simp only [Cd.ev] at qq
       cases e:c.ev ns ws with
       | true =>
         rw [e] at qq
         refine iteT ?_
         walk_at "run"
         refine a22 (SqT.of (s1 _ _ ha)) (a03 (j:=2) rfl) ?_
         walk_at "run"
         refine ⟨y,d',bx,vl,xs,ns,ws,rfl,h2.mono s1.tups,by omega,ho.2,s1.seq hb,hB.mono s1.tups,s1.seqT hv,hl,hl2,fun H2 s2=>?_⟩
         exact qq H2 (s1.trans s2)
       | false =>
         rw [e] at qq
         refine iteF ?_
         exact qq H1 s1
     | cmp k e f =>
       obtain ⟨a,x,y,rfl,ha,h1,h2⟩:=he
       obtain ⟨⟨o1,o2⟩,o3,o4⟩:=ho
       refine a22 (SqT.of ha) (a03 (j:=0) rfl) ?_
       walk_at "run"
       refine a24 (by cases k <;> decide +kernel) ?_
       walk_at "run"
       refine a24 (by cases k <;> decide +kernel) ?_
       walk_at "run"
       refine a22 (SqT.of ha) (a03 (j:=1) rfl) ?_
       walk_at "run"
       refine ⟨x,e,bx,vl,xs,ns,ws,rfl,h1,by omega,o1,hb,hB,hv,hl,hl2,fun H1 s1=>?_⟩
       walk_at "run"
       refine a22 (SqT.of (s1 _ _ ha)) (a03 (j:=2) rfl) ?_
       walk_at "run"
       refine ⟨y,f,bx,vl,xs,ns,ws,rfl,h2.mono s1.tups,by omega,o3,s1.seq hb,hB.mono s1.tups,s1.seqT hv,hl,hl2,fun H2 s2=>?_⟩
       walk_at "run"
       have:=q H2 (s1.trans s2)
       cases k with
       | true =>
         refine a26 rfl ?_
         walk_at "run"
         exact this
       | false =>
         refine a24 (by decide +kernel) ?_
         walk_at "run"
         exact this
def b70 (K:PySem.W.Frag):Sp:=fun vs H Q _=>∃ (a:Addr) (xs:List V),vs=[.ref a]∧H a=some (.lst xs)∧xs.length≤1000∧∀ p H',Same H H'→H' p=some (.tup ((List.replicate xs.length (0:Int)).map V.int))→Q (.ref p) H'
theorem ah2 (T:Txt K mg t):FnOk P w K mg base CX0 1 t.a_first_values t.fd_first_values ["boxes"] (b70 K):=by
 refine T.f_first_values.F.ok ah0 (fun vs H Q E h=>?_) (fun cdv A outer s H vs Q E hr h=>?_)
 · obtain ⟨a,xs,rfl,_⟩:=h
   rfl
 · obtain ⟨a,xs,rfl,ha,hl,q⟩:=h
   refine ⟨_,(@a05 _ _ _ (@a19 _ _ _ _ (@a34 _ _ _ _ _ _ _ _ _ (a73 K) (by rfl) T.z_tuple a85 (@a00 _ _ _ _ _ (bj6 (Nt:=["box"]) (Nf:=[]) (caps:=[]) rfl (ad2 (sc:=a17 a72) rfl rfl (by decide +kernel) (by decide +kernel) (by decide +kernel) rfl (by decide +kernel)) (ak8 K (pv 0)) (fun _ _ _ _ _=>(a36 (i:=0) (show (["box"]:List Str).Nodup by decide +kernel) rfl (by walk_at "o"))) (fun _ _ _ _ _=>(@ak6 _)) (fun _ _ _ _ _=>(@a04 _ _ _ _))) (@a02 _) (by rfl)) (by decide) (by decide) (by rfl) (by rfl)))),?_⟩
   walk_at "go"
   refine ⟨⟨_,SqL.of ha⟩,az5 (xs:=xs) (le_line (by omega)) (fun i acc H2=>H2=H∧i≤xs.length∧acc=(List.replicate i (0:Int)).map V.int) ⟨rfl,Nat.zero_le _,rfl⟩ (fun i acc H2 ⟨e0,hi,e⟩=>⟨by rw [e]; simp,e0 ▸ SqL.of ha⟩) ?_ ?_⟩
   · rintro i x acc H2 hx ⟨rfl,hi,rfl⟩
     walk_at "run"
     exact ⟨rfl,(List.getElem?_eq_some_iff.mp hx).1,by rw [List.replicate_succ',List.map_append]; rfl⟩
   · rintro acc H2 ⟨rfl,_,rfl⟩ l H3 f3 s3 e3
     walk_at "run"
     refine aa8 (SqL.of e3) ?_
     intro p H4 f4 s4 e4
     exact q p H4 (s3.trans s4) e4
def be9 (K:PySem.W.Frag):Sp:=fun vs H Q _=>∃ (a va:Addr) (xs:List V) (bs:List (Str×Int)) (ws:List Int) (n:Str) (e:Ex) (v:V),vs=[.ref a,.ref va,.str n,v]∧H a=some (.lst xs)∧Each (BxAt H) xs bs∧(∀ b∈bs,0<b.2∧b.2<1000)∧bs.length≤100∧H va=some (.tup (ws.map V.int))∧ws.length=bs.length∧e.At H v∧e.h<8∧e.ok (bs.map (·.1)) ∧
 ∀ p H',Same H H'→H' p=some (.tup ((vput bs ws n (e.ev (bs.map (·.1)) ws)).map V.int))→Q (.ref p) H'
theorem b71 {bs:List (Str×Int)}{ws:List Int}{n:Str}{k:Int}{i:Nat}{b:Str×Int}{w:Int}(h1:bs[i]?=some b) (h2:ws[i]?=some w):(vput bs ws n k)[i]?=some (if b.1=n then k % b.2 else w):=by
 unfold vput
 rw [List.getElem?_zipWith,h1,h2]
theorem b72 {bs:List (Str×Int)}{ws:List Int}{n:Str}{k:Int}(h:ws.length=bs.length):(vput bs ws n k).length=bs.length:=by
 simp [vput,h]
theorem al3 (T:Txt K mg t):FnOk P w K mg base CX0 11 t.a_values_put t.fd_values_put ["boxes","values","name","expression"] (be9 K):=by
 have G_worth:=au5 (P:=P) (w:=w) (base:=base) T
 refine T.f_values_put.F.ok sc_values_put (fun vs H Q E h=>?_) (fun cdv A outer s H vs Q E hr h=>?_)
 · obtain ⟨a,va,xs,bs,ws,n,e,v,rfl,_⟩:=h
   rfl
 · obtain ⟨a,va,xs,bs,ws,n,e,v,rfl,ha,hb,hz,hl,hpv,hwl,he,hh,ho,q⟩:=h
   have G_worth:=G_worth 8
   refine ⟨_,(@a01 _ _ _ _ _ (@a20 _ _ 4 _ _ _ _ sc_values_put.nd rfl (by walk_at "o") (@a08 _ _ _ _ _ _ _ _ _ _ _ _ _ _ _ _ G_worth (hr.mono (by omega)) rfl T.f_worth.m T.f_worth.F.kp T.f_worth.b .nil a28 (@a00 _ _ _ _ _ (pv 3) (@a00 _ _ _ _ _ (pv 0) (@a00 _ _ _ _ _ (pv 1) (@a02 _) (by rfl)) (by rfl)) (by rfl)) (by decide) (by rfl) (by rfl)) (by rfl) (by walk_at "o"))
    (@a05 _ _ _ (@a19 _ _ _ _ (@a34 _ _ _ _ _ _ _ _ _ (a73 K) (by rfl) T.z_tuple a85 (@a00 _ _ _ _ _ (bj6 (Nt:=["box","value"]) (Nf:=["name","number"]) (caps:=[2,4]) rfl (ad2 (sc:=a17 a95) rfl rfl (by decide +kernel) (by decide +kernel) (by decide +kernel) rfl (by decide +kernel)) (b64 K rfl T.z_zip (@a00 _ _ _ _ _ (pv 0) (@a00 _ _ _ _ _ (pv 1) (@a02 _) (by rfl)) (by rfl))) (fun _ _ _ _ _=>(a98 K (n:=2) rfl (a37 (a36 (i:=0) (show (["box","value","name","number"]:List Str).Nodup by decide +kernel) rfl (by walk_at "o")) (a37 (a36 (i:=1) (show (["box","value","name","number"]:List Str).Nodup by decide +kernel) rfl (by walk_at "o")) (@a92 _))))) (fun _ _ _ _ _=>(@ak6 _)) (fun _ _ _ _ _=>(@at2 _ _ _ _ _ _ _ _ (@a07 _ _ _ _ _ _ _ _ a41 (@a14 _ _ _ _ _ _ _ (a06 K) (pv 0) (@a04 _ _ _ _) (fun _ _=>rfl)) (pv 2) (nomark _)) (@a40 _ _ _ _ _ _ _ _ ac1 (pv 3) (@a14 _ _ _ _ _ _ _ (a06 K) (pv 0) (@a04 _ _ _ _) (fun _ _=>rfl))) (pv 1)))) (@a02 _) (by rfl)) (by decide) (by decide) (by rfl) (by rfl))))),?_⟩
   have hxl:xs.length=bs.length:=hb.1
   have hvl:=b72 (n:=n) (k:=e.ev (bs.map (·.1)) ws) hwl
   walk_at "go"
   refine ⟨v,e,a,va,xs,bs.map (·.1),ws,rfl,he,hh,ho,SqL.of ha,al2 hb,SqT.of hpv,by simp [hwl],by simp; omega,fun H1 s1=>?_⟩
   walk_at "run"
   refine ⟨a,va,rfl,⟨_,SqL.of (s1 _ _ ha)⟩,⟨_,SqT.of (s1 _ _ hpv)⟩,b65 (xs:=xs) (ys:=ws.map V.int) (by simp [hxl,hwl]) (le_line (by omega)) (fun i acc H2=>Same H H2∧i≤xs.length∧acc=((vput bs ws n (e.ev (bs.map (·.1)) ws)).take i).map V.int) ⟨s1,Nat.zero_le _,rfl⟩ (fun i acc H2 ⟨s2,hi,e⟩=>⟨by rw [e]; simp; omega,SqL.of (s2 _ _ ha),SqT.of (s2 _ _ hpv)⟩) ?_ ?_⟩
   · rintro i x z acc H2 H3 hx hz' ⟨s2,hi,rfl⟩ s3
     have hi':i<xs.length:=(List.getElem?_eq_some_iff.mp hx).1
     obtain ⟨b,hbi⟩:∃ b,bs[i]?=some b:=⟨_,List.getElem?_eq_getElem (by omega)⟩
     obtain ⟨w,hwi⟩:∃ w,ws[i]?=some w:=⟨_,List.getElem?_eq_getElem (by omega)⟩
     obtain ⟨p,rfl,hp⟩:=hb.2 i x b hx hbi
     rw [List.getElem?_map,hwi] at hz'
     obtain rfl:=Option.some.inj hz'
     obtain ⟨z1,z2⟩:=hz b (List.mem_of_getElem? hbi)
     have s23:=s2.trans s3
     have hg:=b71 (n:=n) (k:=e.ev (bs.map (·.1)) ws) hbi hwi
     walk_at "run"
     refine a22 (SqT.of (s23 _ _ hp)) (a03 (j:=0) rfl) ?_
     walk_at "run"
     by_cases hn:b.1=n
     · refine a26 hn ?_
       walk_at "run"
       refine a22 (SqT.of (s23 _ _ hp)) (a03 (j:=1) rfl) ?_
       refine i_rI z1 ?_
       rw [if_pos hn] at hg
       exact ⟨s23,hi',by rw [List.take_add_one,hg,Option.toList_some,List.map_append]; rfl⟩
     · refine a24 hn ?_
       walk_at "run"
       rw [if_neg hn] at hg
       exact ⟨s23,hi',by rw [List.take_add_one,hg,Option.toList_some,List.map_append]; rfl⟩
   · rintro acc H2 ⟨s2,_,rfl⟩ l H3 f3 s3 e3
     walk_at "run"
     refine aa8 (SqL.of e3) ?_
     intro p H4 f4 s4 e4
     refine q p H4 (s2.trans (s3.trans s4)) ?_
     rw [e4,hxl,←hvl,List.take_length]
def bf0:Sp:=fun vs H Q _=>∃ (k:Int) (w:Str),vs=[.int k,.str w]∧0≤k∧k<10∧w.length≤100∧Q (.str (sayS k w)) H
theorem ap1 (T:Txt K mg t):FnOk P w K mg base CX0 1 t.a_hand_text t.fd_hand_text ["line","word"] bf0:=by
 refine T.f_hand_text.F.ok ao9 (fun vs H Q E h=>?_) (fun cdv A outer s H vs Q E hr h=>?_)
 · obtain ⟨k,w,rfl,_⟩:=h
   rfl
 · obtain ⟨k,w,rfl,hk0,hk1,hw,q⟩:=h
   refine ⟨_,(@a05 _ _ _ (@a19 _ _ _ _ (@bc8 _ _ _ _ _ _ (.cons (@b89 _ _ _ _ (pv 0)) (.cons (@a21 _ _ _ _) (.cons (@b89 _ _ _ _ (pv 1)) .nil)))))),?_⟩
   have e1:=az8 hk0 hk1
   have e2:(Str.ofString ":").length=1:=by decide +kernel
   walk_at "go"
   simp only [b54]
   refine ⟨ao1 (by omega),_,rfl,le_line (by omega),?_⟩
   walk_at "run"
   refine ⟨le_line (by rw [strLen_append]; omega),?_⟩
   walk_at "run"
   refine ⟨le_line (by omega),?_⟩
   walk_at "run"
   have hz:=le_line (n:=(Str.ofString (toString k)++Str.ofString ":"++w).length) (by rw [strLen_append,strLen_append]; omega)
   exact ⟨hz,bd9 hz q⟩
def bf1 (K:PySem.W.Frag):Sp:=fun vs H Q _=>∃ (a:Addr) (us:List V) (w:Str),vs=[.ref a]∧((H a=some (.tup (.str "say"::.str w::us)))∨∃ l x,H a=some (.tup (.str "hand"::.int l::.str x::us))∧0≤l∧l<10∧x.length≤100∧w=sayS l x)∧Q (.str w) H
theorem ap2 (T:Txt K mg t):FnOk P w K mg base CX0 2 t.a_said_text t.fd_said_text ["thing"] (bf1 K):=by
 have G_hand_text:=ap1 (P:=P) (w:=w) (base:=base) T
 refine T.f_said_text.F.ok ap0 (fun vs H Q E h=>?_) (fun cdv A outer s H vs Q E hr h=>?_)
 · obtain ⟨a,us,w,rfl,_⟩:=h
   rfl
 · obtain ⟨a,us,w,rfl,ha,q⟩:=h
   refine ⟨_,(@a01 _ _ _ _ _ (@a33 _ _ _ _ _ _ _ _ (@a07 _ _ _ _ _ _ _ _ a41 (@a14 _ _ _ _ _ _ _ (a06 K) (pv 0) (@a04 _ _ _ _) (fun _ _=>rfl)) (@a21 _ _ _ _) (nomark _)) (@a05 _ _ _ (@a19 _ _ _ _ (@a14 _ _ _ _ _ _ _ (a06 K) (pv 0) (@a04 _ _ _ _) (fun _ _=>rfl)))) (@a18 _))
    (@a05 _ _ _ (@a19 _ _ _ _ (@a08 _ _ _ _ _ _ _ _ _ _ _ _ _ _ _ _ G_hand_text (hr.mono (by omega)) rfl T.f_hand_text.m T.f_hand_text.F.kp T.f_hand_text.b .nil a28 (@a00 _ _ _ _ _ (@a14 _ _ _ _ _ _ _ (a06 K) (pv 0) (@a04 _ _ _ _) (fun _ _=>rfl)) (@a00 _ _ _ _ _ (@a14 _ _ _ _ _ _ _ (a06 K) (pv 0) (@a04 _ _ _ _) (fun _ _=>rfl)) (@a02 _) (by rfl)) (by rfl)) (by decide) (by rfl) (by rfl))))),?_⟩
   walk_at "go"
   rcases ha with ha | ⟨l,x,ha,l0,l1,hx,rfl⟩
   · refine a22 (SqT.of ha) (a03 (j:=0) rfl) ?_
     walk_at "run"
     refine a26 rfl ?_
     walk_at "run"
     exact a22 (SqT.of ha) (a03 (j:=1) rfl) q
   · refine a22 (SqT.of ha) (a03 (j:=0) rfl) ?_
     walk_at "run"
     refine a24 (show Str.ofString "hand"≠Str.ofString "say" by decide +kernel) ?_
     walk_at "run"
     refine a22 (SqT.of ha) (a03 (j:=1) rfl) ?_
     walk_at "run"
     refine a22 (SqT.of ha) (a03 (j:=2) rfl) ?_
     exact ⟨l,x,rfl,l0,l1,hx,q⟩
def bf2 (K:PySem.W.Frag):Sp:=fun vs H Q _=>∃ (a:Addr) (u0 u1 u2:V) (l:Int),vs=[.ref a]∧H a=some (.tup [u0,u1,u2,.int l])∧(l=0→Q (.ref a) H)∧(l=1→Q .non H)∧(l≠0→l≠1→New H (.tup [u0,u1,u2,.int (l - 1)]) Q)
theorem ap3 (T:Txt K mg t):FnOk P w K mg base CX0 1 t.a_rested_on t.fd_rested_on ["standing"] (bf2 K):=by
 refine T.f_rested_on.F.ok sc_rested_on (fun vs H Q E h=>?_) (fun cdv A outer s H vs Q E hr h=>?_)
 · obtain ⟨a,u0,u1,u2,l,rfl,_⟩:=h
   rfl
 · obtain ⟨a,u0,u1,u2,l,rfl,ha,q0,q1,q2⟩:=h
   refine ⟨_,(@a01 _ _ _ _ _ (@a20 _ _ 1 _ _ _ _ sc_rested_on.nd rfl (by walk_at "o") (@a14 _ _ _ _ _ _ _ (a06 K) (pv 0) (@a04 _ _ _ _) (fun _ _=>rfl)) (by rfl) (by walk_at "o"))
    (@a01 _ _ _ _ _ (@a33 _ _ _ _ _ _ _ _ (@a07 _ _ _ _ _ _ _ _ a41 (pv 1) (@a04 _ _ _ _) (nomark _)) (@a05 _ _ _ (@a19 _ _ _ _ (pv 0))) (@a18 _))
    (@a01 _ _ _ _ _ (@a33 _ _ _ _ _ _ _ _ (@a07 _ _ _ _ _ _ _ _ a41 (pv 1) (@a04 _ _ _ _) (nomark _)) (@a05 _ _ _ (@a19 _ _ _ _ (@a51 _ _ _))) (@a18 _))
    (@a05 _ _ _ (@a19 _ _ _ _ (@a23 _ _ _ _ _ (@a00 _ _ _ _ _ (@a14 _ _ _ _ _ _ _ (a06 K) (pv 0) (@a04 _ _ _ _) (fun _ _=>rfl)) (@a00 _ _ _ _ _ (@a14 _ _ _ _ _ _ _ (a06 K) (pv 0) (@a04 _ _ _ _) (fun _ _=>rfl)) (@a00 _ _ _ _ _ (@a14 _ _ _ _ _ _ _ (a06 K) (pv 0) (@a04 _ _ _ _) (fun _ _=>rfl)) (@a00 _ _ _ _ _ (@a40 _ _ _ _ _ _ _ _ a70 (pv 1) (@a04 _ _ _ _)) (@a02 _) (by rfl)) (by rfl)) (by rfl)) (by rfl)))))))),?_⟩
   walk_at "go"
   refine a22 (SqT.of ha) (a03 (j:=3) rfl) ?_
   walk_at "run"
   by_cases l0:l=0
   · refine a26 l0 ?_
     walk_at "run"
     exact q0 l0
   · refine a24 l0 ?_
     walk_at "run"
     by_cases l1:l=1
     · refine a26 l1 ?_
       walk_at "run"
       exact q1 l1
     · refine a24 l1 ?_
       walk_at "run"
       refine a22 (SqT.of ha) (a03 (j:=0) rfl) ?_
       walk_at "run"
       refine a22 (SqT.of ha) (a03 (j:=1) rfl) ?_
       walk_at "run"
       refine a22 (SqT.of ha) (a03 (j:=2) rfl) ?_
       walk_at "run"
       exact q2 l0 l1
def patK (p:List Pt):Tr:=.tup (p.map Pt.tr)
noncomputable def fndN (br:List (List Pt×Nat)) (e:Tr):Option Nat:=(br.find? fun b=>decide (patK b.1=e)).map (·.2)
theorem a63 {H:Hp}{xs:List Tr}{vs:List V}(h:Tr.Ats H xs vs []) {i:Nat}{v:V}(e:vs[i]?=some v):∃ x,xs[i]?=some x∧x.At H v []:=by
 obtain ⟨x,f,h1,h2,h3⟩:=h.get i v e
 have:f=[]:=List.eq_nil_iff_forall_not_mem.mpr fun a m=>by simpa using h3 a m
 subst this
 exact ⟨x,h1,h2⟩
theorem bf3 {H:Hp}{x:V}{b:List Pt×Nat}(h:(brT b).At H x []):∃ a u,x=.ref a∧H a=some (.tup [u,.int (b.2:Nat)])∧(patK b.1).At H u []:=by
 obtain ⟨a,vs,rfl,e,h⟩:=at_tup0.mp h
 obtain ⟨v1,w1,rfl,h1,h⟩:=ats_cons0.mp h
 obtain ⟨v2,w2,rfl,h2,h⟩:=ats_cons0.mp h
 obtain rfl:=ats_nil0.mp h
 obtain rfl:=at_int0.mp h2
 exact ⟨a,v1,rfl,e,h1⟩
theorem ap4 (p:List Pt):(patK p).h≤5:=by
 have:Tr.hs (p.map Pt.tr)=0:=ar6 p
 simp only [patK,Tr.h,this]
 omega
theorem bf4 {α:Type}{p:α→Bool}{l:List α}{i:Nat}{b:α}(h:(l.take i).find? p=none) (e:l[i]?=some b) (hp:p b=true):l.find? p=some b:=by
 have hi:=(List.getElem?_eq_some_iff.mp e).1
 have h2:l=l.take i++b::l.drop (i+1):=by
  conv=>lhs; rw [← List.take_append_drop i l]
  rw [List.drop_eq_getElem_cons hi,(List.getElem?_eq_some_iff.mp e).2]
 rw [h2,List.find?_append,h,Option.none_or,List.find?_cons,hp]
theorem b17 {α:Type}{p:α→Bool}{l:List α}{i:Nat}{b:α}(h:(l.take i).find? p=none) (e:l[i]?=some b) (hp:p b=false):(l.take (i+1)).find? p=none:=by
 rw [List.take_add_one,e,Option.toList_some,List.find?_append,h,Option.none_or,List.find?_cons,hp]
 rfl
theorem bo9 {K:PySem.W.Frag}{H:Hp}{a:Addr}{z:Str}(h:TupK K a [.str z]):(Tr.tup [.str z]).AtK K H (.ref a):=by
 simp only [Tr.AtK,Tr.AtsK]
 exact ⟨_,_,rfl,.inr h,_,_,rfl,rfl,rfl⟩
def bp0 (K:PySem.W.Frag):Sp:=fun vs H Q _=>∃ (u v:V) (br:List (List Pt×Nat)) (e:Tr),vs=[u,v]∧(Tr.tup (br.map brT)).At H u []∧e.AtK K H v∧e.h≤5∧Q (wayV (fndN br e)) H
theorem ad5 (T:Txt K mg t):FnOk P w K mg base CX0 1 t.a_way_of_pattern t.fd_way_of_pattern ["branches","pattern"] (bp0 K):=by
 refine T.f_way_of_pattern.F.ok sc_way_of_pattern (fun vs H Q E h=>?_) (fun cdv A outer s H vs Q E hr h=>?_)
 · obtain ⟨u,v,br,e,rfl,_⟩:=h
   rfl
 · obtain ⟨u,v,br,e,rfl,hbr,hev,heh,q⟩:=h
   refine ⟨_,(@a01 _ _ _ _ _ (@ai2 _ _ _ _ _ _ _ _ PassesOwn.never rfl (ar1 K (pv 0)) (a98 K (n:=2) rfl (a37 (a36 (i:=2) sc_way_of_pattern.nd rfl (by walk_at "o")) (a37 (a36 (i:=3) sc_way_of_pattern.nd rfl (by walk_at "o")) (@a92 _)))) (@a05 _ _ _ (@a33 _ _ _ _ _ _ _ _ (@a07 _ _ _ _ _ _ _ _ (ac6 K (by exact hr.units)) (pv 2) (pv 1) (nomark _)) (@a05 _ _ _ (@a19 _ _ _ _ (pv 3))) (@a18 _))) (by intro _; rfl))
    (@a05 _ _ _ (@a19 _ _ _ _ (@a51 _ _ _)))),?_⟩
   obtain ⟨ua,uv,rfl,hu,hat⟩:=at_tup0.mp hbr
   have hul:uv.length=br.length:=by rw [hat.len,List.length_map]
   walk_at "go"
   refine ⟨⟨_,SqT.of hu⟩,bb1 (K:=K) (a:=ua) (xs:=uv) (fun i σ H'=>H=H'∧(∃ y1 y2,σ=[some (.ref ua),some v,y1,y2])∧(br.take i).find? (fun b=>decide (patK b.1=e))=none) ⟨rfl,⟨_,_,rfl⟩,rfl⟩ (fun i σ H' _ zz=>by obtain ⟨s',_⟩:=zz; exact s' ▸ SqT.of hu) ?_ ?_⟩
   · rintro i x σ H2 hx ⟨rfl,⟨y1,y2,rfl⟩,hf⟩
     have hi:i<br.length:=by rw [← hul]; exact (List.getElem?_eq_some_iff.mp hx).1
     obtain ⟨b,hb⟩:∃ b,br[i]?=some b:=⟨_,List.getElem?_eq_getElem hi⟩
     obtain ⟨t,ht,hxt⟩:=a63 hat hx
     rw [List.getElem?_map,hb] at ht
     rw [← Option.some.inj ht] at hxt
     obtain ⟨a,u,rfl,ha,hp⟩:=bf3 hxt
     walk_at "run"
     refine ⟨a,_,rfl,SqT.of ha,rfl,_,_,rfl,_,_,rfl,rfl,?_⟩
     walk_at "run"
     refine ao6 (hp.toK K) hev (Nat.le_trans (ap4 _) (by decide)) (Nat.le_trans heh (by decide)) ?_
     walk_at "run"
     by_cases hc:patK b.1=e
     · refine a26 hc ?_
       walk_at "run"
       unfold fndN at q
       rw [bf4 hf hb (decide_eq_true hc)] at q
       exact q
     · refine a24 hc ?_
       walk_at "run"
       exact ⟨rfl,⟨_,_,rfl⟩,b17 hf hb (decide_eq_false hc)⟩
   · rintro σ H2 ⟨rfl,⟨y1,y2,rfl⟩,hf⟩
     rw [hul,List.take_length] at hf
     walk_at "run"
     unfold fndN at q
     rw [hf] at q
     exact q
noncomputable def weN (br:List (List Pt×Nat)) (e:Tr):Option Nat:=if e=.tup [.str "quiet"] then none else match fndN br e with
 | some p=>some p
 | none=>fndN br (.tup [.str "other"])
def bp1 (K:PySem.W.Frag):Sp:=fun vs H Q _=>∃ (u v:V) (br:List (List Pt×Nat)) (e:Tr),vs=[u,v]∧(Tr.tup (br.map brT)).At H u []∧e.AtK K H v∧e.h≤5∧Q (wayV (weN br e)) H
theorem ah3 (T:Txt K mg t):FnOk P w K mg base CX0 2 t.a_way_of_event t.fd_way_of_event ["branches","event"] (bp1 K):=by
 have G_way_of_pattern:=ad5 (P:=P) (w:=w) (base:=base) T
 refine T.f_way_of_event.F.ok sc_way_of_event (fun vs H Q E h=>?_) (fun cdv A outer s H vs Q E hr h=>?_)
 · obtain ⟨u,v,br,e,rfl,_⟩:=h
   rfl
 · obtain ⟨u,v,br,e,rfl,hbr,hev,heh,q⟩:=h
   refine ⟨_,(@a01 _ _ _ _ _ (@a33 _ _ _ _ _ _ _ _ (@a07 _ _ _ _ _ _ _ _ (ac6 K (by exact hr.units)) (pv 1) (aq4 (by rfl) T.m_QUIET (by exact T.r_QUIET)) (nomark _)) (@a05 _ _ _ (@a19 _ _ _ _ (@a51 _ _ _))) (@a18 _))
    (@a01 _ _ _ _ _ (@a20 _ _ 2 _ _ _ _ sc_way_of_event.nd rfl (by walk_at "o") (@a08 _ _ _ _ _ _ _ _ _ _ _ _ _ _ _ _ G_way_of_pattern (hr.mono (by omega)) rfl T.f_way_of_pattern.m T.f_way_of_pattern.F.kp T.f_way_of_pattern.b .nil a28 (@a00 _ _ _ _ _ (pv 0) (@a00 _ _ _ _ _ (pv 1) (@a02 _) (by rfl)) (by rfl)) (by decide) (by rfl) (by rfl)) (by rfl) (by walk_at "o"))
    (@a38 _ _ _ _ _ (@a33 _ _ _ _ _ _ _ _ (@a07 _ _ _ _ _ _ _ _ aa0 (pv 2) (@a51 _ _ _) (nomark _)) (@a05 _ _ _ (@a20 _ _ 2 _ _ _ _ sc_way_of_event.nd rfl (by walk_at "o") (@a08 _ _ _ _ _ _ _ _ _ _ _ _ _ _ _ _ G_way_of_pattern (hr.mono (by omega)) rfl T.f_way_of_pattern.m T.f_way_of_pattern.F.kp T.f_way_of_pattern.b .nil a28 (@a00 _ _ _ _ _ (pv 0) (@a00 _ _ _ _ _ (aq4 (by rfl) T.m_OTHER (by exact T.r_OTHER)) (@a02 _) (by rfl)) (by rfl)) (by decide) (by rfl) (by rfl)) (by rfl) (by walk_at "o"))) (@a18 _))
    (@a05 _ _ _ (@a19 _ _ _ _ (pv 2)))))),?_⟩
   walk_at "go"
   refine ao6 hev (bo9 T.d_QUIET) (Nat.le_trans heh (by decide)) (by decide) ?_
   walk_at "run"
   by_cases hq:e=.tup [.str "quiet"]
   · refine a26 hq ?_
     walk_at "run"
     unfold weN at q
     rw [if_pos hq] at q
     exact q
   · refine a24 hq ?_
     walk_at "run"
     refine ⟨u,v,br,e,rfl,hbr,hev,heh,?_⟩
     walk_at "run"
     refine a62 (fun σ' H'=>H=H'∧σ'=[some u,some v,some (wayV (weN br e))]) ?_ ?_
     · walk_at "run"
       cases hf:fndN br e with
       | some p =>
         refine a24 (fun z=>nomatch z) ?_
         walk_at "run"
         exact ⟨rfl,by unfold weN; rw [if_neg hq,hf]⟩
       | none =>
         refine a26 rfl ?_
         walk_at "run"
         exact ⟨u,_,br,_,rfl,hbr,bo9 T.d_OTHER,by decide,rfl,by unfold weN; rw [if_neg hq,hf]; rfl⟩
     · rintro σ' H' ⟨rfl,rfl⟩
       walk_at "run"
       exact q
theorem b18 {d:Nd}(h:d.word=Str.ofString "wait"):∃ l br k,d=.wait l br k:=by
 cases d <;> first | exact ⟨_,_,_,rfl⟩ | (simp only [Nd.word] at h; exact absurd h (by decide +kernel))
theorem ba1 {d:Nd}(h:d.word=Str.ofString "put"):∃ b x k,d=.put b x k:=by
 cases d <;> first | exact ⟨_,_,_,rfl⟩ | (simp only [Nd.word] at h; exact absurd h (by decide +kernel))
theorem b19 {d:Nd}(h:d.word=Str.ofString "test"):∃ c a b,d=.test c a b:=by
 cases d <;> first | exact ⟨_,_,_,rfl⟩ | (simp only [Nd.word] at h; exact absurd h (by decide +kernel))
theorem b20 {d:Nd}(h:d.word=Str.ofString "call"):∃ a b,d=.call a b:=by
 cases d <;> first | exact ⟨_,_,rfl⟩ | (simp only [Nd.word] at h; exact absurd h (by decide +kernel))
theorem ah4 {d:Nd}(h:d.word=Str.ofString "back"):d=.back:=by
 cases d <;> first | rfl | (simp only [Nd.word] at h; exact absurd h (by decide +kernel))
theorem b21 {d:Nd}(h:d.word=Str.ofString "stop"):d=.stop:=by
 cases d <;> first | rfl | (simp only [Nd.word] at h; exact absurd h (by decide +kernel))
theorem bp2 {d:Nd}(h:d.word≠Str.ofString "wait"):d.w2=none:=by
 cases d <;> first | rfl | exact absurd rfl h
theorem b22 {d:Nd}{bs:List (Str×Int)}{ws:List Int}(h:d.word≠Str.ofString "put"):d.vals2 bs ws=ws:=by
 cases d <;> first | rfl | exact absurd rfl h
theorem b23 {d:Nd}(h1:d.word≠Str.ofString "test") (h2:d.word≠Str.ofString "call") (h3:d.word≠Str.ofString "back") (h4:d.word≠Str.ofString "stop"):∃ k r,d.its=r++[.int (k:Nat)]∧∀ ns nm ws stk,behF ns nm ws stk d=(some k,stk):=by
 cases d with
 | say w n=>exact ⟨n,[.str "say",.str w],rfl,fun _ _ _ _=>rfl⟩
 | hand l w n=>exact ⟨n,[.str "hand",.int l,.str w],rfl,fun _ _ _ _=>rfl⟩
 | put b e n=>exact ⟨n,[.str "put",.str b,e.tr],rfl,fun _ _ _ _=>rfl⟩
 | wait l bs n=>exact ⟨n,[.str "wait",.int l,.tup (bs.map brT)],rfl,fun _ _ _ _=>rfl⟩
 | test c a b=>exact absurd rfl h1
 | call a b=>exact absurd rfl h2
 | back=>exact absurd rfl h3
 | stop=>exact absurd rfl h4
theorem al4 {H:Hp}{t:Tr}:∀ {xs:List Tr}{vs:List V},Tr.Ats H (xs++[t]) vs []→∃ ws v,vs=ws++[v]∧t.At H v []
 | [],vs,h=>by
   obtain ⟨v,w,rfl,h1,h2⟩:=ats_cons0.mp h
   obtain rfl:=ats_nil0.mp h2
   exact ⟨[],v,rfl,h1⟩
 | x::xs,vs,h=>by
   obtain ⟨v,w,rfl,h1,h2⟩:=ats_cons0.mp (show Tr.Ats H (x::(xs++[t])) vs [] from h)
   obtain ⟨ws,v',rfl,h3⟩:=al4 h2
   exact ⟨v::ws,v',rfl,h3⟩
theorem ap5 {ns:List Nd}{k:Nat}{d:Nd}(h:ns[k]?=some d):b14 ns k=decide (d.word=Str.ofString "back"):=by
 unfold b14
 rw [h]
 by_cases e:d.word=Str.ofString "back"
 · obtain rfl:=ah4 e
   rw [decide_eq_true e]
 · rw [decide_eq_false e]
   cases d <;> first | rfl | exact absurd rfl e
def bp3 (K:PySem.W.Frag) (C:Addr):Sp:=fun vs H Q _=>∃ (p ks pa:Addr) (v:V) (bs:List (Str×Int)) (ns:List Nd) (f:Nat) (d:Nd) (stk:List Nat) (ws:List Int),vs=[.ref p,v,.ref ks,.ref pa]∧GmAt C H p bs ns f∧GrOk bs ns∧d∈ns∧d.tr.At H v []∧H ks=some (.lst (a43 stk))∧stk.length≤900000∧H pa=some (.tup (ws.map V.int))∧ws.length=bs.length ∧
 ∀ H1 H',Same H H1→H1 ks=some (.lst (a43 stk))→H'=upd H1 ks (.lst (a43 (behF ns (bs.map (·.1)) ws stk d).2))→Q (wayV (behF ns (bs.map (·.1)) ws stk d).1) H'
theorem b24 {H:Hp}{a:Addr}{o:HO}(e:H a=some o):upd H a o=H:=by
 funext b
 by_cases h:b=a
 · subst h
   rw [a32,e]
 · rw [a12 h]
theorem a69 (T:Txt K mg t):FnOk P w K mg base CX0 15 t.a_GraphMachine_node_behind t.fd_GraphMachine_node_behind ["self","node","kept","values"] (bp3 K t.c_GraphMachine):=by
 have G_holds:=b69 (P:=P) (w:=w) (base:=base) T
 refine T.f_GraphMachine_node_behind.F.ok sc_GraphMachine_node_behind (fun vs H Q E h=>?_) (fun cdv A outer s H vs Q E hr h=>?_)
 · obtain ⟨p,ks,pa,v,bs,ns,f,d,stk,ws,rfl,_⟩:=h
   rfl
 · obtain ⟨p,ks,pa,v,bs,ns,f,d,stk,ws,rfl,hG,hok,hmem,hd,hks,hsl,hpa,hwl,q⟩:=h
   have G_holds:=G_holds 4
   refine ⟨_,(@a01 _ _ _ _ _ (@a20 _ _ 4 _ _ _ _ sc_GraphMachine_node_behind.nd rfl (by walk_at "o") (@a14 _ _ _ _ _ _ _ (a06 K) (pv 1) (@a04 _ _ _ _) (fun _ _=>rfl)) (by rfl) (by walk_at "o"))
    (@a01 _ _ _ _ _ (@a33 _ _ _ _ _ _ _ _ (@a07 _ _ _ _ _ _ _ _ a41 (pv 4) (@a21 _ _ _ _) (nomark _)) (@a05 _ _ _ (@a19 _ _ _ _ (@at2 _ _ _ _ _ _ _ _ (ad3 K (@a08 _ _ _ _ _ _ _ _ _ _ _ _ _ _ _ _ G_holds (hr.mono (by omega)) rfl T.f_holds.m T.f_holds.F.kp T.f_holds.b .nil a28 (@a00 _ _ _ _ _ (@a14 _ _ _ _ _ _ _ (a06 K) (pv 1) (@a04 _ _ _ _) (fun _ _=>rfl)) (@a00 _ _ _ _ _ (ab8 K (pv 0) rfl) (@a00 _ _ _ _ _ (pv 3) (@a02 _) (by rfl)) (by rfl)) (by rfl)) (by decide) (by rfl) (by rfl)) (fun _=>rfl)) (@a14 _ _ _ _ _ _ _ (a06 K) (pv 1) (@a04 _ _ _ _) (fun _ _=>rfl)) (@a14 _ _ _ _ _ _ _ (a06 K) (pv 1) (@a04 _ _ _ _) (fun _ _=>rfl))))) (@a18 _))
    (@a01 _ _ _ _ _ (@a33 _ _ _ _ _ _ _ _ (@a07 _ _ _ _ _ _ _ _ a41 (pv 4) (@a21 _ _ _ _) (nomark _)) (@a38 _ _ _ _ _ (@a33 _ _ _ _ _ _ _ _ (@a07 _ _ _ _ _ _ _ _ bb3 (@a14 _ _ _ _ _ _ _ (a06 K) (@a14 _ _ _ _ _ _ _ (a29 K) (ab8 K (pv 0) rfl) (@a14 _ _ _ _ _ _ _ (a06 K) (pv 1) (@a04 _ _ _ _) (fun _ _=>rfl)) (fun _ _=>rfl)) (@a04 _ _ _ _) (fun _ _=>rfl)) (@a21 _ _ _ _) (nomark _)) (@a05 _ _ _ (@a60 _ _ _ _ (@a74 _ K _ _ _ _ _ _ _ _ _ _ _ PySem.F.plainAttrs_list PySem.F.slot_list_append PySem.F.type_list_append a50 (pv 2) (@a00 _ _ _ _ _ (@a14 _ _ _ _ _ _ _ (a06 K) (pv 1) (@a04 _ _ _ _) (fun _ _=>rfl)) (@a02 _) (by rfl)) (by rfl) (by rfl) (by rfl) (by rfl) (by rfl) (by rfl)) (by rfl))) (@a18 _))
     (@a05 _ _ _ (@a19 _ _ _ _ (@a14 _ _ _ _ _ _ _ (a06 K) (pv 1) (@a04 _ _ _ _) (fun _ _=>rfl))))) (@a18 _))
    (@a01 _ _ _ _ _ (@a33 _ _ _ _ _ _ _ _ (@ag3 _ _ _ (@PW.pt _ _ _ (@ai0 _ _ _ _ _ _ _ (@a07 _ _ _ _ _ _ _ _ a41 (pv 4) (@a21 _ _ _ _) (nomark _)) (@ac8 _ _ _ _ (@a07 _ _ _ _ _ _ _ _ aj8 (@a46 _ _ _ _ _ _ _ _ _ (a97 K) (by rfl) T.z_len ad7 (@a00 _ _ _ _ _ (pv 2) (@a02 _) (by rfl)) (by decide) (by decide) (by rfl) (by rfl)) (@a04 _ _ _ _) (nomark _)))))) (@a05 _ _ _ (@a19 _ _ _ _ (af9 K PySem.F.plainAttrs_list PySem.F.slot_list_pop PySem.F.type_list_pop ay4 (pv 2)))) (@a18 _))
    (@a01 _ _ _ _ _ (@a33 _ _ _ _ _ _ _ _ (@ag3 _ _ _ (@PW.pt _ _ _ (@aj7 _ _ _ _ _ _ _ (@a07 _ _ _ _ _ _ _ _ a41 (pv 4) (@a21 _ _ _ _) (nomark _)) (@ae4 _ _ _ _ (@a07 _ _ _ _ _ _ _ _ a41 (pv 4) (@a21 _ _ _ _) (nomark _)))))) (@a05 _ _ _ (@a19 _ _ _ _ (@a51 _ _ _))) (@a18 _))
    (@a05 _ _ _ (@a19 _ _ _ _ (@a14 _ _ _ _ _ _ _ (a06 K) (pv 1) (@ax1 _ _ _ _ _ _ am2 (@a04 _ _ _ _)) (fun _ _=>rfl))))))))),?_⟩
   have sl:(1000000:Nat)≤sizeLine:=le_line (Nat.le_refl _)
   obtain ⟨dx,bl,nl,bvs,un,h1,h2,h3,h4,h5⟩:=hG.ex
   obtain ⟨na,us,rfl,hna⟩:=Nd.word_at hd
   have hdok:=hok.ok d hmem
   have qs:∀ H1,Same H H1→(behF ns (bs.map (·.1)) ws stk d).2=stk→Q (wayV (behF ns (bs.map (·.1)) ws stk d).1) H1:=fun H1 s1 e=>q H1 H1 s1 (s1 _ _ hks) (by rw [e]; exact (b24 (s1 _ _ hks)).symm)
   walk_at "go"
   refine a22 (SqT.of hna) (a03 (j:=0) rfl) ?_
   walk_at "run"
   by_cases w1:d.word=Str.ofString "test"
   · refine a26 w1 ?_
     walk_at "run"
     obtain ⟨c,x,y,rfl⟩:=b19 w1
     obtain ⟨a,u,hz,ha,hc⟩:=Nd.test_at hd
     cases hz
     refine a22 (SqT.of ha) (a03 (j:=1) rfl) ?_
     walk_at "run"
     refine ⟨p,_,dx,_,_,rfl,h1,T.cl_GraphMachine,T.n_GraphMachine_boxes,ag7 _ _ _,?_⟩
     walk_at "run"
     refine ⟨u,c,bl,pa,bvs,bs.map (·.1),ws,rfl,ao5 hc,hdok.2,hdok.1,SqL.of h2,al2 h3,SqT.of hpa,by simp [hwl],by have:=hok.bl; simp; omega,fun H1 s1=>?_⟩
     walk_at "run"
     have hq:=qs H1 s1 rfl
     simp only [behF] at hq
     cases hc:c.ev (bs.map (·.1)) ws with
     | true =>
       rw [hc] at hq
       walk_at "run"
       exact a22 (SqT.of (s1 _ _ ha)) (a03 (j:=2) rfl) hq
     | false =>
       rw [hc] at hq
       walk_at "run"
       exact a22 (SqT.of (s1 _ _ ha)) (a03 (j:=3) rfl) hq
   refine a24 w1 ?_
   walk_at "run"
   by_cases w2:d.word=Str.ofString "call"
   · refine a26 w2 ?_
     walk_at "run"
     obtain ⟨x,y,rfl⟩:=b20 w2
     obtain ⟨a,hz,ha⟩:=Nd.call_at hd
     cases hz
     have hy:y<ns.length:=hok.nx _ hmem y (by simp [Nd.nexts])
     have hul:un.length=ns.length:=by rw [h5.len,List.length_map]
     obtain ⟨u,hu⟩:∃ u,un[y]?=some u:=⟨_,List.getElem?_eq_getElem (by omega)⟩
     obtain ⟨d2,hd2⟩:∃ d2,ns[y]?=some d2:=⟨_,List.getElem?_eq_getElem hy⟩
     obtain ⟨t,ht,hxt⟩:=a63 h5 hu
     rw [List.getElem?_map,hd2] at ht
     rw [← Option.some.inj ht] at hxt
     obtain ⟨nb,us2,rfl,hnb⟩:=Nd.word_at hxt
     have hbk:=ap5 hd2
     refine a62 (fun σ' H'=>σ'=[some (.ref p),some (.ref na),some (.ref ks),some (.ref pa),some (.str "call")]∧H'=upd H ks (.lst (a43 (if b14 ns y then stk else stk++[y])))) ?_ ?_
     · walk_at "run"
       refine ⟨p,_,dx,_,_,rfl,h1,T.cl_GraphMachine,T.n_GraphMachine_nodes,ag8 _ _ _,?_⟩
       walk_at "run"
       refine a22 (SqT.of ha) (a03 (j:=2) rfl) ?_
       walk_at "run"
       refine a45 (SqL.of h4) (a03 hu) ?_
       walk_at "run"
       refine a22 (SqT.of hnb) (a03 (j:=0) rfl) ?_
       walk_at "run"
       by_cases hb:d2.word=Str.ofString "back"
       · refine ao2 hb ?_
         walk_at "run"
         exact ⟨rfl,by rw [hbk,decide_eq_true hb,if_pos rfl,b24 hks]⟩
       · refine aj2 hb ?_
         walk_at "run"
         refine a89 (SqL.of hks) ?_
         walk_at "run"
         refine a22 (SqT.of ha) (a03 (j:=2) rfl) ?_
         walk_at "run"
         refine a58 hks (by simp only [a43,List.length_map]; omega) ?_
         exact ⟨rfl,by rw [hbk,decide_eq_false hb,if_neg (by simp)]; simp [a43]⟩
     · rintro σ' H' ⟨rfl,rfl⟩
       walk_at "run"
       refine a22 (SqT.of ((Tups.upd hks) _ _ ha)) (a03 (j:=1) rfl) ?_
       exact q H _ (Same.refl _) hks rfl
   refine a24 w2 ?_
   walk_at "run"
   refine ao4 (d.word=Str.ofString "back"∧stk≠[]) (fun R hR=>?_) ?_
   · walk_at "run"
     by_cases hh:d.word=Str.ofString "back"
     · refine a26 hh ?_
       walk_at "run"
       refine ag1 (SqL.of hks) ?_
       walk_at "run"
       rw [b04]
       by_cases h7:stk=[]
       · subst h7
         exact rF hR (fun z=>z.2 rfl)
       · have:0<stk.length:=List.length_pos_iff.mpr h7
         rw [decide_eq_true (by omega)]
         exact rT hR ⟨hh,h7⟩
     · refine a24 hh ?_
       exact rF hR (fun z=>hh z.1)
   by_cases w3:d.word=Str.ofString "back"∧stk≠[]
   · refine a26 w3 ?_
     walk_at "run"
     obtain rfl:=ah4 w3.1
     obtain ⟨t',z,rfl⟩:∃ t' z,stk=t'++[z]:=by
      rcases List.eq_nil_or_concat stk with e | ⟨x,y,e⟩
      · exact absurd e w3.2
      · exact ⟨x,y,by rw [e,List.concat_eq_append]⟩
     refine a89 (SqL.of hks) ?_
     walk_at "run"
     refine bd5 (xs:=a43 t') (y:=.int (z:Nat)) (by rw [hks]; simp [a43]) ?_
     have:=q H _ (Same.refl _) hks rfl
     simp [behF] at this
     exact this
   refine a24 w3 ?_
   walk_at "run"
   refine ao4 (d.word=Str.ofString "back"∨d.word=Str.ofString "stop") (fun R hR=>?_) ?_
   · walk_at "run"
     by_cases hh:d.word=Str.ofString "back"
     · refine a26 hh ?_
       exact rT hR (.inl hh)
     · refine a24 hh ?_
       walk_at "run"
       by_cases h7:d.word=Str.ofString "stop"
       · rw [decide_eq_true h7]
         exact rT hR (.inr h7)
       · rw [decide_eq_false h7]
         exact rF hR (fun z=>by rcases z with z | z; exact hh z; exact h7 z)
   by_cases w4:d.word=Str.ofString "back"∨d.word=Str.ofString "stop"
   · refine a26 w4 ?_
     walk_at "run"
     rcases w4 with w4 | w4
     · have hst:stk=[]:=Classical.byContradiction fun z=>w3 ⟨w4,z⟩
       subst hst
       obtain rfl:=ah4 w4
       exact qs H (Same.refl _) rfl
     · obtain rfl:=b21 w4
       exact qs H (Same.refl _) rfl
   refine a24 w4 ?_
   walk_at "run"
   obtain ⟨k,r,hr',hb⟩:=b23 w1 w2 (fun z=>w4 (.inl z)) (fun z=>w4 (.inr z))
   obtain ⟨a',vs,hz,ha,hat⟩:=at_tup0.mp hd
   cases hz
   rw [hr'] at hat
   obtain ⟨ws',v',rfl,hv'⟩:=al4 hat
   obtain rfl:=at_int0.mp hv'
   refine a22 (SqT.of ha) (ak1 _ _) ?_
   have:=qs H (Same.refl _) (by rw [hb])
   rw [hb] at this
   exact this
theorem ba2 {ns:List Nd}{bs:List (Str×Int)}{m k:Nat}{stk:List Nat}{ws:List Int}{x:List Str×Option StG}(h:grF ns bs m (some k) stk ws=some x):∃ m' d,m=m'+1∧ns[k]?=some d∧((∃ l,d.w2=some l∧x=([],some (k,stk,ws,l)))∨(d.w2=none∧∃ y,grF ns bs m' (behF ns (bs.map (·.1)) (d.vals2 bs ws) stk d).1 (behF ns (bs.map (·.1)) (d.vals2 bs ws) stk d).2 (d.vals2 bs ws)=some y∧x=(d.sd2++y.1,y.2))):=by
 cases m with
 | zero=>cases h
 | succ m =>
   unfold grF at h
   cases hk:ns[k]? with
   | none=>rw [hk] at h; cases h
   | some d =>
     rw [hk] at h
     refine ⟨m,d,rfl,rfl,?_⟩
     simp only at h
     cases hw:d.w2 with
     | some l=>rw [hw] at h; exact .inl ⟨l,rfl,(Option.some.inj h).symm⟩
     | none =>
       rw [hw] at h
       obtain ⟨y,hy,hz⟩:=Option.map_eq_some_iff.mp h
       exact .inr ⟨rfl,y,hy,hz.symm⟩
theorem al5 {d:Nd}{H:Hp}{v:V}{nm:List Str}(h:d.word=Str.ofString "say"∨d.word=Str.ofString "hand") (hd:d.tr.At H v []) (ho:d.ok3 nm):∃ (a:Addr) (us:List V) (w:Str),v=.ref a∧d.sd2=[w]∧((H a=some (.tup (.str "say"::.str w::us)))∨∃ l x,H a=some (.tup (.str "hand"::.int l::.str x::us))∧0≤l∧l<10∧x.length≤100∧w=sayS l x):=by
 obtain ⟨a,vs,rfl,ha,hat⟩:=at_tup0.mp hd
 cases d with
 | say w n =>
   obtain ⟨v1,w1,rfl,k1,hat⟩:=ats_cons0.mp hat
   obtain ⟨v2,w2,rfl,k2,hat⟩:=ats_cons0.mp hat
   obtain rfl:=at_str0.mp k1
   obtain rfl:=at_str0.mp k2
   exact ⟨a,_,w,rfl,rfl,.inl ha⟩
 | hand l w n =>
   obtain ⟨v1,w1,rfl,k1,hat⟩:=ats_cons0.mp hat
   obtain ⟨v2,w2,rfl,k2,hat⟩:=ats_cons0.mp hat
   obtain ⟨v3,w3,rfl,k3,hat⟩:=ats_cons0.mp hat
   obtain rfl:=at_str0.mp k1
   obtain rfl:=at_int0.mp k2
   obtain rfl:=at_str0.mp k3
   exact ⟨a,_,_,rfl,rfl,.inr ⟨l,w,ha,ho.1,ho.2.1,ho.2.2,rfl⟩⟩
 | _=>rcases h with h | h <;> simp only [Nd.word] at h <;> exact absurd h (by decide +kernel)
theorem ba3 {d:Nd}(h:¬ (d.word=Str.ofString "say"∨d.word=Str.ofString "hand")):d.sd2=[]:=by
 cases d <;> first | rfl | exact absurd (.inl rfl) h | exact absurd (.inr rfl) h
def bp4 (K:PySem.W.Frag) (C:Addr):Sp:=fun vs H Q _=>∃ (p ps pa:Addr) (bs:List (Str×Int)) (ns:List Nd) (f:Nat) (o:Option Nat) (stk:List Nat) (ws:List Int) (n:Nat) (sd:List Str) (r:Option StG),vs=[.ref p,wayV o,.ref ps,.ref pa]∧GmAt C H p bs ns f∧GrOk bs ns∧H ps=some (.tup (a43 stk))∧H pa=some (.tup (ws.map V.int))∧ws.length=bs.length∧grF ns bs n o stk ws=some (sd,r)∧stk.length+n≤900000 ∧
 ∀ p' l v' H',Same H H'→H' p'=some (.tup [.ref l,v'])→H l=none→H' l=some (.lst (a35 sd))→SgAt H' v' r→Q (.ref p') H'
theorem a56 (T:Txt K mg t):FnOk P w K mg base CX0 16 t.a_GraphMachine_gone_on t.fd_GraphMachine_gone_on ["self","number","stack","values"] (bp4 K t.c_GraphMachine):=by
 have G_GraphMachine_node_behind:=a69 (P:=P) (w:=w) (base:=base) T
 have G_said_text:=ap2 (P:=P) (w:=w) (base:=base) T
 have G_values_put:=al3 (P:=P) (w:=w) (base:=base) T
 refine T.f_GraphMachine_gone_on.F.ok sc_GraphMachine_gone_on (fun vs H Q E h=>?_) (fun cdv A outer s H vs Q E hr h=>?_)
 · obtain ⟨p,ps,pa,bs,ns,f,o,stk,ws,n,sd,r,rfl,_⟩:=h
   rfl
 · obtain ⟨p,ps,pa,bs,ns,f,o,stk,ws,n,sd,r,rfl,hG,hok,hps,hpa,hwl,hgo,hsl,q⟩:=h
   refine ⟨_,(@a01 _ _ _ _ _ (@a20 _ _ 4 _ _ _ _ sc_GraphMachine_gone_on.nd rfl (by walk_at "o") (@a31 _ _ _ _ (@a02 _)) (by rfl) (by walk_at "o"))
    (@a01 _ _ _ _ _ (@a20 _ _ 5 _ _ _ _ sc_GraphMachine_gone_on.nd rfl (by walk_at "o") (@a34 _ _ _ _ _ _ _ _ _ (a84 K) (by rfl) T.z_list a99 (@a00 _ _ _ _ _ (pv 2) (@a02 _) (by rfl)) (by decide) (by decide) (by rfl) (by rfl)) (by rfl) (by walk_at "o"))
    (@a01 _ _ _ _ _ (@at3 _ _ _ _ _ _ PassesOwn.never (@a07 _ _ _ _ _ _ _ _ at9 (pv 1) (@a51 _ _ _) (nomark _)) (@a01 _ _ _ _ _ (@a20 _ _ 6 _ _ _ _ sc_GraphMachine_gone_on.nd rfl (by walk_at "o") (@a14 _ _ _ _ _ _ _ (a29 K) (ab8 K (pv 0) rfl) (pv 1) (fun _ _=>rfl)) (by rfl) (by walk_at "o"))
     (@a01 _ _ _ _ _ (@a20 _ _ 7 _ _ _ _ sc_GraphMachine_gone_on.nd rfl (by walk_at "o") (@a14 _ _ _ _ _ _ _ (a06 K) (pv 6) (@a04 _ _ _ _) (fun _ _=>rfl)) (by rfl) (by walk_at "o"))
     (@a01 _ _ _ _ _ (@a33 _ _ _ _ _ _ _ _ (@a07 _ _ _ _ _ _ _ _ a41 (pv 7) (@a21 _ _ _ _) (nomark _)) (@a05 _ _ _ (@a19 _ _ _ _ (@a23 _ _ _ _ _ (@a00 _ _ _ _ _ (pv 4) (@a00 _ _ _ _ _ (@a23 _ _ _ _ _ (@a00 _ _ _ _ _ (pv 1) (@a00 _ _ _ _ _ (@a34 _ _ _ _ _ _ _ _ _ (a73 K) (by rfl) T.z_tuple a85 (@a00 _ _ _ _ _ (pv 5) (@a02 _) (by rfl)) (by decide) (by decide) (by rfl) (by rfl)) (@a00 _ _ _ _ _ (pv 3) (@a00 _ _ _ _ _ (@a14 _ _ _ _ _ _ _ (a06 K) (pv 6) (@a04 _ _ _ _) (fun _ _=>rfl)) (@a02 _) (by rfl)) (by rfl)) (by rfl)) (by rfl))) (@a02 _) (by rfl)) (by rfl))))) (@a18 _))
     (@a38 _ _ _ _ _ (@a33 _ _ _ _ _ _ _ _ (@ag3 _ _ _ (@PW.pt _ _ _ (@aj7 _ _ _ _ _ _ _ (@a07 _ _ _ _ _ _ _ _ a41 (pv 7) (@a21 _ _ _ _) (nomark _)) (@ae4 _ _ _ _ (@a07 _ _ _ _ _ _ _ _ a41 (pv 7) (@a21 _ _ _ _) (nomark _)))))) (@a05 _ _ _ (@a60 _ _ _ _ (@a74 _ K _ _ _ _ _ _ _ _ _ _ _ PySem.F.plainAttrs_list PySem.F.slot_list_append PySem.F.type_list_append a50 (pv 4) (@a00 _ _ _ _ _ (@a08 _ _ _ _ _ _ _ _ _ _ _ _ _ _ _ _ G_said_text (hr.mono (by omega)) rfl T.f_said_text.m T.f_said_text.F.kp T.f_said_text.b .nil a28 (@a00 _ _ _ _ _ (pv 6) (@a02 _) (by rfl)) (by decide) (by rfl) (by rfl)) (@a02 _) (by rfl)) (by rfl) (by rfl) (by rfl) (by rfl) (by rfl) (by rfl)) (by rfl))) (@a18 _))
     (@a38 _ _ _ _ _ (@a33 _ _ _ _ _ _ _ _ (@a07 _ _ _ _ _ _ _ _ a41 (pv 7) (@a21 _ _ _ _) (nomark _)) (@a05 _ _ _ (@a20 _ _ 3 _ _ _ _ sc_GraphMachine_gone_on.nd rfl (by walk_at "o") (@a08 _ _ _ _ _ _ _ _ _ _ _ _ _ _ _ _ G_values_put (hr.mono (by omega)) rfl T.f_values_put.m T.f_values_put.F.kp T.f_values_put.b .nil a28 (@a00 _ _ _ _ _ (ab8 K (pv 0) rfl) (@a00 _ _ _ _ _ (pv 3) (@a00 _ _ _ _ _ (@a14 _ _ _ _ _ _ _ (a06 K) (pv 6) (@a04 _ _ _ _) (fun _ _=>rfl)) (@a00 _ _ _ _ _ (@a14 _ _ _ _ _ _ _ (a06 K) (pv 6) (@a04 _ _ _ _) (fun _ _=>rfl)) (@a02 _) (by rfl)) (by rfl)) (by rfl)) (by rfl)) (by decide) (by rfl) (by rfl)) (by rfl) (by walk_at "o"))) (@a18 _))
     (@a05 _ _ _ (@a20 _ _ 1 _ _ _ _ sc_GraphMachine_gone_on.nd rfl (by walk_at "o") (a93 (pv 0) T.cl_GraphMachine T.f_GraphMachine_node_behind.M G_GraphMachine_node_behind (hr.mono (by omega)) T.f_GraphMachine_node_behind.b .nil a28 (@a00 _ _ _ _ _ (pv 6) (@a00 _ _ _ _ _ (pv 5) (@a00 _ _ _ _ _ (pv 3) (@a02 _) (by rfl)) (by rfl)) (by rfl))) (by rfl) (by walk_at "o")))))))))
    (@a05 _ _ _ (@a19 _ _ _ _ (@a23 _ _ _ _ _ (@a00 _ _ _ _ _ (pv 4) (@a00 _ _ _ _ _ (@a51 _ _ _) (@a02 _) (by rfl)) (by rfl)))))))),?_⟩
   have sl:(1000000:Nat)≤sizeLine:=le_line (Nat.le_refl _)
   obtain ⟨dx,bl,nl,bvs,un,h1,h2,h3,h4,h5⟩:=hG.ex
   have hul:un.length=ns.length:=by rw [h5.len,List.length_map]
   walk_at "go"
   intro ls H1 f1 s1 e1
   walk_at "run"
   refine ⟨ps,_,rfl,.inr (SqT.of (s1 _ _ hps)),?_⟩
   intro lk H2 f2 s2 e2
   walk_at "run"
   have hlk:H lk=none:=s1.free f2
   have hll:ls≠lk:=fun z=>by rw [← z,e1] at f2; cases f2
   have s12:=s1.trans s2
   obtain ⟨Pv,hPv⟩:∃ Pv:Nat→St→Hp→Prop,Pv=(fun m σ H'=>∃ (o:Option Nat) (stk':List Nat) (ws':List Int) (sd':List Str) (pa':Addr) (y1 y2:Option V),σ=[some (.ref p),some (wayV o),some (.ref ps),some (.ref pa'),some (.ref ls),some (.ref lk),y1,y2]∧Same H H'∧H' ls=some (.lst (a35 sd'))∧H' lk=some (.lst (a43 stk'))∧H' pa'=some (.tup (ws'.map V.int))∧ws'.length=bs.length∧(∃ sd1,grF ns bs m o stk' ws'=some (sd1,r)∧sd=sd'++sd1)∧stk'.length+m≤900000∧sd'.length+m≤900000):=⟨_,rfl⟩
   refine b03 Pv n (by rw [hPv]; exact ⟨o,stk,ws,[],pa,_,_,rfl,s12,s2 _ _ e1,e2,s12 _ _ hpa,hwl,⟨sd,hgo,rfl⟩,hsl,by simp; omega⟩) ?_
   intro m σ H3 hI
   rw [hPv] at hI
   obtain ⟨o,stk',ws',sd',pa',y1,y2,rfl,s3,hls,hlk3,hpa3,hwl3,⟨sd1,hg,rfl⟩,hsm,hdm⟩:=hI
   walk_at "run"
   cases o with
   | none =>
     refine ao2 rfl ?_
     walk_at "run"
     have hx:sd1=[]∧r=none:=by
      cases m with
      | zero=>cases hg
      | succ m=>cases hg; exact ⟨rfl,rfl⟩
     obtain ⟨rfl,rfl⟩:=hx
     intro po H4 f4 s4 e4
     exact q po ls .non H4 (s3.trans s4) e4 f1 (by rw [List.append_nil]; exact s4 _ _ hls) rfl
   | some k =>
     refine aj2 (fun z=>nomatch z) ?_
     obtain ⟨m',d,rfl,hd,hcs⟩:=ba2 hg
     refine ⟨fun σ' H'=>∃ m2,m2<m'+1∧Pv m2 σ' H',fun σ' H' h'=>h',?_⟩
     have hkl:=(List.getElem?_eq_some_iff.mp hd).1
     have hmem:=List.mem_of_getElem? hd
     have hdok:=hok.ok d hmem
     obtain ⟨u,hu⟩:∃ u,un[k]?=some u:=⟨_,List.getElem?_eq_getElem (by omega)⟩
     have hut:d.tr.At H3 u []:=by
      obtain ⟨t,ht,hxt⟩:=a63 (h5.same s3) hu
      rw [List.getElem?_map,hd] at ht
      rw [← Option.some.inj ht] at hxt
      exact hxt
     walk_at "run"
     refine ⟨p,_,dx,_,_,rfl,s3 _ _ h1,T.cl_GraphMachine,T.n_GraphMachine_nodes,ag8 _ _ _,?_⟩
     walk_at "run"
     refine a45 (SqL.of (s3 _ _ h4)) (a03 hu) ?_
     walk_at "run"
     obtain ⟨na,us,rfl,hna⟩:=Nd.word_at hut
     refine a22 (SqT.of hna) (a03 (j:=0) rfl) ?_
     walk_at "run"
     by_cases w1:d.word=Str.ofString "wait"
     · refine a26 w1 ?_
       walk_at "run"
       obtain ⟨l,br,j,rfl⟩:=b18 w1
       obtain ⟨a,vs,hz,ha,hat⟩:=at_tup0.mp hut
       cases hz
       obtain ⟨v1,z1,rfl,k1,hat⟩:=ats_cons0.mp hat
       obtain ⟨v2,z2,rfl,k2,hat⟩:=ats_cons0.mp hat
       obtain rfl:=at_int0.mp k2
       obtain ⟨l',hl',hx⟩:∃ l',(Nd.wait l br j).w2=some l'∧(sd1,r)=([],some (k,stk',ws',l')):=by
        rcases hcs with z | ⟨hn,_⟩
        · exact z
        · cases hn
       cases hl'
       injection hx with hx1 hx2
       subst hx1 hx2
       refine aa8 (SqL.of hlk3) ?_
       intro pt H4 f4 s4 e4
       walk_at "run"
       refine a22 (SqT.of (s4 _ _ ha)) (a03 (j:=1) rfl) ?_
       walk_at "run"
       intro p5 H5 f5 s5 e5
       walk_at "run"
       intro p6 H6 f6 s6 e6
       have s46:=s4.trans (s5.trans s6)
       exact q p6 ls _ H6 (s3.trans s46) e6 f1 (by rw [List.append_nil]; exact s46 _ _ hls) ⟨p5,pt,pa',rfl,s6 _ _ e5,(s5.trans s6) _ _ e4,s46 _ _ hpa3⟩
     refine a24 w1 ?_
     walk_at "run"
     rcases hcs with ⟨l',hl',_⟩ | ⟨_,y,hy,hx⟩
     · rw [bp2 w1] at hl'
       cases hl'
     injection hx with hx1 hx2
     subst hx1 hx2
     refine a62 (fun σ' H'=>σ'=[some (.ref p),some (.int (k:Nat)),some (.ref ps),some (.ref pa'),some (.ref ls),some (.ref lk),some (.ref na),some (.str d.word)]∧Same H H'∧H' ls=some (.lst (a35 (sd'++d.sd2)))∧H' lk=some (.lst (a43 stk'))∧H' pa'=some (.tup (ws'.map V.int))∧d.tr.At H' (.ref na) []) ?_ ?_
     · walk_at "run"
       refine ao4 (d.word=Str.ofString "say"∨d.word=Str.ofString "hand") (fun R hR=>?_) ?_
       · walk_at "run"
         by_cases hh:d.word=Str.ofString "say"
         · refine a26 hh ?_
           exact rT hR (.inl hh)
         · refine a24 hh ?_
           walk_at "run"
           by_cases h7:d.word=Str.ofString "hand"
           · rw [decide_eq_true h7]
             exact rT hR (.inr h7)
           · rw [decide_eq_false h7]
             exact rF hR (fun z=>by rcases z with z | z; exact hh z; exact h7 z)
       by_cases w3:d.word=Str.ofString "say"∨d.word=Str.ofString "hand"
       · refine a26 w3 ?_
         walk_at "run"
         obtain ⟨a,us',w',hz,hw',hor⟩:=al5 w3 hut hdok
         cases hz
         refine a89 (SqL.of hls) ?_
         walk_at "run"
         refine ⟨na,us',w',rfl,hor,?_⟩
         walk_at "run"
         refine a58 hls (by simp only [a35,List.length_map]; omega) ?_
         have tU:Tups H3 (upd H3 ls (.lst (a35 sd'++[V.str w']))):=Tups.upd hls
         exact ⟨rfl,s3.updNew f1,by rw [a32,hw']; simp [a35],by rw [a12 hll.symm]; exact hlk3,tU _ _ hpa3,hut.mono (Keep.upd hls (by simp))⟩
       · refine a24 w3 ?_
         walk_at "run"
         exact ⟨rfl,s3,by rw [ba3 w3,List.append_nil]; exact hls,hlk3,hpa3,hut⟩
     rintro σ' H5 ⟨rfl,s5,hls5,hlk5,hpa5,hut5⟩
     refine a62 (fun σ' H'=>∃ pa6,σ'=[some (.ref p),some (.int (k:Nat)),some (.ref ps),some (.ref pa6),some (.ref ls),some (.ref lk),some (.ref na),some (.str d.word)]∧Same H5 H'∧H' pa6=some (.tup ((d.vals2 bs ws').map V.int))) ?_ ?_
     · walk_at "run"
       by_cases w4:d.word=Str.ofString "put"
       · refine a26 w4 ?_
         walk_at "run"
         obtain ⟨nm,e,j,rfl⟩:=ba1 w4
         obtain ⟨a,u',hz,ha,he⟩:=Nd.put_at hut5
         cases hz
         refine ⟨p,_,dx,_,_,rfl,s5 _ _ h1,T.cl_GraphMachine,T.n_GraphMachine_boxes,ag7 _ _ _,?_⟩
         walk_at "run"
         refine a22 (SqT.of ha) (a03 (j:=1) rfl) ?_
         walk_at "run"
         refine a22 (SqT.of ha) (a03 (j:=2) rfl) ?_
         walk_at "run"
         exact ⟨bl,pa',bvs,bs,ws',nm,e,u',rfl,s5 _ _ h2,h3.mono fun _ _ z=>z.same s5,hok.bz,hok.bl,hpa5,hwl3,by first | exact aj3 he | exact he,hdok.2.1,hdok.1,fun p6 H6 s6 e6=>⟨p6,rfl,s6,e6⟩⟩
       · refine a24 w4 ?_
         walk_at "run"
         exact ⟨pa',rfl,Same.refl _,by rw [b22 w4]; exact hpa5⟩
     rintro σ' H6 ⟨pa6,rfl,s6,hpa6⟩
     have s56:=s5.trans s6
     walk_at "run"
     refine ⟨p,dx,_,rfl,s56 _ _ h1,ag9 _ _ _ (by decide +kernel) (by decide +kernel) (by decide +kernel),?_⟩
     walk_at "run"
     refine ⟨p,lk,pa6,_,bs,ns,f,d,stk',_,rfl,hG.same s56,hok,hmem,hut5.same s6,s6 _ _ hlk5,by omega,hpa6,ac7 hwl3,fun H7 H8 s7 e7 e8=>?_⟩
     subst e8
     rw [hPv]
     have hbl:=au4 (ns:=ns) (nm:=bs.map (·.1)) (ws:=d.vals2 bs ws') (stk:=stk') (d:=d)
     have hdl:=as0 d
     have tU:Tups H7 (upd H7 lk (.lst (a43 (behF ns (bs.map (·.1)) (d.vals2 bs ws') stk' d).2))):=Tups.upd e7
     exact ⟨m',by omega,_,_,_,_,pa6,_,_,rfl,(s56.trans s7).updNew hlk,by rw [a12 hll]; exact (s6.trans s7) _ _ hls5,a32,tU _ _ (s7 _ _ hpa6),ac7 hwl3,⟨y.1,hy,by rw [List.append_assoc]⟩,by omega,by rw [List.length_append]; omega⟩
noncomputable def waG (ns:List Nd) (bs:List (Str×Int)) (n:Nat) (x:StG) (br:List (List Pt×Nat)) (m:Nat) (e:Tr):Option (List Str×Option StG):=match weN br e with
 | some j=>grF ns bs n (some j) x.2.1 x.2.2.1
 | none=>if x.2.2.2=0 then some ([],some x) else if x.2.2.2=1 then grF ns bs n (some m) x.2.1 x.2.2.1 else some ([],some (x.1,x.2.1,x.2.2.1,x.2.2.2 - 1))
noncomputable def as1 (ns:List Nd) (bs:List (Str×Int)) (n:Nat):Option StG→Tr→Option (List Str×Option StG)
 | none,_=>some ([],none)
 | some x,e=>match ns[x.1]? with
   | some (.wait _ br m)=>waG ns bs n x br m e
   | _=>none
theorem al6 {ns:List Nd}{bs:List (Str×Int)}{n:Nat}{x:StG}{e:Tr}{y:List Str×Option StG}(h:as1 ns bs n (some x) e=some y):∃ l br m,ns[x.1]?=some (.wait l br m)∧waG ns bs n x br m e=some y:=by
 simp only [as1] at h
 split at h
 · rename_i l br m hs
   exact ⟨l,br,m,hs,h⟩
 · cases h
def b25 (K:PySem.W.Frag) (C:Addr):Sp:=fun vs H Q _=>∃ (p:Addr) (wv sv ev:V) (bs:List (Str×Int)) (ns:List Nd) (f:Nat) (x:StG) (l:Int) (br:List (List Pt×Nat)) (m:Nat) (e:Tr) (n:Nat) (sd:List Str) (r:Option StG),vs=[.ref p,wv,sv,ev]∧GmAt C H p bs ns f∧GrOk bs ns∧(Nd.wait l br m).tr.At H wv []∧SgAt H sv (some x)∧e.AtK K H ev∧e.h≤5∧x.2.2.1.length=bs.length∧x.2.1.length+n≤900000∧waG ns bs n x br m e=some (sd,r) ∧
 ∀ p' l v' H',Same H H'→H' p'=some (.tup [.ref l,v'])→H l=none→H' l=some (.lst (a35 sd))→SgAt H' v' r→Q (.ref p') H'
theorem aw6 (T:Txt K mg t):FnOk P w K mg base CX0 17 t.a_stepped t.fd_stepped ["machine","wait","standing","event"] (b25 K t.c_GraphMachine):=by
 have G_GraphMachine_gone_on:=a56 (P:=P) (w:=w) (base:=base) T
 have G_rested_on:=ap3 (P:=P) (w:=w) (base:=base) T
 have G_way_of_event:=ah3 (P:=P) (w:=w) (base:=base) T
 refine T.f_stepped.F.ok sc_stepped (fun vs H Q E h=>?_) (fun cdv A outer s H vs Q E hr h=>?_)
 · obtain ⟨p,wv,sv,ev,bs,ns,f,x,l,br,m,e,n,sd,r,rfl,_⟩:=h
   rfl
 · obtain ⟨p,wv,sv,ev,bs,ns,f,x,l,br,m,e,n,sd,r,rfl,hG,hok,hw,hs,he,heh,hwl,hsl,hst,q⟩:=h
   refine ⟨_,(@a01 _ _ _ _ _ (@a20 _ _ 4 _ _ _ _ sc_stepped.nd rfl (by walk_at "o") (@a08 _ _ _ _ _ _ _ _ _ _ _ _ _ _ _ _ G_way_of_event (hr.mono (by omega)) rfl T.f_way_of_event.m T.f_way_of_event.F.kp T.f_way_of_event.b .nil a28 (@a00 _ _ _ _ _ (@a14 _ _ _ _ _ _ _ (a06 K) (pv 1) (@a04 _ _ _ _) (fun _ _=>rfl)) (@a00 _ _ _ _ _ (pv 3) (@a02 _) (by rfl)) (by rfl)) (by decide) (by rfl) (by rfl)) (by rfl) (by walk_at "o"))
    (@a38 _ _ _ _ _ (@a33 _ _ _ _ _ _ _ _ (@a07 _ _ _ _ _ _ _ _ aa0 (pv 4) (@a51 _ _ _) (nomark _)) (@a01 _ _ _ _ _ (@a20 _ _ 5 _ _ _ _ sc_stepped.nd rfl (by walk_at "o") (@a08 _ _ _ _ _ _ _ _ _ _ _ _ _ _ _ _ G_rested_on (hr.mono (by omega)) rfl T.f_rested_on.m T.f_rested_on.F.kp T.f_rested_on.b .nil a28 (@a00 _ _ _ _ _ (pv 2) (@a02 _) (by rfl)) (by decide) (by rfl) (by rfl)) (by rfl) (by walk_at "o"))
     (@a01 _ _ _ _ _ (@a33 _ _ _ _ _ _ _ _ (@a07 _ _ _ _ _ _ _ _ at9 (pv 5) (@a51 _ _ _) (nomark _)) (@a05 _ _ _ (@a19 _ _ _ _ (@a23 _ _ _ _ _ (@a00 _ _ _ _ _ (@a31 _ _ _ _ (@a02 _)) (@a00 _ _ _ _ _ (pv 5) (@a02 _) (by rfl)) (by rfl))))) (@a18 _))
     (@a05 _ _ _ (@a20 _ _ 4 _ _ _ _ sc_stepped.nd rfl (by walk_at "o") (@a14 _ _ _ _ _ _ _ (a06 K) (pv 1) (@a04 _ _ _ _) (fun _ _=>rfl)) (by rfl) (by walk_at "o"))))) (@a18 _))
    (@a05 _ _ _ (@a19 _ _ _ _ (a93 (pv 0) T.cl_GraphMachine T.f_GraphMachine_gone_on.M G_GraphMachine_gone_on (hr.mono (by omega)) T.f_GraphMachine_gone_on.b .nil a28 (@a00 _ _ _ _ _ (pv 4) (@a00 _ _ _ _ _ (@a14 _ _ _ _ _ _ _ (a06 K) (pv 2) (@a04 _ _ _ _) (fun _ _=>rfl)) (@a00 _ _ _ _ _ (@a14 _ _ _ _ _ _ _ (a06 K) (pv 2) (@a04 _ _ _ _) (fun _ _=>rfl)) (@a02 _) (by rfl)) (by rfl)) (by rfl))))))),?_⟩
   obtain ⟨dx,bl,nl,bvs,un,h1,h2,h3,h4,h5⟩:=hG.ex
   obtain ⟨wa,vs,rfl,hwa,hat⟩:=at_tup0.mp hw
   obtain ⟨v1,u1,rfl,j1,hat⟩:=ats_cons0.mp hat
   obtain ⟨v2,u2,rfl,j2,hat⟩:=ats_cons0.mp hat
   obtain ⟨v3,u3,rfl,j3,hat⟩:=ats_cons0.mp hat
   obtain ⟨v4,u4,rfl,j4,hat⟩:=ats_cons0.mp hat
   obtain rfl:=at_int0.mp j4
   obtain ⟨k,stk,ws,lf⟩:=x
   obtain ⟨sa,ps,pa,rfl,hsa,i1,i2⟩:=hs
   dsimp only at hwl hsl
   walk_at "go"
   refine a22 (SqT.of hwa) (a03 (j:=2) rfl) ?_
   walk_at "run"
   refine ⟨v3,ev,br,e,rfl,j3,he,heh,?_⟩
   walk_at "run"
   refine a62 (fun σ' H'=>∃ (j:Nat) (y:Option V),σ'=[some (.ref p),some (.ref wa),some (.ref sa),some ev,some (.int (j:Nat)),y]∧H=H'∧grF ns bs n (some j) stk ws=some (sd,r)) ?_ ?_
   · walk_at "run"
     unfold waG at hst
     cases hwe:weN br e with
     | some j =>
       rw [hwe] at hst
       refine a24 (fun z=>nomatch z) ?_
       walk_at "run"
       exact ⟨j,_,rfl,rfl,hst⟩
     | none =>
       rw [hwe] at hst
       refine a26 rfl ?_
       walk_at "run"
       dsimp only at hst
       refine ⟨sa,_,_,_,lf,rfl,hsa,fun l0=>?_,fun l1=>?_,fun l0 l1=>?_⟩
       · rw [if_pos l0] at hst
         injection hst with hst
         injection hst with z1 z2
         subst z1 z2
         walk_at "run"
         refine aj2 (fun z=>nomatch z) ?_
         walk_at "run"
         intro p6 H6 f6 s6 e6
         walk_at "run"
         intro p7 H7 f7 s7 e7
         exact q p7 p6 _ H7 (s6.trans s7) e7 f6 (s7 _ _ e6) ⟨sa,ps,pa,rfl,(s6.trans s7) _ _ hsa,(s6.trans s7) _ _ i1,(s6.trans s7) _ _ i2⟩
       · rw [if_neg (by omega),if_pos l1] at hst
         walk_at "run"
         refine ao2 rfl ?_
         walk_at "run"
         refine a22 (SqT.of hwa) (a03 (j:=3) rfl) ?_
         exact ⟨m,_,rfl,rfl,hst⟩
       · rw [if_neg l0,if_neg l1] at hst
         injection hst with hst
         injection hst with z1 z2
         subst z1 z2
         intro p5 H5 f5 s5 e5
         walk_at "run"
         refine aj2 (fun z=>nomatch z) ?_
         walk_at "run"
         intro p6 H6 f6 s6 e6
         walk_at "run"
         intro p7 H7 f7 s7 e7
         have s57:=s5.trans (s6.trans s7)
         exact q p7 p6 _ H7 s57 e7 (s5.free f6) (s7 _ _ e6) ⟨p5,ps,pa,rfl,(s6.trans s7) _ _ e5,s57 _ _ i1,s57 _ _ i2⟩
   rintro σ' H' ⟨j,y,rfl,rfl,hgo⟩
   walk_at "run"
   refine ⟨p,dx,_,rfl,h1,ag9 _ _ _ (by decide +kernel) (by decide +kernel) (by decide +kernel),?_⟩
   walk_at "run"
   refine a22 (SqT.of hsa) (a03 (j:=1) rfl) ?_
   walk_at "run"
   refine a22 (SqT.of hsa) (a03 (j:=2) rfl) ?_
   walk_at "run"
   exact ⟨p,ps,pa,bs,ns,f,some j,stk,ws,n,sd,r,rfl,hG,hok,i1,i2,hwl,hgo,hsl,q⟩
def bf5 (K:PySem.W.Frag) (C:Addr):Sp:=fun vs H Q _=>∃ (p:Addr) (bs:List (Str×Int)) (ns:List Nd) (f n:Nat) (sd:List Str) (r:Option StG),vs=[.ref p]∧GmAt C H p bs ns f∧GrOk bs ns∧n≤900000∧grF ns bs n (some f) [] (List.replicate bs.length 0)=some (sd,r) ∧
 ∀ p' l v' H',Same H H'→H' p'=some (.tup [.ref l,v'])→H l=none→H' l=some (.lst (a35 sd))→SgAt H' v' r→Q (.ref p') H'
theorem aa5 (T:Txt K mg t):FnOk P w K mg base CX0 18 t.a_GraphMachine_begin t.fd_GraphMachine_begin ["self"] (bf5 K t.c_GraphMachine):=by
 have G_GraphMachine_gone_on:=a56 (P:=P) (w:=w) (base:=base) T
 have G_first_values:=ah2 (P:=P) (w:=w) (base:=base) T
 refine T.f_GraphMachine_begin.F.ok aa4 (fun vs H Q E h=>?_) (fun cdv A outer s H vs Q E hr h=>?_)
 · obtain ⟨p,bs,ns,f,n,sd,r,rfl,_⟩:=h
   rfl
 · obtain ⟨p,bs,ns,f,n,sd,r,rfl,hG,hok,hn,hgo,q⟩:=h
   refine ⟨_,(@a05 _ _ _ (@a19 _ _ _ _ (a93 (pv 0) T.cl_GraphMachine T.f_GraphMachine_gone_on.M G_GraphMachine_gone_on (hr.mono (by omega)) T.f_GraphMachine_gone_on.b .nil a28 (@a00 _ _ _ _ _ (ab8 K (pv 0) rfl) (@a00 _ _ _ _ _ (@a23 _ _ _ _ _ (@a02 _)) (@a00 _ _ _ _ _ (@a08 _ _ _ _ _ _ _ _ _ _ _ _ _ _ _ _ G_first_values (hr.mono (by omega)) rfl T.f_first_values.m T.f_first_values.F.kp T.f_first_values.b .nil a28 (@a00 _ _ _ _ _ (ab8 K (pv 0) rfl) (@a02 _) (by rfl)) (by decide) (by rfl) (by rfl)) (@a02 _) (by rfl)) (by rfl)) (by rfl))))),?_⟩
   obtain ⟨dx,bl,nl,bvs,un,h1,h2,h3,h4,h5⟩:=hG.ex
   walk_at "go"
   refine ⟨p,dx,_,rfl,h1,ag9 _ _ _ (by decide +kernel) (by decide +kernel) (by decide +kernel),?_⟩
   walk_at "run"
   refine ⟨p,_,dx,_,_,rfl,h1,T.cl_GraphMachine,T.n_GraphMachine_first,b15 _ _ _,?_⟩
   walk_at "run"
   intro p2 H2 f2 s2 e2
   walk_at "run"
   refine ⟨p,_,dx,_,_,rfl,s2 _ _ h1,T.cl_GraphMachine,T.n_GraphMachine_boxes,ag7 _ _ _,?_⟩
   walk_at "run"
   refine ⟨bl,bvs,rfl,s2 _ _ h2,by have:=h3.1; have:=hok.bl; omega,fun p3 H3 s3 e3=>?_⟩
   walk_at "run"
   have s13:=s2.trans s3
   rw [h3.1] at e3
   exact ⟨p,p2,p3,bs,ns,f,some f,[],_,n,sd,r,rfl,hG.same s13,hok,s3 _ _ e2,e3,by simp,hgo,by simpa using hn,fun p6 l6 v6 H6 s6 e1 e2 e3 e4=>q p6 l6 v6 H6 (s13.trans s6) e1 (s13.free e2) e3 e4⟩
def b73 (K:PySem.W.Frag) (C:Addr):Sp:=fun vs H Q _=>∃ (p:Addr) (sv ev:V) (bs:List (Str×Int)) (ns:List Nd) (f:Nat) (r0:Option StG) (e:Tr) (n:Nat) (sd:List Str) (r:Option StG),vs=[.ref p,sv,ev]∧GmAt C H p bs ns f∧GrOk bs ns∧SgAt H sv r0∧e.AtK K H ev∧e.h≤5∧(∀ x,r0=some x→x.2.2.1.length=bs.length∧x.2.1.length+n≤900000)∧as1 ns bs n r0 e=some (sd,r) ∧
 ∀ p' l v' H',Same H H'→H' p'=some (.tup [.ref l,v'])→H l=none→H' l=some (.lst (a35 sd))→SgAt H' v' r→Q (.ref p') H'
theorem ab1 (T:Txt K mg t):FnOk P w K mg base CX0 18 t.a_GraphMachine_step t.fd_GraphMachine_step ["self","standing","event"] (b73 K t.c_GraphMachine):=by
 have G_stepped:=aw6 (P:=P) (w:=w) (base:=base) T
 refine T.f_GraphMachine_step.F.ok aa9 (fun vs H Q E h=>?_) (fun cdv A outer s H vs Q E hr h=>?_)
 · obtain ⟨p,sv,ev,bs,ns,f,r0,e,n,sd,r,rfl,_⟩:=h
   rfl
 · obtain ⟨p,sv,ev,bs,ns,f,r0,e,n,sd,r,rfl,hG,hok,hs,he,heh,hb,hst,q⟩:=h
   refine ⟨_,(@a01 _ _ _ _ _ (@a33 _ _ _ _ _ _ _ _ (@a07 _ _ _ _ _ _ _ _ aa0 (pv 1) (@a51 _ _ _) (nomark _)) (@a05 _ _ _ (@a19 _ _ _ _ (@a23 _ _ _ _ _ (@a00 _ _ _ _ _ (@a31 _ _ _ _ (@a02 _)) (@a00 _ _ _ _ _ (@a51 _ _ _) (@a02 _) (by rfl)) (by rfl))))) (@a18 _))
    (@a05 _ _ _ (@a19 _ _ _ _ (@a08 _ _ _ _ _ _ _ _ _ _ _ _ _ _ _ _ G_stepped (hr.mono (by omega)) rfl T.f_stepped.m T.f_stepped.F.kp T.f_stepped.b .nil a28 (@a00 _ _ _ _ _ (pv 0) (@a00 _ _ _ _ _ (@a14 _ _ _ _ _ _ _ (a29 K) (ab8 K (pv 0) rfl) (@a14 _ _ _ _ _ _ _ (a06 K) (pv 1) (@a04 _ _ _ _) (fun _ _=>rfl)) (fun _ _=>rfl)) (@a00 _ _ _ _ _ (pv 1) (@a00 _ _ _ _ _ (pv 2) (@a02 _) (by rfl)) (by rfl)) (by rfl)) (by rfl)) (by decide) (by rfl) (by rfl))))),?_⟩
   obtain ⟨dx,bl,nl,bvs,un,h1,h2,h3,h4,h5⟩:=hG.ex
   walk_at "go"
   cases r0 with
   | none =>
     obtain rfl:sv=.non:=hs
     injection hst with hst
     injection hst with z1 z2
     subst z1 z2
     refine a26 rfl ?_
     walk_at "run"
     intro p6 H6 f6 s6 e6
     walk_at "run"
     intro p7 H7 f7 s7 e7
     exact q p7 p6 _ H7 (s6.trans s7) e7 f6 (s7 _ _ e6) rfl
   | some x =>
     obtain ⟨b1,b2⟩:=hb _ rfl
     obtain ⟨l,br,m,hw,hm⟩:=al6 hst
     have hs0:=hs
     obtain ⟨k,stk,ws,lf⟩:=x
     obtain ⟨sa,ps,pa,rfl,hsa,i1,i2⟩:=hs
     dsimp only at hw
     have hul:un.length=ns.length:=by rw [h5.len,List.length_map]
     obtain ⟨u,hu⟩:∃ u,un[k]?=some u:=⟨_,List.getElem?_eq_getElem (by have:=(List.getElem?_eq_some_iff.mp hw).1; omega)⟩
     have hut:(Nd.wait l br m).tr.At H u []:=by
      obtain ⟨t,ht,hxt⟩:=a63 h5 hu
      rw [List.getElem?_map,hw] at ht
      rw [← Option.some.inj ht] at hxt
      exact hxt
     refine a24 (fun z=>nomatch z) ?_
     walk_at "run"
     refine ⟨p,_,dx,_,_,rfl,h1,T.cl_GraphMachine,T.n_GraphMachine_nodes,ag8 _ _ _,?_⟩
     walk_at "run"
     refine a22 (SqT.of hsa) (a03 (j:=0) rfl) ?_
     walk_at "run"
     refine a45 (SqL.of h4) (a03 hu) ?_
     walk_at "run"
     exact ⟨p,u,_,ev,bs,ns,f,(k,stk,ws,lf),l,br,m,e,n,sd,r,rfl,hG,hok,hut,hs0,he,heh,b1,b2,hm,q⟩
def b74 (K:PySem.W.Frag):Sp:=fun vs H Q _=>∃ (u sv:V) (r:Option StG),vs=[u,sv]∧SgAt H sv r∧Q (.bl r.isNone) H
theorem ab2 (T:Txt K mg t):FnOk P w K mg base CX0 1 t.a_GraphMachine_over t.fd_GraphMachine_over ["self","standing"] (b74 K):=by
 refine T.f_GraphMachine_over.F.ok ab0 (fun vs H Q E h=>?_) (fun cdv A outer s H vs Q E hr h=>?_)
 · obtain ⟨u,sv,r,rfl,_⟩:=h
   rfl
 · obtain ⟨u,sv,r,rfl,hs,q⟩:=h
   refine ⟨_,(@a05 _ _ _ (@a19 _ _ _ _ (@a52 _ _ _ _ _ _ _ _ aa0 (pv 1) (@a51 _ _ _) (nomark _)))),?_⟩
   walk_at "go"
   cases r with
   | none =>
     obtain rfl:sv=.non:=hs
     exact q
   | some x =>
     obtain ⟨k,stk,ws,lf⟩:=x
     obtain ⟨sa,ps,pa,rfl,hsa,i1,i2⟩:=hs
     exact q
def bf6 (K:PySem.W.Frag):Sp:=fun vs H Q _=>∃ (u sv:V) (r:Option StG),vs=[u,sv]∧SgAt H sv r∧∀ pa H',Same H H'→H' pa=some (.tup (match r with | none=>[] | some x=>x.2.2.1.map V.int))→(∀ x,r=some x→∃ q v0 v1 l,sv=.ref q∧H q=some (.tup [v0,v1,.ref pa,l]))→Q (.ref pa) H'
theorem a91 (T:Txt K mg t):FnOk P w K mg base CX0 1 t.a_GraphMachine_values t.fd_GraphMachine_values ["self","standing"] (bf6 K):=by
 refine T.f_GraphMachine_values.F.ok a90 (fun vs H Q E h=>?_) (fun cdv A outer s H vs Q E hr h=>?_)
 · obtain ⟨u,sv,r,rfl,_⟩:=h
   rfl
 · obtain ⟨u,sv,r,rfl,hs,q⟩:=h
   refine ⟨_,(@a01 _ _ _ _ _ (@a33 _ _ _ _ _ _ _ _ (@a07 _ _ _ _ _ _ _ _ aa0 (pv 1) (@a51 _ _ _) (nomark _)) (@a05 _ _ _ (@a19 _ _ _ _ (@a23 _ _ _ _ _ (@a02 _)))) (@a18 _))
    (@a05 _ _ _ (@a19 _ _ _ _ (@a14 _ _ _ _ _ _ _ (a06 K) (pv 1) (@a04 _ _ _ _) (fun _ _=>rfl))))),?_⟩
   walk_at "go"
   cases r with
   | none =>
     obtain rfl:sv=.non:=hs
     refine a26 rfl ?_
     walk_at "run"
     intro p1 H1 f1 s1 e1
     exact q p1 H1 s1 e1 (fun x z=>by cases z)
   | some x =>
     obtain ⟨k,stk,ws,lf⟩:=x
     obtain ⟨sa,ps,pa,rfl,hsa,i1,i2⟩:=hs
     refine a24 (fun z=>nomatch z) ?_
     walk_at "run"
     exact a22 (SqT.of hsa) (a03 (j:=2) rfl) (q pa H (Same.refl _) i2 fun x _=>⟨sa,_,_,_,rfl,hsa⟩)
def bf7 (K:PySem.W.Frag) (C:Addr):Sp:=fun vs H Q _=>∃ (p dx g bl nl:Addr) (bvs un:List V) (bs:List (Str×Int)) (ns:List Nd) (f:Nat),vs=[.ref p,.ref g]∧H p=some (.ins C dx [])∧H g=some (.tup [.ref bl,.ref nl,.int (f:Nat)])∧H bl=some (.lst bvs)∧Each (BxAt H) bvs bs∧H nl=some (.lst un)∧Tr.Ats H (ns.map Nd.tr) un [] ∧
 ∀ dx' bl' nl' H',H bl'=none→H nl'=none→H' p=some (.ins C dx' (gmS (.ref bl') (.ref nl') (.int (f:Nat))))→H' bl'=some (.lst bvs)→H' nl'=some (.lst un)→(∀ x o,H x=some o→x≠p→H' x=some o)→Q .non H'
theorem a78 (T:Txt K mg t):FnOk P w K mg base CX0 1 t.a_GraphMachine___init__ t.fd_GraphMachine___init__ ["self","graph"] (bf7 K t.c_GraphMachine):=by
 refine T.f_GraphMachine___init__.F.ok a77 (fun vs H Q E h=>?_) (fun cdv A outer s H vs Q E hr h=>?_)
 · obtain ⟨p,dx,g,bl,nl,bvs,un,bs,ns,f,rfl,_⟩:=h
   rfl
 · obtain ⟨p,dx,g,bl,nl,bvs,un,bs,ns,f,rfl,hp,hg,hbl,hbs,hnl,hun,q⟩:=h
   refine ⟨_,(@a01 _ _ _ _ _ (ar8 K (pv 0) (@a34 _ _ _ _ _ _ _ _ _ (a84 K) (by rfl) T.z_list a99 (@a00 _ _ _ _ _ (@a14 _ _ _ _ _ _ _ (a06 K) (pv 1) (@a04 _ _ _ _) (fun _ _=>rfl)) (@a02 _) (by rfl)) (by decide) (by decide) (by rfl) (by rfl)) rfl)
    (@a01 _ _ _ _ _ (ar8 K (pv 0) (@a34 _ _ _ _ _ _ _ _ _ (a84 K) (by rfl) T.z_list a99 (@a00 _ _ _ _ _ (@a14 _ _ _ _ _ _ _ (a06 K) (pv 1) (@a04 _ _ _ _) (fun _ _=>rfl)) (@a02 _) (by rfl)) (by decide) (by decide) (by rfl) (by rfl)) rfl)
    (@a05 _ _ _ (ar8 K (pv 0) (@a14 _ _ _ _ _ _ _ (a06 K) (pv 1) (@a04 _ _ _ _) (fun _ _=>rfl)) rfl)))),?_⟩
   have np:∀ {x:Addr}{o:HO},H x=some o→(∀ C dx fs,o≠.ins C dx fs)→x≠p:=fun e z=>aj5 e hp (z _ _ _)
   have ng:=np hg (fun _ _ _ z=>nomatch z)
   have nnl:=np hnl (fun _ _ _ z=>nomatch z)
   walk_at "go"
   refine a22 (SqT.of hg) (a03 (j:=0) rfl) ?_
   walk_at "run"
   refine al0 (SqL.of hbl) ?_
   intro b1 H1 f1 s1 e1
   walk_at "run"
   refine ⟨p,_,dx,_,rfl,s1 _ _ hp,T.cl_GraphMachine,T.n_GraphMachine_boxes,by decide,?_⟩
   walk_at "run"
   have hb1:b1≠p:=(a27 hp f1).symm
   refine a22 (SqT.of (show upd H1 p _ g=some (.tup _) by rw [a12 ng]; exact s1 _ _ hg)) (a03 (j:=1) rfl) ?_
   walk_at "run"
   refine al0 (SqL.of (show upd H1 p _ nl=some (.lst un) by rw [a12 nnl]; exact s1 _ _ hnl)) ?_
   intro n1 H2 f2 s2 e2
   have ep:=s2 p _ a32
   have hn1:n1≠p:=fun z=>by rw [z,a32] at f2; cases f2
   have eb1:=s2 b1 _ (by rw [a12 hb1]; exact e1)
   have eg:=s2 g _ (by rw [a12 ng]; exact s1 _ _ hg)
   have fn1:H n1=none:=by
    rw [a12 hn1] at f2
    exact s1.free f2
   have k2:∀ x o,H x=some o→x≠p→H2 x=some o:=fun x o e z=>s2 _ _ (by rw [a12 z]; exact s1 _ _ e)
   walk_at "run"
   refine ⟨p,_,dx,_,rfl,ep,T.cl_GraphMachine,T.n_GraphMachine_nodes,(by have h1:=a64 "boxes" (V.ref b1) []; rw [List.length_nil] at h1; omega),?_⟩
   walk_at "run"
   refine a22 (SqT.of (show upd H2 p _ g=some (.tup _) by rw [a12 ng]; exact eg)) (a03 (j:=2) rfl) ?_
   walk_at "run"
   refine ⟨p,_,dx,_,rfl,a32,T.cl_GraphMachine,T.n_GraphMachine_first,(by have h1:=a64 "boxes" (V.ref b1) []; have h2:=a64 "nodes" (V.ref n1) (putF "boxes" (V.ref b1) []); rw [List.length_nil] at h1; omega),?_⟩
   exact q dx b1 n1 _ f1 fn1 a32 (by rw [a12 hb1,a12 hb1]; exact eb1) (by rw [a12 hn1,a12 hn1]; exact e2) fun x o e hx=>by rw [a12 hx,a12 hx]; exact k2 x o e hx
structure Dh (H:Hp) (d l:Addr):Prop where
 ex:∃ (ms:List Int) (c:Int),H d=some (.lst [.ref l,.int c])∧H l=some (.lst (ms.map V.int))∧ms.length≤100
theorem Dh.ne {H:Hp}{d l:Addr}(k:Dh H d l):d≠l:=by
 obtain ⟨ms,c,h1,h2,_⟩:=k.ex
 rintro rfl
 rw [h1] at h2
 injection h2 with h2
 injection h2 with h2
 cases ms with
 | nil=>simp at h2
 | cons m ms=>simp at h2
theorem Dh.same {H H':Hp}{d l:Addr}(k:Dh H d l) (s:Same H H'):Dh H' d l:=by
 obtain ⟨ms,c,h1,h2,h3⟩:=k.ex
 exact ⟨ms,c,s _ _ h1,s _ _ h2,h3⟩
theorem Dh.tups {H H':Hp}{d l:Addr}(k:Dh H d l) (f:Off d l H H'):Tups H H':=fun b ys e=>by
 obtain ⟨ms,c,h1,h2,_⟩:=k.ex
 exact f b _ (aj5 e h1 (fun z=>nomatch z)) (aj5 e h2 (fun z=>nomatch z)) e
theorem Dh.new {H:Hp}{d l p:Addr}(k:Dh H d l) (h:H p=none):p≠d∧p≠l:=by
 obtain ⟨ms,c,h1,h2,_⟩:=k.ex
 exact ⟨(a27 h1 h).symm,(a27 h2 h).symm⟩
theorem Dh.free {d l p:Addr}{H H':Hp}(k:Dh H' d l) (f:Off d l H H') (h:H' p=none):H p=none:=by
 obtain ⟨x1,x2⟩:=k.new h
 cases e:H p with
 | none=>rfl
 | some o=>rw [f p o x1 x2 e] at h; cases h
def bf8 (K:PySem.W.Frag):Sp:=fun vs H Q _=>∃ (a:Addr) (ns:List Int) (k:Nat),vs=[.ref a,.int (k:Nat)]∧SqL K H a (ns.map V.int)∧∀ z:Int,Q (.int z) H
theorem ah8 (T:Txt K mg t):FnOk P w K mg base CX0 1 t.a__law_cell_at t.fd__law_cell_at ["script","k"] (bf8 K):=by
 refine T.f__law_cell_at.F.ok ah7 (fun vs H Q E h=>?_) (fun cdv A outer s H vs Q E hr h=>?_)
 · obtain ⟨a,ns,k,rfl,_⟩:=h
   rfl
 · obtain ⟨a,ns,k,rfl,hS,q⟩:=h
   refine ⟨_,(@a01 _ _ _ _ _ (@a33 _ _ _ _ _ _ _ _ (@a07 _ _ _ _ _ _ _ _ aq6 (pv 1) (@a46 _ _ _ _ _ _ _ _ _ (a97 K) (by rfl) T.z_len ad7 (@a00 _ _ _ _ _ (pv 0) (@a02 _) (by rfl)) (by decide) (by decide) (by rfl) (by rfl)) (nomark _)) (@a05 _ _ _ (@a19 _ _ _ _ (@a14 _ _ _ _ _ _ _ (a29 K) (pv 0) (pv 1) (fun _ _=>rfl)))) (@a18 _))
    (@a05 _ _ _ (@a19 _ _ _ _ (@a04 _ _ _ _)))),?_⟩
   walk_at "go"
   refine ag1 hS ?_
   walk_at "run"
   rw [List.length_map]
   by_cases hk:k<ns.length
   · refine a26 (by omega) ?_
     walk_at "run"
     exact a45 hS (a03 (j:=k) (v:=.int ns[k]) (by simp [hk])) (q _)
   · refine a24 (by omega) ?_
     walk_at "run"
     exact q 0
def bp5:Sp:=fun vs H Q _=>∃ (c:Int) (k:Nat),vs=[.int c,.int (k:Nat)]∧k≤100∧∀ r:Int,Bd 61 r→Q (.int r) H
theorem b26 (c:Int):Bd 61 (c % 2305843009213693951):=by
 have a1:=Int.emod_nonneg c (show (2305843009213693951:Int)≠0 by decide)
 have a2:=Int.emod_lt_of_pos c (show (0:Int)<2305843009213693951 by decide)
 refine Bd.of a1 ?_
 have e2:(2:Int) ^ 61=2305843009213693952:=by decide
 rw [e2]
 omega
theorem ap6 (T:Txt K mg t):FnOk P w K mg base CX0 1 t.a__law_mixed t.fd__law_mixed ["cell","k"] bp5:=by
 refine T.f__law_mixed.F.ok sc_law_mixed (fun vs H Q E h=>?_) (fun cdv A outer s H vs Q E hr h=>?_)
 · obtain ⟨c,k,rfl,_⟩:=h
   rfl
 · obtain ⟨c,k,rfl,hk,q⟩:=h
   refine ⟨_,(@a01 _ _ _ _ _ (@a20 _ _ 2 _ _ _ _ sc_law_mixed.nd rfl (by walk_at "o") (@a40 _ _ _ _ _ _ _ _ ac1 (@a40 _ _ _ _ _ _ _ _ ac5 (@a40 _ _ _ _ _ _ _ _ a47 (@a40 _ _ _ _ _ _ _ _ a47 (@a40 _ _ _ _ _ _ _ _ ac1 (pv 0) (@a40 _ _ _ _ _ _ _ _ bh8 (@a04 _ _ _ _) (@a04 _ _ _ _))) (@a40 _ _ _ _ _ _ _ _ ac5 (@a04 _ _ _ _) (pv 1))) (@a04 _ _ _ _)) (@a04 _ _ _ _)) (@a04 _ _ _ _)) (by rfl) (by walk_at "o"))
    (@a01 _ _ _ _ _ (@a20 _ _ 2 _ _ _ _ sc_law_mixed.nd rfl (by walk_at "o") (@a40 _ _ _ _ _ _ _ _ ac1 (@a40 _ _ _ _ _ _ _ _ ac5 (pv 2) (pv 2)) (@a04 _ _ _ _)) (by rfl) (by walk_at "o"))
    (@a05 _ _ _ (@a19 _ _ _ _ (@a40 _ _ _ _ _ _ _ _ ac1 (@a40 _ _ _ _ _ _ _ _ ac5 (pv 2) (@a04 _ _ _ _)) (@a04 _ _ _ _)))))),?_⟩
   walk_at "go"
   refine ak9 (Bd.big (b26 _) (b26 _)) ?_
   walk_at "run"
   exact q _ (b26 _)
def bf9 (K:PySem.W.Frag):Sp:=fun vs H Q _=>∃ (a:Addr) (ns:List Int),vs=[.ref a]∧SqL K H a (ns.map V.int)∧ns.length≤63∧∀ d l H',H d=none→H l=none→Same H H'→Dh H' d l→Q (.ref d) H'
theorem as2 (T:Txt K mg t):FnOk P w K mg base CX0 2 t.a__law_deck t.fd__law_deck ["script"] (bf9 K):=by
 have G__law_cell_at:=ah8 (P:=P) (w:=w) (base:=base) T
 have G__law_mixed:=ap6 (P:=P) (w:=w) (base:=base) T
 refine T.f__law_deck.F.ok sc_law_deck (fun vs H Q E h=>?_) (fun cdv A outer s H vs Q E hr h=>?_)
 · obtain ⟨a,ns,rfl,_⟩:=h
   rfl
 · obtain ⟨a,ns,rfl,hS,hnl,q⟩:=h
   refine ⟨_,(@a01 _ _ _ _ _ (@a20 _ _ 1 _ _ _ _ sc_law_deck.nd rfl (by walk_at "o") (@a31 _ _ _ _ (@a02 _)) (by rfl) (by walk_at "o"))
    (@a01 _ _ _ _ _ (@ai2 _ _ _ _ _ _ _ _ PassesOwn.never rfl (bo6 K rfl T.z_reversed (@a00 _ _ _ _ _ (@at6 _ _ _ _ _ _ _ _ _ _ (at8 K) (pv 0) (@aq7 _ _ _ (@a04 _ _ _ _)) (@aq7 _ _ _ (@a04 _ _ _ _))) (@a02 _) (by rfl))) (a36 (i:=2) sc_law_deck.nd rfl (by walk_at "o")) (@a01 _ _ _ _ _ (@a20 _ _ 3 _ _ _ _ sc_law_deck.nd rfl (by walk_at "o") (@a46 _ _ _ _ _ _ _ _ _ b41 (by rfl) T.z_abs bk5 (@a00 _ _ _ _ _ (pv 2) (@a02 _) (by rfl)) (by decide) (by decide) (by rfl) (by rfl)) (by rfl) (by walk_at "o"))
     (@a38 _ _ _ _ _ (@a33 _ _ _ _ _ _ _ _ (@a07 _ _ _ _ _ _ _ _ a41 (@a40 _ _ _ _ _ _ _ _ ac1 (@a08 _ _ _ _ _ _ _ _ _ _ _ _ _ _ _ _ G__law_cell_at (hr.mono (by omega)) rfl T.f__law_cell_at.m T.f__law_cell_at.F.kp T.f__law_cell_at.b .nil a28 (@a00 _ _ _ _ _ (pv 0) (@a00 _ _ _ _ _ (@a04 _ _ _ _) (@a02 _) (by rfl)) (by rfl)) (by decide) (by rfl) (by rfl)) (@a04 _ _ _ _)) (@a04 _ _ _ _) (nomark _)) (@a01 _ _ _ _ _ (@a20 _ _ 3 _ _ _ _ sc_law_deck.nd rfl (by walk_at "o") (@a04 _ _ _ _) (by rfl) (by walk_at "o"))
      (@a05 _ _ _ (@ai2 _ _ _ _ _ _ _ _ PassesOwn.never rfl (ab9 rfl T.z_range (@a00 _ _ _ _ _ (@a04 _ _ _ _) (@a02 _) (by rfl))) (a36 (i:=4) sc_law_deck.nd rfl (by walk_at "o")) (@a05 _ _ _ (@a20 _ _ 3 _ _ _ _ sc_law_deck.nd rfl (by walk_at "o") (@a40 _ _ _ _ _ _ _ _ a47 (@a40 _ _ _ _ _ _ _ _ ac5 (pv 3) (@a04 _ _ _ _)) (@a08 _ _ _ _ _ _ _ _ _ _ _ _ _ _ _ _ G__law_mixed (hr.mono (by omega)) rfl T.f__law_mixed.m T.f__law_mixed.F.kp T.f__law_mixed.b .nil a28 (@a00 _ _ _ _ _ (pv 2) (@a00 _ _ _ _ _ (pv 4) (@a02 _) (by rfl)) (by rfl)) (by decide) (by rfl) (by rfl))) (by rfl) (by walk_at "o"))) (by intro _; rfl)))) (@a18 _))
     (@a05 _ _ _ (@a60 _ _ _ _ (@a74 _ K _ _ _ _ _ _ _ _ _ _ _ PySem.F.plainAttrs_list PySem.F.slot_list_append PySem.F.type_list_append a50 (pv 1) (@a00 _ _ _ _ _ (pv 3) (@a02 _) (by rfl)) (by rfl) (by rfl) (by rfl) (by rfl) (by rfl) (by rfl)) (by rfl))))) (by intro _; rfl))
    (@a05 _ _ _ (@a19 _ _ _ _ (@a31 _ _ _ _ (@a00 _ _ _ _ _ (pv 1) (@a00 _ _ _ _ _ (@a04 _ _ _ _) (@a02 _) (by rfl)) (by rfl))))))),?_⟩
   have sl:(1000000:Nat)≤sizeLine:=le_line (Nat.le_refl _)
   walk_at "go"
   intro l H1 f1 s1 e1
   walk_at "run"
   refine bm2 (s1.seq hS) ?_
   intro p2 H2 f2 s2 e2
   walk_at "run"
   have hcl:=ae7 (ns.map V.int) (some 1) (some 62)
   rw [List.length_map] at hcl
   have hci:∀ {i:Nat}{x:V},(cutV (ns.map V.int) (some 1) (some 62))[i]?=some x→∃ z,x=.int z:=fun {i x} h=>by
    obtain ⟨z,_,hz⟩:=List.mem_map.mp (List.mem_of_mem_drop (List.mem_of_mem_take (List.mem_of_getElem? h)))
    exact ⟨z,hz.symm⟩
   refine ⟨p2,_,rfl,SqL.of e2,?_⟩
   refine be8 (K:=K) (a:=p2) (xs:=cutV (ns.map V.int) (some 1) (some 62)) (fun i σ H'=>∃ (ms:List Int) (y1 y2 y3:Option V),σ=[some (.ref a),some (.ref l),y1,y2,y3]∧Same H H'∧H' p2=some (.lst (cutV (ns.map V.int) (some 1) (some 62)))∧p2≠l∧H' l=some (.lst (ms.map V.int))∧ms.length=i) ⟨[],_,_,_,rfl,s1.trans s2,e2,(fun z=>by rw [z,e1] at f2; cases f2),s2 _ _ e1,rfl⟩ (fun i σ H' _ zz=>by obtain ⟨_,_,_,_,_,_,e,_⟩:=zz; exact SqL.of e) ?_ ?_
   · rintro i x σ H3 hi hx ⟨ms,y1,y2,y3,rfl,s3,e3,hne,e4,hml⟩
     obtain ⟨z,rfl⟩:=hci hx
     walk_at "run"
     refine a62 (fun σ' H'=>∃ (n:Int) (y3:Option V),σ'=[some (.ref a),some (.ref l),some (.int z),some (.int n),y3]∧H3=H') ?_ ?_
     · walk_at "run"
       refine ⟨a,ns,0,rfl,s3.seq hS,fun w'=>?_⟩
       walk_at "run"
       by_cases hc:w' % 2=1
       · refine a26 hc ?_
         walk_at "run"
         refine ac0 (lo:=0) (n:=5) (fun k σ H'=>∃ (n:Int) (y3:Option V),σ=[some (.ref a),some (.ref l),some (.int z),some (.int n),y3]∧H3=H'∧Bd (62*k+2) n) ⟨1,_,rfl,rfl,by unfold Bd; decide⟩ ?_ ?_
         · rintro k σ H4 hk ⟨n,y3,rfl,rfl,hb⟩
           rw [Int.zero_add]
           walk_at "run"
           refine ⟨z,k,rfl,by omega,fun r hr=>?_⟩
           walk_at "run"
           have hb2:=hb.mul (show Bd 61 2305843009213693951 by unfold Bd; decide)
           have hb3:=hb2.add (hr.mono (by omega))
           exact ⟨_,_,rfl,rfl,hb3.mono (by omega)⟩
         · rintro σ H4 ⟨n,y3,rfl,rfl,_⟩
           exact ⟨n,y3,rfl,rfl⟩
       · refine a24 hc ?_
         walk_at "run"
         exact ⟨_,_,rfl,rfl⟩
     · rintro σ' H' ⟨n,y3,rfl,rfl⟩
       walk_at "run"
       refine a89 (SqL.of e4) ?_
       walk_at "run"
       refine a58 e4 (by simp only [List.length_map]; omega) ?_
       exact ⟨ms++[n],_,_,_,rfl,s3.updNew f1,by rw [a12 hne]; exact e3,hne,by rw [a32]; simp,by simp [hml]⟩
   · rintro σ H3 ⟨ms,y1,y2,y3,rfl,s3,e3,hne,e4,hml⟩
     walk_at "run"
     intro d H4 f4 s4 e5
     exact q d l H4 (s3.free f4) f1 (s3.trans s4) ⟨ms,0,e5,s4 _ _ e4,by omega⟩
def b75 (K:PySem.W.Frag):Sp:=fun vs H Q _=>∃ (d l:Addr) (m:Nat),vs=[.ref d,.int (m:Nat)]∧Dh H d l∧0<m∧m≤1000∧∀ (r:Nat) H',r<m→Off d l H H'→Dh H' d l→Q (.int (r:Nat)) H'
theorem a48 (T:Txt K mg t):FnOk P w K mg base CX0 1 t.a__law_digit t.fd__law_digit ["deck","many"] (b75 K):=by
 refine T.f__law_digit.F.ok sc_law_digit (fun vs H Q E h=>?_) (fun cdv A outer s H vs Q E hr h=>?_)
 · obtain ⟨d,l,m,rfl,_⟩:=h
   rfl
 · obtain ⟨d,l,m,rfl,hD,hm0,hm1,q⟩:=h
   refine ⟨_,(@a38 _ _ _ _ _ (@a33 _ _ _ _ _ _ _ _ (@PW.pt _ _ _ (@ai0 _ _ _ _ _ _ _ (@a07 _ _ _ _ _ _ _ _ a41 (@a14 _ _ _ _ _ _ _ (a29 K) (pv 0) (@a04 _ _ _ _) (fun _ _=>rfl)) (@a04 _ _ _ _) (nomark _)) (@ac8 _ _ _ _ (@a07 _ _ _ _ _ _ _ _ aj8 (@a46 _ _ _ _ _ _ _ _ _ (a97 K) (by rfl) T.z_len ad7 (@a00 _ _ _ _ _ (@a14 _ _ _ _ _ _ _ (a29 K) (pv 0) (@a04 _ _ _ _) (fun _ _=>rfl)) (@a02 _) (by rfl)) (by decide) (by decide) (by rfl) (by rfl)) (@a04 _ _ _ _) (nomark _))))) (@a05 _ _ _ (@ai1 _ _ _ _ _ _ (af9 K PySem.F.plainAttrs_list PySem.F.slot_list_pop PySem.F.type_list_pop ay4 (@a14 _ _ _ _ _ _ _ (a29 K) (pv 0) (@a04 _ _ _ _) (fun _ _=>rfl))) (aw8 (pv 0) (@a04 _ _ _ _) ak2) (by rfl) (by rfl) (by rfl))) (@a18 _))
    (@a01 _ _ _ _ _ (@a20 _ _ 2 _ _ _ _ sc_law_digit.nd rfl (by walk_at "o") (@a40 _ _ _ _ _ _ _ _ ac1 (@a14 _ _ _ _ _ _ _ (a29 K) (pv 0) (@a04 _ _ _ _) (fun _ _=>rfl)) (pv 1)) (by rfl) (by walk_at "o"))
    (@a01 _ _ _ _ _ (@ai1 _ _ _ _ _ _ (@a40 _ _ _ _ _ _ _ _ bb2 (@a14 _ _ _ _ _ _ _ (a29 K) (pv 0) (@a04 _ _ _ _) (fun _ _=>rfl)) (pv 1)) (aw8 (pv 0) (@a04 _ _ _ _) ak2) (by rfl) (by rfl) (by rfl))
    (@a05 _ _ _ (@a19 _ _ _ _ (pv 2)))))),?_⟩
   have hne:=hD.ne
   obtain ⟨ms,c,e1,e2,hl⟩:=hD.ex
   have tl:∀ (H2:Hp) (ms2:List Int) (c2:Int),H2 d=some (.lst [.ref l,.int c2])→H2 l=some (.lst (ms2.map V.int))→ms2.length≤100→Off d l H H2→Q (.int (c2 % (m:Int))) (upd H2 d (.lst [.ref l,.int (c2 / (m:Int))])):=fun H2 ms2 c2 g1 g2 g3 g4=>by
    obtain ⟨r,hr⟩:∃ r:Nat,c2 % (m:Int)=(r:Nat):=Int.eq_ofNat_of_zero_le (Int.emod_nonneg _ (by omega))
    have hlt:=Int.emod_lt_of_pos c2 (show (0:Int)<m by omega)
    rw [hr]
    refine q r _ (by omega) (fun b o h1 h2 e=>by rw [a12 h1]; exact g4 b o h1 h2 e) ⟨ms2,_,a32,by rw [a12 hne.symm]; exact g2,g3⟩
   walk_at "go"
   refine a62 (fun σ' H'=>∃ (ms2:List Int) (c2:Int),σ'=[some (.ref d),some (.int (m:Nat)),none]∧H' d=some (.lst [.ref l,.int c2])∧H' l=some (.lst (ms2.map V.int))∧ms2.length≤100∧Off d l H H') ?_ ?_
   · walk_at "run"
     refine a45 (SqL.of e1) (a03 (j:=1) rfl) ?_
     walk_at "run"
     by_cases h0:c=0
     · refine a26 h0 ?_
       walk_at "run"
       refine a45 (SqL.of e1) (a03 (j:=0) rfl) ?_
       walk_at "run"
       refine ag1 (SqL.of e2) ?_
       walk_at "run"
       rw [List.length_map]
       rcases List.eq_nil_or_concat ms with rfl | ⟨ms',z,rfl⟩
       · rw [decide_eq_false (by simp)]
         walk_at "run"
         exact ⟨_,_,rfl,e1,e2,hl,Off.refl⟩
       · rw [decide_eq_true (by simp)]
         walk_at "run"
         refine a45 (SqL.of e1) (a03 (j:=0) rfl) ?_
         walk_at "run"
         refine a89 (SqL.of e2) ?_
         walk_at "run"
         refine bd5 (xs:=ms'.map V.int) (y:=.int z) (by rw [e2]; simp) ?_
         walk_at "run"
         have e3:upd H l (.lst (ms'.map V.int)) d=some (.lst [.ref l,.int c]):=by rw [a12 hne]; exact e1
         refine ⟨d,_,1,1,rfl,rfl,e3,rfl,?_⟩
         exact ⟨ms',z,rfl,a32,by rw [a12 hne.symm,a32],by simp at hl; omega,fun b o h1 h2 e=>by rw [a12 h1,a12 h2]; exact e⟩
     · refine a24 h0 ?_
       walk_at "run"
       exact ⟨_,_,rfl,e1,e2,hl,Off.refl⟩
   · rintro σ' H' ⟨ms2,c2,rfl,g1,g2,g3,g4⟩
     walk_at "run"
     refine a45 (SqL.of g1) (a03 (j:=1) rfl) ?_
     walk_at "run"
     refine a45 (SqL.of g1) (a03 (j:=1) rfl) ?_
     walk_at "run"
     refine i_rI (show CDiv _ _ from ⟨by omega,by omega⟩) ?_
     walk_at "run"
     refine ⟨d,_,1,1,rfl,rfl,g1,rfl,?_⟩
     walk_at "run"
     exact tl H' ms2 c2 g1 g2 g3 g4
structure DB (d l lb:Addr) (bs:List (Str×Int)) (H:Hp):Prop where
 dk:Dh H d l
 n1:lb≠d
 n2:lb≠l
 bx:∃ bvs,H lb=some (.lst bvs)∧Each (BxAt H) bvs bs
theorem BxAt.tups {H H':Hp}{v:V}{b:Str×Int}(h:BxAt H v b) (s:Tups H H'):BxAt H' v b:=by
 obtain ⟨p,h1,h2⟩:=h
 exact ⟨p,h1,s _ _ h2⟩
theorem DB.off {d l lb:Addr}{bs:List (Str×Int)}{H H':Hp}(h:DB d l lb bs H) (o:Off d l H H') (k:Dh H' d l):DB d l lb bs H':=by
 obtain ⟨bvs,h1,h2⟩:=h.bx
 exact ⟨k,h.n1,h.n2,bvs,o _ _ h.n1 h.n2 h1,h2.mono fun _ _ z=>BxAt.tups z (h.dk.tups o)⟩
theorem DB.same {d l lb:Addr}{bs:List (Str×Int)}{H H':Hp}(h:DB d l lb bs H) (s:Same H H'):DB d l lb bs H':=h.off s.off (h.dk.same s)
def bp6 (K:PySem.W.Frag):Sp:=fun vs H Q _=>∃ (d l lb:Addr) (bs:List (Str×Int)),vs=[.ref d,.ref lb]∧DB d l lb bs H∧bs.length≤10∧∀ v (e:Ex) H',Off d l H H'→Dh H' d l→Tups H H'→(Ex.tr e).At H' v []→e.ok (bs.map (·.1))→e.h≤1→Q v H'
theorem a79 (T:Txt K mg t):FnOk P w K mg base CX0 2 t.a__law_expression t.fd__law_expression ["deck","boxes"] (bp6 K):=by
 have G__law_digit:=a48 (P:=P) (w:=w) (base:=base) T
 refine T.f__law_expression.F.ok sc_law_expression (fun vs H Q E h=>?_) (fun cdv A outer s H vs Q E hr h=>?_)
 · obtain ⟨d,l,lb,bs,rfl,_⟩:=h
   rfl
 · obtain ⟨d,l,lb,bs,rfl,hD,hbl,q⟩:=h
   refine ⟨_,(@a01 _ _ _ _ _ (@a20 _ _ 2 _ _ _ _ sc_law_expression.nd rfl (by walk_at "o") (@a08 _ _ _ _ _ _ _ _ _ _ _ _ _ _ _ _ G__law_digit (hr.mono (by omega)) rfl T.f__law_digit.m T.f__law_digit.F.kp T.f__law_digit.b .nil a28 (@a00 _ _ _ _ _ (pv 0) (@a00 _ _ _ _ _ (@a04 _ _ _ _) (@a02 _) (by rfl)) (by rfl)) (by decide) (by rfl) (by rfl)) (by rfl) (by walk_at "o"))
    (@a01 _ _ _ _ _ (@a20 _ _ 3 _ _ _ _ sc_law_expression.nd rfl (by walk_at "o") (@a23 _ _ _ _ _ (@a00 _ _ _ _ _ (@a21 _ _ _ _) (@a00 _ _ _ _ _ (@a08 _ _ _ _ _ _ _ _ _ _ _ _ _ _ _ _ G__law_digit (hr.mono (by omega)) rfl T.f__law_digit.m T.f__law_digit.F.kp T.f__law_digit.b .nil a28 (@a00 _ _ _ _ _ (pv 0) (@a00 _ _ _ _ _ (@a04 _ _ _ _) (@a02 _) (by rfl)) (by rfl)) (by decide) (by rfl) (by rfl)) (@a02 _) (by rfl)) (by rfl))) (by rfl) (by walk_at "o"))
    (@a01 _ _ _ _ _ (@a33 _ _ _ _ _ _ _ _ (@PW.pt _ _ _ (@aj7 _ _ _ _ _ _ _ (@a07 _ _ _ _ _ _ _ _ a41 (pv 2) (@a04 _ _ _ _) (nomark _)) (@ae4 _ _ _ _ (@a07 _ _ _ _ _ _ _ _ (aa3 K (by exact hr.units)) (pv 1) (@a31 _ _ _ _ (@a02 _)) (nomark _))))) (@a05 _ _ _ (@a19 _ _ _ _ (pv 3))) (@a18 _))
    (@a01 _ _ _ _ _ (@a20 _ _ 4 _ _ _ _ sc_law_expression.nd rfl (by walk_at "o") (@a23 _ _ _ _ _ (@a00 _ _ _ _ _ (@a21 _ _ _ _) (@a00 _ _ _ _ _ (@a14 _ _ _ _ _ _ _ (a06 K) (@a14 _ _ _ _ _ _ _ (a29 K) (pv 1) (@a08 _ _ _ _ _ _ _ _ _ _ _ _ _ _ _ _ G__law_digit (hr.mono (by omega)) rfl T.f__law_digit.m T.f__law_digit.F.kp T.f__law_digit.b .nil a28 (@a00 _ _ _ _ _ (pv 0) (@a00 _ _ _ _ _ (@a46 _ _ _ _ _ _ _ _ _ (a97 K) (by rfl) T.z_len ad7 (@a00 _ _ _ _ _ (pv 1) (@a02 _) (by rfl)) (by decide) (by decide) (by rfl) (by rfl)) (@a02 _) (by rfl)) (by rfl)) (by decide) (by rfl) (by rfl)) (fun _ _=>rfl)) (@a04 _ _ _ _) (fun _ _=>rfl)) (@a02 _) (by rfl)) (by rfl))) (by rfl) (by walk_at "o"))
    (@a05 _ _ _ (@a19 _ _ _ _ (@a14 _ _ _ _ _ _ _ (a29 K) (@a31 _ _ _ _ (@a00 _ _ _ _ _ (pv 3) (@a00 _ _ _ _ _ (pv 4) (@a00 _ _ _ _ _ (@a23 _ _ _ _ _ (@a00 _ _ _ _ _ (@a21 _ _ _ _) (@a00 _ _ _ _ _ (pv 4) (@a00 _ _ _ _ _ (pv 3) (@a02 _) (by rfl)) (by rfl)) (by rfl))) (@a00 _ _ _ _ _ (@a23 _ _ _ _ _ (@a00 _ _ _ _ _ (@a21 _ _ _ _) (@a00 _ _ _ _ _ (pv 3) (@a00 _ _ _ _ _ (pv 4) (@a02 _) (by rfl)) (by rfl)) (by rfl))) (@a02 _) (by rfl)) (by rfl)) (by rfl)) (by rfl))) (pv 2) (fun _ _=>rfl)))))))),?_⟩
   walk_at "go"
   refine ⟨d,l,4,rfl,hD.dk,by decide,by decide,fun k H1 hk o1 D1=>?_⟩
   walk_at "run"
   refine ⟨d,l,10,rfl,D1,by decide,by decide,fun m H2 hm o2 D2=>?_⟩
   walk_at "run"
   intro p3 H3 f3 s3 e3
   have o03:Off d l H H3:=(o1.trans o2).trans s3.off
   have D3:=D2.same s3
   have hD3:=hD.off o03 D3
   walk_at "run"
   have num:∀ H4,Same H3 H4→Q (.ref p3) H4:=fun H4 s4=>q _ (.num (m:Int)) H4 (o03.trans s4.off) (D3.same s4) (hD.dk.tups (o03.trans s4.off)) (a68 (s4 _ _ e3) a30 a55) ⟨by omega,by omega⟩ (by simp [Ex.h])
   by_cases hk0:(k:Int)=0
   · refine a26 hk0 ?_
     walk_at "run"
     exact num H3 (Same.refl _)
   refine a24 hk0 ?_
   walk_at "run"
   intro p4 H4 f4 s4 e4
   have hD4:=hD3.same s4
   obtain ⟨bvs,b1,b2⟩:=hD4.bx
   refine ag4 (SqL.of b1) (SqL.of e4) ?_
   walk_at "run"
   have hvl:bvs.length=bs.length:=b2.1
   cases bvs with
   | nil =>
     refine iteT ?_
     walk_at "run"
     exact num H4 s4
   | cons z zs =>
     refine iteF ?_
     walk_at "run"
     refine ag1 (SqL.of b1) ?_
     walk_at "run"
     refine ⟨d,l,(z::zs).length,rfl,hD4.dk,by simp,by omega,fun j H5 hj o5 D5=>?_⟩
     have hD5:=hD4.off o5 D5
     have t45:=hD4.dk.tups o5
     obtain ⟨x,hx⟩:∃ x,(z::zs)[j]?=some x:=⟨_,List.getElem?_eq_getElem hj⟩
     obtain ⟨b,hb⟩:∃ b,bs[j]?=some b:=⟨_,List.getElem?_eq_getElem (by omega)⟩
     obtain ⟨xa,rfl,hxa⟩:=b2.2 j x b hx hb
     refine a45 (SqL.of (o5 _ _ hD4.n1 hD4.n2 b1)) (a03 hx) ?_
     walk_at "run"
     refine a22 (SqT.of (t45 _ _ hxa)) (a03 (j:=0) rfl) ?_
     walk_at "run"
     intro p6 H6 f6 s6 e6
     walk_at "run"
     intro p7 H7 f7 s7 e7
     walk_at "run"
     intro p8 H8 f8 s8 e8
     walk_at "run"
     intro p9 H9 f9 s9 e9
     walk_at "run"
     have s69:=s7.trans (s8.trans s9)
     have o49:Off d l H H9:=((o03.trans s4.off).trans o5).trans (s6.trans s69).off
     have D9:=D5.same (s6.trans s69)
     have t9:=hD.dk.tups o49
     have hmem:b.1∈bs.map (·.1):=List.mem_map.mpr ⟨b,List.mem_of_getElem? hb,rfl⟩
     have en:H9 p3=some (.tup [.str "number",.int (m:Nat)]):=(s6.trans s69) _ _ (t45 _ _ (s4 _ _ e3))
     have hn:(Ex.num (m:Int)).tr.At H9 (.ref p3) []:=a68 en a30 a55
     have hb9:(Ex.box b.1).tr.At H9 (.ref p6) []:=a68 (s69 _ _ e6) a30 a30
     have okn:Ex.ok (bs.map (·.1)) (.num (m:Int)):=⟨by omega,by omega⟩
     have:k=1∨k=2∨k=3:=by omega
     rcases this with rfl | rfl | rfl
     · exact a45 (SqL.of e9) (a03 (j:=1) rfl) (q _ (.box b.1) H9 o49 D9 t9 hb9 hmem (by simp [Ex.h]))
     · refine a45 (SqL.of e9) (a03 (j:=2) rfl) (q _ (.two true (.box b.1) (.num (m:Int))) H9 o49 D9 t9 ?_ ⟨hmem,okn⟩ (by simp [Ex.h]))
       simp only [Ex.tr,b57,if_true]
       exact at_tup0.mpr ⟨p7,_,rfl,(s8.trans s9) _ _ e7,ats_cons0.mpr ⟨_,_,rfl,a30,ats_cons0.mpr ⟨_,_,rfl,hb9,ats_cons0.mpr ⟨_,_,rfl,hn,ats_nil0.mpr rfl⟩⟩⟩⟩
     · refine a45 (SqL.of e9) (a03 (j:=3) rfl) (q _ (.two false (.num (m:Int)) (.box b.1)) H9 o49 D9 t9 ?_ ⟨okn,hmem⟩ (by simp [Ex.h]))
       simp only [Ex.tr,b57,Bool.false_eq_true,if_false]
       exact at_tup0.mpr ⟨p8,_,rfl,s9 _ _ e8,ats_cons0.mpr ⟨_,_,rfl,a30,ats_cons0.mpr ⟨_,_,rfl,hn,ats_cons0.mpr ⟨_,_,rfl,hb9,ats_nil0.mpr rfl⟩⟩⟩⟩
def bg0 (K:PySem.W.Frag):Sp:=fun vs H Q _=>∃ (d l lb:Addr) (bs:List (Str×Int)),vs=[.ref d,.ref lb]∧DB d l lb bs H∧bs.length≤10∧∀ v (c:Cd) H',Off d l H H'→Dh H' d l→Tups H H'→(Cd.tr c).At H' v []→c.ok (bs.map (·.1)) 5→c.h≤3→Q v H'
theorem ae1 (T:Txt K mg t):FnOk P w K mg base CX0 3 t.a__law_condition t.fd__law_condition ["deck","boxes"] (bg0 K):=by
 have G__law_digit:=a48 (P:=P) (w:=w) (base:=base) T
 have G__law_expression:=a79 (P:=P) (w:=w) (base:=base) T
 refine T.f__law_condition.F.ok sc_law_condition (fun vs H Q E h=>?_) (fun cdv A outer s H vs Q E hr h=>?_)
 · obtain ⟨d,l,lb,bs,rfl,_⟩:=h
   rfl
 · obtain ⟨d,l,lb,bs,rfl,hD,hbl,q⟩:=h
   refine ⟨_,(@a01 _ _ _ _ _ (@a20 _ _ 2 _ _ _ _ sc_law_condition.nd rfl (by walk_at "o") (@a08 _ _ _ _ _ _ _ _ _ _ _ _ _ _ _ _ G__law_digit (hr.mono (by omega)) rfl T.f__law_digit.m T.f__law_digit.F.kp T.f__law_digit.b .nil a28 (@a00 _ _ _ _ _ (pv 0) (@a00 _ _ _ _ _ (@a04 _ _ _ _) (@a02 _) (by rfl)) (by rfl)) (by decide) (by rfl) (by rfl)) (by rfl) (by walk_at "o"))
    (@a01 _ _ _ _ _ (@a20 _ _ 3 _ _ _ _ sc_law_condition.nd rfl (by walk_at "o") (@a08 _ _ _ _ _ _ _ _ _ _ _ _ _ _ _ _ G__law_expression (hr.mono (by omega)) rfl T.f__law_expression.m T.f__law_expression.F.kp T.f__law_expression.b .nil a28 (@a00 _ _ _ _ _ (pv 0) (@a00 _ _ _ _ _ (pv 1) (@a02 _) (by rfl)) (by rfl)) (by decide) (by rfl) (by rfl)) (by rfl) (by walk_at "o"))
    (@a01 _ _ _ _ _ (@a20 _ _ 4 _ _ _ _ sc_law_condition.nd rfl (by walk_at "o") (@a23 _ _ _ _ _ (@a00 _ _ _ _ _ (@a14 _ _ _ _ _ _ _ (a29 K) (@a31 _ _ _ _ (@a00 _ _ _ _ _ (@a21 _ _ _ _) (@a00 _ _ _ _ _ (@a21 _ _ _ _) (@a02 _) (by rfl)) (by rfl))) (@a40 _ _ _ _ _ _ _ _ ac1 (pv 2) (@a04 _ _ _ _)) (fun _ _=>rfl)) (@a00 _ _ _ _ _ (pv 3) (@a00 _ _ _ _ _ (@a08 _ _ _ _ _ _ _ _ _ _ _ _ _ _ _ _ G__law_expression (hr.mono (by omega)) rfl T.f__law_expression.m T.f__law_expression.F.kp T.f__law_expression.b .nil a28 (@a00 _ _ _ _ _ (pv 0) (@a00 _ _ _ _ _ (pv 1) (@a02 _) (by rfl)) (by rfl)) (by decide) (by rfl) (by rfl)) (@a02 _) (by rfl)) (by rfl)) (by rfl))) (by rfl) (by walk_at "o"))
    (@a01 _ _ _ _ _ (@a33 _ _ _ _ _ _ _ _ (@a07 _ _ _ _ _ _ _ _ a41 (pv 2) (@a04 _ _ _ _) (nomark _)) (@a05 _ _ _ (@a19 _ _ _ _ (@a23 _ _ _ _ _ (@a00 _ _ _ _ _ (@a21 _ _ _ _) (@a00 _ _ _ _ _ (pv 4) (@a02 _) (by rfl)) (by rfl))))) (@a18 _))
    (@a01 _ _ _ _ _ (@a33 _ _ _ _ _ _ _ _ (@a07 _ _ _ _ _ _ _ _ a41 (pv 2) (@a04 _ _ _ _) (nomark _)) (@a05 _ _ _ (@a19 _ _ _ _ (@a23 _ _ _ _ _ (@a00 _ _ _ _ _ (@a21 _ _ _ _) (@a00 _ _ _ _ _ (@a23 _ _ _ _ _ (@a00 _ _ _ _ _ (@a21 _ _ _ _) (@a00 _ _ _ _ _ (@a23 _ _ _ _ _ (@a00 _ _ _ _ _ (@a21 _ _ _ _) (@a00 _ _ _ _ _ (pv 3) (@a00 _ _ _ _ _ (@a23 _ _ _ _ _ (@a00 _ _ _ _ _ (@a21 _ _ _ _) (@a00 _ _ _ _ _ (@a04 _ _ _ _) (@a02 _) (by rfl)) (by rfl))) (@a02 _) (by rfl)) (by rfl)) (by rfl))) (@a02 _) (by rfl)) (by rfl))) (@a00 _ _ _ _ _ (pv 4) (@a02 _) (by rfl)) (by rfl)) (by rfl))))) (@a18 _))
    (@a05 _ _ _ (@a19 _ _ _ _ (pv 4)))))))),?_⟩
   walk_at "go"
   refine ⟨d,l,4,rfl,hD.dk,by decide,by decide,fun k H1 hk o1 D1=>?_⟩
   have hD1:=hD.off o1 D1
   walk_at "run"
   refine ⟨d,l,lb,bs,rfl,hD1,hbl,fun v1 x1 H2 o2 D2 t2 a1 k1 g1=>?_⟩
   have hD2:=hD1.off o2 D2
   walk_at "run"
   intro p3 H3 f3 s3 e3
   have hD3:=hD2.same s3
   walk_at "run"
   obtain ⟨b,hb⟩:∃ b:Bool,[V.str "same",.str "under"][k % 2]?=some (.str (bd7 b)):=by
    have:k % 2=0∨k % 2=1:=by omega
    rcases this with z | z <;> rw [z]
    · exact ⟨true,rfl⟩
    · exact ⟨false,rfl⟩
   rw [show ((k:Int) % 2)=((k % 2:Nat):Int) by omega]
   refine a45 (SqL.of e3) (a03 hb) ?_
   walk_at "run"
   refine ⟨d,l,lb,bs,rfl,hD3,hbl,fun v2 x2 H4 o4 D4 t4 a2 k2 g2=>?_⟩
   have hD4:=hD3.off o4 D4
   walk_at "run"
   intro p5 H5 f5 s5 e5
   walk_at "run"
   have o05:Off d l H H5:=((o1.trans o2).trans s3.off).trans (o4.trans s5.off)
   have a15:x1.tr.At H5 v1 []:=aa2 (aa2 a1 s3.tups) (t4.trans s5.tups)
   have a25:x2.tr.At H5 v2 []:=a2.same s5
   have hpl:(Cd.cmp b x1 x2).tr.At H5 (.ref p5) []:=at_tup0.mpr ⟨p5,_,rfl,e5,ats_cons0.mpr ⟨_,_,rfl,a30,ats_cons0.mpr ⟨_,_,rfl,a15,ats_cons0.mpr ⟨_,_,rfl,a25,ats_nil0.mpr rfl⟩⟩⟩⟩
   have okp:Cd.ok (bs.map (·.1)) 5 (.cmp b x1 x2):=⟨⟨k1,by omega⟩,k2,by omega⟩
   by_cases h2:(k:Int)=2
   · refine a26 h2 ?_
     walk_at "run"
     intro p6 H6 f6 s6 e6
     exact q _ (.nt (.cmp b x1 x2)) H6 (o05.trans s6.off) (D4.same (s5.trans s6)) (hD.dk.tups (o05.trans s6.off)) (a68 e6 a30 (hpl.same s6)) okp (by simp [Cd.h])
   refine a24 h2 ?_
   walk_at "run"
   by_cases h3:(k:Int)=3
   · refine a26 h3 ?_
     walk_at "run"
     intro p6 H6 f6 s6 e6
     walk_at "run"
     intro p7 H7 f7 s7 e7
     walk_at "run"
     intro p8 H8 f8 s8 e8
     walk_at "run"
     intro p9 H9 f9 s9 e9
     have s59:=s6.trans (s7.trans (s8.trans s9))
     have n1:(Ex.num 1).tr.At H9 (.ref p6) []:=a68 ((s7.trans (s8.trans s9)) _ _ e6) a30 a55
     have c1:(Cd.cmp true x1 (.num 1)).tr.At H9 (.ref p7) []:=at_tup0.mpr ⟨p7,_,rfl,(s8.trans s9) _ _ e7,ats_cons0.mpr ⟨_,_,rfl,a30,ats_cons0.mpr ⟨_,_,rfl,a15.same s59,ats_cons0.mpr ⟨_,_,rfl,n1,ats_nil0.mpr rfl⟩⟩⟩⟩
     have c2:(Cd.nt (.cmp true x1 (.num 1))).tr.At H9 (.ref p8) []:=a68 (s9 _ _ e8) a30 c1
     refine q _ (.both (.nt (.cmp true x1 (.num 1))) (.cmp b x1 x2)) H9 (o05.trans s59.off) (D4.same (s5.trans s59)) (hD.dk.tups (o05.trans s59.off)) ?_ ⟨⟨⟨k1,by omega⟩,⟨by omega,by omega⟩,by simp [Ex.h]⟩,okp⟩ (by simp [Cd.h])
     exact at_tup0.mpr ⟨p9,_,rfl,e9,ats_cons0.mpr ⟨_,_,rfl,a30,ats_cons0.mpr ⟨_,_,rfl,c2,ats_cons0.mpr ⟨_,_,rfl,hpl.same s59,ats_nil0.mpr rfl⟩⟩⟩⟩
   refine a24 h3 ?_
   walk_at "run"
   exact q _ _ H5 o05 (D4.same s5) (hD.dk.tups o05) hpl okp (by simp [Cd.h])
def bp7 (K:PySem.W.Frag):Sp:=fun vs H Q _=>∃ (d l:Addr),vs=[.ref d]∧Dh H d l∧∀ v p H',Off d l H H'→Dh H' d l→Tups H H'→(patK p).At H' v []→patK p≠.tup [.str "quiet"]→Q v H'
theorem ab4 (T:Txt K mg t):FnOk P w K mg base CX0 2 t.a__law_pattern t.fd__law_pattern ["deck"] (bp7 K):=by
 have G__law_digit:=a48 (P:=P) (w:=w) (base:=base) T
 refine T.f__law_pattern.F.ok sc_law_pattern (fun vs H Q E h=>?_) (fun cdv A outer s H vs Q E hr h=>?_)
 · obtain ⟨d,l,rfl,_⟩:=h
   rfl
 · obtain ⟨d,l,rfl,hD,q⟩:=h
   refine ⟨_,(@a01 _ _ _ _ _ (@a20 _ _ 1 _ _ _ _ sc_law_pattern.nd rfl (by walk_at "o") (@a08 _ _ _ _ _ _ _ _ _ _ _ _ _ _ _ _ G__law_digit (hr.mono (by omega)) rfl T.f__law_digit.m T.f__law_digit.F.kp T.f__law_digit.b .nil a28 (@a00 _ _ _ _ _ (pv 0) (@a00 _ _ _ _ _ (@a04 _ _ _ _) (@a02 _) (by rfl)) (by rfl)) (by decide) (by rfl) (by rfl)) (by rfl) (by walk_at "o"))
    (@a01 _ _ _ _ _ (@a33 _ _ _ _ _ _ _ _ (@a07 _ _ _ _ _ _ _ _ aq6 (pv 1) (@a04 _ _ _ _) (nomark _)) (@a05 _ _ _ (@a19 _ _ _ _ (@a23 _ _ _ _ _ (@a00 _ _ _ _ _ (@a21 _ _ _ _) (@a00 _ _ _ _ _ (@a08 _ _ _ _ _ _ _ _ _ _ _ _ _ _ _ _ G__law_digit (hr.mono (by omega)) rfl T.f__law_digit.m T.f__law_digit.F.kp T.f__law_digit.b .nil a28 (@a00 _ _ _ _ _ (pv 0) (@a00 _ _ _ _ _ (@a14 _ _ _ _ _ _ _ (a29 K) (@a31 _ _ _ _ (@a00 _ _ _ _ _ (@a04 _ _ _ _) (@a00 _ _ _ _ _ (@a04 _ _ _ _) (@a02 _) (by rfl)) (by rfl))) (pv 1) (fun _ _=>rfl)) (@a02 _) (by rfl)) (by rfl)) (by decide) (by rfl) (by rfl)) (@a02 _) (by rfl)) (by rfl))))) (@a18 _))
    (@a01 _ _ _ _ _ (@a33 _ _ _ _ _ _ _ _ (@a07 _ _ _ _ _ _ _ _ aq6 (pv 1) (@a04 _ _ _ _) (nomark _)) (@a05 _ _ _ (@a19 _ _ _ _ (@a23 _ _ _ _ _ (@a00 _ _ _ _ _ (@a21 _ _ _ _) (@a00 _ _ _ _ _ (@a14 _ _ _ _ _ _ _ (a29 K) (@a31 _ _ _ _ (@a00 _ _ _ _ _ (@a21 _ _ _ _) (@a00 _ _ _ _ _ (@a21 _ _ _ _) (@a00 _ _ _ _ _ (@a21 _ _ _ _) (@a00 _ _ _ _ _ (@a21 _ _ _ _) (@a02 _) (by rfl)) (by rfl)) (by rfl)) (by rfl))) (@a08 _ _ _ _ _ _ _ _ _ _ _ _ _ _ _ _ G__law_digit (hr.mono (by omega)) rfl T.f__law_digit.m T.f__law_digit.F.kp T.f__law_digit.b .nil a28 (@a00 _ _ _ _ _ (pv 0) (@a00 _ _ _ _ _ (@a04 _ _ _ _) (@a02 _) (by rfl)) (by rfl)) (by decide) (by rfl) (by rfl)) (fun _ _=>rfl)) (@a02 _) (by rfl)) (by rfl))))) (@a18 _))
    (@a05 _ _ _ (@a19 _ _ _ _ (@a23 _ _ _ _ _ (@a00 _ _ _ _ _ (@a21 _ _ _ _) (@a02 _) (by rfl)))))))),?_⟩
   walk_at "go"
   refine ⟨d,l,5,rfl,hD,by decide,by decide,fun k H1 hk o1 D1=>?_⟩
   walk_at "run"
   by_cases h2:(k:Int)<2
   · refine a26 h2 ?_
     walk_at "run"
     intro p2 H2 f2 s2 e2
     walk_at "run"
     obtain ⟨m,hm,m0,m1⟩:∃ m:Nat,[V.int 3,.int 10][k]?=some (.int (m:Nat))∧0<m∧m≤1000:=by
      have:k=0∨k=1:=by omega
      rcases this with rfl | rfl
      · exact ⟨3,rfl,by decide,by decide⟩
      · exact ⟨10,rfl,by decide,by decide⟩
     refine a45 (SqL.of e2) (a03 hm) ?_
     walk_at "run"
     refine ⟨d,l,m,rfl,D1.same s2,m0,m1,fun r H3 hr' o3 D3=>?_⟩
     walk_at "run"
     intro p4 H4 f4 s4 e4
     have o04:Off d l H H4:=(o1.trans s2.off).trans (o3.trans s4.off)
     exact q _ [.s "key",.i (r:Int)] H4 o04 (D3.same s4) (hD.tups o04) (a68 e4 a30 a55) (fun z=>by cases z)
   refine a24 h2 ?_
   walk_at "run"
   by_cases h4:(k:Int)<4
   · refine a26 h4 ?_
     walk_at "run"
     intro p2 H2 f2 s2 e2
     walk_at "run"
     refine ⟨d,l,4,rfl,D1.same s2,by decide,by decide,fun r H3 hr' o3 D3=>?_⟩
     have hne:=(D1.new f2)
     obtain ⟨x,hx⟩:∃ x:Str,[V.str "yes",.str "none",.str "other",.str "quiet"][r]?=some (.str x):=by
      have:r=0∨r=1∨r=2∨r=3:=by omega
      rcases this with rfl | rfl | rfl | rfl <;> exact ⟨_,rfl⟩
     refine a45 (SqL.of (o3 _ _ hne.1 hne.2 e2)) (a03 hx) ?_
     walk_at "run"
     intro p4 H4 f4 s4 e4
     have o04:Off d l H H4:=(o1.trans s2.off).trans (o3.trans s4.off)
     exact q _ [.s "word",.s x] H4 o04 (D3.same s4) (hD.tups o04) (a68 e4 a30 a30) (fun z=>by cases z)
   refine a24 h4 ?_
   walk_at "run"
   intro p4 H4 f4 s4 e4
   have o04:Off d l H H4:=o1.trans s4.off
   exact q _ [.s "other"] H4 o04 (D1.same s4) (hD.tups o04) (aa1 e4 a30) (fun z=>absurd (Tr.str.inj (List.cons.inj (Tr.tup.inj z)).1) (by decide +kernel))
def bp8 (K:PySem.W.Frag):Sp:=fun vs H Q _=>∃ (d l:Addr) (many own first:Nat),vs=[.ref d,.int (many:Nat),.int (own:Nat),.int (first:Nat)]∧Dh H d l∧own<many∧many≤100∧first≤many∧∀ v lm br m H',Off d l H H'→Dh H' d l→Tups H H'→(Nd.wait lm br m).tr.At H' v []→0≤lm→br.length≤4→(∀ b∈br,first≤b.2∧b.2<many∧patK b.1≠.tup [.str "quiet"])→m<many→(0<lm→first≤m)→Q v H'
theorem b27 {H:Hp}{p pt:Addr}{lm:Int}{br:List (List Pt×Nat)}{m:Nat}{us:List V}(e:H p=some (.tup [.str "wait",.int lm,.ref pt,.int (m:Nat)])) (e2:H pt=some (.tup us)) (h:Tr.Ats H (br.map brT) us []):(Nd.wait lm br m).tr.At H (.ref p) [] :=
 at_tup0.mpr ⟨p,_,rfl,e,ats_cons0.mpr ⟨_,_,rfl,a30,ats_cons0.mpr ⟨_,_,rfl,a55,ats_cons0.mpr ⟨_,_,rfl,at_tup0.mpr ⟨pt,us,rfl,e2,h⟩,ats_cons0.mpr ⟨_,_,rfl,a55,ats_nil0.mpr rfl⟩⟩⟩⟩⟩
theorem as3 (T:Txt K mg t):FnOk P w K mg base CX0 3 t.a__law_wait t.fd__law_wait ["deck","many","own","first"] (bp8 K):=by
 have G__law_digit:=a48 (P:=P) (w:=w) (base:=base) T
 have G__law_pattern:=ab4 (P:=P) (w:=w) (base:=base) T
 refine T.f__law_wait.F.ok sc_law_wait (fun vs H Q E h=>?_) (fun cdv A outer s H vs Q E hr h=>?_)
 · obtain ⟨d,l,many,own,first,rfl,_⟩:=h
   rfl
 · obtain ⟨d,l,many,own,first,rfl,hD,ho,hm,hf,q⟩:=h
   refine ⟨_,(@a01 _ _ _ _ _ (@a20 _ _ 4 _ _ _ _ sc_law_wait.nd rfl (by walk_at "o") (@a08 _ _ _ _ _ _ _ _ _ _ _ _ _ _ _ _ G__law_digit (hr.mono (by omega)) rfl T.f__law_digit.m T.f__law_digit.F.kp T.f__law_digit.b .nil a28 (@a00 _ _ _ _ _ (pv 0) (@a00 _ _ _ _ _ (@a04 _ _ _ _) (@a02 _) (by rfl)) (by rfl)) (by decide) (by rfl) (by rfl)) (by rfl) (by walk_at "o"))
    (@a01 _ _ _ _ _ (@a33 _ _ _ _ _ _ _ _ (@a07 _ _ _ _ _ _ _ _ a41 (pv 3) (pv 1) (nomark _)) (@a05 _ _ _ (@a19 _ _ _ _ (@a23 _ _ _ _ _ (@a00 _ _ _ _ _ (@a21 _ _ _ _) (@a00 _ _ _ _ _ (@a04 _ _ _ _) (@a00 _ _ _ _ _ (@a23 _ _ _ _ _ (@a02 _)) (@a00 _ _ _ _ _ (pv 2) (@a02 _) (by rfl)) (by rfl)) (by rfl)) (by rfl))))) (@a18 _))
    (@a01 _ _ _ _ _ (@a20 _ _ 5 _ _ _ _ sc_law_wait.nd rfl (by walk_at "o") (@a31 _ _ _ _ (@a02 _)) (by rfl) (by walk_at "o"))
    (@a01 _ _ _ _ _ (@ai2 _ _ _ _ _ _ _ _ PassesOwn.never rfl (ab9 rfl T.z_range (@a00 _ _ _ _ _ (@a08 _ _ _ _ _ _ _ _ _ _ _ _ _ _ _ _ G__law_digit (hr.mono (by omega)) rfl T.f__law_digit.m T.f__law_digit.F.kp T.f__law_digit.b .nil a28 (@a00 _ _ _ _ _ (pv 0) (@a00 _ _ _ _ _ (@a04 _ _ _ _) (@a02 _) (by rfl)) (by rfl)) (by decide) (by rfl) (by rfl)) (@a02 _) (by rfl))) (a36 (i:=6) sc_law_wait.nd rfl (by walk_at "o")) (@a01 _ _ _ _ _ (@a20 _ _ 7 _ _ _ _ sc_law_wait.nd rfl (by walk_at "o") (@a08 _ _ _ _ _ _ _ _ _ _ _ _ _ _ _ _ G__law_pattern (hr.mono (by omega)) rfl T.f__law_pattern.m T.f__law_pattern.F.kp T.f__law_pattern.b .nil a28 (@a00 _ _ _ _ _ (pv 0) (@a02 _) (by rfl)) (by decide) (by rfl) (by rfl)) (by rfl) (by walk_at "o"))
     (@a05 _ _ _ (@a60 _ _ _ _ (@a74 _ K _ _ _ _ _ _ _ _ _ _ _ PySem.F.plainAttrs_list PySem.F.slot_list_append PySem.F.type_list_append a50 (pv 5) (@a00 _ _ _ _ _ (@a23 _ _ _ _ _ (@a00 _ _ _ _ _ (pv 7) (@a00 _ _ _ _ _ (@a40 _ _ _ _ _ _ _ _ a47 (pv 3) (@a08 _ _ _ _ _ _ _ _ _ _ _ _ _ _ _ _ G__law_digit (hr.mono (by omega)) rfl T.f__law_digit.m T.f__law_digit.F.kp T.f__law_digit.b .nil a28 (@a00 _ _ _ _ _ (pv 0) (@a00 _ _ _ _ _ (@a40 _ _ _ _ _ _ _ _ a70 (pv 1) (pv 3)) (@a02 _) (by rfl)) (by rfl)) (by decide) (by rfl) (by rfl))) (@a02 _) (by rfl)) (by rfl))) (@a02 _) (by rfl)) (by rfl) (by rfl) (by rfl) (by rfl) (by rfl) (by rfl)) (by rfl)))) (by intro _; rfl))
    (@a01 _ _ _ _ _ (@a20 _ _ 8 _ _ _ _ sc_law_wait.nd rfl (by walk_at "o") (pv 2) (by rfl) (by walk_at "o"))
    (@a38 _ _ _ _ _ (@a33 _ _ _ _ _ _ _ _ (@a07 _ _ _ _ _ _ _ _ aj8 (pv 4) (@a04 _ _ _ _) (nomark _)) (@a05 _ _ _ (@a20 _ _ 8 _ _ _ _ sc_law_wait.nd rfl (by walk_at "o") (@a40 _ _ _ _ _ _ _ _ a47 (pv 3) (@a08 _ _ _ _ _ _ _ _ _ _ _ _ _ _ _ _ G__law_digit (hr.mono (by omega)) rfl T.f__law_digit.m T.f__law_digit.F.kp T.f__law_digit.b .nil a28 (@a00 _ _ _ _ _ (pv 0) (@a00 _ _ _ _ _ (@a40 _ _ _ _ _ _ _ _ a70 (pv 1) (pv 3)) (@a02 _) (by rfl)) (by rfl)) (by decide) (by rfl) (by rfl))) (by rfl) (by walk_at "o"))) (@a18 _))
    (@a05 _ _ _ (@a19 _ _ _ _ (@a23 _ _ _ _ _ (@a00 _ _ _ _ _ (@a21 _ _ _ _) (@a00 _ _ _ _ _ (pv 4) (@a00 _ _ _ _ _ (@a34 _ _ _ _ _ _ _ _ _ (a73 K) (by rfl) T.z_tuple a85 (@a00 _ _ _ _ _ (pv 5) (@a02 _) (by rfl)) (by decide) (by decide) (by rfl) (by rfl)) (@a00 _ _ _ _ _ (pv 8) (@a02 _) (by rfl)) (by rfl)) (by rfl)) (by rfl))))))))))),?_⟩
   have sl:(1000000:Nat)≤sizeLine:=le_line (Nat.le_refl _)
   walk_at "go"
   refine ⟨d,l,5,rfl,hD,by decide,by decide,fun lm H1 hlm o1 D1=>?_⟩
   walk_at "run"
   by_cases hfm:(first:Int)=many
   · refine a26 hfm ?_
     walk_at "run"
     intro p2 H2 f2 s2 e2
     walk_at "run"
     intro p3 H3 f3 s3 e3
     have o03:Off d l H H3:=o1.trans (s2.trans s3).off
     exact q _ 0 [] own H3 o03 (D1.same (s2.trans s3)) (hD.tups o03) (b27 e3 (s3 _ _ e2) (ats_nil0.mpr rfl)) (by omega) (by simp) (by simp) ho (fun z=>by omega)
   refine a24 hfm ?_
   walk_at "run"
   intro pb H2 f2 s2 e2
   walk_at "run"
   have D2:=D1.same s2
   have hpb:=D1.new f2
   have fpb:H pb=none:=D1.free o1 f2
   refine ⟨d,l,5,rfl,D2,by decide,by decide,fun r H3 hr3 o3 D3=>?_⟩
   walk_at "run"
   refine ac0 (lo:=0) (n:=r) (fun i σ H'=>∃ (br:List (List Pt×Nat)) (us:List V) (y1 y2:Option V),σ=[some (.ref d),some (.int (many:Nat)),some (.int (own:Nat)),some (.int (first:Nat)),some (.int (lm:Nat)),some (.ref pb),y1,y2,none]∧Off d l H H'∧Dh H' d l∧H' pb=some (.lst us)∧Tr.Ats H' (br.map brT) us []∧br.length=i∧∀ b∈br,first≤b.2∧b.2<many∧patK b.1≠.tup [.str "quiet"]) ⟨[],[],_,_,rfl,(o1.trans s2.off).trans o3,D3,o3 _ _ hpb.1 hpb.2 e2,ats_nil0.mpr rfl,rfl,by simp⟩ ?_ ?_
   · rintro i σ H4 hi ⟨br,us,y1,y2,rfl,o4,D4,e4,hat,hbl,hb⟩
     walk_at "run"
     refine ⟨d,l,rfl,D4,fun v5 p5 H5 o5 D5 t5 a5 nq5=>?_⟩
     walk_at "run"
     have e5:=o5 _ _ hpb.1 hpb.2 e4
     refine a89 (SqL.of e5) ?_
     walk_at "run"
     rw [show (many:Int) - first=((many - first:Nat):Int) by omega]
     refine ⟨d,l,many - first,rfl,D5,by omega,by omega,fun j H6 hj o6 D6=>?_⟩
     walk_at "run"
     intro p7 H7 f7 s7 e7
     walk_at "run"
     have e6:=s7 _ _ (o6 _ _ hpb.1 hpb.2 e5)
     have hul:us.length=br.length:=by rw [hat.len,List.length_map]
     refine a58 e6 (by omega) ?_
     have t46:Tups H4 H7:=t5.trans ((D5.tups o6).trans s7.tups)
     have tU:Tups H7 (upd H7 pb (.lst (us++[V.ref p7]))):=Tups.upd e6
     have o47:Off d l H4 H7:=(o5.trans o6).trans s7.off
     have D7:=D6.same s7
     obtain ⟨ms,c,g1,g2,g3⟩:=D7.ex
     refine ⟨br++[(p5,first+j)],_,_,_,rfl,fun b o h1 h2 e=>?_,⟨ms,c,by rw [a12 hpb.1.symm]; exact g1,by rw [a12 hpb.2.symm]; exact g2,g3⟩,a32,?_,by simp [hbl],fun b hb'=>?_⟩
     · rw [a12 (a27 e fpb)]
       exact o47 _ _ h1 h2 (o4 _ _ h1 h2 e)
     · rw [List.map_append]
       refine (a75 hat (t46.trans tU)).snoc ?_
       exact a68 (by rw [tU _ _ e7]; simp) (aa2 a5 (((D5.tups o6).trans s7.tups).trans tU)) a55
     · rcases List.mem_append.mp hb' with z | z
       · exact hb b z
       · rw [List.mem_singleton.mp z]
         exact ⟨by simp,by simp; omega,nq5⟩
   rintro σ H4 ⟨br,us,y1,y2,rfl,o4,D4,e4,hat,hbl,hb⟩
   walk_at "run"
   refine a62 (fun σ' H'=>∃ (m:Nat),σ'=[some (.ref d),some (.int (many:Nat)),some (.int (own:Nat)),some (.int (first:Nat)),some (.int (lm:Nat)),some (.ref pb),y1,y2,some (.int (m:Nat))]∧Off d l H4 H'∧Dh H' d l∧m<many∧(0<(lm:Int)→first≤m)) ?_ ?_
   · walk_at "run"
     by_cases hl0:(0:Int)<lm
     · refine a26 hl0 ?_
       walk_at "run"
       rw [show (many:Int) - first=((many - first:Nat):Int) by omega]
       refine ⟨d,l,many - first,rfl,D4,by omega,by omega,fun j H5 hj o5 D5=>?_⟩
       walk_at "run"
       exact ⟨first+j,by simp,o5,D5,by omega,fun _=>by omega⟩
     · refine a24 hl0 ?_
       walk_at "run"
       exact ⟨own,rfl,Off.refl,D4,ho,fun z=>absurd z hl0⟩
   rintro σ' H5 ⟨m,rfl,o5,D5,hmm,hml⟩
   walk_at "run"
   refine aa8 (SqL.of (o5 _ _ hpb.1 hpb.2 e4)) ?_
   intro pt H6 f6 s6 e6
   walk_at "run"
   intro p7 H7 f7 s7 e7
   have o07:Off d l H H7:=(o4.trans o5).trans (s6.trans s7).off
   exact q _ (lm:Int) br m H7 o07 (D5.same (s6.trans s7)) (hD.tups o07) (b27 e7 (s7 _ _ e6) (a75 hat ((D4.tups o5).trans (s6.trans s7).tups))) (by omega) (by omega) hb hmm hml
def NdB (nm:List Str) (many own:Nat) (cm:Bool):Nd→Prop
 | .say w k=>w.length≤100∧own<k∧k<many
 | .hand l w k=>(0≤l∧l<10∧w.length≤100)∧own<k∧k<many
 | .put b e k=>(e.ok nm∧e.h≤1∧b∈nm)∧own<k∧k<many
 | .test c a b=>(c.ok nm 5∧c.h≤3)∧(own<a∧a<many)∧own<b∧b<many
 | .wait l br m=>(0≤l∧br.length≤4∧∀ b∈br,patK b.1≠.tup [.str "quiet"])∧(∀ b∈br,b.2<many)∧m<many∧(cm=true→(∀ b∈br,own<b.2)∧(0<l→own<m))
 | .call a b=>cm=true∧(own<a∧a<many)∧own<b∧b<many
 | .back=>True
 | .stop=>True
def bv0 (K:PySem.W.Frag):Sp:=fun vs H Q _=>∃ (d l lb:Addr) (bs:List (Str×Int)) (many own:Nat) (calls:Int),vs=[.ref d,.ref lb,.int (many:Nat),.int (own:Nat),.int calls]∧DB d l lb bs H∧bs.length≤10∧own<many∧many≤100∧∀ v nd H',Off d l H H'→Dh H' d l→Tups H H'→(Nd.tr nd).At H' v []→NdB (bs.map (·.1)) many own (decide (-1<calls)) nd→(nd.word=Str.ofString "call"→0<calls)→Q v H'
theorem as4 (T:Txt K mg t):FnOk P w K mg base CX0 4 t.a__law_node t.fd__law_node ["deck","boxes","many","own","calls"] (bv0 K):=by
 have G__law_condition:=ae1 (P:=P) (w:=w) (base:=base) T
 have G__law_digit:=a48 (P:=P) (w:=w) (base:=base) T
 have G__law_expression:=a79 (P:=P) (w:=w) (base:=base) T
 have G__law_wait:=as3 (P:=P) (w:=w) (base:=base) T
 refine T.f__law_node.F.ok sc_law_node (fun vs H Q E h=>?_) (fun cdv A outer s H vs Q E hr h=>?_)
 · obtain ⟨d,l,lb,bs,many,own,calls,rfl,_⟩:=h
   rfl
 · obtain ⟨d,l,lb,bs,many,own,calls,rfl,hD,hbl,ho,hm,q⟩:=h
   refine ⟨_,(@a01 _ _ _ _ _ (@a20 _ _ 5 _ _ _ _ sc_law_node.nd rfl (by walk_at "o") (@a08 _ _ _ _ _ _ _ _ _ _ _ _ _ _ _ _ G__law_digit (hr.mono (by omega)) rfl T.f__law_digit.m T.f__law_digit.F.kp T.f__law_digit.b .nil a28 (@a00 _ _ _ _ _ (pv 0) (@a00 _ _ _ _ _ (@a04 _ _ _ _) (@a02 _) (by rfl)) (by rfl)) (by decide) (by rfl) (by rfl)) (by rfl) (by walk_at "o"))
    (@a01 _ _ _ _ _ (@a20 _ _ 6 _ _ _ _ sc_law_node.nd rfl (by walk_at "o") (@a04 _ _ _ _) (by rfl) (by walk_at "o"))
    (@a38 _ _ _ _ _ (@a33 _ _ _ _ _ _ _ _ (@a07 _ _ _ _ _ _ _ _ aj8 (pv 4) (@ax1 _ _ _ _ _ _ am2 (@a04 _ _ _ _)) (nomark _)) (@a05 _ _ _ (@a20 _ _ 6 _ _ _ _ sc_law_node.nd rfl (by walk_at "o") (@a40 _ _ _ _ _ _ _ _ a47 (pv 3) (@a04 _ _ _ _)) (by rfl) (by walk_at "o"))) (@a18 _))
    (@a01 _ _ _ _ _ (@a33 _ _ _ _ _ _ _ _ (@ag3 _ _ _ (@PW.pt _ _ _ (@aj7 _ _ _ _ _ _ _ (@a07 _ _ _ _ _ _ _ _ a41 (pv 3) (@a40 _ _ _ _ _ _ _ _ a70 (pv 2) (@a04 _ _ _ _)) (nomark _)) (@ae4 _ _ _ _ (@a07 _ _ _ _ _ _ _ _ aj8 (pv 5) (@a04 _ _ _ _) (nomark _)))))) (@a01 _ _ _ _ _ (@a20 _ _ 7 _ _ _ _ sc_law_node.nd rfl (by walk_at "o") (@a08 _ _ _ _ _ _ _ _ _ _ _ _ _ _ _ _ G__law_digit (hr.mono (by omega)) rfl T.f__law_digit.m T.f__law_digit.F.kp T.f__law_digit.b .nil a28 (@a00 _ _ _ _ _ (pv 0) (@a00 _ _ _ _ _ (@a04 _ _ _ _) (@a02 _) (by rfl)) (by rfl)) (by decide) (by rfl) (by rfl)) (by rfl) (by walk_at "o"))
     (@a01 _ _ _ _ _ (@a33 _ _ _ _ _ _ _ _ (@a07 _ _ _ _ _ _ _ _ aq6 (pv 7) (@a04 _ _ _ _) (nomark _)) (@a05 _ _ _ (@a19 _ _ _ _ (@a08 _ _ _ _ _ _ _ _ _ _ _ _ _ _ _ _ G__law_wait (hr.mono (by omega)) rfl T.f__law_wait.m T.f__law_wait.F.kp T.f__law_wait.b .nil a28 (@a00 _ _ _ _ _ (pv 0) (@a00 _ _ _ _ _ (pv 2) (@a00 _ _ _ _ _ (pv 3) (@a00 _ _ _ _ _ (pv 6) (@a02 _) (by rfl)) (by rfl)) (by rfl)) (by rfl)) (by decide) (by rfl) (by rfl)))) (@a18 _))
     (@a05 _ _ _ (@a19 _ _ _ _ (@a14 _ _ _ _ _ _ _ (a29 K) (@a31 _ _ _ _ (@a00 _ _ _ _ _ (@a23 _ _ _ _ _ (@a00 _ _ _ _ _ (@a21 _ _ _ _) (@a02 _) (by rfl))) (@a00 _ _ _ _ _ (@a23 _ _ _ _ _ (@a00 _ _ _ _ _ (@a21 _ _ _ _) (@a02 _) (by rfl))) (@a02 _) (by rfl)) (by rfl))) (@a40 _ _ _ _ _ _ _ _ a70 (pv 7) (@a04 _ _ _ _)) (fun _ _=>rfl)))))) (@a18 _))
    (@a01 _ _ _ _ _ (@a20 _ _ 8 _ _ _ _ sc_law_node.nd rfl (by walk_at "o") (@a40 _ _ _ _ _ _ _ _ a47 (@a40 _ _ _ _ _ _ _ _ a47 (pv 3) (@a04 _ _ _ _)) (@a08 _ _ _ _ _ _ _ _ _ _ _ _ _ _ _ _ G__law_digit (hr.mono (by omega)) rfl T.f__law_digit.m T.f__law_digit.F.kp T.f__law_digit.b .nil a28 (@a00 _ _ _ _ _ (pv 0) (@a00 _ _ _ _ _ (@a40 _ _ _ _ _ _ _ _ a70 (@a40 _ _ _ _ _ _ _ _ a70 (pv 2) (pv 3)) (@a04 _ _ _ _)) (@a02 _) (by rfl)) (by rfl)) (by decide) (by rfl) (by rfl))) (by rfl) (by walk_at "o"))
    (@a01 _ _ _ _ _ (@a20 _ _ 9 _ _ _ _ sc_law_node.nd rfl (by walk_at "o") (@a40 _ _ _ _ _ _ _ _ a47 (@a40 _ _ _ _ _ _ _ _ a47 (pv 3) (@a04 _ _ _ _)) (@a08 _ _ _ _ _ _ _ _ _ _ _ _ _ _ _ _ G__law_digit (hr.mono (by omega)) rfl T.f__law_digit.m T.f__law_digit.F.kp T.f__law_digit.b .nil a28 (@a00 _ _ _ _ _ (pv 0) (@a00 _ _ _ _ _ (@a40 _ _ _ _ _ _ _ _ a70 (@a40 _ _ _ _ _ _ _ _ a70 (pv 2) (pv 3)) (@a04 _ _ _ _)) (@a02 _) (by rfl)) (by rfl)) (by decide) (by rfl) (by rfl))) (by rfl) (by walk_at "o"))
    (@a01 _ _ _ _ _ (@a33 _ _ _ _ _ _ _ _ (@a07 _ _ _ _ _ _ _ _ a41 (pv 5) (@a04 _ _ _ _) (nomark _)) (@a05 _ _ _ (@a19 _ _ _ _ (@a23 _ _ _ _ _ (@a00 _ _ _ _ _ (@a21 _ _ _ _) (@a00 _ _ _ _ _ (@a08 _ _ _ _ _ _ _ _ _ _ _ _ _ _ _ _ G__law_digit (hr.mono (by omega)) rfl T.f__law_digit.m T.f__law_digit.F.kp T.f__law_digit.b .nil a28 (@a00 _ _ _ _ _ (pv 0) (@a00 _ _ _ _ _ (@a04 _ _ _ _) (@a02 _) (by rfl)) (by rfl)) (by decide) (by rfl) (by rfl)) (@a00 _ _ _ _ _ (@a21 _ _ _ _) (@a00 _ _ _ _ _ (pv 8) (@a02 _) (by rfl)) (by rfl)) (by rfl)) (by rfl))))) (@a18 _))
    (@a01 _ _ _ _ _ (@a33 _ _ _ _ _ _ _ _ (@PW.pt _ _ _ (@ai0 _ _ _ _ _ _ _ (@a07 _ _ _ _ _ _ _ _ a41 (pv 5) (@a04 _ _ _ _) (nomark _)) (@ac8 _ _ _ _ (@a07 _ _ _ _ _ _ _ _ (b11 K (by exact hr.units)) (pv 1) (@a31 _ _ _ _ (@a02 _)) (nomark _))))) (@a05 _ _ _ (@a19 _ _ _ _ (@a23 _ _ _ _ _ (@a00 _ _ _ _ _ (@a21 _ _ _ _) (@a00 _ _ _ _ _ (@a14 _ _ _ _ _ _ _ (a06 K) (@a14 _ _ _ _ _ _ _ (a29 K) (pv 1) (@a08 _ _ _ _ _ _ _ _ _ _ _ _ _ _ _ _ G__law_digit (hr.mono (by omega)) rfl T.f__law_digit.m T.f__law_digit.F.kp T.f__law_digit.b .nil a28 (@a00 _ _ _ _ _ (pv 0) (@a00 _ _ _ _ _ (@a46 _ _ _ _ _ _ _ _ _ (a97 K) (by rfl) T.z_len ad7 (@a00 _ _ _ _ _ (pv 1) (@a02 _) (by rfl)) (by decide) (by decide) (by rfl) (by rfl)) (@a02 _) (by rfl)) (by rfl)) (by decide) (by rfl) (by rfl)) (fun _ _=>rfl)) (@a04 _ _ _ _) (fun _ _=>rfl)) (@a00 _ _ _ _ _ (@a08 _ _ _ _ _ _ _ _ _ _ _ _ _ _ _ _ G__law_expression (hr.mono (by omega)) rfl T.f__law_expression.m T.f__law_expression.F.kp T.f__law_expression.b .nil a28 (@a00 _ _ _ _ _ (pv 0) (@a00 _ _ _ _ _ (pv 1) (@a02 _) (by rfl)) (by rfl)) (by decide) (by rfl) (by rfl)) (@a00 _ _ _ _ _ (pv 8) (@a02 _) (by rfl)) (by rfl)) (by rfl)) (by rfl))))) (@a18 _))
    (@a01 _ _ _ _ _ (@a33 _ _ _ _ _ _ _ _ (@a07 _ _ _ _ _ _ _ _ a41 (pv 5) (@a04 _ _ _ _) (nomark _)) (@a05 _ _ _ (@a19 _ _ _ _ (@a23 _ _ _ _ _ (@a00 _ _ _ _ _ (@a21 _ _ _ _) (@a00 _ _ _ _ _ (@a08 _ _ _ _ _ _ _ _ _ _ _ _ _ _ _ _ G__law_condition (hr.mono (by omega)) rfl T.f__law_condition.m T.f__law_condition.F.kp T.f__law_condition.b .nil a28 (@a00 _ _ _ _ _ (pv 0) (@a00 _ _ _ _ _ (pv 1) (@a02 _) (by rfl)) (by rfl)) (by decide) (by rfl) (by rfl)) (@a00 _ _ _ _ _ (pv 8) (@a00 _ _ _ _ _ (pv 9) (@a02 _) (by rfl)) (by rfl)) (by rfl)) (by rfl))))) (@a18 _))
    (@a01 _ _ _ _ _ (@a33 _ _ _ _ _ _ _ _ (@ag3 _ _ _ (@PW.pt _ _ _ (@ai0 _ _ _ _ _ _ _ (@a07 _ _ _ _ _ _ _ _ a41 (pv 5) (@a04 _ _ _ _) (nomark _)) (@ac8 _ _ _ _ (@a07 _ _ _ _ _ _ _ _ aj8 (pv 4) (@a04 _ _ _ _) (nomark _)))))) (@a05 _ _ _ (@a19 _ _ _ _ (@a23 _ _ _ _ _ (@a00 _ _ _ _ _ (@a21 _ _ _ _) (@a00 _ _ _ _ _ (pv 8) (@a00 _ _ _ _ _ (pv 9) (@a02 _) (by rfl)) (by rfl)) (by rfl))))) (@a18 _))
    (@a01 _ _ _ _ _ (@a33 _ _ _ _ _ _ _ _ (@a07 _ _ _ _ _ _ _ _ aj8 (pv 5) (@a04 _ _ _ _) (nomark _)) (@a05 _ _ _ (@a19 _ _ _ _ (@a08 _ _ _ _ _ _ _ _ _ _ _ _ _ _ _ _ G__law_wait (hr.mono (by omega)) rfl T.f__law_wait.m T.f__law_wait.F.kp T.f__law_wait.b .nil a28 (@a00 _ _ _ _ _ (pv 0) (@a00 _ _ _ _ _ (pv 2) (@a00 _ _ _ _ _ (pv 3) (@a00 _ _ _ _ _ (pv 6) (@a02 _) (by rfl)) (by rfl)) (by rfl)) (by rfl)) (by decide) (by rfl) (by rfl)))) (@a18 _))
    (@a05 _ _ _ (@a19 _ _ _ _ (@a23 _ _ _ _ _ (@a00 _ _ _ _ _ (@a21 _ _ _ _) (@a00 _ _ _ _ _ (@a14 _ _ _ _ _ _ _ (a29 K) (@a31 _ _ _ _ (@a00 _ _ _ _ _ (@a21 _ _ _ _) (@a00 _ _ _ _ _ (@a21 _ _ _ _) (@a00 _ _ _ _ _ (@a21 _ _ _ _) (@a02 _) (by rfl)) (by rfl)) (by rfl))) (@a08 _ _ _ _ _ _ _ _ _ _ _ _ _ _ _ _ G__law_digit (hr.mono (by omega)) rfl T.f__law_digit.m T.f__law_digit.F.kp T.f__law_digit.b .nil a28 (@a00 _ _ _ _ _ (pv 0) (@a00 _ _ _ _ _ (@a04 _ _ _ _) (@a02 _) (by rfl)) (by rfl)) (by decide) (by rfl) (by rfl)) (fun _ _=>rfl)) (@a00 _ _ _ _ _ (pv 8) (@a02 _) (by rfl)) (by rfl)) (by rfl)))))))))))))))),?_⟩
   walk_at "go"
   refine ⟨d,l,9,rfl,hD.dk,by decide,by decide,fun kind H1 hk o1 D1=>?_⟩
   have hD1:=hD.off o1 D1
   walk_at "run"
   refine a62 (fun σ' H'=>∃ (first:Nat),σ'=[some (.ref d),some (.ref lb),some (.int (many:Nat)),some (.int (own:Nat)),some (.int calls),some (.int (kind:Nat)),some (.int (first:Nat)),none,none,none]∧H1=H'∧first≤many∧(-1<calls→first=own+1)) ?_ ?_
   · walk_at "run"
     by_cases hc:-1<calls
     · refine a26 hc ?_
       walk_at "run"
       exact ⟨own+1,by simp,rfl,by omega,fun _=>rfl⟩
     · refine a24 hc ?_
       walk_at "run"
       exact ⟨0,rfl,rfl,by omega,fun z=>absurd z hc⟩
   rintro σ' H' ⟨first,rfl,rfl,hf1,hf2⟩
   have wt:∀ (H2:Hp),Off d l H H2→Dh H2 d l→bp8 K [.ref d,.int (many:Nat),.int (own:Nat),.int (first:Nat)] H2 Q E0:=fun H2 o2 D2 =>
    ⟨d,l,many,own,first,rfl,D2,ho,hm,hf1,fun v lm br m H3 o3 D3 t3 a3 g1 g2 g3 g4 g5=>q v (.wait lm br m) H3 (o2.trans o3) D3 (hD.dk.tups (o2.trans o3)) a3 ⟨⟨g1,g2,fun b hb=>(g3 b hb).2.2⟩,fun b hb=>(g3 b hb).2.1,g4,fun hc=>by
     have hf:=hf2 (of_decide_eq_true hc)
     exact ⟨fun b hb=>by have:=(g3 b hb).1; omega,fun z=>by have:=g5 z; omega⟩⟩ (fun z=>absurd z (by simp only [Nd.word]; decide +kernel))⟩
   walk_at "run"
   refine ao4 ((own:Int)=many - 1∨(6:Int)<kind) (fun R hR=>?_) ?_
   · walk_at "run"
     by_cases hh:(own:Int)=many - 1
     · refine a26 hh ?_
       exact rT hR (.inl hh)
     · refine a24 hh ?_
       walk_at "run"
       by_cases h7:(6:Int)<kind
       · rw [decide_eq_true h7]
         exact rT hR (.inr h7)
       · rw [decide_eq_false h7]
         exact rF hR (fun z=>by rcases z with z | z; exact hh z; exact h7 z)
   by_cases hA:(own:Int)=many - 1∨(6:Int)<kind
   · refine a26 hA ?_
     walk_at "run"
     refine ⟨d,l,4,rfl,D1,by decide,by decide,fun last H2 hl o2 D2=>?_⟩
     walk_at "run"
     have o02:=o1.trans o2
     by_cases h2:(last:Int)<2
     · refine a26 h2 ?_
       walk_at "run"
       exact wt H2 o02 D2
     refine a24 h2 ?_
     walk_at "run"
     intro p3 H3 f3 s3 e3
     walk_at "run"
     intro p4 H4 f4 s4 e4
     walk_at "run"
     intro p5 H5 f5 s5 e5
     walk_at "run"
     have o05:Off d l H H5:=o02.trans (s3.trans (s4.trans s5)).off
     have D5:=D2.same (s3.trans (s4.trans s5))
     have:last=2∨last=3:=by omega
     rcases this with rfl | rfl
     · exact a45 (SqL.of e5) (show atI _ (((2:Nat):Int) - 2)=_ from a03 (j:=0) rfl) (q _ .back H5 o05 D5 (hD.dk.tups o05) (aa1 ((s4.trans s5) _ _ e3) a30) trivial (fun z=>absurd z (by simp only [Nd.word]; decide +kernel)))
     · exact a45 (SqL.of e5) (show atI _ (((3:Nat):Int) - 2)=_ from a03 (j:=1) rfl) (q _ .stop H5 o05 D5 (hD.dk.tups o05) (aa1 (s5 _ _ e4) a30) trivial (fun z=>absurd z (by simp only [Nd.word]; decide +kernel)))
   refine a24 hA ?_
   have ho2:own+1<many:=by
    have:¬ ((own:Int)=many - 1):=fun z=>hA (.inl z)
    omega
   have hk7:kind≤6:=by
    have:¬ ((6:Int)<kind):=fun z=>hA (.inr z)
    omega
   walk_at "run"
   rw [show (many:Int) - own - 1=((many - own - 1:Nat):Int) by omega]
   refine ⟨d,l,many - own - 1,rfl,D1,by omega,by omega,fun j2 H2 hj2 o2 D2=>?_⟩
   walk_at "run"
   rw [show (many:Int) - own - 1=((many - own - 1:Nat):Int) by omega]
   refine ⟨d,l,many - own - 1,rfl,D2,by omega,by omega,fun j3 H3 hj3 o3 D3=>?_⟩
   have o03:=(o1.trans o2).trans o3
   have hD3:=hD.off o03 D3
   walk_at "run"
   have et:((own:Int)+1+j2)=((own+1+j2:Nat):Int):=by omega
   have eo:((own:Int)+1+j3)=((own+1+j3:Nat):Int):=by omega
   rw [et,eo]
   by_cases k1:(kind:Int)=1
   · refine a26 k1 ?_
     walk_at "run"
     refine ⟨d,l,10,rfl,D3,by decide,by decide,fun hl H4 hh o4 D4=>?_⟩
     walk_at "run"
     intro p5 H5 f5 s5 e5
     have o05:Off d l H H5:=(o03.trans o4).trans s5.off
     refine q _ (.hand (hl:Int) "no" (own+1+j2)) H5 o05 (D4.same s5) (hD.dk.tups o05) ?_ ⟨⟨by omega,by omega,by decide +kernel⟩,by omega,by omega⟩ (fun z=>absurd z (by simp only [Nd.word]; decide +kernel))
     exact at_tup0.mpr ⟨p5,_,rfl,e5,ats_cons0.mpr ⟨_,_,rfl,a30,ats_cons0.mpr ⟨_,_,rfl,a55,ats_cons0.mpr ⟨_,_,rfl,a30,ats_cons0.mpr ⟨_,_,rfl,a55,ats_nil0.mpr rfl⟩⟩⟩⟩⟩
   refine a24 k1 ?_
   walk_at "run"
   rename_i N hN
   have tl:∀ H4,Off d l H H4→Dh H4 d l→N [some (.ref d),some (.ref lb),some (.int (many:Nat)),some (.int (own:Nat)),some (.int calls),some (.int (kind:Nat)),some (.int (first:Nat)),none,some (.int ((own+1+j2:Nat):Int)),some (.int ((own+1+j3:Nat):Int))] H4:=fun H4 o4 D4=>by
    refine hN _ _ ?_
    have hD4:=hD.off o4 D4
    walk_at "run"
    by_cases k3:(kind:Int)=3
    · refine a26 k3 ?_
      walk_at "run"
      refine ⟨d,l,lb,bs,rfl,hD4,hbl,fun v5 c H5 o5 D5 t5 a5 g1 g2=>?_⟩
      walk_at "run"
      intro p6 H6 f6 s6 e6
      have o06:Off d l H H6:=(o4.trans o5).trans s6.off
      refine q _ (.test c (own+1+j2) (own+1+j3)) H6 o06 (D5.same s6) (hD.dk.tups o06) ?_ ⟨⟨g1,g2⟩,⟨by omega,by omega⟩,by omega,by omega⟩ (fun z=>absurd z (by simp only [Nd.word]; decide +kernel))
      exact at_tup0.mpr ⟨p6,_,rfl,e6,ats_cons0.mpr ⟨_,_,rfl,a30,ats_cons0.mpr ⟨_,_,rfl,a5.same s6,ats_cons0.mpr ⟨_,_,rfl,a55,ats_cons0.mpr ⟨_,_,rfl,a55,ats_nil0.mpr rfl⟩⟩⟩⟩⟩
    refine a24 k3 ?_
    walk_at "run"
    refine ao4 ((kind:Int)=4∧0<calls) (fun R hR=>?_) ?_
    · walk_at "run"
      by_cases hh:(kind:Int)=4
      · refine a26 hh ?_
        walk_at "run"
        by_cases h7:0<calls
        · rw [decide_eq_true h7]
          exact rT hR ⟨hh,h7⟩
        · rw [decide_eq_false h7]
          exact rF hR (fun z=>h7 z.2)
      · refine a24 hh ?_
        exact rF hR (fun z=>hh z.1)
    by_cases k4:(kind:Int)=4∧0<calls
    · refine a26 k4 ?_
      walk_at "run"
      intro p6 H6 f6 s6 e6
      have o06:Off d l H H6:=o4.trans s6.off
      refine q _ (.call (own+1+j2) (own+1+j3)) H6 o06 (D4.same s6) (hD.dk.tups o06) ?_ ⟨decide_eq_true (by omega),⟨by omega,by omega⟩,by omega,by omega⟩ (fun _=>k4.2)
      exact at_tup0.mpr ⟨p6,_,rfl,e6,ats_cons0.mpr ⟨_,_,rfl,a30,ats_cons0.mpr ⟨_,_,rfl,a55,ats_cons0.mpr ⟨_,_,rfl,a55,ats_nil0.mpr rfl⟩⟩⟩⟩
    refine a24 k4 ?_
    walk_at "run"
    by_cases k5:(4:Int)<kind
    · refine a26 k5 ?_
      walk_at "run"
      exact wt H4 o4 D4
    refine a24 k5 ?_
    walk_at "run"
    intro p5 H5 f5 s5 e5
    walk_at "run"
    refine ⟨d,l,3,rfl,D4.same s5,by decide,by decide,fun r H6 hr6 o6 D6=>?_⟩
    have hne:=D4.new f5
    obtain ⟨x,hx,hxl⟩:∃ x:Str,[V.str "a",.str "bb",.str "yes"][r]?=some (.str x)∧x.length≤100:=by
     have:r=0∨r=1∨r=2:=by omega
     rcases this with rfl | rfl | rfl
     · exact ⟨_,rfl,by decide +kernel⟩
     · exact ⟨_,rfl,by decide +kernel⟩
     · exact ⟨_,rfl,by decide +kernel⟩
    refine a45 (SqL.of (o6 _ _ hne.1 hne.2 e5)) (a03 hx) ?_
    walk_at "run"
    intro p7 H7 f7 s7 e7
    have o07:Off d l H H7:=(o4.trans s5.off).trans (o6.trans s7.off)
    refine q _ (.say x (own+1+j2)) H7 o07 (D6.same s7) (hD.dk.tups o07) ?_ ⟨hxl,by omega,by omega⟩ (fun z=>absurd z (by simp only [Nd.word]; decide +kernel))
    exact at_tup0.mpr ⟨p7,_,rfl,e7,ats_cons0.mpr ⟨_,_,rfl,a30,ats_cons0.mpr ⟨_,_,rfl,a30,ats_cons0.mpr ⟨_,_,rfl,a55,ats_nil0.mpr rfl⟩⟩⟩⟩
   by_cases k2:(kind:Int)=2
   · refine a26 k2 ?_
     walk_at "run"
     intro p4 H4 f4 s4 e4
     have hD4:=hD3.same s4
     obtain ⟨bvs,b1,b2⟩:=hD4.bx
     have hvl:bvs.length=bs.length:=b2.1
     refine be3 (SqL.of b1) (SqL.of e4) ?_
     walk_at "run"
     cases bvs with
     | nil =>
       refine iteF ?_
       exact tl H4 (o03.trans s4.off) (D3.same s4)
     | cons z zs =>
       refine iteT ?_
       walk_at "run"
       refine ag1 (SqL.of b1) ?_
       walk_at "run"
       refine ⟨d,l,(z::zs).length,rfl,hD4.dk,by simp,by omega,fun j H5 hj o5 D5=>?_⟩
       have hD5:=hD4.off o5 D5
       have t45:=hD4.dk.tups o5
       obtain ⟨x,hx⟩:∃ x,(z::zs)[j]?=some x:=⟨_,List.getElem?_eq_getElem hj⟩
       obtain ⟨b,hb⟩:∃ b,bs[j]?=some b:=⟨_,List.getElem?_eq_getElem (by omega)⟩
       obtain ⟨xa,rfl,hxa⟩:=b2.2 j x b hx hb
       refine a45 (SqL.of (o5 _ _ hD4.n1 hD4.n2 b1)) (a03 hx) ?_
       walk_at "run"
       refine a22 (SqT.of (t45 _ _ hxa)) (a03 (j:=0) rfl) ?_
       walk_at "run"
       refine ⟨d,l,lb,bs,rfl,hD5,hbl,fun v6 e H6 o6 D6 t6 a6 g1 g2=>?_⟩
       walk_at "run"
       intro p7 H7 f7 s7 e7
       have hmem:b.1∈bs.map (·.1):=List.mem_map.mpr ⟨b,List.mem_of_getElem? hb,rfl⟩
       have o07:Off d l H H7:=((o03.trans s4.off).trans o5).trans (o6.trans s7.off)
       refine q _ (.put b.1 e (own+1+j2)) H7 o07 (D6.same s7) (hD.dk.tups o07) ?_ ⟨⟨g1,g2,hmem⟩,by omega,by omega⟩ (fun z=>absurd z (by simp only [Nd.word]; decide +kernel))
       exact at_tup0.mpr ⟨p7,_,rfl,e7,ats_cons0.mpr ⟨_,_,rfl,a30,ats_cons0.mpr ⟨_,_,rfl,a30,ats_cons0.mpr ⟨_,_,rfl,a6.same s7,ats_cons0.mpr ⟨_,_,rfl,a55,ats_nil0.mpr rfl⟩⟩⟩⟩⟩
   · refine a24 k2 ?_
     exact tl H3 o03 D3
structure GB (bs:List (Str×Int)) (ns:List Nd) (f:Nat) (cm:Bool):Prop where
 at_:∀ i nd,ns[i]?=some nd→NdB (bs.map (·.1)) ns.length i cm nd
 f:f<ns.length
 nl:ns.length≤16
 nd:(bs.map (·.1)).Nodup
 bz:∀ b∈bs,0<b.2∧b.2<1000
 bl:bs.length≤2
def GrL (H:Hp) (g lb ln:Addr) (bs:List (Str×Int)) (ns:List Nd) (f:Nat):Prop:=∃ bvs nvs,H g=some (.tup [.ref lb,.ref ln,.int (f:Nat)])∧H lb=some (.lst bvs)∧Each (BxAt H) bvs bs∧H ln=some (.lst nvs)∧Tr.Ats H (ns.map Nd.tr) nvs []
def bv1 (K:PySem.W.Frag):Sp:=fun vs H Q _=>∃ (d l:Addr),vs=[.ref d]∧Dh H d l∧∀ g lb ln bs ns f cm H',Off d l H H'→Dh H' d l→H lb=none→H ln=none→GrL H' g lb ln bs ns f→GB bs ns f cm→Q (.ref g) H'
theorem ap7 (T:Txt K mg t):FnOk P w K mg base CX0 5 t.a__law_graph t.fd__law_graph ["deck"] (bv1 K):=by
 have G__law_digit:=a48 (P:=P) (w:=w) (base:=base) T
 have G__law_node:=as4 (P:=P) (w:=w) (base:=base) T
 refine T.f__law_graph.F.ok sc_law_graph (fun vs H Q E h=>?_) (fun cdv A outer s H vs Q E hr h=>?_)
 · obtain ⟨d,l,rfl,_⟩:=h
   rfl
 · obtain ⟨d,l,rfl,hD,q⟩:=h
   refine ⟨_,(@a01 _ _ _ _ _ (@a20 _ _ 1 _ _ _ _ sc_law_graph.nd rfl (by walk_at "o") (@a14 _ _ _ _ _ _ _ (a29 K) (@a31 _ _ _ _ (@a00 _ _ _ _ _ (@a31 _ _ _ _ (@a02 _)) (@a00 _ _ _ _ _ (@a31 _ _ _ _ (@a00 _ _ _ _ _ (@a23 _ _ _ _ _ (@a00 _ _ _ _ _ (@a21 _ _ _ _) (@a00 _ _ _ _ _ (@a04 _ _ _ _) (@a02 _) (by rfl)) (by rfl))) (@a02 _) (by rfl))) (@a00 _ _ _ _ _ (@a31 _ _ _ _ (@a00 _ _ _ _ _ (@a23 _ _ _ _ _ (@a00 _ _ _ _ _ (@a21 _ _ _ _) (@a00 _ _ _ _ _ (@a40 _ _ _ _ _ _ _ _ a47 (@a04 _ _ _ _) (@a08 _ _ _ _ _ _ _ _ _ _ _ _ _ _ _ _ G__law_digit (hr.mono (by omega)) rfl T.f__law_digit.m T.f__law_digit.F.kp T.f__law_digit.b .nil a28 (@a00 _ _ _ _ _ (pv 0) (@a00 _ _ _ _ _ (@a04 _ _ _ _) (@a02 _) (by rfl)) (by rfl)) (by decide) (by rfl) (by rfl))) (@a02 _) (by rfl)) (by rfl))) (@a00 _ _ _ _ _ (@a23 _ _ _ _ _ (@a00 _ _ _ _ _ (@a21 _ _ _ _) (@a00 _ _ _ _ _ (@a04 _ _ _ _) (@a02 _) (by rfl)) (by rfl))) (@a02 _) (by rfl)) (by rfl))) (@a02 _) (by rfl)) (by rfl)) (by rfl))) (@a08 _ _ _ _ _ _ _ _ _ _ _ _ _ _ _ _ G__law_digit (hr.mono (by omega)) rfl T.f__law_digit.m T.f__law_digit.F.kp T.f__law_digit.b .nil a28 (@a00 _ _ _ _ _ (pv 0) (@a00 _ _ _ _ _ (@a04 _ _ _ _) (@a02 _) (by rfl)) (by rfl)) (by decide) (by rfl) (by rfl)) (fun _ _=>rfl)) (by rfl) (by walk_at "o"))
    (@a01 _ _ _ _ _ (@a20 _ _ 2 _ _ _ _ sc_law_graph.nd rfl (by walk_at "o") (@a14 _ _ _ _ _ _ _ (a29 K) (@a31 _ _ _ _ (@a00 _ _ _ _ _ (@ax1 _ _ _ _ _ _ am2 (@a04 _ _ _ _)) (@a00 _ _ _ _ _ (@a04 _ _ _ _) (@a02 _) (by rfl)) (by rfl))) (@a08 _ _ _ _ _ _ _ _ _ _ _ _ _ _ _ _ G__law_digit (hr.mono (by omega)) rfl T.f__law_digit.m T.f__law_digit.F.kp T.f__law_digit.b .nil a28 (@a00 _ _ _ _ _ (pv 0) (@a00 _ _ _ _ _ (@a04 _ _ _ _) (@a02 _) (by rfl)) (by rfl)) (by decide) (by rfl) (by rfl)) (fun _ _=>rfl)) (by rfl) (by walk_at "o"))
    (@a38 _ _ _ _ _ (@a33 _ _ _ _ _ _ _ _ (@a07 _ _ _ _ _ _ _ _ aj8 (pv 2) (@a04 _ _ _ _) (nomark _)) (@a05 _ _ _ (@a20 _ _ 1 _ _ _ _ sc_law_graph.nd rfl (by walk_at "o") (@at6 _ _ _ _ _ _ _ _ _ _ (at8 K) (@a31 _ _ _ _ (@a00 _ _ _ _ _ (@a23 _ _ _ _ _ (@a00 _ _ _ _ _ (@a21 _ _ _ _) (@a00 _ _ _ _ _ (@a40 _ _ _ _ _ _ _ _ a47 (@a04 _ _ _ _) (@a08 _ _ _ _ _ _ _ _ _ _ _ _ _ _ _ _ G__law_digit (hr.mono (by omega)) rfl T.f__law_digit.m T.f__law_digit.F.kp T.f__law_digit.b .nil a28 (@a00 _ _ _ _ _ (pv 0) (@a00 _ _ _ _ _ (@a04 _ _ _ _) (@a02 _) (by rfl)) (by rfl)) (by decide) (by rfl) (by rfl))) (@a02 _) (by rfl)) (by rfl))) (@a02 _) (by rfl))) (@bc0 _) (@aq7 _ _ _ (@a46 _ _ _ _ _ _ _ _ _ (a97 K) (by rfl) T.z_len ad7 (@a00 _ _ _ _ _ (pv 1) (@a02 _) (by rfl)) (by decide) (by decide) (by rfl) (by rfl)))) (by rfl) (by walk_at "o"))) (@a18 _))
    (@a01 _ _ _ _ _ (@a20 _ _ 3 _ _ _ _ sc_law_graph.nd rfl (by walk_at "o") (@a40 _ _ _ _ _ _ _ _ a47 (@a04 _ _ _ _) (@a08 _ _ _ _ _ _ _ _ _ _ _ _ _ _ _ _ G__law_digit (hr.mono (by omega)) rfl T.f__law_digit.m T.f__law_digit.F.kp T.f__law_digit.b .nil a28 (@a00 _ _ _ _ _ (pv 0) (@a00 _ _ _ _ _ (@a04 _ _ _ _) (@a02 _) (by rfl)) (by rfl)) (by decide) (by rfl) (by rfl))) (by rfl) (by walk_at "o"))
    (@a01 _ _ _ _ _ (@a20 _ _ 4 _ _ _ _ sc_law_graph.nd rfl (by walk_at "o") (@a31 _ _ _ _ (@a02 _)) (by rfl) (by walk_at "o"))
    (@a01 _ _ _ _ _ (@ai2 _ _ _ _ _ _ _ _ PassesOwn.never rfl (ab9 rfl T.z_range (@a00 _ _ _ _ _ (pv 3) (@a02 _) (by rfl))) (a36 (i:=5) sc_law_graph.nd rfl (by walk_at "o")) (@a01 _ _ _ _ _ (@a60 _ _ _ _ (@a74 _ K _ _ _ _ _ _ _ _ _ _ _ PySem.F.plainAttrs_list PySem.F.slot_list_append PySem.F.type_list_append a50 (pv 4) (@a00 _ _ _ _ _ (@a08 _ _ _ _ _ _ _ _ _ _ _ _ _ _ _ _ G__law_node (hr.mono (by omega)) rfl T.f__law_node.m T.f__law_node.F.kp T.f__law_node.b .nil a28 (@a00 _ _ _ _ _ (pv 0) (@a00 _ _ _ _ _ (pv 1) (@a00 _ _ _ _ _ (pv 3) (@a00 _ _ _ _ _ (pv 5) (@a00 _ _ _ _ _ (pv 2) (@a02 _) (by rfl)) (by rfl)) (by rfl)) (by rfl)) (by rfl)) (by decide) (by rfl) (by rfl)) (@a02 _) (by rfl)) (by rfl) (by rfl) (by rfl) (by rfl) (by rfl) (by rfl)) (by rfl))
     (@a05 _ _ _ (@a20 _ _ 2 _ _ _ _ sc_law_graph.nd rfl (by walk_at "o") (@a40 _ _ _ _ _ _ _ _ a70 (pv 2) (@a34 _ _ _ _ _ _ _ _ _ aj1 (by rfl) T.z_int ag0 (@a00 _ _ _ _ _ (@a52 _ _ _ _ _ _ _ _ a41 (@a14 _ _ _ _ _ _ _ (a06 K) (@a14 _ _ _ _ _ _ _ (a29 K) (pv 4) (@ax1 _ _ _ _ _ _ am2 (@a04 _ _ _ _)) (fun _ _=>rfl)) (@a04 _ _ _ _) (fun _ _=>rfl)) (@a21 _ _ _ _) (nomark _)) (@a02 _) (by rfl)) (by decide) (by decide) (by rfl) (by rfl))) (by rfl) (by walk_at "o")))) (by intro _; rfl))
    (@a05 _ _ _ (@a19 _ _ _ _ (@a23 _ _ _ _ _ (@a00 _ _ _ _ _ (pv 1) (@a00 _ _ _ _ _ (pv 4) (@a00 _ _ _ _ _ (@a08 _ _ _ _ _ _ _ _ _ _ _ _ _ _ _ _ G__law_digit (hr.mono (by omega)) rfl T.f__law_digit.m T.f__law_digit.F.kp T.f__law_digit.b .nil a28 (@a00 _ _ _ _ _ (pv 0) (@a00 _ _ _ _ _ (pv 3) (@a02 _) (by rfl)) (by rfl)) (by decide) (by rfl) (by rfl)) (@a02 _) (by rfl)) (by rfl)) (by rfl))))))))))),?_⟩
   have sl:(1000000:Nat)≤sizeLine:=le_line (Nat.le_refl _)
   walk_at "go"
   intro p1 H1 f1 s1 e1
   walk_at "run"
   intro p2 H2 f2 s2 e2
   walk_at "run"
   intro p3 H3 f3 s3 e3
   walk_at "run"
   have s13:=s1.trans (s2.trans s3)
   have D3:=hD.same s13
   refine ⟨d,l,4,rfl,D3,by decide,by decide,fun z1 H4 hz1 o4 D4=>?_⟩
   walk_at "run"
   intro p5 H5 f5 s5 e5
   walk_at "run"
   intro p6 H6 f6 s6 e6
   walk_at "run"
   intro p7 H7 f7 s7 e7
   walk_at "run"
   intro p8 H8 f8 s8 e8
   walk_at "run"
   have s58:=s5.trans (s6.trans (s7.trans s8))
   have D8:=D4.same s58
   refine ⟨d,l,3,rfl,D8,by decide,by decide,fun z2 H9 hz2 o9 D9=>?_⟩
   have o08:Off d l H H8:=(s13.off.trans o4).trans s58.off
   have o09:Off d l H H9:=o08.trans o9
   have n8:=(D4.same (s5.trans (s6.trans s7))).new f8
   have t89:=D8.tups o9
   have t49:Tups H4 H9:=s58.tups.trans t89
   have t39:Tups H3 H9:=(D3.tups o4).trans t49
   obtain ⟨lb0,bs0,hlb0,hbx0,hnd0,hbz0,hbl0,flb0⟩:∃ (lb0:Addr) (bs0:List (Str×Int)),[V.ref p1,.ref p3,.ref p7][z2]?=some (.ref lb0)∧(∃ bvs,H9 lb0=some (.lst bvs)∧Each (BxAt H9) bvs bs0)∧(bs0.map (·.1)).Nodup∧(∀ b∈bs0,0<b.2∧b.2<1000)∧bs0.length≤2∧H lb0=none:=by
    have fr:∀ {x:Addr}{Hx:Hp},Off d l H Hx→Dh Hx d l→Hx x=none→H x=none:=fun o k z=>k.free o z
    have:z2=0∨z2=1∨z2=2:=by omega
    rcases this with rfl | rfl | rfl
    · have n1:=hD.new f1
      exact ⟨p1,[],rfl,⟨[],o9 _ _ n1.1 n1.2 (s58 _ _ (o4 _ _ n1.1 n1.2 ((s2.trans s3) _ _ e1))),Each.nil⟩,by simp,by simp,by simp,f1⟩
    · have n3:=(hD.same (s1.trans s2)).new f3
      exact ⟨p3,[("a",4)],rfl,⟨_,o9 _ _ n3.1 n3.2 (s58 _ _ (o4 _ _ n3.1 n3.2 e3)),Each.nil.snoc ⟨p2,rfl,t39 _ _ (s3 _ _ e2)⟩⟩,by simp,by simp,by simp,(s1.trans s2).free f3⟩
    · have n7:=(D4.same (s5.trans s6)).new f7
      refine ⟨p7,[("boxes",2+(z1:Int)),("box",3)],rfl,⟨_,o9 _ _ n7.1 n7.2 (s8 _ _ e7),(Each.nil.snoc ⟨p5,rfl,t89 _ _ ((s6.trans (s7.trans s8)) _ _ e5)⟩).snoc ⟨p6,rfl,t89 _ _ ((s7.trans s8) _ _ e6)⟩⟩,(show [Str.ofString "boxes",Str.ofString "box"].Nodup by decide +kernel),fun b hb=>?_,by simp,fr ((s13.off.trans o4).trans (s5.trans s6).off) (D4.same (s5.trans s6)) f7⟩
      simp only [List.mem_cons,List.not_mem_nil,or_false] at hb
      rcases hb with rfl | rfl
      · exact ⟨by simp; omega,by simp; omega⟩
      · exact ⟨by decide,by decide⟩
   refine a45 (SqL.of (o9 _ _ n8.1 n8.2 e8)) (a03 hlb0) ?_
   walk_at "run"
   intro p10 H10 f10 s10 e10
   walk_at "run"
   have D10:=D9.same s10
   refine ⟨d,l,2,rfl,D10,by decide,by decide,fun z3 H11 hz3 o11 D11=>?_⟩
   have n10:=D9.new f10
   obtain ⟨calls,hcalls,hcc⟩:∃ c:Int,[V.int (-1),.int 3][z3]?=some (.int c)∧(c=-1∨c=3):=by
    have:z3=0∨z3=1:=by omega
    rcases this with rfl | rfl
    · exact ⟨-1,rfl,.inl rfl⟩
    · exact ⟨3,rfl,.inr rfl⟩
   refine a45 (SqL.of (o11 _ _ n10.1 n10.2 e10)) (a03 hcalls) ?_
   walk_at "run"
   have o011:Off d l H H11:=o09.trans (s10.off.trans o11)
   have nl0:lb0≠d∧lb0≠l:=hD.new flb0
   obtain ⟨bvs0,hb1,hb2⟩:=hbx0
   have t911:Tups H9 H11:=s10.tups.trans (D10.tups o11)
   have hb1':=o11 _ _ nl0.1 nl0.2 (s10 _ _ hb1)
   refine a62 (fun σ' H'=>∃ (lb:Addr) (bs:List (Str×Int)),σ'=[some (.ref d),some (.ref lb),some (.int calls),none,none,none]∧Off d l H H'∧DB d l lb bs H'∧(bs.map (·.1)).Nodup∧(∀ b∈bs,0<b.2∧b.2<1000)∧bs.length≤2∧H lb=none) ?_ ?_
   · walk_at "run"
     by_cases hc:0<calls
     · refine a26 hc ?_
       walk_at "run"
       refine ⟨d,l,2,rfl,D11,by decide,by decide,fun z4 H12 hz4 o12 D12=>?_⟩
       walk_at "run"
       intro p13 H13 f13 s13' e13
       walk_at "run"
       intro p14 H14 f14 s14 e14
       walk_at "run"
       refine ag1 (SqL.of ((s13'.trans s14) _ _ (o12 _ _ nl0.1 nl0.2 hb1'))) ?_
       walk_at "run"
       refine bm2 (SqL.of e14) ?_
       intro p15 H15 f15 s15 e15
       have hcut:cutV [V.ref p13] none (some ((bvs0.length:Nat):Int))=[V.ref p13].take bvs0.length:=by
        unfold cutV
        rw [HT.sIx_none,HT.sIx_nat,List.drop_zero,Nat.sub_zero]
        by_cases h:bvs0.length≤[V.ref p13].length
        · rw [Nat.min_eq_left h]
        · rw [Nat.min_eq_right (by omega),List.take_of_length_le (by simp),List.take_of_length_le (by omega)]
       rw [hcut] at e15
       have s135:=s13'.trans (s14.trans s15)
       have D15:=D12.same s135
       have o015:Off d l H H15:=(o011.trans o12).trans s135.off
       have f0:H p15=none:=(D12.same (s13'.trans s14)).free ((o011.trans o12).trans (s13'.trans s14).off) f15
       have n15:=hD.new f0
       have hE:Each (BxAt H15) [V.ref p13] [(Str.ofString "call",2+(z4:Int))]:=Each.nil.snoc ⟨p13,rfl,(s14.trans s15) _ _ e13⟩
       refine ⟨p15,[(Str.ofString "call",2+(z4:Int))].take bvs0.length,rfl,o015,⟨D15,n15.1,n15.2,_,e15,hE.take _⟩,?_,fun b hb=>?_,?_,f0⟩
       · rw [List.map_take]
         exact List.Nodup.sublist (List.take_sublist _ _) (by simp)
       · have:=List.mem_of_mem_take hb
         rw [List.mem_singleton.mp this]
         exact ⟨by simp; omega,by simp; omega⟩
       · simp
         omega
     · refine a24 hc ?_
       walk_at "run"
       exact ⟨lb0,bs0,rfl,o011,⟨D11,nl0.1,nl0.2,bvs0,hb1',hb2.mono fun _ _ z=>BxAt.tups z t911⟩,hnd0,hbz0,hbl0,flb0⟩
   rintro σ' H12 ⟨lb,bs,rfl,o012,hDB,hnd,hbz,hbl,flb⟩
   walk_at "run"
   refine ⟨d,l,16,rfl,hDB.dk,by decide,by decide,fun m0 H13 hm0 o13 D13=>?_⟩
   have hDB13:=hDB.off o13 D13
   walk_at "run"
   intro pn H14 f14 s14 e14
   have hDB14:=hDB13.same s14
   have o014:Off d l H H14:=(o012.trans o13).trans s14.off
   have fpn:H pn=none:=D13.free (o012.trans o13) f14
   have npn:=hD.new fpn
   have npb:pn≠lb:=by
    obtain ⟨bvs,b1,_⟩:=hDB13.bx
    exact fun z=>by rw [z,b1] at f14; cases f14
   walk_at "run"
   have em:((1:Int)+m0)=((1+m0:Nat):Int):=by omega
   rw [em]
   obtain ⟨cm,hcm⟩:∃ cm,cm=decide (-1<calls):=⟨_,rfl⟩
   walk_at "run"
   refine ac0 (lo:=0) (n:=1+m0) (fun i σ H'=>∃ (c:Int) (ns:List Nd) (nvs:List V) (y:Option V),σ=[some (.ref d),some (.ref lb),some (.int c),some (.int ((1+m0:Nat):Int)),some (.ref pn),y]∧cm=decide (-1<c)∧Off d l H H'∧DB d l lb bs H'∧H' pn=some (.lst nvs)∧Tr.Ats H' (ns.map Nd.tr) nvs []∧ns.length=i∧∀ j nd,ns[j]?=some nd→NdB (bs.map (·.1)) (1+m0) j cm nd) ⟨calls,[],[],_,rfl,hcm,o014,hDB14,e14,ats_nil0.mpr rfl,rfl,by simp⟩ ?_ ?_
   · rintro i σ H15 hi ⟨c,ns,nvs,y,rfl,hc,o15,hDB15,e15,hat,hnl,hns⟩
     rw [Int.zero_add]
     walk_at "run"
     refine a89 (SqL.of e15) ?_
     walk_at "run"
     refine ⟨d,l,lb,bs,1+m0,i,c,rfl,hDB15,by omega,hi,by omega,fun v nd H16 o16 D16 t16 a16 g1 g2=>?_⟩
     walk_at "run"
     have e16:=o16 _ _ npn.1 npn.2 e15
     have hvl:nvs.length=ns.length:=by rw [hat.len,List.length_map]
     refine a58 e16 (by omega) ?_
     walk_at "run"
     have tU:Tups H16 (upd H16 pn (.lst (nvs++[v]))):=Tups.upd e16
     refine a45 (SqL.of a32) (ak1 _ _) ?_
     walk_at "run"
     have aU:=aa2 a16 tU
     obtain ⟨na,us,rfl,hna⟩:=Nd.word_at aU
     refine a22 (SqT.of hna) (a03 (j:=0) rfl) ?_
     walk_at "run"
     have oU:Off d l H (upd H16 pn (.lst (nvs++[V.ref na]))):=fun b o h1 h2 e=>by
      rw [a12 (a27 e fpn)]
      exact o16 _ _ h1 h2 (o15 _ _ h1 h2 e)
     have DU:DB d l lb bs (upd H16 pn (.lst (nvs++[V.ref na]))):=by
      have h1:=hDB15.off o16 D16
      obtain ⟨ms,cc,g1,g2,g3⟩:=h1.dk.ex
      obtain ⟨bvs,b1,b2⟩:=h1.bx
      exact ⟨⟨ms,cc,by rw [a12 npn.1.symm]; exact g1,by rw [a12 npn.2.symm]; exact g2,g3⟩,h1.n1,h1.n2,bvs,by rw [a12 npb.symm]; exact b1,b2.mono fun _ _ z=>BxAt.tups z tU⟩
     have hat2:Tr.Ats (upd H16 pn (.lst (nvs++[V.ref na]))) ((ns++[nd]).map Nd.tr) (nvs++[V.ref na]) []:=by
      rw [List.map_append]
      exact (a75 hat (t16.trans tU)).snoc aU
     have hns2:∀ j nd',(ns++[nd])[j]?=some nd'→NdB (bs.map (·.1)) (1+m0) j cm nd':=fun j nd' e=>by
      rcases Nat.lt_or_ge j ns.length with hj | hj
      · rw [List.getElem?_append_left hj] at e
        exact hns j nd' e
      · rw [List.getElem?_append_right hj] at e
        have:=(List.getElem?_eq_some_iff.mp e).1
        simp only [List.length_cons,List.length_nil] at this
        rw [show j - ns.length=0 by omega] at e
        obtain rfl:=Option.some.inj e
        rw [hc,show j=i by omega]
        exact g1
     by_cases hw:nd.word=Str.ofString "call"
     · rw [decide_eq_true hw]
       walk_at "run"
       refine ⟨_,ns++[nd],_,_,rfl,?_,oU,DU,a32,hat2,by simp [hnl],hns2⟩
       have:=g2 hw
       rw [hc,Bool.eq_iff_iff]
       simp
       omega
     · rw [decide_eq_false hw]
       walk_at "run"
       refine ⟨_,ns++[nd],_,_,rfl,?_,oU,DU,a32,hat2,by simp [hnl],hns2⟩
       rw [hc,Bool.eq_iff_iff]
       simp
   · rintro σ H15 ⟨c,ns,nvs,y,rfl,hc,o15,hDB15,e15,hat,hnl,hns⟩
     walk_at "run"
     refine ⟨d,l,1+m0,rfl,hDB15.dk,by omega,by omega,fun fst H16 hf o16 D16=>?_⟩
     walk_at "run"
     intro g H17 f17 s17 e17
     have t16:=hDB15.dk.tups o16
     obtain ⟨bvs,b1,b2⟩:=(hDB15.off o16 D16).bx
     refine q g lb pn bs ns fst cm H17 ((o15.trans o16).trans s17.off) (D16.same s17) flb fpn ⟨bvs,nvs,e17,s17 _ _ b1,b2.mono fun _ _ z=>z.same s17,s17 _ _ (o16 _ _ npn.1 npn.2 e15),(a75 hat t16).same s17⟩ ⟨by rw [hnl]; exact hns,by omega,by omega,hnd,hbz,hbl⟩
def cst (m i:Nat):Nat:=2 ^ (m+1 - i) - 1
def cstS (m:Nat) (stk:List Nat):Nat:=(stk.map (cst m)).sum
theorem as5 {m i:Nat}(h:i<m):1≤cst m i:=by
 unfold cst
 have:2 ^ 1≤2 ^ (m+1 - i):=Nat.pow_le_pow_right (by decide) (by omega)
 omega
theorem b28 {m i a b:Nat}(hi:i<m) (ha:i<a) (hb:i<b):cst m a+cst m b<cst m i:=by
 unfold cst
 have e:2 ^ (m+1 - i)=2*2 ^ (m - i):=by rw [show m+1 - i=(m - i)+1 by omega,Nat.pow_succ,Nat.mul_comm]
 have h1:2 ^ (m+1 - a)≤2 ^ (m - i):=Nat.pow_le_pow_right (by decide) (by omega)
 have h2:2 ^ (m+1 - b)≤2 ^ (m - i):=Nat.pow_le_pow_right (by decide) (by omega)
 have h3:1≤2 ^ (m - i):=Nat.one_le_two_pow
 have h4:1≤2 ^ (m+1 - a):=Nat.one_le_two_pow
 have h5:1≤2 ^ (m+1 - b):=Nat.one_le_two_pow
 omega
theorem ad6 {m i a:Nat}(hi:i<m) (ha:i<a):cst m a<cst m i:=by
 have:=b28 hi ha ha
 omega
theorem b29 {m i:Nat}(h:m≤16):cst m i≤131071:=by
 unfold cst
 have:2 ^ (m+1 - i)≤2 ^ 17:=Nat.pow_le_pow_right (by decide) (by omega)
 have e:2 ^ 17=131072:=by decide
 omega
theorem ap8 (m:Nat) (l:List Nat) (x:Nat):cstS m (l++[x])=cstS m l+cst m x:=by simp [cstS]
structure StI (bs:List (Str×Int)) (ns:List Nd) (cm:Bool) (B:Nat) (r:Option StG):Prop where
 ex:∀ x,r=some x→(∃ l br m,ns[x.1]?=some (.wait l br m)∧0≤x.2.2.2∧(l=0→x.2.2.2=0))∧(∀ s∈x.2.1,s<ns.length)∧x.2.2.1.length=bs.length∧cst ns.length x.1+cstS ns.length x.2.1≤B∧(cm=false→x.2.1=[])
theorem ba4 {bs:List (Str×Int)}{ns:List Nd}{f:Nat}{cm:Bool}(h:GB bs ns f cm):∀ (N k:Nat) (stk:List Nat) (ws:List Int),k<ns.length→(∀ s∈stk,s<ns.length)→ws.length=bs.length→(cm=false→stk=[])→cst ns.length k+cstS ns.length stk≤N→∃ sd r,grF ns bs (N+1) (some k) stk ws=some (sd,r)∧StI bs ns cm (cst ns.length k+cstS ns.length stk) r:=by
 intro N
 induction N with
 | zero=>intro k stk ws hk _ _ _ hN; have:=as5 hk; omega
 | succ N ih =>
   intro k stk ws hk hs hw hc hN
   obtain ⟨d,hd⟩:∃ d,ns[k]?=some d:=⟨_,List.getElem?_eq_getElem hk⟩
   have hB:=h.at_ k d hd
   have go:∀ {k':Nat}{stk':List Nat},d.w2=none→behF ns (bs.map (·.1)) (d.vals2 bs ws) stk d=(some k',stk')→k'<ns.length→(∀ s∈stk',s<ns.length)→(cm=false→stk'=[])→cst ns.length k'+cstS ns.length stk'<cst ns.length k+cstS ns.length stk→∃ sd r,grF ns bs (N+1+1) (some k) stk ws=some (sd,r)∧StI bs ns cm (cst ns.length k+cstS ns.length stk) r:=fun {k' stk'} w0 hb h1 h2 h3 h4=>by
    obtain ⟨sd,r,g1,g2⟩:=ih k' stk' (d.vals2 bs ws) h1 h2 (ac7 hw) h3 (by omega)
    refine ⟨d.sd2++sd,r,?_,⟨fun x hx=>?_⟩⟩
    · unfold grF
      rw [hd]
      simp only [w0,hb,g1]
      rfl
    · obtain ⟨a1,a2,a3,a4,a5⟩:=g2.ex x hx
      exact ⟨a1,a2,a3,by omega,a5⟩
   have fin:∀ {stk':List Nat},d.w2=none→behF ns (bs.map (·.1)) (d.vals2 bs ws) stk d=(none,stk')→∃ sd r,grF ns bs (N+1+1) (some k) stk ws=some (sd,r)∧StI bs ns cm (cst ns.length k+cstS ns.length stk) r:=fun {stk'} w0 hb=>by
    refine ⟨d.sd2++[],none,?_,⟨fun x hx=>by cases hx⟩⟩
    unfold grF
    rw [hd]
    simp only [w0,hb]
    rfl
   cases d with
   | say w n=>exact go rfl rfl hB.2.2 hs hc (by have:=ad6 hk hB.2.1; omega)
   | hand l w n=>exact go rfl rfl hB.2.2 hs hc (by have:=ad6 hk hB.2.1; omega)
   | put b e n=>exact go rfl rfl hB.2.2 hs hc (by have:=ad6 hk hB.2.1; omega)
   | test c a b =>
     refine go rfl rfl ?_ hs hc ?_
     · split
       · exact hB.2.1.2
       · exact hB.2.2.2
     · split
       · have:=ad6 hk hB.2.1.1; omega
       · have:=ad6 hk hB.2.2.1; omega
   | wait l br m =>
     refine ⟨[],some (k,stk,ws,l),?_,⟨fun x hx=>?_⟩⟩
     · unfold grF
       rw [hd]
       rfl
     · obtain rfl:=Option.some.inj hx
       exact ⟨⟨l,br,m,hd,hB.1.1,fun z=>z⟩,hs,hw,Nat.le_refl _,hc⟩
   | call a b =>
     obtain ⟨hcm,ha,hb⟩:=hB
     have h2:=b28 hk ha.1 hb.1
     refine go rfl rfl ha.2 ?_ (fun z=>by rw [hcm] at z; cases z) ?_
     · split
       · exact hs
       · intro s hs'
         rcases List.mem_append.mp hs' with z | z
         · exact hs s z
         · rw [List.mem_singleton.mp z]; exact hb.2
     · split
       · omega
       · rw [ap8]; omega
   | back =>
     rcases List.eq_nil_or_concat stk with rfl | ⟨t',z,rfl⟩
     · exact fin rfl rfl
     · rw [List.concat_eq_append] at *
       have hp:=as5 hk
       refine go (k':=z) (stk':=t') rfl (by simp [behF]) (hs z (by simp)) (fun s hs'=>hs s (by simp [hs'])) (fun e=>by have:=hc e; simp at this) (by rw [ap8]; omega)
   | stop=>exact fin rfl rfl
theorem GB.gr {bs:List (Str×Int)}{ns:List Nd}{f:Nat}{cm:Bool}(h:GB bs ns f cm):GrOk bs ns:=by
 refine ⟨fun d hd=>?_,fun d hd k hk=>?_,h.bz,by have:=h.bl; omega,by have:=h.nl; omega⟩
 · obtain ⟨i,hi⟩:=List.mem_iff_getElem?.mp hd
   have hB:=h.at_ i d hi
   cases d with
   | say w n=>exact hB.1
   | hand l w n=>exact hB.1
   | put b e n=>exact ⟨hB.1.1,by have:=hB.1.2.1; omega,hB.1.2.2⟩
   | test c a b=>exact ⟨hB.1.1,by have:=hB.1.2; omega⟩
   | wait l br m=>exact ⟨hB.1.1,by have:=hB.1.2.1; omega⟩
   | _=>trivial
 · obtain ⟨i,hi⟩:=List.mem_iff_getElem?.mp hd
   have hB:=h.at_ i d hi
   cases d with
   | say w n=>simp only [Nd.nexts,List.mem_singleton] at hk; rw [hk]; exact hB.2.2
   | hand l w n=>simp only [Nd.nexts,List.mem_singleton] at hk; rw [hk]; exact hB.2.2
   | put b e n=>simp only [Nd.nexts,List.mem_singleton] at hk; rw [hk]; exact hB.2.2
   | test c a b =>
     simp only [Nd.nexts,List.mem_cons,List.not_mem_nil,or_false] at hk
     rcases hk with rfl | rfl
     · exact hB.2.1.2
     · exact hB.2.2.2
   | wait l br m =>
     simp only [Nd.nexts,List.mem_append,List.mem_map,List.mem_singleton] at hk
     rcases hk with ⟨b,hb,rfl⟩ | rfl
     · exact hB.2.1 b hb
     · exact hB.2.2.1
   | call a b =>
     simp only [Nd.nexts,List.mem_cons,List.not_mem_nil,or_false] at hk
     rcases hk with rfl | rfl
     · exact hB.2.1.2
     · exact hB.2.2.2
   | back=>simp [Nd.nexts] at hk
   | stop=>simp [Nd.nexts] at hk
theorem au6 {br:List (List Pt×Nat)}{e:Tr}{j:Nat}(h:fndN br e=some j):∃ b∈br,b.2=j:=by
 unfold fndN at h
 obtain ⟨b,h1,h2⟩:=Option.map_eq_some_iff.mp h
 exact ⟨b,List.mem_of_find?_eq_some h1,h2⟩
theorem b31 {br:List (List Pt×Nat)}{e:Tr}{j:Nat}(h:weN br e=some j):∃ b∈br,b.2=j:=by
 unfold weN at h
 split at h
 · cases h
 · split at h
   · rename_i p hp
     cases h
     exact au6 hp
   · exact au6 h
theorem bg1 {bs:List (Str×Int)}{ns:List Nd}{f:Nat}{cm:Bool}(h:GB bs ns f cm) {r:Option StG}(hr:StI bs ns cm 131071 r) (e:Tr):∃ sd r',as1 ns bs 131072 r e=some (sd,r')∧StI bs ns cm 131071 r':=by
 cases r with
 | none=>exact ⟨[],none,rfl,⟨fun x hx=>by cases hx⟩⟩
 | some x =>
   obtain ⟨⟨l,br,m,hw,hl0,hll⟩,hs,hwl,hB,hc⟩:=hr.ex x rfl
   have hk:=(List.getElem?_eq_some_iff.mp hw).1
   have hN:=h.at_ x.1 _ hw
   have to:∀ j,j<ns.length→(cm=true→x.1<j)→∃ sd r',grF ns bs 131072 (some j) x.2.1 x.2.2.1=some (sd,r')∧StI bs ns cm 131071 r':=fun j hj hcj=>by
    have hb:cst ns.length j+cstS ns.length x.2.1≤131071:=by
     cases hcm:cm with
     | true =>
       have:=ad6 hk (hcj hcm)
       omega
     | false =>
       rw [hc hcm]
       have:=b29 (m:=ns.length) (i:=j) h.nl
       simp only [cstS,List.map_nil,List.sum_nil]
       omega
    obtain ⟨sd,r',g1,g2⟩:=ba4 h 131071 j x.2.1 x.2.2.1 hj hs hwl hc hb
    refine ⟨sd,r',g1,⟨fun y hy=>?_⟩⟩
    obtain ⟨a1,a2,a3,a4,a5⟩:=g2.ex y hy
    exact ⟨a1,a2,a3,by omega,a5⟩
   simp only [as1,hw]
   unfold waG
   cases hwe:weN br e with
   | some j =>
     obtain ⟨b,hb,rfl⟩:=b31 hwe
     exact to b.2 (hN.2.1 b hb) fun hcm=>(hN.2.2.2 hcm).1 b hb
   | none =>
     simp only
     by_cases l0:x.2.2.2=0
     · rw [if_pos l0]
       exact ⟨[],some x,rfl,⟨fun y hy=>by obtain rfl:=Option.some.inj hy; exact ⟨⟨l,br,m,hw,hl0,hll⟩,hs,hwl,hB,hc⟩⟩⟩
     · rw [if_neg l0]
       have hlp:0<l:=by
        have h1:=hN.1.1
        rcases Int.lt_or_eq_of_le h1 with z | z
        · exact z
        · exact absurd (hll z.symm) l0
       by_cases l1:x.2.2.2=1
       · rw [if_pos l1]
         exact to m hN.2.2.1 fun hcm=>(hN.2.2.2 hcm).2 hlp
       · rw [if_neg l1]
         exact ⟨[],_,rfl,⟨fun y hy=>by obtain rfl:=Option.some.inj hy; exact ⟨⟨l,br,m,hw,by dsimp only; omega,fun z=>by omega⟩,hs,hwl,hB,hc⟩⟩⟩
theorem bp9 {bs:List (Str×Int)}{ns:List Nd}{f:Nat}{cm:Bool}(h:GB bs ns f cm):∃ sd r',grF ns bs 131072 (some f) [] (List.replicate bs.length 0)=some (sd,r')∧StI bs ns cm 131071 r':=by
 have ht:=b29 (m:=ns.length) (i:=f) h.nl
 obtain ⟨sd,r',g1,g2⟩:=ba4 h 131071 f [] (List.replicate bs.length 0) h.f (by simp) (by simp) (fun _=>rfl) (by simp [cstS]; omega)
 refine ⟨sd,r',g1,⟨fun y hy=>?_⟩⟩
 obtain ⟨a1,a2,a3,a4,a5⟩:=g2.ex y hy
 exact ⟨a1,a2,a3,by simp [cstS] at a4 ⊢; omega,a5⟩
theorem b76 {K:PySem.W.Frag}{H:Hp}{Q:VK}{p:Addr}{ys:List Str}{w:Str}(h1:SqL K H p (a35 ys)) (h:Q (.bl (!decide (w∈ys))) H):rIn K true (.str w) (.ref p) H Q:=⟨p,a35 ys,rfl,.inl h1,rfl,b00 ys,by rw [b58]; exact h⟩
def bv2 (K:PySem.W.Frag) (d:Nat):Sp:=fun vs H Q _=>∃ (v:V) (e:Ex) (ln lv:Addr) (nm:List Str) (ws:List Int),vs=[v,.ref ln,.ref lv]∧e.At H v∧e.h<d∧e.ok nm∧H ln=some (.lst (a35 nm))∧H lv=some (.lst (ws.map V.int))∧nm.length≤ws.length∧∀ H',Same H H'→Q (.int (e.ev nm ws)) H'
theorem ad8 (T:Txt K mg t):∀ d:Nat,FnOk P w K mg base CX0 (d+1) t.a__law_worth t.fd__law_worth ["expression","names","values"] (bv2 K d):=by
 intro d
 induction d with
 | zero=>exact vac (fun vs H Q E ⟨_,_,_,_,_,_,_,_,h,_⟩=>Nat.not_lt_zero _ h)
 | succ d G__law_worth =>
   refine T.f__law_worth.F.ok sc_law_worth (fun vs H Q E h=>?_) (fun cdv A outer s H vs Q E hr h=>?_)
   · obtain ⟨v,e,ln,lv,nm,ws,rfl,_⟩:=h
     rfl
   · obtain ⟨v,e,ln,lv,nm,ws,rfl,he,hh,ho,hn,hv,hl,q⟩:=h
     refine ⟨_,(@a01 _ _ _ _ _ (@a20 _ _ 3 _ _ _ _ sc_law_worth.nd rfl (by walk_at "o") (@a14 _ _ _ _ _ _ _ (a06 K) (pv 0) (@a04 _ _ _ _) (fun _ _=>rfl)) (by rfl) (by walk_at "o"))
     (@a01 _ _ _ _ _ (@a33 _ _ _ _ _ _ _ _ (@a07 _ _ _ _ _ _ _ _ a41 (pv 3) (@a21 _ _ _ _) (nomark _)) (@a05 _ _ _ (@a19 _ _ _ _ (@a14 _ _ _ _ _ _ _ (a06 K) (pv 0) (@a04 _ _ _ _) (fun _ _=>rfl)))) (@a18 _))
     (@a01 _ _ _ _ _ (@a33 _ _ _ _ _ _ _ _ (@a07 _ _ _ _ _ _ _ _ a41 (pv 3) (@a21 _ _ _ _) (nomark _)) (@a05 _ _ _ (@a19 _ _ _ _ (@a14 _ _ _ _ _ _ _ (a29 K) (pv 2) (@a74 _ K _ _ _ _ _ _ _ _ _ _ _ PySem.F.plainAttrs_list PySem.F.slot_list_index PySem.F.type_list_index (ag2 K) (pv 1) (@a00 _ _ _ _ _ (@a14 _ _ _ _ _ _ _ (a06 K) (pv 0) (@a04 _ _ _ _) (fun _ _=>rfl)) (@a02 _) (by rfl)) (by rfl) (by rfl) (by rfl) (by rfl) (by rfl) (by rfl)) (fun _ _=>rfl)))) (@a18 _))
     (@a01 _ _ _ _ _ (@a20 _ _ 4 _ _ _ _ sc_law_worth.nd rfl (by walk_at "o") (@a08 _ _ _ _ _ _ _ _ _ _ _ _ _ _ _ _ G__law_worth (hr.mono (by omega)) rfl T.f__law_worth.m T.f__law_worth.F.kp T.f__law_worth.b .nil a28 (@a00 _ _ _ _ _ (@a14 _ _ _ _ _ _ _ (a06 K) (pv 0) (@a04 _ _ _ _) (fun _ _=>rfl)) (@a00 _ _ _ _ _ (pv 1) (@a00 _ _ _ _ _ (pv 2) (@a02 _) (by rfl)) (by rfl)) (by rfl)) (by decide) (by rfl) (by rfl)) (by rfl) (by walk_at "o"))
     (@a01 _ _ _ _ _ (@a20 _ _ 5 _ _ _ _ sc_law_worth.nd rfl (by walk_at "o") (@a08 _ _ _ _ _ _ _ _ _ _ _ _ _ _ _ _ G__law_worth (hr.mono (by omega)) rfl T.f__law_worth.m T.f__law_worth.F.kp T.f__law_worth.b .nil a28 (@a00 _ _ _ _ _ (@a14 _ _ _ _ _ _ _ (a06 K) (pv 0) (@a04 _ _ _ _) (fun _ _=>rfl)) (@a00 _ _ _ _ _ (pv 1) (@a00 _ _ _ _ _ (pv 2) (@a02 _) (by rfl)) (by rfl)) (by rfl)) (by decide) (by rfl) (by rfl)) (by rfl) (by walk_at "o"))
     (@a05 _ _ _ (@a19 _ _ _ _ (@a14 _ _ _ _ _ _ _ (a29 K) (@a31 _ _ _ _ (@a00 _ _ _ _ _ (@a40 _ _ _ _ _ _ _ _ a70 (pv 4) (pv 5)) (@a00 _ _ _ _ _ (@a40 _ _ _ _ _ _ _ _ a47 (pv 4) (pv 5)) (@a02 _) (by rfl)) (by rfl))) (@a34 _ _ _ _ _ _ _ _ _ aj1 (by rfl) T.z_int ag0 (@a00 _ _ _ _ _ (@a52 _ _ _ _ _ _ _ _ a41 (pv 3) (@a21 _ _ _ _) (nomark _)) (@a02 _) (by rfl)) (by decide) (by decide) (by rfl) (by rfl)) (fun _ _=>rfl))))))))),?_⟩
     walk_at "go"
     cases e with
     | num i =>
       obtain ⟨a,rfl,ha⟩:=he
       refine a22 (SqT.of ha) (a03 (j:=0) rfl) ?_
       walk_at "run"
       refine a26 rfl ?_
       walk_at "run"
       refine a22 (SqT.of ha) (a03 (j:=1) rfl) ?_
       exact q _ (Same.refl _)
     | box n =>
       obtain ⟨a,rfl,ha⟩:=he
       refine a22 (SqT.of ha) (a03 (j:=0) rfl) ?_
       walk_at "run"
       refine a24 (by decide +kernel) ?_
       walk_at "run"
       refine a26 rfl ?_
       walk_at "run"
       refine a89 (SqL.of hn) ?_
       walk_at "run"
       refine a22 (SqT.of ha) (a03 (j:=1) rfl) ?_
       walk_at "run"
       obtain ⟨j,h1,h2,h3⟩:=ar3 ho hl
       refine ar2 (SqL.of hn) h1 h2 ?_
       exact a45 (SqL.of hv) (a03 (by rw [List.getElem?_map,h3]; rfl)) (q _ (Same.refl _))
     | two k e f =>
       obtain ⟨a,x,y,rfl,ha,h1,h2⟩:=he
       simp only [Ex.h] at hh
       refine a22 (SqT.of ha) (a03 (j:=0) rfl) ?_
       walk_at "run"
       refine a24 (by cases k <;> decide +kernel) ?_
       walk_at "run"
       refine a24 (by cases k <;> decide +kernel) ?_
       walk_at "run"
       refine a22 (SqT.of ha) (a03 (j:=1) rfl) ?_
       walk_at "run"
       refine ⟨x,e,ln,lv,nm,ws,rfl,h1,by omega,ho.1,hn,hv,hl,fun H1 s1=>?_⟩
       walk_at "run"
       refine a22 (SqT.of (s1 _ _ ha)) (a03 (j:=2) rfl) ?_
       walk_at "run"
       refine ⟨y,f,ln,lv,nm,ws,rfl,h2.mono s1.tups,by omega,ho.2,s1 _ _ hn,s1 _ _ hv,hl,fun H2 s2=>?_⟩
       walk_at "run"
       intro p3 H3 f3 s3 e3
       walk_at "run"
       have hq:=q H3 (s1.trans (s2.trans s3))
       cases k with
       | true =>
         rw [decide_eq_true (by rfl)]
         walk_at "run"
         exact a45 (SqL.of e3) (a03 (j:=1) rfl) hq
       | false =>
         rw [decide_eq_false (by decide +kernel)]
         walk_at "run"
         exact a45 (SqL.of e3) (a03 (j:=0) rfl) hq
def bv3 (K:PySem.W.Frag) (d:Nat):Sp:=fun vs H Q _=>∃ (v:V) (c:Cd) (ln lv:Addr) (nm:List Str) (ws:List Int),vs=[v,.ref ln,.ref lv]∧c.At H v∧c.h<d∧c.ok nm 5∧H ln=some (.lst (a35 nm))∧H lv=some (.lst (ws.map V.int))∧nm.length≤ws.length∧∀ H',Same H H'→Q (.bl (c.ev nm ws)) H'
theorem ap9 (T:Txt K mg t):∀ d:Nat,FnOk P w K mg base CX0 (d+8) t.a__law_holds t.fd__law_holds ["condition","names","values"] (bv3 K d):=by
 intro d
 induction d with
 | zero=>exact vac (fun vs H Q E ⟨_,_,_,_,_,_,_,_,h,_⟩=>Nat.not_lt_zero _ h)
 | succ d G__law_holds =>
   have G__law_worth:=ad8 (P:=P) (w:=w) (base:=base) T
   refine T.f__law_holds.F.ok sc_law_holds (fun vs H Q E h=>?_) (fun cdv A outer s H vs Q E hr h=>?_)
   · obtain ⟨v,c,ln,lv,nm,ws,rfl,_⟩:=h
     rfl
   · obtain ⟨v,c,ln,lv,nm,ws,rfl,he,hh,ho,hn,hv,hl,q⟩:=h
     have G__law_worth:=G__law_worth 6
     refine ⟨_,(@a01 _ _ _ _ _ (@a33 _ _ _ _ _ _ _ _ (@a07 _ _ _ _ _ _ _ _ a41 (@a14 _ _ _ _ _ _ _ (a06 K) (pv 0) (@a04 _ _ _ _) (fun _ _=>rfl)) (@a21 _ _ _ _) (nomark _)) (@a05 _ _ _ (@a19 _ _ _ _ (@b81 _ _ _ _ (@a08 _ _ _ _ _ _ _ _ _ _ _ _ _ _ _ _ G__law_holds (hr.mono (by omega)) rfl T.f__law_holds.m T.f__law_holds.F.kp T.f__law_holds.b .nil a28 (@a00 _ _ _ _ _ (@a14 _ _ _ _ _ _ _ (a06 K) (pv 0) (@a04 _ _ _ _) (fun _ _=>rfl)) (@a00 _ _ _ _ _ (pv 1) (@a00 _ _ _ _ _ (pv 2) (@a02 _) (by rfl)) (by rfl)) (by rfl)) (by decide) (by rfl) (by rfl))))) (@a18 _))
     (@a01 _ _ _ _ _ (@a33 _ _ _ _ _ _ _ _ (@a07 _ _ _ _ _ _ _ _ a41 (@a14 _ _ _ _ _ _ _ (a06 K) (pv 0) (@a04 _ _ _ _) (fun _ _=>rfl)) (@a21 _ _ _ _) (nomark _)) (@a05 _ _ _ (@a19 _ _ _ _ (@at1 _ _ _ _ _ _ _ (@a08 _ _ _ _ _ _ _ _ _ _ _ _ _ _ _ _ G__law_holds (hr.mono (by omega)) rfl T.f__law_holds.m T.f__law_holds.F.kp T.f__law_holds.b .nil a28 (@a00 _ _ _ _ _ (@a14 _ _ _ _ _ _ _ (a06 K) (pv 0) (@a04 _ _ _ _) (fun _ _=>rfl)) (@a00 _ _ _ _ _ (pv 1) (@a00 _ _ _ _ _ (pv 2) (@a02 _) (by rfl)) (by rfl)) (by rfl)) (by decide) (by rfl) (by rfl)) (@at0 _ _ _ _ _ (@a08 _ _ _ _ _ _ _ _ _ _ _ _ _ _ _ _ G__law_holds (hr.mono (by omega)) rfl T.f__law_holds.m T.f__law_holds.F.kp T.f__law_holds.b .nil a28 (@a00 _ _ _ _ _ (@a14 _ _ _ _ _ _ _ (a06 K) (pv 0) (@a04 _ _ _ _) (fun _ _=>rfl)) (@a00 _ _ _ _ _ (pv 1) (@a00 _ _ _ _ _ (pv 2) (@a02 _) (by rfl)) (by rfl)) (by rfl)) (by decide) (by rfl) (by rfl)))))) (@a18 _))
     (@a01 _ _ _ _ _ (@a20 _ _ 3 _ _ _ _ sc_law_holds.nd rfl (by walk_at "o") (@a08 _ _ _ _ _ _ _ _ _ _ _ _ _ _ _ _ G__law_worth (hr.mono (by omega)) rfl T.f__law_worth.m T.f__law_worth.F.kp T.f__law_worth.b .nil a28 (@a00 _ _ _ _ _ (@a14 _ _ _ _ _ _ _ (a06 K) (pv 0) (@a04 _ _ _ _) (fun _ _=>rfl)) (@a00 _ _ _ _ _ (pv 1) (@a00 _ _ _ _ _ (pv 2) (@a02 _) (by rfl)) (by rfl)) (by rfl)) (by decide) (by rfl) (by rfl)) (by rfl) (by walk_at "o"))
     (@a01 _ _ _ _ _ (@a20 _ _ 4 _ _ _ _ sc_law_holds.nd rfl (by walk_at "o") (@a08 _ _ _ _ _ _ _ _ _ _ _ _ _ _ _ _ G__law_worth (hr.mono (by omega)) rfl T.f__law_worth.m T.f__law_worth.F.kp T.f__law_worth.b .nil a28 (@a00 _ _ _ _ _ (@a14 _ _ _ _ _ _ _ (a06 K) (pv 0) (@a04 _ _ _ _) (fun _ _=>rfl)) (@a00 _ _ _ _ _ (pv 1) (@a00 _ _ _ _ _ (pv 2) (@a02 _) (by rfl)) (by rfl)) (by rfl)) (by decide) (by rfl) (by rfl)) (by rfl) (by walk_at "o"))
     (@a05 _ _ _ (@a19 _ _ _ _ (@a14 _ _ _ _ _ _ _ (a29 K) (@a31 _ _ _ _ (@a00 _ _ _ _ _ (@a52 _ _ _ _ _ _ _ _ aq6 (pv 3) (pv 4) (nomark _)) (@a00 _ _ _ _ _ (@a52 _ _ _ _ _ _ _ _ a41 (pv 3) (pv 4) (nomark _)) (@a02 _) (by rfl)) (by rfl))) (@a34 _ _ _ _ _ _ _ _ _ aj1 (by rfl) T.z_int ag0 (@a00 _ _ _ _ _ (@a52 _ _ _ _ _ _ _ _ a41 (@a14 _ _ _ _ _ _ _ (a06 K) (pv 0) (@a04 _ _ _ _) (fun _ _=>rfl)) (@a21 _ _ _ _) (nomark _)) (@a02 _) (by rfl)) (by decide) (by decide) (by rfl) (by rfl)) (fun _ _=>rfl)))))))),?_⟩
     walk_at "go"
     cases c with
     | nt c =>
       obtain ⟨a,x,rfl,ha,h1⟩:=he
       simp only [Cd.h] at hh
       refine a22 (SqT.of ha) (a03 (j:=0) rfl) ?_
       walk_at "run"
       refine a26 rfl ?_
       walk_at "run"
       refine a22 (SqT.of ha) (a03 (j:=1) rfl) ?_
       walk_at "run"
       refine ⟨x,c,ln,lv,nm,ws,rfl,h1,by omega,ho,hn,hv,hl,fun H1 s1=>?_⟩
       walk_at "run"
       exact q H1 s1
     | both c d' =>
       obtain ⟨a,x,y,rfl,ha,h1,h2⟩:=he
       simp only [Cd.h] at hh
       refine a22 (SqT.of ha) (a03 (j:=0) rfl) ?_
       walk_at "run"
       refine a24 (by decide +kernel) ?_
       walk_at "run"
       refine a22 (SqT.of ha) (a03 (j:=0) rfl) ?_
       walk_at "run"
       refine a26 rfl ?_
       walk_at "run"
       refine a22 (SqT.of ha) (a03 (j:=1) rfl) ?_
       walk_at "run"
       refine ⟨x,c,ln,lv,nm,ws,rfl,h1,by omega,ho.1,hn,hv,hl,fun H1 s1=>?_⟩
       walk_at "run"
       have qq:=fun H' s'=>q H' s'
       simp only [Cd.ev] at qq
       cases e:c.ev nm ws with
       | true =>
         rw [e] at qq
         walk_at "run"
         refine a22 (SqT.of (s1 _ _ ha)) (a03 (j:=2) rfl) ?_
         walk_at "run"
         refine ⟨y,d',ln,lv,nm,ws,rfl,h2.mono s1.tups,by omega,ho.2,s1 _ _ hn,s1 _ _ hv,hl,fun H2 s2=>?_⟩
         exact qq H2 (s1.trans s2)
       | false =>
         rw [e] at qq
         walk_at "run"
         exact qq H1 s1
     | cmp k e f =>
       obtain ⟨a,x,y,rfl,ha,h1,h2⟩:=he
       obtain ⟨⟨o1,o2⟩,o3,o4⟩:=ho
       refine a22 (SqT.of ha) (a03 (j:=0) rfl) ?_
       walk_at "run"
       refine a24 (by cases k <;> decide +kernel) ?_
       walk_at "run"
       refine a22 (SqT.of ha) (a03 (j:=0) rfl) ?_
       walk_at "run"
       refine a24 (by cases k <;> decide +kernel) ?_
       walk_at "run"
       refine a22 (SqT.of ha) (a03 (j:=1) rfl) ?_
       walk_at "run"
       refine ⟨x,e,ln,lv,nm,ws,rfl,h1,by omega,o1,hn,hv,hl,fun H1 s1=>?_⟩
       walk_at "run"
       refine a22 (SqT.of (s1 _ _ ha)) (a03 (j:=2) rfl) ?_
       walk_at "run"
       refine ⟨y,f,ln,lv,nm,ws,rfl,h2.mono s1.tups,by omega,o3,s1 _ _ hn,s1 _ _ hv,hl,fun H2 s2=>?_⟩
       walk_at "run"
       intro p3 H3 f3 s3 e3
       walk_at "run"
       have hq:=q H3 (s1.trans (s2.trans s3))
       refine a22 (SqT.of ((s1.trans (s2.trans s3)) _ _ ha)) (a03 (j:=0) rfl) ?_
       walk_at "run"
       cases k with
       | true =>
         rw [decide_eq_true (by rfl)]
         walk_at "run"
         exact a45 (SqL.of e3) (a03 (j:=1) rfl) hq
       | false =>
         rw [decide_eq_false (by decide +kernel)]
         walk_at "run"
         exact a45 (SqL.of e3) (a03 (j:=0) rfl) hq
theorem b77 {bs:List (Str×Int)}{ws:List Int}{n:Str}{k:Int}{j:Nat}{b:Str×Int}(hn:(bs.map (·.1)).Nodup) (hl:ws.length=bs.length) (hj:bs[j]?=some b) (hb:b.1=n):vput bs ws n k=ws.set j (k % b.2):=by
 apply List.ext_getElem?
 intro i
 rw [List.getElem?_set]
 unfold vput
 rw [List.getElem?_zipWith]
 have hjl:=(List.getElem?_eq_some_iff.mp hj).1
 by_cases e:j=i
 · subst e
   rw [if_pos rfl,if_pos (by omega),hj,List.getElem?_eq_getElem (show j<ws.length by omega)]
   simp [hb]
 · rw [if_neg e]
   rcases Nat.lt_or_ge i bs.length with h | h
   · rw [List.getElem?_eq_getElem h,List.getElem?_eq_getElem (show i<ws.length by omega)]
     have hne:¬ bs[i].1=n:=fun z=>by
      have e1:(bs.map (·.1))[i]?=some n:=by rw [List.getElem?_map,List.getElem?_eq_getElem h,Option.map_some,z]
      have e2:(bs.map (·.1))[j]?=some n:=by rw [List.getElem?_map,hj,Option.map_some,hb]
      obtain ⟨a1,a2⟩:=List.getElem?_eq_some_iff.mp e1
      obtain ⟨c1,c2⟩:=List.getElem?_eq_some_iff.mp e2
      exact e ((List.getElem_inj (h₀:=c1) (h₁:=a1) hn).mp (c2.trans a2.symm))
     simp [hne]
   · rw [List.getElem?_eq_none h,List.getElem?_eq_none (by omega)]
theorem back_tr {d:Nd}:d.tr=.tup [.str "back"]↔d.word=Str.ofString "back":=by
 constructor
 · intro h
   cases d <;> simp only [Nd.tr,Nd.its,Tr.tup.injEq,List.cons.injEq,Tr.str.injEq] at h <;> first | rfl | exact absurd h.1 (by decide +kernel)
 · intro h
   rw [ah4 h]
   rfl
theorem nb_h {nm:List Str}{many own:Nat}{cm:Bool}{d:Nd}(h:NdB nm many own cm d):d.tr.h≤11:=by
 cases d with
 | put b e m=>exact bn8 (Nat.le_trans h.1.2.1 (by decide))
 | test c a b=>exact be2 h.1.1 h.1.2
 | wait l bs m=>exact al1 (n:=10) (hs_c (Nat.zero_le _) (hs_c (Nat.zero_le _) (hs_c (Nat.le_trans (al1 (bn7 bs)) (by decide)) (hs_c (Nat.zero_le _) hs_0))))
 | _=>simp [Nd.tr,Nd.its,Tr.h,Tr.hs]
theorem b78 {b:Bool}{A B:Prop}(e:b=false) (h:B):if b=true then A else B:=by rw [e]; exact iteF h
def bv4 (K:PySem.W.Frag):Sp:=fun vs H Q _=>∃ (g lb ln sa va:Addr) (bs:List (Str×Int)) (ns:List Nd) (f k n:Nat) (cm:Bool) (stk:List Nat) (ws:List Int) (sd:List Str) (r:Option StG),vs=[.ref g,.int (k:Nat),.ref sa,.ref va]∧GrL H g lb ln bs ns f∧GB bs ns f cm∧(SqL K H sa (a43 stk)∨SqT K H sa (a43 stk))∧(SqL K H va (ws.map V.int)∨SqT K H va (ws.map V.int))∧ws.length=bs.length∧k<ns.length∧(∀ s∈stk,s<ns.length)∧grF ns bs n (some k) stk ws=some (sd,r)∧stk.length+n≤900000 ∧
 ∀ p' l v' H',Same H H'→H' p'=some (.tup [.ref l,v'])→H l=none→H' l=some (.lst (a35 sd))→SgAt H' v' r→Q (.ref p') H'
theorem SqT.sm {K:PySem.W.Frag}{H H':Hp}{a:Addr}{xs:List V}(h:SqL K H a xs∨SqT K H a xs) (s:Same H H'):SqL K H' a xs∨SqT K H' a xs:=h.imp (fun z=>s.seq z) (fun z=>s.seqT z)
theorem aq0 (T:Txt K mg t):FnOk P w K mg base CX0 13 t.a__law_on t.fd__law_on ["graph","number","stack","values"] (bv4 K):=by
 have G__law_holds:=ap9 (P:=P) (w:=w) (base:=base) T
 have G__law_worth:=ad8 (P:=P) (w:=w) (base:=base) T
 refine T.f__law_on.F.ok sc_law_on (fun vs H Q E h=>?_) (fun cdv A outer s H vs Q E hr h=>?_)
 · obtain ⟨g,lb,ln,sa,va,bs,ns,f,k,n,cm,stk,ws,sd,r,rfl,_⟩:=h
   rfl
 · obtain ⟨g,lb,ln,sa,va,bs,ns,f,k,n,cm,stk,ws,sd,r,rfl,hG,hB,hsa,hva,hwl,hk,hsk,hgo,hsl,q⟩:=h
   have G__law_worth:=G__law_worth 8
   have G__law_holds:=G__law_holds 4
   refine ⟨_,(@a01 _ _ _ _ _ (@ai1 _ _ _ _ _ _ (pv 0) (a98 K (n:=3) rfl (a37 (a36 (i:=4) sc_law_on.nd rfl (by walk_at "o")) (a37 (a36 (i:=5) sc_law_on.nd rfl (by walk_at "o")) (a37 (a36 (i:=6) sc_law_on.nd rfl (by walk_at "o")) (@a92 _))))) (by rfl) (by rfl) (by rfl))
    (@a01 _ _ _ _ _ (b48 (i:=7) (Nt:=["name","size"]) (Nf:=[]) (caps:=[]) rfl (ad2 (sc:=a17 ak5) rfl rfl (by decide +kernel) (by decide +kernel) (by decide +kernel) rfl (by decide +kernel)) (ak8 K (pv 4)) (fun _ _ _ _ _=>(a98 K (n:=2) rfl (a37 (a36 (i:=0) (show (["name","size"]:List Str).Nodup by decide +kernel) rfl (by walk_at "o")) (a37 (a36 (i:=1) (show (["name","size"]:List Str).Nodup by decide +kernel) rfl (by walk_at "o")) (@a92 _))))) (fun _ _ _ _ _=>(@ak6 _)) (fun _ _ _ _ _=>(pv 0)) sc_law_on.nd rfl (by walk_at "o") rfl)
    (@a01 _ _ _ _ _ (@a20 _ _ 8 _ _ _ _ sc_law_on.nd rfl (by walk_at "o") (@a31 _ _ _ _ (@a02 _)) (by rfl) (by walk_at "o"))
    (@a01 _ _ _ _ _ (@a20 _ _ 2 _ _ _ _ sc_law_on.nd rfl (by walk_at "o") (@a34 _ _ _ _ _ _ _ _ _ (a84 K) (by rfl) T.z_list a99 (@a00 _ _ _ _ _ (pv 2) (@a02 _) (by rfl)) (by decide) (by decide) (by rfl) (by rfl)) (by rfl) (by walk_at "o"))
    (@a01 _ _ _ _ _ (@a20 _ _ 3 _ _ _ _ sc_law_on.nd rfl (by walk_at "o") (@a34 _ _ _ _ _ _ _ _ _ (a84 K) (by rfl) T.z_list a99 (@a00 _ _ _ _ _ (pv 3) (@a02 _) (by rfl)) (by decide) (by decide) (by rfl) (by rfl)) (by rfl) (by walk_at "o"))
    (@a01 _ _ _ _ _ (@at3 _ _ _ _ _ _ PassesOwn.never (@a07 _ _ _ _ _ _ _ _ (az6 K) (@a14 _ _ _ _ _ _ _ (a06 K) (@a14 _ _ _ _ _ _ _ (a29 K) (pv 5) (pv 1) (fun _ _=>rfl)) (@a04 _ _ _ _) (fun _ _=>rfl)) (@a31 _ _ _ _ (@a00 _ _ _ _ _ (@a21 _ _ _ _) (@a00 _ _ _ _ _ (@a21 _ _ _ _) (@a02 _) (by rfl)) (by rfl))) (by with_unfolding_all rfl)) (@a01 _ _ _ _ _ (@a20 _ _ 9 _ _ _ _ sc_law_on.nd rfl (by walk_at "o") (@a14 _ _ _ _ _ _ _ (a29 K) (pv 5) (pv 1) (fun _ _=>rfl)) (by rfl) (by walk_at "o"))
     (@a05 _ _ _ (@a33 _ _ _ _ _ _ _ _ (@a07 _ _ _ _ _ _ _ _ a41 (@a14 _ _ _ _ _ _ _ (a06 K) (pv 9) (@a04 _ _ _ _) (fun _ _=>rfl)) (@a21 _ _ _ _) (nomark _)) (@a01 _ _ _ _ _ (@a33 _ _ _ _ _ _ _ _ (@a07 _ _ _ _ _ _ _ _ (aa3 K (by exact hr.units)) (pv 2) (@a31 _ _ _ _ (@a02 _)) (nomark _)) (@a05 _ _ _ (@a19 _ _ _ _ (@a23 _ _ _ _ _ (@a00 _ _ _ _ _ (pv 8) (@a00 _ _ _ _ _ (@a51 _ _ _) (@a02 _) (by rfl)) (by rfl))))) (@a18 _))
      (@a05 _ _ _ (@a20 _ _ 1 _ _ _ _ sc_law_on.nd rfl (by walk_at "o") (af9 K PySem.F.plainAttrs_list PySem.F.slot_list_pop PySem.F.type_list_pop ay4 (pv 2)) (by rfl) (by walk_at "o")))) (@a05 _ _ _ (@a33 _ _ _ _ _ _ _ _ (@a07 _ _ _ _ _ _ _ _ a41 (@a14 _ _ _ _ _ _ _ (a06 K) (pv 9) (@a04 _ _ _ _) (fun _ _=>rfl)) (@a21 _ _ _ _) (nomark _)) (@a38 _ _ _ _ _ (@a33 _ _ _ _ _ _ _ _ (@a07 _ _ _ _ _ _ _ _ (au3 K (by exact hr.units)) (@a14 _ _ _ _ _ _ _ (a29 K) (pv 5) (@a14 _ _ _ _ _ _ _ (a06 K) (pv 9) (@a04 _ _ _ _) (fun _ _=>rfl)) (fun _ _=>rfl)) (@a23 _ _ _ _ _ (@a00 _ _ _ _ _ (@a21 _ _ _ _) (@a02 _) (by rfl))) (nomark _)) (@a05 _ _ _ (@a60 _ _ _ _ (@a74 _ K _ _ _ _ _ _ _ _ _ _ _ PySem.F.plainAttrs_list PySem.F.slot_list_append PySem.F.type_list_append a50 (pv 2) (@a00 _ _ _ _ _ (@a14 _ _ _ _ _ _ _ (a06 K) (pv 9) (@a04 _ _ _ _) (fun _ _=>rfl)) (@a02 _) (by rfl)) (by rfl) (by rfl) (by rfl) (by rfl) (by rfl) (by rfl)) (by rfl))) (@a18 _))
       (@a05 _ _ _ (@a20 _ _ 1 _ _ _ _ sc_law_on.nd rfl (by walk_at "o") (@a14 _ _ _ _ _ _ _ (a06 K) (pv 9) (@a04 _ _ _ _) (fun _ _=>rfl)) (by rfl) (by walk_at "o")))) (@a05 _ _ _ (@a33 _ _ _ _ _ _ _ _ (@a07 _ _ _ _ _ _ _ _ a41 (@a14 _ _ _ _ _ _ _ (a06 K) (pv 9) (@a04 _ _ _ _) (fun _ _=>rfl)) (@a21 _ _ _ _) (nomark _)) (@a05 _ _ _ (@a20 _ _ 1 _ _ _ _ sc_law_on.nd rfl (by walk_at "o") (@a14 _ _ _ _ _ _ _ (a06 K) (pv 9) (@a40 _ _ _ _ _ _ _ _ a70 (@a04 _ _ _ _) (@a34 _ _ _ _ _ _ _ _ _ aj1 (by rfl) T.z_int ag0 (@a00 _ _ _ _ _ (@a08 _ _ _ _ _ _ _ _ _ _ _ _ _ _ _ _ G__law_holds (hr.mono (by omega)) rfl T.f__law_holds.m T.f__law_holds.F.kp T.f__law_holds.b .nil a28 (@a00 _ _ _ _ _ (@a14 _ _ _ _ _ _ _ (a06 K) (pv 9) (@a04 _ _ _ _) (fun _ _=>rfl)) (@a00 _ _ _ _ _ (pv 7) (@a00 _ _ _ _ _ (pv 3) (@a02 _) (by rfl)) (by rfl)) (by rfl)) (by decide) (by rfl) (by rfl)) (@a02 _) (by rfl)) (by decide) (by decide) (by rfl) (by rfl))) (fun _ _=>rfl)) (by rfl) (by walk_at "o"))) (@a38 _ _ _ _ _ (@a33 _ _ _ _ _ _ _ _ (@a07 _ _ _ _ _ _ _ _ a41 (@a14 _ _ _ _ _ _ _ (a06 K) (pv 9) (@a04 _ _ _ _) (fun _ _=>rfl)) (@a21 _ _ _ _) (nomark _)) (@a05 _ _ _ (@a60 _ _ _ _ (@a74 _ K _ _ _ _ _ _ _ _ _ _ _ PySem.F.plainAttrs_list PySem.F.slot_list_append PySem.F.type_list_append a50 (pv 8) (@a00 _ _ _ _ _ (@a14 _ _ _ _ _ _ _ (a06 K) (pv 9) (@a04 _ _ _ _) (fun _ _=>rfl)) (@a02 _) (by rfl)) (by rfl) (by rfl) (by rfl) (by rfl) (by rfl) (by rfl)) (by rfl))) (@a18 _))
        (@a38 _ _ _ _ _ (@a33 _ _ _ _ _ _ _ _ (@a07 _ _ _ _ _ _ _ _ a41 (@a14 _ _ _ _ _ _ _ (a06 K) (pv 9) (@a04 _ _ _ _) (fun _ _=>rfl)) (@a21 _ _ _ _) (nomark _)) (@a05 _ _ _ (@a60 _ _ _ _ (@a74 _ K _ _ _ _ _ _ _ _ _ _ _ PySem.F.plainAttrs_list PySem.F.slot_list_append PySem.F.type_list_append a50 (pv 8) (@a00 _ _ _ _ _ (@a40 _ _ _ _ _ _ _ _ a47 (@a40 _ _ _ _ _ _ _ _ a47 (@a34 _ _ _ _ _ _ _ _ _ b52 (by rfl) T.z_str bk6 (@a00 _ _ _ _ _ (@a14 _ _ _ _ _ _ _ (a06 K) (pv 9) (@a04 _ _ _ _) (fun _ _=>rfl)) (@a02 _) (by rfl)) (by decide) (by decide) (by rfl) (by rfl)) (@a21 _ _ _ _)) (@a14 _ _ _ _ _ _ _ (a06 K) (pv 9) (@a04 _ _ _ _) (fun _ _=>rfl))) (@a02 _) (by rfl)) (by rfl) (by rfl) (by rfl) (by rfl) (by rfl) (by rfl)) (by rfl))) (@a18 _))
        (@a38 _ _ _ _ _ (@a33 _ _ _ _ _ _ _ _ (@a07 _ _ _ _ _ _ _ _ a41 (@a14 _ _ _ _ _ _ _ (a06 K) (pv 9) (@a04 _ _ _ _) (fun _ _=>rfl)) (@a21 _ _ _ _) (nomark _)) (@a01 _ _ _ _ _ (@a20 _ _ 10 _ _ _ _ sc_law_on.nd rfl (by walk_at "o") (@a74 _ K _ _ _ _ _ _ _ _ _ _ _ PySem.F.plainAttrs_list PySem.F.slot_list_index PySem.F.type_list_index (ag2 K) (pv 7) (@a00 _ _ _ _ _ (@a14 _ _ _ _ _ _ _ (a06 K) (pv 9) (@a04 _ _ _ _) (fun _ _=>rfl)) (@a02 _) (by rfl)) (by rfl) (by rfl) (by rfl) (by rfl) (by rfl) (by rfl)) (by rfl) (by walk_at "o"))
         (@a05 _ _ _ (@ai1 _ _ _ _ _ _ (@a40 _ _ _ _ _ _ _ _ ac1 (@a08 _ _ _ _ _ _ _ _ _ _ _ _ _ _ _ _ G__law_worth (hr.mono (by omega)) rfl T.f__law_worth.m T.f__law_worth.F.kp T.f__law_worth.b .nil a28 (@a00 _ _ _ _ _ (@a14 _ _ _ _ _ _ _ (a06 K) (pv 9) (@a04 _ _ _ _) (fun _ _=>rfl)) (@a00 _ _ _ _ _ (pv 7) (@a00 _ _ _ _ _ (pv 3) (@a02 _) (by rfl)) (by rfl)) (by rfl)) (by decide) (by rfl) (by rfl)) (@a14 _ _ _ _ _ _ _ (a06 K) (@a14 _ _ _ _ _ _ _ (a29 K) (pv 4) (pv 10) (fun _ _=>rfl)) (@a04 _ _ _ _) (fun _ _=>rfl))) (aw8 (pv 3) (pv 10) ak2) (by rfl) (by rfl) (by rfl)))) (@a18 _))
        (@a05 _ _ _ (@a20 _ _ 1 _ _ _ _ sc_law_on.nd rfl (by walk_at "o") (@a14 _ _ _ _ _ _ _ (a06 K) (pv 9) (@ax1 _ _ _ _ _ _ am2 (@a04 _ _ _ _)) (fun _ _=>rfl)) (by rfl) (by walk_at "o"))))))))))))))
    (@a01 _ _ _ _ _ (@a33 _ _ _ _ _ _ _ _ (@a07 _ _ _ _ _ _ _ _ a41 (@a14 _ _ _ _ _ _ _ (a06 K) (@a14 _ _ _ _ _ _ _ (a29 K) (pv 5) (pv 1) (fun _ _=>rfl)) (@a04 _ _ _ _) (fun _ _=>rfl)) (@a21 _ _ _ _) (nomark _)) (@a05 _ _ _ (@a19 _ _ _ _ (@a23 _ _ _ _ _ (@a00 _ _ _ _ _ (pv 8) (@a00 _ _ _ _ _ (@a51 _ _ _) (@a02 _) (by rfl)) (by rfl))))) (@a18 _))
    (@a05 _ _ _ (@a19 _ _ _ _ (@a23 _ _ _ _ _ (@a00 _ _ _ _ _ (pv 8) (@a00 _ _ _ _ _ (@a23 _ _ _ _ _ (@a00 _ _ _ _ _ (pv 1) (@a00 _ _ _ _ _ (@a34 _ _ _ _ _ _ _ _ _ (a73 K) (by rfl) T.z_tuple a85 (@a00 _ _ _ _ _ (pv 2) (@a02 _) (by rfl)) (by decide) (by decide) (by rfl) (by rfl)) (@a00 _ _ _ _ _ (@a34 _ _ _ _ _ _ _ _ _ (a73 K) (by rfl) T.z_tuple a85 (@a00 _ _ _ _ _ (pv 3) (@a02 _) (by rfl)) (by decide) (by decide) (by rfl) (by rfl)) (@a00 _ _ _ _ _ (@a14 _ _ _ _ _ _ _ (a06 K) (@a14 _ _ _ _ _ _ _ (a29 K) (pv 5) (pv 1) (fun _ _=>rfl)) (@a04 _ _ _ _) (fun _ _=>rfl)) (@a02 _) (by rfl)) (by rfl)) (by rfl)) (by rfl))) (@a02 _) (by rfl)) (by rfl)))))))))))),?_⟩
   have sl:(1000000:Nat)≤sizeLine:=le_line (Nat.le_refl _)
   obtain ⟨bvs,nvs,h1,h2,h3,h4,h5⟩:=hG
   have hvl:bvs.length=bs.length:=h3.1
   have hul:nvs.length=ns.length:=by rw [h5.len,List.length_map]
   have hbl:=hB.bl
   have gok:=hB.gr
   walk_at "go"
   refine ⟨g,_,rfl,SqT.of h1,rfl,_,_,rfl,_,_,rfl,_,_,rfl,rfl,?_⟩
   walk_at "run"
   refine ⟨⟨_,SqL.of h2⟩,b56 (xs:=bvs) (by omega) (fun i acc H'=>H=H'∧i≤bvs.length∧acc=a35 ((bs.map (·.1)).take i)) ⟨rfl,Nat.zero_le _,rfl⟩ (fun i acc H' zz=>by obtain ⟨e0,_,ea⟩:=zz; exact ⟨by rw [ea]; simp [a35]; omega,e0 ▸ SqL.of h2⟩) ?_ ?_⟩
   · rintro i x acc H' hx ⟨rfl,hi,rfl⟩
     have hi':=(List.getElem?_eq_some_iff.mp hx).1
     obtain ⟨b,hb⟩:∃ b,bs[i]?=some b:=⟨_,List.getElem?_eq_getElem (by omega)⟩
     obtain ⟨pb,rfl,hpb⟩:=h3.2 i x b hx hb
     refine ⟨pb,_,_,rfl,SqT.of hpb,?_⟩
     walk_at "run"
     exact ⟨rfl,hi',by rw [List.take_add_one,List.getElem?_map,hb]; simp [a35]⟩
   rintro acc H' ⟨rfl,_,rfl⟩ lm H1 f1 s1 e1
   rw [hvl,show (bs.map (·.1)).take bs.length=bs.map (·.1) from List.take_of_length_le (by simp)] at e1
   walk_at "run"
   intro ls H2 f2 s2 e2
   walk_at "run"
   have s12:=s1.trans s2
   refine ⟨sa,_,rfl,SqT.sm hsa s12,?_⟩
   intro lk H3 f3 s3 e3
   walk_at "run"
   have s13:=s12.trans s3
   refine ⟨va,_,rfl,SqT.sm hva s13,?_⟩
   intro lv H4 f4 s4 e4
   walk_at "run"
   have s14:=s13.trans s4
   have fls:H ls=none:=s1.free f2
   have flk:H lk=none:=s12.free f3
   have flv:H lv=none:=s13.free f4
   have n1:ls≠lk:=fun z=>by rw [← z,e2] at f3; cases f3
   have n2:ls≠lv:=fun z=>by rw [← z,s3 _ _ e2] at f4; cases f4
   have n3:lk≠lv:=fun z=>by rw [← z,e3] at f4; cases f4
   have m1:lm≠ls:=fun z=>by rw [← z,e1] at f2; cases f2
   have m2:lm≠lk:=fun z=>by rw [← z,s2 _ _ e1] at f3; cases f3
   have m3:lm≠lv:=fun z=>by rw [← z,(s2.trans s3) _ _ e1] at f4; cases f4
   obtain ⟨Pv,hPv⟩:∃ Pv:Nat→St→Hp→Prop,Pv=(fun m σ H'=>∃ (k:Nat) (stk':List Nat) (ws':List Int) (sd':List Str) (y1 y2:Option V),σ=[some (.ref g),some (.int (k:Nat)),some (.ref lk),some (.ref lv),some (.ref lb),some (.ref ln),some (.int (f:Nat)),some (.ref lm),some (.ref ls),y1,y2]∧Same H H'∧H' ls=some (.lst (a35 sd'))∧H' lk=some (.lst (a43 stk'))∧H' lv=some (.lst (ws'.map V.int))∧H' lm=some (.lst (a35 (bs.map (·.1))))∧ws'.length=bs.length∧k<ns.length∧(∀ s∈stk',s<ns.length)∧(∃ sd1,grF ns bs m (some k) stk' ws'=some (sd1,r)∧sd=sd'++sd1)∧stk'.length+m≤900000∧sd'.length+m≤900000):=⟨_,rfl⟩
   refine b03 Pv n (by rw [hPv]; exact ⟨k,stk,ws,[],_,_,rfl,s14,(s3.trans s4) _ _ e2,s4 _ _ e3,e4,(s2.trans (s3.trans s4)) _ _ e1,hwl,hk,hsk,⟨sd,hgo,rfl⟩,hsl,by simp; omega⟩) ?_
   intro m σ H5 hI
   rw [hPv] at hI
   obtain ⟨k,stk',ws',sd',y1,y2,rfl,s5,els,elk,elv,elm,hwl5,hk5,hsk5,⟨sd1,hg,rfl⟩,hsm,hdm⟩:=hI
   obtain ⟨m',d,rfl,hd,hcs⟩:=ba2 hg
   have hmem:=List.mem_of_getElem? hd
   have hNB:=hB.at_ k d hd
   have hdok:=gok.ok d hmem
   have hnx:=gok.nx d hmem
   obtain ⟨u,hu⟩:∃ u,nvs[k]?=some u:=⟨_,List.getElem?_eq_getElem (by omega)⟩
   have hut:d.tr.At H5 u []:=by
    obtain ⟨t,ht,hxt⟩:=a63 (h5.same s5) hu
    rw [List.getElem?_map,hd] at ht
    rw [← Option.some.inj ht] at hxt
    exact hxt
   obtain ⟨na,us,rfl,hna⟩:=Nd.word_at hut
   walk_at "run"
   refine a45 (SqL.of (s5 _ _ h4)) (a03 hu) ?_
   walk_at "run"
   refine a22 (SqT.of hna) (a03 (j:=0) rfl) ?_
   walk_at "run"
   intro p6 H6 f6 s6 e6
   refine b76 (ys:=["wait","stop"]) (SqL.of e6) ?_
   walk_at "run"
   have s56:=s5.trans s6
   by_cases hin:d.word∈[Str.ofString "wait","stop"]
   · refine ao2 hin ?_
     walk_at "run"
     refine a45 (SqL.of (s56 _ _ h4)) (a03 hu) ?_
     walk_at "run"
     refine a22 (SqT.of (s6 _ _ hna)) (a03 (j:=0) rfl) ?_
     walk_at "run"
     by_cases hst:d.word=Str.ofString "stop"
     · refine a26 hst ?_
       walk_at "run"
       obtain rfl:=b21 hst
       rcases hcs with ⟨l',hl',_⟩ | ⟨_,y,hy,hx⟩
       · cases hl'
       injection hx with hx1 hx2
       have hyy:y=([],none):=by
        cases m' with
        | zero=>cases hy
        | succ m'=>cases hy; rfl
       subst hyy hx1 hx2
       intro p7 H7 f7 s7 e7
       exact q p7 ls .non H7 (s56.trans s7) e7 fls (by have:=(s6.trans s7) _ _ els; simpa [Nd.sd2] using this) rfl
     · refine a24 hst ?_
       walk_at "run"
       have hwt:d.word=Str.ofString "wait":=by
        simp only [List.mem_cons,List.not_mem_nil,or_false] at hin
        rcases hin with z | z
        · exact z
        · exact absurd z hst
       obtain ⟨l,br,j,rfl⟩:=b18 hwt
       obtain ⟨l',hl',hx⟩:∃ l',(Nd.wait l br j).w2=some l'∧(sd1,r)=([],some (k,stk',ws',l')):=by
        rcases hcs with z | ⟨hn,_⟩
        · exact z
        · cases hn
       cases hl'
       injection hx with hx1 hx2
       subst hx1 hx2
       obtain ⟨a,vs,hz,ha,hat⟩:=at_tup0.mp hut
       cases hz
       obtain ⟨v1,z1,rfl,k1,hat⟩:=ats_cons0.mp hat
       obtain ⟨v2,z2,rfl,k2,hat⟩:=ats_cons0.mp hat
       obtain rfl:=at_int0.mp k2
       refine aa8 (SqL.of (s6 _ _ elk)) ?_
       intro p7 H7 f7 s7 e7
       walk_at "run"
       refine aa8 (SqL.of ((s6.trans s7) _ _ elv)) ?_
       intro p8 H8 f8 s8 e8
       walk_at "run"
       have s68:=s6.trans (s7.trans s8)
       refine a45 (SqL.of ((s5.trans s68) _ _ h4)) (a03 hu) ?_
       walk_at "run"
       refine a22 (SqT.of (s68 _ _ ha)) (a03 (j:=1) rfl) ?_
       walk_at "run"
       intro p9 H9 f9 s9 e9
       walk_at "run"
       intro p10 H10 f10 s10 e10
       have s810:=s9.trans s10
       have s610:=s68.trans s810
       exact q p10 ls _ H10 (s5.trans s610) e10 fls (by rw [List.append_nil]; exact s610 _ _ els) ⟨p9,p7,p8,rfl,s10 _ _ e9,(s8.trans s810) _ _ e7,s810 _ _ e8⟩
   refine aj2 hin ?_
   have w1:d.word≠Str.ofString "wait":=fun z=>hin (by simp [z])
   have w2:d.word≠Str.ofString "stop":=fun z=>hin (by simp [z])
   rcases hcs with ⟨l',hl',_⟩ | ⟨_,y,hy,hx⟩
   · rw [bp2 w1] at hl'
     cases hl'
   injection hx with hx1 hx2
   subst hx1 hx2
   refine ⟨fun σ' H'=>∃ m2,m2<m'+1∧Pv m2 σ' H',fun σ' H' h'=>h',?_⟩
   have els6:=s6 _ _ els
   have elk6:=s6 _ _ elk
   have elv6:=s6 _ _ elv
   have elm6:=s6 _ _ elm
   have hut6:=hut.same s6
   have hna6:=s6 _ _ hna
   walk_at "run"
   refine a45 (SqL.of (s56 _ _ h4)) (a03 hu) ?_
   walk_at "run"
   refine a22 (SqT.of hna6) (a03 (j:=0) rfl) ?_
   walk_at "run"
   have nxt:∀ {k':Nat}{stk2:List Nat}{H7:Hp}{y1 y2:Option V},behF ns (bs.map (·.1)) (d.vals2 bs ws') stk' d=(some k',stk2)→k'<ns.length→(∀ s∈stk2,s<ns.length)→Same H H7→H7 ls=some (.lst (a35 (sd'++d.sd2)))→H7 lk=some (.lst (a43 stk2))→H7 lv=some (.lst ((d.vals2 bs ws').map V.int))→H7 lm=some (.lst (a35 (bs.map (·.1))))→∃ m2,m2<m'+1∧Pv m2 [some (.ref g),some (.int (k':Nat)),some (.ref lk),some (.ref lv),some (.ref lb),some (.ref ln),some (.int (f:Nat)),some (.ref lm),some (.ref ls),y1,y2] H7:=fun {k' stk2 H7 y1 y2} hb hk' hs2 s7 g1 g2 g3 g4=>by
    rw [hPv]
    rw [hb] at hy
    have hbl2:=au4 (ns:=ns) (nm:=bs.map (·.1)) (ws:=d.vals2 bs ws') (stk:=stk') (d:=d)
    rw [hb] at hbl2
    have hdl:=as0 d
    dsimp only at hbl2
    exact ⟨m',by omega,k',stk2,_,_,_,_,rfl,s7,g1,g2,g3,g4,ac7 hwl5,hk',hs2,⟨y.1,hy,by rw [List.append_assoc]⟩,by omega,by rw [List.length_append]; omega⟩
   by_cases w3:d.word=Str.ofString "back"
   · refine a26 w3 ?_
     walk_at "run"
     obtain rfl:=ah4 w3
     intro p7 H7 f7 s7 e7
     refine ag4 (SqL.of (s7 _ _ elk6)) (SqL.of e7) ?_
     walk_at "run"
     rcases List.eq_nil_or_concat stk' with rfl | ⟨t',z,rfl⟩
     · refine iteT ?_
       walk_at "run"
       have hyy:y=([],none):=by
        cases m' with
        | zero=>cases hy
        | succ m'=>cases hy; rfl
       subst hyy
       intro p8 H8 f8 s8 e8
       exact q p8 ls .non H8 (s56.trans (s7.trans s8)) e8 fls (by have:=(s7.trans s8) _ _ els6; simpa [Nd.sd2] using this) rfl
     · rw [List.concat_eq_append] at *
       refine b78 (by simp [a43]) ?_
       walk_at "run"
       refine a89 (SqL.of (s7 _ _ elk6)) ?_
       walk_at "run"
       refine bd5 (xs:=a43 t') (y:=.int (z:Nat)) (by rw [s7 _ _ elk6]; simp [a43]) ?_
       exact nxt (k':=z) (stk2:=t') (by simp [behF]) (hsk5 z (by simp)) (fun s hs=>hsk5 s (by simp [hs])) ((s56.trans s7).updNew flk) (by rw [a12 n1,s7 _ _ els6]; simp [Nd.sd2]) a32 (by rw [a12 n3.symm]; exact s7 _ _ elv6) (by rw [a12 m2]; exact s7 _ _ elm6)
   refine a24 w3 ?_
   walk_at "run"
   refine a22 (SqT.of hna6) (a03 (j:=0) rfl) ?_
   walk_at "run"
   by_cases w4:d.word=Str.ofString "call"
   · refine a26 w4 ?_
     walk_at "run"
     obtain ⟨x,z,rfl⟩:=b20 w4
     obtain ⟨a,hz,ha⟩:=Nd.call_at hut6
     cases hz
     have hz':z<ns.length:=hnx z (by simp [Nd.nexts])
     obtain ⟨u2,hu2⟩:∃ u,nvs[z]?=some u:=⟨_,List.getElem?_eq_getElem (by omega)⟩
     obtain ⟨d2,hd2⟩:∃ d2,ns[z]?=some d2:=⟨_,List.getElem?_eq_getElem hz'⟩
     have hut2:d2.tr.At H6 u2 []:=by
      obtain ⟨t,ht,hxt⟩:=a63 (h5.same s56) hu2
      rw [List.getElem?_map,hd2] at ht
      rw [← Option.some.inj ht] at hxt
      exact hxt
     have hbk:=ap5 hd2
     refine a62 (fun σ' H'=>σ'=[some (.ref g),some (.int (k:Nat)),some (.ref lk),some (.ref lv),some (.ref lb),some (.ref ln),some (.int (f:Nat)),some (.ref lm),some (.ref ls),some (.ref na),y2]∧∃ H7,Same H6 H7∧H'=upd H7 lk (.lst (a43 (if b14 ns z then stk' else stk'++[z])))) ?_ ?_
     · walk_at "run"
       refine a22 (SqT.of ha) (a03 (j:=2) rfl) ?_
       walk_at "run"
       refine a45 (SqL.of (s56 _ _ h4)) (a03 hu2) ?_
       walk_at "run"
       intro p7 H7 f7 s7 e7
       refine b97 (ts:=d2.its) (Tr.At.toK K (hut2.same s7)) (Tr.At.toK K (aa1 e7 a30)) (Nat.le_trans (nb_h (hB.at_ z d2 hd2)) (by decide)) (by simp [Tr.h,Tr.hs]) ?_
       walk_at "run"
       by_cases hb:d2.word=Str.ofString "back"
       · refine ao2 (back_tr.mpr hb) ?_
         walk_at "run"
         exact ⟨rfl,H7,s7,by rw [hbk,decide_eq_true hb,if_pos rfl,b24 (s7 _ _ elk6)]⟩
       · refine aj2 (fun e=>hb (back_tr.mp e)) ?_
         walk_at "run"
         refine a89 (SqL.of (s7 _ _ elk6)) ?_
         walk_at "run"
         refine a22 (SqT.of (s7 _ _ ha)) (a03 (j:=2) rfl) ?_
         walk_at "run"
         refine a58 (s7 _ _ elk6) (by simp only [a43,List.length_map]; omega) ?_
         exact ⟨rfl,H7,s7,by rw [hbk,decide_eq_false hb,if_neg (by simp)]; simp [a43]⟩
     · rintro σ' H' ⟨rfl,H7,s7,rfl⟩
       walk_at "run"
       have elk7:=s7 _ _ elk6
       refine a22 (SqT.of ((Tups.upd elk7) _ _ (s7 _ _ ha))) (a03 (j:=1) rfl) ?_
       refine nxt rfl (hnx x (by simp [Nd.nexts])) ?_ ((s56.trans s7).updNew flk) (by rw [a12 n1,s7 _ _ els6]; simp [Nd.sd2]) a32 (by rw [a12 n3.symm]; exact s7 _ _ elv6) (by rw [a12 m2]; exact s7 _ _ elm6)
       split
       · exact hsk5
       · intro s hs
         rcases List.mem_append.mp hs with e | e
         · exact hsk5 s e
         · rw [List.mem_singleton.mp e]; exact hz'
   refine a24 w4 ?_
   walk_at "run"
   refine a22 (SqT.of hna6) (a03 (j:=0) rfl) ?_
   walk_at "run"
   by_cases w5:d.word=Str.ofString "test"
   · refine a26 w5 ?_
     walk_at "run"
     obtain ⟨c,x,z,rfl⟩:=b19 w5
     obtain ⟨a,uc,hz,ha,hc⟩:=Nd.test_at hut6
     cases hz
     refine a22 (SqT.of ha) (a03 (j:=1) rfl) ?_
     walk_at "run"
     refine ⟨uc,c,lm,lv,_,ws',rfl,ao5 hc,hdok.2,hdok.1,elm6,elv6,by simp [hwl5],fun H7 s7=>?_⟩
     walk_at "run"
     cases hce:c.ev (bs.map (·.1)) ws' with
     | true =>
       walk_at "run"
       refine a22 (SqT.of (s7 _ _ ha)) (show atI _ ((3:Int) - 1)=_ from a03 (j:=2) rfl) ?_
       exact nxt (k':=x) (by simp only [behF,Nd.vals2,hce,if_true]) (hnx x (by simp [Nd.nexts])) hsk5 (s56.trans s7) (by rw [s7 _ _ els6]; simp [Nd.sd2]) (s7 _ _ elk6) (s7 _ _ elv6) (s7 _ _ elm6)
     | false =>
       walk_at "run"
       refine a22 (SqT.of (s7 _ _ ha)) (show atI _ ((3:Int) - 0)=_ from a03 (j:=3) rfl) ?_
       exact nxt (k':=z) (by simp only [behF,Nd.vals2,hce,Bool.false_eq_true,if_false]) (hnx z (by simp [Nd.nexts])) hsk5 (s56.trans s7) (by rw [s7 _ _ els6]; simp [Nd.sd2]) (s7 _ _ elk6) (s7 _ _ elv6) (s7 _ _ elm6)
   refine a24 w5 ?_
   walk_at "run"
   refine a62 (fun σ' H'=>σ'=[some (.ref g),some (.int (k:Nat)),some (.ref lk),some (.ref lv),some (.ref lb),some (.ref ln),some (.int (f:Nat)),some (.ref lm),some (.ref ls),some (.ref na),y2]∧Same H H'∧H' ls=some (.lst (a35 (sd'++(if d.word=Str.ofString "say" then d.sd2 else []))))∧H' lk=some (.lst (a43 stk'))∧H' lv=some (.lst (ws'.map V.int))∧H' lm=some (.lst (a35 (bs.map (·.1))))∧d.tr.At H' (.ref na) []) ?_ ?_
   · walk_at "run"
     refine a22 (SqT.of hna6) (a03 (j:=0) rfl) ?_
     walk_at "run"
     by_cases hh:d.word=Str.ofString "say"
     · refine a26 hh ?_
       walk_at "run"
       obtain ⟨a,us',w',hz,hw',hor⟩:=al5 (.inl hh) hut6 hdok
       cases hz
       have ha:H6 na=some (.tup (.str "say"::.str w'::us')):=by
        rcases hor with z | ⟨l,x,z,_⟩
        · exact z
        · rw [hna6] at z
          injection z with z
          injection z with z
          injection z with z1 z2
          injection z1 with z1
          rw [hh] at z1
          exact absurd z1 (by decide +kernel)
       refine a89 (SqL.of els6) ?_
       walk_at "run"
       refine a22 (SqT.of ha) (a03 (j:=1) rfl) ?_
       walk_at "run"
       refine a58 els6 (by simp only [a35,List.length_map]; omega) ?_
       exact ⟨rfl,s56.updNew fls,by rw [a32,if_pos hh,hw']; simp [a35],by rw [a12 n1.symm]; exact elk6,by rw [a12 n2.symm]; exact elv6,by rw [a12 m1]; exact elm6,aa2 hut6 (Tups.upd els6)⟩
     · refine a24 hh ?_
       walk_at "run"
       exact ⟨rfl,s56,by rw [if_neg hh,List.append_nil]; exact els6,elk6,elv6,elm6,hut6⟩
   rintro σ' H7 ⟨rfl,s7,els7,elk7,elv7,elm7,hut7⟩
   obtain ⟨na',us7,hz,hna7⟩:=Nd.word_at hut7
   cases hz
   refine a62 (fun σ' H'=>σ'=[some (.ref g),some (.int (k:Nat)),some (.ref lk),some (.ref lv),some (.ref lb),some (.ref ln),some (.int (f:Nat)),some (.ref lm),some (.ref ls),some (.ref na),y2]∧Same H H'∧H' ls=some (.lst (a35 (sd'++d.sd2)))∧H' lk=some (.lst (a43 stk'))∧H' lv=some (.lst (ws'.map V.int))∧H' lm=some (.lst (a35 (bs.map (·.1))))∧d.tr.At H' (.ref na) []) ?_ ?_
   · walk_at "run"
     refine a22 (SqT.of hna7) (a03 (j:=0) rfl) ?_
     walk_at "run"
     by_cases hh:d.word=Str.ofString "hand"
     · refine a26 hh ?_
       walk_at "run"
       obtain ⟨a,us',w',hz,hw',hor⟩:=al5 (.inr hh) hut7 hdok
       cases hz
       obtain ⟨l,x,ha,l0,l1,hx,hwx⟩:∃ l x,H7 na=some (.tup (.str "hand"::.int l::.str x::us'))∧0≤l∧l<10∧x.length≤100∧w'=sayS l x:=by
        rcases hor with z | z
        · rw [hna7] at z
          injection z with z
          injection z with z
          injection z with z1 z2
          injection z1 with z1
          rw [hh] at z1
          exact absurd z1 (by decide +kernel)
        · exact z
       have hns:¬ d.word=Str.ofString "say":=fun z=>by rw [hh] at z; exact absurd z (by decide +kernel)
       rw [if_neg hns,List.append_nil] at els7
       refine a89 (SqL.of els7) ?_
       walk_at "run"
       refine a22 (SqT.of ha) (a03 (j:=1) rfl) ?_
       walk_at "run"
       have d1:=az8 l0 l1
       have d2:(Str.ofString ":").length=1:=by decide +kernel
       refine bl8 (ao1 (by omega)) ?_
       walk_at "run"
       refine az9 (by rw [d1,d2]; omega) ?_
       walk_at "run"
       refine a22 (SqT.of ha) (a03 (j:=2) rfl) ?_
       walk_at "run"
       refine az9 (by rw [strLen_append,d1,d2]; omega) ?_
       walk_at "run"
       refine a58 els7 (by simp only [a35,List.length_map]; omega) ?_
       exact ⟨rfl,s7.updNew fls,by rw [a32,hw',hwx]; simp [a35,sayS],by rw [a12 n1.symm]; exact elk7,by rw [a12 n2.symm]; exact elv7,by rw [a12 m1]; exact elm7,aa2 hut7 (Tups.upd els7)⟩
     · refine a24 hh ?_
       walk_at "run"
       refine ⟨rfl,s7,?_,elk7,elv7,elm7,hut7⟩
       rw [els7]
       by_cases hs:d.word=Str.ofString "say"
       · rw [if_pos hs]
       · rw [if_neg hs,ba3 (fun z=>by rcases z with z | z; exact hs z; exact hh z)]
   rintro σ' H8 ⟨rfl,s8,els8,elk8,elv8,elm8,hut8⟩
   obtain ⟨na',us8,hz,hna8⟩:=Nd.word_at hut8
   cases hz
   refine a62 (fun σ' H'=>∃ y3,σ'=[some (.ref g),some (.int (k:Nat)),some (.ref lk),some (.ref lv),some (.ref lb),some (.ref ln),some (.int (f:Nat)),some (.ref lm),some (.ref ls),some (.ref na),y3]∧Same H H'∧H' ls=some (.lst (a35 (sd'++d.sd2)))∧H' lk=some (.lst (a43 stk'))∧H' lv=some (.lst ((d.vals2 bs ws').map V.int))∧H' lm=some (.lst (a35 (bs.map (·.1))))∧d.tr.At H' (.ref na) []) ?_ ?_
   · walk_at "run"
     refine a22 (SqT.of hna8) (a03 (j:=0) rfl) ?_
     walk_at "run"
     by_cases hh:d.word=Str.ofString "put"
     · refine a26 hh ?_
       walk_at "run"
       obtain ⟨nmx,e,j,rfl⟩:=ba1 hh
       obtain ⟨a,u',hz,ha,he⟩:=Nd.put_at hut8
       cases hz
       refine a89 (SqL.of elm8) ?_
       walk_at "run"
       refine a22 (SqT.of ha) (a03 (j:=1) rfl) ?_
       walk_at "run"
       obtain ⟨at',i1,i2⟩:∃ at':Nat,(bs.map (·.1))[at']?=some nmx∧∀ m,m<at'→(bs.map (·.1))[m]?≠some nmx:=⟨_,bu9 hdok.2.2⟩
       refine ar2 (SqL.of elm8) i1 i2 ?_
       walk_at "run"
       refine a22 (SqT.of ha) (a03 (j:=2) rfl) ?_
       walk_at "run"
       refine ⟨u',e,lm,lv,_,ws',rfl,by first | exact aj3 he | exact he,hdok.2.1,hdok.1,elm8,elv8,by simp [hwl5],fun H9 s9=>?_⟩
       walk_at "run"
       rw [List.getElem?_map] at i1
       obtain ⟨b,hb,hbn⟩:=Option.map_eq_some_iff.mp i1
       have hatl:=(List.getElem?_eq_some_iff.mp hb).1
       obtain ⟨xb,hxb⟩:∃ xb,bvs[at']?=some xb:=⟨_,List.getElem?_eq_getElem (by omega)⟩
       obtain ⟨pb,rfl,hpb⟩:=h3.2 at' xb b hxb hb
       have s89:=s8.trans s9
       refine a45 (SqL.of (s89 _ _ h2)) (a03 hxb) ?_
       walk_at "run"
       refine a22 (SqT.of (s89 _ _ hpb)) (a03 (j:=1) rfl) ?_
       have hbz:=(hB.bz b (List.mem_of_getElem? hb)).1
       refine i_rI hbz ?_
       walk_at "run"
       have elv9:=s9 _ _ elv8
       refine ⟨lv,_,(at':Int),at',rfl,rfl,elv9,?_,?_⟩
       · unfold ixN
         rw [if_pos (by omega),if_pos (by rw [List.length_map]; omega)]
         rfl
       have tU:Tups H9 (upd H9 lv (.lst ((ws'.map V.int).set at' (.int (e.ev (bs.map (·.1)) ws' % b.2))))):=Tups.upd elv9
       refine ⟨_,rfl,s89.updNew flv,by rw [a12 n2]; exact s9 _ _ els8,by rw [a12 n3]; exact s9 _ _ elk8,?_,by rw [a12 m3]; exact s9 _ _ elm8,aa2 (hut8.same s9) tU⟩
       rw [a32]
       simp only [Nd.vals2]
       rw [b77 hB.nd hwl5 hb hbn,List.map_set]
     · refine a24 hh ?_
       walk_at "run"
       exact ⟨_,rfl,s8,els8,elk8,by rw [b22 hh]; exact elv8,elm8,hut8⟩
   rintro σ' H9 ⟨y3,rfl,s9,els9,elk9,elv9,elm9,hut9⟩
   walk_at "run"
   obtain ⟨k',rr,hr',hb⟩:=b23 w5 w4 w3 w2
   obtain ⟨a',vs,hz,ha,hat⟩:=at_tup0.mp hut9
   cases hz
   rw [hr'] at hat
   obtain ⟨ws2,v',rfl,hv'⟩:=al4 hat
   obtain rfl:=at_int0.mp hv'
   refine a22 (SqT.of ha) (ak1 _ _) ?_
   have hk':k'∈d.nexts:=by
    cases d with
    | say w n=>simp only [Nd.its] at hr'; simp only [behF] at hb; have:=hb [] [] [] []; cases this; simp [Nd.nexts]
    | hand l w n=>have:=hb [] [] [] []; cases this; simp [Nd.nexts]
    | put b e n=>have:=hb [] [] [] []; cases this; simp [Nd.nexts]
    | wait l br n=>exact absurd rfl w1
    | test c a b=>exact absurd rfl w5
    | call a b=>exact absurd rfl w4
    | back=>exact absurd rfl w3
    | stop=>exact absurd rfl w2
   exact nxt (hb _ _ _ _) (hnx k' hk') hsk5 s9 els9 elk9 elv9 elm9
noncomputable def flN (br:List (List Pt×Nat)) (e:Tr):List Nat:=(br.filter fun b=>decide (patK b.1=e)).map (·.2)
theorem b32 (br:List (List Pt×Nat)) (e:Tr):(flN br e).head?=fndN br e:=by
 unfold flN fndN
 rw [List.head?_map,List.head?_filter]
theorem bg2 {br:List (List Pt×Nat)}{e:Tr}(h:∀ b∈br,patK b.1≠e):flN br e=[]:=by
 unfold flN
 rw [List.filter_eq_nil_iff.mpr fun b hb=>by simpa using h b hb]
 rfl
theorem GrL.same {H H':Hp}{g lb ln:Addr}{bs:List (Str×Int)}{ns:List Nd}{f:Nat}(h:GrL H g lb ln bs ns f) (s:Same H H'):GrL H' g lb ln bs ns f:=by
 obtain ⟨bvs,nvs,h1,h2,h3,h4,h5⟩:=h
 exact ⟨bvs,nvs,s _ _ h1,s _ _ h2,h3.mono fun _ _ z=>z.same s,s _ _ h4,h5.same s⟩
theorem ah5 (l:List Nat):(a43 l).isEmpty=l.isEmpty:=by cases l <;> rfl
theorem b33 (br:List (List Pt×Nat)) (e:Tr):(flN br e).length≤br.length:=by
 unfold flN
 rw [List.length_map]
 exact List.length_filter_le ..
theorem bq0 {br:List (List Pt×Nat)}{e:Tr}{i:Nat}{b:List Pt×Nat}(h:br[i]?=some b) (hc:patK b.1=e):a43 (flN (br.take i) e)++[V.int (b.2:Nat)]=a43 (flN (br.take (i+1)) e):=by
 rw [List.take_add_one,h]
 simp [flN,hc,a43]
theorem bq1 {br:List (List Pt×Nat)}{e:Tr}{i:Nat}{b:List Pt×Nat}(h:br[i]?=some b) (hc:patK b.1≠e):a43 (flN (br.take i) e)=a43 (flN (br.take (i+1)) e):=by
 rw [List.take_add_one,h]
 simp [flN,hc]
def bq2 (K:PySem.W.Frag):Sp:=fun vs H Q _=>∃ (g lb ln:Addr) (sv ev:V) (bs:List (Str×Int)) (ns:List Nd) (f n:Nat) (cm:Bool) (r0:Option StG) (ets:List Tr) (sd:List Str) (r:Option StG),vs=[.ref g,sv,ev]∧GrL H g lb ln bs ns f∧GB bs ns f cm∧SgAt H sv r0∧StI bs ns cm 131071 r0∧(Tr.tup ets).At H ev []∧(Tr.tup ets).h≤5∧(∀ x,r0=some x→x.2.1.length+n≤900000)∧as1 ns bs n r0 (.tup ets)=some (sd,r) ∧
 ∀ p' l v' H',Same H H'→H' p'=some (.tup [.ref l,v'])→H l=none→H' l=some (.lst (a35 sd))→SgAt H' v' r→Q (.ref p') H'
theorem as6 (T:Txt K mg t):FnOk P w K mg base CX0 14 t.a__law_step t.fd__law_step ["graph","standing","event"] (bq2 K):=by
 have G__law_on:=aq0 (P:=P) (w:=w) (base:=base) T
 refine T.f__law_step.F.ok sc_law_step (fun vs H Q E h=>?_) (fun cdv A outer s H vs Q E hr h=>?_)
 · obtain ⟨g,lb,ln,sv,ev,bs,ns,f,n,cm,r0,ets,sd,r,rfl,_⟩:=h
   rfl
 · obtain ⟨g,lb,ln,sv,ev,bs,ns,f,n,cm,r0,ets,sd,r,rfl,hG,hB,hs,hI,he,heh,hb,hst,q⟩:=h
   refine ⟨_,(@a01 _ _ _ _ _ (@a33 _ _ _ _ _ _ _ _ (@a07 _ _ _ _ _ _ _ _ aa0 (pv 1) (@a51 _ _ _) (nomark _)) (@a05 _ _ _ (@a19 _ _ _ _ (@a23 _ _ _ _ _ (@a00 _ _ _ _ _ (@a31 _ _ _ _ (@a02 _)) (@a00 _ _ _ _ _ (@a51 _ _ _) (@a02 _) (by rfl)) (by rfl))))) (@a18 _))
    (@a01 _ _ _ _ _ (@ai1 _ _ _ _ _ _ (pv 1) (a98 K (n:=4) rfl (a37 (a36 (i:=3) sc_law_step.nd rfl (by walk_at "o")) (a37 (a36 (i:=4) sc_law_step.nd rfl (by walk_at "o")) (a37 (a36 (i:=5) sc_law_step.nd rfl (by walk_at "o")) (a37 (a36 (i:=6) sc_law_step.nd rfl (by walk_at "o")) (@a92 _)))))) (by rfl) (by rfl) (by rfl))
    (@a01 _ _ _ _ _ (@a20 _ _ 7 _ _ _ _ sc_law_step.nd rfl (by walk_at "o") (@a14 _ _ _ _ _ _ _ (a29 K) (@a14 _ _ _ _ _ _ _ (a06 K) (pv 0) (@a04 _ _ _ _) (fun _ _=>rfl)) (pv 3) (fun _ _=>rfl)) (by rfl) (by walk_at "o"))
    (@a01 _ _ _ _ _ (b48 (i:=8) (Nt:=["pattern","to"]) (Nf:=["event"]) (caps:=[2]) rfl (ad2 (sc:=a17 aa7) rfl rfl (by decide +kernel) (by decide +kernel) (by decide +kernel) rfl (by decide +kernel)) (ar1 K (@a14 _ _ _ _ _ _ _ (a06 K) (pv 7) (@a04 _ _ _ _) (fun _ _=>rfl))) (fun _ _ _ _ _=>(a98 K (n:=2) rfl (a37 (a36 (i:=0) (show (["pattern","to","event"]:List Str).Nodup by decide +kernel) rfl (by walk_at "o")) (a37 (a36 (i:=1) (show (["pattern","to","event"]:List Str).Nodup by decide +kernel) rfl (by walk_at "o")) (@a92 _))))) (fun _ _ _ _ _=>(@az1 _ _ _ (@a07 _ _ _ _ _ _ _ _ (ac6 K (by exact hr.units)) (pv 0) (pv 2) (nomark _)))) (fun _ _ _ _ _=>(pv 1)) sc_law_step.nd rfl (by walk_at "o") rfl)
    (@a38 _ _ _ _ _ (@a33 _ _ _ _ _ _ _ _ (@PW.pt _ _ _ (@ai0 _ _ _ _ _ _ _ (@a07 _ _ _ _ _ _ _ _ (aa3 K (by exact hr.units)) (pv 8) (@a31 _ _ _ _ (@a02 _)) (nomark _)) (@ac8 _ _ _ _ (@a07 _ _ _ _ _ _ _ _ (au3 K (by exact hr.units)) (pv 2) (@a23 _ _ _ _ _ (@a00 _ _ _ _ _ (@a21 _ _ _ _) (@a02 _) (by rfl))) (nomark _))))) (@a05 _ _ _ (b48 (i:=8) (Nt:=["pattern","to"]) (Nf:=[]) (caps:=[]) rfl (ad2 (sc:=a17 aa7) rfl rfl (by decide +kernel) (by decide +kernel) (by decide +kernel) rfl (by decide +kernel)) (ar1 K (@a14 _ _ _ _ _ _ _ (a06 K) (pv 7) (@a04 _ _ _ _) (fun _ _=>rfl))) (fun _ _ _ _ _=>(a98 K (n:=2) rfl (a37 (a36 (i:=0) (show (["pattern","to"]:List Str).Nodup by decide +kernel) rfl (by walk_at "o")) (a37 (a36 (i:=1) (show (["pattern","to"]:List Str).Nodup by decide +kernel) rfl (by walk_at "o")) (@a92 _))))) (fun _ _ _ _ _=>(@az1 _ _ _ (@a07 _ _ _ _ _ _ _ _ (ac6 K (by exact hr.units)) (pv 0) (@a23 _ _ _ _ _ (@a00 _ _ _ _ _ (@a21 _ _ _ _) (@a02 _) (by rfl))) (nomark _)))) (fun _ _ _ _ _=>(pv 1)) sc_law_step.nd rfl (by walk_at "o") rfl)) (@a18 _))
    (@a38 _ _ _ _ _ (@a33 _ _ _ _ _ _ _ _ (@PW.pt _ _ _ (@ai0 _ _ _ _ _ _ _ (@a07 _ _ _ _ _ _ _ _ (aa3 K (by exact hr.units)) (pv 8) (@a31 _ _ _ _ (@a02 _)) (nomark _)) (@ac8 _ _ _ _ (@a07 _ _ _ _ _ _ _ _ a41 (pv 6) (@a04 _ _ _ _) (nomark _))))) (@a05 _ _ _ (@a20 _ _ 8 _ _ _ _ sc_law_step.nd rfl (by walk_at "o") (@a31 _ _ _ _ (@a00 _ _ _ _ _ (@a14 _ _ _ _ _ _ _ (a06 K) (pv 7) (@a04 _ _ _ _) (fun _ _=>rfl)) (@a02 _) (by rfl))) (by rfl) (by walk_at "o"))) (@a18 _))
    (@a01 _ _ _ _ _ (@a33 _ _ _ _ _ _ _ _ (@a07 _ _ _ _ _ _ _ _ (aa3 K (by exact hr.units)) (pv 8) (@a31 _ _ _ _ (@a02 _)) (nomark _)) (@a05 _ _ _ (@a19 _ _ _ _ (@a23 _ _ _ _ _ (@a00 _ _ _ _ _ (@a31 _ _ _ _ (@a02 _)) (@a00 _ _ _ _ _ (@a23 _ _ _ _ _ (@a00 _ _ _ _ _ (pv 3) (@a00 _ _ _ _ _ (pv 4) (@a00 _ _ _ _ _ (pv 5) (@a00 _ _ _ _ _ (@a40 _ _ _ _ _ _ _ _ a70 (pv 6) (@a34 _ _ _ _ _ _ _ _ _ aj1 (by rfl) T.z_int ag0 (@a00 _ _ _ _ _ (@a52 _ _ _ _ _ _ _ _ aj8 (pv 6) (@a04 _ _ _ _) (nomark _)) (@a02 _) (by rfl)) (by decide) (by decide) (by rfl) (by rfl))) (@a02 _) (by rfl)) (by rfl)) (by rfl)) (by rfl))) (@a02 _) (by rfl)) (by rfl))))) (@a18 _))
    (@a05 _ _ _ (@a19 _ _ _ _ (@a08 _ _ _ _ _ _ _ _ _ _ _ _ _ _ _ _ G__law_on (hr.mono (by omega)) rfl T.f__law_on.m T.f__law_on.F.kp T.f__law_on.b .nil a28 (@a00 _ _ _ _ _ (pv 0) (@a00 _ _ _ _ _ (@a14 _ _ _ _ _ _ _ (a29 K) (pv 8) (@a04 _ _ _ _) (fun _ _=>rfl)) (@a00 _ _ _ _ _ (pv 4) (@a00 _ _ _ _ _ (pv 5) (@a02 _) (by rfl)) (by rfl)) (by rfl)) (by rfl)) (by decide) (by rfl) (by rfl))))))))))),?_⟩
   have sl:(1000000:Nat)≤sizeLine:=le_line (Nat.le_refl _)
   walk_at "go"
   cases r0 with
   | none =>
     obtain rfl:sv=.non:=hs
     injection hst with hst
     injection hst with z1 z2
     subst z1 z2
     refine a26 rfl ?_
     walk_at "run"
     intro p6 H6 f6 s6 e6
     walk_at "run"
     intro p7 H7 f7 s7 e7
     exact q p7 p6 _ H7 (s6.trans s7) e7 f6 (s7 _ _ e6) rfl
   | some x =>
   obtain ⟨⟨l,br,m,hw0,hl0,_⟩,hsk,hwl,_,_⟩:=hI.ex x rfl
   have hxl:=hb x rfl
   obtain ⟨l',br',m',hw,hm⟩:=al6 hst
   rw [hw0] at hw
   cases hw
   have hN:=hB.at_ x.1 _ hw0
   obtain ⟨k,stk,ws,lf⟩:=x
   obtain ⟨sa,ps,pa,rfl,hsa,i1,i2⟩:=hs
   dsimp only at hw0 hl0 hsk hwl hxl
   have hG0:=hG
   obtain ⟨bvs,nvs,h1,h2,h3,h4,h5⟩:=hG
   have hul:nvs.length=ns.length:=by rw [h5.len,List.length_map]
   obtain ⟨u,hu⟩:∃ u,nvs[k]?=some u:=⟨_,List.getElem?_eq_getElem (by have:=(List.getElem?_eq_some_iff.mp hw0).1; omega)⟩
   have hut:(Nd.wait l br m).tr.At H u []:=by
    obtain ⟨t,ht,hxt⟩:=a63 h5 hu
    rw [List.getElem?_map,hw0] at ht
    rw [← Option.some.inj ht] at hxt
    exact hxt
   obtain ⟨wa,vs,rfl,hwa,hat⟩:=at_tup0.mp hut
   obtain ⟨v1,u1,rfl,j1,hat⟩:=ats_cons0.mp hat
   obtain ⟨v2,u2,rfl,j2,hat⟩:=ats_cons0.mp hat
   obtain ⟨v3,u3,rfl,j3,hat⟩:=ats_cons0.mp hat
   obtain ⟨v4,u4,rfl,j4,hat⟩:=ats_cons0.mp hat
   obtain rfl:=at_int0.mp j4
   obtain ⟨ba,us,rfl,hba,hbt⟩:=at_tup0.mp j3
   have hubl:us.length=br.length:=by rw [hbt.len,List.length_map]
   refine a24 (fun z=>nomatch z) ?_
   walk_at "run"
   refine ⟨sa,_,rfl,SqT.of hsa,rfl,_,_,rfl,_,_,rfl,_,_,rfl,_,_,rfl,rfl,?_⟩
   walk_at "run"
   refine a22 (SqT.of h1) (a03 (j:=1) rfl) ?_
   walk_at "run"
   refine a45 (SqL.of h4) (a03 hu) ?_
   walk_at "run"
   refine a22 (SqT.of hwa) (a03 (j:=2) rfl) ?_
   walk_at "run"
   refine ⟨⟨_,SqT.of hba⟩,ao3 (xs:=us) (by have:=hN.1.2.1; omega) (fun i acc H'=>Same H H'∧i≤us.length∧acc=a43 (flN (br.take i) (.tup ets))) ⟨Same.refl _,Nat.zero_le _,rfl⟩ (fun i acc H' zz=>by obtain ⟨s0,hi,ea⟩:=zz; exact ⟨by rw [ea,a43,List.length_map]; exact Nat.le_trans (b33 _ _) (by simp; omega),SqT.of (s0 _ _ hba)⟩) ?_ ?_⟩
   · rintro i x acc H2 hx ⟨s2,hi,rfl⟩
     have hi':=(List.getElem?_eq_some_iff.mp hx).1
     obtain ⟨b,hb'⟩:∃ b,br[i]?=some b:=⟨_,List.getElem?_eq_getElem (by omega)⟩
     obtain ⟨t,ht,hxt⟩:=a63 (hbt.same s2) hx
     rw [List.getElem?_map,hb'] at ht
     rw [← Option.some.inj ht] at hxt
     obtain ⟨a,u,rfl,ha,hp⟩:=bf3 hxt
     refine ⟨a,_,_,rfl,SqT.of ha,?_⟩
     walk_at "run"
     refine ao6 (hp.toK K) ((he.same s2).toK K) (Nat.le_trans (ap4 _) (by decide)) (Nat.le_trans heh (by decide)) ?_
     walk_at "run"
     by_cases hc:patK b.1=.tup ets
     · refine a26 hc ?_
       walk_at "run"
       exact ⟨s2,hi',bq0 hb' hc⟩
     · refine a24 hc ?_
       walk_at "run"
       exact ⟨s2,hi',bq1 hb' hc⟩
   rintro acc H2 ⟨s2,_,rfl⟩ lf1 H3 f3 s3 e3
   rw [hubl,List.take_length] at e3
   have s03:=s2.trans s3
   walk_at "run"
   refine a62 (fun σ' H'=>∃ (fl:List Nat) (lf':Addr),σ'=[some (.ref g),some (.ref sa),some ev,some (.int (k:Nat)),some (.ref ps),some (.ref pa),some (.int lf),some (.ref wa),some (.ref lf')]∧Same H H'∧H lf'=none∧H' lf'=some (.lst (a43 fl))∧fl.head?=weN br (.tup ets)) ?_ ?_
   · walk_at "run"
     intro p5 H5 f5 s5 e5
     refine ag4 (SqL.of (s5 _ _ e3)) (SqL.of e5) ?_
     walk_at "run"
     rw [ah5]
     have hfn:=b32 br (.tup ets)
     have s05:=s03.trans s5
     cases hf:flN br (.tup ets) with
     | nil =>
       rw [hf] at e3 hfn
       refine iteT ?_
       walk_at "run"
       intro p6 H6 f6 s6 e6
       have s06:=s05.trans s6
       refine b97 ((he.same s06).toK K) ((aa1 e6 a30).toK K) (Nat.le_trans heh (by decide)) (by decide) ?_
       walk_at "run"
       by_cases hq:Tr.tup ets=.tup [.str "quiet"]
       · rw [decide_eq_true hq]
         refine iteF ?_
         walk_at "run"
         exact ⟨[],lf1,rfl,s06,s2.free f3,(s5.trans s6) _ _ e3,by unfold weN; rw [if_pos hq]; rfl⟩
       · rw [decide_eq_false hq]
         refine iteT ?_
         walk_at "run"
         refine a22 (SqT.of (s06 _ _ hwa)) (a03 (j:=2) rfl) ?_
         walk_at "run"
         refine ⟨⟨_,SqT.of (s06 _ _ hba)⟩,ao3 (xs:=us) (by have:=hN.1.2.1; omega) (fun i acc H'=>Same H H'∧i≤us.length∧acc=a43 (flN (br.take i) (.tup [.str "other"]))) ⟨s06,Nat.zero_le _,rfl⟩ (fun i acc H' zz=>by obtain ⟨s0,hi,ea⟩:=zz; exact ⟨by rw [ea,a43,List.length_map]; exact Nat.le_trans (b33 _ _) (by simp; omega),SqT.of (s0 _ _ hba)⟩) ?_ ?_⟩
         · rintro i x acc H7 hx ⟨s7,hi,rfl⟩
           have hi':=(List.getElem?_eq_some_iff.mp hx).1
           obtain ⟨b,hb'⟩:∃ b,br[i]?=some b:=⟨_,List.getElem?_eq_getElem (by omega)⟩
           obtain ⟨t,ht,hxt⟩:=a63 (hbt.same s7) hx
           rw [List.getElem?_map,hb'] at ht
           rw [← Option.some.inj ht] at hxt
           obtain ⟨a,u,rfl,ha,hp⟩:=bf3 hxt
           refine ⟨a,_,_,rfl,SqT.of ha,?_⟩
           walk_at "run"
           intro p8 H8 f8 s8 e8
           refine ao6 ((hp.same s8).toK K) ((aa1 e8 a30).toK K) (Nat.le_trans (ap4 _) (by decide)) (by decide) ?_
           walk_at "run"
           by_cases hc:patK b.1=.tup [.str "other"]
           · refine a26 hc ?_
             walk_at "run"
             exact ⟨s7.trans s8,hi',bq0 hb' hc⟩
           · refine a24 hc ?_
             walk_at "run"
             exact ⟨s7.trans s8,hi',bq1 hb' hc⟩
         rintro acc H7 ⟨s7,_,rfl⟩ lf2 H8 f8 s8 e8
         rw [hubl,List.take_length] at e8
         exact ⟨_,lf2,rfl,s7.trans s8,s7.free f8,e8,by rw [b32]; unfold weN; rw [if_neg hq,←hfn]; rfl⟩
     | cons a t =>
       rw [hf] at e3 hfn
       refine iteF ?_
       walk_at "run"
       have hq:Tr.tup ets≠.tup [.str "quiet"]:=fun z=>by
        rw [z,bg2 hN.1.2.2] at hf
        cases hf
       exact ⟨a::t,lf1,rfl,s05,s2.free f3,s5 _ _ e3,by unfold weN; rw [if_neg hq,←hfn]; rfl⟩
   rintro σ' H4 ⟨fl,la,rfl,s4,fla,e4,hfl⟩
   walk_at "run"
   refine a62 (fun σ' H'=>∃ (fl:List Nat) (lf':Addr),σ'=[some (.ref g),some (.ref sa),some ev,some (.int (k:Nat)),some (.ref ps),some (.ref pa),some (.int lf),some (.ref wa),some (.ref lf')]∧Same H H'∧H' lf'=some (.lst (a43 fl))∧(∀ j,fl.head?=some j→grF ns bs n (some j) stk ws=some (sd,r)∧j<ns.length)∧(fl.head?=none→lf≠1∧weN br (.tup ets)=none)) ?_ ?_
   · walk_at "run"
     intro p5 H5 f5 s5 e5
     refine ag4 (SqL.of (s5 _ _ e4)) (SqL.of e5) ?_
     walk_at "run"
     rw [ah5]
     have s05:=s4.trans s5
     unfold waG at hm
     rw [← hfl] at hm
     cases fl with
     | nil =>
       refine iteT ?_
       walk_at "run"
       by_cases l1:lf=1
       · refine a26 l1 ?_
         walk_at "run"
         refine a22 (SqT.of (s05 _ _ hwa)) (a03 (j:=3) rfl) ?_
         walk_at "run"
         intro p6 H6 f6 s6 e6
         refine ⟨[m],p6,rfl,s05.trans s6,e6,fun j hj=>?_,fun z=>by cases z⟩
         cases hj
         simp only [List.head?_nil] at hm
         rw [if_neg (by omega),if_pos l1] at hm
         exact ⟨hm,hN.2.2.1⟩
       · refine a24 l1 ?_
         walk_at "run"
         exact ⟨[],la,rfl,s05,s5 _ _ e4,fun j z=>(by cases z),fun _=>⟨l1,hfl.symm⟩⟩
     | cons a t =>
       refine iteF ?_
       walk_at "run"
       refine ⟨a::t,la,rfl,s05,s5 _ _ e4,fun j hj=>?_,fun z=>by cases z⟩
       cases hj
       obtain ⟨b,hb1,rfl⟩:=b31 hfl.symm
       exact ⟨hm,hN.2.1 b hb1⟩
   rintro σ' H5 ⟨fl,la,rfl,s5,e5,hf1,hf2⟩
   walk_at "run"
   intro p6 H6 f6 s6 e6
   refine ag4 (SqL.of (s6 _ _ e5)) (SqL.of e6) ?_
   walk_at "run"
   rw [ah5]
   have s06:=s5.trans s6
   cases fl with
   | nil =>
     obtain ⟨l1,hwe⟩:=hf2 rfl
     unfold waG at hm
     rw [hwe] at hm
     refine iteT ?_
     walk_at "run"
     intro p7 H7 f7 s7 e7
     walk_at "run"
     intro p8 H8 f8 s8 e8
     walk_at "run"
     intro p9 H9 f9 s9 e9
     have s09:=s06.trans (s7.trans (s8.trans s9))
     dsimp only at hm
     by_cases l0:lf=0
     · rw [if_pos l0] at hm
       injection hm with hm
       injection hm with z1 z2
       subst z1 z2
       refine q p9 p7 _ H9 s09 e9 (s06.free f7) ((s8.trans s9) _ _ e7) ⟨p8,ps,pa,rfl,?_,s09 _ _ i1,s09 _ _ i2⟩
       rw [s9 _ _ e8,l0]
       rfl
     · rw [if_neg l0,if_neg l1] at hm
       injection hm with hm
       injection hm with z1 z2
       subst z1 z2
       refine q p9 p7 _ H9 s09 e9 (s06.free f7) ((s8.trans s9) _ _ e7) ⟨p8,ps,pa,rfl,?_,s09 _ _ i1,s09 _ _ i2⟩
       rw [s9 _ _ e8,decide_eq_true (show (0:Int)<lf by omega)]
       rfl
   | cons a t =>
     obtain ⟨g1,g2⟩:=hf1 a rfl
     refine iteF ?_
     walk_at "run"
     refine a45 (SqL.of (s6 _ _ e5)) (a03 (j:=0) rfl) ?_
     walk_at "run"
     exact ⟨g,lb,ln,ps,pa,bs,ns,f,a,n,cm,stk,ws,sd,r,rfl,hG0.same s06,hB,.inr (SqT.of (s06 _ _ i1)),.inr (SqT.of (s06 _ _ i2)),hwl,g2,hsk,g1,hxl,fun p' l' v' H' s' x1 x2 x3 x4=>q p' l' v' H' (s06.trans s') x1 (s06.free x2) x3 x4⟩
theorem au7 {H:Hp}:∀ sd:List Str,Tr.Ats H (sd.map Tr.str) (a35 sd) []
 | []=>ats_nil0.mpr rfl
 | s::sd=>ats_cons0.mpr ⟨_,_,rfl,a30,au7 sd⟩
def sgT:Option StG→Tr
 | none=>.non
 | some (k,stk,ws,l)=>.tup [.int (k:Nat),.tup (ar5 stk),.tup (ws.map Tr.int),.int l]
theorem bv5 {H:Hp}{v:V}{r:Option StG}(h:SgAt H v r):(sgT r).At H v []:=by
 cases r with
 | none =>
   obtain rfl:v=.non:=h
   simp [sgT,Tr.At]
 | some x =>
   obtain ⟨k,stk,ws,l⟩:=x
   obtain ⟨q,ps,pa,rfl,h1,h2,h3⟩:=h
   exact at_tup0.mpr ⟨q,_,rfl,h1,ats_cons0.mpr ⟨_,_,rfl,a55,ats_cons0.mpr ⟨_,_,rfl,at_tup0.mpr ⟨ps,_,rfl,h2,au0 stk⟩,ats_cons0.mpr ⟨_,_,rfl,at_tup0.mpr ⟨pa,_,rfl,h3,ae3 ws⟩,ats_cons0.mpr ⟨_,_,rfl,a55,ats_nil0.mpr rfl⟩⟩⟩⟩⟩
theorem al7 {α:Type}{f:α→Tr}(hf:∀ x,(f x).h=0):∀ l:List α,Tr.hs (l.map f)=0
 | []=>by simp [Tr.hs]
 | x::l=>by simp [Tr.hs,hf x,al7 hf l]
theorem hs_nats (l:List Nat):Tr.hs (ar5 l)=0:=al7 (fun x=>by simp [Tr.h]) l
theorem hs_ints (l:List Int):Tr.hs (l.map Tr.int)=0:=al7 (fun x=>by simp [Tr.h]) l
theorem b34 (l:List Str):Tr.hs (l.map Tr.str)=0:=al7 (fun x=>by simp [Tr.h]) l
theorem al8 {H:Hp}{p l:Addr}{v:V}{sd:List Str}{r:Option StG}(h:H p=some (.tup [.ref l,v])) (h2:H l=some (.lst (a35 sd))) (h3:SgAt H v r):(Tr.tup [.lst (sd.map Tr.str),sgT r]).At H (.ref p) [l]:=by
 simp only [Tr.At,Tr.Ats]
 exact ⟨p,_,rfl,h,_,_,[l],[],rfl,rfl,⟨l,_,[],rfl,h2,au7 sd,rfl⟩,_,_,[],[],rfl,rfl,bv5 h3,rfl,rfl⟩
theorem ba5 (sd:List Str) (r:Option StG):Tr.hs [.lst (sd.map Tr.str),sgT r]≤60:=by
 cases r with
 | none=>simp [Tr.hs,Tr.h,b34,sgT]
 | some x =>
   obtain ⟨k,stk,ws,l⟩:=x
   simp [Tr.hs,Tr.h,b34,hs_nats,hs_ints,sgT]
def b79 (K:PySem.W.Frag) (C:Addr):Sp:=fun vs H Q _=>∃ (p fa la da ld:Addr) (fv dv:V) (bs:List (Str×Int)) (ns:List Nd) (f:Nat) (sd:List Str) (r:Option StG),vs=[.ref p,.ref fa,.ref da]∧GmAt C H p bs ns f∧(H fa=some (.tup [.ref la,fv])∧H la=some (.lst (a35 sd))∧SgAt H fv r)∧(H da=some (.tup [.ref ld,dv])∧H ld=some (.lst (a35 sd))∧SgAt H dv r)∧∀ H',Same H H'→Q (.bl true) H'
theorem as7 (T:Txt K mg t):FnOk P w K mg base CX0 2 t.a__law_same t.fd__law_same ["machine","found","due"] (b79 K t.c_GraphMachine):=by
 have G_GraphMachine_over:=ab2 (P:=P) (w:=w) (base:=base) T
 have G_GraphMachine_values:=a91 (P:=P) (w:=w) (base:=base) T
 refine T.f__law_same.F.ok sc_law_same (fun vs H Q E h=>?_) (fun cdv A outer s H vs Q E hr h=>?_)
 · obtain ⟨p,fa,la,da,ld,fv,dv,bs,ns,f,sd,r,rfl,_⟩:=h
   rfl
 · obtain ⟨p,fa,la,da,ld,fv,dv,bs,ns,f,sd,r,rfl,hM,⟨a1,a2,a3⟩,⟨b1,b2,b3⟩,q⟩:=h
   refine ⟨_,(@a01 _ _ _ _ _ (@a33 _ _ _ _ _ _ _ _ (@PW.pt _ _ _ (@aj7 _ _ _ _ _ _ _ (@am0 _ _ _ _ (ad3 K (@a46 _ _ _ _ _ _ _ _ _ (ak7 K) (by rfl) T.z_isinstance a54 (@a00 _ _ _ _ _ (pv 1) (@a00 _ _ _ _ _ (aj6 (v:=.ty "tuple") (by rfl) T.z_tuple a85 rfl) (@a02 _) (by rfl)) (by rfl)) (by decide) (by decide) (by rfl) (by rfl)) (fun _=>rfl))) (@aj7 _ _ _ _ _ _ _ (@a07 _ _ _ _ _ _ _ _ bb3 (@a46 _ _ _ _ _ _ _ _ _ (a97 K) (by rfl) T.z_len ad7 (@a00 _ _ _ _ _ (pv 1) (@a02 _) (by rfl)) (by decide) (by decide) (by rfl) (by rfl)) (@a04 _ _ _ _) (nomark _)) (@aj7 _ _ _ _ _ _ _ (@am0 _ _ _ _ (ad3 K (@a46 _ _ _ _ _ _ _ _ _ (ak7 K) (by rfl) T.z_isinstance a54 (@a00 _ _ _ _ _ (@a14 _ _ _ _ _ _ _ (a06 K) (pv 1) (@a04 _ _ _ _) (fun _ _=>rfl)) (@a00 _ _ _ _ _ (aj6 (v:=.ty "list") (by rfl) T.z_list a99 rfl) (@a02 _) (by rfl)) (by rfl)) (by decide) (by decide) (by rfl) (by rfl)) (fun _=>rfl))) (@ae4 _ _ _ _ (@a07 _ _ _ _ _ _ _ _ (b02 (by exact hr.units)) (pv 1) (pv 2) (nomark _))))))) (@a05 _ _ _ (@a19 _ _ _ _ (@b37 _ _ _ _))) (@a18 _))
    (@a01 _ _ _ _ _ (@a20 _ _ 3 _ _ _ _ sc_law_same.nd rfl (by walk_at "o") (@a14 _ _ _ _ _ _ _ (a06 K) (pv 2) (@a04 _ _ _ _) (fun _ _=>rfl)) (by rfl) (by walk_at "o"))
    (@a01 _ _ _ _ _ (@a20 _ _ 4 _ _ _ _ sc_law_same.nd rfl (by walk_at "o") (a93 (pv 0) T.cl_GraphMachine T.f_GraphMachine_over.M G_GraphMachine_over (hr.mono (by omega)) T.f_GraphMachine_over.b .nil a28 (@a00 _ _ _ _ _ (pv 3) (@a02 _) (by rfl))) (by rfl) (by walk_at "o"))
    (@a01 _ _ _ _ _ (@a33 _ _ _ _ _ _ _ _ (@PW.pt _ _ _ (@aj7 _ _ _ _ _ _ _ (@am0 _ _ _ _ (ad3 K (@a46 _ _ _ _ _ _ _ _ _ (ak7 K) (by rfl) T.z_isinstance a54 (@a00 _ _ _ _ _ (pv 4) (@a00 _ _ _ _ _ (aj6 (v:=.ty "bool") (by rfl) T.z_bool bd2 rfl) (@a02 _) (by rfl)) (by rfl)) (by decide) (by decide) (by rfl) (by rfl)) (fun _=>rfl))) (@ae4 _ _ _ _ (@a07 _ _ _ _ _ _ _ _ bb3 (pv 4) (@a52 _ _ _ _ _ _ _ _ aa0 (pv 3) (@a51 _ _ _) (nomark _)) (nomark _))))) (@a05 _ _ _ (@a19 _ _ _ _ (@b37 _ _ _ _))) (@a18 _))
    (@a01 _ _ _ _ _ (@a33 _ _ _ _ _ _ _ _ (@a07 _ _ _ _ _ _ _ _ aa0 (pv 3) (@a51 _ _ _) (nomark _)) (@a05 _ _ _ (@a19 _ _ _ _ (@a52 _ _ _ _ _ _ _ _ (ar4 (by exact hr.units)) (a93 (pv 0) T.cl_GraphMachine T.f_GraphMachine_values.M G_GraphMachine_values (hr.mono (by omega)) T.f_GraphMachine_values.b .nil a28 (@a00 _ _ _ _ _ (pv 3) (@a02 _) (by rfl))) (@a23 _ _ _ _ _ (@a02 _)) (nomark _)))) (@a18 _))
    (@a05 _ _ _ (@a19 _ _ _ _ (@at1 _ _ _ _ _ _ _ (@a52 _ _ _ _ _ _ _ _ (ar4 (by exact hr.units)) (a93 (pv 0) T.cl_GraphMachine T.f_GraphMachine_values.M G_GraphMachine_values (hr.mono (by omega)) T.f_GraphMachine_values.b .nil a28 (@a00 _ _ _ _ _ (pv 3) (@a02 _) (by rfl))) (@a14 _ _ _ _ _ _ _ (a06 K) (pv 3) (@a04 _ _ _ _) (fun _ _=>rfl)) (nomark _)) (@at0 _ _ _ _ _ (@a46 _ _ _ _ _ _ _ _ _ (ak7 K) (by rfl) T.z_isinstance a54 (@a00 _ _ _ _ _ (@a14 _ _ _ _ _ _ _ (a06 K) (@a14 _ _ _ _ _ _ _ (a06 K) (pv 1) (@a04 _ _ _ _) (fun _ _=>rfl)) (@a04 _ _ _ _) (fun _ _=>rfl)) (@a00 _ _ _ _ _ (aj6 (v:=.ty "int") (by rfl) T.z_int ag0 rfl) (@a02 _) (by rfl)) (by rfl)) (by decide) (by decide) (by rfl) (by rfl))))))))))),?_⟩
   obtain ⟨dx,bl,nl,bvs,un,h1,h2,h3,h4,h5⟩:=hM.ex
   walk_at "go"
   refine bn2 a1 ?_
   walk_at "run"
   refine bm8 (SqT.of a1) ?_
   walk_at "run"
   refine b78 (by simp) ?_
   walk_at "run"
   refine a22 (SqT.of a1) (a03 (j:=0) rfl) ?_
   walk_at "run"
   refine bm6 a2 ?_
   walk_at "run"
   refine bn4 (al8 a1 a2 a3) (al8 b1 b2 b3) (ba5 _ _) ?_
   walk_at "run"
   refine a22 (SqT.of b1) (a03 (j:=1) rfl) ?_
   walk_at "run"
   refine ⟨p,dx,_,rfl,h1,ag9 _ _ _ (by decide +kernel) (by decide +kernel) (by decide +kernel),?_⟩
   walk_at "run"
   refine ⟨_,dv,r,rfl,b3,?_⟩
   have hvals:=fun z=>ag9 (.ref bl) (.ref nl) (.int (f:Nat)) (m:="values") (by decide +kernel) (by decide +kernel) z
   cases r with
   | none =>
     obtain rfl:dv=.non:=b3
     walk_at "run"
     refine b78 (by simp) ?_
     walk_at "run"
     refine a26 rfl ?_
     walk_at "run"
     refine ⟨p,dx,_,rfl,h1,hvals (by decide +kernel),?_⟩
     walk_at "run"
     refine ⟨_,.non,none,rfl,rfl,fun pv H1 s1 e1 _=>?_⟩
     walk_at "run"
     intro p2 H2 f2 s2 e2
     refine bd8 (t:=[]) (at_tup0.mpr ⟨pv,_,rfl,s2 _ _ e1,ats_nil0.mpr rfl⟩) (at_tup0.mpr ⟨p2,_,rfl,e2,ats_nil0.mpr rfl⟩) (by decide) ?_
     exact q H2 (s1.trans s2)
   | some x =>
     have b30:=b3
     obtain ⟨k,stk,ws,lf⟩:=x
     obtain ⟨sa,ps,pa,rfl,hsa,i1,i2⟩:=b3
     walk_at "run"
     refine b78 (by simp) ?_
     walk_at "run"
     refine a24 (fun z=>nomatch z) ?_
     walk_at "run"
     refine ⟨p,dx,_,rfl,h1,hvals (by decide +kernel),?_⟩
     walk_at "run"
     refine ⟨_,.ref sa,some (k,stk,ws,lf),rfl,b30,fun pv H1 s1 e1 _=>?_⟩
     walk_at "run"
     refine a22 (SqT.of (s1 _ _ hsa)) (a03 (j:=2) rfl) ?_
     refine bd8 (t:=ws.map Tr.int) (at_tup0.mpr ⟨pv,_,rfl,e1,ae3 ws⟩) (at_tup0.mpr ⟨pa,_,rfl,s1 _ _ i2,ae3 ws⟩) (by rw [hs_ints]; decide) ?_
     walk_at "run"
     obtain ⟨sb,ps',pa',rfl,hsb,_,_⟩:=a3
     refine a22 (SqT.of (s1 _ _ a1)) (a03 (j:=1) rfl) ?_
     walk_at "run"
     refine a22 (SqT.of (s1 _ _ hsb)) (a03 (j:=3) rfl) ?_
     walk_at "run"
     exact q H1 s1
def bq3 (K:PySem.W.Frag):Sp:=fun vs H Q _=>∃ (d l:Addr),vs=[.ref d]∧Dh H d l∧∀ v ets H',Off d l H H'→Dh H' d l→Tups H H'→(Tr.tup ets).At H' v []→(Tr.tup ets).h≤5→Q v H'
theorem aq1 (T:Txt K mg t):FnOk P w K mg base CX0 3 t.a__law_event t.fd__law_event ["deck"] (bq3 K):=by
 have G__law_digit:=a48 (P:=P) (w:=w) (base:=base) T
 have G__law_pattern:=ab4 (P:=P) (w:=w) (base:=base) T
 refine T.f__law_event.F.ok sc_law_event (fun vs H Q E h=>?_) (fun cdv A outer s H vs Q E hr h=>?_)
 · obtain ⟨d,l,rfl,_⟩:=h
   rfl
 · obtain ⟨d,l,rfl,hD,q⟩:=h
   refine ⟨_,(@a01 _ _ _ _ _ (@a20 _ _ 1 _ _ _ _ sc_law_event.nd rfl (by walk_at "o") (@a08 _ _ _ _ _ _ _ _ _ _ _ _ _ _ _ _ G__law_digit (hr.mono (by omega)) rfl T.f__law_digit.m T.f__law_digit.F.kp T.f__law_digit.b .nil a28 (@a00 _ _ _ _ _ (pv 0) (@a00 _ _ _ _ _ (@a04 _ _ _ _) (@a02 _) (by rfl)) (by rfl)) (by decide) (by rfl) (by rfl)) (by rfl) (by walk_at "o"))
    (@a01 _ _ _ _ _ (@a33 _ _ _ _ _ _ _ _ (@a07 _ _ _ _ _ _ _ _ aq6 (pv 1) (@a04 _ _ _ _) (nomark _)) (@a05 _ _ _ (@a19 _ _ _ _ (@a23 _ _ _ _ _ (@a00 _ _ _ _ _ (@a21 _ _ _ _) (@a02 _) (by rfl))))) (@a18 _))
    (@a01 _ _ _ _ _ (@a20 _ _ 2 _ _ _ _ sc_law_event.nd rfl (by walk_at "o") (@a08 _ _ _ _ _ _ _ _ _ _ _ _ _ _ _ _ G__law_pattern (hr.mono (by omega)) rfl T.f__law_pattern.m T.f__law_pattern.F.kp T.f__law_pattern.b .nil a28 (@a00 _ _ _ _ _ (pv 0) (@a02 _) (by rfl)) (by decide) (by rfl) (by rfl)) (by rfl) (by walk_at "o"))
    (@a05 _ _ _ (@a19 _ _ _ _ (@a14 _ _ _ _ _ _ _ (a29 K) (@a31 _ _ _ _ (@a00 _ _ _ _ _ (pv 2) (@a00 _ _ _ _ _ (@a23 _ _ _ _ _ (@a00 _ _ _ _ _ (@a21 _ _ _ _) (@a00 _ _ _ _ _ (@a21 _ _ _ _) (@a02 _) (by rfl)) (by rfl))) (@a02 _) (by rfl)) (by rfl))) (@a34 _ _ _ _ _ _ _ _ _ aj1 (by rfl) T.z_int ag0 (@a00 _ _ _ _ _ (@a52 _ _ _ _ _ _ _ _ (ac6 K (by exact hr.units)) (pv 2) (@a23 _ _ _ _ _ (@a00 _ _ _ _ _ (@a21 _ _ _ _) (@a02 _) (by rfl))) (nomark _)) (@a02 _) (by rfl)) (by decide) (by decide) (by rfl) (by rfl)) (fun _ _=>rfl))))))),?_⟩
   walk_at "go"
   refine ⟨d,l,4,rfl,hD,by decide,by decide,fun k H1 hk o1 D1=>?_⟩
   walk_at "run"
   by_cases h2:(k:Int)<1
   · refine a26 h2 ?_
     walk_at "run"
     intro p2 H2 f2 s2 e2
     have o2:Off d l H H2:=o1.trans s2.off
     exact q _ [.str "quiet"] H2 o2 (D1.same s2) (hD.tups o2) (aa1 e2 a30) (by decide)
   refine a24 h2 ?_
   walk_at "run"
   refine ⟨d,l,rfl,D1,fun v p H2 o2 D2 t2 a2 nq=>?_⟩
   walk_at "run"
   intro p3 H3 f3 s3 e3
   walk_at "run"
   intro p4 H4 f4 s4 e4
   walk_at "run"
   intro p5 H5 f5 s5 e5
   have s25:=s3.trans (s4.trans s5)
   have o05:Off d l H H5:=(o1.trans o2).trans s25.off
   refine ao6 ((a2.same s25).toK K) ((aa1 e5 a30).toK K) (Nat.le_trans (ap4 _) (by decide)) (by decide) ?_
   walk_at "run"
   by_cases hc:patK p=.tup [.str "other"]
   · rw [decide_eq_true hc,if_pos rfl]
     exact a45 (SqL.of (s5 _ _ e4)) (a03 (j:=1) rfl) (q _ [.str "word",.str "zz"] H5 o05 (D2.same s25) (hD.tups o05) (a68 ((s4.trans s5) _ _ e3) a30 a30) (by decide))
   · rw [decide_eq_false hc,if_neg (by decide)]
     exact a45 (SqL.of (s5 _ _ e4)) (a03 (j:=0) rfl) (q _ _ H5 o05 (D2.same s25) (hD.tups o05) (a2.same s25) (ap4 p))
theorem au8 {ns:List Nd}{bs:List (Str×Int)}:∀ {n:Nat}{o:Option Nat}{stk:List Nat}{ws:List Int}{sd:List Str}{r:Option StG},grF ns bs n o stk ws=some (sd,r)→sd.length≤n
 | 0,_,_,_,_,_,h=>by cases h
 | n+1,none,stk,ws,sd,r,h=>by
   unfold grF at h
   cases h
   simp
 | n+1,some k,stk,ws,sd,r,h=>by
   unfold grF at h
   cases hk:ns[k]? with
   | none=>rw [hk] at h; cases h
   | some d =>
     rw [hk] at h
     simp only at h
     cases hw:d.w2 with
     | some l=>rw [hw] at h; cases h; simp
     | none =>
       rw [hw] at h
       simp only at h
       obtain ⟨y,hy,hz⟩:=Option.map_eq_some_iff.mp h
       obtain ⟨y1,y2⟩:=y
       have:=au8 hy
       cases hz
       have:=as0 d
       simp only [List.length_append]
       omega
theorem b80 {ns:List Nd}{bs:List (Str×Int)}{n:Nat}{r0:Option StG}{e:Tr}{sd:List Str}{r:Option StG}(h:as1 ns bs n r0 e=some (sd,r)):sd.length≤n:=by
 cases r0 with
 | none=>cases h; simp
 | some x =>
   obtain ⟨l,br,m,_,hm⟩:=al6 h
   unfold waG at hm
   split at hm
   · exact au8 hm
   · split at hm
     · cases hm; simp
     · split at hm
       · exact au8 hm
       · cases hm; simp
theorem au9 {m:Nat}:∀ {stk:List Nat},(∀ s∈stk,s<m)→stk.length≤cstS m stk
 | [],_=>by simp
 | s::stk,h=>by
   have h1:=as5 (h s (by simp))
   have h2:=au9 (m:=m) (stk:=stk) fun x hx=>h x (by simp [hx])
   simp only [cstS,List.map_cons,List.sum_cons,List.length_cons] at h2 ⊢
   omega
theorem StI.sl {bs:List (Str×Int)}{ns:List Nd}{cm:Bool}{r:Option StG}(h:StI bs ns cm 131071 r) {x:StG}(e:r=some x):x.2.2.1.length=bs.length∧x.2.1.length+131072≤900000:=by
 obtain ⟨_,h2,h3,h4,_⟩:=h.ex x e
 have:=au9 h2
 exact ⟨h3,by omega⟩
def bxT (b:Str×Int):Tr:=.tup [.str b.1,.int b.2]
theorem ba6 {H:Hp}:∀ {bs:List (Str×Int)}{vs:List V},Each (BxAt H) vs bs→Tr.Ats H (bs.map bxT) vs []
 | [],vs,h=>by
   obtain rfl:vs=[]:=List.eq_nil_of_length_eq_zero h.1
   exact ats_nil0.mpr rfl
 | b::bs,[],h=>by have:=h.1; simp at this
 | b::bs,v::vs,h=>by
   obtain ⟨a,rfl,ha⟩:=h.2 0 v b rfl rfl
   exact ats_cons0.mpr ⟨_,_,rfl,a68 ha a30 a55,ba6 ⟨by simpa using h.1,fun i x y h1 h2=>h.2 (i+1) x y (by simpa using h1) (by simpa using h2)⟩⟩
theorem b35 {n:Nat}:∀ {l:List Tr},(∀ x∈l,x.h≤n)→Tr.hs l≤n
 | [],_=>by simp [Tr.hs]
 | x::l,h=>by
   simp only [Tr.hs]
   exact Nat.max_le.mpr ⟨h x (by simp),b35 fun y hy=>h y (by simp [hy])⟩
theorem bq4 {H:Hp}{g lb ln:Addr}{bs:List (Str×Int)}{ns:List Nd}{f:Nat}(h:GrL H g lb ln bs ns f):(Tr.tup [.lst (bs.map bxT),.lst (ns.map Nd.tr),.int (f:Nat)]).At H (.ref g) [lb,ln]:=by
 obtain ⟨bvs,nvs,h1,h2,h3,h4,h5⟩:=h
 simp only [Tr.At,Tr.Ats]
 exact ⟨g,_,rfl,h1,_,_,[lb],[ln],rfl,rfl,⟨lb,_,[],rfl,h2,ba6 h3,rfl⟩,_,_,[ln],[],rfl,rfl,⟨ln,_,[],rfl,h4,h5,rfl⟩,_,_,[],[],rfl,rfl,⟨rfl,rfl⟩,rfl,rfl⟩
theorem gr_h {bs:List (Str×Int)}{ns:List Nd}{f:Nat}{cm:Bool}(h:GB bs ns f cm):Tr.hs [.lst (bs.map bxT),.lst (ns.map Nd.tr),.int (f:Nat)]≤60:=by
 have h1:Tr.hs (bs.map bxT)≤11:=b35 fun x hx=>by
  obtain ⟨b,_,rfl⟩:=List.mem_map.mp hx
  simp [bxT,Tr.h,Tr.hs]
 have h2:Tr.hs (ns.map Nd.tr)≤11:=b35 fun x hx=>by
  obtain ⟨d,hd,rfl⟩:=List.mem_map.mp hx
  obtain ⟨i,hi⟩:=List.mem_iff_getElem?.mp hd
  exact nb_h (h.at_ i d hi)
 simp only [Tr.hs,Tr.h]
 omega
structure Wg (C p g lb ln bl nl bp b0 d l:Addr) (bv:V) (bs:List (Str×Int)) (ns:List Nd) (f:Nat) (sd0:List Str) (r0:Option StG) (H:Hp):Prop where
 dk:Dh H d l
 gr:GrL H g lb ln bs ns f
 gm:∃ dx bvs un,H p=some (.ins C dx (gmS (.ref bl) (.ref nl) (.int (f:Nat))))∧H bl=some (.lst bvs)∧Each (BxAt H) bvs bs∧H nl=some (.lst un)∧Tr.Ats H (ns.map Nd.tr) un []
 bg:H bp=some (.tup [.ref b0,bv])∧H b0=some (.lst (a35 sd0))∧SgAt H bv r0
section
variable {C p g lb ln bl nl bp b0 d l:Addr}{bv:V}{bs:List (Str×Int)}{ns:List Nd}{f:Nat}{sd0:List Str}{r0:Option StG}{H H':Hp}
theorem Wg.at_ (h:Wg C p g lb ln bl nl bp b0 d l bv bs ns f sd0 r0 H):GmAt C H p bs ns f:=by
 obtain ⟨dx,bvs,un,z⟩:=h.gm
 exact ⟨dx,bl,nl,bvs,un,z⟩
theorem Wg.keep (h:Wg C p g lb ln bl nl bp b0 d l bv bs ns f sd0 r0 H) (t:Tups H H') (i:∀ x C dx fs,H x=some (.ins C dx fs)→H' x=some (.ins C dx fs)) (k:∀ x xs,x∈[lb,ln,bl,nl,b0]→H x=some (.lst xs)→H' x=some (.lst xs)) (D:Dh H' d l):Wg C p g lb ln bl nl bp b0 d l bv bs ns f sd0 r0 H':=by
 obtain ⟨_,⟨bvs,nvs,a1,a2,a3,a4,a5⟩,⟨dx,bvs',un,c1,c2,c3,c4,c5⟩,e1,e2,e3⟩:=h
 exact ⟨D,⟨bvs,nvs,t _ _ a1,k _ _ (by simp) a2,a3.mono fun _ _ z=>BxAt.tups z t,k _ _ (by simp) a4,a75 a5 t⟩,⟨dx,bvs',un,i _ _ _ _ c1,k _ _ (by simp) c2,c3.mono fun _ _ z=>BxAt.tups z t,k _ _ (by simp) c4,a75 c5 t⟩,t _ _ e1,k _ _ (by simp) e2,e3.tups t⟩
theorem Wg.same (h:Wg C p g lb ln bl nl bp b0 d l bv bs ns f sd0 r0 H) (s:Same H H'):Wg C p g lb ln bl nl bp b0 d l bv bs ns f sd0 r0 H' :=
 h.keep s.tups (fun x _ _ _ e=>s x _ e) (fun x _ _ e=>s x _ e) (h.dk.same s)
theorem Wg.some_ (h:Wg C p g lb ln bl nl bp b0 d l bv bs ns f sd0 r0 H):∀ x∈[lb,ln,bl,nl,b0],∃ xs,H x=some (.lst xs):=by
 obtain ⟨_,⟨bvs,nvs,a1,a2,a3,a4,a5⟩,⟨dx,bvs',un,c1,c2,c3,c4,c5⟩,e1,e2,e3⟩:=h
 intro x hx
 simp only [List.mem_cons,List.not_mem_nil,or_false] at hx
 rcases hx with rfl | rfl | rfl | rfl | rfl
 · exact ⟨_,a2⟩
 · exact ⟨_,a4⟩
 · exact ⟨_,c2⟩
 · exact ⟨_,c4⟩
 · exact ⟨_,e2⟩
theorem Wg.off (h:Wg C p g lb ln bl nl bp b0 d l bv bs ns f sd0 r0 H) (no:∀ x∈[lb,ln,bl,nl,b0],x≠d∧x≠l) (o:Off d l H H') (D:Dh H' d l):Wg C p g lb ln bl nl bp b0 d l bv bs ns f sd0 r0 H':=by
 obtain ⟨ms,c,h1,h2,_⟩:=h.dk.ex
 exact h.keep (h.dk.tups o) (fun x _ _ _ e=>o x _ (aj5 e h1 (fun z=>nomatch z)) (aj5 e h2 (fun z=>nomatch z)) e) (fun x _ hx e=>o x _ (no x hx).1 (no x hx).2 e) D
theorem Wg.upd (h:Wg C p g lb ln bl nl bp b0 d l bv bs ns f sd0 r0 H) {x:Addr}{xs ys:List V}(e:H x=some (.lst xs)) (n1:x∉[lb,ln,bl,nl,b0]) (n2:x≠d) (n3:x≠l):Wg C p g lb ln bl nl bp b0 d l bv bs ns f sd0 r0 (upd H x (.lst ys)):=by
 obtain ⟨ms,c,h1,h2,h3⟩:=h.dk.ex
 exact h.keep (Tups.upd e) (fun y _ _ _ e'=>by rw [a12 (aj5 e' e (fun z=>nomatch z))]; exact e') (fun y _ hy e'=>by rw [a12 (show y≠x from fun z=>n1 (z ▸ hy))]; exact e') ⟨ms,c,by rw [a12 n2.symm]; exact h1,by rw [a12 n3.symm]; exact h2,h3⟩
end
theorem bg3 {H:Hp}{x dx:Addr}{o o':HO}(nx:H x=none) (nd:H dx=none):Same H (upd (upd H dx o) x o'):=fun y u e=>by
 rw [a12 (a27 e nx),a12 (a27 e nd)]
 exact e
theorem bq5 (T:Txt K mg t):FnOk P w K mg base CX0 21 t.a_law t.fd_law ["script"] (an6 K):=by
 have G_GraphMachine___init__:=a78 (P:=P) (w:=w) (base:=base) T
 have G_GraphMachine_begin:=aa5 (P:=P) (w:=w) (base:=base) T
 have G_GraphMachine_step:=ab1 (P:=P) (w:=w) (base:=base) T
 have G__law_deck:=as2 (P:=P) (w:=w) (base:=base) T
 have G__law_event:=aq1 (P:=P) (w:=w) (base:=base) T
 have G__law_graph:=ap7 (P:=P) (w:=w) (base:=base) T
 have G__law_on:=aq0 (P:=P) (w:=w) (base:=base) T
 have G__law_same:=as7 (P:=P) (w:=w) (base:=base) T
 have G__law_step:=as6 (P:=P) (w:=w) (base:=base) T
 refine T.f_law.F.ok sc_law (fun vs H Q E h=>?_) (fun cdv A outer s H vs Q E hr h=>?_)
 · obtain ⟨a,ns,rfl,_⟩:=h
   rfl
 · obtain ⟨a0,is,rfl,hS,hl,q⟩:=h
   refine ⟨_,(@a01 _ _ _ _ _ (@a20 _ _ 1 _ _ _ _ sc_law.nd rfl (by walk_at "o") (@a08 _ _ _ _ _ _ _ _ _ _ _ _ _ _ _ _ G__law_deck (hr.mono (by omega)) rfl T.f__law_deck.m T.f__law_deck.F.kp T.f__law_deck.b .nil a28 (@a00 _ _ _ _ _ (pv 0) (@a02 _) (by rfl)) (by decide) (by rfl) (by rfl)) (by rfl) (by walk_at "o"))
    (@a01 _ _ _ _ _ (@a20 _ _ 2 _ _ _ _ sc_law.nd rfl (by walk_at "o") (@a08 _ _ _ _ _ _ _ _ _ _ _ _ _ _ _ _ G__law_graph (hr.mono (by omega)) rfl T.f__law_graph.m T.f__law_graph.F.kp T.f__law_graph.b .nil a28 (@a00 _ _ _ _ _ (pv 1) (@a02 _) (by rfl)) (by decide) (by rfl) (by rfl)) (by rfl) (by walk_at "o"))
    (@a01 _ _ _ _ _ (@ai1 _ _ _ _ _ _ (pv 2) (a98 K (n:=3) rfl (a37 (a36 (i:=3) sc_law.nd rfl (by walk_at "o")) (a37 (a36 (i:=4) sc_law.nd rfl (by walk_at "o")) (a37 (a36 (i:=5) sc_law.nd rfl (by walk_at "o")) (@a92 _))))) (by rfl) (by rfl) (by rfl))
    (@a01 _ _ _ _ _ (@a20 _ _ 6 _ _ _ _ sc_law.nd rfl (by walk_at "o") (@a23 _ _ _ _ _ (@a00 _ _ _ _ _ (@a34 _ _ _ _ _ _ _ _ _ (a84 K) (by rfl) T.z_list a99 (@a00 _ _ _ _ _ (pv 3) (@a02 _) (by rfl)) (by decide) (by decide) (by rfl) (by rfl)) (@a00 _ _ _ _ _ (@a34 _ _ _ _ _ _ _ _ _ (a84 K) (by rfl) T.z_list a99 (@a00 _ _ _ _ _ (pv 4) (@a02 _) (by rfl)) (by decide) (by decide) (by rfl) (by rfl)) (@a00 _ _ _ _ _ (pv 5) (@a02 _) (by rfl)) (by rfl)) (by rfl))) (by rfl) (by walk_at "o"))
    (@a01 _ _ _ _ _ (@a20 _ _ 7 _ _ _ _ sc_law.nd rfl (by walk_at "o") (bb9 T.mk_GraphMachine G_GraphMachine___init__ (hr.mono (by omega)) rfl T.m_GraphMachine T.f_GraphMachine___init__.b .nil a28 (@a00 _ _ _ _ _ (pv 6) (@a02 _) (by rfl))) (by rfl) (by walk_at "o"))
    (@a01 _ _ _ _ _ (@a33 _ _ _ _ _ _ _ _ (@PW.pt _ _ _ (@aj7 _ _ _ _ _ _ _ (@a07 _ _ _ _ _ _ _ _ (b02 (by exact hr.units)) (pv 6) (pv 2) (nomark _)) (@ae4 _ _ _ _ (@am0 _ _ _ _ (ad3 K (@a46 _ _ _ _ _ _ _ _ _ (b60 K) (by rfl) T.z_isinstance a54 (@a00 _ _ _ _ _ (pv 7) (@a00 _ _ _ _ _ (aq4 (v:=.ref t.c_Machine) (by rfl) T.m_Machine (by rfl)) (@a02 _) (by rfl)) (by rfl)) (by decide) (by decide) (by rfl) (by rfl)) (fun _=>rfl)))))) (@a05 _ _ _ (@a19 _ _ _ _ (@b37 _ _ _ _))) (@a18 _))
    (@a01 _ _ _ _ _ (@a60 _ _ _ _ (af9 K PySem.F.plainAttrs_list PySem.F.slot_list_clear PySem.F.type_list_clear at7 (@a14 _ _ _ _ _ _ _ (a06 K) (pv 6) (@a04 _ _ _ _) (fun _ _=>rfl))) (by rfl))
    (@a01 _ _ _ _ _ (@a60 _ _ _ _ (af9 K PySem.F.plainAttrs_list PySem.F.slot_list_clear PySem.F.type_list_clear at7 (@a14 _ _ _ _ _ _ _ (a06 K) (pv 6) (@a04 _ _ _ _) (fun _ _=>rfl))) (by rfl))
    (@a01 _ _ _ _ _ (@a20 _ _ 8 _ _ _ _ sc_law.nd rfl (by walk_at "o") (@a08 _ _ _ _ _ _ _ _ _ _ _ _ _ _ _ _ G__law_on (hr.mono (by omega)) rfl T.f__law_on.m T.f__law_on.F.kp T.f__law_on.b .nil a28 (@a00 _ _ _ _ _ (pv 2) (@a00 _ _ _ _ _ (pv 5) (@a00 _ _ _ _ _ (@a31 _ _ _ _ (@a02 _)) (@a00 _ _ _ _ _ (@a40 _ _ _ _ _ _ _ _ b59 (@a31 _ _ _ _ (@a00 _ _ _ _ _ (@a04 _ _ _ _) (@a02 _) (by rfl))) (@a46 _ _ _ _ _ _ _ _ _ (a97 K) (by rfl) T.z_len ad7 (@a00 _ _ _ _ _ (pv 3) (@a02 _) (by rfl)) (by decide) (by decide) (by rfl) (by rfl))) (@a02 _) (by rfl)) (by rfl)) (by rfl)) (by rfl)) (by decide) (by rfl) (by rfl)) (by rfl) (by walk_at "o"))
    (@a01 _ _ _ _ _ (@a20 _ _ 9 _ _ _ _ sc_law.nd rfl (by walk_at "o") (pv 8) (by rfl) (by walk_at "o"))
    (@a01 _ _ _ _ _ (@a20 _ _ 10 _ _ _ _ sc_law.nd rfl (by walk_at "o") (at4 (pv 7) T.cl_GraphMachine T.f_GraphMachine_begin.M G_GraphMachine_begin (hr.mono (by omega)) T.f_GraphMachine_begin.b .nil a28) (by rfl) (by walk_at "o"))
    (@a01 _ _ _ _ _ (@ai2 _ _ _ _ _ _ _ _ PassesOwn.never rfl (ab9 rfl T.z_range (@a00 _ _ _ _ _ (@a04 _ _ _ _) (@a02 _) (by rfl))) (a36 (i:=11) sc_law.nd rfl (by walk_at "o")) (@a01 _ _ _ _ _ (@a33 _ _ _ _ _ _ _ _ (@am0 _ _ _ _ (ad3 K (@a08 _ _ _ _ _ _ _ _ _ _ _ _ _ _ _ _ G__law_same (hr.mono (by omega)) rfl T.f__law_same.m T.f__law_same.F.kp T.f__law_same.b .nil a28 (@a00 _ _ _ _ _ (pv 7) (@a00 _ _ _ _ _ (pv 10) (@a00 _ _ _ _ _ (pv 9) (@a02 _) (by rfl)) (by rfl)) (by rfl)) (by decide) (by rfl) (by rfl)) (fun _=>rfl))) (@a05 _ _ _ (@a19 _ _ _ _ (@b37 _ _ _ _))) (@a18 _))
     (@a01 _ _ _ _ _ (@a20 _ _ 12 _ _ _ _ sc_law.nd rfl (by walk_at "o") (@a08 _ _ _ _ _ _ _ _ _ _ _ _ _ _ _ _ G__law_event (hr.mono (by omega)) rfl T.f__law_event.m T.f__law_event.F.kp T.f__law_event.b .nil a28 (@a00 _ _ _ _ _ (pv 1) (@a02 _) (by rfl)) (by decide) (by rfl) (by rfl)) (by rfl) (by walk_at "o"))
     (@a01 _ _ _ _ _ (@a60 _ _ _ _ (@a74 _ K _ _ _ _ _ _ _ _ _ _ _ PySem.F.plainAttrs_list PySem.F.slot_list_append PySem.F.type_list_append a50 (@a14 _ _ _ _ _ _ _ (a06 K) (pv 10) (@a04 _ _ _ _) (fun _ _=>rfl)) (@a00 _ _ _ _ _ (@a21 _ _ _ _) (@a02 _) (by rfl)) (by rfl) (by rfl) (by rfl) (by rfl) (by rfl) (by rfl)) (by rfl))
     (@a01 _ _ _ _ _ (@a20 _ _ 9 _ _ _ _ sc_law.nd rfl (by walk_at "o") (@a08 _ _ _ _ _ _ _ _ _ _ _ _ _ _ _ _ G__law_step (hr.mono (by omega)) rfl T.f__law_step.m T.f__law_step.F.kp T.f__law_step.b .nil a28 (@a00 _ _ _ _ _ (pv 2) (@a00 _ _ _ _ _ (@a14 _ _ _ _ _ _ _ (a06 K) (pv 9) (@a04 _ _ _ _) (fun _ _=>rfl)) (@a00 _ _ _ _ _ (pv 12) (@a02 _) (by rfl)) (by rfl)) (by rfl)) (by decide) (by rfl) (by rfl)) (by rfl) (by walk_at "o"))
     (@a01 _ _ _ _ _ (@a60 _ _ _ _ (@a74 _ K _ _ _ _ _ _ _ _ _ _ _ PySem.F.plainAttrs_list PySem.F.slot_list_append PySem.F.type_list_append a50 (@a14 _ _ _ _ _ _ _ (a06 K) (a93 (pv 7) T.cl_GraphMachine T.f_GraphMachine_step.M G_GraphMachine_step (hr.mono (by omega)) T.f_GraphMachine_step.b .nil a28 (@a00 _ _ _ _ _ (@a14 _ _ _ _ _ _ _ (a06 K) (pv 10) (@a04 _ _ _ _) (fun _ _=>rfl)) (@a00 _ _ _ _ _ (pv 12) (@a02 _) (by rfl)) (by rfl))) (@a04 _ _ _ _) (fun _ _=>rfl)) (@a00 _ _ _ _ _ (@a21 _ _ _ _) (@a02 _) (by rfl)) (by rfl) (by rfl) (by rfl) (by rfl) (by rfl) (by rfl)) (by rfl))
     (@a05 _ _ _ (@a20 _ _ 10 _ _ _ _ sc_law.nd rfl (by walk_at "o") (a93 (pv 7) T.cl_GraphMachine T.f_GraphMachine_step.M G_GraphMachine_step (hr.mono (by omega)) T.f_GraphMachine_step.b .nil a28 (@a00 _ _ _ _ _ (@a14 _ _ _ _ _ _ _ (a06 K) (pv 10) (@a04 _ _ _ _) (fun _ _=>rfl)) (@a00 _ _ _ _ _ (pv 12) (@a02 _) (by rfl)) (by rfl))) (by rfl) (by walk_at "o")))))))) (by intro _; rfl))
    (@a05 _ _ _ (@a19 _ _ _ _ (@at1 _ _ _ _ _ _ _ (@a08 _ _ _ _ _ _ _ _ _ _ _ _ _ _ _ _ G__law_same (hr.mono (by omega)) rfl T.f__law_same.m T.f__law_same.F.kp T.f__law_same.b .nil a28 (@a00 _ _ _ _ _ (pv 7) (@a00 _ _ _ _ _ (pv 10) (@a00 _ _ _ _ _ (pv 9) (@a02 _) (by rfl)) (by rfl)) (by rfl)) (by decide) (by rfl) (by rfl)) (@at0 _ _ _ _ _ (@a52 _ _ _ _ _ _ _ _ (ar4 (by exact hr.units)) (at4 (pv 7) T.cl_GraphMachine T.f_GraphMachine_begin.M G_GraphMachine_begin (hr.mono (by omega)) T.f_GraphMachine_begin.b .nil a28) (pv 8) (nomark _)))))))))))))))))),?_⟩
   have sl:(1000000:Nat)≤sizeLine:=le_line (Nat.le_refl _)
   walk_at "go"
   refine ⟨a0,is,rfl,hS,hl,fun d l H1 fd fl s1 D1=>?_⟩
   walk_at "run"
   refine ⟨d,l,rfl,D1,fun g lb ln bs ns f cm H2 o2 D2 flb fln hG hB=>?_⟩
   walk_at "run"
   have hG0:=hG
   obtain ⟨bvs,nvs,h1,h2,h3,h4,h5⟩:=hG
   refine ⟨g,_,rfl,SqT.of h1,rfl,_,_,rfl,_,_,rfl,_,_,rfl,rfl,?_⟩
   walk_at "run"
   refine al0 (SqL.of h2) ?_
   intro hb1 H3 f3 s3 e3
   walk_at "run"
   refine al0 (SqL.of (s3 _ _ h4)) ?_
   intro hn1 H4 f4 s4 e4
   walk_at "run"
   intro hp H5 f5 s5 e5
   walk_at "run"
   intro p dx np ndx nex
   have s25:=s3.trans (s4.trans s5)
   have s5x:=bg3 (o:=.own p) (o':=.ins t.c_GraphMachine dx []) np ndx
   have s2x:=s25.trans s5x
   have hG5:GrL H5 hp hb1 hn1 bs ns f:=⟨bvs,nvs,e5,(s4.trans s5) _ _ e3,h3.mono fun _ _ z=>z.same s25,s5 _ _ e4,h5.same s25⟩
   refine ⟨p,dx,hp,hb1,hn1,bvs,nvs,bs,ns,f,rfl,a32,s5x _ _ e5,(s4.trans (s5.trans s5x)) _ _ e3,h3.mono fun _ _ z=>z.same s2x,(s5.trans s5x) _ _ e4,h5.same s2x,fun dx' bl nl H6 fb6 fn6 ep eb en k6=>⟨rfl,?_⟩⟩
   have s56:Same H5 H6:=fun y o e=>k6 y o (s5x y o e) (a27 e np)
   have s26:=s25.trans s56
   walk_at "run"
   refine bn4 (bq4 (hG5.same s56)) (bq4 (hG0.same s26)) (gr_h hB) ?_
   walk_at "run"
   refine bo2 ep T.cl_GraphMachine T.ci_GraphMachine T.is_GraphMachine_Machine ?_
   walk_at "run"
   refine a22 (SqT.of (s56 _ _ e5)) (a03 (j:=0) rfl) ?_
   walk_at "run"
   have e6:H6 hb1=some (.lst bvs):=(s4.trans (s5.trans s56)) _ _ e3
   have e6n:H6 hn1=some (.lst nvs):=(s5.trans s56) _ _ e4
   have hne:hb1≠hn1:=fun z=>by rw [← z,e3] at f4; cases f4
   refine a89 (SqL.of e6) ?_
   walk_at "run"
   refine b01 e6 ?_
   walk_at "run"
   refine a22 (SqT.of (Tups.upd e6 _ _ (s56 _ _ e5))) (a03 (j:=1) rfl) ?_
   walk_at "run"
   have e7n:upd H6 hb1 (.lst []) hn1=some (.lst nvs):=by rw [a12 hne.symm]; exact e6n
   refine a89 (SqL.of e7n) ?_
   walk_at "run"
   refine b01 e7n ?_
   walk_at "run"
   have tu:Tups H6 (upd (upd H6 hb1 (.lst [])) hn1 (.lst [])):=(Tups.upd e6).trans (Tups.upd e7n)
   have s28:Same H2 (upd (upd H6 hb1 (.lst [])) hn1 (.lst [])):=(s26.updNew f3).updNew (s3.free f4)
   have np1:p≠hb1:=aj5 ep e6 (fun z=>nomatch z)
   have np2:p≠hn1:=aj5 ep e6n (fun z=>nomatch z)
   have xb:=(s4.trans (s5.trans s5x)) _ _ e3
   have xn:=(s5.trans s5x) _ _ e4
   have b1n:bl≠hb1:=(a27 xb fb6).symm
   have b2n:bl≠hn1:=(a27 xn fb6).symm
   have n1n:nl≠hb1:=(a27 xb fn6).symm
   have n2n:nl≠hn1:=(a27 xn fn6).symm
   have gm8:∃ dx bvs un,(upd (upd H6 hb1 (.lst [])) hn1 (.lst [])) p=some (.ins t.c_GraphMachine dx (gmS (.ref bl) (.ref nl) (.int (f:Nat))))∧(upd (upd H6 hb1 (.lst [])) hn1 (.lst [])) bl=some (.lst bvs)∧Each (BxAt (upd (upd H6 hb1 (.lst [])) hn1 (.lst []))) bvs bs∧(upd (upd H6 hb1 (.lst [])) hn1 (.lst [])) nl=some (.lst un)∧Tr.Ats (upd (upd H6 hb1 (.lst [])) hn1 (.lst [])) (ns.map Nd.tr) un [] :=
    ⟨dx',bvs,nvs,by rw [a12 np2,a12 np1]; exact ep,by rw [a12 b2n,a12 b1n]; exact eb,h3.mono fun _ _ z=>z.same s28,by rw [a12 n2n,a12 n1n]; exact en,h5.same s28⟩
   generalize upd (upd H6 hb1 (.lst [])) hn1 (.lst [])=H8 at tu s28 gm8 ⊢
   intro p9 H9 f9 s9 e9
   walk_at "run"
   intro p10 H10 f10 s10 e10
   walk_at "run"
   have s2a:=s28.trans (s9.trans s10)
   have hvl:bvs.length=bs.length:=h3.1
   have hbl:=hB.bl
   refine ag1 (SqL.of (s2a _ _ h2)) ?_
   walk_at "run"
   refine ⟨p10,_,[.int 0],rfl,rfl,e10,by omega,by omega,le_line (by simp; omega),?_⟩
   intro p11 H11 f11 s11 e11
   walk_at "run"
   obtain ⟨sd0,r0,hgo,hI0⟩:=bp9 hB
   have e11':H11 p11=some (.lst ((List.replicate bs.length (0:Int)).map V.int)):=by rw [e11,Int.toNat_natCast,hvl]; simp
   have s2b:=s2a.trans s11
   refine ⟨g,lb,ln,p9,p11,bs,ns,f,f,131072,cm,[],List.replicate bs.length 0,sd0,r0,rfl,hG0.same s2b,hB,.inl (SqL.of ((s10.trans s11) _ _ e9)),.inl (SqL.of e11'),by simp,hB.f,by simp,hgo,by simp,fun bp b0 bv H12 s12 x1 x2 x3 x4=>?_⟩
   have s8c:=s9.trans (s10.trans (s11.trans s12))
   have W12:Wg t.c_GraphMachine p g lb ln bl nl bp b0 d l bv bs ns f sd0 r0 H12:=by
    obtain ⟨dx,bvs',un,c1,c2,c3,c4,c5⟩:=gm8
    exact ⟨D2.same (s28.trans s8c),hG0.same (s28.trans s8c),⟨dx,bvs',un,s8c _ _ c1,s8c _ _ c2,c3.mono fun _ _ z=>z.same s8c,s8c _ _ c4,c5.same s8c⟩,x1,x3,x4⟩
   have no:∀ x∈[lb,ln,bl,nl,b0],x≠d∧x≠l:=by
    intro x hx
    simp only [List.mem_cons,List.not_mem_nil,or_false] at hx
    rcases hx with rfl | rfl | rfl | rfl | rfl
    · exact D1.new flb
    · exact D1.new fln
    · exact (D2.same s2x).new fb6
    · exact (D2.same s2x).new fn6
    · exact (D2.same s2b).new x2
   have no_b:=ag9 (.ref bl) (.ref nl) (.int (f:Nat)) (m:="begin") (by decide +kernel) (by decide +kernel) (by decide +kernel)
   have no_s:=ag9 (.ref bl) (.ref nl) (.int (f:Nat)) (m:="step") (by decide +kernel) (by decide +kernel) (by decide +kernel)
   walk_at "run"
   obtain ⟨dxm,_,_,z1,_⟩:=W12.gm
   refine ⟨p,dxm,_,rfl,z1,no_b,?_⟩
   walk_at "run"
   refine ⟨p,bs,ns,f,131072,sd0,r0,rfl,W12.at_,hB.gr,by decide,hgo,fun fp fl fv H13 s13 y1 y2 y3 y4=>?_⟩
   walk_at "run"
   refine ac0 (lo:=0) (n:=30) (fun i σ H'=>∃ (dp dl fp fl:Addr) (dv fv:V) (sd:List Str) (r:Option StG) (H0:Hp) (y1 y2:Option V),σ=[some (.ref a0),some (.ref d),some (.ref g),some (.ref lb),some (.ref ln),some (.int (f:Nat)),some (.ref hp),some (.ref p),some (.ref bp),some (.ref dp),some (.ref fp),y1,y2]∧Wg t.c_GraphMachine p g lb ln bl nl bp b0 d l bv bs ns f sd0 r0 H0∧(H0 dp=some (.tup [.ref dl,dv])∧H0 dl=some (.lst (a35 sd))∧SgAt H0 dv r)∧Same H0 H'∧H0 fl=none∧(H' fp=some (.tup [.ref fl,fv])∧H' fl=some (.lst (a35 sd))∧SgAt H' fv r)∧StI bs ns cm 131071 r∧sd.length≤131072) ⟨bp,b0,fp,fl,bv,fv,sd0,r0,H12,_,_,rfl,W12,⟨x1,x3,x4⟩,s13,y2,⟨y1,y3,y4⟩,hI0,au8 hgo⟩ ?_ ?_
   · rintro i σ H' hi ⟨dp,dl,fp,fl,dv,fv,sd,r,H0,y1,y2,rfl,W0,⟨a1,a2,a3⟩,s0,ffl,⟨b1,b2,b3⟩,hI,hsd⟩
     walk_at "run"
     have W':=W0.same s0
     refine ⟨p,fp,fl,dp,dl,fv,dv,bs,ns,f,sd,r,rfl,W'.at_,⟨b1,b2,b3⟩,⟨s0 _ _ a1,s0 _ _ a2,a3.same s0⟩,fun K1 s1'=>?_⟩
     walk_at "run"
     have W1:=W'.same s1'
     refine ⟨d,l,rfl,W1.dk,fun ev ets K2 o2' D2' t2' aev hev=>?_⟩
     walk_at "run"
     have W2:=W1.off no o2' D2'
     have nfl:fl∉[lb,ln,bl,nl,b0]:=fun hx=>by
      obtain ⟨xs,e⟩:=W0.some_ _ hx
      rw [ffl] at e
      cases e
     have nfd:=W0.dk.new ffl
     have c1:=t2' _ _ (s1' _ _ b1)
     have c2:=o2' _ _ nfd.1 nfd.2 (s1' _ _ b2)
     refine a22 (SqT.of c1) (a03 (j:=0) rfl) ?_
     walk_at "run"
     refine a89 (SqL.of c2) ?_
     walk_at "run"
     refine a58 c2 (by simp only [a35,List.length_map]; omega) ?_
     walk_at "run"
     have W3:=W2.upd (ys:=a35 sd++[.str "a"]) c2 nfl nfd.1 nfd.2
     have t3:Tups K2 (upd K2 fl (.lst (a35 sd++[.str "a"]))):=Tups.upd c2
     generalize upd K2 fl (.lst (a35 sd++[.str "a"]))=K3 at W3 t3 ⊢
     obtain ⟨sd',r',hst,hI'⟩:=bg1 hB hI (.tup ets)
     have hsd':=b80 hst
     have t03:Tups H0 K3:=s0.tups.trans (s1'.tups.trans (t2'.trans t3))
     have aev3:=aa2 aev t3
     refine a22 (SqT.of (t03 _ _ a1)) (a03 (j:=1) rfl) ?_
     walk_at "run"
     refine ⟨g,lb,ln,dv,ev,bs,ns,f,131072,cm,r,ets,sd',r',rfl,W3.gr,hB,a3.tups t03,hI,aev3,hev,fun x e=>(hI.sl e).2,hst,fun p4 l4 v4 K4 s4' x1 x2 x3 x4=>?_⟩
     walk_at "run"
     have W4:=W3.same s4'
     obtain ⟨dxm,_,_,z1,_⟩:=W4.gm
     refine ⟨p,dxm,_,rfl,z1,no_s,?_⟩
     walk_at "run"
     have c4:=s4' _ _ (t3 _ _ c1)
     have fv4:SgAt K4 fv r:=(b3.tups (s1'.tups.trans (t2'.trans t3))).same s4'
     refine a22 (SqT.of c4) (a03 (j:=1) rfl) ?_
     walk_at "run"
     refine ⟨p,fv,ev,bs,ns,f,r,.tup ets,131072,sd',r',rfl,W4.at_,hB.gr,fv4,(aev3.same s4').toK K,hev,fun x e=>hI.sl e,hst,fun p5 l5 v5 K5 s5' u1 u2 u3 u4=>?_⟩
     walk_at "run"
     refine a22 (SqT.of u1) (a03 (j:=0) rfl) ?_
     walk_at "run"
     refine a89 (SqL.of u3) ?_
     walk_at "run"
     refine a58 u3 (by simp only [a35,List.length_map]; omega) ?_
     walk_at "run"
     have s46:Same K4 (upd K5 l5 (.lst (a35 sd'++[.str "b"]))):=s5'.updNew u2
     generalize upd K5 l5 (.lst (a35 sd'++[.str "b"]))=K6 at s46 ⊢
     have W6:=W4.same s46
     refine ⟨p,dxm,_,rfl,s46 _ _ z1,no_s,?_⟩
     walk_at "run"
     refine a22 (SqT.of (s46 _ _ c4)) (a03 (j:=1) rfl) ?_
     walk_at "run"
     refine ⟨p,fv,ev,bs,ns,f,r,.tup ets,131072,sd',r',rfl,W6.at_,hB.gr,fv4.same s46,((aev3.same s4').same s46).toK K,hev,fun x e=>hI.sl e,hst,fun p7 l7 v7 K7 s7' w1 w2 w3 w4=>?_⟩
     exact ⟨p4,l4,p7,l7,v4,v7,sd',r',K6,_,_,rfl,W6,⟨s46 _ _ x1,s46 _ _ x3,x4.same s46⟩,s7',w2,⟨w1,w3,w4⟩,hI',hsd'⟩
   · rintro σ H' ⟨dp,dl,fp,fl,dv,fv,sd,r,H0,y1,y2,rfl,W0,⟨a1,a2,a3⟩,s0,ffl,⟨b1,b2,b3⟩,hI,hsd⟩
     walk_at "run"
     have W':=W0.same s0
     refine ⟨p,fp,fl,dp,dl,fv,dv,bs,ns,f,sd,r,rfl,W'.at_,⟨b1,b2,b3⟩,⟨s0 _ _ a1,s0 _ _ a2,a3.same s0⟩,fun K1 s1'=>?_⟩
     walk_at "run"
     have W1:=W'.same s1'
     obtain ⟨dxm,_,_,z1,_⟩:=W1.gm
     refine ⟨p,dxm,_,rfl,z1,no_b,?_⟩
     walk_at "run"
     refine ⟨p,bs,ns,f,131072,sd0,r0,rfl,W1.at_,hB.gr,by decide,hgo,fun p2 l2 v2 K2 s2' u1 u2 u3 u4=>?_⟩
     walk_at "run"
     obtain ⟨g1,g2,g3⟩:=(W1.same s2').bg
     refine bd8 (al8 u1 u3 u4) (al8 g1 g2 g3) (ba5 _ _) ?_
     exact q _
end
theorem all_mk {l:PySem.W.OpenLaw}{w:World}{K:PySem.W.Frag}{h:Heap}{mg:Str→Option Value}{fa:Addr}(X:K.In h) (G:h.Ns mainGlobals mg) (hfa:mg "law"=some (.ref fa)) (hF:HF w.params K):∃ fd:FuncData,(∀ (s:Shared) (v:Value),BindsTo s fd ⟨[v],[]⟩ [("script",v)])∧∀ base:Heap,K.In base→base.Ns mainGlobals mg→FnOk l.prog w K mg base CX0 21 fa fd ["script"] (an6 K):=by
 obtain ⟨t,T⟩:=hF
 have T:=T mg h X G
 have e:=hfa.symm.trans T.f_law.m
 cases e
 obtain ⟨_,_,_,_,_,_,_,_,_,e,_⟩:=T.f_law.F.ex
 exact ⟨_,fun s v=>by rw [e]; exact .of_eq rfl,fun base _ _=>bq5 T⟩
end K32
theorem PySem.Challenge.cw_callmill_k32_graph_machine_holds : PySem.Challenge.rw_callmill_k32_graph_machine.Holds := by
  exact K32.head fun K hF w mg fa h KX G hmg => K32.all_mk KX G hmg (hF w.params)
