import PyProof.Rows.All
import Wide.All
import OpenK.KLine
import KE.KItem
import KE.KIsAll
import Wide.FinOn
import Lean
import PyProof.EqAt
import PyProof.EqKinds
import PyProof.TupleCall
import PyProof.NeKinds
import PyProof.DictUpdate
import PyProof.AttrMissHeap
import KE.KDictOf
import PyProof.TupleIter
import PyProof.WalksEnum
import PyProof.EnumMake
import PyProof.Rows.EnumRows
import PyProof.Rows.MaxTwoN
import PyProof.ZipIter
import PyProof.IsRules
import PyProof.DictRoadsH
import Wide.Seal
import PyProof.MeetsDict
import PyProof.DictIter
import PyProof.DictWalks
import KE.KDictList
import PyProof.Rows.SumAny
import PyProof.ListRange
import PyProof.AutoSeq1
import PyProof.WalkInts
import PyProof.SeqI3
import KE.KTextTable
import PyProof.MeetsStr
import PyProof.StrCalls5
import PyProof.Rows.TupDisplay
import PyProof.Rows.TupAdd
import PyProof.Rows.StrNews2
import PyProof.StrBlockI
import PyProof.DictTruth
import PyProof.Rows.SortShell
import PyProof.DictValues
import PyProof.ConsumeS
import PyProof.Draws
import PyProof.Rows.SetFrom
import PyProof.FactsAll.set_1
import KE.KDictSum
import PyProof.Rows.SortStr
import PyProof.Rows.SortWalk
import PyProof.Rows.TmSorted
import PyProof.Rows.CallKwBuiltin
import PySem.Challenge.RW_callmill_k71_cells_spoilt
set_option Elab.async false
set_option linter.all false
set_option maxRecDepth 100000
set_option maxHeartbeats 4000000
namespace L2
open PySem PySem.Spec PyProof.Rows
abbrev Key:=Sum Int Str
def keyIs:Key→Value→Bool
 | .inl k,v=>Value.isInt k v
 | .inr x,v=>Value.isStrOf x v
def keyH (w:World):Key→Int
 | .inl k=>hashInt k
 | .inr x=>hashStr w x
theorem a73:∀ {k:Key}{v:Value},keyIs k v=true→(∃ i t,k=Sum.inl i∧v=Value.int i t)∨(∃ x t,k=Sum.inr x∧v=Value.str x t)
 | .inl i,v,h=>by
   obtain ⟨t,e⟩:=Value.isInt_shape (k:=i) (v:=v) h
   exact .inl ⟨i,t,rfl,e⟩
 | .inr x,v,h=>by
   obtain ⟨t,e⟩:=Value.isStrOf_shape (x:=x) (v:=v) h
   exact .inr ⟨x,t,rfl,e⟩
theorem bf3 (a b:Int):decide ((Sum.inl a:Key)=Sum.inl b)=(a == b):=by
 by_cases e:a=b
 · subst e; simp
 · have h:¬ (Sum.inl a:Key)=Sum.inl b:=fun q=>e (Sum.inl.inj q)
   rw [decide_eq_false h]
   exact (beq_eq_false_iff_ne.mpr e).symm
theorem bf4 (a b:Str):decide ((Sum.inr a:Key)=Sum.inr b)=decide (a=b):=by
 by_cases e:a=b
 · subst e; simp
 · have h:¬ (Sum.inr a:Key)=Sum.inr b:=fun q=>e (Sum.inr.inj q)
   rw [decide_eq_false h,decide_eq_false e]
theorem bf5 (a:Int) (b:Str):decide ((Sum.inl a:Key)=Sum.inr b)=false:=decide_eq_false (fun q=>nomatch q)
theorem bf6 (a:Str) (b:Int):decide ((Sum.inr a:Key)=Sum.inl b)=false:=decide_eq_false (fun q=>nomatch q)
def mixKind (prog:Program) (w:World):PySem.KeyKind prog w Key where
 is:=keyIs
 hash:=keyH w
 inj:=fun v a b ha hb=>by
  rcases a73 ha with ⟨i,t,rfl,rfl⟩ | ⟨x,t,rfl,rfl⟩
  · rcases a73 hb with ⟨j,u,rfl,e⟩ | ⟨y,u,rfl,e⟩
    · injection e with e1 _; rw [e1]
    · exact nomatch e
  · rcases a73 hb with ⟨j,u,rfl,e⟩ | ⟨y,u,rfl,e⟩
    · exact nomatch e
    · injection e with e1 _; rw [e1]
 byValue:=fun k v h=>by
  rcases a73 h with ⟨i,t,rfl,rfl⟩ | ⟨x,t,rfl,rfl⟩ <;> rfl
 pyHash:=fun hv h=>by
  rcases a73 hv with ⟨i,t,rfl,rfl⟩ | ⟨x,t,rfl,rfl⟩
  · exact wpAny_pyHash_int h
  · exact wpAny_pyHash_str h
 eqBool:=fun hu hv h=>by
  rcases a73 hu with ⟨i,t,rfl,rfl⟩ | ⟨x,t,rfl,rfl⟩
  · rcases a73 hv with ⟨j,u,rfl,rfl⟩ | ⟨y,u,rfl,rfl⟩
    · rw [bf3] at h; exact wpAny_eqBool_int h
    · rw [bf5] at h; exact SeqAt.EqAt.int_str i t y u _ _ _ _ h
  · rcases a73 hv with ⟨j,u,rfl,rfl⟩ | ⟨y,u,rfl,rfl⟩
    · rw [bf6] at h; exact SeqAt.EqAt.str_int x t j u _ _ _ _ h
    · rw [bf4] at h; exact wpAny_eqBool_str h
 «strs»:=fun k x t v h=>by
  rcases a73 h with ⟨i,u,rfl,e⟩ | ⟨y,u,rfl,e⟩
  · exact nomatch e
  · injection e with e1 _
    subst e1
    cases v <;> rfl
inductive V where
 | non | bl (b:Bool) | int (i:Int) | str (x:Str) | byt (b:Array UInt8) | flt (b:UInt64) | ref (a:Addr) | ty (n:String)
 deriving DecidableEq
def RelV:V→Value→Prop
 | .non,u=>u=Value.none
 | .bl b,u=>u=Value.bool b
 | .int i,u=>∃ t,u=Value.int i t
 | .str x,u=>∃ t,u=Value.str x t
 | .byt b,u=>∃ t,u=Value.bytes b t
 | .flt b,u=>∃ t,u=Value.float b t
 | .ref a,u=>u=Value.ref a
 | .ty n,u=>u=Value.type n
abbrev Vals:List V→List Value→Prop:=Paired RelV
theorem Vals.length {xs:List V}{us:List Value}(r:Vals xs us):xs.length=us.length:=Paired.length r
theorem Vals.get:∀ {xs:List V}{us:List Value}{i:Nat}{x:V},Vals xs us→xs[i]?=some x→∃ u,us[i]?=some u∧RelV x u
 | _,_,_,_,.nil,e=>by simp at e
 | _,_,0,_,.cons r _,e=>by simp at e; subst e; exact ⟨_,rfl,r⟩
 | _,_,i+1,x,.cons _ t,e=>by
   obtain ⟨u,h1,h2⟩:=Vals.get (i:=i) (x:=x) t (by simpa using e)
   exact ⟨u,by simpa using h1,h2⟩
theorem Vals.set {x:V}{u:Value}(r:RelV x u):∀ {xs:List V}{us:List Value}(i:Nat),Vals xs us→Vals (xs.set i x) (us.set i u)
 | _,_,_,.nil=>.nil
 | _,_,0,.cons _ t=>.cons r t
 | _,_,i+1,.cons q t=>.cons q (Vals.set r i t)
theorem Vals.append:∀ {xs ys:List V}{us ws:List Value},Vals xs us→Vals ys ws→Vals (xs++ys) (us++ws)
 | _,_,_,_,.nil,s=>s
 | _,_,_,_,.cons r t,s=>.cons r (Vals.append t s)
theorem Vals.take:∀ {xs:List V}{us:List Value}(n:Nat),Vals xs us→Vals (xs.take n) (us.take n)
 | _,_,0,_=>.nil
 | _,_,_+1,.nil=>.nil
 | _,_,n+1,.cons r t=>.cons r (Vals.take n t)
theorem Vals.drop:∀ {xs:List V}{us:List Value}(n:Nat),Vals xs us→Vals (xs.drop n) (us.drop n)
 | _,_,0,r=>r
 | _,_,_+1,.nil=>.nil
 | _,_,n+1,.cons _ t=>Vals.drop n t
def RelO:Option V→Option Value→Prop
 | some v,some u=>RelV v u
 | none,none=>True
 | _,_=>False
def KV {κ:Type}:List (κ×V)→List (κ×Value)→Prop:=Paired fun (p:κ×V) (q:κ×Value)=>p.1=q.1∧RelV p.2 q.2
def kV:Key→V
 | .inl i=>.int i
 | .inr x=>.str x
inductive HO where
 | lst (xs:List V)
 | tup (xs:List V)
 | dK (kvs:List (Key×V)) | dT (kvs:List (List Key×V))
 | set (S:Int→Bool) (n:Nat)
 | ins (C dx:Addr) (fs:List (Str×V))
 | own (x:Addr)
 | xd (fs:List (Str×V))
 | met (f x:Addr)
 | rng (lo hi:Int)
 | frz (o:Obj) (u:HO)
 | tbl (ps:Array Value)
 | ext (φ:Heap→Prop)
abbrev Hp:=Addr→Option HO
def upd (H:Hp) (a:Addr) (o:HO):Hp:=fun b=>if b=a then some o else H b
theorem a65 {H:Hp}{a:Addr}{o:HO}:upd H a o a=some o:=by unfold upd; rw [if_pos rfl]
theorem a37 {H:Hp}{a b:Addr}{o:HO}(h:b≠a):upd H a o b=H b:=by unfold upd; rw [if_neg h]
theorem bb7 {H:Hp}{a:Addr}{o u:HO}:upd (upd H a o) a u=upd H a u:=by
 funext b; unfold upd; split <;> rfl
theorem bf7 {H:Hp}{a b:Addr}{o u:HO}(h:H a=some o) (h':H b=some u) (d:o≠u):a≠b:=by
 intro e; subst e; rw [h] at h'; exact d (Option.some.inj h')
theorem a06 {H:Hp}{a b:Addr}{o:HO}(h:H a=some o) (h':H b=none):a≠b:=by
 intro e; subst e; rw [h] at h'; cases h'
section
variable (P:Program) (w:World)
def ObjOk (H:Hp) (h:Heap) (a:Addr):HO→Prop
 | .lst xs=>xs.length≤sizeLine∧∃ (its:List Value) (n:Nat),Vals xs its∧h.get? a=some { cls:=.type "list",data:=.seq its.toArray n }
 | .tup xs=>xs.length≤sizeLine∧∃ its:List Value,Vals xs its∧IsTup h a its.toArray
 | .dK kvs=>kvs.length≤sizeLine∧(a == sysModules)=false∧∃ vs,KV kvs vs∧h.DictOf (mixKind P w) a vs
 | .dT kvs=>kvs.length≤sizeLine∧(a == sysModules)=false∧∃ xs:List (List Key×Addr×Value),
  Paired (fun (p:List Key×V) (q:List Key×Addr×Value)=>p.1=q.1∧H q.2.1=some (.tup (p.1.map kV))∧RelV p.2 q.2.2) kvs xs ∧
  ∃ o es ep,h.get? a=some o∧o.ExactDict∧o.data=.dict es ep∧es.toList=xs.map (entryOfKey (tupleKind (mixKind P w)))∧(xs.map (·.1)).Nodup
 | .set S n=>h.SetOf (intKind P w) a S n
 | .ins C dx fs=>H dx=some (.own a)∧fs.length≤1000∧dx≠a∧h.get? a=some (PySem.W.instObj C dx) ∧
  ∃ mA,h.Ns1 dx mA∧(∀ f,RelO (fs.lookup f) (mA f))∧PySem.Within mA (fs.map (·.1))
 | .own _=>∃ o,h.get? a=some o
 | .xd fs=>∃ mA,h.Ns1 a mA∧∀ f,RelO (fs.lookup f) (mA f)
 | .rng lo hi=>∃ t u v,h.get? a=some { cls:=.type "range",data:=.fields #[.int lo t,.int hi u,.int 1 v] }
 | .frz o u=>h.get? a=some o∧ObjOk H h a u
 | .tbl ps=>h.get? a=some { cls:=.none,data:=.fields ps }
 | .met f x=>h.get? a=some (PySem.W.methodObj (.ref f) (.ref x))
 | .ext φ=>φ h∧(∃ o,h.get? a=some o)∧∀ h1 h2:Heap,φ h1→(∀ o,h1.get? a=some o→h2.get? a=some o)→φ h2
def HOk (H:Hp) (h:Heap):Prop:=∀ a o,H a=some o→ObjOk P w H h a o
end
section
variable {P:Program}{w:World}{H H':Hp}{h h':Heap}{a:Addr}{o:HO}
theorem ObjOk.lt (x:ObjOk P w H h a o):a<h.objs.size:=by
 cases o with
 | lst xs=>obtain ⟨_,_,_,_,e⟩:=x; exact Heap.lt_size e
 | tup xs=>obtain ⟨_,_,_,p⟩:=x; exact p.lt
 | dK kvs=>obtain ⟨_,_,_,_,o,_,_,e,_⟩:=x; exact Heap.lt_size e
 | dT kvs=>obtain ⟨_,_,_,_,o,_,_,e,_⟩:=x; exact Heap.lt_size e
 | set S n=>obtain ⟨o,_,_,_,e,_⟩:=x; exact Heap.lt_size e
 | ins C dx fs=>obtain ⟨_,_,_,e,_⟩:=x; exact Heap.lt_size e
 | own y=>obtain ⟨_,e⟩:=x; exact Heap.lt_size e
 | xd fs=>obtain ⟨_,⟨_,_,_,e,_⟩,_⟩:=x; exact Heap.lt_size e
 | rng lo hi=>obtain ⟨_,_,_,e⟩:=x; exact Heap.lt_size e
 | frz ob u=>obtain ⟨e,_⟩:=x; exact Heap.lt_size e
 | tbl ps=>exact Heap.lt_size (show h.get? a=some _ from x)
 | met f y=>exact Heap.lt_size (show h.get? a=some _ from x)
 | ext φ=>obtain ⟨_,⟨_,e⟩,_⟩:=x; exact Heap.lt_size e
theorem Paired.mapP {α β:Type}{F G:α→β→Prop}:∀ {l₁:List α}{l₂:List β},Paired F l₁ l₂→(∀ a b,F a b→G a b)→Paired G l₁ l₂
 | _,_,.nil,_=>.nil
 | _,_,.cons r t,f=>.cons (f _ _ r) (Paired.mapP t f)
theorem ObjOk.stay (x:ObjOk P w H h a o) (k:∀ b u,(b=a∨H b=some (.own a))→h.get? b=some u→h'.get? b=some u)
 (ho:∀ b,H b=some (.own a)→H' b=some (.own a)) (ht:∀ b xs,H b=some (.tup xs)→H' b=some (.tup xs)):ObjOk P w H' h' a o:=by
 induction o with
 | lst xs=>obtain ⟨z,its,n,r,e⟩:=x; exact ⟨z,its,n,r,k _ _ (.inl rfl) e⟩
 | tup xs=>obtain ⟨z,its,r,ob,e,c⟩:=x; exact ⟨z,its,r,ob,k _ _ (.inl rfl) e,c⟩
 | dK kvs=>obtain ⟨z,y,vs,r,ob,es,ep,e,c⟩:=x; exact ⟨z,y,vs,r,ob,es,ep,k _ _ (.inl rfl) e,c⟩
 | dT kvs =>
   obtain ⟨z,y,xs,r,ob,es,ep,e,c⟩:=x
   exact ⟨z,y,xs,Paired.mapP r fun p q z=>⟨z.1,ht _ _ z.2.1,z.2.2⟩,ob,es,ep,k _ _ (.inl rfl) e,c⟩
 | set S n=>obtain ⟨ob,es,ep,t,e,c⟩:=x; exact ⟨ob,es,ep,t,k _ _ (.inl rfl) e,c⟩
 | ins C dx fs =>
   obtain ⟨d,z,ne,e,mA,⟨od,es,ep,e2,c⟩,r⟩:=x
   exact ⟨ho _ d,z,ne,k _ _ (.inl rfl) e,mA,⟨od,es,ep,k _ _ (.inr d) e2,c⟩,r⟩
 | own y=>obtain ⟨ob,e⟩:=x; exact ⟨ob,k _ _ (.inl rfl) e⟩
 | xd fs=>obtain ⟨mA,⟨od,es,ep,e,c⟩,r⟩:=x; exact ⟨mA,⟨od,es,ep,k _ _ (.inl rfl) e,c⟩,r⟩
 | rng lo hi=>obtain ⟨t,u,v,e⟩:=x; exact ⟨t,u,v,k _ _ (.inl rfl) e⟩
 | frz ob u ih=>obtain ⟨e,q⟩:=x; exact ⟨k _ _ (.inl rfl) e,ih q⟩
 | tbl ps =>
   have e:h.get? a=some { cls:=.none,data:=.fields ps }:=x
   show h'.get? a=some { cls:=.none,data:=.fields ps }
   exact k a _ (.inl rfl) e
 | met f y =>
   have e:h.get? a=some (PySem.W.methodObj (.ref f) (.ref y)):=x
   show h'.get? a=some (PySem.W.methodObj (.ref f) (.ref y))
   exact k a _ (.inl rfl) e
 | ext φ=>obtain ⟨p,⟨o,e⟩,st⟩:=x; exact ⟨st _ _ p fun o q=>k _ _ (.inl rfl) q,⟨o,k _ _ (.inl rfl) e⟩,st⟩
theorem HOk.lt (x:HOk P w H h) (e:H a=some o):a<h.objs.size:=(x a o e).lt
theorem HOk.fresh (x:HOk P w H h) (e:h.objs.size≤a):H a=none:=by
 cases q:H a with
 | none=>rfl
 | some u=>exact absurd (Nat.lt_of_lt_of_le (x.lt q) e) (Nat.lt_irrefl _)
theorem HOk.kept (x:HOk P w H h) (k:∀ b u,h.get? b=some u→h'.get? b=some u):HOk P w H h':=fun a o e =>
 (x a o e).stay (fun b u _ q=>k b u q) (fun _ q=>q) fun _ _ q=>q
theorem HOk.laid (x:HOk P w H h) (k:∀ b u,h.get? b=some u→h'.get? b=some u) (hp:h.objs.size≤a) (new:ObjOk P w (upd H a o) h' a o):HOk P w (upd H a o) h':=fun b u e=>by
 have hn:=x.fresh hp
 by_cases hb:b=a
 · subst hb; rw [a65] at e; cases e; exact new
 · rw [a37 hb] at e
   exact (x b u e).stay (fun c v _ q=>k c v q) (fun c q=>by rw [a37 (a06 q hn)]; exact q) fun c xs q=>by rw [a37 (a06 q hn)]; exact q
end
def Rd (H:Hp) (a:Addr) (u:HO):Prop:=H a=some u∨∃ o,H a=some (.frz o u)
theorem Rd.ok {P:Program}{w:World}{H:Hp}{h:Heap}{a:Addr}{u:HO}(r:Rd H a u) (x:HOk P w H h):ObjOk P w H h a u:=by
 rcases r with r | ⟨o,r⟩
 · exact x a u r
 · obtain ⟨_,q⟩:=x a _ r
   exact q
def Mut:Option HO→Prop
 | some (.lst _)=>True
 | some (.dK _)=>True
 | some (.dT _)=>True
 | some (.set _ _)=>True
 | some (.ins _ _ _)=>True
 | some (.ext _)=>True
 | _=>False
section
variable {P:Program}{w:World}{H:Hp}{h h':Heap}{x e:Addr}{o':HO}
theorem HOk.write (ok:HOk P w H h) (mu:Mut (H x)) (he:e=x∨H e=some (.own x)) (k:∀ b u,b≠e→h.get? b=some u→h'.get? b=some u) (heo:∃ u,h'.get? e=some u)
 (new:ObjOk P w (upd H x o') h' x o'):HOk P w (upd H x o') h':=fun b u q=>by
 have nown:∀ c y,H c=some (.own y)→c≠x:=fun c y r z=>by subst z; rw [r] at mu; exact mu
 have ntup:∀ c xs,H c=some (.tup xs)→c≠x:=fun c xs r z=>by subst z; rw [r] at mu; exact mu
 by_cases hb:b=x
 · subst hb; rw [a65] at q; cases q; exact new
 · rw [a37 hb] at q
   by_cases hbe:b=e
   · have q':H b=some (.own x):=by
      rcases he with z | z
      · exact absurd (hbe.trans z) hb
      · rw [hbe]; exact z
     rw [q] at q'; cases q'
     obtain ⟨v,hv⟩:=heo
     exact ⟨v,by rw [hbe]; exact hv⟩
   · refine (ok b u q).stay (fun c v hc r=>k c v ?_ r) (fun c r=>by rw [a37 (nown c b r)]; exact r) fun c xs r=>by rw [a37 (ntup c xs r)]; exact r
     rcases hc with rfl | hc
     · exact hbe
     · rintro rfl
       rcases he with z | z
       · exact nown c b hc z
       · rw [hc] at z; cases z; exact hb rfl
end
structure Un (fs ex:List Addr) (H H':Hp) (h h':Heap):Prop where
 keep:∀ b o,h.get? b=some o→H b=none→b∉fs→b∉ex→h'.get? b=some o
 slot:∀ b o,h.get? b=some o→H b=none→b∈fs→b∉ex→∃ sl,h'.get? b=some { o with slots:=sl }
 free:∀ b o,h.get? b=some o→H b=none→b∉ex→H' b=none
 there:∀ b o,h.get? b=some o→b∉ex→∃ o',h'.get? b=some o'
 tups:∀ b xs,H b=some (.tup xs)→H' b=some (.tup xs)
 frzs:∀ b o u,H b=some (.frz o u)→H' b=some (.frz o u)
 tbls:∀ b ps,H b=some (.tbl ps)→∃ more,H' b=some (.tbl (ps++more))
section
variable {fs fs' ex ex':List Addr}{H H1 H2:Hp}{h h1 h2 h':Heap}{a x e:Addr}{o:HO}
theorem Un.any (u:Un fs ex H H1 h h1) {b:Addr}{ob:Obj}(q:h.get? b=some ob) (n:H b=none) (hx:b∉ex):∃ sl,h1.get? b=some { ob with slots:=sl }:=by
 by_cases hb:b∈fs
 · exact u.slot b ob q n hb hx
 · exact ⟨ob.slots,u.keep b ob q n hb hx⟩
theorem Un.kept (k:∀ b u,h.get? b=some u→h'.get? b=some u):Un fs ex H H h h' :=
 ⟨fun b ob q _ _ _=>k b ob q,fun b ob q _ _ _=>⟨ob.slots,k b ob q⟩,fun _ _ _ n _=>n,fun b ob q _=>⟨ob,k b ob q⟩,fun _ _ q=>q,fun _ _ _ q=>q,fun _ ps q=>⟨#[],by rw [q]; simp⟩⟩
theorem Un.refl:Un fs ex H H h h:=Un.kept fun _ _ q=>q
theorem Un.laid (k:∀ b u,h.get? b=some u→h'.get? b=some u) (hp:h.objs.size≤a) (hn:H a=none):Un fs ex H (upd H a o) h h' where
 keep:=fun b u q _ _ _=>k b u q
 slot:=fun b u q _ _ _=>⟨u.slots,k b u q⟩
 free:=fun b u q n _=>by rw [a37 (Nat.ne_of_lt (Nat.lt_of_lt_of_le (Heap.lt_size q) hp))]; exact n
 there:=fun b u q _=>⟨u,k b u q⟩
 tups:=fun b xs q=>by rw [a37 (a06 q hn)]; exact q
 frzs:=fun b u xs q=>by rw [a37 (a06 q hn)]; exact q
 tbls:=fun b ps q=>⟨#[],by rw [a37 (a06 q hn),q]; simp⟩
theorem Un.write (mu:Mut (H x)) (he:e=x∨H e=some (.own x)) (k:∀ b u,b≠e→h.get? b=some u→h'.get? b=some u) (heo:∃ u,h'.get? e=some u):Un fs ex H (upd H x o) h h':=by
 have hx:∀ b,H b=none→b≠x:=fun b n z=>by subst z; rw [n] at mu; exact mu
 have hb:∀ b,H b=none→b≠e:=fun b n z=>by
  subst z
  rcases he with r | r
  · exact hx b n r
  · rw [n] at r; cases r
 have hm:∀ b u,H b=some u→¬ Mut (some u)→b≠x:=fun b u q nm z=>by subst z; rw [q] at mu; exact nm mu
 refine ⟨fun b u q n _ _=>k b u (hb b n) q,fun b u q n _ _=>⟨u.slots,k b u (hb b n) q⟩,fun b u q n _=>by rw [a37 (hx b n)]; exact n,fun b u q _=>?_,
  fun b xs q=>by rw [a37 (hm b _ q fun z=>z)]; exact q,fun b u xs q=>by rw [a37 (hm b _ q fun z=>z)]; exact q,fun b ps q=>⟨#[],by rw [a37 (hm b _ q fun z=>z),q]; simp⟩⟩
 by_cases hbe:b=e
 · subst hbe; exact heo
 · exact ⟨u,k b u hbe q⟩
end
def trk (h:Heap) (H:Hp):List Addr:=(List.range h.objs.size).filter fun a=>(H a).isSome
def hidT (h:Heap) (H:Hp):Heap:=PySem.W.hideAll h (trk h H)
theorem ax9 (h:Heap) (H:Hp):(hidT h H).objs.size=h.objs.size:=PySem.W.hideAll_size _ _
theorem b67 {h:Heap}{H:Hp}{b:Addr}{o:Obj}(e:h.get? b=some o) (n:H b=none):(hidT h H).get? b=some o :=
 PySem.W.hideAll_get _ e fun hm=>by
  have q:(H b).isSome=true:=(List.mem_filter.mp hm).2
  rw [n] at q; simp at q
theorem bb8 {h:Heap}{H:Hp}{b:Addr}{o:Obj}(e:(hidT h H).get? b=some o):h.get? b=some o∧H b=none:=by
 have e':h.get? b=some o:=PySem.W.of_hideAll (trk h H) e
 refine ⟨e',?_⟩
 cases q:H b with
 | none=>rfl
 | some x =>
   have hm:b∈trk h H:=List.mem_filter.mpr ⟨List.mem_range.mpr (Heap.lt_size e'),by simp [q]⟩
   have z:(hidT h H).get? b=none:=PySem.W.hideAll_none (trk h H) hm
   rw [z] at e; cases e
def allNews (g h:Heap) (L:Addr):List (Addr×Obj):=(List.range h.objs.size).filterMap fun a=>if a=L∨(g.get? a).isSome=true then none else (h.get? a).map fun o=>(a,o)
def rest (g h:Heap) (L d:Addr):List (Addr×Obj):=(allNews g h L).filter fun p=>decide (p.1≠d)
structure Mod (K:PySem.W.Frag) (mg:Str→Option Value) (base:Heap):Prop where
 kin:K.In base
 glob:base.Ns mainGlobals mg
 blt:∃ mb,base.Ns builtinsNs mb∧∀ x:Str,x≠"__name__"→mb x=bootBuiltins x
 nolimit:base.NoLimit
structure Cx where
 prog:Program
 w:World
 K:PySem.W.Frag
 mg:Str→Option Value
 base:Heap
 A:Around
 N:List Str
 s₀:Shared
 H₀:Hp
 env:Env
 outer:List Env
 stack:List Env
 ex:List Addr
 fn:Str→Bool
 calm:Bool
 pn:List (Addr×Obj)
 xe:Value→Shared→Prop
def frs (l:List Env):List Addr:=l.filterMap (·.frame)
abbrev Cx.fs (X:Cx):List Addr:=frs X.outer
def Vis (sc:Scope) (x:Str):Prop:=sc.names.lookup x=some .local∨sc.names.lookup x=some .cell∨sc.names.lookup x=some .free
def Loc (sc:Scope) (x:Str):Prop:=sc.names.lookup x=some .local∨sc.names.lookup x=some .cell
def Look (env:Env) (h:Heap) (m:Str→Option Value) (x:Str) (u:Value):Prop :=
 (env.kindOf x=some .local∧m x=some u)∨((env.kindOf x=some .cell∨env.kindOf x=some .free)∧∃ c,env.cells.lookup x=some c∧h.IsCell c (some u))
structure Cx.Ok (X:Cx):Prop where
 mod:Mod X.K X.mg X.base
 kind:X.env.scope.kind=.function
 glob:X.env.globals=mainGlobals
 blt:X.env.builtins=builtinsNs
 above:X.s₀.heap.objs.size≤X.env.locals
 inj:∀ x y c,X.env.cells.lookup x=some c→X.env.cells.lookup y=some c→x=y
 has:∀ x,(X.env.kindOf x=some .cell∨X.env.kindOf x=some .free)→∃ c,X.env.cells.lookup x=some c
 cab:∀ x c,X.fn x=true→X.env.cells.lookup x=some c→X.s₀.heap.objs.size≤c
 hd:X.calm=true→X.A.handled=none
 frames:X.A.frames=some X.stack
 stk:X.stack=X.outer∨(X.stack=X.env::X.outer∧X.env.frame=some X.env.locals)
 exf:∀ b∈X.ex,b≠X.env.locals∧∀ x c,X.env.cells.lookup x=some c→c≠b
 bs:∀ b o,X.base.get? b=some o→X.s₀.heap.get? b=some o∧X.H₀ b=none
 bsz:X.base.objs.size≤X.s₀.heap.objs.size
 noex:∀ b o,X.base.get? b=some o→b∉X.ex
 exfs:∀ b∈X.ex,b∉X.fs
 funs:X.s₀.heap.FunFrames X.base X.outer
 frf:∀ b∈X.fs,X.H₀ b=none
structure Inv (X:Cx) (pins:List (Addr×Obj)) (σ:List (Option V)) (H:Hp) (s:Shared):Prop where
 ok:X.Ok
 os:s.os=X.s₀.os
 bare:AllBare s.gens
 base:Un X.fs X.ex X.H₀ H X.s₀.heap s.heap
 loc:∃ m,s.heap.Ns X.env.locals m∧∀ (i:Nat) (x:Str) (v:V),X.N[i]?=some x→σ[i]?=some (some v)→Vis X.env.scope x→∃ u,RelV v u∧Look X.env s.heap m x u
 cell:∀ x c,X.env.cells.lookup x=some c→∃ v,s.heap.IsCell c v
 free:H X.env.locals=none
 freeC:∀ x c,X.env.cells.lookup x=some c→H c=none
 pin:∀ p∈X.pn++pins,s.heap.get? p.1=some p.2∧H p.1=none∧p.1≠X.env.locals∧p.1∉X.fs∧∀ v,p.2.data≠.cell v
 hok:HOk X.prog X.w H s.heap
 len:σ.length=X.N.length
section
variable {X:Cx}{pins:List (Addr×Obj)}{σ:List (Option V)} {H H':Hp}{s:Shared}{h':Heap}
theorem Cx.Ok.nofr (ok:X.Ok) {b:Addr}{o:Obj}(e:X.base.get? b=some o):b∉X.fs:=fun hb=>by
 have:=(ok.funs.mem hb).1
 rw [e] at this; cases this
theorem Inv.bs (I:Inv X pins σ H s):∀ b o,X.base.get? b=some o→s.heap.get? b=some o∧H b=none:=fun b o e =>
 ⟨I.base.keep b o (I.ok.bs b o e).1 (I.ok.bs b o e).2 (I.ok.nofr e) (I.ok.noex b o e),I.base.free b o (I.ok.bs b o e).1 (I.ok.bs b o e).2 (I.ok.noex b o e)⟩
theorem Inv.bk (I:Inv X pins σ H s):∀ b o,X.base.get? b=some o→s.heap.get? b=some o:=fun b o e=>(I.bs b o e).1
theorem Inv.mod (I:Inv X pins σ H s):Mod X.K X.mg X.base:=I.ok.mod
theorem Inv.kIn (I:Inv X pins σ H s):X.K.In s.heap:=I.ok.mod.kin.keeps I.bk
theorem Inv.lt (I:Inv X pins σ H s):X.env.locals<s.heap.objs.size:=let ⟨_,hn,_⟩:=I.loc; hn.lt
theorem Inv.sz (I:Inv X pins σ H s):X.s₀.heap.objs.size≤s.heap.objs.size:=Nat.le_trans I.ok.above (Nat.le_of_lt I.lt)
theorem Inv.nofs (I:Inv X pins σ H s) {a:Addr}(h:s.heap.objs.size≤a):a∉X.fs:=fun hb=>by
 obtain ⟨_,o,ho,_⟩:=I.ok.funs.mem hb
 exact absurd (Nat.lt_of_lt_of_le (Heap.lt_size ho) (Nat.le_trans I.sz h)) (Nat.lt_irrefl _)
theorem Inv.cne (I:Inv X pins σ H s):∀ x c,X.env.cells.lookup x=some c→c≠X.env.locals:=fun x c e z=>by
 obtain ⟨v,o,ho,hd⟩:=I.cell x c e
 obtain ⟨m,⟨o',es,ep,ho',hd',_⟩,_⟩:=I.loc
 rw [z,ho'] at ho; cases ho; rw [hd'] at hd; cases hd
theorem Inv.funs (I:Inv X pins σ H s):s.heap.FunFrames X.base X.outer:=by
 have all:∀ (l:List Env),(∀ b∈frs l,b∈X.fs)→X.s₀.heap.FunFrames X.base l→s.heap.FunFrames X.base l:=by
  intro l
  induction l with
  | nil=>intro _ _; trivial
  | cons env r ih =>
    intro hs hl
    obtain ⟨hk,⟨L,o,hf,hn,ho,hd⟩,hr⟩:=hl
    have hL:L∈X.fs:=hs L (by unfold frs; rw [List.filterMap_cons,hf]; exact List.mem_cons_self)
    obtain ⟨sl,e⟩:=I.base.slot L o ho (I.ok.frf L hL) hL fun z=>I.ok.exfs L z hL
    exact ⟨hk,⟨L,_,hf,hn,e,hd⟩,ih (fun b hb=>hs b (by unfold frs; rw [List.filterMap_cons,hf]; exact List.mem_cons_of_mem _ hb)) hr⟩
 exact all X.outer (fun _ hb=>hb) I.ok.funs
theorem Inv.stack (I:Inv X pins σ H s):s.heap.FunFrames X.base X.stack:=by
 rcases I.ok.stk with e | ⟨e,hf⟩
 · rw [e]; exact I.funs
 · rw [e]
   obtain ⟨m,hn,_⟩:=I.loc
   refine .cons (by rw [I.ok.kind]; decide) hf hn ?_ I.funs
   exact Heap.get?_none_of_le (Nat.le_trans I.ok.bsz I.ok.above)
theorem Inv.stkSub (I:Inv X pins σ H s):∀ b∈frs X.stack,b∈X.env.locals::X.fs:=fun b hb=>by
 rcases I.ok.stk with e | ⟨e,hf⟩
 · rw [e] at hb; exact List.mem_cons_of_mem _ hb
 · rw [e] at hb
   unfold frs at hb
   rw [List.filterMap_cons,hf] at hb
   exact hb
theorem Inv.stkFree (I:Inv X pins σ H s):∀ b∈frs X.stack,H b=none:=fun b hb=>by
 rcases List.mem_cons.mp (I.stkSub b hb) with e | hb
 · rw [e]; exact I.free
 · obtain ⟨_,o,ho,_⟩:=I.ok.funs.mem hb
   exact I.base.free b o ho (I.ok.frf b hb) fun z=>I.ok.exfs b z hb
theorem Inv.step {g':Array GenState}{t':Nat}{d':Drawn}{ch:List Addr}(I:Inv X pins σ H s)
 (hch:∀ b∈ch,(b∈X.ex∨X.s₀.heap.objs.size≤b)∧b≠X.env.locals∧(∀ x c,X.env.cells.lookup x=some c→c≠b)∧∀ p∈X.pn++pins,p.1≠b)
 (keep:∀ b o,b≠X.env.locals→b∉X.fs→b∉ch→s.heap.get? b=some o→H b=none→h'.get? b=some o)
 (slot:∀ b o,b≠X.env.locals→b∈X.fs→b∉ch→s.heap.get? b=some o→H b=none→∃ sl,h'.get? b=some { o with slots:=sl }) (free:∀ b o,b∉ch→s.heap.get? b=some o→H b=none→H' b=none)
 (there:∀ b o,b∉ch→s.heap.get? b=some o→∃ o',h'.get? b=some o')
 (tups:∀ b xs,H b=some (.tup xs)→H' b=some (.tup xs)) (frzs:∀ b o u,H b=some (.frz o u)→H' b=some (.frz o u)) (tbls:∀ b ps,H b=some (.tbl ps)→∃ more,H' b=some (.tbl (ps++more)))
 (ns:∀ m,s.heap.Ns X.env.locals m→h'.Ns X.env.locals m) (hok:HOk X.prog X.w H' h') (hg:AllBare g') :
 Inv X pins σ H' { s with heap:=h',gens:=g',drawn:=d',toks:=t' }:=by
 have neL:∀ b o,X.s₀.heap.get? b=some o→b≠X.env.locals:=fun b o e=>Nat.ne_of_lt (Nat.lt_of_lt_of_le (Heap.lt_size e) I.ok.above)
 have neC:∀ b o,X.s₀.heap.get? b=some o→b∉X.ex→b∉ch:=fun b o e hx hb=>by
  rcases (hch b hb).1 with z | z
  · exact hx z
  · exact absurd (Nat.lt_of_lt_of_le (Heap.lt_size e) z) (Nat.lt_irrefl _)
 have cellK:∀ x c,X.env.cells.lookup x=some c→∀ v,s.heap.IsCell c v→h'.IsCell c v:=fun x c e v ⟨o,ho,hd⟩=>by
  have nch:c∉ch:=fun z=>(hch c z).2.2.1 x c e rfl
  by_cases hc:c∈X.fs
  · obtain ⟨sl,q⟩:=slot c o (I.cne x c e) hc nch ho (I.freeC x c e)
    exact ⟨_,q,hd⟩
  · exact ⟨o,keep c o (I.cne x c e) hc nch ho (I.freeC x c e),hd⟩
 refine ⟨I.ok,I.os,hg,⟨fun b o e n hb hx=>?_,fun b o e n hb hx=>?_,fun b o e n hx=>?_,fun b o e hx=>?_,fun b xs e=>tups b xs (I.base.tups b xs e),fun b o xs e=>frzs b o xs (I.base.frzs b o xs e),fun b ps e=>?_⟩,?_,fun x c e=>?_,?_,fun x c e=>?_,fun p hp=>?_,hok,I.len⟩
 · exact keep b o (neL b o e) hb (neC b o e hx) (I.base.keep b o e n hb hx) (I.base.free b o e n hx)
 · obtain ⟨sl,e1⟩:=I.base.slot b o e n hb hx
   obtain ⟨sl',e2⟩:=slot b _ (neL b o e) hb (neC b o e hx) e1 (I.base.free b o e n hx)
   exact ⟨sl',e2⟩
 · obtain ⟨o',e1⟩:=I.base.there b o e hx
   exact free b o' (neC b o e hx) e1 (I.base.free b o e n hx)
 · obtain ⟨o',e1⟩:=I.base.there b o e hx
   exact there b o' (neC b o e hx) e1
 · obtain ⟨m1,e1⟩:=I.base.tbls b ps e
   obtain ⟨m2,e2⟩:=tbls b _ e1
   exact ⟨m1++m2,by rw [e2,Array.append_assoc]⟩
 · obtain ⟨m,hn,hl⟩:=I.loc
   refine ⟨m,ns m hn,fun i x v e1 e2 e3=>?_⟩
   obtain ⟨u,r,l⟩:=hl i x v e1 e2 e3
   refine ⟨u,r,?_⟩
   rcases l with l | ⟨k,c,e,z⟩
   · exact .inl l
   · exact .inr ⟨k,c,e,cellK x c e _ z⟩
 · obtain ⟨v,z⟩:=I.cell x c e
   exact ⟨v,cellK x c e v z⟩
 · obtain ⟨m,⟨o,_,_,ho,_⟩,_⟩:=I.loc
   exact free _ o (fun z=>(hch _ z).2.1 rfl) ho I.free
 · obtain ⟨v,o,ho,hd⟩:=I.cell x c e
   exact free c o (fun z=>(hch c z).2.2.1 x c e rfl) ho (I.freeC x c e)
 · obtain ⟨e,n,ne,nf,d⟩:=I.pin p hp
   have nch:p.1∉ch:=fun z=>(hch p.1 z).2.2.2 p hp rfl
   exact ⟨keep p.1 p.2 ne nf nch e n,free p.1 p.2 nch e n,ne,nf,d⟩
theorem Inv.un {t':Nat}(I:Inv X pins σ H s) (u:Un X.fs [] H H' s.heap h') (hok:HOk X.prog X.w H' h'):Inv X pins σ H' { s with heap:=h',toks:=t' }:=by
 obtain ⟨m,⟨o,es,ep,ho,r⟩,_⟩:=id I.loc
 obtain ⟨sl,hL⟩:=u.any ho I.free (by simp)
 exact I.step (g':=s.gens) (d':=s.drawn) (ch:=[]) (fun _ z=>nomatch z) (fun b o _ hb _ e n=>u.keep b o e n hb (by simp)) (fun b o _ hb _ e n=>u.slot b o e n hb (by simp)) (fun b o _ e n=>u.free b o e n (by simp)) (fun b o _ e=>u.there b o e (by simp)) u.tups u.frzs u.tbls (fun m' hm=>by
  obtain ⟨o',es',ep',ho',r'⟩:=hm
  rw [ho] at ho'; cases ho'
  exact ⟨_,es',ep',hL,r'⟩) hok I.bare
theorem Inv.call {g':Array GenState}{t':Nat}{d':Drawn}{ch:List Addr}(I:Inv X pins σ H s) (u:Un (frs X.stack) ch H H' s.heap h') (hok:HOk X.prog X.w H' h') (hg:AllBare g')
 (hch:∀ b∈ch,(b∈X.ex∨X.s₀.heap.objs.size≤b)∧b≠X.env.locals∧(∀ x c,X.env.cells.lookup x=some c→c≠b)∧∀ p∈X.pn++pins,p.1≠b) :
 Inv X pins σ H' { s with heap:=h',gens:=g',drawn:=d',toks:=t' }:=by
 obtain ⟨m,⟨o,es,ep,ho,r⟩,_⟩:=id I.loc
 obtain ⟨sl,hL⟩:=u.any ho I.free fun z=>(hch _ z).2.1 rfl
 exact I.step (ch:=ch) hch (fun b o hL hb hc e n=>u.keep b o e n (fun z=>(List.mem_cons.mp (I.stkSub b z)).elim hL hb) hc) (fun b o _ _ hc e n=>u.any e n hc) (fun b o hc e n=>u.free b o e n hc) (fun b o hc e=>u.there b o e hc) u.tups u.frzs u.tbls (fun m' hm=>by
  obtain ⟨o',es',ep',ho',r'⟩:=hm
  rw [ho] at ho'; cases ho'
  exact ⟨_,es',ep',hL,r'⟩) hok hg
theorem Inv.turned {t':Nat}{it:Addr}(I:Inv X pins σ H s) (k:∀ b o,b≠it→s.heap.get? b=some o→h'.get? b=some o) (hn:H it=none) (hL:it≠X.env.locals)
 (h1:it∈X.ex∨X.s₀.heap.objs.size≤it) (h2:∀ x c,X.env.cells.lookup x=some c→c≠it) (h3:∀ p∈X.pn++pins,p.1≠it):Inv X pins σ H { s with heap:=h',toks:=t' }:=by
 have nit:∀ b u,H b=some u→b≠it:=fun b u e z=>by rw [z,hn] at e; cases e
 refine I.step (g':=s.gens) (d':=s.drawn) (ch:=[it]) (fun b hb=>?_) (fun b o _ _ hc e _=>k b o (fun z=>hc (by simp [z])) e) (fun b o _ _ hc e _=>⟨o.slots,k b o (fun z=>hc (by simp [z])) e⟩) (fun _ _ _ _ n=>n)
  (fun b o hc e=>⟨o,k b o (fun z=>hc (by simp [z])) e⟩) (fun _ _ e=>e) (fun _ _ _ e=>e) (fun b ps e=>⟨#[],by rw [e]; simp⟩) (fun m hm=>?_) (fun b u e=>?_) I.bare
 · have e:b=it:=by simpa using hb
   subst e
   exact ⟨h1,hL,h2,h3⟩
 · obtain ⟨o,es,ep,ho,r⟩:=hm
   exact ⟨o,es,ep,k _ o (Ne.symm hL) ho,r⟩
 · refine (I.hok b u e).stay (fun c v hc q=>k c v ?_ q) (fun _ q=>q) fun _ _ q=>q
   rcases hc with z | z
   · rw [z]; exact nit b u e
   · exact nit c _ z
theorem Inv.tok (I:Inv X pins σ H s) (t:Nat):Inv X pins σ H { s with toks:=t }:=I.un (h':=s.heap) (t':=t) Un.refl I.hok
theorem Inv.kept {t':Nat}(I:Inv X pins σ H s) (k:∀ b u,s.heap.get? b=some u→h'.get? b=some u):Inv X pins σ H { s with heap:=h',toks:=t' }:=I.un (Un.kept k) (I.hok.kept k)
theorem Inv.laid {a:Addr}{o:HO}{t':Nat}(I:Inv X pins σ H s) (k:∀ b u,s.heap.get? b=some u→h'.get? b=some u) (hp:s.heap.objs.size≤a) (new:ObjOk X.prog X.w (upd H a o) h' a o) :
 Inv X pins σ (upd H a o) { s with heap:=h',toks:=t' }:=I.un (Un.laid k hp (I.hok.fresh hp)) (I.hok.laid k hp new)
theorem Inv.write {x e:Addr}{o:HO}{t':Nat}(I:Inv X pins σ H s) (mu:Mut (H x)) (he:e=x∨H e=some (.own x)) (k:∀ b u,b≠e→s.heap.get? b=some u→h'.get? b=some u) (heo:∃ u,h'.get? e=some u)
 (new:ObjOk X.prog X.w (upd H x o) h' x o):Inv X pins σ (upd H x o) { s with heap:=h',toks:=t' }:=I.un (Un.write mu he k heo) (I.hok.write mu he k heo new)
theorem Inv.pins_of {pins':List (Addr×Obj)}(I:Inv X pins σ H s) (h:∀ p∈pins',s.heap.get? p.1=some p.2∧H p.1=none∧p.1≠X.env.locals∧p.1∉X.fs∧∀ v,p.2.data≠.cell v):Inv X pins' σ H s :=
 ⟨I.ok,I.os,I.bare,I.base,I.loc,I.cell,I.free,I.freeC,fun p hp=>(List.mem_append.mp hp).elim (fun z=>I.pin p (List.mem_append_left _ z)) (h p),I.hok,I.len⟩
theorem au2 {N:List Str}(hN:N.Nodup) {i j:Nat}{x:Str}(a:N[i]?=some x) (b:N[j]?=some x):i=j:=by
 obtain ⟨h1,e1⟩:=List.getElem?_eq_some_iff.mp a
 obtain ⟨h2,e2⟩:=List.getElem?_eq_some_iff.mp b
 exact (List.getElem_inj hN).mp (e1.trans e2.symm)
theorem ao1 {M:Model}{A:Around}{E:Value→Shared→Prop}{i:Nat}{x:Str}{v:V}{u:Value}{Q:Unit→Shared→Prop}(I:Inv X pins σ H s) (hN:X.N.Nodup) (hi:X.N[i]?=some x) (hx:Loc X.env.scope x) (r:RelV v u)
 (h:∀ s',Inv X pins (σ.set i (some v)) H s'→(∃ a,Heap.SameBut a s.heap s'.heap∧(a=X.env.locals∨X.env.cells.lookup x=some a))→Q () s') (hf:X.fn x=true∨X.env.scope.names.lookup x=some .local:=by first | exact .inl rfl | exact .inr rfl | assumption):wpAny M A (storeName X.env x u) Q E s:=by
 obtain ⟨m,hn,hl⟩:=id I.loc
 have hcls:(X.env.scope.kind == .class || (X.env.scope.kind == .module && X.env.locals != X.env.globals))=false:=by rw [I.ok.kind]; rfl
 have hiσ:i<σ.length:=by rw [I.len]; exact (List.getElem?_eq_some_iff.mp hi).1
 have cne:=I.cne
 have tracked:∀ {a:Addr}{h':Heap},(∃ o,s.heap.get? a=some o∧H a=none)→Heap.SameBut a s.heap h'→HOk X.prog X.w H h':=fun {a h'} ha hs b ob e=>by
  obtain ⟨_,_,hfree⟩:=ha
  refine (I.hok b ob e).stay (fun c w' hc q=>(hs.2 c ?_).trans q) (fun _ q=>q) fun _ _ q=>q
  rintro rfl
  rcases hc with rfl | hc
  · rw [hfree] at e; cases e
  · rw [hfree] at hc; cases hc
 rcases hx with hk | hk
 · refine wpAny_storeName_local hk hn (fun h' hn' hs=>?_) hcls
   obtain ⟨oL,_,_,hoL,_⟩:=id hn
   refine h _ ⟨I.ok,I.os,I.bare,⟨fun b o e n hb hx=>?_,fun b o e n hb hx=>?_,I.base.free,fun b o e hx=>?_,I.base.tups,I.base.frzs,I.base.tbls⟩,⟨_,hn',fun j y v' e1 e2 e3=>?_⟩,fun y c e=>?_,I.free,I.freeC,fun p hp=>?_,tracked ⟨oL,hoL,I.free⟩ hs,by simpa using I.len⟩ ⟨_,hs,.inl rfl⟩
   · exact (hs.2 b (Nat.ne_of_lt (Nat.lt_of_lt_of_le (Heap.lt_size e) I.ok.above))).trans (I.base.keep b o e n hb hx)
   · obtain ⟨sl,e1⟩:=I.base.slot b o e n hb hx
     exact ⟨sl,(hs.2 b (Nat.ne_of_lt (Nat.lt_of_lt_of_le (Heap.lt_size e) I.ok.above))).trans e1⟩
   · obtain ⟨o',e1⟩:=I.base.there b o e hx
     exact ⟨o',(hs.2 b (Nat.ne_of_lt (Nat.lt_of_lt_of_le (Heap.lt_size e) I.ok.above))).trans e1⟩
   · by_cases hj:j=i
     · subst hj
       rw [hi] at e1; cases e1
       rw [List.getElem?_set_self hiσ] at e2
       cases e2
       exact ⟨u,r,.inl ⟨hk,by simp⟩⟩
     · rw [List.getElem?_set_ne (Ne.symm hj)] at e2
       obtain ⟨u',r',q⟩:=hl j y v' e1 e2 e3
       refine ⟨u',r',?_⟩
       rcases q with ⟨k,e⟩ | ⟨k,c,e,z⟩
       · refine .inl ⟨k,?_⟩
         have:y≠x:=fun e=>hj (au2 hN e1 (e ▸ hi))
         simp [this,e]
       · exact .inr ⟨k,c,e,z.sameBut hs (cne y c e)⟩
   · obtain ⟨w',z⟩:=I.cell y c e
     exact ⟨w',z.sameBut hs (cne y c e)⟩
   · obtain ⟨e,n,ne,nf,d⟩:=I.pin p hp
     exact ⟨(hs.2 p.1 ne).trans e,n,ne,nf,d⟩
 · have hfn:X.fn x=true:=by
    rcases hf with z | z
    · exact z
    · rw [z] at hk; cases hk
   obtain ⟨c,hc⟩:=I.ok.has x (.inl hk)
   obtain ⟨w',z⟩:=I.cell x c hc
   refine wpAny_storeName_cell I.ok.kind hk hc z (fun h' hc' hs=>?_)
   obtain ⟨oc,hoc,hocd⟩:=id z
   refine h { s with heap:=h' } ⟨I.ok,I.os,I.bare,⟨fun b o e n hb hx=>?_,fun b o e n hb hx=>?_,I.base.free,fun b o e hx=>?_,I.base.tups,I.base.frzs,I.base.tbls⟩,⟨m,hn.sameBut hs (Ne.symm (cne x c hc)),fun j y v' e1 e2 e3=>?_⟩,fun y c' e=>?_,I.free,I.freeC,fun p hp=>?_,tracked ⟨oc,hoc,I.freeC x c hc⟩ hs,by simpa using I.len⟩ ⟨c,hs,.inr hc⟩
   · exact (hs.2 b (Nat.ne_of_lt (Nat.lt_of_lt_of_le (Heap.lt_size e) (I.ok.cab x c hfn hc)))).trans (I.base.keep b o e n hb hx)
   · obtain ⟨sl,e1⟩:=I.base.slot b o e n hb hx
     exact ⟨sl,(hs.2 b (Nat.ne_of_lt (Nat.lt_of_lt_of_le (Heap.lt_size e) (I.ok.cab x c hfn hc)))).trans e1⟩
   · obtain ⟨o',e1⟩:=I.base.there b o e hx
     exact ⟨o',(hs.2 b (Nat.ne_of_lt (Nat.lt_of_lt_of_le (Heap.lt_size e) (I.ok.cab x c hfn hc)))).trans e1⟩
   · by_cases hj:j=i
     · subst hj
       rw [hi] at e1; cases e1
       rw [List.getElem?_set_self hiσ] at e2
       cases e2
       exact ⟨u,r,.inr ⟨.inl hk,c,hc,hc'⟩⟩
     · rw [List.getElem?_set_ne (Ne.symm hj)] at e2
       obtain ⟨u',r',q⟩:=hl j y v' e1 e2 e3
       refine ⟨u',r',?_⟩
       rcases q with q | ⟨k,c',e,z'⟩
       · exact .inl q
       · refine .inr ⟨k,c',e,z'.sameBut hs ?_⟩
         rintro rfl
         exact hj (au2 hN e1 (I.ok.inj _ _ _ e hc ▸ hi))
   · by_cases hcc:c'=c
     · subst hcc; exact ⟨_,hc'⟩
     · obtain ⟨w2,z2⟩:=I.cell y c' e
       exact ⟨w2,z2.sameBut hs hcc⟩
   · obtain ⟨e,n,ne,nf,d⟩:=I.pin p hp
     refine ⟨(hs.2 p.1 ?_).trans e,n,ne,nf,d⟩
     intro q
     rw [q,hoc] at e
     have q':oc=p.2:=Option.some.inj e
     exact d w' (by rw [← q']; exact hocd)
theorem ak1 {M:Model}{A:Around}{E:Value→Shared→Prop}{i:Nat}{x:Str}{v:V}{u:Value}{Q:Unit→Shared→Prop}(I:Inv X pins σ H s) (hN:X.N.Nodup) (hi:X.N[i]?=some x) (hx:Loc X.env.scope x) (r:RelV v u)
 (h:∀ s',Inv X pins (σ.set i (some v)) H s'→Q () s') (hf:X.fn x=true∨X.env.scope.names.lookup x=some .local:=by first | exact .inl rfl | exact .inr rfl | assumption):wpAny M A (storeName X.env x u) Q E s :=
 ao1 I hN hi hx r (fun s' I' _=>h s' I') hf
theorem Inv.call' {s':Shared}{ch:List Addr}(I:Inv X pins σ H s) (ho:s'.os=s.os) (u:Un (frs X.stack) ch H H' s.heap s'.heap) (hok:HOk X.prog X.w H' s'.heap) (hg:AllBare s'.gens)
 (hch:∀ b∈ch,(b∈X.ex∨X.s₀.heap.objs.size≤b)∧b≠X.env.locals∧(∀ x c,X.env.cells.lookup x=some c→c≠b)∧∀ p∈X.pn++pins,p.1≠b):Inv X pins σ H' s':=by
 obtain ⟨h',g',d',t',o'⟩:=s'
 have e:o'=s.os:=ho
 subst e
 exact I.call (g':=g') (t':=t') (d':=d') u hok hg hch
end
abbrev XK:=Value→Option Addr→Hp→Prop
abbrev St:=List (Option V)
abbrev VK:=V→Hp→Prop
abbrev TE:=St→Hp→VK→Prop
abbrev TT:=St→Hp→(Bool→Hp→Prop)→Prop
abbrev TA:=St→Hp→(List V→Hp→Prop)→Prop
structure Ends where
 nx:St→Hp→Prop
 rt:VK
 bk:St→Hp→Prop:=fun _ _=>False
 ct:St→Hp→Prop:=fun _ _=>False
abbrev TS:=Ends→St→Hp→Prop
def EP (X:Cx) (pins:List (Addr×Obj)) (σ:St) (Q:VK) (u:Value) (s':Shared):Prop:=∃ v H',Inv X pins σ H' s'∧RelV v u∧Q v H'
def TP (X:Cx) (pins:List (Addr×Obj)) (σ:St) (Q:Bool→Hp→Prop) (b:Bool) (s':Shared):Prop:=∃ H',Inv X pins σ H' s'∧Q b H'
def AP (X:Cx) (pins:List (Addr×Obj)) (σ:St) (Q:List V→Hp→Prop) (us:List Value) (s':Shared):Prop:=∃ vs H',Inv X pins σ H' s'∧Vals vs us∧Q vs H'
def SP (X:Cx) (pins:List (Addr×Obj)) (D:Ends) (f:Flow) (s':Shared):Prop :=
 match f with
 | .next=>∃ σ' H',Inv X pins σ' H' s'∧D.nx σ' H'
 | .brk=>∃ σ' H',Inv X pins σ' H' s'∧D.bk σ' H'
 | .cont=>∃ σ' H',Inv X pins σ' H' s'∧D.ct σ' H'
 | .ret u=>∃ v σ' H',Inv X pins σ' H' s'∧RelV v u∧D.rt v H'
def PE (X:Cx) (e:Expr) (t:TE):Prop :=
 ∀ (pins:List (Addr×Obj)) (s:Shared) (σ:St) (H:Hp) (Q:VK),Inv X pins σ H s→t σ H Q→wpAny (model X.prog X.w) X.A (eval e X.env) (EP X pins σ Q) X.xe s
def PT (X:Cx) (e:Expr) (t:TT):Prop :=
 ∀ (pins:List (Addr×Obj)) (s:Shared) (σ:St) (H:Hp) (Q:Bool→Hp→Prop),Inv X pins σ H s→t σ H Q→wpAny (model X.prog X.w) X.A (isTrue e X.env (eval e X.env)) (TP X pins σ Q) X.xe s
def PW (X:Cx) (e:Expr) (t:TT):Prop :=
 ∀ (whole:Sem Value) (pins:List (Addr×Obj)) (s:Shared) (σ:St) (H:Hp) (Q:Bool→Hp→Prop),Inv X pins σ H s→t σ H Q→wpAny (model X.prog X.w) X.A (isTrue e X.env whole) (TP X pins σ Q) X.xe s
theorem PW.pt {X:Cx}{e:Expr}{t:TT}(h:PW X e t):PT X e t:=h _
def PA (X:Cx) (es:List Expr) (t:TA):Prop :=
 ∀ (pos:Pos) (pins:List (Addr×Obj)) (s:Shared) (σ:St) (H:Hp) (Q:List V→Hp→Prop),Inv X pins σ H s→t σ H Q→wpAny (model X.prog X.w) X.A (spliced (backTo pos (starEach es X.env))) (AP X pins σ Q) X.xe s
def PS (X:Cx) (st:Stmt) (t:TS):Prop :=
 ∀ (pins:List (Addr×Obj)) (s:Shared) (σ:St) (H:Hp) (D:Ends),Inv X pins σ H s→t D σ H→wpAny (model X.prog X.w) X.A (exec st X.env) (SP X pins D) X.xe s
def PSs (X:Cx) (st:List Stmt) (t:TS):Prop :=
 ∀ (pins:List (Addr×Obj)) (s:Shared) (σ:St) (H:Hp) (D:Ends),Inv X pins σ H s→t D σ H→wpAny (model X.prog X.w) X.A (execs st X.env) (SP X pins D) X.xe s
theorem thn {α:Type}{t:Sem α}{Q Q':α→Shared→Prop}{M:Model}{A:Around}{E:Value→Shared→Prop}{s:Shared}(h:wpAny M A t Q E s) (hQ:∀ a s,Q a s→Q' a s):wpAny M A t Q' E s:=wpAny_mono h hQ fun _ _ x=>x
section
variable {X:Cx}
def tVar (i:Nat):TE:=fun σ H Q=>∃ v,σ[i]?=some (some v)∧Q v H
def tC (v:V):TE:=fun _ H Q=>Q v H
theorem bf8 {i:Nat}{x:Str}{pos:Pos}(hN:X.N[i]?=some x) (hv:Vis X.env.scope x) (hd:(x == ("__debug__":Str))=false:=by decide) (hcd:(x == ("__classdict__":Str))=false:=by decide):PE X (.Name x pos) (tVar i):=by
 intro pins s σ H Q I h
 obtain ⟨v,e,h⟩:=h
 obtain ⟨m,hn,hl⟩:=I.loc
 obtain ⟨u,r,l⟩:=hl i x v hN e hv
 have fin:EP X pins σ Q u s:=⟨v,H,I,r,h⟩
 rcases l with ⟨hk,hm⟩ | ⟨hk,c,hc,hcell⟩
 · exact wpAny_Name (wpAny_loadName_local I.ok.kind hk hn hm fin) hd
 · rcases hk with hk | hk
   · exact wpAny_Name (wpAny_loadName_cell I.ok.kind hk hc hcell fin) hd
   · exact wpAny_Name (wpAny_loadName_free I.ok.kind hk hc hcell fin hcd) hd
theorem a02 {i j pos}:PE X (.Constant (.int i) j pos) (tC (.int i)):=fun _ _ _ H _ I h=>wpAny_Constant_int ⟨.int i,H,I.tok _,⟨_,rfl⟩,h⟩
theorem ab9 {b j pos}:PE X (.Constant (.bool b) j pos) (tC (.bl b)):=fun _ _ _ H _ I h=>Constant_bool ⟨.bl b,H,I,rfl,h⟩
theorem a89 {j pos}:PE X (.Constant .none j pos) (tC .non):=fun _ _ _ H _ I h=>Constant_none ⟨.non,H,I,rfl,h⟩
theorem ab7 {x j pos}:PE X (.Constant (.str x) j pos) (tC (.str x)):=fun _ _ _ H _ I h=>Calls.Constant_str ⟨.str x,H,I.tok _,⟨_,rfl⟩,h⟩
def Gl (X:Cx) (x:Str):Prop:=X.env.kindOf x=some .globalImplicit
theorem ay0 {E:Value→Shared→Prop}{pins:List (Addr×Obj)}{s:Shared}{σ:St} {H:Hp}{x:Str}{u:Value}{pos:Pos}{Q:Value→Shared→Prop}(I:Inv X pins σ H s) (hg:Gl X x) (hm:X.mg x=some u) (h:Q u s)
 (hd:(x == ("__debug__":Str))=false:=by decide):wpAny (model X.prog X.w) X.A (eval (.Name x pos) X.env) Q E s :=
 Calls.Name_function_global I.ok.kind hg (Calls.loadGlobal_global (by rw [I.ok.glob]; exact I.mod.glob.keeps I.bk) hm h) hd
theorem ai4 {E:Value→Shared→Prop}{pins:List (Addr×Obj)}{s:Shared}{σ:St} {H:Hp}{x:Str}{u:Value}{pos:Pos}{Q:Value→Shared→Prop}(I:Inv X pins σ H s) (hg:Gl X x) (hm:X.mg x=none) (hv:bootBuiltins x=some u) (h:Q u s)
 (hn:x≠"__name__":=by decide) (hd:(x == ("__debug__":Str))=false:=by decide):wpAny (model X.prog X.w) X.A (eval (.Name x pos) X.env) Q E s:=by
 obtain ⟨mb,h1,h2⟩:=I.mod.blt
 exact Calls.Name_function_global I.ok.kind hg (Calls.loadGlobal_builtin (by rw [I.ok.glob]; exact I.mod.glob.keeps I.bk) hm (by rw [I.ok.blt]; exact h1.keeps I.bk) ((h2 x hn).trans hv) h) hd
theorem ac0 {x:Str}{v:V}{u:Value}{pos:Pos}(hg:Gl X x) (hm:X.mg x=some u) (r:RelV v u) (hd:(x == ("__debug__":Str))=false:=by decide):PE X (.Name x pos) (tC v) :=
 fun _ _ _ H _ I h=>ay0 I hg hm ⟨v,H,I,r,h⟩ hd
theorem bb9 {x:Str}{v:V}{u:Value}{pos:Pos}(hg:Gl X x) (hm:X.mg x=none) (hv:bootBuiltins x=some u) (r:RelV v u) (hn:x≠"__name__":=by decide) (hd:(x == ("__debug__":Str))=false:=by decide):PE X (.Name x pos) (tC v) :=
 fun _ _ _ H _ I h=>ai4 I hg hm hv ⟨v,H,I,r,h⟩ hn hd
variable {a b:Expr}{ta tb:TE}{pos:Pos}
def tB (t:TE):TT:=fun σ H Q=>t σ H fun x H1=>∃ c,x=.bl c∧Q c H1
variable {tA tB':TT}{rest:List Expr}
def tAnd (t u:TT):TT:=fun σ H Q=>t σ H fun c H1=>if c=true then u σ H1 Q else Q false H1
def tOr (t u:TT):TT:=fun σ H Q=>t σ H fun c H1=>if c=true then Q true H1 else u σ H1 Q
def tNot (t:TT):TT:=fun σ H Q=>t σ H fun c H1=>Q (!c) H1
theorem ay1 (ha:PT X a tA):PW X (.BoolOp .And [a] pos) tA:=by
 intro wh pins s σ H Q I h
 refine isTrue_and (thn (ha pins s σ H Q I h) fun c s1 e=>?_)
 cases c with
 | true=>exact isTrue_and_nil e
 | false=>exact e
theorem aa4 (ha:PT X a tA):PW X (.BoolOp .Or [a] pos) tA:=by
 intro wh pins s σ H Q I h
 refine isTrue_or (thn (ha pins s σ H Q I h) fun c s1 e=>?_)
 cases c with
 | false=>exact isTrue_or_nil e
 | true=>exact e
theorem ba1 (ha:PT X a tA) (hb:PW X (.BoolOp .And (b::rest) pos) tB'):PW X (.BoolOp .And (a::b::rest) pos) (tAnd tA tB'):=by
 intro wh pins s σ H Q I h
 refine isTrue_and (thn (ha pins s σ H _ I h) fun c s1 ⟨H1,I1,q1⟩=>?_)
 cases c with
 | true=>exact hb wh pins s1 σ H1 Q I1 q1
 | false=>exact ⟨H1,I1,q1⟩
theorem aa6 (ha:PT X a tA) (hb:PW X (.BoolOp .Or (b::rest) pos) tB'):PW X (.BoolOp .Or (a::b::rest) pos) (tOr tA tB'):=by
 intro wh pins s σ H Q I h
 refine isTrue_or (thn (ha pins s σ H _ I h) fun c s1 ⟨H1,I1,q1⟩=>?_)
 cases c with
 | true=>exact ⟨H1,I1,q1⟩
 | false=>exact hb wh pins s1 σ H1 Q I1 q1
theorem ac1 (ha:PT X a tA):PT X (.UnaryOp .Not a pos) (tNot tA):=by
 intro pins s σ H Q I h
 exact isTrue_not (ha pins s σ H (fun c H1=>Q (!c) H1) I h)
def tAndV (ta tb:TE):TE:=fun σ H Q=>ta σ H fun x H1=>∃ c,x=.bl c∧if c=true then tb σ H1 Q else Q (.bl false) H1
theorem ba2 {op}{t:TE}(h:PE X a t):PE X (.BoolOp op [a] pos) t:=fun pins s σ H Q I hw=>BoolOp_one (h pins s σ H Q I hw)
theorem ba3 (ha:PE X a ta) (hb:PE X (.BoolOp .And (b::rest) pos) tb):PE X (.BoolOp .And (a::b::rest) pos) (tAndV ta tb):=by
 intro pins s σ H Q I h
 refine BoolOp_and (thn (ha pins s σ H _ I h) fun v s1 ⟨x,H1,I1,r1,q1⟩=>?_)
 obtain ⟨c,rfl,q1⟩:=q1
 cases r1
 refine wpAny_truthy_bool ?_
 cases c with
 | true=>exact hb pins s1 σ H1 Q I1 q1
 | false=>exact ⟨.bl false,H1,I1,rfl,q1⟩
def tIf (t:TT) (ta tb:TE):TE:=fun σ H Q=>t σ H fun c H1=>if c=true then ta σ H1 Q else tb σ H1 Q
theorem b68 {c:Expr}(hc:PT X c tA) (ha:PE X a ta) (hb:PE X b tb):PE X (.IfExp c a b pos) (tIf tA ta tb):=by
 intro pins s σ H Q I h
 refine wpAny_IfExp (thn (hc pins s σ H _ I h) fun d s1 ⟨H1,I1,q1⟩=>?_)
 cases d with
 | true=>exact ha pins s1 σ H1 Q I1 q1
 | false=>exact hb pins s1 σ H1 Q I1 q1
end
def SqL (K:PySem.W.Frag) (H:Hp) (a:Addr) (xs:List V):Prop :=
 Rd H a (.lst xs) ∨
  ∃ (o:Obj) (its:Array Value) (n:Nat),K.lookup a=some o∧o.cls=.type "list"∧o.dict=none∧o.data=.seq its n∧its.size≤sizeLine∧Vals xs its.toList
def SqT (K:PySem.W.Frag) (H:Hp) (a:Addr) (xs:List V):Prop :=
 Rd H a (.tup xs) ∨
  ∃ (o:Obj) (its:Array Value) (n:Nat),K.lookup a=some o∧o.cls=.type "tuple"∧o.data=.seq its n∧its.size≤sizeLine∧Vals xs its.toList
def absV:Value→Option V
 | .none=>some .non
 | .bool b=>some (.bl b)
 | .int i _=>some (.int i)
 | .str x _=>some (.str x)
 | .bytes b _=>some (.byt b)
 | .float b _=>some (.flt b)
 | .ref a=>some (.ref a)
 | .type n=>some (.ty n)
 | _=>none
theorem RelV.abs {x:V}{u:Value}(r:RelV x u):absV u=some x:=by
 cases x with
 | non=>cases r; rfl
 | bl _=>cases r; rfl
 | int _=>obtain ⟨t,rfl⟩:=r; rfl
 | str _=>obtain ⟨t,rfl⟩:=r; rfl
 | byt _=>obtain ⟨t,rfl⟩:=r; rfl
 | flt _=>obtain ⟨t,rfl⟩:=r; rfl
 | ref _=>cases r; rfl
 | ty _=>cases r; rfl
theorem RelV.inj {x y:V}{u:Value}(r:RelV x u) (q:RelV y u):x=y:=Option.some.inj (r.abs.symm.trans q.abs)
theorem Vals.inj:∀ {xs ys:List V}{us:List Value},Vals xs us→Vals ys us→xs=ys
 | _,_,_,.nil,.nil=>rfl
 | _,_,_,.cons r t,.cons r' t'=>by rw [r.inj r',Vals.inj t t']
section
variable {X:Cx}{pins:List (Addr×Obj)}{σ:St} {H:Hp}{s:Shared}{a:Addr}{xs ys:List V}
theorem SqL.of {K:PySem.W.Frag}(h:H a=some (.lst xs)):SqL K H a xs:=.inl (.inl h)
theorem SqT.of {K:PySem.W.Frag}(h:H a=some (.tup xs)):SqT K H a xs:=.inl (.inl h)
theorem Inv.list (I:Inv X pins σ H s) (h:SqL X.K H a xs):∃ its:List Value,Vals xs its∧PlainL s.heap a its.toArray∧xs.length≤sizeLine:=by
 rcases h with h | ⟨o,its,n,hk,hc,hd,hs,hz,r⟩
 · obtain ⟨z,its,n,r,e⟩:=h.ok I.hok
   exact ⟨its,r,⟨_,n,e,rfl,rfl,rfl⟩,z⟩
 · refine ⟨its.toList,r,⟨o,n,I.kIn a o hk,hc,hd,by simpa using hs⟩,?_⟩
   have e:=r.length
   simp only [Array.length_toList] at e
   omega
theorem Inv.tuple (I:Inv X pins σ H s) (h:SqT X.K H a xs):∃ its:List Value,Vals xs its∧IsTup s.heap a its.toArray∧xs.length≤sizeLine:=by
 rcases h with h | ⟨o,its,n,hk,hc,hs,hz,r⟩
 · obtain ⟨z,its,r,p⟩:=h.ok I.hok
   exact ⟨its,r,p,z⟩
 · refine ⟨its.toList,r,⟨o,I.kIn a o hk,hc,n,by simpa using hs⟩,?_⟩
   have e:=r.length
   simp only [Array.length_toList] at e
   omega
theorem Inv.list_inj (I:Inv X pins σ H s) (h:SqL X.K H a xs) (h':SqL X.K H a ys):xs=ys:=by
 obtain ⟨its,r,⟨o,n,e,_,_,d⟩,_⟩:=I.list h
 obtain ⟨its',r',⟨o',n',e',_,_,d'⟩,_⟩:=I.list h'
 rw [e] at e'; cases e'
 rw [d] at d'
 injection d' with d1 _
 have:its=its':=by simpa using congrArg Array.toList d1
 subst this
 exact r.inj r'
end
abbrev Cx.wish (X:Cx) (E:Value→Shared→Prop):Cx:={ X with xe:=E }
abbrev Cx.nox (X:Cx):Cx:=X.wish fun _ _=>False
theorem Cx.Ok.wish {X:Cx}(ok:X.Ok) (E:Value→Shared→Prop):(X.wish E).Ok :=
 ⟨ok.mod,ok.kind,ok.glob,ok.blt,ok.above,ok.inj,ok.has,ok.cab,ok.hd,ok.frames,ok.stk,ok.exf,ok.bs,ok.bsz,ok.noex,ok.exfs,ok.funs,ok.frf⟩
theorem Cx.Ok.unwish {X:Cx}{E:Value→Shared→Prop}(ok:(X.wish E).Ok):X.Ok :=
 ⟨ok.mod,ok.kind,ok.glob,ok.blt,ok.above,ok.inj,ok.has,ok.cab,ok.hd,ok.frames,ok.stk,ok.exf,ok.bs,ok.bsz,ok.noex,ok.exfs,ok.funs,ok.frf⟩
section
variable {X:Cx}{pins:List (Addr×Obj)}{σ:St} {H:Hp}{s:Shared}{E:Value→Shared→Prop}
theorem Inv.wish (I:Inv X pins σ H s) (E:Value→Shared→Prop):Inv (X.wish E) pins σ H s:=⟨I.ok.wish E,I.os,I.bare,I.base,I.loc,I.cell,I.free,I.freeC,I.pin,I.hok,I.len⟩
theorem Inv.unwish (I:Inv (X.wish E) pins σ H s):Inv X pins σ H s:=⟨I.ok.unwish,I.os,I.bare,I.base,I.loc,I.cell,I.free,I.freeC,I.pin,I.hok,I.len⟩
theorem SP.unwish {D:Ends}{f:Flow}{s':Shared}(h:SP (X.wish E) pins D f s'):SP X pins D f s':=by
 cases f with
 | next=>obtain ⟨σ',H',I,q⟩:=h; exact ⟨σ',H',I.unwish,q⟩
 | brk=>obtain ⟨σ',H',I,q⟩:=h; exact ⟨σ',H',I.unwish,q⟩
 | cont=>obtain ⟨σ',H',I,q⟩:=h; exact ⟨σ',H',I.unwish,q⟩
 | ret u=>obtain ⟨v,σ',H',I,r,q⟩:=h; exact ⟨v,σ',H',I.unwish,r,q⟩
theorem PSs.nox {st:List Stmt}{t:TS}(h:PSs X.nox st t):PSs X st t:=fun pins s σ H D I hw =>
 wpAny_mono (h pins s σ H D (I.wish _) hw) (fun _ _ q=>q.unwish) fun _ _ z=>False.elim z
end
section
variable {X:Cx}{st:Stmt}{rest:List Stmt}{t u:TS}{e:Expr}{te:TE}{pos:Pos}
def tNext:TS:=fun D σ H=>D.nx σ H
def tSeq (t u:TS):TS:=fun D σ H=>t { D with nx:=u D } σ H
theorem a35:PSs X [] tNext:=fun _ _ σ H _ I h=>wpAny_execs_nil ⟨σ,H,I,h⟩
theorem a03 (h1:PS X st t) (h2:PSs X rest u):PSs X (st::rest) (tSeq t u):=by
 intro pins s σ H D I h
 refine wpAny_execs_cons (thn (h1 pins s σ H { D with nx:=u D } I h) fun f s1 q=>?_)
 cases f with
 | next =>
   obtain ⟨σ',H',I',q⟩:=q
   exact h2 pins s1 σ' H' D I' q
 | ret v=>exact q
 | brk=>exact q
 | cont=>exact q
theorem a07 (h1:PS X st t):PSs X [st] t:=by
 intro pins s σ H D I h
 refine wpAny_execs_cons (thn (h1 pins s σ H D I h) fun f s1 q=>?_)
 cases f with
 | next=>exact wpAny_execs_nil q
 | ret v=>exact q
 | brk=>exact q
 | cont=>exact q
theorem Inv.quiet {pins:List (Addr×Obj)}{σ:St} {H:Hp}{s:Shared}(I:Inv X pins σ H s):interactive X.env=false:=by simp [interactive,I.ok.kind]
def tDrop (te:TE):TS:=fun D σ H=>te σ H fun _ H1=>D.nx σ H1
theorem aa9 (he:PE X e te) (hs:swapsWith e none pos.line X.env=pure false:=by rfl):PS X (.Expr e pos) (tDrop te):=by
 intro pins s σ H D I h
 exact wpAny_Expr_any (thn (he pins s σ H _ I h) fun v s1 ⟨x,H1,I1,r1,q1⟩=>⟨σ,H1,I1,q1⟩) I.quiet hs
def tRet (te:TE):TS:=fun D σ H=>te σ H D.rt
theorem a32 (he:PE X e te):PS X (.Return (some e) pos) (tRet te):=by
 intro pins s σ H D I h
 exact wpAny_Return_some (thn (he pins s σ H _ I h) fun v s1 ⟨x,H1,I1,r1,q1⟩=>⟨x,σ,H1,I1,r1,q1⟩)
def tIfS (c:TT) (t u:TS):TS:=fun D σ H=>c σ H fun b H1=>if b=true then t D σ H1 else u D σ H1
theorem a76 {c:Expr}{a b:List Stmt}{tc:TT}(hc:PT X c tc) (ha:PSs X a t) (hb:PSs X b u):PS X (.If c a b pos) (tIfS tc t u):=by
 intro pins s σ H D I h
 refine wpAny_If (thn (hc pins s σ H _ I h) fun d s1 ⟨H1,I1,q1⟩=>?_)
 cases d with
 | true=>exact ha pins s1 σ H1 D I1 q1
 | false=>exact hb pins s1 σ H1 D I1 q1
end
abbrev TG:=V→St→Hp→(St→Hp→Prop)→Prop
abbrev TGs:=List V→St→Hp→(St→Hp→Prop)→Prop
def PG (X:Cx) (target:Expr) (t:TG):Prop :=
 ∀ (pins:List (Addr×Obj)) (s:Shared) (σ:St) (H:Hp) (v:V) (u:Value) (Q:St→Hp→Prop),Inv X pins σ H s→RelV v u→t v σ H Q →
  wpAny (model X.prog X.w) X.A (assign target X.env u) (fun _ s'=>∃ σ' H',Inv X pins σ' H' s'∧Q σ' H') X.xe s
def PGs (X:Cx) (ts:List Expr) (t:TGs):Prop :=
 ∀ (pins:List (Addr×Obj)) (s:Shared) (σ:St) (H:Hp) (vs:List V) (us:List Value) (Q:St→Hp→Prop),Inv X pins σ H s→Vals vs us→t vs σ H Q →
  wpAny (model X.prog X.w) X.A (assignInOrder ((assignEach ts X.env).map (·.2)) us) (fun _ s'=>∃ σ' H',Inv X pins σ' H' s'∧Q σ' H') X.xe s
abbrev TSet:=V→V→V→Hp→(Hp→Prop)→Prop
def PSet (X:Cx) (t:TSet):Prop :=
 ∀ (pins:List (Addr×Obj)) (s:Shared) (σ:St) (H:Hp) (o i v:V) (ov iv u:Value) (Q:Hp→Prop),Inv X pins σ H s→RelV o ov→RelV i iv→RelV v u→t o i v H Q →
  wpAny (model X.prog X.w) X.A (setItem ov iv u) (fun _ s'=>∃ H',Inv X pins σ H' s'∧Q H') X.xe s
abbrev TIp:=V→V→Hp→VK→Prop
def PIp (X:Cx) (op:Operator) (t:TIp):Prop :=
 ∀ (pins:List (Addr×Obj)) (s:Shared) (σ:St) (H:Hp) (x y:V) (v u:Value) (Q:VK),Inv X pins σ H s→RelV x v→RelV y u→t x y H Q →
  wpAny (model X.prog X.w) X.A (inplaceOp op v u) (EP X pins σ Q) X.xe s
section
variable {X:Cx}{pos:Pos}
def gName (i:Nat):TG:=fun v σ H Q=>Q (σ.set i (some v)) H
theorem a27 {i:Nat}{x:Str}(hN:X.N.Nodup) (hi:X.N[i]?=some x) (hx:Loc X.env.scope x) (hf:X.fn x=true∨X.env.scope.names.lookup x=some .local:=by first | exact .inl rfl | exact .inr rfl | assumption):PG X (.Name x pos) (gName i):=by
 intro pins s σ H v u Q I r h
 exact wpAny_assign_Name (ak1 I hN hi hx r (fun s' I'=>⟨_,H,I',h⟩) hf)
def gNil:TGs:=fun vs σ H Q=>vs=[]∧Q σ H
def gCons (t:TG) (u:TGs):TGs:=fun vs σ H Q=>∃ v r,vs=v::r∧t v σ H fun σ' H'=>u r σ' H' Q
theorem aa5:PGs X [] gNil:=by
 intro pins s σ H vs us Q I r h
 obtain ⟨e,h⟩:=h
 subst e
 cases r
 exact assignInOrder_nil ⟨σ,H,I,h⟩
theorem a44 {e:Expr}{es:List Expr}{t:TG}{u:TGs}(h1:PG X e t) (h2:PGs X es u)
 (hs:(assignEach (e::es) X.env).map (·.2)=assign e X.env::(assignEach es X.env).map (·.2):=by rfl):PGs X (e::es) (gCons t u):=by
 intro pins s σ H vs us Q I r h
 obtain ⟨v,vr,e1,h⟩:=h
 subst e1
 cases r with
 | cons r rr =>
   rw [hs]
   refine assignInOrder_cons (thn (h1 pins s σ H _ _ _ I r h) fun _ s1 ⟨σ1,H1,I1,q1⟩=>?_)
   exact h2 pins s1 σ1 H1 _ _ Q I1 rr q1
def gTup (K:PySem.W.Frag) (n:Nat) (t:TGs):TG:=fun v σ H Q=>∃ a xs,v=.ref a∧SqT K H a xs∧xs.length=n∧t xs σ H Q
theorem bf9 {es:List Expr}{k:Nat}{t:TGs}{n:Nat}(hc:X.calm=true) (h:PGs X es t)
 (hn:(assignEach es X.env).length=n:=by rfl) (hst:(assignEach es X.env).findIdx? (·.1)=none:=by rfl):PG X (.Tuple es k pos) (gTup X.K n t):=by
 intro pins s σ H v u Q I r hw
 obtain ⟨a,xs,e1,hq,hl,hw⟩:=hw
 subst e1
 cases r
 obtain ⟨its,rv,ht,hz⟩:=I.tuple hq
 refine assign_Tuple_tuple (I.ok.hd hc) ht (by simp [hn,←hl,rv.length]) hst fun h' hx=>?_
 have I1:Inv X pins σ H { s with heap:=h' }:=I.kept (t':=s.toks) fun b o e=>hx b o (Nat.ne_of_lt (Heap.lt_size e)) e
 exact h pins _ σ H xs _ Q I1 (by simpa using rv) hw
def gSub (to ti:TE) (t:TSet):TG:=fun v σ H Q=>to σ H fun o H1=>ti σ H1 fun i H2=>t o i v H2 fun H3=>Q σ H3
theorem au3 {o i:Expr}{to ti:TE}{t:TSet}(ho:PE X o to) (hi:PE X i ti) (hs:PSet X t)
 (ha:∀ v,assign (.Subscript o i pos) X.env v=(do
  let ov←holding [v] (eval o X.env)
  let iv←holding [v,ov] (eval i X.env)
  standAt pos
  holding [v,ov,iv] (setItem ov iv v)
  release [v,ov,iv] []):=by intro _; rfl):PG X (.Subscript o i pos) (gSub to ti t):=by
 intro pins s σ H v u Q I r h
 rw [ha]
 refine wpAny_bind (wpAny_holding (thn (ho pins s σ H _ I h) fun ov s1 ⟨x,H1,I1,r1,q1⟩=>?_))
 refine wpAny_bind (wpAny_holding (thn (hi pins s1 σ H1 _ I1 q1) fun iv s2 ⟨y,H2,I2,r2,q2⟩=>?_))
 refine wpAny_bind (wpAny_standAt (wpAny_bind (wpAny_holding (thn (hs pins s2 σ H2 x y v ov iv u _ I2 r1 r2 r q2) fun _ s3 ⟨H3,I3,q3⟩=>?_))))
 exact wpAny_release ⟨σ,H3,I3,q3⟩
def tAsg (te:TE) (g:TG):TS:=fun D σ H=>te σ H fun x H1=>g x σ H1 D.nx
theorem ai5 {tg e:Expr}{te:TE}{g:TG}(he:PE X e te) (hg:PG X tg g) (hs:swapsWithSole [tg] e pos.line X.env=pure false:=by rfl) (hw:swappedStores [tg] e X.env=pure none:=by rfl)
 (h1:(assignEach [tg] X.env).map (·.2)=[assign tg X.env]:=by rfl):PS X (.Assign [tg] e pos) (tAsg te g):=by
 intro pins s σ H D I h
 refine wpAny_Assign_stores (thn (he pins s σ H _ I h) fun v s1 ⟨x,H1,I1,r1,q1⟩=>?_) hs hw
 rw [h1]
 exact thn (hg pins s1 σ H1 x v _ I1 r1 q1) fun _ s2 q=>q
theorem a34 {i:Nat}{x:Str}{e:Expr}{te:TE}{pos':Pos}(hN:X.N.Nodup) (hi:X.N[i]?=some x) (hx:Loc X.env.scope x) (he:PE X e te) (hs:swapsWith e (some (.Name x pos')) pos.line X.env=pure false:=by rfl) (hf:X.fn x=true∨X.env.scope.names.lookup x=some .local:=by first | exact .inl rfl | exact .inr rfl | assumption) :
 PS X (.Assign [.Name x pos'] e pos) (tAsg te (gName i)):=by
 intro pins s σ H D I h
 refine wpAny_Assign_Name (thn (he pins s σ H _ I h) fun v s1 ⟨y,H1,I1,r1,q1⟩=>?_) hs
 exact ak1 I1 hN hi hx r1 (fun s2 I2=>⟨_,H1,I2,q1⟩) hf
def tAug (i:Nat) (te:TE) (ti:TIp):TS:=fun D σ H=>∃ x,σ[i]?=some (some x)∧te σ H fun y H1=>ti x y H1 fun z H2=>D.nx (σ.set i (some z)) H2
theorem bg0 {i:Nat}{x:Str}{e:Expr}{te:TE}{op:Operator}{ti:TIp}{pos':Pos}(hN:X.N.Nodup) (hi:X.N[i]?=some x) (hx:Loc X.env.scope x) (he:PE X e te) (ho:PIp X op ti) (hf:X.fn x=true∨X.env.scope.names.lookup x=some .local:=by first | exact .inl rfl | exact .inr rfl | assumption) :
 PS X (.AugAssign (.Name x pos') op e pos) (tAug i te ti):=by
 intro pins s σ H D I h
 obtain ⟨v,e1,h⟩:=h
 obtain ⟨m,hn,hl⟩:=I.loc
 have vis:Vis X.env.scope x:=by rcases hx with k | k; exact .inl k; exact .inr (.inl k)
 obtain ⟨u,r,l⟩:=hl i x v hi e1 vis
 refine wpAny_AugAssign_Name ?_
 have go:wpAny (model X.prog X.w) X.A (eval e X.env) (fun w s₂=>wpAny (model X.prog X.w) X.A (inplaceOp op u w) (fun r s₃=>wpAny (model X.prog X.w) X.A (storeName X.env x r) (fun _=>SP X pins D .next) X.xe s₃) X.xe s₂) X.xe s:=by
  refine thn (he pins s σ H _ I h) fun w s1 ⟨y,H1,I1,r1,q1⟩=>?_
  refine thn (ho pins s1 σ H1 v y u w _ I1 r r1 q1) fun z s2 ⟨zv,H2,I2,r2,q2⟩=>?_
  exact ak1 I2 hN hi hx r2 (fun s3 I3=>⟨_,H2,I3,q2⟩) hf
 rcases l with ⟨hk,hm⟩ | ⟨hk,c,hc,hcell⟩
 · exact wpAny_loadName_local I.ok.kind hk hn hm go
 · rcases hk with hk | hk
   · exact wpAny_loadName_cell I.ok.kind hk hc hcell go
   · rcases hx with k | k
     · have:X.env.scope.names.lookup x=some .free:=hk
       rw [k] at this; cases this
     · have:X.env.scope.names.lookup x=some .free:=hk
       rw [k] at this; cases this
def ipI (f:Int→Int→Int):TIp:=fun x y H Q=>∃ i j,x=.int i∧y=.int j∧Q (.int (f i j)) H
theorem bg1:PIp X .Add (ipI fun i j=>i+j):=by
 intro pins s σ H x y v u Q I r1 r2 h
 obtain ⟨i,j,e1,e2,q⟩:=h
 subst e1; subst e2
 obtain ⟨t,rfl⟩:=r1
 obtain ⟨t',rfl⟩:=r2
 exact iadd_int ⟨.int _,H,I.tok _,⟨_,rfl⟩,q⟩
end
section
variable {X:Cx}{pos:Pos}
def tWhile (c:TT) (tb:TS):TS:=fun D σ H=>∃ W:Nat→St→Hp→Prop,(∃ m,W m σ H)∧∀ m σ H,W m σ H →
 c σ H fun b H1=>if b=true then ∃ N:St→Hp→Prop,(∀ σ' H',N σ' H'→∃ m',m'<m∧W m' σ' H')∧tb { D with nx:=N,ct:=N,bk:=D.nx } σ H1 else D.nx σ H1
theorem au4 {c:Expr}{body:List Stmt}{tc:TT}{tb:TS}(hp:PassesOwn (model X.prog X.w) X.A X.env X.xe) (hc:PT X c tc) (hb:PSs X body tb):PS X (.While c body [] pos) (tWhile tc tb):=by
 intro pins s σ H D I h
 obtain ⟨W,⟨m0,w0⟩,turn⟩:=h
 refine wpAny_While (codeAny_whileLoop (fun n s'=>∃ σ' H',Inv X pins σ' H' s'∧W n σ' H') ?_ m0 ⟨σ,H,I,w0⟩)
 rintro n s1 ⟨σ1,H1,I1,w1⟩
 refine wpAny_passesOwn hp (thn (hc pins s1 σ1 H1 _ I1 (turn n σ1 H1 w1)) fun b s2 ⟨H2,I2,q2⟩=>?_)
 cases b with
 | true =>
   obtain ⟨N,hN,q2⟩:=q2
   rw [if_pos rfl]
   refine wpAny_passesOwn hp (thn (hb pins s2 σ1 H2 _ I2 q2) fun f s3 q3=>?_)
   cases f with
   | next =>
     obtain ⟨σ3,H3,I3,n3⟩:=q3
     obtain ⟨m',hm,w3⟩:=hN σ3 H3 n3
     exact ⟨m',hm,σ3,H3,I3,w3⟩
   | cont =>
     obtain ⟨σ3,H3,I3,n3⟩:=q3
     obtain ⟨m',hm,w3⟩:=hN σ3 H3 n3
     exact ⟨m',hm,σ3,H3,I3,w3⟩
   | brk=>exact q3
   | ret v=>exact q3
 | false =>
   rw [if_neg Bool.false_ne_true]
   exact wpAny_execs_nil ⟨σ1,H2,I2,q2⟩
end
structure It where
 go:Nat→Hp→Prop
 yld:Nat→Hp→V→Hp→Prop
 stop:Nat→Hp→Prop
def FpOk (X:Cx) (pins:List (Addr×Obj)) (H:Hp) (b:Addr):Prop :=
 H b=none∧b≠X.env.locals∧b∉X.fs∧(b∈X.ex∨X.s₀.heap.objs.size≤b)∧(∀ x c,X.env.cells.lookup x=some c→c≠b)∧∀ p∈X.pn++pins,p.1≠b
theorem Inv.fpOk {X:Cx}{pins:List (Addr×Obj)}{σ:St} {H H':Hp}{s:Shared}{b:Addr}(I:Inv X pins σ H s) (hb:s.heap.objs.size≤b) (hn:H' b=none):FpOk X pins H' b:=by
 refine ⟨hn,Nat.ne_of_gt (Nat.lt_of_lt_of_le I.lt hb),I.nofs hb,.inr (Nat.le_trans I.sz hb),fun x c e z=>?_,fun p hp z=>?_⟩
 · obtain ⟨v,q⟩:=I.cell x c e
   exact absurd (Nat.lt_of_lt_of_le q.lt (by rw [z]; exact hb)) (Nat.lt_irrefl _)
 · exact absurd (Nat.lt_of_lt_of_le (Heap.lt_size (I.pin p hp).1) (by rw [z]; exact hb)) (Nat.lt_irrefl _)
structure Turn (P:Program) (w:World) (K:PySem.W.Frag) (tg:Expr) (J:It) (fp:List Addr) (it:Addr) (tn:Nat→Heap→Prop):Prop where
 mem:it∈fp
 obj:∀ i h,tn i h→∀ b∈fp,∃ o,h.get? b=some o∧∀ v,o.data≠.cell v
 keep:∀ i h h',tn i h→(∀ b∈fp,∀ o,h.get? b=some o→h'.get? b=some o)→tn i h'
 item:∀ (X:Cx),X.prog=P→X.w=w→X.K=K→X.calm=true→∀ (i:Nat) (pins:List (Addr×Obj)) (s:Shared) (σ:St) (H:Hp) (E:Value→Shared→Prop),Inv X pins σ H s→(∀ b∈fp,FpOk X pins H b)→tn i s.heap→J.go i H →
  wpAny (model P w) X.A (pyNext (.ref it)) (fun r s1=>∃ u,r=some u ∧
   wpAny (model P w) X.A (letOwnedTupleGo tg (.ref it) u) (fun _ s2=>∃ x H',Inv X pins σ H' s2∧RelV x u∧J.yld i H x H'∧tn (i+1) s2.heap∧∀ b∈fp,H' b=none) E s1) E s
 done:∀ (X:Cx),X.prog=P→X.w=w→X.K=K→X.calm=true→∀ (i:Nat) (pins:List (Addr×Obj)) (s:Shared) (σ:St) (H:Hp) (E:Value→Shared→Prop),Inv X pins σ H s→(∀ b∈fp,FpOk X pins H b)→tn i s.heap→J.stop i H →
  wpAny (model P w) X.A (pyNext (.ref it)) (fun r s1=>r=none∧Inv X pins σ H s1) E s
 self:∀ (A:Around) (i:Nat) (s:Shared) (Q:Value→Shared→Prop) (E:Value→Shared→Prop),tn i s.heap→Q (.ref it) s→wpAny (model P w) A (pyIter (.ref it)) Q E s
abbrev TI:=St→Hp→(It→Hp→Prop)→Prop
def PIE (X:Cx) (pins:List (Addr×Obj)) (σ:St) (tg:Expr) (R:It→Hp→Prop) (itv:Value) (s2:Shared):Prop :=
 ∃ (it:Addr) (fp:List Addr) (tn:Nat→Heap→Prop) (J:It) (H':Hp),itv=.ref it∧Inv X pins σ H' s2∧Turn X.prog X.w X.K tg J fp it tn∧tn 0 s2.heap∧(∀ b∈fp,FpOk X pins H' b)∧R J H'
def PI (X:Cx) (tg iter:Expr) (wi:TI):Prop :=
 ∀ (pins:List (Addr×Obj)) (s:Shared) (σ:St) (H:Hp) (R:It→Hp→Prop),Inv X pins σ H s→wi σ H R →
  wpAny (model X.prog X.w) X.A (eval iter X.env) (fun v s1=>wpAny (model X.prog X.w) X.A (pyIter v) (PIE X pins σ tg R) X.xe s1) X.xe s
theorem bc0 {M:Model}{A:Around}{E:Value→Shared→Prop}{s:Shared}{tg:Expr}{it:Addr}{u:Value}{o:Obj}{n:String}{vs:Array Value}{Q:Unit→Shared→Prop}(ho:s.heap.get? it=some o) (hc:o.cls=.type n) (hd:o.data=.fields vs)
 (hn:["enumerate","zip","dict_itemiterator","dict_reverseitemiterator","odict_iterator","itertools.zip_longest","itertools.pairwise"].contains n=false) (hQ:Q () s):wpAny M A (letOwnedTupleGo tg (.ref it) u) Q E s:=by
 unfold letOwnedTupleGo
 cases tg <;> first
  | exact wpAny_pure hQ
  | (cases u <;> first
   | exact wpAny_pure hQ
   | (refine wpAny_bind (wpAny_load ho ?_)
      rw [hc,hd]
      show wpAny M A (if (["enumerate","zip","dict_itemiterator","dict_reverseitemiterator","odict_iterator","itertools.zip_longest","itertools.pairwise"].contains n && vs[0]? == some (rawInt _))=true then _ else _) Q E s
      rw [if_neg (by intro h; rw [hn,Bool.false_and] at h; cases h)]
      exact wpAny_pure hQ))
def Itl (K:PySem.W.Frag) (a:Addr):It :=
 ⟨fun i H=>∃ xs x,SqL K H a xs∧xs[i]?=some x,fun i H x H'=>H'=H∧∀ xs,SqL K H a xs→xs[i]?=some x,fun i H=>∃ xs,SqL K H a xs∧xs.length≤i⟩
def Itr (lo:Int) (n:Nat):It:=⟨fun i _=>i<n,fun i H x H'=>H'=H∧x=.int (lo+i),fun i _=>n≤i⟩
theorem ay2 {P:Program}{w:World}{K:PySem.W.Frag}{tg:Expr}(a it:Addr):Turn P w K tg (Itl K a) [it] it (fun i h=>h.IsListIter it a i) where
 mem:=by simp
 obj:=fun i h st b hb=>by
  have e:b=it:=by simpa using hb
  subst e
  obtain ⟨o,e,c,d⟩:=st
  exact ⟨o,e,fun v z=>by rw [d] at z; cases z⟩
 keep:=fun i h h' st k=>st.at fun o e=>k it (by simp) o e
 item:=by
  intro X hP hw hK hc i pins s σ H E I hf st hg
  subst hP hw hK
  obtain ⟨xs,x,hq,hx⟩:=hg
  obtain ⟨its,rv,p,hz⟩:=I.list hq
  obtain ⟨u,hu,ru⟩:=rv.get hx
  obtain ⟨f0,f1,f2,f3,f4,f5⟩:=hf it (by simp)
  refine wpAny_pyNext_list_item st p.isList (x:=u) (by simpa using hu) fun h' st' sb=>?_
  have I1:Inv X pins σ H { s with heap:=h' }:=I.turned (t':=s.toks) (fun b o hb e=>(sb.2 b hb).trans e) f0 f1 f3 f4 f5
  obtain ⟨o,e,c,d⟩:=id st'
  exact ⟨u,rfl,bc0 (s:={ s with heap:=h' }) e c d (by decide) ⟨x,H,I1,ru,⟨rfl,fun ys hy=>by rw [I.list_inj hy hq]; exact hx⟩,st',fun b hb=>(hf b hb).1⟩⟩
 done:=by
  intro X hP hw hK hc i pins s σ H E I hf st hg
  subst hP hw hK
  obtain ⟨xs,hq,hx⟩:=hg
  obtain ⟨its,rv,p,hz⟩:=I.list hq
  obtain ⟨f0,f1,f2,f3,f4,f5⟩:=hf it (by simp)
  have hl:=rv.length
  exact wpAny_pyNext_list_end (I.ok.hd hc) st p.isList (by simp; omega) fun h' eb=>⟨rfl,I.turned (t':=s.toks) (fun b o hb e=>eb b o hb e) f0 f1 f3 f4 f5⟩
 self:=fun _ _ _ _ _ st h=>wpAny_pyIter_listiter st h
theorem aw1 {P:Program}{w:World}{K:PySem.W.Frag}{tg:Expr}(it:Addr) (lo:Int) (n:Nat):Turn P w K tg (Itr lo n) [it] it (fun i h=>IsRangeIter h it (lo+(i:Nat)*1) ((n:Int) - (i:Nat)) 1) where
 mem:=by simp
 obj:=fun i h st b hb=>by
  have e:b=it:=by simpa using hb
  subst e
  exact ⟨_,st,fun v z=>by
   have z':Data.fields _=Data.cell v:=z
   cases z'⟩
 keep:=fun i h h' st k=>k it (by simp) _ st
 item:=by
  intro X hP hw hK hc i pins s σ H E I hf st hg
  subst hP hw hK
  obtain ⟨f0,f1,f2,f3,f4,f5⟩:=hf it (by simp)
  have W:=Walks.range (prog:=X.prog) (w:=X.w) (I.ok.hd hc) it lo 1 n
  refine W.item i s _ _ hg st fun v h' tk hv st' kk=>?_
  obtain ⟨t,rfl⟩:=hv
  have I1:Inv X pins σ H { s with heap:=h',toks:=tk }:=I.turned (fun b o hb e=>kk b o (by simpa using hb) e) f0 f1 f3 f4 f5
  refine ⟨_,rfl,bc0 (s:={ s with heap:=h',toks:=tk }) (n:="range_iterator") st' rfl rfl (by decide) ⟨.int (lo+i),H,I1,⟨t,?_⟩,⟨rfl,rfl⟩,st',fun b hb=>(hf b hb).1⟩⟩
  rw [Int.mul_one]
 done:=by
  intro X hP hw hK hc i pins s σ H E I hf st hg
  subst hP hw hK
  obtain ⟨f0,f1,f2,f3,f4,f5⟩:=hf it (by simp)
  exact wpAny_pyNext_range_end (I.ok.hd hc) st (by have:n≤i:=hg; omega) fun h' eb=>⟨rfl,I.turned (t':=s.toks) (fun b o hb e=>eb b o hb e) f0 f1 f3 f4 f5⟩
 self:=fun _ _ _ _ _ st h=>wpAny_pyIter_rangeiter st h
section
variable {X:Cx}{tg:Expr}
def iList (K:PySem.W.Frag) (tl:TE):TI:=fun σ H R=>tl σ H fun x H1=>∃ a,x=.ref a∧(∃ xs,SqL K H1 a xs)∧R (Itl K a) H1
theorem bc1 {l:Expr}{tl:TE}(hl:PE X l tl):PI X tg l (iList X.K tl):=by
 intro pins s σ H R I h
 refine thn (hl pins s σ H _ I h) fun v s1 ⟨x,H1,I1,r1,q1⟩=>?_
 obtain ⟨a,e,⟨xs,hq⟩,q⟩:=q1
 subst e
 cases r1
 obtain ⟨its,rv,p,hz⟩:=I1.list hq
 refine wpAny_pyIter_list p.isList ?_
 refine ⟨s1.heap.objs.size,[s1.heap.objs.size],_,_,H1,rfl,I1.kept (t':=s1.toks) fun b o e=>Heap.get?_push_of_some _ e,ay2 a _,⟨_,Heap.get?_push_size _ rfl,rfl,rfl⟩,fun b hb=>?_,q⟩
 have e:b=s1.heap.objs.size:=by simpa using hb
 subst e
 exact I1.fpOk (Nat.le_refl _) (I1.hok.fresh (Nat.le_refl _))
theorem b69 {pins:List (Addr×Obj)}{σ:St} {H:Hp}{s:Shared}{R:It→Hp→Prop}{E:Value→Shared→Prop}{lo hi:Int}{t u v:Tok}{tk:Nat}(I:Inv X pins σ H s) (h1:-(2 ^ 62)≤lo) (h2:lo<2 ^ 62) (h3:-(2 ^ 62)≤hi) (h4:hi<2 ^ 62)
 (q:R (Itr lo (hi - lo).toNat) H):wpAny (model X.prog X.w) X.A (pyIter (.ref s.heap.objs.size)) (PIE X pins σ tg R) E { s with heap:=s.heap.push { cls:=.type "range",data:=.fields #[.int lo t,.int hi u,.int 1 v] },toks:=tk }:=by
 refine wpAny_pyIter_range (IsRange.new ..) (small_one h1 h2 h3 h4) ?_
 have I1:Inv X pins σ H { s with heap:=s.heap.push { cls:=.type "range",data:=.fields #[.int lo t,.int hi u,.int 1 v] },toks:=tk }:=I.kept fun b o e=>Heap.get?_push_of_some _ e
 refine ⟨(s.heap.push { cls:=.type "range",data:=.fields #[.int lo t,.int hi u,.int 1 v] }).objs.size,[(s.heap.push { cls:=.type "range",data:=.fields #[.int lo t,.int hi u,.int 1 v] }).objs.size],_,_,H,rfl,
  I1.kept (t':=tk) fun b o e=>Heap.get?_push_of_some _ e,aw1 _ lo (hi - lo).toNat,?_,fun b hb=>?_,q⟩
 · have e1:lo+((0:Nat):Int)*1=lo:=by simp
   have e2:(((hi - lo).toNat:Nat):Int) - ((0:Nat):Int)=Builtin.Range.rangeSize lo hi 1:=by rw [rangeSize_one]; split <;> omega
   show IsRangeIter _ _ (lo+((0:Nat):Int)*1) ((((hi - lo).toNat:Nat):Int) - ((0:Nat):Int)) 1
   rw [e1,e2]
   exact Heap.get?_push_size _ rfl
 · have e:b=(s.heap.push { cls:=.type "range",data:=.fields #[.int lo t,.int hi u,.int 1 v] }).objs.size:=by simpa using hb
   subst e
   exact I1.fpOk (Nat.le_refl _) (I1.hok.fresh (Nat.le_refl _))
def bg2 (ta:TA):TI:=fun σ H R=>ta σ H fun vs H1=>∃ j:Int,vs=[.int j]∧-(2 ^ 62)≤j∧j<2 ^ 62∧R (Itr 0 j.toNat) H1
theorem aa1 {a:Expr}{ta:TA}{p pos:Pos}(hg:Gl X "range") (hm:X.mg "range"=none) (ha:PA X [a] ta) (hs:starEach [a] X.env=[(false,eval a X.env)]:=by rfl):PI X tg (.Call (.Name "range" p) [a] [] pos) (bg2 ta):=by
 intro pins s σ H R I h
 refine Call_ (ai4 I hg hm boot_range (PyProof.Rows.callWith_type1 (thn (ha pos pins s σ H _ I h) fun us s1 ⟨vs,H1,I1,r1,q1⟩=>?_) hs rfl))
 obtain ⟨j,e,q1,q2,q⟩:=q1
 subst e
 cases r1 with
 | cons r rr =>
   cases rr
   obtain ⟨t,rfl⟩:=r
   exact call_range_1 (b69 I1 (by omega) (by omega) q1 q2 (by simpa using q))
def tFor (wi:TI) (g:TG) (tb:TS):TS:=fun D σ H=>wi σ H fun J H1=>∃ W:Nat→Nat→St→Hp→Prop,(∃ m,W 0 m σ H1)∧∀ i m σ H,W i m σ H →
 (J.stop i H∧D.nx σ H)∨(J.go i H∧∃ N:St→Hp→Prop,(∀ σ' H',N σ' H'→∃ m',m'<m∧W (i+1) m' σ' H')∧∀ x H',J.yld i H x H'→g x σ H' fun σ2 H2=>tb { D with nx:=N,ct:=N,bk:=D.nx } σ2 H2)
def pinsAt (fp:List Addr) (h:Heap):List (Addr×Obj):=fp.filterMap fun b=>(h.get? b).map fun o=>(b,o)
theorem ad1 {fp:List Addr}{h:Heap}{b:Addr}{o:Obj}(hb:b∈fp) (e:h.get? b=some o):(b,o)∈pinsAt fp h:=List.mem_filterMap.mpr ⟨b,hb,by rw [e]; rfl⟩
theorem ay3 {fp:List Addr}{h:Heap}{p:Addr×Obj}(hp:p∈pinsAt fp h):p.1∈fp∧h.get? p.1=some p.2:=by
 obtain ⟨b,hb,e⟩:=List.mem_filterMap.mp hp
 cases q:h.get? b with
 | none=>rw [q] at e; cases e
 | some o =>
   rw [q] at e
   have e':(b,o)=p:=Option.some.inj e
   subst e'
   exact ⟨hb,q⟩
theorem Inv.pinned {pins:List (Addr×Obj)}{σ:St} {H:Hp}{s:Shared}{fp:List Addr}(I:Inv X pins σ H s) (hf:∀ b∈fp,FpOk X pins H b) (ho:∀ b∈fp,∃ o,s.heap.get? b=some o∧∀ v,o.data≠.cell v):Inv X (pins++pinsAt fp s.heap) σ H s :=
 I.pins_of fun p hp=>(List.mem_append.mp hp).elim (fun z=>I.pin p (List.mem_append_right _ z)) fun z=>by
  obtain ⟨hb,e⟩:=ay3 z
  obtain ⟨f0,f1,f2,_⟩:=hf p.1 hb
  obtain ⟨o,e',d⟩:=ho p.1 hb
  rw [e] at e'; cases e'
  exact ⟨e,f0,f1,f2,d⟩
theorem Inv.unpinned {pins pl:List (Addr×Obj)}{σ:St} {H:Hp}{s:Shared}(I:Inv X (pins++pl) σ H s):Inv X pins σ H s:=I.pins_of fun p hp=>I.pin p (List.mem_append_right _ (List.mem_append_left _ hp))
theorem a98 {iter:Expr}{body:List Stmt}{wi:TI}{g:TG}{tb:TS}{pos:Pos}(hp:PassesOwn (model X.prog X.w) X.A X.env X.xe) (hc:X.calm=true) (hi:PI X tg iter wi) (hg:PG X tg g) (hb:PSs X body tb)
 (hs:∀ x,foldedSetIterable iter X.env x=pure x:=by intro _; rfl):PS X (.For tg iter body [] pos) (tFor wi g tb):=by
 intro pins s σ H D I h
 refine wpAny_For (thn (hi pins s σ H _ I h) fun v s1 h1=>thn h1 fun itv s2 h2=>?_) hs
 obtain ⟨it,fp,tn,J,H2,e,I2,T,st2,f2,W,⟨m0,w0⟩,turn⟩:=h2
 subst e
 have stat:∀ {H':Hp},(∀ b∈fp,H' b=none)→∀ b∈fp,FpOk X pins H' b:=fun hn b hb=>⟨hn b hb,(f2 b hb).2⟩
 refine codeAny_forLoop_any (fun n s'=>∃ i σ' H',Inv X pins σ' H' s'∧tn i s'.heap∧(∀ b∈fp,H' b=none)∧W i n σ' H') ?_ m0 ⟨0,σ,H2,I2,st2,fun b hb=>(f2 b hb).1,w0⟩
 rintro n s3 ⟨i,σ3,H3,I3,st3,fr3,w3⟩
 rcases turn i n σ3 H3 w3 with ⟨stop,qn⟩ | ⟨go,N,hN,step⟩
 · refine wpAny_passesOwn hp (thn (T.done X rfl rfl rfl hc i pins s3 σ3 H3 X.xe I3 (stat fr3) st3 stop) fun r s4 ⟨hr,I4⟩=>?_)
   subst hr
   exact wpAny_execs_nil ⟨σ3,H3,I4,qn⟩
 · refine wpAny_passesOwn hp (thn (T.item X rfl rfl rfl hc i pins s3 σ3 H3 X.xe I3 (stat fr3) st3 go) fun r s4 ⟨u,hr,h4⟩=>?_)
   subst hr
   refine wpAny_passesOwn hp (thn h4 fun _ s5 ⟨x,H5,I5,r5,y5,st5,fr5⟩=>?_)
   have I5':=I5.pinned (stat fr5) (T.obj _ _ st5)
   refine wpAny_passesOwn hp (thn (hg _ s5 σ3 H5 x u _ I5' r5 (step x H5 y5)) fun _ s6 ⟨σ6,H6,I6,q6⟩=>?_)
   refine wpAny_passesOwn hp (thn (hb _ s6 σ6 H6 _ I6 q6) fun f s7 q7=>?_)
   have again:∀ {σ7:St} {H7:Hp},Inv X (pins++pinsAt fp s5.heap) σ7 H7 s7→N σ7 H7→∃ m,m<n∧∃ i σ' H',Inv X pins σ' H' s7∧tn i s7.heap∧(∀ b∈fp,H' b=none)∧W i m σ' H':=fun {σ7 H7} I7 n7=>by
    obtain ⟨m',hm,w7⟩:=hN σ7 H7 n7
    refine ⟨m',hm,i+1,σ7,H7,I7.unpinned,T.keep _ _ _ st5 fun b hb o e=>(I7.pin (b,o) (List.mem_append_right _ (List.mem_append_right _ (ad1 hb e)))).1,fun b hb=>?_,w7⟩
    obtain ⟨o,e,d⟩:=T.obj _ _ st5 b hb
    exact (I7.pin (b,o) (List.mem_append_right _ (List.mem_append_right _ (ad1 hb e)))).2.1
   cases f with
   | next=>obtain ⟨σ7,H7,I7,n7⟩:=q7; exact again I7 n7
   | cont=>obtain ⟨σ7,H7,I7,n7⟩:=q7; exact again I7 n7
   | brk=>obtain ⟨σ7,H7,I7,q7⟩:=q7; exact ⟨σ7,H7,I7.unpinned,q7⟩
   | ret v=>obtain ⟨x7,σ7,H7,I7,r7,q7⟩:=q7; exact ⟨x7,σ7,H7,I7.unpinned,r7,q7⟩
end
theorem a94 {K:PySem.W.Frag}{a:Addr}{xs:List V}{g:TG}{tb:TS}{D:Ends}{σ:St} {H:Hp}(Pv:Nat→St→Hp→Prop) (h0:Pv 0 σ H) (hl:∀ i σ H,i≤xs.length→Pv i σ H→SqL K H a xs)
 (hs:∀ i x σ H,xs[i]?=some x→Pv i σ H→g x σ H fun σ2 H2=>tb { D with nx:=Pv (i+1),ct:=Pv (i+1),bk:=D.nx } σ2 H2) (hd:∀ σ H,Pv xs.length σ H→D.nx σ H) :
 ∃ W:Nat→Nat→St→Hp→Prop,(∃ m,W 0 m σ H)∧∀ i m σ H,W i m σ H →
  ((Itl K a).stop i H∧D.nx σ H)∨((Itl K a).go i H∧∃ N:St→Hp→Prop,(∀ σ' H',N σ' H'→∃ m',m'<m∧W (i+1) m' σ' H')∧∀ x H',(Itl K a).yld i H x H'→g x σ H' fun σ2 H2=>tb { D with nx:=N,ct:=N,bk:=D.nx } σ2 H2):=by
 refine ⟨fun i m σ H=>m=xs.length - i∧i≤xs.length∧Pv i σ H,⟨xs.length,by simp,Nat.zero_le _,h0⟩,?_⟩
 rintro i m σ H ⟨rfl,hi,p⟩
 have q:=hl i σ H hi p
 by_cases hlt:i<xs.length
 · refine .inr ⟨⟨xs,xs[i],q,by simp [hlt]⟩,Pv (i+1),fun σ' H' p'=>⟨xs.length - (i+1),by omega,rfl,hlt,p'⟩,fun x H' y=>?_⟩
   obtain ⟨e,y⟩:=y
   subst e
   exact hs i x σ _ (y xs q) p
 · have e:i=xs.length:=by omega
   subst e
   exact .inl ⟨⟨xs,q,Nat.le_refl _⟩,hd σ H p⟩
theorem ad9 {lo:Int}{n:Nat}{g:TG}{tb:TS}{D:Ends}{σ:St} {H:Hp}(Pv:Nat→St→Hp→Prop) (h0:Pv 0 σ H)
 (hs:∀ i σ H,i<n→Pv i σ H→g (.int (lo+i)) σ H fun σ2 H2=>tb { D with nx:=Pv (i+1),ct:=Pv (i+1),bk:=D.nx } σ2 H2) (hd:∀ σ H,Pv n σ H→D.nx σ H) :
 ∃ W:Nat→Nat→St→Hp→Prop,(∃ m,W 0 m σ H)∧∀ i m σ H,W i m σ H →
  ((Itr lo n).stop i H∧D.nx σ H)∨((Itr lo n).go i H∧∃ N:St→Hp→Prop,(∀ σ' H',N σ' H'→∃ m',m'<m∧W (i+1) m' σ' H')∧∀ x H',(Itr lo n).yld i H x H'→g x σ H' fun σ2 H2=>tb { D with nx:=N,ct:=N,bk:=D.nx } σ2 H2):=by
 refine ⟨fun i m σ H=>m=n - i∧i≤n∧Pv i σ H,⟨n,by simp,Nat.zero_le _,h0⟩,?_⟩
 rintro i m σ H ⟨rfl,hi,p⟩
 by_cases hlt:i<n
 · refine .inr ⟨hlt,Pv (i+1),fun σ' H' p'=>⟨n - (i+1),by omega,rfl,hlt,p'⟩,fun x H' y=>?_⟩
   obtain ⟨e,y⟩:=y
   subst e y
   exact hs i σ _ hlt p
 · have e:i=n:=by omega
   subst e
   exact .inl ⟨Nat.le_refl _,hd σ H p⟩
abbrev R2:=V→V→Hp→VK→Prop
def OpR (X:Cx) (f:Value→Value→Sem Value) (r:R2):Prop :=
 ∀ (pins:List (Addr×Obj)) (s:Shared) (σ:St) (H:Hp) (x y:V) (v u:Value) (Q:VK),Inv X pins σ H s→RelV x v→RelV y u→r x y H Q →
  wpAny (model X.prog X.w) X.A (f v u) (EP X pins σ Q) X.xe s
def UnR (X:Cx) (f:Value→Sem Value) (r:V→Hp→VK→Prop):Prop :=
 ∀ (pins:List (Addr×Obj)) (s:Shared) (σ:St) (H:Hp) (x:V) (v:Value) (Q:VK),Inv X pins σ H s→RelV x v→r x H Q →
  wpAny (model X.prog X.w) X.A (f v) (EP X pins σ Q) X.xe s
def CallR (X:Cx) (f:Value) (r:List V→Hp→VK→Prop):Prop :=
 ∀ (pins:List (Addr×Obj)) (s:Shared) (σ:St) (H:Hp) (xs:List V) (us:List Value) (Q:VK),Inv X pins σ H s→Vals xs us→r xs H Q →
  wpAny (model X.prog X.w) X.A (call f us) (EP X pins σ Q) X.xe s
def TruR (X:Cx) (r:V→Hp→(Bool→Hp→Prop)→Prop):Prop :=
 ∀ (pins:List (Addr×Obj)) (s:Shared) (σ:St) (H:Hp) (x:V) (v:Value) (Q:Bool→Hp→Prop),Inv X pins σ H s→RelV x v→r x H Q →
  wpAny (model X.prog X.w) X.A (truthy v) (TP X pins σ Q) X.xe s
def tOp (r:R2) (ta tb:TE):TE:=fun σ H Q=>ta σ H fun x H1=>tb σ H1 fun y H2=>r x y H2 Q
def tUn (r:V→Hp→VK→Prop) (ta:TE):TE:=fun σ H Q=>ta σ H fun x H1=>r x H1 Q
def rI (C:Int→Int→Prop) (g:Int→Int→V):R2:=fun x y H Q=>∃ i j,x=.int i∧y=.int j∧C i j∧Q (g i j) H
def rI0 (g:Int→Int→V):R2:=fun x y H Q=>∃ i j,x=.int i∧y=.int j∧Q (g i j) H
def rU (g:Int→V):V→Hp→VK→Prop:=fun x H Q=>∃ i,x=.int i∧Q (g i) H
section
variable {X:Cx}{a b c:Expr}{ta tb tc:TE}{pos:Pos}
theorem binT (ha:PE X a ta) (hb:PE X b tb) {pins:List (Addr×Obj)}{s:Shared}{σ:St} {H:Hp}{R:V→V→Hp→Prop}(I:Inv X pins σ H s)
 (h:ta σ H fun x H1=>tb σ H1 fun y H2=>R x y H2) {Q:Value→Shared→Prop}{f:Value→Value→Sem Value}
 (hf:∀ v u s2 x y H2,Inv X pins σ H2 s2→RelV x v→RelV y u→R x y H2→wpAny (model X.prog X.w) X.A (f v u) Q X.xe s2) :
 wpAny (model X.prog X.w) X.A (eval a X.env) (fun v s₁=>wpAny (model X.prog X.w) X.A (eval b X.env) (fun u s₂=>wpAny (model X.prog X.w) X.A (f v u) Q X.xe s₂) X.xe s₁) X.xe s:=by
 refine thn (ha pins s σ H _ I h) fun v s1 ⟨x,H1,I1,r1,q1⟩=>?_
 refine thn (hb pins s1 σ H1 _ I1 q1) fun u s2 ⟨y,H2,I2,r2,q2⟩=>?_
 exact hf v u s2 x y H2 I2 r1 r2 q2
theorem a31 {op:Operator}{r:R2}(ho:OpR X (binaryOp op) r) (ha:PE X a ta) (hb:PE X b tb):PE X (.BinOp a op b pos) (tOp r ta tb):=by
 intro pins s σ H Q I h
 exact wpAny_BinOp (binT ha hb I h fun v u s2 x y H2 I2 rx ry q=>ho pins s2 σ H2 x y v u Q I2 rx ry q)
theorem ao2 {op:UnaryOp}{r:V→Hp→VK→Prop}(ho:UnR X (unaryOp op) r) (ha:PE X a ta):PE X (.UnaryOp op a pos) (tUn r ta):=by
 intro pins s σ H Q I h
 exact UnaryOp_ (thn (ha pins s σ H _ I h) fun v s1 ⟨x,H1,I1,r1,q1⟩=>ho pins s1 σ H1 x v Q I1 r1 q1)
theorem opI {f:Value→Value→Sem Value}{C:Int→Int→Prop}{g:Int→Int→Int}
 (rule:∀ (i j:Int) (t u:Tok) (s:Shared) (Q:Value→Shared→Prop) (E:Value→Shared→Prop),C i j→Q (.int (g i j) s.toks) { s with toks:=s.toks+1 }→wpAny (model X.prog X.w) X.A (f (.int i t) (.int j u)) Q E s) :
 OpR X f (rI C fun i j=>.int (g i j)):=by
 intro pins s σ H x y v u Q I rx ry h
 obtain ⟨i,j,rfl,rfl,hc,q⟩:=h
 obtain ⟨t,rfl⟩:=rx
 obtain ⟨t',rfl⟩:=ry
 exact rule i j t t' s _ _ hc ⟨.int (g i j),H,I.tok _,⟨_,rfl⟩,q⟩
theorem opI0 {f:Value→Value→Sem Value}{g:Int→Int→Int}
 (rule:∀ (i j:Int) (t u:Tok) (s:Shared) (Q:Value→Shared→Prop) (E:Value→Shared→Prop),Q (.int (g i j) s.toks) { s with toks:=s.toks+1 }→wpAny (model X.prog X.w) X.A (f (.int i t) (.int j u)) Q E s) :
 OpR X f (rI0 fun i j=>.int (g i j)):=by
 intro pins s σ H x y v u Q I rx ry h
 obtain ⟨i,j,rfl,rfl,q⟩:=h
 obtain ⟨t,rfl⟩:=rx
 obtain ⟨t',rfl⟩:=ry
 exact rule i j t t' s _ _ ⟨.int (g i j),H,I.tok _,⟨_,rfl⟩,q⟩
theorem opB0 {f:Value→Value→Sem Value}{g:Int→Int→Bool}
 (rule:∀ (i j:Int) (t u:Tok) (s:Shared) (Q:Value→Shared→Prop) (E:Value→Shared→Prop),Q (.bool (g i j)) s→wpAny (model X.prog X.w) X.A (f (.int i t) (.int j u)) Q E s) :
 OpR X f (rI0 fun i j=>.bl (g i j)):=by
 intro pins s σ H x y v u Q I rx ry h
 obtain ⟨i,j,rfl,rfl,q⟩:=h
 obtain ⟨t,rfl⟩:=rx
 obtain ⟨t',rfl⟩:=ry
 exact rule i j t t' s _ _ ⟨.bl (g i j),H,I,rfl,q⟩
def CDiv (i j:Int):Prop:=0<j∧j<1073741824
def CPow (i j:Int):Prop:=0≤j∧j≤1000000∧i.natAbs<2 ^ 64
def CMul (i j:Int):Prop:=(-(2 ^ 64)<i∧i<2 ^ 64)∨(-(2 ^ 64)<j∧j<2 ^ 64)
theorem CMul.ok {i j:Int}(h:CMul i j):IntMulOk i j:=by
 rcases h with ⟨h1,h2⟩ | ⟨h1,h2⟩
 · exact .of_left (intBits_le_64 h1 h2)
 · exact .of_right (intBits_le_64 h1 h2)
theorem bg3:OpR X (binaryOp .Add) (rI0 fun i j=>.int (i+j)):=opI0 fun _ _ _ _ _ _ _ q=>add_int q
theorem ay4:OpR X (binaryOp .Sub) (rI0 fun i j=>.int (i - j)):=opI0 fun _ _ _ _ _ _ _ q=>sub_int q
theorem ac3:OpR X (binaryOp .FloorDiv) (rI CDiv fun i j=>.int (i / j)):=opI fun i j _ _ _ _ _ hc q=>by
 have h1:(0:Int)<j:=hc.1
 have h2:j<1073741824:=hc.2
 exact floordiv_int (by omega) (by rw [Int.fdiv_eq_ediv_of_nonneg i (by omega)]; exact q) (.inl (PyProof.noPylong_small (by omega)))
theorem aa7:OpR X (binaryOp .Mod) (rI (fun _ j=>0<j) fun i j=>.int (i % j)):=opI fun i j _ _ _ _ _ hc q=>by
 have h1:(0:Int)<j:=hc
 exact mod_int' (by omega) (by rw [Int.fmod_eq_emod_of_nonneg i (by omega)]; exact q)
theorem bg4:OpR X (binaryOp .Pow) (rI CPow fun i j=>.int (i ^ j.toNat)):=opI fun _ _ _ _ _ _ _ hc q=>pow_int_small hc.1 hc.2.1 hc.2.2 q
theorem unI {f:Value→Sem Value}{g:Int→Int}
 (rule:∀ (i:Int) (t:Tok) (s:Shared) (Q:Value→Shared→Prop) (E:Value→Shared→Prop),Q (.int (g i) s.toks) { s with toks:=s.toks+1 }→wpAny (model X.prog X.w) X.A (f (.int i t)) Q E s) :
 UnR X f (rU fun i=>.int (g i)):=by
 intro pins s σ H x v Q I rx h
 obtain ⟨i,rfl,q⟩:=h
 obtain ⟨t,rfl⟩:=rx
 exact rule i t s _ _ ⟨.int (g i),H,I.tok _,⟨_,rfl⟩,q⟩
theorem ag0:UnR X (unaryOp .USub) (rU fun i=>.int (-i)):=unI fun _ _ _ _ _ q=>neg_int q
end
def scal:V→V→Bool
 | .non,.non=>true | .non,.int _=>true | .int _,.non=>true | .non,.bl _=>true | .bl _,.non=>true | .non,.str _=>true | .str _,.non=>true
 | .int _,.int _=>true | .bl _,.bl _=>true | .str _,.str _=>true | .byt _,.byt _=>true
 | .int _,.str _=>true | .str _,.int _=>true | .bl _,.str _=>true | .str _,.bl _=>true
 | _,_=>false
def rEq:R2:=fun x y H Q=>scal x y=true∧Q (.bl (decide (x=y))) H
def rNe:R2:=fun x y H Q=>scal x y=true∧Q (.bl (!decide (x=y))) H
theorem ay5 {i j:Int}:decide (V.int i=V.int j)=(i == j):=by
 rw [Bool.eq_iff_iff]
 simp
theorem ba4 {i j:Bool}:decide (V.bl i=V.bl j)=(i == j):=by
 rw [Bool.eq_iff_iff]
 simp
theorem ay6 {i j:Str}:decide (V.str i=V.str j)=(i == j):=by
 rw [Bool.eq_iff_iff]
 simp
theorem ay7 {i j:Array UInt8}:decide (V.byt i=V.byt j)=(i.toList == j.toList):=by
 rw [Bool.eq_iff_iff]
 cases i
 cases j
 simp
section
variable {X:Cx}{a b c:Expr}{ta tb tc:TE}{pos:Pos}
theorem a60 {pins:List (Addr×Obj)}{σ:St} {H:Hp}{s:Shared}{Q:VK}{k k':Bool}(I:Inv X pins σ H s) (q:Q (.bl k) H) (e:k=k'):EP X pins σ Q (.bool k') s:=by
 subst e
 exact ⟨.bl k,H,I,rfl,q⟩
theorem af1:OpR X (compareOp .Eq) rEq:=by
 intro pins s σ H x y v u Q I rx ry h
 obtain ⟨hs,q⟩:=h
 cases x with
 | non =>
   cases rx
   cases y with
   | non=>cases ry; exact PySem.EqNone.eq_none_none (a60 I q (by simp))
   | bl j=>cases ry; exact PySem.EqNone.eq_none_bool (a60 I q (by simp))
   | int j=>obtain ⟨t',rfl⟩:=ry; exact PySem.EqNone.eq_none_int (a60 I q (by simp))
   | str j=>obtain ⟨t',rfl⟩:=ry; exact PySem.EqNone.eq_none_str (a60 I q (by simp))
   | _=>exact absurd (show false=true from hs) Bool.false_ne_true
 | bl i =>
   cases rx
   cases y with
   | non=>cases ry; exact PySem.EqNone.eq_bool_none (a60 I q (by simp))
   | bl j=>cases ry; exact eq_bool (a60 I q ba4)
   | str j=>obtain ⟨t',rfl⟩:=ry; exact PySem.EqMixed.eq_bool_str (a60 I q (by simp))
   | _=>exact absurd (show false=true from hs) Bool.false_ne_true
 | int i =>
   obtain ⟨t,rfl⟩:=rx
   cases y with
   | non=>cases ry; exact PySem.EqNone.eq_int_none (a60 I q (by simp))
   | int j=>obtain ⟨t',rfl⟩:=ry; exact eq_int (a60 I q ay5)
   | str j=>obtain ⟨t',rfl⟩:=ry; exact PySem.EqMixed.eq_int_str (a60 I q (by simp))
   | _=>exact absurd (show false=true from hs) Bool.false_ne_true
 | str i =>
   obtain ⟨t,rfl⟩:=rx
   cases y with
   | non=>cases ry; exact PySem.EqNone.eq_str_none (a60 I q (by simp))
   | bl j=>cases ry; exact PySem.EqMixed.eq_str_bool (a60 I q (by simp))
   | int j=>obtain ⟨t',rfl⟩:=ry; exact PySem.EqMixed.eq_str_int (a60 I q (by simp))
   | str j=>obtain ⟨t',rfl⟩:=ry; exact eq_str (a60 I q ay6)
   | _=>exact absurd (show false=true from hs) Bool.false_ne_true
 | byt i =>
   obtain ⟨t,rfl⟩:=rx
   cases y with
   | byt j=>obtain ⟨t',rfl⟩:=ry; exact PySem.W.eq_bytes (a60 I q ay7)
   | _=>exact absurd (show false=true from hs) Bool.false_ne_true
 | _=>cases y <;> exact absurd (show false=true from hs) Bool.false_ne_true
theorem ar6:OpR X (compareOp .NotEq) rNe:=by
 intro pins s σ H x y v u Q I rx ry h
 obtain ⟨hs,q⟩:=h
 cases x with
 | non =>
   cases rx
   cases y with
   | non=>cases ry; exact PySem.EqNone.ne_none_none (a60 I q (by simp))
   | bl j=>cases ry; exact PySem.EqNone.ne_none_bool (a60 I q (by simp))
   | int j=>obtain ⟨t',rfl⟩:=ry; exact PySem.EqNone.ne_none_int (a60 I q (by simp))
   | str j=>obtain ⟨t',rfl⟩:=ry; exact PySem.EqNone.ne_none_str (a60 I q (by simp))
   | _=>exact absurd (show false=true from hs) Bool.false_ne_true
 | bl i =>
   cases rx
   cases y with
   | non=>cases ry; exact PySem.EqNone.ne_bool_none (a60 I q (by simp))
   | bl j=>cases ry; exact ne_bool (a60 I q (congrArg not ba4))
   | str j=>obtain ⟨t',rfl⟩:=ry; exact PySem.EqMixed.ne_bool_str (a60 I q (by simp))
   | _=>exact absurd (show false=true from hs) Bool.false_ne_true
 | int i =>
   obtain ⟨t,rfl⟩:=rx
   cases y with
   | non=>cases ry; exact PySem.EqNone.ne_int_none (a60 I q (by simp))
   | int j=>obtain ⟨t',rfl⟩:=ry; exact ne_int (a60 I q (congrArg not ay5))
   | str j=>obtain ⟨t',rfl⟩:=ry; exact PySem.EqMixed.ne_int_str (a60 I q (by simp))
   | _=>exact absurd (show false=true from hs) Bool.false_ne_true
 | str i =>
   obtain ⟨t,rfl⟩:=rx
   cases y with
   | non=>cases ry; exact PySem.EqNone.ne_str_none (a60 I q (by simp))
   | bl j=>cases ry; exact PySem.EqMixed.ne_str_bool (a60 I q (by simp))
   | int j=>obtain ⟨t',rfl⟩:=ry; exact PySem.EqMixed.ne_str_int (a60 I q (by simp))
   | str j=>obtain ⟨t',rfl⟩:=ry; exact ne_str (a60 I q (congrArg not ay6))
   | _=>exact absurd (show false=true from hs) Bool.false_ne_true
 | byt i =>
   obtain ⟨t,rfl⟩:=rx
   cases y with
   | byt j=>obtain ⟨t',rfl⟩:=ry; exact PySem.W.ne_bytes (a60 I q (congrArg not ay7))
   | _=>exact absurd (show false=true from hs) Bool.false_ne_true
 | _=>cases y <;> exact absurd (show false=true from hs) Bool.false_ne_true
theorem ad3:OpR X (compareOp .Lt) (rI0 fun i j=>.bl (decide (i<j))):=opB0 fun _ _ _ _ _ _ _ q=>lt_int q
theorem ak2:OpR X (compareOp .LtE) (rI0 fun i j=>.bl (decide (i≤j))):=opB0 fun _ _ _ _ _ _ _ q=>le_int q
theorem bg5:OpR X (compareOp .Gt) (rI0 fun i j=>.bl (decide (j<i))):=opB0 fun _ _ _ _ _ _ _ q=>gt_int q
theorem ak3:OpR X (compareOp .GtE) (rI0 fun i j=>.bl (decide (j≤i))):=opB0 fun _ _ _ _ _ _ _ q=>ge_int q
theorem bg6:OpR X (compareOp .Is) (fun x y H Q=>y=.non∧Q (.bl (decide (x=.non))) H):=by
 intro pins s σ H x y v u Q I rx ry h
 obtain ⟨rfl,q⟩:=h
 cases ry
 refine is_none_gen (a60 I q ?_)
 cases x <;> first
  | (cases rx; rfl)
  | (obtain ⟨t,rfl⟩:=rx; rfl)
theorem bc2:OpR X (compareOp .IsNot) (fun x y H Q=>y=.non∧Q (.bl (!decide (x=.non))) H):=by
 intro pins s σ H x y v u Q I rx ry h
 obtain ⟨rfl,q⟩:=h
 cases ry
 refine isnot_none_gen (a60 I q ?_)
 cases x <;> first
  | (cases rx; rfl)
  | (obtain ⟨t,rfl⟩:=rx; rfl)
theorem nomark (b:Expr) {op:CmpOp}(h:op≠.In:=by decide) (h2:op≠.NotIn:=by decide):behindInMarks op b=false:=by
 have e1:(op == CmpOp.In)=false:=by cases op <;> first | rfl | exact absurd rfl h
 have e2:(op == CmpOp.NotIn)=false:=by cases op <;> first | rfl | exact absurd rfl h2
 cases b <;> simp [behindInMarks,e1,e2]
theorem af2 {op:CmpOp}{r:R2}(ho:OpR X (compareOp op) r) (ha:PE X a ta) (hb:PE X b tb) (hm:behindInMarks op b=false):PE X (.Compare a [op] [b] pos) (tOp r ta tb):=by
 intro pins s σ H Q I h
 exact wpAny_Compare1 (binT ha hb I h fun v u s2 x y H2 I2 rx ry q=>ho pins s2 σ H2 x y v u Q I2 rx ry q) hm
def tTest (t:TE):TT:=fun σ H Q=>t σ H fun x H'=>∃ k,x=.bl k∧Q k H'
theorem a09 {op:CmpOp}{r:R2}(ho:OpR X (compareOp op) r) (ha:PE X a ta) (hb:PE X b tb) (hm:behindInMarks op b=false):PT X (.Compare a [op] [b] pos) (tTest (tOp r ta tb)):=by
 intro pins s σ H Q I h
 refine wpAny_isTrue_Compare1 (thn (ha pins s σ H _ I h) fun v s1 ⟨x,H1,I1,r1,q1⟩=>thn (hb pins s1 σ H1 _ I1 q1) fun u s2 ⟨y,H2,I2,r2,q2⟩ =>
  thn (ho pins s2 σ H2 x y v u _ I2 r1 r2 q2) fun c s3 ⟨z,H3,I3,r3,k,e,q3⟩=>?_) hm
 subst e
 cases r3
 exact wpAny_truthy_bool ⟨H3,I3,q3⟩
def tChain (r r':R2) (ta tb tc:TE):TE:=fun σ H Q=>ta σ H fun x H1=>tb σ H1 fun y H2=>r x y H2 fun z H3=>∃ k,z=.bl k ∧
 (if k=true then tc σ H3 fun w' H4=>r' y w' H4 Q else Q (.bl false) H3)
theorem ak4 {op op':CmpOp}{r r':R2}(ho:OpR X (compareOp op) r) (ho':OpR X (compareOp op') r') (ha:PE X a ta) (hb:PE X b tb) (hc:PE X c tc)
 (hm:lastMarks [op,op'] [b,c]=false:=by with_unfolding_all rfl):PE X (.Compare a [op,op'] [b,c] pos) (tChain r r' ta tb tc):=by
 intro pins s σ H Q I h
 refine Compare_chain (thn (ha pins s σ H _ I h) fun v s1 ⟨x,H1,I1,r1,q1⟩=>chain_link (thn (hb pins s1 σ H1 _ I1 q1) fun u s2 ⟨y,H2,I2,r2,q2⟩ =>
  thn (ho pins s2 σ H2 x y v u _ I2 r1 r2 q2) fun d s3 ⟨z,H3,I3,r3,k,e,q3⟩=>?_)) hm
 subst e
 cases r3
 refine wpAny_truthy_bool ?_
 cases k with
 | false=>exact ite_ff ⟨.bl false,H3,I3,rfl,q3⟩
 | true=>exact ite_tt (chain_last (thn (hc pins s3 σ H3 _ I3 q3) fun w' s4 ⟨z',H4,I4,r4,q4⟩=>ho' pins s4 σ H4 y z' u w' Q I4 r2 r4 q4))
theorem ag3 {op op':CmpOp}{r r':R2}(ho:OpR X (compareOp op) r) (ho':OpR X (compareOp op') r') (ha:PE X a ta) (hb:PE X b tb) (hc:PE X c tc)
 (hm:lastMarks [op,op'] [b,c]=false:=by with_unfolding_all rfl):PT X (.Compare a [op,op'] [b,c] pos) (tTest (tChain r r' ta tb tc)):=by
 intro pins s σ H Q I h
 refine isTrue_chain (thn (ha pins s σ H _ I h) fun v s1 ⟨x,H1,I1,r1,q1⟩=>test_link (thn (hb pins s1 σ H1 _ I1 q1) fun u s2 ⟨y,H2,I2,r2,q2⟩ =>
  thn (ho pins s2 σ H2 x y v u _ I2 r1 r2 q2) fun d s3 ⟨z,H3,I3,r3,k,e,q3⟩=>?_)) hm
 subst e
 cases r3
 refine wpAny_truthy_bool ?_
 cases k with
 | false =>
   obtain ⟨k',e',q'⟩:=q3
   cases e'
   exact ite_ff ⟨H3,I3,q'⟩
 | true =>
   refine ite_tt (test_last (thn (hc pins s3 σ H3 _ I3 q3) fun w' s4 ⟨z',H4,I4,r4,q4⟩=>thn (ho' pins s4 σ H4 y z' u w' _ I4 r2 r4 q4) fun d' s5 ⟨z2,H5,I5,r5,k2,e2,q5⟩=>?_))
   subst e2
   cases r5
   exact wpAny_truthy_bool ⟨H5,I5,q5⟩
def TruV (K:PySem.W.Frag) (x:V) (H:Hp) (k:Bool):Prop :=
 match x with
 | .non=>k=false
 | .bl b=>k=b
 | .int i=>k=(i != 0)
 | .str y=>y.length≤sizeLine∧k=((y.length:Int) != 0)
 | .byt y=>y.size≤sizeLine∧k=((y.size:Int) != 0)
 | .ref p=>(∃ xs,SqL K H p xs∧k=!xs.isEmpty)∨(∃ xs,SqT K H p xs∧k=!xs.isEmpty)∨∃ kvs,H p=some (.dK kvs)∧k=!kvs.isEmpty
 | _=>False
theorem aw2 {κ:Type} {kvs:List (κ×V)}{vs:List (κ×Value)}(r:KV kvs vs):(!vs.isEmpty)=!kvs.isEmpty:=by
 cases r <;> rfl
theorem ai6 {xs:List V}{its:List Value}(r:Vals xs its):(!its.toArray.isEmpty)=!xs.isEmpty:=by
 cases r <;> simp
theorem ao3:(sizeLine:Nat)<2 ^ 63:=by rw [sizeLine_eq]; decide
theorem bg7:TruR X (fun x H Q=>∃ k,TruV X.K x H k∧Q k H):=by
 intro pins s σ H x v Q I rx h
 obtain ⟨k,e,q⟩:=h
 have hl:=ao3
 have hs:sizeLine=16777216:=sizeLine_eq
 cases x with
 | non =>
   cases rx
   have e':k=false:=e
   subst e'
   exact truthy_none ⟨H,I,q⟩
 | bl b =>
   cases rx
   have e':k=b:=e
   subst e'
   exact wpAny_truthy_bool ⟨H,I,q⟩
 | int i =>
   obtain ⟨t,rfl⟩:=rx
   have e':k=(i != 0):=e
   subst e'
   exact PySem.P.truthy_int ⟨H,I,q⟩
 | str y =>
   obtain ⟨t,rfl⟩:=rx
   obtain ⟨hy,e'⟩:y.length≤sizeLine∧k=((y.length:Int) != 0):=e
   subst e'
   exact PySem.P.truthy_str (by omega) ⟨H,I.tok _,q⟩
 | byt y =>
   obtain ⟨t,rfl⟩:=rx
   obtain ⟨hy,e'⟩:y.size≤sizeLine∧k=((y.size:Int) != 0):=e
   subst e'
   exact PySem.W.truthy_bytes (by omega) ⟨H,I.tok _,q⟩
 | ref p =>
   cases rx
   have e':(∃ xs,SqL X.K H p xs∧k=!xs.isEmpty)∨(∃ xs,SqT X.K H p xs∧k=!xs.isEmpty)∨∃ kvs,H p=some (.dK kvs)∧k=!kvs.isEmpty:=e
   rcases e' with ⟨xs,hx,e'⟩ | ⟨xs,hx,e'⟩ | ⟨kvs,hx,e'⟩
   · subst e'
     obtain ⟨its,r,pl,hz⟩:=I.list hx
     have hlen:=r.length
     exact wpAny_truthy_list pl.isList (by simp only [List.size_toArray]; omega) ⟨H,I.tok _,by rw [ai6 r]; exact q⟩
   · subst e'
     obtain ⟨its,r,pl,hz⟩:=I.tuple hx
     have hlen:=r.length
     exact truthy_tuple pl (by simp only [List.size_toArray]; omega) ⟨H,I.tok _,by rw [ai6 r]; exact q⟩
   · subst e'
     obtain ⟨hz,hS,vs,r,m⟩:kvs.length≤sizeLine∧(p == sysModules)=false∧∃ vs,KV kvs vs∧s.heap.DictOf (mixKind X.prog X.w) p vs:=I.hok p _ hx
     have hlen:kvs.length=vs.length:=Paired.length r
     exact wpAny_truthy_dict hS m (by omega) ⟨H,I.tok _,by rw [aw2 r]; exact q⟩
 | _=>exact (show False from e).elim
theorem b70 (ha:PE X a ta) (he:∀ whole,isTrue a X.env whole=(do let v←whole; standAt a.pos; holding [v] (truthy v))) :
 PT X a (fun σ H Q=>ta σ H fun x H'=>∃ k,TruV X.K x H' k∧Q k H'):=by
 intro pins s σ H Q I h
 exact isTrue_plain (thn (ha pins s σ H _ I h) fun v s1 ⟨x,H1,I1,r1,q1⟩=>bg7 pins s1 σ H1 x v Q I1 r1 q1) (he _)
theorem aw3:OpR X (binaryOp .Add) (fun x y H Q=>∃ i j,x=.str i∧y=.str j∧i.length+j.length≤sizeLine∧Q (.str (i++j)) H):=by
 intro pins s σ H x y v u Q I rx ry h
 obtain ⟨i,j,rfl,rfl,hz,q⟩:=h
 obtain ⟨t,rfl⟩:=rx
 obtain ⟨t',rfl⟩:=ry
 exact add_str (fun t' tk=>⟨.str (i++j),H,I.tok _,⟨_,rfl⟩,q⟩) hz
theorem ay8 {x:V}{us:List Value}(r:Vals [x] us):∃ u,us=[u]∧RelV x u:=by
 cases r with
 | cons r1 r2=>cases r2; exact ⟨_,rfl,r1⟩
theorem bc3 {x y:V}{us:List Value}(r:Vals [x,y] us):∃ u w',us=[u,w']∧RelV x u∧RelV y w':=by
 cases r with
 | cons r1 r2 =>
   cases r2 with
   | cons r3 r4=>cases r4; exact ⟨_,_,rfl,r1,r3⟩
def LenV (K:PySem.W.Frag) (x:V) (H:Hp) (n:Nat):Prop :=
 match x with
 | .str y=>y.length≤sizeLine∧n=y.length
 | .byt y=>y.size≤sizeLine∧n=y.size
 | .ref p=>(∃ xs,SqL K H p xs∧n=xs.length)∨∃ xs,SqT K H p xs∧n=xs.length
 | _=>False
theorem b71:CallR X (.builtin "len") (fun xs H Q=>∃ x n,xs=[x]∧LenV X.K x H n∧Q (.int n) H):=by
 intro pins s σ H xs us Q I r h
 obtain ⟨x,n,rfl,e,q⟩:=h
 obtain ⟨u,rfl,rx⟩:=ay8 r
 have hl:=ao3
 have hs:sizeLine=16777216:=sizeLine_eq
 cases x with
 | str y =>
   obtain ⟨t,rfl⟩:=rx
   obtain ⟨hy,e'⟩:y.length≤sizeLine∧n=y.length:=e
   subst e'
   exact len_str (by omega) ⟨.int _,H,I.tok _,⟨_,rfl⟩,q⟩
 | byt y =>
   obtain ⟨t,rfl⟩:=rx
   obtain ⟨hy,e'⟩:y.size≤sizeLine∧n=y.size:=e
   subst e'
   exact PySem.W.len_bytes (by omega) ⟨.int _,H,I.tok _,⟨_,rfl⟩,q⟩
 | ref p =>
   cases rx
   have e':(∃ xs,SqL X.K H p xs∧n=xs.length)∨∃ xs,SqT X.K H p xs∧n=xs.length:=e
   rcases e' with ⟨xs,hx,e'⟩ | ⟨xs,hx,e'⟩
   · subst e'
     obtain ⟨its,r',pl,hz⟩:=I.list hx
     have hlen:=r'.length
     exact Calls.call_len_list pl.isList (by simp only [List.size_toArray]; omega) ⟨.int xs.length,H,I.tok _,⟨_,by simp only [List.size_toArray]; rw [hlen]⟩,q⟩
   · subst e'
     obtain ⟨its,r',pl,hz⟩:=I.tuple hx
     have hlen:=r'.length
     exact len_tuple pl (by simp only [List.size_toArray]; omega) ⟨.int xs.length,H,I.tok _,⟨_,by simp only [List.size_toArray]; rw [hlen]⟩,q⟩
 | _=>exact (show False from e).elim
end
structure ObjM (h:Heap) (x dx C:Addr) (mA:Str→Option Value):Prop where
 obj:h.get? x=some (PySem.W.instObj C dx)
 ns:h.Ns1 dx mA
 ne:dx≠x
theorem ay9 {h:Heap}{dx:Addr}{mA:Str→Option Value}(n:h.Ns1 dx mA):∃ od,h.get? dx=some od∧∀ name,PySem.W.lookIn name od=some (mA name):=by
 obtain ⟨o,es,ep,ho,hd,hk,_,hm⟩:=n
 refine ⟨o,ho,fun name=>?_⟩
 have e:=hm name
 unfold nsFind findBy at e
 rw [← Array.find?_toList] at e
 unfold PySem.W.lookIn
 rw [hd]
 dsimp only
 split
 · rename_i y q
   rw [q] at e
   exact congrArg some e
 · rename_i q
   rw [q] at e
   have a:es.toList.any (·.refKey)=false:=by
    rw [List.any_eq_false]
    intro y hy
    obtain ⟨z,t,hkey⟩:=hk y (Array.mem_toList_iff.mp hy)
    simp [DictEntry.refKey,hkey]
   have a':¬ es.toList.any (·.refKey)=true:=by rw [a]; exact Bool.false_ne_true
   rw [if_neg a']
   exact congrArg some e
theorem ObjM.look {h:Heap}{x dx C:Addr}{mA:Str→Option Value}(I:ObjM h x dx C mA):∃ od,PySem.W.InstAt h x (PySem.W.instObj C dx) C (some od)∧∀ name,PySem.W.lookIn name od=some (mA name) :=
 let ⟨od,ho,hl⟩:=ay9 I.ns
 ⟨od,⟨I.obj,rfl,rfl,ho⟩,hl⟩
section
variable {prog:Program}{w:World}{A:Around}{E:Value→Shared→Prop}{s:Shared}{K:PySem.W.Frag}{x dx C f:Addr}{mA:Str→Option Value}{name:Str}{v:Value}
end
def putF (f:Str) (v:V):List (Str×V)→List (Str×V)
 | []=>[(f,v)]
 | (g,x)::r=>if g=f then (g,v)::r else (g,x)::putF f v r
section
variable {P:Program}{w:World}{H H':Hp}{h h':Heap}{a C dx:Addr}{fs fs':List (Str×V)}
theorem bc4 (hok:HOk P w H h) (e:H a=some (.ins C dx fs)):∃ mA,ObjM h a dx C mA∧(∀ f,RelO (fs.lookup f) (mA f))∧PySem.Within mA (fs.map (·.1))∧fs.length≤1000∧H dx=some (.own a):=by
 obtain ⟨d,z,ne,ob,mA,n,r,q⟩:=(show ObjOk P w H h a (.ins C dx fs) from hok a _ e)
 exact ⟨mA,⟨ob,n,ne⟩,r,q,z,d⟩
end
structure Cls (K:PySem.W.Frag) (C:Addr):Prop where
 pg:PySem.W.plainGet K C Str.empty=true
 hd:PySem.W.hasDictIn K C=true
 po:PySem.W.plainOver K C=true
 sa:PySem.W.findIn K (.ref C) "__setattr__"=some (some (.builtin "object.__setattr__"))
theorem Cls.get {K:PySem.W.Frag}{C:Addr}(c:Cls K C) (f:Str):PySem.W.plainGet K C f=true:=c.pg
section
variable {X:Cx}{pins:List (Addr×Obj)}{σ:St} {H:Hp}{s:Shared}{a C dx:Addr}{fs:List (Str×V)}{f:Str}{v:V}{A:Around}{E:Value→Shared→Prop}
end
section
variable {X:Cx}{o e value:Expr}{f:Str}{pos pos' tpos:Pos}{ta tv:TE}
end
section
variable {X:Cx}{pins:List (Addr×Obj)}{σ:St} {H:Hp}{s:Shared}{A:Around}{E:Value→Shared→Prop}{Q:Value→Shared→Prop}{c:Value}{b:Bool}
inductive TyOf (K:PySem.W.Frag) (H:Hp):V→Value→Prop where
 | non:TyOf K H .non (.type "NoneType")
 | bl (x:Bool):TyOf K H (.bl x) (.type "bool")
 | int (i:Int):TyOf K H (.int i) (.type "int")
 | str (x:Str):TyOf K H (.str x) (.type "str")
 | flt (x:UInt64):TyOf K H (.flt x) (.type "float")
 | lst {a:Addr}{xs:List V}(e:H a=some (.lst xs)):TyOf K H (.ref a) (.type "list")
 | frz {a:Addr}{o:Obj}{xs:List V}(e:H a=some (.frz o (.lst xs))):TyOf K H (.ref a) (.type "list")
 | tup {a:Addr}{xs:List V}(e:H a=some (.tup xs)):TyOf K H (.ref a) (.type "tuple")
 | dK {a:Addr}{kvs:List (Key×V)}(e:H a=some (.dK kvs)):TyOf K H (.ref a) (.type "dict")
 | dT {a:Addr}{kvs:List (List Key×V)}(e:H a=some (.dT kvs)):TyOf K H (.ref a) (.type "dict")
 | ins {a C dx:Addr}{fs:List (Str×V)}(e:H a=some (.ins C dx fs)) (cl:Cls K C) (ha:PySem.W.findIn K (.ref C) "__class__"=some (some (.builtin "object.__class__")))
  (hn:PySem.W.specialIn K (.builtin "object.__class__") "__get__"=some (some (.builtin "getset_descriptor.__get__"))) (htk:PySem.W.takesIn K (.builtin "object.__class__")=some true)
  (hm:PySem.W.mroIn K C (.type "object")=some true):TyOf K H (.ref a) (.ref C)
theorem az0 {x:V}{u t:Value}(I:Inv X pins σ H s) (rx:RelV x u) (ty:TyOf X.K H x t) (e:PySem.W.kitOne X.K t c=some b) (h:∀ tk,Q (.bool b) { s with toks:=tk }) :
 wpAny (model X.prog X.w) A (call (.builtin "isinstance") [u,c]) Q E s:=by
 cases ty with
 | non=>cases (show u=Value.none from rx); exact PySem.W.kia_one PySem.W.kitx_none I.kIn True.intro e (fun z=>nomatch z) h
 | bl y=>cases (show u=Value.bool y from rx); exact PySem.W.kia_one PySem.W.kitx_bool I.kIn True.intro e (fun z=>nomatch z) h
 | int i=>obtain ⟨t,q⟩:=(show ∃ t,u=Value.int i t from rx); cases q; exact PySem.W.kia_one PySem.W.kitx_int I.kIn True.intro e (fun z=>nomatch z) h
 | str y=>obtain ⟨t,q⟩:=(show ∃ t,u=Value.str y t from rx); cases q; exact PySem.W.kia_one PySem.W.kitx_str I.kIn True.intro e (fun z=>nomatch z) h
 | flt y=>obtain ⟨t,q⟩:=(show ∃ t,u=Value.float y t from rx); cases q; exact PySem.W.kia_one PySem.W.kitx_float I.kIn True.intro e (fun z=>nomatch z) h
 | @lst a xs ea =>
   cases (show u=Value.ref a from rx)
   obtain ⟨_,_,n,_,h1⟩:=(show ObjOk X.prog X.w H s.heap a (.lst xs) from I.hok a _ ea)
   exact PySem.W.kia_one PySem.W.kitx_list I.kIn ⟨_,h1,rfl⟩ e (fun z=>nomatch z) h
 | @frz a ob xs ea =>
   cases (show u=Value.ref a from rx)
   obtain ⟨_,_,_,n,_,h1⟩:=(show ObjOk X.prog X.w H s.heap a (.frz ob (.lst xs)) from I.hok a _ ea)
   exact PySem.W.kia_one PySem.W.kitx_list I.kIn ⟨_,h1,rfl⟩ e (fun z=>nomatch z) h
 | @tup a xs ea =>
   cases (show u=Value.ref a from rx)
   obtain ⟨_,_,_,p⟩:=(show ObjOk X.prog X.w H s.heap a (.tup xs) from I.hok a _ ea)
   obtain ⟨o,h1,h2,_⟩:=p
   exact PySem.W.kia_one PySem.W.kitx_tuple I.kIn ⟨o,h1,h2⟩ e (fun z=>nomatch z) h
 | @dK a kvs ea =>
   cases (show u=Value.ref a from rx)
   obtain ⟨_,_,vs,_,p⟩:=(show ObjOk X.prog X.w H s.heap a (.dK kvs) from I.hok a _ ea)
   obtain ⟨o,es,ep,h1,h2,_⟩:=p
   exact PySem.W.kia_one PySem.W.kitx_dict I.kIn ⟨o,h1,h2.1⟩ e (fun z=>nomatch z) h
 | @dT a kvs ea =>
   cases (show u=Value.ref a from rx)
   obtain ⟨_,_,xs,_,o,es,ep,h1,h2,_⟩:=(show ObjOk X.prog X.w H s.heap a (.dT kvs) from I.hok a _ ea)
   exact PySem.W.kia_one PySem.W.kitx_dict I.kIn ⟨o,h1,h2.1⟩ e (fun z=>nomatch z) h
 | @ins a C dx fs ea cl ha hn htk hm =>
   cases (show u=Value.ref a from rx)
   obtain ⟨mA,O,_⟩:=bc4 I.hok ea
   obtain ⟨od,J,_⟩:=O.look
   exact PySem.W.kia_one (PySem.W.kitx_own (cl.get _) cl.hd ha hn htk hm) I.kIn J e (fun z=>nomatch z) h
end
structure Room (k:Nat) (A:Around):Prop where
 hd:A.handled=none
 dp:A.depth+3*k+5<recursionLimit
 un:A.units+16*k+200<cLine
theorem Room.mono {j k:Nat}{A:Around}(r:Room k A) (h:j≤k):Room j A:=⟨r.hd,by have:=r.dp; omega,by have:=r.un; omega⟩
theorem Room.deeper {k:Nat}{A:Around}(r:Room (k+1) A) (env:Env):Room k (A.deeper env) :=
 ⟨r.hd,by have:=r.dp; show A.depth+1+3*k+5<_; omega,by have:=r.un; show A.units+3+16*k+200<_; omega⟩
theorem Room.depth {k:Nat}{A:Around}(r:Room k A):A.depth<recursionLimit:=by have:=r.dp; omega
theorem Room.units {k:Nat}{A:Around}(r:Room k A):A.units+64<cLine:=by have:=r.un; omega
def tNil:TA:=fun _ H Q=>Q [] H
def tCons (ta:TE) (tr:TA):TA:=fun σ H Q=>ta σ H fun x H1=>tr σ H1 fun xs H2=>Q (x::xs) H2
section
variable {X:Cx}{e:Expr}{es:List Expr}{te:TE}{t:TA}{pos:Pos}
theorem a01:PA X [] tNil:=fun _ _ _ _ H Q I h=>Calls.spliced_nil ⟨[],H,I,.nil,h⟩
theorem a00 (ha:PE X e te) (hr:PA X es t) (hs:starEach (e::es) X.env=(false,eval e X.env)::starEach es X.env:=by rfl):PA X (e::es) (tCons te t):=by
 intro pos pins s σ H Q I h
 rw [hs]
 show wpAny _ _ (spliced ((false,eval e X.env)::backTo pos (starEach es X.env))) _ _ s
 refine Calls.spliced_cons (thn (ha pins s σ H _ I h) fun u s1 ⟨x,H1,I1,r1,q1⟩=>?_)
 exact thn (hr pos pins s1 σ H1 _ I1 q1) fun us s2 ⟨xs,H2,I2,r2,q2⟩=>⟨x::xs,H2,I2,.cons r1 r2,q2⟩
end
abbrev Sp:=List V→Hp→VK→XK→Prop
abbrev CXT:=List Env→Hp→Shared→XK→Value→Shared→Prop
structure Env0 (P:Program) (w:World) (K:PySem.W.Frag) (mg:Str→Option Value) (base:Heap) (A:Around) (outer:List Env) (s:Shared) (H:Hp):Prop where
 frames:A.frames=some outer
 mod:Mod K mg base
 bs:∀ b o,base.get? b=some o→s.heap.get? b=some o∧H b=none
 bsz:base.objs.size≤s.heap.objs.size
 funs:s.heap.FunFrames base outer
 frf:∀ b∈frs outer,H b=none
 hok:HOk P w H s.heap
 bare:AllBare s.gens
def CE (outer:List Env) (P:Program) (w:World) (H:Hp) (s:Shared) (Q:VK) (u:Value) (s':Shared):Prop :=
 ∃ v H',s'.os=s.os∧AllBare s'.gens∧Un (frs outer) [] H H' s.heap s'.heap∧HOk P w H' s'.heap∧RelV v u∧Q v H'
def CR (CX:CXT) (outer:List Env) (P:Program) (w:World) (H:Hp) (s:Shared) (Q:VK) (E:XK) (r:Result) (s':Shared):Prop :=
 match r with
 | .ok (.ret u)=>CE outer P w H s Q u s'
 | .ok _=>False
 | .error e=>CX outer H s E e s'
structure FnOk (P:Program) (w:World) (K:PySem.W.Frag) (mg:Str→Option Value) (base:Heap) (CX:CXT) (k:Nat) (f:Addr) (fd:FuncData) (ps:List Str) (sp:Sp):Prop where
 len:∀ vs H Q E,sp vs H Q E→vs.length=ps.length
 run:∀ (A:Around) (outer:List Env) (s:Shared) (H:Hp) (args:Args) (us:List Value) (vs:List V) (Q:VK) (E:XK),Room k A→Env0 P w K mg base A outer s H→BindsTo s fd args (ps.zip us)→Vals vs us→sp vs H Q E →
  codeAny (model P w) A (.call (.ref f) args) (CR CX outer P w H s Q E) s
section
variable {X:Cx}{pins:List (Addr×Obj)}{σ:St} {H:Hp}{s s':Shared}
theorem Inv.env0 (I:Inv X pins σ H s):Env0 X.prog X.w X.K X.mg X.base X.A X.stack s H :=
 ⟨I.ok.frames,I.ok.mod,I.bs,Nat.le_trans I.ok.bsz I.sz,I.stack,I.stkFree,I.hok,I.bare⟩
theorem Inv.after {Q:VK}{u:Value}(I:Inv X pins σ H s) (h:CE X.stack X.prog X.w H s Q u s'):EP X pins σ Q u s':=by
 obtain ⟨v,H',os,bare,un,hok,r,q⟩:=h
 obtain ⟨hh,g,d,t,os'⟩:=s'
 obtain rfl:os'=s.os:=os
 exact ⟨v,H',I.call (h':=hh) (g':=g) (d':=d) (t':=t) (ch:=[]) un hok bare (fun b z=>absurd z (by simp)),r,q⟩
end
def tCall (sp:Sp) (dvs:List V) (E:XK) (t:TA):TE:=fun σ H Q=>t σ H fun vs H1=>sp (vs++dvs) H1 Q E
def Binds (K:PySem.W.Frag) (fd:FuncData) (ps:List Str) (ds:List Value):Prop :=
 ∀ (s:Shared) (us:List Value),K.In s.heap→(us++ds).length=ps.length→BindsTo s fd ⟨us,[]⟩ (ps.zip (us++ds))
theorem Binds.all {K:PySem.W.Frag}{fd:FuncData}{ps:List Str}(h:∀ us:List Value,us.length=ps.length→bindArgs fd ⟨us,[]⟩=pure (ps.zip us)):Binds K fd ps []:=fun s us _ hl=>by
 rw [List.append_nil] at hl ⊢
 exact .of_eq (h us hl)
def Passes (CX:CXT) (X:Cx) (E:XK):Prop:=∀ (pins:List (Addr×Obj)) (σ:St) (H:Hp) (s:Shared) (e:Value) (s':Shared),Inv X pins σ H s→CX X.stack H s E e s'→X.xe e s'
section
variable {X:Cx}{CX:CXT}{k:Nat}{f C:Addr}{fd:FuncData}{ps:List Str}{sp:Sp}{dvs:List V}{ds:List Value}{E:XK}{x m:Str}{p pos apos:Pos}{e o:Expr}{es:List Expr}{ta:TE}{t:TA}
theorem bg8 {pins:List (Addr×Obj)}{σ:St} {H:Hp}{s:Shared}{Q:VK}{us:List Value}{vs:List V}(F:FnOk X.prog X.w X.K X.mg X.base CX k f fd ps sp) (hr:Room k X.A) (hb:Binds X.K fd ps ds) (hd:Vals dvs ds) (hx:Passes CX X E)
 (I:Inv X pins σ H s) (r:Vals vs us) (h:sp (vs++dvs) H Q E):wpAny (model X.prog X.w) X.A (call (.ref f) us) (EP X pins σ Q) X.xe s:=by
 have r2:Vals (vs++dvs) (us++ds):=r.append hd
 have hl:(us++ds).length=ps.length:=by rw [← r2.length]; exact F.len _ _ _ _ h
 refine wpAny_call (codeAny_mono (F.run X.A X.stack s H ⟨us,[]⟩ (us++ds) (vs++dvs) Q E hr I.env0 (hb s us I.kIn hl) r2 h) fun r s' hq=>?_)
 cases r with
 | error e=>exact hx pins σ H s e s' I hq
 | ok fl =>
   cases fl with
   | ret u=>exact I.after hq
   | next=>exact False.elim hq
   | brk=>exact False.elim hq
   | cont=>exact False.elim hq
theorem a08 (F:FnOk X.prog X.w X.K X.mg X.base CX k f fd ps sp) (hr:Room k X.A) (hg:Gl X x) (hm:X.mg x=some (.ref f)) (hk:PySem.W.keepIn X.K (.ref f)=true) (hb:Binds X.K fd ps ds) (hd:Vals dvs ds) (hx:Passes CX X E)
 (ha:PA X (e::es) t) (hdb:(x == ("__debug__":Str))=false:=by decide) (he:starEach (e::es) X.env=(false,eval e X.env)::starEach es X.env:=by rfl) (hpl:(backTo pos (starEach es X.env)).any (·.1)=false:=by rfl) :
 PE X (.Call (.Name x p) (e::es) [] pos) (tCall sp dvs E t):=by
 intro pins s σ H Q I h
 refine wpAny_Call_Name_kw (ay0 I hg hm ?_ hdb)
 refine PySem.W.callWith_K (h₀:=X.base) I.ok.mod.kin hk (thn (ha pos pins s σ H _ I h) fun us s1 ⟨vs,H1,I1,r,q⟩=>⟨I1.kIn,?_⟩) he hpl
 exact bg8 F hr hb hd hx I1 r q
end
section
variable {X:Cx}{CX:CXT}{k:Nat}{f C:Addr}{fd:FuncData}{ps ks:List Str}{sp:Sp}{E:XK}{x m:Str}{p pos apos kpos:Pos}{e o:Expr}{es:List Expr}{kws:List Keyword}{te ta:TE}{t tk:TA}{nm:Option Str}
variable {g:List Value→List Value→List Value}{gV:List V→List V→List V}
end
structure FnScope (N P:List Str) (sc:Scope):Prop where
 kind:sc.kind=.function
 co:sc.isCoroutine=false
 gen:sc.isGenerator=false
 nd:N.Nodup
 pre:N.take P.length=P
 par:∀ x∈P,sc.names.lookup x=some .local∨sc.names.lookup x=some .cell
 nofree:∀ y∈sc.names,y.2≠.free
theorem ao4 {kindOf:Str→Option NameKind}{x:Str}:∀ {binds:List (Str×Value)}{m:Str→Option Value},(∀ v,(x,v)∉binds)→bindL kindOf binds m x=m x
 | [],_,_=>rfl
 | (n,v)::r,m,h=>by
   unfold bindL
   rw [ao4 fun w hw=>h w (List.mem_cons_of_mem _ hw)]
   split
   · have:x≠n:=by rintro rfl; exact h v List.mem_cons_self
     simp [this]
   · rfl
theorem ao5 {kindOf:Str→Option NameKind}{x:Str}:∀ {binds:List (Str×Value)}{m:Str→Option Value},(∀ v,(x,v)∉binds)→bindC kindOf binds m x=m x
 | [],_,_=>rfl
 | (n,v)::r,m,h=>by
   unfold bindC
   rw [ao5 fun w hw=>h w (List.mem_cons_of_mem _ hw)]
   split
   · rfl
   · have:x≠n:=by rintro rfl; exact h v List.mem_cons_self
     simp [this]
theorem ao6 {kindOf:Str→Option NameKind}{x:Str}{v:Value}:∀ {P:List Str}{vs:List Value}{i:Nat}{m:Str→Option Value},P.Nodup→P[i]?=some x→vs[i]?=some v→kindOf x=some .local →
 bindL kindOf (P.zip vs) m x=some v
 | [],_,_,_,_,h,_,_=>by simp at h
 | _::_,[],_,_,_,_,h,_=>by simp at h
 | p::P,w::vs,0,m,nd,h1,h2,hk=>by
   simp at h1 h2; subst h1; subst h2
   show bindL kindOf ((p,w)::P.zip vs) m p=_
   unfold bindL
   rw [ao4 fun v hv=>(List.nodup_cons.mp nd).1 (List.of_mem_zip hv).1,if_pos hk]
   simp
 | p::P,w::vs,i+1,m,nd,h1,h2,hk=>by
   show bindL kindOf ((p,w)::P.zip vs) m x=_
   unfold bindL
   exact ao6 (i:=i) (List.nodup_cons.mp nd).2 (by simpa using h1) (by simpa using h2) hk
theorem ao7 {kindOf:Str→Option NameKind}{x:Str}{v:Value}:∀ {P:List Str}{vs:List Value}{i:Nat}{m:Str→Option Value},P.Nodup→P[i]?=some x→vs[i]?=some v→kindOf x≠some .local →
 bindC kindOf (P.zip vs) m x=some v
 | [],_,_,_,_,h,_,_=>by simp at h
 | _::_,[],_,_,_,_,h,_=>by simp at h
 | p::P,w::vs,0,m,nd,h1,h2,hk=>by
   simp at h1 h2; subst h1; subst h2
   show bindC kindOf ((p,w)::P.zip vs) m p=_
   unfold bindC
   rw [ao5 fun v hv=>(List.nodup_cons.mp nd).1 (List.of_mem_zip hv).1,if_neg hk]
   simp
 | p::P,w::vs,i+1,m,nd,h1,h2,hk=>by
   show bindC kindOf ((p,w)::P.zip vs) m x=_
   unfold bindC
   exact ao7 (i:=i) (List.nodup_cons.mp nd).2 (by simpa using h1) (by simpa using h2) hk
def start (N:List Str) (vs:List V):St:=vs.map some++List.replicate (N.length - vs.length) none
def cxOf (CX:CXT) (P:Program) (w:World) (K:PySem.W.Frag) (mg:Str→Option Value) (base:Heap) (N:List Str) (qual:Str) (scope:Scope) (f:Addr) (cd:Value) (A:Around) (outer:List Env) (s:Shared) (H:Hp) (E:XK):Cx where
 prog:=P
 w:=w
 K:=K
 mg:=mg
 base:=base
 A:=A.deeper (envOfC qual scope s.heap.objs.size f cd)
 N:=N
 s₀:=s
 H₀:=H
 env:=envOfC qual scope s.heap.objs.size f cd
 outer:=outer
 stack:=envOfC qual scope s.heap.objs.size f cd::outer
 ex:=[]
 calm:=true
 fn:=fun _=>true
 pn:=[]
 xe:=fun e s'=>wpAny (model P w) (A.deeper (envOfC qual scope s.heap.objs.size f cd)) (leaving (envOfC qual scope s.heap.objs.size f cd) e) (fun _ s''=>CX outer H s E e s'') (fun e' s''=>CX outer H s E e' s'') s'
theorem au5 {sc:Scope}{n:Nat}{x:Str}(h:sc.names.lookup x=some .cell):∃ c,(cellsFrom n sc.names []).lookup x=some c:=by
 have q:=PySem.W.cellsFrom_some sc.names n [] (.inl h)
 exact Option.isSome_iff_exists.mp q
theorem az1 {CX:CXT}{P:Program}{w:World}{K:PySem.W.Frag}{mg:Str→Option Value}{base:Heap}{N ps:List Str}{qual:Str}{scope:Scope}{f:Addr}{cd:Value}{A:Around}{outer:List Env}{s s1:Shared}{H:Hp}{E:XK}{us:List Value}{vs:List V}
 (S:FnScope N ps scope) (hd:A.handled=none) (e0:Env0 P w K mg base A outer s H) (hl:vs.length=ps.length) (r:Vals vs us)
 (x:InCallC s s.heap.objs.size (bindL (envOfC qual scope s.heap.objs.size f cd).kindOf (ps.zip us) fun _=>none) (cellsFrom (s.heap.objs.size+1) scope.names []) (bindC (envOfC qual scope s.heap.objs.size f cd).kindOf (ps.zip us) fun _=>none) s1) :
 Inv (cxOf CX P w K mg base N qual scope f cd A outer s H E) [] (start N vs) H s1:=by
 have hpl:ps.length≤N.length:=by have:=congrArg List.length S.pre; rw [List.length_take] at this; omega
 obtain ⟨h1,tk,rfl,hk⟩:=x.done
 have noA:∀ b:Addr,b∉(cxOf CX P w K mg base N qual scope f cd A outer s H E).ex:=fun b z=>absurd (show b∈([]:List Addr) from z) (by simp)
 refine ⟨⟨e0.mod,S.kind,rfl,rfl,Nat.le_refl _,fun y z c h1 h2=>?_,fun y hy=>?_,fun y c _ h=>?_,fun _=>hd,Around.frames_deeper e0.frames,.inr ⟨rfl,rfl⟩,fun b z=>absurd z (noA b),e0.bs,e0.bsz,fun b _ _=>noA b,fun b z=>absurd z (noA b),e0.funs,e0.frf⟩,
  rfl,e0.bare,Un.kept hk,⟨_,x.toInCall.ns,fun i y v h1 h2 h3=>?_⟩,fun y c h=>⟨_,x.cell y c h⟩,e0.hok.fresh (Nat.le_refl _),fun y c h=>?_,fun p hp=>absurd (show p∈([]:List (Addr×Obj)) from hp) (by simp),e0.hok.kept hk,?_⟩
 · exact name_of_addr x.apart (PySem.mem_of_lookup h1) (PySem.mem_of_lookup h2)
 · have hy:scope.names.lookup y=some .cell∨scope.names.lookup y=some .free:=hy
   rcases hy with hy | hy
   · exact au5 hy
   · exact absurd rfl (S.nofree _ (PySem.mem_of_lookup hy))
 · exact Nat.le_of_lt (x.above y c (PySem.mem_of_lookup h))
 · have hi:i<vs.length:=by
    unfold start at h2
    by_cases hi:i<vs.length
    · exact hi
    · rw [List.getElem?_append_right (by simpa using hi)] at h2
      rw [List.getElem?_replicate] at h2
      split at h2 <;> cases h2
   have ha:vs[i]?=some v:=by
    unfold start at h2
    rw [List.getElem?_append_left (by simpa using hi),List.getElem?_map] at h2
    cases e:vs[i]? with
    | none=>rw [e] at h2; cases h2
    | some a=>rw [e] at h2; cases h2; rfl
   obtain ⟨u,hu,rv⟩:=r.get ha
   have hp:ps[i]?=some y:=by
    rw [← S.pre,List.getElem?_take_of_lt (by omega)]; exact h1
   have ndP:ps.Nodup:=by rw [← S.pre]; exact S.nd.sublist (List.take_sublist _ _)
   refine ⟨u,rv,?_⟩
   rcases S.par y (List.mem_of_getElem? hp) with k | k
   · exact .inl ⟨k,ao6 ndP hp hu k⟩
   · obtain ⟨c,e⟩:=au5 (n:=s.heap.objs.size+1) k
     refine .inr ⟨.inl k,c,e,?_⟩
     have q:=x.cell y c e
     rw [ao7 ndP hp hu (by show scope.names.lookup y≠_; rw [k]; decide)] at q
     exact q
 · exact e0.hok.fresh (Nat.le_of_lt (x.above y c (PySem.mem_of_lookup h)))
 · unfold start
   show _=N.length
   rw [List.length_append,List.length_map,List.length_replicate]
   omega
theorem bn5 {CX:CXT}{P:Program}{w:World}{K:PySem.W.Frag}{mg:Str→Option Value}{base:Heap}{k:Nat}{f:Addr}{name qual:Str}{params:Arguments}{body:List Stmt}{scope:Scope}{dV kV doc pm cdv ct oc:Value}{an od:Option Addr}
 {osl:Array (Option Value)}{N ps:List Str}{sp:Sp}(lk:K.lookup f=some ⟨oc,od,.func (PySem.W.fnOf name qual params body scope dV kV doc pm an cdv ct),osl⟩) (hcd:PySem.W.codeIn K cdv qual=true) (S:FnScope N ps scope)
 (len:∀ vs H Q E,sp vs H Q E→vs.length=ps.length)
 (hbody:∀ (A:Around) (outer:List Env) (s:Shared) (H:Hp) (vs:List V) (Q:VK) (E:XK),Room k (A.deeper (envOfC qual scope s.heap.objs.size f cdv))→sp vs H Q E →
  ∃ t,PSs (cxOf CX P w K mg base N qual scope f cdv A outer s H E) body t∧t { nx:=fun _ H'=>Q .non H',rt:=Q } (start N vs) H) :
 FnOk P w K mg base CX (k+1) f (PySem.W.fnOf name qual params body scope dV kV doc pm an cdv ct) ps sp:=by
 refine ⟨len,fun A outer s H args us vs Q E hr e0 hb r hsp=>?_⟩
 have hl:=len _ _ _ _ hsp
 have KX:K.In s.heap:=e0.mod.kin.keeps fun b o e=>(e0.bs b o e).1
 have lim:s.heap.NoLimit:=e0.mod.nolimit.keeps fun b o e=>(e0.bs b o e).1
 have hkind:∀ y∈ps.zip us,scope.names.lookup y.1=some .local∨(scope.names.lookup y.1=some .cell∧((cellsFrom (s.heap.objs.size+1) scope.names []).lookup y.1).isSome=true):=fun ⟨n,v⟩ hy=>by
  rcases S.par n (List.of_mem_zip hy).1 with q | q
  · exact .inl q
  · exact .inr ⟨q,PySem.W.cellsFrom_some _ _ _ (.inl q)⟩
 refine codeAny_call_function hr.depth (KX _ _ lk) rfl S.co S.gen rfl (PySem.W.codeRec_of KX hcd) (hb _ _ _ _ ?_)
 refine wpAny_newFunctionEnv_cells S.kind hkind fun env he s1 x=>?_
 subst he
 refine ⟨lim.keeps x.toInCall.keep,codeAny_func ?_⟩
 obtain ⟨t,ht,hq⟩:=hbody A outer s H vs Q E (hr.deeper _) hsp
 have I:Inv (cxOf CX P w K mg base N qual scope f cdv A outer s H E) [] (start N vs) H s1:=az1 S hr.hd e0 hl r x
 refine wpAny_mono (ht [] s1 (start N vs) H _ I hq) (fun fl s' hs=>?_) fun e s' hs=>hs
 have fin:∀ {σ':St} {H':Hp}{v:V}{u:Value},Inv (cxOf CX P w K mg base N qual scope f cdv A outer s H E) [] σ' H' s'→RelV v u→Q v H'→CE outer P w H s Q u s' :=
  fun {σ' H' v u} J rv q=>⟨v,H',J.os,J.bare,J.base,J.hok,rv,q⟩
 cases fl with
 | ret u =>
   obtain ⟨v,σ',H',J,rv,q⟩:=hs
   exact fin J rv q
 | next =>
   obtain ⟨σ',H',J,q⟩:=hs
   exact fin (v:=V.non) (u:=Value.none) J rfl q
 | brk =>
   obtain ⟨_,_,_,q⟩:=hs
   exact False.elim q
 | cont =>
   obtain ⟨_,_,_,q⟩:=hs
   exact False.elim q
section
variable {X:Cx}{x:Str}{p pos:Pos}{e:Expr}{es:List Expr}{t:TA}{id T:String}{r:List V→Hp→VK→Prop}
def tCB (r:List V→Hp→VK→Prop) (t:TA):TE:=fun σ H Q=>t σ H fun vs H1=>r vs H1 Q
theorem a26 (hc:CallR X (.builtin id) r) (hg:Gl X x) (hm:X.mg x=none) (hv:bootBuiltins x=some (.builtin id)) (ha:PA X (e::es) t) (hn:x≠"__name__":=by decide) (hdb:(x == ("__debug__":Str))=false:=by decide)
 (he:starEach (e::es) X.env=(false,eval e X.env)::starEach es X.env:=by rfl) (hpl:(backTo pos (starEach es X.env)).any (·.1)=false:=by rfl):PE X (.Call (.Name x p) (e::es) [] pos) (tCB r t):=by
 intro pins s σ H Q I h
 refine wpAny_Call_Name_kw (ai4 I hg hm hv ?_ hn hdb)
 exact PyProof.Rows.callWith_builtin1 (thn (ha pos pins s σ H _ I h) fun us s1 ⟨vs,H1,I1,r1,q1⟩=>hc pins s1 σ H1 vs us Q I1 r1 q1) he hpl
theorem aa8 (hc:CallR X (.type T) r) (hg:Gl X x) (hm:X.mg x=none) (hv:bootBuiltins x=some (.type T)) (ha:PA X (e::es) t) (hn:x≠"__name__":=by decide) (hdb:(x == ("__debug__":Str))=false:=by decide)
 (he:starEach (e::es) X.env=(false,eval e X.env)::starEach es X.env:=by rfl) (hpl:(backTo pos (starEach es X.env)).any (·.1)=false:=by rfl):PE X (.Call (.Name x p) (e::es) [] pos) (tCB r t):=by
 intro pins s σ H Q I h
 refine wpAny_Call_Name_kw (ai4 I hg hm hv ?_ hn hdb)
 exact PyProof.Rows.callWith_type1 (thn (ha pos pins s σ H _ I h) fun us s1 ⟨vs,H1,I1,r1,q1⟩=>hc pins s1 σ H1 vs us Q I1 r1 q1) he hpl
end
end L2
namespace HT
open PySem PyProof.Rows
section
open PySem.SeqAt
open PySem.AutoSeq1 (wpAny_loadPart')
open PySem.MeetsSeq PySem.MeetsSeq2 PySem.MeetsSeq3
end
section
variable {prog:Program}{w:World}{A:Around}{E:Value→Shared→Prop}{s:Shared}
def sIx (n d:Nat):Option Int→Nat
 | none=>d
 | some v=>if v<0 then (v+(n:Int)).toNat else min v.toNat n
theorem sIx_none (n d:Nat):sIx n d none=d:=rfl
theorem sIx_nat (n d k:Nat):sIx n d (some (k:Int))=min k n:=by
 show (if (k:Int)<0 then ((k:Int)+(n:Int)).toNat else min (k:Int).toNat n)=min k n
 rw [if_neg (by omega),Int.toNat_natCast]
end
end HT
namespace L2
open PySem PySem.Spec PyProof.Rows
abbrev TO:=St→Hp→(Option Int→Hp→Prop)→Prop
def PO (X:Cx) (e:Option Expr) (t:TO):Prop :=
 ∀ (pins:List (Addr×Obj)) (s:Shared) (σ:St) (H:Hp) (Q:Option Int→Hp→Prop),Inv X pins σ H s→t σ H Q →
  wpAny (model X.prog X.w) X.A (evalPart e X.env) (fun u s'=>∃ o H',Inv X pins σ H' s'∧IsPart u o∧Q o H') X.xe s
def tNoPart:TO:=fun _ H Q=>Q none H
def tPart (t:TE):TO:=fun σ H Q=>t σ H fun x H1=>∃ i,x=.int i∧Q (some i) H1
theorem aw4 {ns:List Int}:∀ {us:List Value},Vals (ns.map V.int) us→IntsAre us ns:=by
 induction ns with
 | nil=>intro us r; rw [List.map_nil] at r; cases r; exact .nil
 | cons n ns ih =>
   intro us r
   rw [List.map_cons] at r
   cases r with
   | cons r1 r2 =>
     obtain ⟨t,e⟩:=r1
     subst e
     exact .cons n t (ih r2)
section
variable {X:Cx}{e:Expr}{te:TE}{lo hi:Option Expr}{tl th:TO}{pos p2:Pos}
theorem a79:PO X none tNoPart:=by
 intro pins s σ H Q I h
 rw [evalPart_none]
 exact wpAny_pure ⟨none,H,I,.none,h⟩
theorem a40 (h:PE X e te):PO X (some e) (tPart te):=by
 intro pins s σ H Q I hw
 rw [evalPart_some]
 refine thn (h pins s σ H _ I hw) fun u s1 ⟨x,H1,I1,r1,q1⟩=>?_
 obtain ⟨i,rfl,q⟩:=q1
 obtain ⟨t,rfl⟩:=r1
 exact ⟨some i,H1,I1,.int i t,q⟩
def SlR (X:Cx) (r:V→Option Int→Option Int→Hp→VK→Prop):Prop :=
 ∀ (pins:List (Addr×Obj)) (s:Shared) (σ:St) (H:Hp) (x:V) (v vl vu:Value) (lo hi:Option Int) (sl:Addr) (Q:VK),Inv X pins σ H s→RelV x v→s.heap.IsSliceOf sl vl vu .none→IsPart vl lo→IsPart vu hi→r x lo hi H Q →
  ∃ T id,typeLookup (.type T) "__getitem__"=pure (some (.builtin id))∧s.TypeIs v T∧wpAny (model X.prog X.w) X.A (getItem v (.ref sl)) (EP X pins σ Q) X.xe s
def tSl (r:V→Option Int→Option Int→Hp→VK→Prop) (te:TE) (tl th:TO):TE:=fun σ H Q=>te σ H fun x H1=>tl σ H1 fun l H2=>th σ H2 fun u H3=>r x l u H3 Q
theorem a42 {r:V→Option Int→Option Int→Hp→VK→Prop}(hr:SlR X r) (he:PE X e te) (hl:PO X lo tl) (hu:PO X hi th):PE X (.Subscript e (.Slice lo hi none p2) pos) (tSl r te tl th):=by
 intro pins s σ H Q I h
 refine Subscript_ (thn (he pins s σ H _ I h) fun v s1 ⟨x,H1,I1,r1,q1⟩=>?_)
 refine wpAny_Slice (thn (hl pins s1 σ H1 _ I1 q1) fun vl s2 ⟨l,H2,I2,pl,q2⟩=>thn (hu pins s2 σ H2 _ I2 q2) fun vu s3 ⟨u,H3,I3,pu,q3⟩=>?_)
 rw [evalPart_none]
 refine wpAny_pure ?_
 have I4:Inv X pins σ H3 { s3 with heap:=s3.heap.push { cls:=.type "slice",data:=.fields #[vl,vu,.none] } }:=I3.kept (t':=s3.toks) fun b ob q=>Heap.get?_push_of_some _ q
 obtain ⟨T,id,hT,ht,hg⟩:=hr pins { s3 with heap:=s3.heap.push { cls:=.type "slice",data:=.fields #[vl,vu,.none] } } σ H3 x v vl vu l u s3.heap.objs.size Q I4 r1 (Heap.IsSliceOf.new ..) pl pu q3
 show wpAny (model X.prog X.w) X.A (subscriptTail e (.Slice lo hi none p2) v (.ref s3.heap.objs.size)) (EP X pins σ Q) X.xe { s3 with heap:=s3.heap.push { cls:=.type "slice",data:=.fields #[vl,vu,.none] } }
 exact tail_any (ops:=[.ref s3.heap.objs.size,v]) ht hT hg (by with_unfolding_all rfl)
def cutV (xs:List V) (lo hi:Option Int):List V:=(xs.drop (HT.sIx xs.length 0 lo)).take (HT.sIx xs.length xs.length hi - HT.sIx xs.length 0 lo)
theorem ar7 (xs:List V) (lo hi:Option Int):(cutV xs lo hi).length≤xs.length:=by
 unfold cutV
 rw [List.length_take,List.length_drop]
 omega
end
def ixN (n:Nat) (i:Int):Option Nat:=if 0≤i then (if i<n then some i.toNat else none) else if -(n:Int)≤i then some (i+n).toNat else none
def atI {α:Type}(xs:List α) (i:Int):Option α:=(ixN xs.length i).bind fun j=>xs[j]?
theorem az2 {n:Nat}{i:Int}{j:Nat}(h:ixN n i=some j):seqIndex? i n=some j∧j<n∧-(n:Int)≤i∧i<n:=by
 unfold ixN at h
 by_cases h0:0≤i
 · rw [if_pos h0] at h
   by_cases h1:i<n
   · rw [if_pos h1] at h
     have e:i.toNat=j:=Option.some.inj h
     exact ⟨by rw [seqIndex_of h0 h1,e],by omega,by omega,h1⟩
   · rw [if_neg h1] at h; cases h
 · rw [if_neg h0] at h
   by_cases h1:-(n:Int)≤i
   · rw [if_pos h1] at h
     have e:(i+n).toNat=j:=Option.some.inj h
     exact ⟨by rw [seqIndex_neg (by omega) h1,e],by omega,h1,by omega⟩
   · rw [if_neg h1] at h; cases h
theorem az3 {α:Type}{xs:List α}{i:Int}{v:α}(h:atI xs i=some v):∃ j,seqIndex? i xs.length=some j∧xs[j]?=some v∧j<xs.length∧-(xs.length:Int)≤i∧i<xs.length:=by
 unfold atI at h
 cases e:ixN xs.length i with
 | none=>rw [e] at h; cases h
 | some j =>
   rw [e] at h
   obtain ⟨h1,h2,h3,h4⟩:=az2 e
   exact ⟨j,h1,h,h2,h3,h4⟩
theorem a05 {α:Type}{xs:List α}{j:Nat}{v:α}(h:xs[j]?=some v):atI xs (j:Int)=some v:=by
 have hj:j<xs.length:=(List.getElem?_eq_some_iff.mp h).1
 have e:ixN xs.length (j:Int)=some j:=by
  unfold ixN
  rw [if_pos (by omega),if_pos (by omega)]; simp
 unfold atI; rw [e]; exact h
theorem b72 {α:Type}(xs:List α) (v:α):atI (xs++[v]) (-1)=some v:=by
 have hl:(xs++[v]).length=xs.length+1:=by simp
 have e:ixN (xs++[v]).length (-1)=some xs.length:=by
  unfold ixN
  rw [hl,if_neg (by decide),if_pos (by omega)]
  congr 1
  omega
 unfold atI
 rw [e]
 show (xs++[v])[xs.length]?=some v
 simp
def PlainIx (b:Expr):Prop:=∀ o i,subscripted b false o i=operate [o,i] (getItem o i)
def IxR (X:Cx) (r:R2):Prop :=
 ∀ (value slice:Expr) (pins:List (Addr×Obj)) (s:Shared) (σ:St) (H:Hp) (x y:V) (v u:Value) (Q:VK),Inv X pins σ H s→RelV x v→RelV y u→r x y H Q →
  subscripted slice false v u=operate [v,u] (getItem v u)→wpAny (model X.prog X.w) X.A (subscriptTail value slice v u) (EP X pins σ Q) X.xe s
def MtR (X:Cx) (id:String) (r:V→List V→Hp→VK→Prop):Prop :=
 ∀ (pins:List (Addr×Obj)) (s:Shared) (σ:St) (H:Hp) (x:V) (xs:List V) (v:Value) (us:List Value) (Q:VK),Inv X pins σ H s→RelV x v→Vals xs us→r x xs H Q →
  wpAny (model X.prog X.w) X.A (call (.builtin id) (v::us)) (EP X pins σ Q) X.xe s
section
variable {X:Cx}{a b:Expr}{ta tb:TE}{pos:Pos}
theorem a30 {r:R2}(hr:IxR X r) (ha:PE X a ta) (hb:PE X b tb) (hs:PlainIx b):PE X (.Subscript a b pos) (tOp r ta tb):=by
 intro pins s σ H Q I h
 exact Subscript_ (binT ha hb I h fun v u s2 x y H2 I2 rx ry q=>hr a b pins s2 σ H2 x y v u Q I2 rx ry q (hs _ _))
def rIxL (K:PySem.W.Frag):R2:=fun x y H Q=>∃ p xs i v,x=.ref p∧y=.int i∧SqL K H p xs∧atI xs i=some v∧Q v H
def rIxT (K:PySem.W.Frag):R2:=fun x y H Q=>∃ p xs i v,x=.ref p∧y=.int i∧SqT K H p xs∧atI xs i=some v∧Q v H
theorem bc5:IxR X (rIxL X.K):=by
 intro value slice pins s σ H x y v u Q I rx ry h hs
 obtain ⟨p,xs,i,z,rfl,rfl,hq,he,q⟩:=h
 cases rx
 obtain ⟨t,rfl⟩:=ry
 obtain ⟨its,r,pl,hz⟩:=I.list hq
 obtain ⟨j,h1,h2,h3,h4,h5⟩:=az3 he
 obtain ⟨w,ew,rw'⟩:=r.get h2
 have hl:=r.length
 have hn:=ao3
 have fin:EP X pins σ Q w s:=⟨z,H,I,rw',q⟩
 by_cases h0:0≤i
 · have hj:i.toNat=j:=by
    rw [seqIndex_of h0 h5] at h1
    exact Option.some.inj h1
   exact item_listR pl.isList h0 (by omega) (by rw [hj]; simpa using ew) fin hs
 · have hj:(i+(its.toArray.size:Int)).toNat=j:=by
    rw [seqIndex_neg (by omega) h4] at h1
    rw [List.size_toArray,←hl]
    exact Option.some.inj h1
   exact subscriptTail_builtinR (x:=w) pl.isList.typeIs slot_list_getitem.lookup
    (wpAny_getItem_list_neg (Q:=fun r s'=>r=w∧EP X pins σ Q r s') pl.isList (by omega) (by rw [List.size_toArray] <;> omega) (by omega) (by rw [hj]; simpa using ew) ⟨rfl,fin⟩) hs
theorem bg9:IxR X (rIxT X.K):=by
 intro value slice pins s σ H x y v u Q I rx ry h hs
 obtain ⟨p,xs,i,z,rfl,rfl,hq,he,q⟩:=h
 cases rx
 obtain ⟨t,rfl⟩:=ry
 obtain ⟨its,r,pl,hz⟩:=I.tuple hq
 obtain ⟨j,h1,h2,h3,h4,h5⟩:=az3 he
 obtain ⟨w,ew,rw'⟩:=r.get h2
 have hl:=r.length
 have hn:=ao3
 have fin:EP X pins σ Q w s:=⟨z,H,I,rw',q⟩
 exact subscriptTail_builtinR (x:=w) pl.typeIs slot_tuple_getitem.lookup
  (getItem_tuple (j:=j) (Q:=fun r s'=>r=w∧EP X pins σ Q r s') pl (by omega) (by omega) (by rw [List.size_toArray,←hl]; exact h1) (by simpa using ew) ⟨rfl,fin⟩) hs
theorem aw5 (its:List Value) (n j:Nat) (u:Value):Obj.mapSeq (·.setIfInBounds j u) { cls:=.type "list",data:=.seq its.toArray n }={ cls:=.type "list",data:=.seq (its.set j u).toArray n }:=by
 simp [Obj.mapSeq]
theorem Inv.lst {pins:List (Addr×Obj)}{σ:St} {H:Hp}{s:Shared}{p:Addr}{xs:List V}(I:Inv X pins σ H s) (h:H p=some (.lst xs)) :
 ∃ (its:List Value) (n:Nat),Vals xs its∧s.heap.get? p=some { cls:=.type "list",data:=.seq its.toArray n }∧xs.length≤sizeLine:=by
 obtain ⟨z,its,n,r,e⟩:=I.hok p _ h
 exact ⟨its,n,r,e,z⟩
theorem Inv.lstUpd {pins:List (Addr×Obj)}{σ:St} {H:Hp}{s:Shared}{p:Addr}{xs ys:List V}{its its':List Value}{n n':Nat}{f:Obj→Obj}(I:Inv X pins σ H s) (h:H p=some (.lst xs))
 (ho:s.heap.get? p=some { cls:=.type "list",data:=.seq its.toArray n }) (hf:f { cls:=.type "list",data:=.seq its.toArray n }={ cls:=.type "list",data:=.seq its'.toArray n' }) (r:Vals ys its') (hz:ys.length≤sizeLine) (t:Nat) :
 Inv X pins σ (upd H p (.lst ys)) { s with heap:=s.heap.update p f,toks:=t }:=by
 have e:(s.heap.update p f).get? p=some { cls:=.type "list",data:=.seq its'.toArray n' }:=by
  rw [Heap.get?_update_self f ho (by rw [hf] <;> rfl),hf]
 refine I.write (x:=p) (e:=p) (by rw [h]; trivial) (.inl rfl) (fun b u hb q=>(Heap.get?_update_other _ _ (Ne.symm hb)).trans q) ⟨_,e⟩ ?_
 exact ⟨hz,its',n',r,e⟩
def rSetL:V→V→V→Hp→(Hp→Prop)→Prop:=fun o i v H Q=>∃ p xs k j,o=.ref p∧i=.int k∧H p=some (.lst xs)∧ixN xs.length k=some j∧Q (upd H p (.lst (xs.set j v)))
theorem ag4:PSet X rSetL:=by
 intro pins s σ H o i v ov iv u Q I ro ri rv h
 obtain ⟨p,xs,k,j,rfl,rfl,hp,hj,q⟩:=h
 cases ro
 obtain ⟨t,rfl⟩:=ri
 obtain ⟨its,n,r,ho,hz⟩:=I.lst hp
 obtain ⟨h1,h2,h3,h4⟩:=az2 hj
 have hl:=r.length
 have hn:=ao3
 have I':Inv X pins σ (upd H p (.lst (xs.set j v))) { s with heap:=s.heap.update p (Obj.mapSeq (·.setIfInBounds j u)) } :=
  I.lstUpd hp ho (aw5 its n j u) (r.set rv j) (by rw [List.length_set]; exact hz) s.toks
 by_cases h0:0≤k
 · have hk:k.toNat=j:=by
    rw [seqIndex_of h0 h4] at h1
    exact Option.some.inj h1
   exact PySem.W.ki_setAt ho h0 (by omega) (by rw [List.size_toArray,←hl]; exact h4) (by rw [hk]; exact ⟨_,I',q⟩)
 · have hk:(k+(its.toArray.size:Int)).toNat=j:=by
    rw [seqIndex_neg (by omega) h3] at h1
    rw [List.size_toArray,←hl]
    exact Option.some.inj h1
   exact PySem.W.ki_setBack ho (by omega) (by rw [List.size_toArray,←hl]; exact h3) (by omega) (by rw [hk]; exact ⟨_,I',q⟩)
theorem ao8 (lo hi:Option Int) (n:Nat):(sliceBounds lo hi none n).1=((HT.sIx n 0 lo:Nat):Int)∧(sliceBounds lo hi none n).2.1=((HT.sIx n n hi:Nat):Int)∧(sliceBounds lo hi none n).2.2=1:=by
 refine ⟨?_,?_,rfl⟩
 · cases lo with
   | none=>simp [sliceBounds,HT.sIx]
   | some i =>
     simp only [sliceBounds,HT.sIx,Option.getD_none,show (1:Int) > 0 by decide,if_true]
     by_cases h:i<0
     · simp only [h,if_true] <;> omega
     · simp only [h,if_false] <;> omega
 · cases hi with
   | none=>simp [sliceBounds,HT.sIx]
   | some i =>
     simp only [sliceBounds,HT.sIx,Option.getD_none,show (1:Int) > 0 by decide,if_true]
     by_cases h:i<0
     · simp only [h,if_true] <;> omega
     · simp only [h,if_false] <;> omega
theorem ak5 (its:List Value) (lo hi:Option Int):slicePick its.toArray lo hi none=((its.drop (HT.sIx its.length 0 lo)).take (HT.sIx its.length its.length hi - HT.sIx its.length 0 lo)).toArray:=by
 obtain ⟨h1,h2,h3⟩:=ao8 lo hi its.toArray.size
 unfold slicePick
 rw [h1,h2,h3]
 simp only [sliceRange_one,pick_run,List.size_toArray] <;> rfl
def rSlL (K:PySem.W.Frag):V→Option Int→Option Int→Hp→VK→Prop:=fun x lo hi H Q=>∃ a xs,x=.ref a∧SqL K H a xs∧∀ p,H p=none→Q (.ref p) (upd H p (.lst (cutV xs lo hi)))
theorem bc6:SlR X (rSlL X.K):=by
 intro pins s σ H x v vl vu lo hi sl Q I rx hs pl pu h
 obtain ⟨a,xs,rfl,hx,q⟩:=h
 cases rx
 obtain ⟨its,r,ht,hz⟩:=I.list hx
 have hlen:=r.length
 refine ⟨"list",_,slot_list_getitem.lookup,ht.isList.typeIs,?_⟩
 refine wpAny_getItem_list_slice ht.isList hs pl pu .none (by simp) ?_ (by rw [List.size_toArray] <;> omega)
 rw [ak5,←hlen]
 refine ⟨.ref s.heap.objs.size,_,I.laid (t':=s.toks) (o:=.lst (cutV xs lo hi)) (fun b ob q=>Heap.get?_push_of_some _ q) (Nat.le_refl _) ?_,rfl,q _ (I.hok.fresh (Nat.le_refl _))⟩
 exact ⟨Nat.le_trans (ar7 xs lo hi) hz,_,0,(r.drop (HT.sIx xs.length 0 lo)).take (HT.sIx xs.length xs.length hi - HT.sIx xs.length 0 lo),Heap.get?_push_size _ rfl⟩
theorem ao9:CallR X (.type "list") (fun xs H Q=>∃ p ys,xs=[.ref p]∧(SqL X.K H p ys∨SqT X.K H p ys)∧∀ l,H l=none→Q (.ref l) (upd H l (.lst ys))):=by
 intro pins s σ H xs us Q I r h
 obtain ⟨p,ys,rfl,hq,q⟩:=h
 obtain ⟨u,rfl,rx⟩:=ay8 r
 cases rx
 have fin:∀ (its:List Value),Vals ys its→ys.length≤sizeLine→∀ (h':Heap) (c':Nat),(∀ b o',s.heap.get? b=some o'→h'.get? b=some o') →
  h'.get? s.heap.objs.size=some { cls:=.type "list",dict:=none,data:=.seq its.toArray c',slots:=#[] }→EP X pins σ Q (.ref s.heap.objs.size) { s with heap:=h' }:=fun its r' hz h' c' kp e =>
  ⟨.ref s.heap.objs.size,_,I.laid (t':=s.toks) kp (Nat.le_refl _) (show ObjOk X.prog X.w _ h' _ (.lst ys) from ⟨hz,its,c',r',e⟩),rfl,q _ (I.hok.fresh (Nat.le_refl _))⟩
 rcases hq with hq | hq
 · obtain ⟨its,r',pl,hz⟩:=I.list hq
   have hlen:=r'.length
   obtain ⟨o,ho,hc,n,hd⟩:=pl.isList
   exact call_list_seq p (.inl rfl) ho hc hd (fun h' c' kp e=>fin its r' hz h' c' kp e) (by simp only [List.size_toArray] <;> omega)
 · obtain ⟨its,r',pl,hz⟩:=I.tuple hq
   have hlen:=r'.length
   obtain ⟨o,ho,hc,n,hd⟩:=pl
   exact call_list_seq p (.inr rfl) ho hc hd (fun h' c' kp e=>fin its r' hz h' c' kp e) (by simp only [List.size_toArray] <;> omega)
theorem ak6:CallR X (.type "tuple") (fun xs H Q=>∃ p ys,xs=[.ref p]∧((SqL X.K H p ys∧∀ l,H l=none→Q (.ref l) (upd H l (.tup ys)))∨(SqT X.K H p ys∧Q (.ref p) H))):=by
 intro pins s σ H xs us Q I r h
 obtain ⟨p,ys,rfl,h⟩:=h
 obtain ⟨u,rfl,rx⟩:=ay8 r
 cases rx
 rcases h with ⟨hq,q⟩ | ⟨hq,q⟩
 · obtain ⟨its,r',pl,hz⟩:=I.list hq
   have hlen:=r'.length
   refine call_tuple_list pl.isList (fun h' kp=>?_) (by simp only [List.size_toArray] <;> omega)
   have I1:Inv X pins σ H { s with heap:=h' }:=I.kept (t':=s.toks) kp
   have I2:Inv X pins σ (upd H h'.objs.size (.tup ys)) { s with heap:=h'.push { cls:=.type "tuple",data:=.seq its.toArray } } :=
    I1.laid (t':=s.toks) (fun b o e=>Heap.get?_push_of_some _ e) (Nat.le_refl _) (show ObjOk X.prog X.w _ _ _ (.tup ys) from ⟨hz,its,r',IsTup.new _ _⟩)
   exact ⟨.ref h'.objs.size,_,I2,rfl,q _ (I1.hok.fresh (Nat.le_refl _))⟩
 · obtain ⟨its,r',pl,hz⟩:=I.tuple hq
   exact call_tuple_same pl ⟨.ref p,H,I,rfl,q⟩
def tyV (K:PySem.W.Frag) (T:String) (x:V) (H:Hp):Prop:=match x with
 | .str _=>T="str"
 | .int _=>T="int"
 | .ref p=>(T="list"∧∃ xs,SqL K H p xs)∨(T="tuple"∧∃ o,K.lookup p=some o∧o.cls=.type "tuple"∧o.dict=none) ∨
  (T="dict"∧((∃ kvs,H p=some (.dK kvs))∨∃ kvs,H p=some (.dT kvs)))∨(T="set"∧∃ S n,H p=some (.set S n))
 | _=>False
theorem bh0 {pins:List (Addr×Obj)}{σ:St} {H:Hp}{s:Shared}{T:String}{x:V}{v:Value}(I:Inv X pins σ H s) (r:RelV x v) (ty:tyV X.K T x H) :
 s.TypeIs v T∧∀ a,v=.ref a→∃ ob,s.heap.get? a=some ob∧ob.dict=none:=by
 cases x with
 | str z =>
   obtain ⟨t,rfl⟩:=r
   cases (show T="str" from ty)
   exact ⟨typeIs_str s z t,fun _ e=>nomatch e⟩
 | int i =>
   obtain ⟨t,rfl⟩:=r
   cases (show T="int" from ty)
   exact ⟨typeIs_int s i t,fun _ e=>nomatch e⟩
 | ref p =>
   cases r
   rcases ty with ⟨rfl,xs,hq⟩ | ⟨rfl,o,hk,hc,hd⟩ | ⟨rfl,hk⟩ | ⟨rfl,S,n,hk⟩
   · obtain ⟨its,_,pl,_⟩:=I.list hq
     refine ⟨pl.isList.typeIs,fun a e=>?_⟩
     cases e
     obtain ⟨o,n,e,c,hd,_⟩:=pl
     exact ⟨o,e,hd⟩
   · refine ⟨⟨o,I.kIn p o hk,hc⟩,fun a e=>?_⟩
     cases e
     exact ⟨o,I.kIn _ o hk,hd⟩
   · have z:∃ o,s.heap.get? p=some o∧o.ExactDict:=by
      rcases hk with ⟨kvs,hk⟩ | ⟨kvs,hk⟩
      · obtain ⟨_,_,_,_,o,_,_,e,ex,_⟩:=I.hok p _ hk
        exact ⟨o,e,ex⟩
      · obtain ⟨_,_,_,_,o,_,_,e,ex,_⟩:=I.hok p _ hk
        exact ⟨o,e,ex⟩
     obtain ⟨o,e,ex⟩:=z
     refine ⟨⟨o,e,ex.1⟩,fun a e2=>?_⟩
     cases e2
     exact ⟨o,e,ex.2.1⟩
   · obtain ⟨o,_,_,_,e,ex,_⟩:=I.hok p _ hk
     refine ⟨⟨o,e,ex.1⟩,fun a e2=>?_⟩
     cases e2
     exact ⟨o,e,ex.2.1⟩
 | _=>exact False.elim ty
def tBM (K:PySem.W.Frag) (T:String) (r:V→List V→Hp→VK→Prop) (to:TE) (t:TA):TE:=fun σ H Q=>to σ H fun x H1=>tyV K T x H1∧t σ H1 fun xs H2=>r x xs H2 Q
variable {o e:Expr}{es:List Expr}{to:TE}{t:TA}{name:Str}{apos cpos:Pos}{T id:String}{r:V→List V→Hp→VK→Prop}
theorem bn6 (pa:PlainAttrs T) (slot:Slot T name id) (hty:typeOf (.builtin id)=pure (.type "method_descriptor")) (hm:MtR X id r) (ho:PE X o to) (ha:PA X (e::es) t)
 (hbase:attributeBase o name X.env (eval o X.env)=eval o X.env:=by rfl)
 (hfew:((backTo cpos (starEach (e::es) X.env)).all (fun x=>!x.1) && (backToKw cpos (keywordEach [] X.env)).all (fun x=>x.1.isSome)
  && decide ((e::es).length+([]:List Keyword).length+(if ([]:List Keyword).isEmpty then 0 else 1)<30))=true:=by rfl)
 (hline:(apos.endLine == cpos.line)=true:=by rfl) (hs:starEach (e::es) X.env=(false,eval e X.env)::starEach es X.env:=by rfl) (hplain:(backTo cpos (starEach es X.env)).any (·.1)=false:=by rfl) :
 PE X (.Call (.Attribute o name apos) (e::es) [] cpos) (tBM X.K T r to t):=by
 intro pins s σ H Q I h
 refine wpAny_Call_method_late hbase hfew hline rfl (thn (ho pins s σ H _ I h) fun v s1 ⟨x,H1,I1,r1,ty,q1⟩=>?_)
 obtain ⟨h1,h2⟩:=bh0 I1 r1 ty
 refine ⟨T,id,pa,slot,hty,h1,h2,?_⟩
 have hA:=ha cpos pins s1 σ H1 _ I1 q1
 rw [hs] at hA ⊢
 refine Calls.callWith_builtin (by show (false || (backTo cpos (starEach es X.env)).any (·.1))=false; rw [hplain] <;> rfl) (Calls.evalArgs_plain ?_)
 exact thn hA fun us s2 ⟨vs,H2,I2,r2,q2⟩=>hm pins s2 σ H2 x vs v us Q I2 r1 r2 q2
/- xs.append(e),list.index on a module's tuple .. are MtR facts of 06m -/
end
def MtM (X:Cx) (id:String) (r:V→List V→Hp→VK→Prop):Prop :=
 ∀ (pins:List (Addr×Obj)) (s:Shared) (σ:St) (H:Hp) (x:V) (xs:List V) (v:Value) (us:List Value) (Q:VK),Inv X pins σ H s→RelV x v→Vals xs us→r x xs H Q →
  wpAny (model X.prog X.w) X.A (call (.builtin id) (v::us)) (EP X pins σ Q) X.xe s
theorem Vals.one:∀ {x:V}{us:List Value},Vals [x] us→∃ u,us=[u]∧RelV x u
 | _,_,.cons r .nil=>⟨_,rfl,r⟩
theorem Vals.reverse {xs:List V}{us:List Value}(h:Vals xs us):Vals xs.reverse us.reverse:=by
 induction h with
 | nil=>exact .nil
 | cons r t ih=>rw [List.reverse_cons,List.reverse_cons]; exact Vals.append ih (.cons r .nil)
theorem Vals.rep {xs:List V}{us:List Value}(h:Vals xs us):∀ k:Nat,Vals (List.replicate k xs).flatten (List.replicate k us).flatten
 | 0=>.nil
 | k+1=>by
   rw [List.replicate_succ,List.replicate_succ,List.flatten_cons,List.flatten_cons]
   exact Vals.append h (Vals.rep h k)
theorem ap0 (its:List Value):∀ (k:Nat) (acc:List Value),
 List.foldl (fun x1 x2=>x1++x2) acc.toArray (List.replicate k its.toArray)=(acc++(List.replicate k its).flatten).toArray
 | 0,acc=>by simp
 | k+1,acc=>by
   have e:acc.toArray++its.toArray=(acc++its).toArray:=by simp
   have e2:(acc++its)++(List.replicate k its).flatten=acc++(List.replicate (k+1) its).flatten:=by
    rw [List.replicate_succ,List.flatten_cons,List.append_assoc]
   rw [← e2,←ap0 its k (acc++its),←e,List.replicate_succ,List.foldl_cons]
section
variable {X:Cx}{pins:List (Addr×Obj)}{σ:St} {H:Hp}{s:Shared}{l b:Addr}{xs ys zs:List V}
theorem Inv.lset {its its':List Value}{n:Nat}{f:Array Value→Array Value}{t':Nat}(I:Inv X pins σ H s) (hH:H l=some (.lst xs))
 (e:s.heap.get? l=some { cls:=.type "list",data:=.seq its.toArray n }) (hf:f its.toArray=its'.toArray) (hv:Vals ys its') (hz:ys.length≤sizeLine) :
 Inv X pins σ (upd H l (.lst ys)) { s with heap:=s.heap.update l (Obj.mapSeq f),toks:=t' }:=by
 have q:=PySem.IsL.update e f
 rw [hf] at q
 refine I.write (x:=l) (e:=l) (by rw [hH]; exact trivial) (.inl rfl) (fun b' u hb hu=>(Heap.get?_update_other s.heap (Obj.mapSeq f) (Ne.symm hb)).trans hu) ⟨_,q⟩ ?_
 exact ⟨hz,its',_,hv,q⟩
theorem Inv.lnew {its:List Value}{t':Nat}(I:Inv X pins σ H s) (hv:Vals ys its) (hz:ys.length≤sizeLine) :
 Inv X pins σ (upd H s.heap.objs.size (.lst ys)) { s with heap:=s.heap.push { cls:=.type "list",data:=.seq its.toArray },toks:=t' } :=
 I.laid (fun _ _ q=>Heap.get?_push_of_some _ q) (Nat.le_refl _) ⟨hz,its,0,hv,Heap.get?_push_size _ rfl⟩
theorem Inv.fresh (I:Inv X pins σ H s):H s.heap.objs.size=none:=I.hok.fresh (Nat.le_refl _)
theorem Inv.lstM (I:Inv X pins σ H s) (hH:H l=some (.lst xs)):xs.length≤sizeLine∧∃ (its:List Value) (n:Nat),Vals xs its∧xs.length=its.length∧s.heap.get? l=some { cls:=.type "list",data:=.seq its.toArray n }:=by
 obtain ⟨z,its,n,r,e⟩:=I.hok l _ hH
 exact ⟨z,its,n,r,r.length,e⟩
theorem notLongL {n:Nat}(h:n≤sizeLine):Builtin.List.listTooLong n=false:=by
 unfold Builtin.List.listTooLong
 exact decide_eq_false (by omega)
end
section
variable {X:Cx}
def rAppend:V→List V→Hp→VK→Prop:=fun x vs H Q=>∃ l xs y,x=.ref l∧vs=[y]∧H l=some (.lst xs)∧xs.length<sizeLine∧Q .non (upd H l (.lst (xs++[y])))
theorem a90:MtM X "list.append" rAppend:=by
 intro pins s σ H x vs v us Q I rx rv h
 obtain ⟨l,xs,y,rfl,rfl,hH,hz,q⟩:=h
 cases rx
 obtain ⟨u,rfl,ru⟩:=rv.one
 obtain ⟨z,its,n,r,hl,e⟩:=I.lstM hH
 refine call_meets F.slot_list_append ⟨_,e,rfl⟩ F.entry_list_append (F.args_list_append_2 _ _) (PySem.list_append l its.toArray n u (by rw [List.size_toArray]; omega)) ⟨e,?_⟩
 refine ⟨.non,_,I.lset (its':=its++[u]) hH e (by simp) (r.append (.cons ru .nil)) ?_,rfl,q⟩
 rw [List.length_append,List.length_singleton]
 omega
def rCat:R2:=fun x y H Q=>∃ l b xs zs,x=.ref l∧y=.ref b∧H l=some (.lst xs)∧H b=some (.lst zs)∧xs.length+zs.length≤sizeLine∧∀ p,H p=none→Q (.ref p) (upd H p (.lst (xs++zs)))
theorem bh1:OpR X (binaryOp .Add) rCat:=by
 intro pins s σ H x y v u Q I rx ry h
 obtain ⟨l,b,xs,zs,rfl,rfl,hH,hB,hz,q⟩:=h
 cases rx
 cases ry
 obtain ⟨z,its,n,r,hl,e⟩:=I.lstM hH
 obtain ⟨z2,its2,n2,r2,hl2,e2⟩:=I.lstM hB
 refine PySem.P.add_list e e2 ?_ (by rw [List.size_toArray,List.size_toArray]; omega)
 have ea:its.toArray++its2.toArray=(its++its2).toArray:=by simp
 rw [ea]
 exact ⟨.ref _,_,I.lnew (t':=s.toks) (r.append r2) (by rw [List.length_append]; omega),rfl,q _ I.fresh⟩
def rRep:R2:=fun x y H Q=>∃ l k xs,x=.ref l∧y=.int k∧H l=some (.lst xs)∧-(2 ^ 63)≤k∧k<2 ^ 63∧xs.length*k.toNat≤sizeLine ∧
 ∀ p,H p=none→Q (.ref p) (upd H p (.lst (List.replicate k.toNat xs).flatten))
theorem bc7 {α:Type}(xs:List α) (k:Nat):(List.replicate k xs).flatten.length=k*xs.length:=by
 induction k with
 | zero=>simp
 | succ k ih=>rw [List.replicate_succ,List.flatten_cons,List.length_append,ih,Nat.succ_mul,Nat.add_comm]
theorem bh2:OpR X (binaryOp .Mult) rRep:=by
 intro pins s σ H x y v u Q I rx ry h
 obtain ⟨l,k,xs,rfl,rfl,hH,h1,h2,hz,q⟩:=h
 cases rx
 obtain ⟨t,rfl⟩:=ry
 obtain ⟨z,its,n,r,hl,e⟩:=I.lstM hH
 have hlen:its.toArray.size*k.toNat≤sizeLine:=by rw [List.size_toArray,←hl]; exact hz
 have hcap:¬ its.toArray.size*k.toNat > (2 ^ 63 - 1) / 8:=by
  have:(sizeLine:Nat)≤(2 ^ 63 - 1) / 8:=by decide
  omega
 have hfit:¬ (!Builtin.List.listFitsIndex k)=true:=by
  rw [fitsIndex_both h1 h2]
  exact Bool.false_ne_true
 have hlong:¬ Builtin.List.listTooLong (its.toArray.size*k.toNat)=true:=by
  rw [notLongL hlen]
  exact Bool.false_ne_true
 have hnew:List.foldl (fun x1 x2=>x1++x2) #[] (List.replicate (if its.toArray.isEmpty=true then 0 else k.toNat) its.toArray)=(List.replicate k.toNat its).flatten.toArray:=by
  have f0:∀ m:Nat,List.foldl (fun x1 x2=>x1++x2) #[] (List.replicate m its.toArray)=(List.replicate m its).flatten.toArray:=fun m=>by
   have:=ap0 its m []
   rw [List.nil_append] at this
   exact this
  rw [f0]
  cases its with
  | nil=>simp
  | cons a r'=>rw [if_neg (by simp)]
 refine wpAny_binaryOp_repeat_ref (T:="list") (U:="int") (by decide) ⟨_,e,rfl⟩ (fun s'=>typeIs_int s' k t) noFill_list_mul F.fills_int_mul F.slot_int_rmul repeat_list F.slot_int_index.lookup
  (call_meets F.slot_int_rmul (typeIs_int s k t) F.entry_int_rmul (F.args_int_rmul_2 _ _) (int___rmul___int_list k t l its.toArray n)
   ⟨e,rfl,⟨_,e,rfl⟩,call_meets F.slot_list_mul ⟨_,e,rfl⟩ F.entry_list_mul (F.args_list_mul_2 _ _) (AutoListH.list___mul___list_int_3 l its.toArray n k t hfit hcap hlong) ⟨e,?_⟩⟩)
 rw [hnew]
 exact ⟨.ref _,_,I.lnew (t':=s.toks) (r.rep k.toNat) (by rw [bc7,Nat.mul_comm]; exact hz),rfl,q _ I.fresh⟩
end
section
variable {prog:Program}{w:World}{A:Around}{E:Value→Shared→Prop}{s:Shared}
set_option maxRecDepth 100000 in
end
section
variable {X:Cx}
end
end L2
namespace Att
open PySem PySem.W PySem.Calls PyProof.Rows
theorem ag7 {P:Params}{h:Heap}:∀ (ns:List Int) (vs:List Value),WellAll P h vs (ns.map WData.int)→IntsAre vs ns:=by
 intro ns
 induction ns with
 | nil =>
   intro vs w
   rw [List.map_nil] at w
   cases w
   exact .nil
 | cons n ns ih =>
   intro vs w
   rw [List.map_cons] at w
   cases w with
   | cons a b =>
     cases a
     exact .cons _ _ (ih _ b)
theorem az4 {l:OpenLaw}{n:Nat}(hn:l.most=some n) {P:Params}{h:Heap}{args:List WData}{vals:List Value}
 (hpre:l.row.toRowW.claim.pre args=true) (hwl:WellAll P h vals args) :
 ∃ a vs ns,vals=[Value.ref a]∧args=[WData.list (ns.map WData.int)]∧h.get? a=some { cls:=.type "list",data:=.seq vs.toArray }∧IntsAre vs ns∧ns.length≤n:=by
 have hsh:WShape.hasAll [] args [.list .int]=true:=(pre_splitW hpre).1
 have hc:l.pre.holds [] { args:=args }=true:=(pre_splitW hpre).2
 obtain ⟨d,r,rfl,h1,h2⟩:=hasAllW_cons hsh
 obtain rfl:=hasAllW_nil h2
 obtain ⟨xs,rfl,h3⟩:=hasW_list h1
 obtain ⟨ns,rfl⟩:=items_int h3
 have hlen:ns.length≤n:=by
  unfold OpenLaw.pre at hc
  have h4:(WTm.not (.lt (.lit (.int (n:Int))) (.len (.arg 0)))).holds [] { args:=[.list (ns.map .int)] }=true:=by
   have h4:=(holds_andW hc).1
   rw [hn] at h4
   exact h4
  have h5:=condW_of h4 (w_not (w_lt w_lit (w_len_list (w_arg rfl))))
  rw [List.length_map] at h5
  refine Nat.le_of_not_lt fun q=>?_
  have q':(n:Int)<((ns.length:Nat):Int):=by omega
  first
   | (rw [decide_eq_true q'] at h5; exact absurd h5 (by decide))
   | (simp at h5; omega)
 cases hwl with
 | cons w1 w2 =>
   cases w2
   cases w1 with
   | list ho hall=>exact ⟨_,_,ns,rfl,rfl,ho,ag7 ns _ hall,hlen⟩
theorem az5 (l:OpenLaw) (args:List WData):l.row.toRowW.claim.post args (.bool true) args=true :=
 postW_of (r:=l.row.toRowW) (X:=(true == true))
  (show WShape.has [] (.bool true) .bool=true by first | rfl | decide | simp [WShape.has,WShape.arms,WShape.armsAll])
  (show (WTm.eq .res (.lit (.bool true))).value [] { args:=args,res:=some (.bool true),after:=args }=some (.bool (true == true)) from w_eq_bool (w_res rfl) w_lit) rfl
theorem attach_call {l:OpenLaw}{n:Nat}{q:Program}{loose:List Str}{XP:(Str→Option Value)→Heap→Prop}{YP:World→Heap→Prop}{d:DefRec}
 (hn:l.most=some n) (hdf:d.params.defaults=[])
 (call:∀ (w:World) (s₀ s₁:Shared) (mg mb:Str→Option Value) (fa:Addr) (o:Obj) (pm cd doc:Value) (a:Addr) (vs:List Value) (ns:List Int),
  Ground q loose [] XP w s₀ mg mb s₁.heap→YP w s₁.heap →
  s₁.heap.get? fa=some o→o.data=.func (docDef d.name d.params d.body d.scope pm cd doc)→s₁.heap.CodeRec cd d.name→mg d.name=some (.ref fa) →
  s₁.heap.get? a=some { cls:=.type "list",data:=.seq vs.toArray }→IntsAre vs ns→ns.length≤n→s₁.gens=#[] →
  codeAny (model l.prog w) callerA (.call (.ref fa) ⟨[.ref a],[]⟩) (fun r s'=>r=.ok (.ret (.bool true))∧OldK s₁.heap s'.heap∧s'.os=s₁.os∧AllBare s'.gens) s₁) :
 WalkO q loose XP YP l.row.toRowW d [] (fun f vs=>PySem.call f vs):=by
 intro w s₀ s₁ mg mb G Y fa o pm cd doc dV kV ho hd hcd hD hmg hg args vals as hpre hlay hrd hwl hlo
 obtain rfl:dV=.none:=Dflts.none hD hdf
 obtain rfl:kV=.none:=Dflts.noKw hD
 obtain ⟨a,vs,ns,rfl,rfl,hobj,hints,hlen⟩:=az4 hn hpre hwl
 refine enter_call (codeAny_mono (call w s₀ s₁ mg mb fa o pm cd doc a vs ns G Y ho (fd_plain hd) hcd hmg hobj hints hlen hg) fun r s' hq=>?_)
 obtain ⟨rfl,h2,h3,h4⟩:=hq
 exact ⟨.inl ⟨.bool true,.bool true,[],rfl,fun _=>rfl,.bool true,az5 l _,fun _=>⟨List.Pairwise.nil,fun _ hm=>(nomatch hm)⟩⟩,h2,h3,h4⟩
section
variable {prog:Program}{w:World}{A:Around}{E:Value→Shared→Prop}{s:Shared}{K:Frag}
end
end Att
namespace L2
open PySem PySem.Spec PyProof.Rows
theorem ap1:∀ {vs:List Value}{ns:List Int},IntsAre vs ns→Vals (ns.map V.int) vs
 | _,_,.nil=>.nil
 | _,_,.cons n t h=>.cons ⟨t,rfl⟩ (ap1 h)
def Only (H:Hp):Prop:=∀ b,H b=none∨∃ o xs,H b=some (.frz o (.lst xs))
theorem b73 {P:Program}{w:World}{K:PySem.W.Frag}{mg mb:Str→Option Value}{CX:CXT}{k:Nat}{fa a:Addr}{fd:FuncData}{x:Str}{sp:Sp}{s₁:Shared}{vs:List Value}{ns:List Int}
 (KX:K.In s₁.heap) (hns:s₁.heap.Ns mainGlobals mg) (hb:s₁.heap.Ns builtinsNs mb) (hbb:∀ x:Str,x≠"__name__"→mb x=bootBuiltins x) (hlim:s₁.heap.NoLimit) (hg:s₁.gens=#[])
 (ha:s₁.heap.get? a=some { cls:=.type "list",data:=.seq vs.toArray }) (hi:IntsAre vs ns) (hl:ns.length≤sizeLine) (hr:Room k callerA)
 (F:∀ base:Heap,K.In base→base.Ns mainGlobals mg→FnOk P w K mg base CX k fa fd [x] sp) (hbind:∀ (s:Shared) (u:Value),BindsTo s fd ⟨[u],[]⟩ [(x,u)])
 (hsp:∀ H:Hp,Only H→SqL K H a (ns.map V.int)→sp [.ref a] H (fun v _=>v=.bl true) fun _ _ _=>False)
 (hCX:∀ H e s',CX [] H s₁ (fun _ _ _=>False) e s'→False) :
 codeAny (model P w) callerA (.call (.ref fa) ⟨[.ref a],[]⟩) (fun r s'=>r=.ok (.ret (.bool true))∧OldK s₁.heap s'.heap∧s'.os=s₁.os∧AllBare s'.gens) s₁:=by
 have rv:=ap1 hi
 have lenV:=hi.length
 have core:∀ H:Hp,Only H→SqL K H a (ns.map V.int)→HOk P w H s₁.heap→(∀ b,H b≠none→b=a)→(H a≠none→K.lookup a=none) →
  codeAny (model P w) callerA (.call (.ref fa) ⟨[.ref a],[]⟩) (fun r s'=>r=.ok (.ret (.bool true))∧OldK s₁.heap s'.heap∧s'.os=s₁.os∧AllBare s'.gens) s₁:=by
  intro H hO hS hok hA hK
  have base_of:∀ {b:Addr}{o:Obj},s₁.heap.get? b=some o→H b=none→(hidT s₁.heap H).get? b=some o:=fun e n=>b67 e n
  have noA:∀ {b:Addr}{o:Obj}{es:Array DictEntry}{ep:Nat},s₁.heap.get? b=some o→o.data=.dict es ep→H b=none:=fun {b o es ep} e d=>by
   cases q:H b with
   | none=>rfl
   | some u =>
     have e':b=a:=hA b (by rw [q]; simp)
     subst e'
     rw [ha] at e; cases e
     have d':Data.seq vs.toArray _=Data.dict es ep:=d
     cases d'
  have nsK:∀ {b:Addr}{m:Str→Option Value},s₁.heap.Ns b m→(hidT s₁.heap H).Ns b m:=fun {b m} ⟨o,es,ep,e,d,r⟩=>⟨o,es,ep,base_of e (noA e d),d,r⟩
  have hKb:K.In (hidT s₁.heap H):=fun b o e=>base_of (KX b o e) (by
   cases q:H b with
   | none=>rfl
   | some u =>
     have e':b=a:=hA b (by rw [q]; simp)
     subst e'
     rw [hK (by rw [q]; simp)] at e; cases e)
  have hM:Mod K mg (hidT s₁.heap H):=⟨hKb,nsK hns,⟨mb,nsK hb,hbb⟩,let ⟨mc,h1,h2⟩:=hlim; ⟨mc,nsK h1,h2⟩⟩
  have e0:Env0 P w K mg (hidT s₁.heap H) callerA [] s₁ H:=⟨rfl,hM,fun b o e=>bb8 e,Nat.le_of_eq (ax9 _ _),trivial,fun b hb=>absurd (show b∈([]:List Addr) from hb) (by simp),hok,.of_eq hg⟩
  refine codeAny_mono ((F _ hKb (nsK hns)).run callerA [] s₁ H ⟨[.ref a],[]⟩ [.ref a] [.ref a] _ _ hr e0 (hbind s₁ (.ref a)) (.cons rfl .nil) (hsp H hO hS)) fun r s' h=>?_
  cases r with
  | error e=>exact (hCX H e s' h).elim
  | ok fl =>
    cases fl with
    | next=>exact False.elim h
    | brk=>exact False.elim h
    | cont=>exact False.elim h
    | ret u =>
      obtain ⟨v,H',os,bare,un,hok',r',q⟩:=h
      have q':v=.bl true:=q
      subst q'
      obtain rfl:u=Value.bool true:=r'
      refine ⟨rfl,OldK.of_keep fun b o e=>?_,os,bare⟩
      cases q:H b with
      | none=>exact un.keep b o e q (by intro z; exact absurd (show b∈([]:List Addr) from z) (by simp)) (by simp)
      | some u =>
        rcases hO b with z | ⟨ob,xs,z⟩
        · rw [q] at z; cases z
        · have z2:=un.frzs b ob _ z
          obtain ⟨e1,_⟩:=hok b _ z
          obtain ⟨e2,_⟩:=hok' b _ z2
          rw [e] at e1; cases e1
          exact e2
 cases hk:K.lookup a with
 | some o =>
   have e:=KX a o hk
   rw [ha] at e
   cases e
   refine core (fun _=>none) (fun _=>.inl rfl) (.inr ⟨_,vs.toArray,_,hk,rfl,rfl,rfl,by rw [List.size_toArray,lenV]; exact hl,by simpa using rv⟩) (fun b u z=>by have z':(none:Option HO)=some u:=z; cases z') (fun b z=>absurd rfl z) fun z=>absurd rfl z
 | none =>
   refine core (fun b=>if b=a then some (.frz { cls:=.type "list",data:=.seq vs.toArray } (.lst (ns.map V.int))) else none) (fun b=>?_) (.inl (.inr ⟨{ cls:=.type "list",data:=.seq vs.toArray },if_pos rfl⟩)) (fun b u z=>?_) (fun b z=>?_) fun _=>hk
   · by_cases hb:b=a
     · exact .inr ⟨_,_,if_pos hb⟩
     · exact .inl (if_neg hb)
   · by_cases hb:b=a
     · have z':=(if_pos hb).symm.trans z
       cases z'
       subst hb
       exact ⟨ha,by rw [List.length_map]; exact hl,vs,_,rv,ha⟩
     · have z':=(if_neg hb).symm.trans z
       cases z'
   · by_cases hb:b=a
     · exact hb
     · exact absurd (if_neg hb) z
theorem walk_of {l:PySem.W.OpenLaw}{n k:Nat}{q:Program}{loose:List Str}{XP:(Str→Option Value)→Heap→Prop}{YP:World→Heap→Prop}{d:DefRec}{K:Params→PySem.W.Frag}{CX:World→CXT}{sp:World→Sp}{x:Str}
 (hn:l.most=some n) (hn2:n≤sizeLine) (hdf:d.params.defaults=[]) (hr:Room k callerA)
 (hY:∀ (w:World) (h:Heap),YP w h→(K w.params).In h)
 (F:∀ (w:World) (mg:Str→Option Value) (fa:Addr) (h:Heap),(K w.params).In h→h.Ns mainGlobals mg→mg d.name=some (.ref fa) →
  ∃ fd:FuncData,(∀ (s:Shared) (u:Value),BindsTo s fd ⟨[u],[]⟩ [(x,u)]) ∧
   ∀ base:Heap,(K w.params).In base→base.Ns mainGlobals mg→FnOk l.prog w (K w.params) mg base (CX w) k fa fd [x] (sp w))
 (hsp:∀ (w:World) (H:Hp) (a:Addr) (ns:List Int),ns.length≤n→Only H→SqL (K w.params) H a (ns.map V.int)→sp w [.ref a] H (fun v _=>v=.bl true) fun _ _ _=>False)
 (hCX:∀ (w:World) (H:Hp) (s:Shared) (e:Value) (s':Shared),CX w [] H s (fun _ _ _=>False) e s'→False) :
 PySem.W.WalkO q loose XP YP l.row.toRowW d [] (fun f vs=>PySem.call f vs):=by
 refine Att.attach_call hn hdf fun w s₀ s₁ mg mb fa o pm cd doc a vs ns G Y ho hd hcd hmg hobj hints hlen hg=>?_
 have KX:=hY w _ Y
 obtain ⟨fd,hb,hF⟩:=F w mg fa _ KX G.T.g hmg
 exact b73 KX G.T.g G.T.b G.T.builtins G.T.nolimit hg hobj hints (Nat.le_trans hlen hn2) hr hF hb (fun H hO hS=>hsp w H a ns hlen hO hS) fun H e s'=>hCX w H s₁ e s'
def defArgs (s:Stmt):Arguments:=match s with
 | .FunctionDef _ a _ _ _ _ _ _ _ _=>a
 | _=>{ posonlyargs:=[],args:=[],vararg:=none,kwonlyargs:=[],kw_defaults:=[],kwarg:=none,defaults:=[] }
def defBody (s:Stmt):List Stmt:=match s with
 | .FunctionDef _ _ b _ _ _ _ _ _ _=>b
 | _=>[]
def defScope (s:Stmt):Scope:=match s with
 | .FunctionDef _ _ _ _ _ _ sc _ _ _=>sc
 | _=>{ kind:=.function,names:=[],isGenerator:=false,isCoroutine:=false }
abbrev CX0:CXT:=fun _ _ _ _ _ _=>False
abbrev E0:XK:=fun _ _ _=>False
theorem a38 {X:Cx}:Passes CX0 X E0:=fun _ _ _ _ _ _ _ h=>h.elim
structure Fun (K:PySem.W.Frag) (x qual:Str) (st:Stmt) (f:Addr) (fd:FuncData):Prop where
 ex:∃ (oc:Value) (od:Option Addr) (kV doc pm:Value) (an:Option Addr) (cdv ct:Value) (osl:Array (Option Value)),
  fd=PySem.W.fnOf x qual (defArgs st) (defBody st) (defScope st) .none kV doc pm an cdv ct∧K.lookup f=some ⟨oc,od,.func fd,osl⟩∧PySem.W.codeIn K cdv qual=true
 kp:PySem.W.keepIn K (.ref f)=true
section
variable {P:Program}{w:World}{K:PySem.W.Frag}{mg:Str→Option Value}{base:Heap}
theorem Fun.ok {x qual:Str}{st:Stmt}{f:Addr}{fd:FuncData}{N ps:List Str}{k:Nat}{sp:Sp}(F:Fun K x qual st f fd) (S:FnScope N ps (defScope st)) (len:∀ vs H Q E,sp vs H Q E→vs.length=ps.length)
 (hbody:∀ (cdv:Value) (A:Around) (outer:List Env) (s:Shared) (H:Hp) (vs:List V) (Q:VK) (E:XK),Room k (A.deeper (envOfC qual (defScope st) s.heap.objs.size f cdv))→sp vs H Q E →
  ∃ t,PSs (cxOf CX0 P w K mg base N qual (defScope st) f cdv A outer s H E).nox (defBody st) t∧t { nx:=fun _ H'=>Q .non H',rt:=Q } (start N vs) H):FnOk P w K mg base CX0 (k+1) f fd ps sp:=by
 obtain ⟨oc,od,kV,doc,pm,an,cdv,ct,osl,rfl,lk,hcd⟩:=F.ex
 refine bn5 lk hcd S len fun A outer s H vs Q E hr hsp=>?_
 obtain ⟨t,h,q⟩:=hbody cdv A outer s H vs Q E hr hsp
 exact ⟨t,h.nox,q⟩
theorem Fun.binds {x qual:Str}{st:Stmt}{f:Addr}{fd:FuncData}{ps:List Str}(F:Fun K x qual st f fd)
 (h:∀ (kV doc pm:Value) (an:Option Addr) (cdv ct:Value) (us:List Value),us.length=ps.length→bindArgs (PySem.W.fnOf x qual (defArgs st) (defBody st) (defScope st) .none kV doc pm an cdv ct) ⟨us,[]⟩=pure (ps.zip us)):Binds K fd ps []:=by
 obtain ⟨oc,od,kV,doc,pm,an,cdv,ct,osl,rfl,lk,hcd⟩:=F.ex
 exact .all (h kV doc pm an cdv ct)
theorem a81 {x qual:Str}{st:Stmt}{f:Addr}{oc:Value}{od an:Option Addr}{osl:Array (Option Value)}{kV doc pm cdv ct:Value}(l:K.lookup f=some ⟨oc,od,.func (PySem.W.fnOf x qual (defArgs st) (defBody st) (defScope st) .none kV doc pm an cdv ct),osl⟩)
 (c:PySem.W.codeIn K cdv qual=true) (k:PySem.W.keepIn K (.ref f)=true):Fun K x qual st f (PySem.W.fnOf x qual (defArgs st) (defBody st) (defScope st) .none kV doc pm an cdv ct):=⟨⟨oc,od,kV,doc,pm,an,cdv,ct,osl,rfl,l,c⟩,k⟩
end
section
variable {X:Cx}
theorem pv (i:Nat) {x:Str}{pos:Pos}(hN:X.N[i]?=some x:=by rfl) (hv:Vis X.env.scope x:=by first | exact Or.inl rfl | exact Or.inr (Or.inl rfl) | exact Or.inr (Or.inr rfl)) (hd:(x == ("__debug__":Str))=false:=by decide)
 (hcd:(x == ("__classdict__":Str))=false:=by decide):PE X (.Name x pos) (tVar i):=bf8 hN hv hd hcd
end
theorem iteF {A B:Prop}(h:B):if false=true then A else B:=by
 rw [if_neg Bool.false_ne_true]
 exact h
theorem iteT {A B:Prop}(h:A):if true=true then A else B:=by
 rw [if_pos rfl]
 exact h
theorem ite2 {c A B:Prop} [Decidable c] (h1:c→A) (h2:¬ c→B):if c then A else B:=by
 by_cases h:c
 · rw [if_pos h]
   exact h1 h
 · rw [if_neg h]
   exact h2 h
def Same (H H':Hp):Prop:=∀ b o,H b=some o→H' b=some o
theorem Same.refl (H:Hp):Same H H:=fun _ _ h=>h
theorem Same.trans {H H1 H2:Hp}(a:Same H H1) (b:Same H1 H2):Same H H2:=fun c o h=>b c o (a c o h)
theorem Same.free {H H':Hp}(e:Same H H') {l:Addr}(h:H' l=Option.none):H l=Option.none:=by
 cases q:H l with
 | none=>rfl
 | some o =>
   rw [e l o q] at h
   cases h
theorem Same.seq {K:PySem.W.Frag}{H H':Hp}{a:Addr}{xs:List V}(e:Same H H') (h:SqL K H a xs):SqL K H' a xs:=by
 rcases h with (h | ⟨o,h⟩) | h
 · exact .inl (.inl (e _ _ h))
 · exact .inl (.inr ⟨o,e _ _ h⟩)
 · exact .inr h
end L2
namespace K71
open PySem L2
def top (i:Nat):Stmt:=PySem.Challenge.pw_callmill_k71_cells_spoilt.main.body.getD i (.Pass ⟨0,0,0,0⟩)
def view:Program:={ PySem.Challenge.pw_callmill_k71_cells_spoilt with main:={ PySem.Challenge.pw_callmill_k71_cells_spoilt.main with body:=[top 0,top 2,top 3,top 4,top 5,top 6,top 7,top 8,top 9,top 10,top 11,top 13,top 14,top 15,top 16,top 17,top 18,top 19,top 20,top 21,top 22,top 23,top 24,top 25,top 26,top 27] } }
abbrev a77:Stmt:=top 3
abbrev a48:Stmt:=top 4
abbrev a78:Stmt:=top 5
abbrev a82:Stmt:=top 6
abbrev a83:Stmt:=top 7
abbrev a70:Stmt:=top 8
abbrev a61:Stmt:=top 9
abbrev a49:Stmt:=top 10
abbrev a56:Stmt:=top 11
abbrev a84:Stmt:=top 13
abbrev a85:Stmt:=top 14
abbrev a53:Stmt:=top 15
abbrev a74:Stmt:=top 16
abbrev a63:Stmt:=top 17
abbrev a68:Stmt:=top 18
abbrev a69:Stmt:=top 19
abbrev a50:Stmt:=top 20
abbrev a33:Stmt:=top 21
abbrev a86:Stmt:=top 22
abbrev a45:Stmt:=top 23
abbrev a87:Stmt:=top 24
abbrev a46:Stmt:=top 25
abbrev a75:Stmt:=top 26
abbrev ak7:Stmt:=top 27
def ai7 (K:PySem.W.Frag):Sp:=fun vs H Q _=>∃ (a:Addr) (ns:List Int),vs=[.ref a]∧SqL K H a (ns.map V.int)∧ns.length≤63∧∀ H',Q (.bl true) H'
theorem walk {l:PySem.W.OpenLaw}{q:Program}{loose:List Str}{XP:(Str→Option Value)→Heap→Prop}{YP:World→Heap→Prop}{d:DefRec}{K:Params→PySem.W.Frag}(hn:l.most=some 63) (hdf:d.params.defaults=[])
 (hY:∀ (w:World) (h:Heap),YP w h→(K w.params).In h)
 (F:∀ (w:World) (mg:Str→Option Value) (fa:Addr) (h:Heap),(K w.params).In h→h.Ns mainGlobals mg→mg d.name=some (.ref fa) →
  ∃ fd:FuncData,(∀ (s:Shared) (u:Value),BindsTo s fd ⟨[u],[]⟩ [("script",u)])∧∀ base:Heap,(K w.params).In base→base.Ns mainGlobals mg→FnOk l.prog w (K w.params) mg base CX0 6 fa fd ["script"] (ai7 (K w.params))) :
 PySem.W.WalkO q loose XP YP l.row.toRowW d [] (fun f vs=>PySem.call f vs) :=
 L2.walk_of (n:=63) (k:=6) (x:="script") (CX:=fun _=>CX0) (sp:=fun w=>ai7 (K w.params)) hn (by decide) hdf ⟨rfl,by decide,by decide⟩ hY F (fun _ _ a ns hl _ hS=>⟨a,ns,rfl,hS,hl,fun _=>rfl⟩) fun _ _ _ _ _ z=>z
def HF (P:Params) (K:PySem.W.Frag):Prop:=∀ R:Prop,(∀
 {f0:Addr}{od0 an0:Option Addr}{sl0:Array (Option Value)}{oc0 kV0 dc0 pm0 cd0 ct0:Value}
 {f1:Addr}{od1 an1:Option Addr}{sl1:Array (Option Value)}{oc1 kV1 dc1 pm1 cd1 ct1:Value}
 {f2:Addr}{od2 an2:Option Addr}{sl2:Array (Option Value)}{oc2 kV2 dc2 pm2 cd2 ct2:Value}
 {f3:Addr}{od3 an3:Option Addr}{sl3:Array (Option Value)}{oc3 kV3 dc3 pm3 cd3 ct3:Value}
 {f4:Addr}{od4 an4:Option Addr}{sl4:Array (Option Value)}{oc4 kV4 dc4 pm4 cd4 ct4:Value}
 {f5:Addr}{od5 an5:Option Addr}{sl5:Array (Option Value)}{oc5 kV5 dc5 pm5 cd5 ct5:Value}
 {f6:Addr}{od6 an6:Option Addr}{sl6:Array (Option Value)}{oc6 kV6 dc6 pm6 cd6 ct6:Value}
 {f7:Addr}{od7 an7:Option Addr}{sl7:Array (Option Value)}{oc7 kV7 dc7 pm7 cd7 ct7:Value}
 {f8:Addr}{od8 an8:Option Addr}{sl8:Array (Option Value)}{oc8 kV8 dc8 pm8 cd8 ct8:Value}
 {f9:Addr}{od9 an9:Option Addr}{sl9:Array (Option Value)}{oc9 kV9 dc9 pm9 cd9 ct9:Value}
 {f10:Addr}{od10 an10:Option Addr}{sl10:Array (Option Value)}{oc10 kV10 dc10 pm10 cd10 ct10:Value}
 {f11:Addr}{od11 an11:Option Addr}{sl11:Array (Option Value)}{oc11 kV11 dc11 pm11 cd11 ct11:Value}
 {f12:Addr}{od12 an12:Option Addr}{sl12:Array (Option Value)}{oc12 kV12 dc12 pm12 cd12 ct12:Value}
 {f13:Addr}{od13 an13:Option Addr}{sl13:Array (Option Value)}{oc13 kV13 dc13 pm13 cd13 ct13:Value}
 {f14:Addr}{od14 an14:Option Addr}{sl14:Array (Option Value)}{oc14 kV14 dc14 pm14 cd14 ct14:Value}
 {f15:Addr}{od15 an15:Option Addr}{sl15:Array (Option Value)}{oc15 kV15 dc15 pm15 cd15 ct15:Value}
 {f16:Addr}{od16 an16:Option Addr}{sl16:Array (Option Value)}{oc16 kV16 dc16 pm16 cd16 ct16:Value}
 {f17:Addr}{od17 an17:Option Addr}{sl17:Array (Option Value)}{oc17 kV17 dc17 pm17 cd17 ct17:Value}
 {f18:Addr}{od18 an18:Option Addr}{sl18:Array (Option Value)}{oc18 kV18 dc18 pm18 cd18 ct18:Value}
 {f19:Addr}{od19 an19:Option Addr}{sl19:Array (Option Value)}{oc19 kV19 dc19 pm19 cd19 ct19:Value}
 {f20:Addr}{od20 an20:Option Addr}{sl20:Array (Option Value)}{oc20 kV20 dc20 pm20 cd20 ct20:Value}
 {f21:Addr}{od21 an21:Option Addr}{sl21:Array (Option Value)}{oc21 kV21 dc21 pm21 cd21 ct21:Value}
 {f22:Addr}{od22 an22:Option Addr}{sl22:Array (Option Value)}{oc22 kV22 dc22 pm22 cd22 ct22:Value}
 {f23:Addr}{od23 an23:Option Addr}{sl23:Array (Option Value)}{oc23 kV23 dc23 pm23 cd23 ct23:Value}
 (a0:PySem.W.nsIn K mainGlobals "unpacked"=some (some (.ref f0))) (l0:K.lookup f0=some ⟨oc0,od0,.func (PySem.W.fnOf "unpacked" "unpacked" (defArgs a77) (defBody a77) (defScope a77) .none kV0 dc0 pm0 an0 cd0 ct0),sl0⟩) (c0:PySem.W.codeIn K cd0 "unpacked"=true) (k0:PySem.W.keepIn K (.ref f0)=true)
 (a1:PySem.W.nsIn K mainGlobals "block_places"=some (some (.ref f1))) (l1:K.lookup f1=some ⟨oc1,od1,.func (PySem.W.fnOf "block_places" "block_places" (defArgs a48) (defBody a48) (defScope a48) .none kV1 dc1 pm1 an1 cd1 ct1),sl1⟩) (c1:PySem.W.codeIn K cd1 "block_places"=true) (k1:PySem.W.keepIn K (.ref f1)=true)
 (a2:PySem.W.nsIn K mainGlobals "texts_at"=some (some (.ref f2))) (l2:K.lookup f2=some ⟨oc2,od2,.func (PySem.W.fnOf "texts_at" "texts_at" (defArgs a78) (defBody a78) (defScope a78) .none kV2 dc2 pm2 an2 cd2 ct2),sl2⟩) (c2:PySem.W.codeIn K cd2 "texts_at"=true) (k2:PySem.W.keepIn K (.ref f2)=true)
 (a3:PySem.W.nsIn K mainGlobals "cells_in"=some (some (.ref f3))) (l3:K.lookup f3=some ⟨oc3,od3,.func (PySem.W.fnOf "cells_in" "cells_in" (defArgs a82) (defBody a82) (defScope a82) .none kV3 dc3 pm3 an3 cd3 ct3),sl3⟩) (c3:PySem.W.codeIn K cd3 "cells_in"=true) (k3:PySem.W.keepIn K (.ref f3)=true)
 (a4:PySem.W.nsIn K mainGlobals "pairs_in"=some (some (.ref f4))) (l4:K.lookup f4=some ⟨oc4,od4,.func (PySem.W.fnOf "pairs_in" "pairs_in" (defArgs a83) (defBody a83) (defScope a83) .none kV4 dc4 pm4 an4 cd4 ct4),sl4⟩) (c4:PySem.W.codeIn K cd4 "pairs_in"=true) (k4:PySem.W.keepIn K (.ref f4)=true)
 (a5:PySem.W.nsIn K mainGlobals "others_in"=some (some (.ref f5))) (l5:K.lookup f5=some ⟨oc5,od5,.func (PySem.W.fnOf "others_in" "others_in" (defArgs a70) (defBody a70) (defScope a70) .none kV5 dc5 pm5 an5 cd5 ct5),sl5⟩) (c5:PySem.W.codeIn K cd5 "others_in"=true) (k5:PySem.W.keepIn K (.ref f5)=true)
 (a6:PySem.W.nsIn K mainGlobals "whole_pack"=some (some (.ref f6))) (l6:K.lookup f6=some ⟨oc6,od6,.func (PySem.W.fnOf "whole_pack" "whole_pack" (defArgs a61) (defBody a61) (defScope a61) .none kV6 dc6 pm6 an6 cd6 ct6),sl6⟩) (c6:PySem.W.codeIn K cd6 "whole_pack"=true) (k6:PySem.W.keepIn K (.ref f6)=true)
 (a7:PySem.W.nsIn K mainGlobals "whole_shape"=some (some (.ref f7))) (l7:K.lookup f7=some ⟨oc7,od7,.func (PySem.W.fnOf "whole_shape" "whole_shape" (defArgs a49) (defBody a49) (defScope a49) .none kV7 dc7 pm7 an7 cd7 ct7),sl7⟩) (c7:PySem.W.codeIn K cd7 "whole_shape"=true) (k7:PySem.W.keepIn K (.ref f7)=true)
 (a8:PySem.W.nsIn K mainGlobals "whole_rooms"=some (some (.ref f8))) (l8:K.lookup f8=some ⟨oc8,od8,.func (PySem.W.fnOf "whole_rooms" "whole_rooms" (defArgs a56) (defBody a56) (defScope a56) .none kV8 dc8 pm8 an8 cd8 ct8),sl8⟩) (c8:PySem.W.codeIn K cd8 "whole_rooms"=true) (k8:PySem.W.keepIn K (.ref f8)=true)
 (a9:PySem.W.nsIn K mainGlobals "_law_take"=some (some (.ref f9))) (l9:K.lookup f9=some ⟨oc9,od9,.func (PySem.W.fnOf "_law_take" "_law_take" (defArgs a84) (defBody a84) (defScope a84) .none kV9 dc9 pm9 an9 cd9 ct9),sl9⟩) (c9:PySem.W.codeIn K cd9 "_law_take"=true) (k9:PySem.W.keepIn K (.ref f9)=true)
 (a10:PySem.W.nsIn K mainGlobals "_law_cell"=some (some (.ref f10))) (l10:K.lookup f10=some ⟨oc10,od10,.func (PySem.W.fnOf "_law_cell" "_law_cell" (defArgs a85) (defBody a85) (defScope a85) .none kV10 dc10 pm10 an10 cd10 ct10),sl10⟩) (c10:PySem.W.codeIn K cd10 "_law_cell"=true) (k10:PySem.W.keepIn K (.ref f10)=true)
 (a11:PySem.W.nsIn K mainGlobals "_law_events"=some (some (.ref f11))) (l11:K.lookup f11=some ⟨oc11,od11,.func (PySem.W.fnOf "_law_events" "_law_events" (defArgs a53) (defBody a53) (defScope a53) .none kV11 dc11 pm11 an11 cd11 ct11),sl11⟩) (c11:PySem.W.codeIn K cd11 "_law_events"=true) (k11:PySem.W.keepIn K (.ref f11)=true)
 (a12:PySem.W.nsIn K mainGlobals "_law_shape"=some (some (.ref f12))) (l12:K.lookup f12=some ⟨oc12,od12,.func (PySem.W.fnOf "_law_shape" "_law_shape" (defArgs a74) (defBody a74) (defScope a74) .none kV12 dc12 pm12 an12 cd12 ct12),sl12⟩) (c12:PySem.W.codeIn K cd12 "_law_shape"=true) (k12:PySem.W.keepIn K (.ref f12)=true)
 (a13:PySem.W.nsIn K mainGlobals "_law_cells"=some (some (.ref f13))) (l13:K.lookup f13=some ⟨oc13,od13,.func (PySem.W.fnOf "_law_cells" "_law_cells" (defArgs a63) (defBody a63) (defScope a63) .none kV13 dc13 pm13 an13 cd13 ct13),sl13⟩) (c13:PySem.W.codeIn K cd13 "_law_cells"=true) (k13:PySem.W.keepIn K (.ref f13)=true)
 (a14:PySem.W.nsIn K mainGlobals "_law_spoilt"=some (some (.ref f14))) (l14:K.lookup f14=some ⟨oc14,od14,.func (PySem.W.fnOf "_law_spoilt" "_law_spoilt" (defArgs a68) (defBody a68) (defScope a68) .none kV14 dc14 pm14 an14 cd14 ct14),sl14⟩) (c14:PySem.W.codeIn K cd14 "_law_spoilt"=true) (k14:PySem.W.keepIn K (.ref f14)=true)
 (a15:PySem.W.nsIn K mainGlobals "_law_blocks"=some (some (.ref f15))) (l15:K.lookup f15=some ⟨oc15,od15,.func (PySem.W.fnOf "_law_blocks" "_law_blocks" (defArgs a69) (defBody a69) (defScope a69) .none kV15 dc15 pm15 an15 cd15 ct15),sl15⟩) (c15:PySem.W.codeIn K cd15 "_law_blocks"=true) (k15:PySem.W.keepIn K (.ref f15)=true)
 (a16:PySem.W.nsIn K mainGlobals "_law_triples"=some (some (.ref f16))) (l16:K.lookup f16=some ⟨oc16,od16,.func (PySem.W.fnOf "_law_triples" "_law_triples" (defArgs a50) (defBody a50) (defScope a50) .none kV16 dc16 pm16 an16 cd16 ct16),sl16⟩) (c16:PySem.W.codeIn K cd16 "_law_triples"=true) (k16:PySem.W.keepIn K (.ref f16)=true)
 (a17:PySem.W.nsIn K mainGlobals "_law_shape_good"=some (some (.ref f17))) (l17:K.lookup f17=some ⟨oc17,od17,.func (PySem.W.fnOf "_law_shape_good" "_law_shape_good" (defArgs a33) (defBody a33) (defScope a33) .none kV17 dc17 pm17 an17 cd17 ct17),sl17⟩) (c17:PySem.W.codeIn K cd17 "_law_shape_good"=true) (k17:PySem.W.keepIn K (.ref f17)=true)
 (a18:PySem.W.nsIn K mainGlobals "_law_pair"=some (some (.ref f18))) (l18:K.lookup f18=some ⟨oc18,od18,.func (PySem.W.fnOf "_law_pair" "_law_pair" (defArgs a86) (defBody a86) (defScope a86) .none kV18 dc18 pm18 an18 cd18 ct18),sl18⟩) (c18:PySem.W.codeIn K cd18 "_law_pair"=true) (k18:PySem.W.keepIn K (.ref f18)=true)
 (a19:PySem.W.nsIn K mainGlobals "_law_parts"=some (some (.ref f19))) (l19:K.lookup f19=some ⟨oc19,od19,.func (PySem.W.fnOf "_law_parts" "_law_parts" (defArgs a45) (defBody a45) (defScope a45) .none kV19 dc19 pm19 an19 cd19 ct19),sl19⟩) (c19:PySem.W.codeIn K cd19 "_law_parts"=true) (k19:PySem.W.keepIn K (.ref f19)=true)
 (a20:PySem.W.nsIn K mainGlobals "_law_good"=some (some (.ref f20))) (l20:K.lookup f20=some ⟨oc20,od20,.func (PySem.W.fnOf "_law_good" "_law_good" (defArgs a87) (defBody a87) (defScope a87) .none kV20 dc20 pm20 an20 cd20 ct20),sl20⟩) (c20:PySem.W.codeIn K cd20 "_law_good"=true) (k20:PySem.W.keepIn K (.ref f20)=true)
 (a21:PySem.W.nsIn K mainGlobals "_law_table"=some (some (.ref f21))) (l21:K.lookup f21=some ⟨oc21,od21,.func (PySem.W.fnOf "_law_table" "_law_table" (defArgs a46) (defBody a46) (defScope a46) .none kV21 dc21 pm21 an21 cd21 ct21),sl21⟩) (c21:PySem.W.codeIn K cd21 "_law_table"=true) (k21:PySem.W.keepIn K (.ref f21)=true)
 (a22:PySem.W.nsIn K mainGlobals "_law_right"=some (some (.ref f22))) (l22:K.lookup f22=some ⟨oc22,od22,.func (PySem.W.fnOf "_law_right" "_law_right" (defArgs a75) (defBody a75) (defScope a75) .none kV22 dc22 pm22 an22 cd22 ct22),sl22⟩) (c22:PySem.W.codeIn K cd22 "_law_right"=true) (k22:PySem.W.keepIn K (.ref f22)=true)
 (a23:PySem.W.nsIn K mainGlobals "law"=some (some (.ref f23))) (l23:K.lookup f23=some ⟨oc23,od23,.func (PySem.W.fnOf "law" "law" (defArgs ak7) (defBody ak7) (defScope ak7) .none kV23 dc23 pm23 an23 cd23 ct23),sl23⟩) (c23:PySem.W.codeIn K cd23 "law"=true) (k23:PySem.W.keepIn K (.ref f23)=true)
 (z_all:PySem.W.nsIn K mainGlobals "all"=some none)
 (z_bool:PySem.W.nsIn K mainGlobals "bool"=some none)
 (z_enumerate:PySem.W.nsIn K mainGlobals "enumerate"=some none)
 (z_isinstance:PySem.W.nsIn K mainGlobals "isinstance"=some none)
 (z_len:PySem.W.nsIn K mainGlobals "len"=some none)
 (z_list:PySem.W.nsIn K mainGlobals "list"=some none)
 (z_max:PySem.W.nsIn K mainGlobals "max"=some none)
 (z_min:PySem.W.nsIn K mainGlobals "min"=some none)
 (z_range:PySem.W.nsIn K mainGlobals "range"=some none)
 (z_set:PySem.W.nsIn K mainGlobals "set"=some none)
 (z_sorted:PySem.W.nsIn K mainGlobals "sorted"=some none)
 (z_sum:PySem.W.nsIn K mainGlobals "sum"=some none)
 (z_tuple:PySem.W.nsIn K mainGlobals "tuple"=some none)
 {u_MOST_STANDINGS:Value}(m_MOST_STANDINGS:PySem.W.nsIn K mainGlobals "MOST_STANDINGS"=some (some u_MOST_STANDINGS))
 (r_MOST_STANDINGS:RelV (.int 2000) u_MOST_STANDINGS)
 {u_HEAD:Value}(m_HEAD:PySem.W.nsIn K mainGlobals "HEAD"=some (some u_HEAD))
 (r_HEAD:RelV (.int 4) u_HEAD),R)→R
theorem walk2 {l:PySem.W.OpenLaw}{q:Program}{loose:List Str}{XP:(Str→Option Value)→Heap→Prop}{YP:World→Heap→Prop}{d:DefRec}{K:Params→PySem.W.Frag}(hn:l.most=some 63) (hdf:d.params.defaults=[]) (hd:d.name="law") (hl:l=PySem.Challenge.rw_callmill_k71_cells_spoilt) (hY:∀ (w:World) (h:Heap),YP w h→(K w.params).In h) (hF:∀ P,HF P (K P)) (G:∀ K:Params→PySem.W.Frag,(∀ P,HF P (K P))→(∀ (w:World) (mg:Str→Option Value) (fa:Addr) (h:Heap),(K w.params).In h→h.Ns mainGlobals mg→mg "law"=some (.ref fa)→∃ fd:FuncData,(∀ (s:Shared) (u:Value),BindsTo s fd ⟨[u],[]⟩ [("script",u)])∧∀ base:Heap,(K w.params).In base→base.Ns mainGlobals mg→FnOk PySem.Challenge.rw_callmill_k71_cells_spoilt.prog w (K w.params) mg base CX0 6 fa fd ["script"] (ai7 (K w.params)))):PySem.W.WalkO q loose XP YP l.row.toRowW d [] (fun f vs=>PySem.call f vs):=walk hn hdf hY (by rw [hd,hl]; exact G K hF)
section
open PySem PySem.W PyProof.Rows
local macro_rules | `(tactic| o_head $H) => `(tactic| refine holds_open (q := K71.view) (loose := []) (Xt := fun s => xlAt K71.view [] s && recOk (RowW.records _) s) (XP := XL K71.view []) (Yf := Hook.obs $H) (Ya := Hook.val $H) (YP := Hook.says $H) (N := 8000) ?hl (Hook.of $H) (Hook.keeps $H) (fun s e => xl_of s (Bool.and_eq_true_iff.mp e).1) XL.keeps (by rfl) (by rfl) (by rfl) (fun s e => recFacts_of (Bool.and_eq_true_iff.mp e).2) (by rfl) (by first | assumption | decide +kernel) (by decide +kernel) ⟨rfl, rfl, rfl, rfl, rfl, by decide +kernel⟩ ?hw ?hc)
def bt:List Obj→Nat→BT→BT
 | [],_,t=>t
 | o::l,i,t=>bt l (i+1) (t.ins i o)
noncomputable def T0 (P:Params):BT:=bt (boot_heap P).objs.toList 0 .nil
def runT (tb:String→Option Builtin) (p:Program) (w:World) (n₀:Nat) (ann:Option Value):Nat→SharedT→Thread→Option SharedT
 | 0,_,_=>none
 | n+1,s,t=>match through t with
   | true=>some s
   | false=>match stepOk n₀ ann t with
     | false=>none
     | true=>match stepT (denote tb) p w s t with
       | some (s',t')=>runT tb p w n₀ ann n s' t'
       | none=>none
theorem az6 {tb:String→Option Builtin}{p:Program}{w:World}{n₀:Nat}{ann:Option Value}:∀ {n:Nat}{s s':SharedT}{t:Thread},runT tb p w n₀ ann n s t=some s'→topRun tb p w n₀ ann n s.abs t=some s'.abs
 | 0,_,_,_,h=>by cases h
 | n+1,s,s',t,h=>by
   unfold runT at h
   unfold topRun
   cases he:through t with
   | true=>rw [he] at h; cases h; rfl
   | false =>
     rw [he] at h
     cases hk:stepOk n₀ ann t with
     | false=>rw [hk] at h; cases h
     | true =>
       rw [hk] at h
       cases hs:stepT (denote tb) p w s t with
       | none=>rw [hs] at h; cases h
       | some r=>obtain ⟨s₂,t₂⟩:=r; rw [hs] at h; rw [stepT_spec hs]; exact az6 h
theorem az7 {p q:Program}{loose:List Str}{Xt:Shared→Bool}{α:Type}{Yf:Shared→α}{Ya:World→α}{N:Nat}{g0:Bool}{m₀:Nat}{ann:Option Value}(e:opening p=plainProg p.main.scope.names) (hN:Nat.ble 600 N=true) (f:∀ s,fenceModules? p s=some s)
 (b:∀ P,boot_heap P=absHeap (T0 P) m₀ (boot_heap P).life) (z:∀ w:World,(boot_heap w.params).isNs mainGlobals=true∧(boot_heap w.params).objs.size=m₀∧(boot_heap w.params).nsMap mainGlobals "__annotations__"=ann)
 (h:∀ (w:World) (os:OsState),(runT treeTable p w m₀ ann N ⟨T0 w.params,m₀,(boot_heap w.params).life,Array.mk [],boot_drawn,boot_toks,os⟩ (topStub p)).map (fun s=>(staticsOk (importedModules p.main.body) (boot_heap w.params) s.abs.heap && namesBound p s.abs.heap && gensDone s.abs && laidKept (boot_heap w.params) s.abs.heap,openSeen q loose (importedModules p.main.body) Xt g0 s.abs,Yf s.abs))=some (true,openGood q loose,Ya w)):LeftO p q loose Xt Yf Ya N g0:=fun w=>by
 obtain ⟨⟨hp,g,d,k,os⟩,hs,hv⟩:=Option.map_eq_some_iff.mp (boot_open e hN f w)
 injection hv with v1 v2
 injection v2 with v2 v3
 injection v3 with v3 v4
 dsimp only at v1 v2 v3 v4
 subst v1 v2 v3 v4
 obtain ⟨z1,z2,z3⟩:=z w
 obtain ⟨s',h1,h2⟩:=Option.map_eq_some_iff.mp (h w os)
 obtain ⟨l1,l2,l3⟩:_∧_∧_:=by simpa only [Prod.mk.injEq] using h2
 have r:=az6 h1
 have r':topRun treeTable p w m₀ ann N ⟨boot_heap w.params,Array.mk [],boot_drawn,boot_toks,os⟩ (topStub p)=some s'.abs:=by
  rw [b w.params]
  exact r
 unfold openEnds
 rw [hs]
 show (topFrom treeTable p w N _).map _=_
 unfold topFrom
 dsimp only
 rw [z1,z2,z3,r']
 show (match staticsOk (importedModules p.main.body) (boot_heap w.params) s'.abs.heap && namesBound p s'.abs.heap && gensDone s'.abs && laidKept (boot_heap w.params) s'.abs.heap with | true=>some s'.abs | false=>none).map _=_
 rw [l1]
 exact congrArg some (Prod.ext l2 l3)
theorem bh3 (P:Params):boot_heap P=absHeap (T0 P) 11 (boot_heap P).life:=by kernel_rfl
theorem bh4 (w:World):(boot_heap w.params).isNs mainGlobals=true∧(boot_heap w.params).objs.size=11∧(boot_heap w.params).nsMap mainGlobals "__annotations__"=some (.ref 6):=⟨by kernel_rfl,by kernel_rfl,by kernel_rfl⟩
set_option maxRecDepth 100000 in
set_option maxHeartbeats 0 in
theorem head (G:∀ K:Params→PySem.W.Frag,(∀ P,HF P (K P))→(∀ (w:World) (mg:Str→Option Value) (fa:Addr) (h:Heap),(K w.params).In h→h.Ns mainGlobals mg→mg "law"=some (.ref fa)→∃ fd:FuncData,(∀ (s:Shared) (u:Value),BindsTo s fd ⟨[u],[]⟩ [("script",u)])∧∀ base:Heap,(K w.params).In base→base.Ns mainGlobals mg→FnOk PySem.Challenge.rw_callmill_k71_cells_spoilt.prog w (K w.params) mg base CX0 6 fa fd ["script"] (ai7 (K w.params)))):PySem.Challenge.rw_callmill_k71_cells_spoilt.Holds:=by
 w_on; o_law; k_head; (case hw=>w_witness2); (case hl=>exact az7 rfl rfl (fun _=>rfl) bh3 bh4 (by intro w os; kernel_rfl))
 k_fill
 refine K71.walk2 (l:=PySem.Challenge.rw_callmill_k71_cells_spoilt) rfl rfl rfl rfl (fun w h Y=>PySem.W.kIn_of Y) ?facts G
 case facts =>
  intro P R kk
  refine' kk ?a0 ?l0 ?c0 ?k0 ?a1 ?l1 ?c1 ?k1 ?a2 ?l2 ?c2 ?k2 ?a3 ?l3 ?c3 ?k3 ?a4 ?l4 ?c4 ?k4 ?a5 ?l5 ?c5 ?k5 ?a6 ?l6 ?c6 ?k6 ?a7 ?l7 ?c7 ?k7 ?a8 ?l8 ?c8 ?k8 ?a9 ?l9 ?c9 ?k9 ?a10 ?l10 ?c10 ?k10 ?a11 ?l11 ?c11 ?k11 ?a12 ?l12 ?c12 ?k12 ?a13 ?l13 ?c13 ?k13 ?a14 ?l14 ?c14 ?k14 ?a15 ?l15 ?c15 ?k15 ?a16 ?l16 ?c16 ?k16 ?a17 ?l17 ?c17 ?k17 ?a18 ?l18 ?c18 ?k18 ?a19 ?l19 ?c19 ?k19 ?a20 ?l20 ?c20 ?k20 ?a21 ?l21 ?c21 ?k21 ?a22 ?l22 ?c22 ?k22 ?a23 ?l23 ?c23 ?k23 ?z_all ?z_bool ?z_enumerate ?z_isinstance ?z_len ?z_list ?z_max ?z_min ?z_range ?z_set ?z_sorted ?z_sum ?z_tuple ?m_MOST_STANDINGS ?r_MOST_STANDINGS ?m_HEAD ?r_HEAD
  (case a0=>k_is)
  (case l0=>k_is)
  (case c0=>k_is)
  (case k0=>k_is)
  (case a1=>k_is)
  (case l1=>k_is)
  (case c1=>k_is)
  (case k1=>k_is)
  (case a2=>k_is)
  (case l2=>k_is)
  (case c2=>k_is)
  (case k2=>k_is)
  (case a3=>k_is)
  (case l3=>k_is)
  (case c3=>k_is)
  (case k3=>k_is)
  (case a4=>k_is)
  (case l4=>k_is)
  (case c4=>k_is)
  (case k4=>k_is)
  (case a5=>k_is)
  (case l5=>k_is)
  (case c5=>k_is)
  (case k5=>k_is)
  (case a6=>k_is)
  (case l6=>k_is)
  (case c6=>k_is)
  (case k6=>k_is)
  (case a7=>k_is)
  (case l7=>k_is)
  (case c7=>k_is)
  (case k7=>k_is)
  (case a8=>k_is)
  (case l8=>k_is)
  (case c8=>k_is)
  (case k8=>k_is)
  (case a9=>k_is)
  (case l9=>k_is)
  (case c9=>k_is)
  (case k9=>k_is)
  (case a10=>k_is)
  (case l10=>k_is)
  (case c10=>k_is)
  (case k10=>k_is)
  (case a11=>k_is)
  (case l11=>k_is)
  (case c11=>k_is)
  (case k11=>k_is)
  (case a12=>k_is)
  (case l12=>k_is)
  (case c12=>k_is)
  (case k12=>k_is)
  (case a13=>k_is)
  (case l13=>k_is)
  (case c13=>k_is)
  (case k13=>k_is)
  (case a14=>k_is)
  (case l14=>k_is)
  (case c14=>k_is)
  (case k14=>k_is)
  (case a15=>k_is)
  (case l15=>k_is)
  (case c15=>k_is)
  (case k15=>k_is)
  (case a16=>k_is)
  (case l16=>k_is)
  (case c16=>k_is)
  (case k16=>k_is)
  (case a17=>k_is)
  (case l17=>k_is)
  (case c17=>k_is)
  (case k17=>k_is)
  (case a18=>k_is)
  (case l18=>k_is)
  (case c18=>k_is)
  (case k18=>k_is)
  (case a19=>k_is)
  (case l19=>k_is)
  (case c19=>k_is)
  (case k19=>k_is)
  (case a20=>k_is)
  (case l20=>k_is)
  (case c20=>k_is)
  (case k20=>k_is)
  (case a21=>k_is)
  (case l21=>k_is)
  (case c21=>k_is)
  (case k21=>k_is)
  (case a22=>k_is)
  (case l22=>k_is)
  (case c22=>k_is)
  (case k22=>k_is)
  (case a23=>k_is)
  (case l23=>k_is)
  (case c23=>k_is)
  (case k23=>k_is)
  (case z_all=>k_is)
  (case z_bool=>k_is)
  (case z_enumerate=>k_is)
  (case z_isinstance=>k_is)
  (case z_len=>k_is)
  (case z_list=>k_is)
  (case z_max=>k_is)
  (case z_min=>k_is)
  (case z_range=>k_is)
  (case z_set=>k_is)
  (case z_sorted=>k_is)
  (case z_sum=>k_is)
  (case z_tuple=>k_is)
  (case m_MOST_STANDINGS=>k_is)
  (case r_MOST_STANDINGS=>exact ⟨_,rfl⟩)
  (case m_HEAD=>k_is)
  (case r_HEAD=>exact ⟨_,rfl⟩)
end
end K71
namespace L2
open PySem PySem.Spec PyProof.Rows
section
variable {κ:Type} [DecidableEq κ]
end
section
variable {P:Program}{w:World}{H:Hp}{h:Heap}{a:Addr}
end
section
variable {X:Cx}{pins:List (Addr×Obj)}{σ:St} {H:Hp}{s:Shared}{a:Addr}{y v:V}{u r:Value}{o:Option V}{A:Around}{E:Value→Shared→Prop}
end
section
variable {X:Cx}{pins:List (Addr×Obj)}{σ:St} {H:Hp}{s:Shared}{a:Addr}{kvs:List (Key×V)}{k:Key}{u:Value}{A:Around}{E:Value→Shared→Prop}
end
section
variable {X:Cx}{o i e value:Expr}{pos pos' tpos:Pos}{td ty tv:TE}
end
section
variable {X:Cx}{pos:Pos}
end
section
variable {X:Cx}{pins:List (Addr×Obj)}{σ:St} {H:Hp}{s:Shared}{a:Addr}{y d:V}{u r:Value}{o:Option V}{A:Around}{E:Value→Shared→Prop}
end
section
variable {X:Cx}{o e f:Expr}{apos cpos:Pos}{td ty tx:TE}
end
section
variable {X:Cx}{pins:List (Addr×Obj)}{σ:St} {H:Hp}{s:Shared}{a:Addr}{kvs:List (Key×V)}{A:Around}{E:Value→Shared→Prop}
end
section
variable {X:Cx}{pins:List (Addr×Obj)}{σ:St} {H:Hp}{s:Shared}{a:Addr}{y:V}{u:Value}{A:Around}{E:Value→Shared→Prop}
end
section
variable {κ:Type} [DecidableEq κ]
end
def cxC (X:Cx) (N:List Str) (scope:Scope) (cl:List (Str×Addr)) (C:Addr) (s0:Shared) (H0:Hp) (ex:List Addr):Cx :=
 { X with N:=N,s₀:=s0,H₀:=H0,env:=compEnvC scope cl C X.env,outer:=X.stack,stack:=X.stack,ex:=ex,fn:=fun _=>false,pn:=[],xe:=fun _ _=>False }
theorem ai8 {env : Env} (has : ∀ x, (env.kindOf x = some .cell ∨ env.kindOf x = some .free) → ∃ c, env.cells.lookup x = some c) {scope : Scope}
    (hf : ∀ y ∈ scope.names, y.2 = .free → env.kindOf y.1 = some .cell ∨ env.kindOf y.1 = some .free) :
    ∃ cl, closureFor scope env = pure cl ∧ (∀ x c, cl.lookup x = some c → env.cells.lookup x = some c) ∧ (∀ y ∈ scope.names, y.2 = .free → ∃ c, cl.lookup y.1 = some c) := by
  have gen : ∀ (names : List (Str × NameKind)) (cs : List (Str × Addr)), (∀ y ∈ names, y.2 = .free → env.kindOf y.1 = some .cell ∨ env.kindOf y.1 = some .free) →
      (∀ x c, cs.lookup x = some c → env.cells.lookup x = some c) →
      ∃ cl, (forIn (m := Sem) names cs fun p r => do
          match p with
          | (name, kind) => if kind == .free then do let c ← cellOf env name; pure (ForInStep.yield ((name, c) :: r)) else pure (ForInStep.yield r)) = pure cl ∧
        (∀ x c, cl.lookup x = some c → env.cells.lookup x = some c) ∧ (∀ x c, cs.lookup x = some c → ∃ c, cl.lookup x = some c) ∧ (∀ y ∈ names, y.2 = .free → ∃ c, cl.lookup y.1 = some c) := by
    intro names
    induction names with
    | nil => intro cs _ h; exact ⟨cs, rfl, h, fun x c e => ⟨c, e⟩, fun y hy => nomatch hy⟩
    | cons p r ih =>
      intro cs hp h
      obtain ⟨n, k⟩ := p
      by_cases hk : k = .free
      · subst hk
        obtain ⟨c, hc⟩ := has n (hp (n, .free) List.mem_cons_self rfl)
        have h' : ∀ x d, ((n, c) :: cs).lookup x = some d → env.cells.lookup x = some d := by
          intro x d e
          rw [List.lookup_cons] at e
          cases hx : x == n with
          | true =>
            rw [hx] at e
            have : x = n := by simpa using hx
            cases e; rw [this]; exact hc
          | false => rw [hx] at e; exact h x d e
        obtain ⟨cl, e1, e2, e3, e4⟩ := ih ((n, c) :: cs) (fun y hy => hp y (List.mem_cons_of_mem _ hy)) h'
        have hn : ∃ d, cl.lookup n = some d := e3 n c (by simp [List.lookup_cons])
        refine ⟨cl, ?_, e2, fun x d e => ?_, fun y hy hyk => ?_⟩
        · rw [List.forIn_cons]
          have : cellOf env n = pure c := by unfold cellOf; rw [hc]
          simp only [beq_self_eq_true, if_true, this]
          exact e1
        · by_cases hx : x = n
          · subst hx; exact hn
          · exact e3 x d (by rw [List.lookup_cons]; have : (x == n) = false := by simpa using hx
                             rw [this]; exact e)
        · rcases List.mem_cons.mp hy with rfl | hy
          · exact hn
          · exact e4 y hy hyk
      · obtain ⟨cl, e1, e2, e3, e4⟩ := ih cs (fun y hy => hp y (List.mem_cons_of_mem _ hy)) h
        refine ⟨cl, ?_, e2, e3, fun y hy hyk => ?_⟩
        · rw [List.forIn_cons]
          have : (k == NameKind.free) = false := by simpa using hk
          simp only [this]
          exact e1
        · rcases List.mem_cons.mp hy with rfl | hy
          · exact absurd hyk hk
          · exact e4 y hy hyk
  obtain ⟨cl, e1, e2, _, e4⟩ := gen scope.names [] hf (fun x c e => nomatch e)
  refine ⟨cl, ?_, e2, e4⟩
  unfold closureFor
  simp only []
  exact congrArg (· >>= fun cs => pure cs) e1 |>.trans rfl
theorem ap2 {scope:Scope}{env:Env}{x:Str}{k:NameKind}(h:(relabel scope env).names.lookup x=some k) (hk:k=.cell∨k=.free) (nc:∀ y∈scope.names,y.2≠.cell):∃ y∈scope.names,y.1=x∧y.2=.free:=by
 have gen:∀ names:List (Str×NameKind),(names.map fun (n,k)=>if (k == NameKind.free && env.scope.kind == .function && env.kindOf n == some .cell) then (n,NameKind.cell) else (n,k)).lookup x=some k→(∀ y∈names,y.2≠.cell) →
  ∃ y∈names,y.1=x∧y.2=.free:=by
  intro names
  induction names with
  | nil=>intro h _; cases h
  | cons p r ih =>
    obtain ⟨n,j⟩:=p
    intro h nc
    rw [List.map_cons,List.lookup_cons] at h
    have e1:(if (j == NameKind.free && env.scope.kind == .function && env.kindOf n == some .cell)=true then (n,NameKind.cell) else (n,j)).1=n:=by split <;> rfl
    dsimp only at h
    rw [e1] at h
    cases hx:x == n with
    | false =>
      rw [hx] at h
      obtain ⟨y,hy,q⟩:=ih h fun y hy=>nc y (List.mem_cons_of_mem _ hy)
      exact ⟨y,List.mem_cons_of_mem _ hy,q⟩
    | true =>
      rw [hx] at h
      have ex:x=n:=by simpa using hx
      have hj:j=.free:=by
       by_cases hc:(j == NameKind.free && env.scope.kind == .function && env.kindOf n == some .cell)=true
       · have:=(Bool.and_eq_true _ _).mp ((Bool.and_eq_true _ _).mp hc).1
         simpa using this.1
       · rw [if_neg hc] at h
         cases h
         rcases hk with z | z
         · exact absurd z (nc (n,j) List.mem_cons_self)
         · exact z
      exact ⟨(n,j),List.mem_cons_self,ex.symm,hj⟩
 exact gen scope.names h nc
section
variable {X:Cx}{pins:List (Addr×Obj)}{σ:St} {H:Hp}{s:Shared}{N:List Str}{scope:Scope}{cl:List (Str×Addr)}{C:Addr}{ex:List Addr}
theorem bh5 (I:Inv X pins σ H s) (hC:s.heap.objs.size≤C) (hkind:scope.kind=.function) (nc:∀ y∈scope.names,y.2≠.cell)
 (hcl:∀ x c,cl.lookup x=some c→X.env.cells.lookup x=some c) (hcf:∀ y∈scope.names,y.2=.free→∃ c,cl.lookup y.1=some c)
 (hex:∀ b∈ex,FpOk X pins H b) (hexl:∀ b∈ex,b<s.heap.objs.size):(cxC X N scope cl C s H ex).Ok where
 mod:=I.ok.mod
 kind:=hkind
 glob:=I.ok.glob
 blt:=I.ok.blt
 above:=hC
 inj:=fun x y c h1 h2=>I.ok.inj x y c (hcl x c h1) (hcl y c h2)
 has:=fun x hx=>by
  have hx':∃ k,(relabel scope X.env).names.lookup x=some k∧(k=.cell∨k=.free):=by
   rcases hx with h | h
   · exact ⟨_,h,.inl rfl⟩
   · exact ⟨_,h,.inr rfl⟩
  obtain ⟨k,h,hk⟩:=hx'
  obtain ⟨y,hy,e1,e2⟩:=ap2 h hk nc
  rw [← e1]
  exact hcf y hy e2
 cab:=fun x c h=>by cases h
 hd:=I.ok.hd
 frames:=I.ok.frames
 stk:=.inl rfl
 exf:=fun b hb=>⟨Nat.ne_of_lt (Nat.lt_of_lt_of_le (hexl b hb) hC),fun x c e=>(hex b hb).2.2.2.2.1 x c (hcl x c e)⟩
 bs:=I.bs
 bsz:=Nat.le_trans I.ok.bsz I.sz
 noex:=fun b o e hb=>by
  rcases (hex b hb).2.2.2.1 with z | z
  · exact I.ok.noex b o e z
  · have h1:=Heap.lt_size e
    have h2:=I.ok.bsz
    exact absurd (Nat.lt_of_lt_of_le h1 (Nat.le_trans h2 z)) (Nat.lt_irrefl _)
 exfs:=fun b hb z=>by
  have h1:=I.stkSub b z
  rcases List.mem_cons.mp h1 with z | z
  · exact (hex b hb).2.1 z
  · exact (hex b hb).2.2.1 z
 funs:=I.stack
 frf:=I.stkFree
def capV (caps:List Nat) (σ:St):St:=caps.map fun j=>(σ[j]?).join
def cSt (n:Nat) (caps:List Nat) (σ:St):St:=List.replicate n none++capV caps σ
theorem bc8 {caps:List Nat}{Nt Nf:List Str}{s1:Shared}{m:Str→Option Value}(I:Inv X pins σ H s) (ok:(cxC X (Nt++Nf) scope cl C s H ex).Ok)
 (hcl:∀ x c,cl.lookup x=some c→X.env.cells.lookup x=some c)
 (hcap:caps.map (fun j=>X.N[j]?)=Nf.map some)
 (hvis:∀ x∈Nf,scope.names.lookup x=some .free) (hXv:∀ x∈Nf,X.env.kindOf x=some .cell∨X.env.kindOf x=some .free) (hcf:∀ x∈Nf,∃ c,cl.lookup x=some c)
 (hos:s1.os=s.os) (hgens:s1.gens=s.gens) (hk:∀ b o,s.heap.get? b=some o→s1.heap.get? b=some o) (hns:s1.heap.Ns C m) (hC:s.heap.objs.size≤C) :
 Inv (cxC X (Nt++Nf) scope cl C s H ex) [] (cSt Nt.length caps σ) H s1:=by
 have hlen:caps.length=Nf.length:=by
  have:=congrArg List.length hcap
  simpa using this
 refine ⟨ok,hos,by rw [hgens]; exact I.bare,Un.kept hk,⟨m,hns,fun i x v h1 h2 h3=>?_⟩,fun x c e=>?_,I.hok.fresh hC,fun x c e=>I.freeC x c (hcl x c e),fun p hp=>absurd (show p∈([]:List (Addr×Obj)) from hp) (by simp),I.hok.kept hk,?_⟩
 · -- a captured name
   have hi:Nt.length≤i:=by
    refine Nat.le_of_not_lt fun q=>?_
    unfold cSt at h2
    rw [List.getElem?_append_left (by simpa using q),List.getElem?_replicate] at h2
    split at h2 <;> cases h2
   have h1':Nf[i - Nt.length]?=some x:=by
    have:(Nt++Nf)[i]?=some x:=h1
    rwa [List.getElem?_append_right hi] at this
   unfold cSt at h2
   rw [List.getElem?_append_right (by simpa using hi)] at h2
   have e0:i - (List.replicate Nt.length (none:Option V)).length=i - Nt.length:=by simp
   rw [e0] at h2
   generalize hj:i - Nt.length=j at h1' h2
   unfold capV at h2
   rw [List.getElem?_map] at h2
   cases hc:caps[j]? with
   | none=>rw [hc] at h2; cases h2
   | some jj =>
     rw [hc] at h2
     have h2':(σ[jj]?).join=some v:=Option.some.inj h2
     have h2'':σ[jj]?=some (some v):=by
      cases q:σ[jj]? with
      | none=>rw [q] at h2'; cases h2'
      | some z=>rw [q] at h2'; cases z with
        | none=>cases h2'
        | some z'=>cases h2'; rfl
     have hN:X.N[jj]?=some x:=by
      have q:=congrArg (fun l=>l[j]?) hcap
      simp only [List.getElem?_map,hc,h1',Option.map_some] at q
      exact Option.some.inj q
     have hx:x∈Nf:=List.mem_of_getElem? h1'
     have hXk:=hXv x hx
     obtain ⟨mX,_,hl⟩:=I.loc
     obtain ⟨u,ru,lk⟩:=hl jj x v hN h2'' (by
      rcases hXk with z | z
      · exact .inr (.inl z)
      · exact .inr (.inr z))
     refine ⟨u,ru,.inr ?_⟩
     rcases lk with ⟨z,_⟩ | ⟨_,c,hc1,hcell⟩
     · rcases hXk with y | y <;> (rw [z] at y; cases y)
     · obtain ⟨c',hc'⟩:=hcf x hx
       have e:=hcl x c' hc'
       rw [hc1] at e; cases e
       refine ⟨?_,c,hc',?_⟩
       · rcases h3 with z | z | z
         · -- not a local of the block
           exfalso
           have hfree:=hvis x hx
           have z':(relabel scope X.env).names.lookup x=some .local:=z
           have gen:∀ names:List (Str×NameKind),names.lookup x=some .free→(names.map fun (n,k)=>if (k == NameKind.free && X.env.scope.kind == .function && X.env.kindOf n == some .cell) then (n,NameKind.cell) else (n,k)).lookup x≠some .local:=by
            intro names
            induction names with
            | nil=>intro h; cases h
            | cons p r ih =>
              obtain ⟨n,k⟩:=p
              intro h
              rw [List.map_cons,List.lookup_cons]
              rw [List.lookup_cons] at h
              have e1:(if (k == NameKind.free && X.env.scope.kind == .function && X.env.kindOf n == some .cell)=true then (n,NameKind.cell) else (n,k)).1=n:=by split <;> rfl
              dsimp only
              rw [e1]
              cases hx:x == n with
              | false=>rw [hx] at h; exact ih h
              | true =>
                rw [hx] at h
                cases h
                show some (if _ then (n,NameKind.cell) else (n,NameKind.free)).2≠some .local
                split <;> (intro q; cases q)
           exact gen scope.names hfree z'
         · exact .inl z
         · exact .inr z
       · obtain ⟨o,eo,d⟩:=hcell
         exact ⟨o,hk _ _ eo,d⟩
 · obtain ⟨v,q⟩:=I.cell x c (hcl x c e)
   obtain ⟨o,eo,d⟩:=q
   exact ⟨v,o,hk _ _ eo,d⟩
 · show (cSt Nt.length caps σ).length=(Nt++Nf).length
   unfold cSt capV
   simp [hlen]
end
abbrev askIfs (ifs:List Expr) (env:Env):Sem Bool:=forIn ifs true fun c r=>if r=true then do let ok←isTrue c env (eval c env); pure (ForInStep.yield ok) else pure (ForInStep.yield r)
abbrev NoX:Value→Shared→Prop:=fun _ _=>False
theorem ap3 {P:Program}{w:World}{B:Around}{R:Result→Shared→Prop}{s:Shared}{y tg l:Expr}{cs:List Expr}{sc:Scope}{ps:Pos}{iv av:Value}{en:Env}(G:Nat→Shared→Prop)
 (one:∀ n s,G n s→wpAny (model P w) B (pyNext iv) (fun r s1=>match r with
  | none=>R (.ok .next) s1
  | some v=>wpAny (model P w) B (letOwnedTupleGo tg iv v) (fun _ s1=>wpAny (model P w) B (assign tg en v) (fun _ s2=>wpAny (model P w) B (askIfs cs en) (fun k s3 =>
   if k=true then wpAny (model P w) B (eval y en) (fun x s4=>wpAny (model P w) B (call (.builtin "list.append") [av,x]) (fun _ s5=>∃ m,m<n∧G m s5) NoX s4) NoX s3
   else ∃ m,m<n∧G m s3) NoX s2) NoX s1) NoX s1) NoX s) (n:Nat) (h:G n s) :
 codeAny (model P w) B (.compLoop (.ListComp y [⟨tg,l,cs,0⟩] sc ps) 0 iv av en) R s:=by
 refine codeAny_loop rfl G (fun n s hG=>?_) n h
 show wpAny _ B ((compTurn (.ListComp y [⟨tg,l,cs,0⟩] sc ps) 0 iv av en).onRaise (fun x=>do noteFrame x en; theTreesLotGoes x)) _ _ s
 refine wpAny_noted ?_
 rw [compTurn_list]
 refine wpAny_bind (wpAny_standAt (wpAny_bind (wpAny_mono (one n s hG) (fun r s1 h1=>?_) fun _ _ z=>z.elim)))
 cases r with
 | none=>exact wpAny_pure h1
 | some v =>
   refine wpAny_bind (wpAny_mono h1 (fun _ s1' h1'=>?_) fun _ _ z=>z.elim)
   refine wpAny_bind (wpAny_mono h1' (fun _ s2 h2=>wpAny_bind (wpAny_mono h2 (fun k s3 h3=>?_) fun _ _ z=>z.elim)) fun _ _ z=>z.elim)
   cases k with
   | false=>exact wpAny_pure ⟨rfl,h3⟩
   | true=>exact wpAny_bind (wpAny_bind (wpAny_mono h3 (fun x s4 h4=>wpAny_bind (wpAny_mono h4 (fun _ s5 h5=>wpAny_pure (wpAny_pure ⟨rfl,h5⟩)) fun _ _ z=>z.elim)) fun _ _ z=>z.elim))
def PTs (X:Cx) (ifs:List Expr) (t:TT):Prop :=
 ∀ (pins:List (Addr×Obj)) (s:Shared) (σ:St) (H:Hp) (Q:Bool→Hp→Prop),Inv X pins σ H s→t σ H Q →
  wpAny (model X.prog X.w) X.A (askIfs ifs X.env) (TP X pins σ Q) X.xe s
def tNoIf:TT:=fun _ H Q=>Q true H
theorem a88 {X:Cx}:PTs X [] tNoIf:=fun pins s σ H Q I h=>wpAny_tests_nil ⟨H,I,h⟩
theorem af3 {X:Cx}{c:Expr}{t:TT}(h:PT X c t):PTs X [c] t:=fun pins s σ H Q I q=>wpAny_tests_one (h pins s σ H Q I q)
section
variable {X:Cx}{pins:List (Addr×Obj)}{σ:St} {H:Hp}{s:Shared}
theorem Inv.adopt {D:Addr}{o:HO}(I:Inv X pins σ H s) (hD:H D=none) (h1:X.s₀.heap.objs.size≤D) (h2:D≠X.env.locals) (h3:∀ x c,X.env.cells.lookup x=some c→c≠D) (h4:∀ p∈X.pn++pins,p.1≠D)
 (new:ObjOk X.prog X.w (upd H D o) s.heap D o):Inv X pins σ (upd H D o) s:=by
 have old:∀ {b:Addr}{q:Obj},X.s₀.heap.get? b=some q→b≠D:=fun e=>Nat.ne_of_lt (Nat.lt_of_lt_of_le (Heap.lt_size e) h1)
 refine ⟨I.ok,I.os,I.bare,⟨I.base.keep,I.base.slot,fun b q e n hx=>by rw [a37 (old e)]; exact I.base.free b q e n hx,I.base.there,fun b xs e=>?_,fun b q u e=>?_,fun b ps e=>?_⟩,I.loc,I.cell,by rw [a37 (Ne.symm h2)]; exact I.free,fun x c e=>by rw [a37 (h3 x c e)]; exact I.freeC x c e,fun p hp=>?_,fun b u e=>?_,I.len⟩
 · have e':=I.base.tups b xs e
   rw [a37 (a06 e' hD)]; exact e'
 · have e':=I.base.frzs b q u e
   rw [a37 (a06 e' hD)]; exact e'
 · obtain ⟨more,e'⟩:=I.base.tbls b ps e
   exact ⟨more,by rw [a37 (a06 e' hD)]; exact e'⟩
 · obtain ⟨a1,a2,a3,a4,a5⟩:=I.pin p hp
   exact ⟨a1,by rw [a37 (h4 p hp)]; exact a2,a3,a4,a5⟩
 · by_cases hb:b=D
   · subst hb; rw [a65] at e; cases e; exact new
   · rw [a37 hb] at e
     exact (I.hok b u e).stay (fun c v _ q=>q) (fun c q=>by rw [a37 (a06 q hD)]; exact q) fun c xs q=>by rw [a37 (a06 q hD)]; exact q
def tLC (wi:TI) (g:TG) (tt:TT) (te:TE) (n:Nat) (caps:List Nat):TE:=fun σ H Q=>wi σ H fun J H1=>∃ W:Nat→Nat→List V→St→Hp→Prop,(∃ m,W 0 m [] (cSt n caps σ) H1)∧∀ i m acc σ' H',W i m acc σ' H' →
 (J.stop i H'∧∀ l,H' l=none→Q (.ref l) (upd H' l (.lst acc))) ∨
 (J.go i H'∧acc.length<sizeLine∧∃ N:List V→St→Hp→Prop,(∀ ac σ2 H2,N ac σ2 H2→∃ m',m'<m∧W (i+1) m' ac σ2 H2)∧∀ x H2,J.yld i H' x H2→g x σ' H2 fun σ3 H3=>tt σ3 H3 fun b H4=>if b=true then te σ3 H4 fun y H5=>N (acc++[y]) σ3 H5 else N acc σ3 H4)
structure CompOk (X:Cx) (scope:Scope) (Nt Nf:List Str) (caps:List Nat):Prop where
 kind:scope.kind=.function
 nc:∀ y∈scope.names,y.2≠.cell
 nm:∀ y∈scope.names,y.2=.local→scope.names.lookup y.1=some .local
 fr:∀ y∈scope.names,y.2=.free→X.env.kindOf y.1=some .cell∨X.env.kindOf y.1=some .free
 cap:caps.map (fun j=>X.N[j]?)=Nf.map some
 vis:∀ x∈Nf,scope.names.lookup x=some .free
theorem ai9 {tg iter elt:Expr}{ifs:List Expr}{scope:Scope}{pos:Pos}{g:TG}{tt:TT}{te:TE}{Nt Nf:List Str}{caps:List Nat}{cl:List (Str×Addr)}{it:Addr}{fp:List Addr}{tn:Nat→Heap→Prop}{J:It}{Q:VK}{E:Value→Shared→Prop}
 {RR:Value→Addr→Result→Shared→Prop}
 (hc:X.calm=true) (S:CompOk X scope Nt Nf caps)
 (hg:∀ cl C s0 H0 ex,PG (cxC X (Nt++Nf) scope cl C s0 H0 ex) tg g)
 (ht:∀ cl C s0 H0 ex,PTs (cxC X (Nt++Nf) scope cl C s0 H0 ex) ifs tt)
 (he:∀ cl C s0 H0 ex,PE (cxC X (Nt++Nf) scope cl C s0 H0 ex) elt te)
 (hcl:∀ x c,cl.lookup x=some c→X.env.cells.lookup x=some c) (hcf:∀ y∈scope.names,y.2=.free→∃ c,cl.lookup y.1=some c)
 (I:Inv X pins σ H s) (T:Turn X.prog X.w X.K tg J fp it tn) (st:tn 0 s.heap) (hfp:∀ b∈fp,FpOk X pins H b)
 (hW:∃ W:Nat→Nat→List V→St→Hp→Prop,(∃ m,W 0 m [] (cSt Nt.length caps σ) H)∧∀ i m acc σ' H',W i m acc σ' H' →
  (J.stop i H'∧∀ l,H' l=none→Q (.ref l) (upd H' l (.lst acc))) ∨
  (J.go i H'∧acc.length<sizeLine∧∃ N:List V→St→Hp→Prop,(∀ ac σ2 H2,N ac σ2 H2→∃ m',m'<m∧W (i+1) m' ac σ2 H2)∧∀ x H2,J.yld i H' x H2→g x σ' H2 fun σ3 H3=>tt σ3 H3 fun b H4=>if b=true then te σ3 H4 fun y H5=>N (acc++[y]) σ3 H5 else N acc σ3 H4))
 (fin:∀ D C m s' H',Inv X pins σ H' s'→Q (.ref D) H'→s'.heap.Ns C m→H' C=none→C≠X.env.locals→X.s₀.heap.objs.size≤C→(∀ x c,X.env.cells.lookup x=some c→c≠C)→(∀ p∈X.pn++pins,p.1≠C)→RR (.ref D) C (.ok .next) s') :
 wpAny (model X.prog X.w) X.A (newList []) (fun acc s₃=>wpAny (model X.prog X.w) X.A (newFunctionEnv scope X.env.globals cl [] X.env.qual none .none (some X.env)) (fun cenv s₄ =>
  codeAny (model X.prog X.w) X.A (.compStart (.ListComp elt [⟨tg,iter,ifs,0⟩] scope pos) 0 (.ref it) acc { cenv with scope:=relabel scope X.env }) (RR acc cenv.locals) s₄) E s₃) E s:=by
 obtain ⟨W,⟨m0,w0⟩,turn⟩:=hW
 refine wpAny_newObj_type (wpAny_newFunctionEnv S.nc (by intro y hy; simp at hy) (fun h₁ hns₁ hsb₁=>?_) S.kind)
 dsimp only at hns₁ hsb₁ ⊢
 generalize hH2:s.heap.push { cls:=.type "list",dict:=none,data:=.seq ([]:List Value).toArray }=P2 at hns₁ hsb₁ ⊢
 have hCs:P2.objs.size=s.heap.objs.size+1:=by rw [← hH2,Heap.size_push]
 have hDC:s.heap.objs.size≠P2.objs.size:=by rw [hCs]; exact Nat.ne_of_lt (Nat.lt_succ_self _)
 have hCle:s.heap.objs.size≤P2.objs.size:=by rw [hCs]; exact Nat.le_succ _
 have below:∀ b,b<s.heap.objs.size→b≠P2.objs.size:=fun b hb=>by rw [hCs]; exact Nat.ne_of_lt (Nat.lt_succ_of_lt hb)
 have old:∀ b o,s.heap.get? b=some o→h₁.get? b=some o:=fun b o e=>hsb₁.extBut b o (below b (Heap.lt_size e)) (Heap.get?_push_of_some _ (hH2 ▸ Heap.get?_push_of_some _ e))
 have hacc:h₁.PlainList s.heap.objs.size #[]:=⟨_,hsb₁.extBut _ _ hDC (Heap.get?_push_of_some _ (hH2 ▸ Heap.get?_push_size _ rfl))⟩
 have fpl:∀ b∈fp,b<s.heap.objs.size:=fun b hb=>by
  obtain ⟨o,e,_⟩:=T.obj _ _ st b hb
  exact Heap.lt_size e
 have st₁:tn 0 h₁:=T.keep _ _ _ st fun b _ o e=>old b o e
 generalize hCe:P2.objs.size=C at hns₁ hsb₁ hDC hCle below ⊢
 generalize hDe:s.heap.objs.size=D at hacc hDC hCle ⊢
 have hDl:X.env.locals<D:=by rw [← hDe]; exact I.lt
 have hDs:X.s₀.heap.objs.size≤D:=by rw [← hDe]; exact I.sz
 have hcD:∀ x c,X.env.cells.lookup x=some c→c<D:=fun x c e=>by
  obtain ⟨v,q⟩:=I.cell x c e
  rw [← hDe]; exact q.lt
 have hpD:∀ p∈X.pn++pins,p.1<D:=fun p hp=>by rw [← hDe]; exact Heap.lt_size (I.pin p hp).1
 let Y:Cx:=cxC X (Nt++Nf) scope cl C s H fp
 have okY:Y.Ok:=bh5 I (by rw [hDe]; exact hCle) S.kind S.nc hcl hcf hfp fpl
 have hfsY:∀ b,b∈Y.fs→b<D:=fun b hb=>by
  rcases List.mem_cons.mp (I.stkSub b hb) with z | z
  · rw [z]; exact hDl
  · refine Nat.lt_of_lt_of_le ?_ hDs
    have:=(I.ok.funs.mem z)
    refine Nat.lt_of_not_le fun q=>?_
    exact absurd z (fun z=>by
     have:=I.nofs (a:=b)
     by_cases hb2:s.heap.objs.size≤b
     · exact this hb2 z
     · obtain ⟨_,o,e,_⟩:=I.ok.funs.mem z
       exact absurd (Heap.lt_size e) (Nat.not_lt.mpr q))
 have loop:∀ s₃:Shared,s₃={ s with heap:=h₁,toks:=s.toks+([]:List (Str×Value)).length } →
  codeAny (model X.prog X.w) X.A (.compLoop (.ListComp elt [⟨tg,iter,ifs,0⟩] scope pos) 0 (.ref it) (.ref D) Y.env) (RR (.ref D) C) s₃:=by
  rintro s₃ rfl
  have I0:Inv Y [] (cSt Nt.length caps σ) H { s with heap:=h₁,toks:=s.toks+([]:List (Str×Value)).length } :=
   bc8 I okY hcl S.cap S.vis (fun x hx=>S.fr (x,.free) (PySem.mem_of_lookup (S.vis x hx)) rfl) (fun x hx=>hcf (x,.free) (PySem.mem_of_lookup (S.vis x hx)) rfl) rfl rfl old hns₁ (by rw [hDe]; exact hCle)
  have fpY:∀ {H':Hp},(∀ b∈fp,H' b=none)→∀ b∈fp,FpOk Y [] H' b:=fun hn b hb =>
   ⟨hn b hb,Nat.ne_of_lt (Nat.lt_of_lt_of_le (fpl b hb) (by rw [hDe]; exact hCle)),okY.exfs b hb,.inl hb,fun x c e=>(hfp b hb).2.2.2.2.1 x c (hcl x c e),fun p hp=>absurd (show p∈([]:List (Addr×Obj)) from hp) (by simp)⟩
  have fpD:∀ b∈fp,b≠D:=fun b hb=>Nat.ne_of_lt (by rw [← hDe]; exact fpl b hb)
  refine ap3 (fun n s'=>∃ i acc its σ' H',Inv Y [] σ' H' s'∧tn i s'.heap∧(∀ b∈fp,H' b=none)∧s'.heap.PlainList D its∧H' D=none∧Vals acc its.toList∧acc.length≤sizeLine∧W i n acc σ' H') ?_ m0
   ⟨0,[],#[],cSt Nt.length caps σ,H,I0,st₁,fun b hb=>(hfp b hb).1,hacc,by rw [← hDe]; exact I.hok.fresh (Nat.le_refl _),.nil,Nat.zero_le _,w0⟩
  rintro n s3 ⟨i,acc,its,σ3,H3,I3,st3,fr3,⟨nd,e3⟩,hD3,rv3,hl3,w3⟩
  have cD:C≠D:=Ne.symm hDC
  have pinOk:∀ {H':Hp}{s':Shared}{o:Obj},s'.heap.get? D=some o→H' D=none→(∀ v,o.data≠.cell v)→s'.heap.get? D=some o∧H' D=none∧D≠Y.env.locals∧D∉Y.fs∧∀ v,o.data≠.cell v:=fun e n d =>
   ⟨e,n,hDC,fun z=>absurd (hfsY D z) (Nat.lt_irrefl _),d⟩
  have I3':Inv Y [(D,{ cls:=.type "list",data:=.seq its nd })] σ3 H3 s3:=I3.pins_of fun p hp=>by
   obtain rfl:p=(D,({ cls:=.type "list",data:=.seq its nd }:Obj)):=List.mem_singleton.mp hp
   exact pinOk e3 hD3 (fun v z=>by cases z)
  have fpY':∀ {H':Hp},(∀ b∈fp,H' b=none)→∀ b∈fp,FpOk Y [(D,{ cls:=.type "list",data:=.seq its nd })] H' b:=fun hn b hb=>by
   obtain ⟨a1,a2,a3,a4,a5,_⟩:=fpY hn b hb
   refine ⟨a1,a2,a3,a4,a5,fun p hp=>?_⟩
   obtain rfl:p=(D,({ cls:=.type "list",data:=.seq its nd }:Obj)):=List.mem_singleton.mp hp
   exact Ne.symm (fpD b hb)
  rcases turn i n acc σ3 H3 w3 with ⟨stop,qn⟩ | ⟨go,hlt,N,hN,step⟩
  · refine thn (T.done Y rfl rfl rfl hc i _ s3 σ3 H3 _ I3' (fpY' fr3) st3 stop) fun r s4 ⟨hr,I4⟩=>?_
    subst hr
    have e4:=(I4.pin (D,{ cls:=.type "list",data:=.seq its nd }) (List.mem_append_right _ List.mem_cons_self)).1
    have IX:Inv X pins σ H3 s4:=I.call' (ch:=fp) I4.os I4.base I4.hok I4.bare fun b hb=>by
     obtain ⟨_,a2,_,a4,a5,a6⟩:=hfp b hb
     exact ⟨a4,a2,a5,a6⟩
    have IA:=IX.adopt (o:=.lst acc) hD3 hDs (Nat.ne_of_gt hDl) (fun x c e=>Nat.ne_of_lt (hcD x c e)) (fun p hp=>Nat.ne_of_lt (hpD p hp)) ⟨hl3,its.toList,nd,rv3,e4⟩
    obtain ⟨m,nsC,_⟩:=I4.loc
    refine fin D C m s4 _ IA (qn D hD3) nsC (by rw [a37 cD]; exact I4.free) ?_ ?_ ?_ ?_
    · exact Nat.ne_of_gt (Nat.lt_of_lt_of_le hDl hCle)
    · exact Nat.le_trans hDs hCle
    · exact fun x c e=>Nat.ne_of_lt (Nat.lt_of_lt_of_le (hcD x c e) hCle)
    · exact fun p hp=>Nat.ne_of_lt (Nat.lt_of_lt_of_le (hpD p hp) hCle)
  · refine thn (T.item Y rfl rfl rfl hc i _ s3 σ3 H3 _ I3' (fpY' fr3) st3 go) fun r s4 ⟨u,hr,h4⟩=>?_
    subst hr
    refine thn h4 fun _ s5 ⟨x,H5,I5,r5,y5,st5,fr5⟩=>?_
    have I5':=I5.pinned (fpY' fr5) (T.obj _ _ st5)
    refine thn (hg cl C s H fp _ s5 σ3 H5 x u _ I5' r5 (step x H5 y5)) fun _ s6 ⟨σ6,H6,I6,q6⟩=>?_
    refine thn (ht cl C s H fp _ s6 σ6 H6 _ I6 q6) fun b s7 ⟨H7,I7,q7⟩=>?_
    have back:∀ {σ':St} {H':Hp}{s':Shared},Inv Y ([(D,{ cls:=.type "list",data:=.seq its nd })]++pinsAt fp s5.heap) σ' H' s' →
     s'.heap.get? D=some { cls:=.type "list",data:=.seq its nd }∧H' D=none∧tn (i+1) s'.heap∧∀ b∈fp,H' b=none:=fun {σ' H' s'} J7=>by
     have hd:=J7.pin (D,{ cls:=.type "list",data:=.seq its nd }) (List.mem_append_right _ (List.mem_append_left _ List.mem_cons_self))
     refine ⟨hd.1,hd.2.1,T.keep _ _ _ st5 fun b hb o e=>(J7.pin (b,o) (List.mem_append_right _ (List.mem_append_right _ (ad1 hb e)))).1,fun b hb=>?_⟩
     obtain ⟨o,e,d⟩:=T.obj _ _ st5 b hb
     exact (J7.pin (b,o) (List.mem_append_right _ (List.mem_append_right _ (ad1 hb e)))).2.1
    cases b with
    | false =>
      rw [if_neg Bool.false_ne_true]
      rw [if_neg Bool.false_ne_true] at q7
      obtain ⟨m',hm,w7⟩:=hN _ _ _ q7
      obtain ⟨b1,b2,b3,b4⟩:=back I7
      exact ⟨m',hm,i+1,acc,its,σ6,H7,I7.pins_of (fun p hp=>nomatch hp),b3,b4,⟨nd,b1⟩,b2,rv3,hl3,w7⟩
    | true =>
      rw [if_pos rfl]
      rw [if_pos rfl] at q7
      refine thn (he cl C s H fp _ s7 σ6 H7 _ I7 q7) fun u8 s8 ⟨y,H8,I8,r8,n8⟩=>?_
      obtain ⟨m',hm,w8⟩:=hN _ _ _ n8
      obtain ⟨b1,b2,b3,b4⟩:=back I8
      have hsz:its.size≤sizeLine:=by
       have h1:=rv3.length
       have h2:its.toList.length=its.size:=by simp
       omega
      refine wpAny_list_append_plain (hsz:=hsz) ⟨nd,b1⟩ fun h' pl' sb'=>?_
      have I8':Inv Y [] σ6 H8 s8:=I8.pins_of (fun p hp=>nomatch hp)
      refine ⟨m',hm,i+1,acc++[y],its.push u8,σ6,H8,I8'.turned (t':=s8.toks) (fun b o hb e=>(sb'.2 b hb).trans e) b2 hDC (.inr (by show s.heap.objs.size≤D; rw [hDe]; exact Nat.le_refl _)) (fun x c e=>Nat.ne_of_lt (hcD x c (hcl x c e))) (fun p hp=>absurd (show p∈([]:List (Addr×Obj)) from hp) (by simp)),?_,b4,pl',b2,?_,?_,w8⟩
      · exact T.keep _ _ _ b3 fun b hb o e=>(sb'.2 b (fpD b hb)).trans e
      · rw [Array.toList_push]
        exact rv3.append (.cons r8 .nil)
      · rw [List.length_append,List.length_singleton]
        omega
 exact codeAny_compStart_list (loop _ rfl) (T.self _ _ _ _ _ st₁ (loop _ rfl))
theorem ab0 {tg iter elt:Expr}{ifs:List Expr}{scope:Scope}{pos:Pos}{wi:TI}{g:TG}{tt:TT}{te:TE}{Nt Nf:List Str}{caps:List Nat}(hc:X.calm=true) (S:CompOk X scope Nt Nf caps) (hi:PI X tg iter wi)
 (hg:∀ cl C s0 H0 ex,PG (cxC X (Nt++Nf) scope cl C s0 H0 ex) tg g)
 (ht:∀ cl C s0 H0 ex,PTs (cxC X (Nt++Nf) scope cl C s0 H0 ex) ifs tt)
 (he:∀ cl C s0 H0 ex,PE (cxC X (Nt++Nf) scope cl C s0 H0 ex) elt te)
 (hs:∀ x,foldedSetIterable iter X.env x=pure x:=by intro _; rfl):PE X (.ListComp elt [⟨tg,iter,ifs,0⟩] scope pos) (tLC wi g tt te Nt.length caps):=by
 intro pins s σ H Q I h
 obtain ⟨cl,hclos,hcl,hcf⟩:=ai8 I.ok.has S.fr
 rw [eval_ListComp]
 refine wpAny_comprehension_free (use:=none) rfl hs hclos S.kind S.nm (thn (hi pins s σ H _ I h) fun v s1 h1=>thn h1 fun itv s2 h2=>?_)
 obtain ⟨it,fp,tn,J,H2,e,I2,T,st2,f2,hW⟩:=h2
 subst e
 refine ai9 (RR:=fun acc C=>compPost (model X.prog X.w) X.A X.xe none (EP X pins σ Q) acc C) (Q:=Q) hc S hg ht he hcl hcf I2 T st2 f2 hW ?_
 intro D C m s' H' I' q nsC hCn hCl hCs hCc hCp
 exact ⟨m,nsC,fun h' sb=>⟨.ref D,H',I'.turned (t':=s'.toks) (fun b o hb e=>(sb.2 b hb).trans e) hCn hCl (.inr hCs) hCc hCp,rfl,q⟩⟩
theorem bh6 {tg iter elt:Expr}{ifs:List Expr}{scope:Scope}{pos spos py:Pos}{y:Str}{i:Nat}{wi:TI}{g:TG}{tt:TT}{te:TE}{Nt Nf:List Str}{caps:List Nat}(hc:X.calm=true) (S:CompOk X scope Nt Nf caps) (hi:PI X tg iter wi)
 (hg:∀ cl C s0 H0 ex,PG (cxC X (Nt++Nf) scope cl C s0 H0 ex) tg g)
 (ht:∀ cl C s0 H0 ex,PTs (cxC X (Nt++Nf) scope cl C s0 H0 ex) ifs tt)
 (he:∀ cl C s0 H0 ex,PE (cxC X (Nt++Nf) scope cl C s0 H0 ex) elt te)
 (hN:X.N.Nodup) (hy:X.N[i]?=some y) (hx:Loc X.env.scope y)
 (hsw:swapsWith (.ListComp elt [⟨tg,iter,ifs,0⟩] scope pos) (some (.Name y py)) spos.line X.env=pure true)
 (hf:X.fn y=true∨X.env.scope.names.lookup y=some .local:=by first | exact .inl rfl | exact .inr rfl | assumption)
 (hs:∀ x,foldedSetIterable iter X.env x=pure x:=by intro _; rfl):PS X (.Assign [.Name y py] (.ListComp elt [⟨tg,iter,ifs,0⟩] scope pos) spos) (tAsg (tLC wi g tt te Nt.length caps) (gName i)):=by
 intro pins s σ H D I h
 obtain ⟨cl,hclos,hcl,hcf⟩:=ai8 I.ok.has S.fr
 rw [exec_Assign_Name_used _ _ _ _ hsw]
 refine wpAny_bind (wpAny_standAt (wpAny_bind ?_))
 show wpAny _ X.A (do let _←comprehension (.ListComp elt [⟨tg,iter,ifs,0⟩] scope pos) scope X.env _ (newList []) false (eval iter X.env) (some (assign (.Name y py) X.env))) _ _ s
 refine wpAny_bind (wpAny_mono (wpAny_comprehension_free (use:=some (assign (.Name y py) X.env)) (Q:=fun _ s'=>SP X pins D .next s') rfl hs hclos S.kind S.nm
  (thn (hi pins s σ H _ I h) fun v s1 h1=>thn h1 fun itv s2 h2=>?_)) (fun _ s' hq=>wpAny_pure (wpAny_pure hq)) fun _ _ e=>e)
 obtain ⟨it,fp,tn,J,H2,e,I2,T,st2,f2,hW⟩:=h2
 subst e
 refine ai9 (RR:=fun acc C=>compPost (model X.prog X.w) X.A X.xe (some (assign (.Name y py) X.env)) (fun _ s'=>SP X pins D .next s') acc C) (Q:=fun x H1=>gName i x σ H1 D.nx) hc S hg ht he hcl hcf I2 T st2 f2 hW ?_
 intro l C m s' H' I' q nsC hCn hCl hCs hCc hCp
 show wpAny _ X.A (assign (.Name y py) X.env (.ref l)) _ _ _
 refine wpAny_assign_Name (ao1 (v:=.ref l) I' hN hy hx rfl (fun s'' I'' ⟨a,sb,ha⟩=>?_) hf)
 have haC:C≠a:=by
  rcases ha with z | z
  · rw [z]; exact hCl
  · exact fun e=>hCc y a z e.symm
 refine ⟨m,nsC.sameBut sb haC,fun h' sb'=>⟨_,H',I''.turned (t':=s''.toks) (fun b o hb e=>(sb'.2 b hb).trans e) hCn hCl (.inr hCs) hCc hCp,q⟩⟩
end
section
variable {X:Cx}{tg:Expr}
end
section
variable {X:Cx}
def strsV (ys:List Str):List V:=ys.map V.str
def CBig (i j:Int):Prop:=(i.natAbs<2 ^ 4096∧j.natAbs<2 ^ 4096)∨CMul i j
theorem az8 {i:Int}{n:Nat}(h:i.natAbs<2 ^ n):Builtin.Int.intBits i≤n:=by
 unfold Builtin.Int.intBits
 split
 · exact Nat.zero_le _
 · rename_i h0
   have h1:i.natAbs≠0:=by simpa using h0
   have:=(Nat.log2_lt h1).mpr h
   omega
theorem CBig.ok {i j:Int}(h:CBig i j):IntMulOk i j:=by
 rcases h with ⟨h1,h2⟩ | h
 · exact IntMulOk.of_bits (Nat.le_trans (az8 h1) (by decide)) (Nat.le_trans (az8 h2) (by decide))
 · exact h.ok
theorem bh7:OpR X (binaryOp .Mult) (rI CBig fun i j=>.int (i*j)):=opI fun _ _ _ _ _ _ _ hc q=>mul_int q hc.ok
theorem b74:CallR X (.builtin "isinstance") (fun xs H Q=>∃ x n t b,xs=[x,.ty n]∧TyOf X.K H x t∧PySem.W.kitOne X.K t (.type n)=some b∧Q (.bl b) H):=by
 intro pins s σ H xs us Q I r h
 obtain ⟨x,n,t,b,rfl,ty,e,q⟩:=h
 obtain ⟨u,w',rfl,rx,ry⟩:=bc3 r
 cases (show w'=Value.type n from ry)
 exact az0 I rx ty e fun tk=>⟨.bl b,H,I.tok _,rfl,q⟩
def blsV (bs:List Bool):List V:=bs.map V.bl
theorem az9:∀ {bs:List Bool}{us:List Value},Vals (blsV bs) us→∀ (i:Nat) (v:Value),us[i]?=some v→∃ b,bs[i]?=some b∧v=.bool b
 | [],_,r,i,v,e=>by cases r; simp at e
 | b::bs,_,r,i,v,e=>by
   cases r with
   | cons r1 r2 =>
     cases i with
     | zero =>
       simp at e; subst e
       exact ⟨b,rfl,r1⟩
     | succ i=>exact az9 (bs:=bs) r2 i v (by simpa using e)
theorem aw6:∀ bs:List Bool,((List.range bs.length).all fun i=>(bs[i]?).getD true)=bs.all id:=by
 intro bs
 rw [Bool.eq_iff_iff,List.all_eq_true,List.all_eq_true]
 constructor
 · intro h x hx
   obtain ⟨i,hi,e⟩:=List.getElem_of_mem hx
   have:=h i (List.mem_range.mpr hi)
   rw [List.getElem?_eq_getElem hi,e] at this
   exact this
 · intro h i hi
   have hi':i<bs.length:=List.mem_range.mp hi
   rw [List.getElem?_eq_getElem hi']
   exact h _ (List.getElem_mem hi')
theorem b75:X.calm=true→CallR X (.builtin "all") (fun xs H Q=>∃ l bs,xs=[.ref l]∧SqL X.K H l (blsV bs)∧Q (.bl (bs.all id)) H):=by
 intro hc pins s σ H xs us Q I r h
 obtain ⟨l,bs,rfl,hq,q⟩:=h
 obtain ⟨u,rfl,ru⟩:=ay8 r
 cases ru
 obtain ⟨its,rv,pl,hz⟩:=I.list hq
 have hl:=pl.isList
 have hlt:l<s.heap.objs.size:=by obtain ⟨_,e,_⟩:=hl; exact Heap.lt_size e
 have hlen:bs.length=its.length:=by have:=rv.length; simpa [blsV] using this
 refine call_all_walk (wpAny_pyIter_list hl ?_)
 refine ⟨s.heap.objs.size,[s.heap.objs.size,l],[s.heap.objs.size],its.toArray.size,_,_,fun i=>(bs[i]?).getD true,rfl,Walks.list (A:=X.A.in1) (I.ok.hd hc) _ l (Nat.ne_of_lt hlt) its.toArray,
  ⟨⟨_,Heap.get?_push_size _ rfl,rfl,rfl⟩,hl.push _⟩,fun i v s' Q' E' hP hQ=>?_,fun h' tk hk=>?_⟩
 · obtain ⟨b,e,rfl⟩:=az9 rv i v (by simpa using hP)
   simp only [e,Option.getD_some] at hQ
   exact wpAny_truthy_bool hQ
 · have e:((List.range its.toArray.size).all fun i=>(bs[i]?).getD true)=bs.all id:=by
    rw [List.size_toArray,←hlen]; exact aw6 bs
   rw [e]
   refine ⟨.bl _,H,I.kept (h':=h') (t':=tk) fun b o e=>?_,rfl,q⟩
   exact hk b o (by simp; exact Nat.ne_of_lt (Heap.lt_size e)) (Heap.get?_push_of_some _ e)
end
section
variable {X:Cx}{e:Expr}{te:TE}{pos:Pos}
end
abbrev New (H:Hp) (o:HO) (Q:VK):Prop:=∀ p H',H p=none→Same H H'→H' p=some o→Q (.ref p) H'
theorem Same.new {H:Hp}{p:Addr}{o:HO}(h:H p=none):Same H (upd H p o):=fun b u e=>by rw [a37 (a06 e h)]; exact e
theorem New.to {H:Hp}{Q:VK}{o:HO}(h:New H o Q):∀ p,H p=none→Q (.ref p) (upd H p o):=fun p hp=>h p _ hp (Same.new hp) a65
section
variable {X:Cx}{es:List Expr}{t:TA}{pos:Pos}
def tLstN (t:TA):TE:=fun σ H Q=>t σ H fun xs H1=>xs.length≤sizeLine∧New H1 (.lst xs) Q
def tTupN (t:TA):TE:=fun σ H Q=>t σ H fun xs H1=>xs.length≤sizeLine∧New H1 (.tup xs) Q
theorem a80 {x1}(h:PA X es t):PE X (.Tuple es x1 pos) (tTupN t):=by
 intro pins s σ H Q I hq
 refine wpAny_Tuple_spliced (thn (h pos pins s σ H _ I hq) fun us s1 ⟨xs,H1,I1,r,z,q⟩=>⟨by rw [← r.length]; exact z,?_⟩)
 refine ⟨.ref s1.heap.objs.size,upd H1 s1.heap.objs.size (.tup xs),I1.laid (t':=s1.toks) (fun b u e=>Heap.get?_push_of_some _ e) (Nat.le_refl _) ?_,rfl,New.to q _ (I1.hok.fresh (Nat.le_refl _))⟩
 exact ⟨z,us,r,⟨_,Heap.get?_push_size _ rfl,rfl,_,rfl⟩⟩
theorem a24 (h:PA X es t):PE X (.List es pos) (tLstN t):=by
 intro pins s σ H Q I hq
 refine wpAny_List_spliced (thn (h pos pins s σ H _ I hq) fun us s1 ⟨xs,H1,I1,r,z,q⟩=>⟨by rw [← r.length]; exact z,?_⟩)
 refine ⟨.ref s1.heap.objs.size,upd H1 s1.heap.objs.size (.lst xs),I1.laid (t':=s1.toks) (fun b u e=>Heap.get?_push_of_some _ e) (Nat.le_refl _) ?_,rfl,New.to q _ (I1.hok.fresh (Nat.le_refl _))⟩
 exact ⟨z,us,0,r,Heap.get?_push_size _ rfl⟩
def rSlN (K:PySem.W.Frag):V→Option Int→Option Int→Hp→VK→Prop:=fun x lo hi H Q=>∃ a xs,x=.ref a∧SqL K H a xs∧New H (.lst (cutV xs lo hi)) Q
theorem b76:SlR X (rSlN X.K):=by
 intro pins s σ H x v vl vu lo hi sl Q I rx hs pl pu h
 obtain ⟨a,xs,e,h1,h2⟩:=h
 exact bc6 pins s σ H x v vl vu lo hi sl Q I rx hs pl pu ⟨a,xs,e,h1,New.to h2⟩
theorem aw7:CallR X (.type "list") (fun xs H Q=>∃ p ys,xs=[.ref p]∧(SqL X.K H p ys∨SqT X.K H p ys)∧New H (.lst ys) Q):=by
 intro pins s σ H xs us Q I r h
 obtain ⟨p,ys,e,h1,h2⟩:=h
 exact ao9 pins s σ H xs us Q I r ⟨p,ys,e,h1,New.to h2⟩
theorem ar8:CallR X (.type "tuple") (fun xs H Q=>∃ p ys,xs=[.ref p]∧SqL X.K H p ys∧New H (.tup ys) Q):=by
 intro pins s σ H xs us Q I r h
 obtain ⟨p,ys,e,h1,h2⟩:=h
 exact ak6 pins s σ H xs us Q I r ⟨p,ys,e,.inl ⟨h1,New.to h2⟩⟩
end
def rIsi (K:PySem.W.Frag):List V→Hp→VK→Prop:=fun xs H Q=>∃ x n t b,xs=[x,.ty n]∧TyOf K H x t∧PySem.W.kitOne K t (.type n)=some b∧Q (.bl b) H
def tTru (K:PySem.W.Frag) (ta:TE):TT:=fun σ H Q=>ta σ H fun x H'=>∃ k,TruV K x H' k∧Q k H'
def rLen (K:PySem.W.Frag):List V→Hp→VK→Prop:=fun xs H Q=>∃ x n,xs=[x]∧LenV K x H n∧Q (.int n) H
def rAll (K:PySem.W.Frag):List V→Hp→VK→Prop:=fun xs H Q=>∃ l bs,xs=[.ref l]∧SqL K H l (blsV bs)∧Q (.bl (bs.all id)) H
def rListN (K:PySem.W.Frag):List V→Hp→VK→Prop:=fun xs H Q=>∃ p ys,xs=[.ref p]∧(SqL K H p ys∨SqT K H p ys)∧New H (.lst ys) Q
def rTupleN (K:PySem.W.Frag):List V→Hp→VK→Prop:=fun xs H Q=>∃ p ys,xs=[.ref p]∧SqL K H p ys∧New H (.tup ys) Q
section
variable {X:Cx}{a:Expr}{ta:TE}
theorem bh8:CallR X (.builtin "isinstance") (rIsi X.K):=b74
theorem bh9 (ha:PE X a ta) (he:∀ whole,isTrue a X.env whole=(do let v←whole; standAt a.pos; holding [v] (truthy v))):PT X a (tTru X.K ta):=b70 ha he
theorem bi0:CallR X (.builtin "len") (rLen X.K):=b71
theorem bi3 (h:X.calm=true):CallR X (.builtin "all") (rAll X.K):=b75 h
theorem bc9:CallR X (.type "list") (rListN X.K):=aw7
theorem b77:CallR X (.type "tuple") (rTupleN X.K):=ar8
end
def rPlus:R2:=fun x y H Q=>match x,y with
 | .int i,.int j=>Q (.int (i+j)) H
 | .str i,.str j=>i.length+j.length≤sizeLine∧Q (.str (i++j)) H
 | .ref l,.ref b=>∃ xs zs,H l=some (.lst xs)∧H b=some (.lst zs)∧xs.length+zs.length≤sizeLine∧New H (.lst (xs++zs)) Q
 | _,_=>False
def rTimes:R2:=fun x y H Q=>match x,y with
 | .int i,.int j=>CBig i j∧Q (.int (i*j)) H
 | .str z,.int n=>MulOk z n∧Q (.str (Txt.mul z n)) H
 | _,_=>False
def rStr:List V→Hp→VK→Prop:=fun xs H Q=>match xs with
 | [.int i]=>i.natAbs.log2<1920∧Q (.str (toString i)) H
 | [.str z]=>Q (.str z) H
 | _=>False
section
variable {X:Cx}
theorem a25:OpR X (binaryOp .Add) rPlus:=by
 intro pins s σ H x y v u Q I rx ry h
 cases x with
 | int i=>cases y with
   | int j=>exact bg3 pins s σ H _ _ v u Q I rx ry ⟨i,j,rfl,rfl,h⟩
   | _=>exact (show False from h).elim
 | str i=>cases y with
   | str j=>exact aw3 pins s σ H _ _ v u Q I rx ry ⟨i,j,rfl,rfl,h⟩
   | _=>exact (show False from h).elim
 | ref l=>cases y with
   | ref b =>
     obtain ⟨xs,zs,h1,h2,h3,h4⟩:=h
     exact bh1 pins s σ H _ _ v u Q I rx ry ⟨l,b,xs,zs,rfl,rfl,h1,h2,h3,New.to h4⟩
   | _=>exact (show False from h).elim
 | _=>exact (show False from h).elim
theorem ab1:OpR X (binaryOp .Mult) rTimes:=by
 intro pins s σ H x y v u Q I rx ry h
 cases x with
 | int i=>cases y with
   | int j=>exact bh7 pins s σ H _ _ v u Q I rx ry ⟨i,j,rfl,rfl,h⟩
   | _=>exact (show False from h).elim
 | str z=>cases y with
   | int n =>
     obtain ⟨t,rfl⟩:=rx
     obtain ⟨t',rfl⟩:=ry
     exact SB.mul h.1 fun t2 k=>⟨.str _,H,I.tok _,⟨_,rfl⟩,h.2⟩
   | _=>exact (show False from h).elim
 | _=>exact (show False from h).elim
theorem a71 {scope sc:Scope}{Nt Nf:List Str}{caps:List Nat}(hsc:X.env.scope=sc) (kind:scope.kind=.function) (nc:∀ y∈scope.names,y.2≠.cell) (nm:∀ y∈scope.names,y.2=.local→scope.names.lookup y.1=some .local)
 (fr:∀ y∈scope.names,y.2=.free→sc.names.lookup y.1=some .cell∨sc.names.lookup y.1=some .free) (cap:caps.map (fun j=>X.N[j]?)=Nf.map some) (vis:∀ x∈Nf,scope.names.lookup x=some .free):CompOk X scope Nt Nf caps :=
 ⟨kind,nc,nm,fun y hy h=>by show X.env.scope.names.lookup y.1=_∨X.env.scope.names.lookup y.1=_; rw [hsc]; exact fr y hy h,cap,vis⟩
abbrev LcEnd (J:It) (te:TE) (tt:TT) (caps:List Nat) (σ:St) (H:Hp) (Q:VK):Prop:=∃ W:Nat→Nat→List V→St→Hp→Prop,(∃ m,W 0 m [] (cSt 1 caps σ) H)∧∀ i m acc σ' H',W i m acc σ' H' →
 (J.stop i H'∧∀ l,H' l=none→Q (.ref l) (upd H' l (.lst acc))) ∨
 (J.go i H'∧acc.length<sizeLine∧∃ N:List V→St→Hp→Prop,(∀ ac σ2 H2,N ac σ2 H2→∃ m',m'<m∧W (i+1) m' ac σ2 H2)∧∀ x H2,J.yld i H' x H2→gName 0 x σ' H2 fun σ3 H3=>tt σ3 H3 fun b H4=>if b=true then te σ3 H4 fun y H5=>N (acc++[y]) σ3 H5 else N acc σ3 H4)
theorem b00 {J:It}{te:TE}{tt:TT}{caps:List Nat}{σ:St} {H:Hp}{Q:VK}(n:Nat) (hz:n≤sizeLine) (Pv:Nat→List V→Hp→Prop) (h0:Pv 0 [] H) (hl:∀ i acc H,Pv i acc H→acc.length≤i)
 (hgo:∀ i acc H,i<n→Pv i acc H→J.go i H) (hst:∀ acc H,Pv n acc H→J.stop n H)
 (hs:∀ i x acc H H2,i<n→Pv i acc H→J.yld i H x H2→tt (some x::capV caps σ) H2 fun b H4=>if b=true then te (some x::capV caps σ) H4 fun y H5=>Pv (i+1) (acc++[y]) H5 else Pv (i+1) acc H4)
 (hd:∀ acc H,Pv n acc H→New H (.lst acc) Q):LcEnd J te tt caps σ H Q:=by
 refine ⟨fun i m acc σ' H=>m=n - i∧i≤n∧(∃ v,σ'=v::capV caps σ)∧Pv i acc H,⟨n,by simp,Nat.zero_le _,⟨none,rfl⟩,h0⟩,?_⟩
 rintro i m acc σ' H' ⟨rfl,hi,⟨v,rfl⟩,p⟩
 by_cases hlt:i<n
 · refine .inr ⟨hgo i acc H' hlt p,?_,fun ac σ2 H2=>(∃ v,σ2=v::capV caps σ)∧Pv (i+1) ac H2,fun ac σ2 H2 ⟨e,p'⟩=>⟨n - (i+1),by omega,rfl,hlt,e,p'⟩,fun x H2 y=>?_⟩
   · have:=hl i acc H' p
     omega
   · have eN:∀ ac H5,((∃ u,some x::capV caps σ=u::capV caps σ)∧Pv (i+1) ac H5)=Pv (i+1) ac H5:=fun ac H5=>propext ⟨And.right,fun p=>⟨⟨_,rfl⟩,p⟩⟩
     show tt (some x::capV caps σ) H2 fun b H4=>if b=true then te (some x::capV caps σ) H4 fun y H5=>((∃ u,some x::capV caps σ=u::capV caps σ)∧Pv (i+1) (acc++[y]) H5) else ((∃ u,some x::capV caps σ=u::capV caps σ)∧Pv (i+1) acc H4)
     simp only [eN]
     exact hs i x acc H' H2 hlt p y
 · have e:i=n:=by omega
   subst e
   exact .inl ⟨hst acc H' p,New.to (hd acc H' p)⟩
theorem bd0 {K:PySem.W.Frag}{a:Addr}{xs:List V}{te:TE}{tt:TT}{caps:List Nat}{σ:St} {H:Hp}{Q:VK}(hz:xs.length≤sizeLine) (Pv:Nat→List V→Hp→Prop) (h0:Pv 0 [] H) (hl:∀ i acc H,Pv i acc H→acc.length≤i∧SqL K H a xs)
 (hs:∀ i x acc H,xs[i]?=some x→Pv i acc H→tt (some x::capV caps σ) H fun b H4=>if b=true then te (some x::capV caps σ) H4 fun y H5=>Pv (i+1) (acc++[y]) H5 else Pv (i+1) acc H4)
 (hd:∀ acc H,Pv xs.length acc H→New H (.lst acc) Q):LcEnd (Itl K a) te tt caps σ H Q:=by
 refine b00 xs.length hz Pv h0 (fun i acc H p=>(hl i acc H p).1) (fun i acc H hi p=>⟨xs,xs[i],(hl i acc H p).2,by simp [hi]⟩) (fun acc H p=>⟨xs,(hl _ acc H p).2,Nat.le_refl _⟩) ?_ hd
 rintro i x acc H1 H2 hi p ⟨rfl,y⟩
 exact hs i x acc _ (y xs (hl i acc _ p).2) p
theorem b78 {lo:Int}{n:Nat}{te:TE}{tt:TT}{caps:List Nat}{σ:St} {H:Hp}{Q:VK}(hz:n≤sizeLine) (Pv:Nat→List V→Hp→Prop) (h0:Pv 0 [] H) (hl:∀ i acc H,Pv i acc H→acc.length≤i)
 (hs:∀ i acc H,i<n→Pv i acc H→tt (some (.int (lo+i))::capV caps σ) H fun b H4=>if b=true then te (some (.int (lo+i))::capV caps σ) H4 fun y H5=>Pv (i+1) (acc++[y]) H5 else Pv (i+1) acc H4)
 (hd:∀ acc H,Pv n acc H→New H (.lst acc) Q):LcEnd (Itr lo n) te tt caps σ H Q:=by
 refine b00 n hz Pv h0 hl (fun i acc H hi p=>hi) (fun acc H p=>Nat.le_refl _) ?_ hd
 rintro i x acc H1 H2 hi p ⟨rfl,rfl⟩
 exact hs i acc _ hi p
end
end L2
namespace L2
open PySem
theorem ex_some_and {α:Type}{a:α}{p:α→Prop}:(∃ v,some (some a)=some (some v)∧p v)↔p a:=⟨fun ⟨_,e,h⟩=>by cases e; exact h,fun h=>⟨a,rfl,h⟩⟩
def ForEnd (J:It) (g:TG) (tb:TS) (D:Ends) (σ:St) (H1:Hp):Prop:=∃ W:Nat→Nat→St→Hp→Prop,(∃ m,W 0 m σ H1)∧∀ i m σ H,W i m σ H →
 (J.stop i H∧D.nx σ H)∨(J.go i H∧∃ N:St→Hp→Prop,(∀ σ' H',N σ' H'→∃ m',m'<m∧W (i+1) m' σ' H')∧∀ x H',J.yld i H x H'→g x σ H' fun σ2 H2=>tb { D with nx:=N,ct:=N,bk:=D.nx } σ2 H2)
def CompEnd (J:It) (g:TG) (tt:TT) (te:TE) (n:Nat) (caps:List Nat) (σ:St) (H:Hp) (Q:VK):Prop:=∃ W:Nat→Nat→List V→St→Hp→Prop,(∃ m,W 0 m [] (cSt n caps σ) H)∧∀ i m acc σ' H',W i m acc σ' H' →
 (J.stop i H'∧∀ l,H' l=none→Q (.ref l) (upd H' l (.lst acc))) ∨
 (J.go i H'∧acc.length<sizeLine∧∃ N:List V→St→Hp→Prop,(∀ ac σ2 H2,N ac σ2 H2→∃ m',m'<m∧W (i+1) m' ac σ2 H2)∧∀ x H2,J.yld i H' x H2→g x σ' H2 fun σ3 H3=>tt σ3 H3 fun b H4=>if b=true then te σ3 H4 fun y H5=>N (acc++[y]) σ3 H5 else N acc σ3 H4)
section
variable {K:PySem.W.Frag}{a:Addr}{xs:List V}{te:TE}{tt:TT}{caps:List Nat}{σ:St} {H:Hp}{Q:VK}{z:Str}{lo:Int}{n:Nat}
theorem a93 (hz:xs.length≤sizeLine) (Pv:Nat→List V→Hp→Prop) (h0:Pv 0 [] H) (hl:∀ i acc H,Pv i acc H→acc.length≤i∧SqL K H a xs)
 (hs:∀ i x acc H,xs[i]?=some x→Pv i acc H→tt (some x::capV caps σ) H fun b H4=>if b=true then te (some x::capV caps σ) H4 fun y H5=>Pv (i+1) (acc++[y]) H5 else Pv (i+1) acc H4)
 (hd:∀ acc H,Pv xs.length acc H→New H (.lst acc) Q):CompEnd (Itl K a) (gName 0) tt te 1 caps σ H Q:=bd0 hz Pv h0 hl hs hd
theorem ak8 (hz:n≤sizeLine) (Pv:Nat→List V→Hp→Prop) (h0:Pv 0 [] H) (hl:∀ i acc H,Pv i acc H→acc.length≤i)
 (hs:∀ i acc H,i<n→Pv i acc H→tt (some (.int (lo+i))::capV caps σ) H fun b H4=>if b=true then te (some (.int (lo+i))::capV caps σ) H4 fun y H5=>Pv (i+1) (acc++[y]) H5 else Pv (i+1) acc H4)
 (hd:∀ acc H,Pv n acc H→New H (.lst acc) Q):CompEnd (Itr lo n) (gName 0) tt te 1 caps σ H Q:=b78 hz Pv h0 hl hs hd
end
theorem cxOf_K {CX:CXT}{P:Program}{w:World}{K:PySem.W.Frag}{mg:Str→Option Value}{base:Heap}{N:List Str}{qual:Str}{scope:Scope}{f:Addr}{cd:Value}{A:Around}{outer:List Env}{s:Shared}{H:Hp}{E:XK} :
 (cxOf CX P w K mg base N qual scope f cd A outer s H E).K=K:=rfl
theorem cxC_K {X:Cx}{N:List Str}{scope:Scope}{cl:List (Str×Addr)}{C:Addr}{s0:Shared}{H0:Hp}{ex:List Addr}:(cxC X N scope cl C s0 H0 ex).K=X.K:=rfl
section
variable {X:Cx}
theorem a04 (K:PySem.W.Frag) (hK:X.K=K:=by rfl):IxR X (rIxL K):=hK ▸ bc5
theorem ac4 (K:PySem.W.Frag) (hK:X.K=K:=by rfl):IxR X (rIxT K):=hK ▸ bg9
theorem a43 (K:PySem.W.Frag) (hK:X.K=K:=by rfl):SlR X (rSlN K):=hK ▸ b76
theorem bd1 (K:PySem.W.Frag) (hK:X.K=K:=by rfl):CallR X (.builtin "isinstance") (rIsi K):=hK ▸ bh8
theorem a36 (K:PySem.W.Frag) (hK:X.K=K:=by rfl):CallR X (.builtin "len") (rLen K):=hK ▸ bi0
theorem b01 (K:PySem.W.Frag) (h:X.calm=true:=by rfl) (hK:X.K=K:=by rfl):CallR X (.builtin "all") (rAll K):=hK ▸ bi3 h
theorem ag5 (K:PySem.W.Frag) (hK:X.K=K:=by rfl):CallR X (.type "list") (rListN K):=hK ▸ bc9
theorem b02 (K:PySem.W.Frag) (hK:X.K=K:=by rfl):CallR X (.type "tuple") (rTupleN K):=hK ▸ b77
theorem ad5 (K:PySem.W.Frag) {a:Expr}{ta:TE}(ha:PE X a ta) (he:∀ whole,isTrue a X.env whole=(do let v←whole; standAt a.pos; holding [v] (truthy v))) (hK:X.K=K:=by rfl):PT X a (tTru K ta):=hK ▸ bh9 ha he
theorem a39 (K:PySem.W.Frag) {tg l:Expr}{tl:TE}(hl:PE X l tl) (hK:X.K=K:=by rfl):PI X tg l (iList K tl):=hK ▸ bc1 hl
theorem ab2 (K:PySem.W.Frag) {pos:Pos}{es:List Expr}{k:Nat}{t:TGs}{n:Nat}(hc:X.calm=true) (h:PGs X es t) (hn:(assignEach es X.env).length=n:=by rfl) (hst:(assignEach es X.env).findIdx? (·.1)=none:=by rfl) (hK:X.K=K:=by rfl) :
 PG X (.Tuple es k pos) (gTup K n t):=hK ▸ bf9 hc h hn hst
theorem ae0 (K:PySem.W.Frag) {o e:Expr}{es:List Expr}{to:TE}{t:TA}{name:Str}{apos cpos:Pos}{T id:String}{r:V→List V→Hp→VK→Prop}(pa:PlainAttrs T) (slot:Slot T name id) (hty:typeOf (.builtin id)=pure (.type "method_descriptor")) (hm:MtR X id r) (ho:PE X o to) (ha:PA X (e::es) t)
 (hbase:attributeBase o name X.env (eval o X.env)=eval o X.env:=by rfl)
 (hfew:((backTo cpos (starEach (e::es) X.env)).all (fun x=>!x.1) && (backToKw cpos (keywordEach [] X.env)).all (fun x=>x.1.isSome) && decide ((e::es).length+([]:List Keyword).length+(if ([]:List Keyword).isEmpty then 0 else 1)<30))=true:=by rfl)
 (hline:(apos.endLine == cpos.line)=true:=by rfl) (hs:starEach (e::es) X.env=(false,eval e X.env)::starEach es X.env:=by rfl) (hplain:(backTo cpos (starEach es X.env)).any (·.1)=false:=by rfl) (hK:X.K=K:=by rfl) :
 PE X (.Call (.Attribute o name apos) (e::es) [] cpos) (tBM K T r to t):=hK ▸ bn6 pa slot hty hm ho ha hbase hfew hline hs hplain
end
theorem a54:bootBuiltins "len"=some (.builtin "len"):=by decide +kernel
theorem ba5:bootBuiltins "all"=some (.builtin "all"):=by decide +kernel
theorem ak9:bootBuiltins "isinstance"=some (.builtin "isinstance"):=by decide +kernel
theorem b03:bootBuiltins "sorted"=some (.builtin "sorted"):=by decide +kernel
theorem bi4:bootBuiltins "sum"=some (.builtin "sum"):=by decide +kernel
theorem ba6:bootBuiltins "min"=some (.builtin "min"):=by decide +kernel
theorem bi5:bootBuiltins "max"=some (.builtin "max"):=by decide +kernel
theorem bd2:bootBuiltins "bool"=some (.type "bool"):=by decide +kernel
theorem al0:bootBuiltins "list"=some (.type "list"):=by decide +kernel
theorem b79:bootBuiltins "tuple"=some (.type "tuple"):=by decide +kernel
theorem bi6:bootBuiltins "set"=some (.type "set"):=by decide +kernel
end L2
local macro_rules | `(tactic| walk_at "rd") => `(tactic| simp only [L2.tCB, L2.tCons, L2.tNil, L2.tVar, L2.rStr, L2.tNoIf, L2.capV, List.map_nil, List.getElem?_cons_zero, L2.ex_some_and, if_true])
namespace L2
open PySem
theorem le_line {n:Nat}(h:n≤1000000):n≤sizeLine:=Nat.le_trans h (by decide)
theorem bi7 {ns:List Int}{k:Nat}:cutV (ns.map V.int) none (some (k:Int))=(ns.take k).map V.int:=by
 unfold cutV
 rw [HT.sIx_none,HT.sIx_nat,List.drop_zero,Nat.sub_zero,List.length_map,List.map_take]
 by_cases h:k≤ns.length
 · rw [Nat.min_eq_left h]
 · rw [Nat.min_eq_right (by omega),List.take_of_length_le (by simp),List.take_of_length_le (by simp; omega)]
theorem al1 {ns:List Int}{j k:Nat}:cutV (ns.map V.int) (some (j:Int)) (some (k:Int))=((ns.drop j).take (k - j)).map V.int:=by
 unfold cutV
 rw [HT.sIx_nat,HT.sIx_nat,List.length_map,List.map_take,List.map_drop]
 by_cases hj:j≤ns.length
 · rw [Nat.min_eq_left hj]
   by_cases h:k≤ns.length
   · rw [Nat.min_eq_left h]
   · rw [Nat.min_eq_right (by omega),List.take_of_length_le (by simp),List.take_of_length_le (by simp; omega)]
 · have hj':min j ns.length=ns.length:=by omega
   rw [hj',List.drop_of_length_le (by simp),List.drop_of_length_le (l:=ns.map V.int) (i:=j) (by simp; omega)]
   simp
theorem nox_K {X:Cx}:X.nox.K=X.K:=rfl
theorem wish_K {X:Cx}{E:Value→Shared→Prop}:(X.wish E).K=X.K:=rfl
section
variable {σ:St} {H:Hp}{Q:VK}{D:Ends}{nn bb cc:St→Hp→Prop}{rr:VK}{t u:TS}{ta tb tc te:TE}{tA tB:TT}{g:TG}{QT:Bool→Hp→Prop}{QA:List V→Hp→Prop}{QS:St→Hp→Prop}
theorem bn7 (h:t ⟨u ⟨nn,rr,bb,cc⟩,rr,bb,cc⟩ σ H):tSeq t u ⟨nn,rr,bb,cc⟩ σ H:=h
theorem bn8 (h:te σ H fun x H1=>g x σ H1 nn):tAsg te g ⟨nn,rr,bb,cc⟩ σ H:=h
theorem i_name {i:Nat}{v:V}(h:QS (σ.set i (some v)) H):gName i v σ H QS:=h
theorem i_var {i:Nat}{v:V}(e:σ[i]?=some (some v)) (h:Q v H):tVar i σ H Q:=⟨v,e,h⟩
theorem i_c {v:V}(h:Q v H):tC v σ H Q:=h
theorem i_op {r:R2}(h:ta σ H fun x H1=>tb σ H1 fun y H2=>r x y H2 Q):tOp r ta tb σ H Q:=h
theorem i_un {r:V→Hp→VK→Prop}(h:ta σ H fun x H1=>r x H1 Q):tUn r ta σ H Q:=h
theorem i_rU {f:Int→V}{i:Int}(h:Q (f i) H):rU f (.int i) H Q:=⟨i,rfl,h⟩
theorem i_rI {C:Int→Int→Prop}{f:Int→Int→V}{i j:Int}(c:C i j) (h:Q (f i j) H):rI C f (.int i) (.int j) H Q:=⟨i,j,rfl,rfl,c,h⟩
theorem bn9 {f:Int→Int→V}{i j:Int}(h:Q (f i j) H):rI0 f (.int i) (.int j) H Q:=⟨i,j,rfl,rfl,h⟩
theorem bd3 {i j:Int}(h:Q (.int (i+j)) H):rPlus (.int i) (.int j) H Q:=h
theorem a67 {l b:Addr}{xs zs:List V}(h1:H l=some (.lst xs)) (h2:H b=some (.lst zs)) (z:xs.length+zs.length≤sizeLine) (h:New H (.lst (xs++zs)) Q):rPlus (.ref l) (.ref b) H Q:=⟨xs,zs,h1,h2,z,h⟩
theorem ae1 {i j:Int}(c:CBig i j) (h:Q (.int (i*j)) H):rTimes (.int i) (.int j) H Q:=⟨c,h⟩
theorem decI (i j:Int):decide (V.int i=V.int j)=decide (i=j):=by rw [Bool.eq_iff_iff]; simp
theorem decB (i j:Bool):decide (V.bl i=V.bl j)=decide (i=j):=by rw [Bool.eq_iff_iff]; simp
theorem bo0 {i j:Int}(h:Q (.bl (decide (i=j))) H):rEq (.int i) (.int j) H Q:=⟨rfl,by rw [decI]; exact h⟩
theorem bo1 {i j:Int}(h:Q (.bl (!decide (i=j))) H):rNe (.int i) (.int j) H Q:=⟨rfl,by rw [decI]; exact h⟩
theorem bo2 {i j:Bool}(h:Q (.bl (!decide (i=j))) H):rNe (.bl i) (.bl j) H Q:=⟨rfl,by rw [decB]; exact h⟩
theorem bi8 (h:te σ H fun x H'=>∃ k,x=.bl k∧QT k H'):tTest te σ H QT:=h
theorem i_bl {k:Bool}{p:Bool→Prop}(h:p k):∃ j,V.bl k=V.bl j∧p j:=⟨k,rfl,h⟩
theorem bo3 (h:tA σ H fun b H1=>if b=true then t D σ H1 else u D σ H1):tIfS tA t u D σ H:=h
theorem i_if (h:tA σ H fun b H1=>if b=true then ta σ H1 Q else tb σ H1 Q):tIf tA ta tb σ H Q:=h
theorem bo4 (h:te σ H rr):tRet te ⟨nn,rr,bb,cc⟩ σ H:=h
theorem bi9 (h:nn σ H):tNext ⟨nn,rr,bb,cc⟩ σ H:=h
theorem bj0 (h:te σ H fun _ H1=>nn σ H1):tDrop te ⟨nn,rr,bb,cc⟩ σ H:=h
theorem bj1 {tr:TA}(h:te σ H fun x H1=>tr σ H1 fun xs H2=>QA (x::xs) H2):tCons te tr σ H QA:=h
theorem bo5 (h:QA [] H):tNil σ H QA:=h
theorem i_cb {r:List V→Hp→VK→Prop}{ts:TA}(h:ts σ H fun vs H1=>r vs H1 Q):tCB r ts σ H Q:=h
theorem bj2 {sp:Sp}{dvs:List V}{E:XK}{ts:TA}(h:ts σ H fun vs H1=>sp (vs++dvs) H1 Q E):tCall sp dvs E ts σ H Q:=h
theorem bo6 {ts:TA}(h:ts σ H fun xs H1=>xs.length≤sizeLine∧New H1 (.lst xs) Q):tLstN ts σ H Q:=h
theorem bo7 {ts:TA}(h:ts σ H fun xs H1=>xs.length≤sizeLine∧New H1 (.tup xs) Q):tTupN ts σ H Q:=h
theorem bj3 {n:Nat}{P:Prop}(h:n≤sizeLine) (p:P):n≤sizeLine∧P:=⟨h,p⟩
theorem i_rgA {j:Int}{P:Prop}(h:-(2 ^ 62)≤j) (h':j<2 ^ 62) (p:P):-(2 ^ 62)≤j∧j<2 ^ 62∧P:=⟨h,h',p⟩
theorem bj4 (h:QT true H):tNoIf σ H QT:=h
theorem bo8 (h:tA σ H fun c H1=>QT (!c) H1):tNot tA σ H QT:=h
theorem bo9 (h:tA σ H fun c H1=>if c=true then tB σ H1 QT else QT false H1):tAnd tA tB σ H QT:=h
theorem i_or (h:tA σ H fun c H1=>if c=true then QT true H1 else tB σ H1 QT):tOr tA tB σ H QT:=h
theorem bj5 (h:ta σ H fun x H1=>∃ c,x=.bl c∧if c=true then tb σ H1 Q else Q (.bl false) H1):tAndV ta tb σ H Q:=h
theorem bp0 {wi:TI}(h:wi σ H fun J H1=>ForEnd J g t D σ H1):tFor wi g t D σ H:=h
theorem i_lc {wi:TI}{n:Nat}{caps:List Nat}(h:wi σ H fun J H1=>CompEnd J g tA te n caps σ H1 Q):tLC wi g tA te n caps σ H Q:=h
theorem bj6 {R:It→Hp→Prop}{ts:TA}(h:ts σ H fun vs H1=>∃ j:Int,vs=[.int j]∧-(2 ^ 62)≤j∧j<2 ^ 62∧R (Itr 0 j.toNat) H1):bg2 ts σ H R:=h
theorem bd4 {K:PySem.W.Frag}{R:It→Hp→Prop}(h:te σ H fun x H1=>∃ a,x=.ref a∧(∃ xs,SqL K H1 a xs)∧R (Itl K a) H1):iList K te σ H R:=h
theorem bp1 {j:Int}{p:Int→Prop}(h:p j):∃ i:Int,[V.int j]=[V.int i]∧p i:=⟨j,rfl,h⟩
theorem bp2 {a:Addr}{p:Addr→Prop}(h:p a):∃ b,V.ref a=V.ref b∧p b:=⟨a,rfl,h⟩
theorem i_bm {K:PySem.W.Frag}{T:String}{r:V→List V→Hp→VK→Prop}{to:TE}{ts:TA}(h:to σ H fun x H1=>tyV K T x H1∧ts σ H1 fun xs H2=>r x xs H2 Q):tBM K T r to ts σ H Q:=h
theorem a29 {K:PySem.W.Frag}{p:Addr}{xs:List V}{i:Int}{v:V}(h1:SqL K H p xs) (h2:atI xs i=some v) (h:Q v H):rIxL K (.ref p) (.int i) H Q:=⟨p,xs,i,v,rfl,rfl,h1,h2,h⟩
theorem ag8 {K:PySem.W.Frag}{p:Addr}{xs:List V}{i:Int}{v:V}(h1:SqT K H p xs) (h2:atI xs i=some v) (h:Q v H):rIxT K (.ref p) (.int i) H Q:=⟨p,xs,i,v,rfl,rfl,h1,h2,h⟩
theorem i_sl {r:V→Option Int→Option Int→Hp→VK→Prop}{tl th:TO}(h:te σ H fun x H1=>tl σ H1 fun l H2=>th σ H2 fun u H3=>r x l u H3 Q):tSl r te tl th σ H Q:=h
theorem b80 {QO:Option Int→Hp→Prop}(h:QO none H):tNoPart σ H QO:=h
theorem bj7 {QO:Option Int→Hp→Prop}(h:te σ H fun x H1=>∃ i,x=.int i∧QO (some i) H1):tPart te σ H QO:=h
theorem bp3 {i:Int}{p:Int→Prop}(h:p i):∃ j,V.int i=V.int j∧p j:=⟨i,rfl,h⟩
theorem a95 {K:PySem.W.Frag}{a:Addr}{xs:List V}{lo hi:Option Int}(h1:SqL K H a xs) (h:New H (.lst (cutV xs lo hi)) Q):rSlN K (.ref a) lo hi H Q:=⟨a,xs,rfl,h1,h⟩
theorem bj8 {A B:Prop}(h:A):if true=true then A else B:=iteT h
theorem bj9 {A B:Prop}(h:B):if false=true then A else B:=iteF h
theorem au6 {A B:Prop}(h:B):if (!true)=true then A else B:=iteF h
theorem au7 {A B:Prop}(h:A):if (!false)=true then A else B:=iteT h
theorem ap4 {c A B:Prop} [Decidable c] (hc:c) (h:A):if decide c=true then A else B:=by rw [decide_eq_true hc]; exact iteT h
theorem aj0 {c A B:Prop} [Decidable c] (hc:¬ c) (h:B):if decide c=true then A else B:=by rw [decide_eq_false hc]; exact iteF h
theorem bd5 {r r':R2}(h:ta σ H fun x H1=>tb σ H1 fun y H2=>r x y H2 fun z H3=>∃ k,z=.bl k∧(if k=true then tc σ H3 fun w' H4=>r' y w' H4 Q else Q (.bl false) H3)):tChain r r' ta tb tc σ H Q:=h
theorem aj1 {K:PySem.W.Frag}{n:Nat}{ts:TGs}{a:Addr}{xs:List V}(h1:SqT K H a xs) (h2:xs.length=n) (h:ts xs σ H QS):gTup K n ts (.ref a) σ H QS:=⟨a,xs,rfl,h1,h2,h⟩
theorem bk0 (h:QS σ H):gNil [] σ H QS:=⟨rfl,h⟩
theorem bd6 {gt:TG}{us:TGs}{v:V}{r:List V}(h:gt v σ H fun σ' H'=>us r σ' H' QS):gCons gt us (v::r) σ H QS:=⟨v,r,rfl,h⟩
theorem bk1 {K:PySem.W.Frag}{z:Bool}(h:Q (.bl true) H):rIsi K [V.bl z,V.ty "bool"] H Q:=⟨_,_,_,true,rfl,.bl z,rfl,h⟩
theorem bp4 {K:PySem.W.Frag}(h:te σ H fun x H'=>∃ k,TruV K x H' k∧QT k H'):tTru K te σ H QT:=h
theorem bk2 {K:PySem.W.Frag}{k:Bool}{p:Bool→Prop}(h:p k):∃ j,TruV K (.bl k) H j∧p j:=⟨k,rfl,h⟩
theorem a47 {K:PySem.W.Frag}{p:Addr}{xs:List V}(h1:SqL K H p xs) (h:Q (.int xs.length) H):rLen K [V.ref p] H Q:=⟨_,_,rfl,.inl ⟨xs,h1,rfl⟩,h⟩
theorem bk3 {K:PySem.W.Frag}{p:Addr}{bs:List Bool}(h1:SqL K H p (blsV bs)) (h:Q (.bl (bs.all id)) H):rAll K [V.ref p] H Q:=⟨p,bs,rfl,h1,h⟩
theorem al3 {K:PySem.W.Frag}{p:Addr}{ys:List V}(h1:SqL K H p ys) (h:New H (.lst ys) Q):rListN K [.ref p] H Q:=⟨p,ys,rfl,.inl h1,h⟩
theorem b81 {K:PySem.W.Frag}{p:Addr}{ys:List V}(h1:SqL K H p ys) (h:New H (.tup ys) Q):rTupleN K [.ref p] H Q:=⟨p,ys,rfl,h1,h⟩
end
end L2
namespace L2
open PySem PySem.Spec PyProof.Rows
section
variable {X:Cx}
end
theorem al4 {K:PySem.W.Frag}{a:Addr}{xs:List V}{te:TE}{tt:TT}{caps:List Nat}{σ:St} {H:Hp}{Q:VK}(hz:xs.length≤sizeLine) (Pv:Nat→List V→Hp→Prop) (h0:Pv 0 [] H) (hl:∀ i acc H,Pv i acc H→acc.length≤i∧SqL K H a xs)
 (hs:∀ i x acc H,xs[i]?=some x→Pv i acc H→∃ p u v,x=.ref p∧SqT K H p [u,v]∧tt (some u::some v::capV caps σ) H fun b H4=>if b=true then te (some u::some v::capV caps σ) H4 fun y H5=>Pv (i+1) (acc++[y]) H5 else Pv (i+1) acc H4)
 (hd:∀ acc H,Pv xs.length acc H→New H (.lst acc) Q):CompEnd (Itl K a) (gTup K 2 (gCons (gName 0) (gCons (gName 1) gNil))) tt te 2 caps σ H Q:=by
 refine ⟨fun i m acc σ' H=>m=xs.length - i∧i≤xs.length∧(∃ u v,σ'=u::v::capV caps σ)∧Pv i acc H,⟨xs.length,by simp,Nat.zero_le _,⟨none,none,rfl⟩,h0⟩,?_⟩
 rintro i m acc σ' H' ⟨rfl,hi,⟨u0,v0,rfl⟩,p⟩
 obtain ⟨hl1,hq⟩:=hl i acc H' p
 by_cases hlt:i<xs.length
 · refine .inr ⟨⟨xs,xs[i],hq,by simp [hlt]⟩,by omega,fun ac σ2 H2=>(∃ u v,σ2=u::v::capV caps σ)∧Pv (i+1) ac H2,fun ac σ2 H2 ⟨e,p'⟩=>⟨xs.length - (i+1),by omega,rfl,hlt,e,p'⟩,fun x H2 y=>?_⟩
   obtain ⟨e,y⟩:=y
   subst e
   obtain ⟨q,u,v,rfl,hT,hst⟩:=hs i x acc _ (y xs hq) p
   have eN:∀ ac H5,((∃ u1 v1,some u::some v::capV caps σ=u1::v1::capV caps σ)∧Pv (i+1) ac H5)=Pv (i+1) ac H5:=fun ac H5=>propext ⟨And.right,fun p=>⟨⟨_,_,rfl⟩,p⟩⟩
   refine ⟨q,[u,v],rfl,hT,rfl,u,[v],rfl,v,[],rfl,rfl,?_⟩
   show tt (some u::some v::capV caps σ) _ fun b H4=>if b=true then te (some u::some v::capV caps σ) H4 fun y H5=>((∃ u1 v1,some u::some v::capV caps σ=u1::v1::capV caps σ)∧Pv (i+1) (acc++[y]) H5) else ((∃ u1 v1,some u::some v::capV caps σ=u1::v1::capV caps σ)∧Pv (i+1) acc H4)
   simp only [eN]
   exact hst
 · have e:i=xs.length:=by omega
   subst e
   exact .inl ⟨⟨xs,hq,Nat.le_refl _⟩,New.to (hd acc H' p)⟩
section
variable {σ:St} {H:Hp}{Q:VK}
theorem a99 {l:Addr}{xs:List V}{y:V}(h1:H l=some (.lst xs)) (hz:xs.length<sizeLine) (h:Q .non (upd H l (.lst (xs++[y])))):rAppend (.ref l) [y] H Q:=⟨l,xs,y,rfl,rfl,h1,hz,h⟩
theorem al5 {K:PySem.W.Frag}{l:Addr}{xs:List V}{P:Prop}(h1:SqL K H l xs) (h:P):tyV K "list" (.ref l) H∧P:=⟨.inl ⟨rfl,xs,h1⟩,h⟩
end
def Tups (H H':Hp):Prop:=∀ b xs,H b=some (.tup xs)→H' b=some (.tup xs)
theorem Same.tups {H H':Hp}(s:Same H H'):Tups H H':=fun b xs h=>s b _ h
theorem Tups.trans {H H1 H2:Hp}(a:Tups H H1) (b:Tups H1 H2):Tups H H2:=fun c xs h=>b c xs (a c xs h)
theorem Tups.upd {H:Hp}{l:Addr}{xs:List V}{o:HO}(h:H l=some (.lst xs)):Tups H (upd H l o):=fun b ys e=>by rw [a37 (bf7 e h (fun z=>nomatch z))]; exact e
end L2
namespace L2
open PySem
theorem Same.updNew {H H1:Hp}{l:Addr}{o:HO}(s:Same H H1) (h:H l=none):Same H (upd H1 l o):=fun b u e=>by rw [a37 (a06 e h)]; exact s b u e
end L2
namespace L2
open PySem PySem.Spec PyProof.Rows
end L2
namespace L2
open PySem
end L2
namespace L2
open PySem PySem.Spec PyProof.Rows
end L2
namespace L2
open PySem
inductive Tr where
 | non
 | int (i:Int)
 | str (s:Str)
 | tup (xs:List Tr)
 | lst (xs:List Tr)
mutual
def Tr.At (H:Hp):Tr→V→List Addr→Prop
 | .non,v,fs=>v=.non∧fs=[]
 | .int i,v,fs=>v=.int i∧fs=[]
 | .str s,v,fs=>v=.str s∧fs=[]
 | .tup xs,v,fs=>∃ a vs,v=.ref a∧H a=some (.tup vs)∧Tr.Ats H xs vs fs
 | .lst xs,v,fs=>∃ a vs gs,v=.ref a∧H a=some (.lst vs)∧Tr.Ats H xs vs gs∧fs=a::gs
def Tr.Ats (H:Hp):List Tr→List V→List Addr→Prop
 | [],vs,fs=>vs=[]∧fs=[]
 | x::xs,vs,fs=>∃ v ws f g,vs=v::ws∧fs=f++g∧Tr.At H x v f∧Tr.Ats H xs ws g
end
def Keep (fs:List Addr) (H H':Hp):Prop:=Tups H H'∧∀ a∈fs,∀ xs,H a=some (.lst xs)→H' a=some (.lst xs)
theorem Same.keep {H H':Hp}(s:Same H H') (fs:List Addr):Keep fs H H':=⟨s.tups,fun a _ xs h=>s a _ h⟩
theorem Keep.upd {fs:List Addr}{H:Hp}{l:Addr}{xs:List V}{o:HO}(h:H l=some (.lst xs)) (n:l∉fs):Keep fs H (upd H l o):=⟨Tups.upd h,fun a m ys e=>by
 have hne:a≠l:=fun z=>n (z ▸ m)
 rw [a37 hne]
 exact e⟩
theorem Keep.sub {fs gs:List Addr}{H H':Hp}(k:Keep fs H H') (h:∀ a∈gs,a∈fs):Keep gs H H':=⟨k.1,fun a m=>k.2 a (h a m)⟩
mutual
theorem Tr.At.mono {H H':Hp}:∀ {x:Tr}{v:V}{fs:List Addr},x.At H v fs→Keep fs H H'→x.At H' v fs
 | .non,_,_,h,_=>by simpa only [Tr.At] using h
 | .int _,_,_,h,_=>by simpa only [Tr.At] using h
 | .str _,_,_,h,_=>by simpa only [Tr.At] using h
 | .tup xs,v,fs,h,k=>by
   simp only [Tr.At] at h ⊢
   obtain ⟨a,vs,e,g,r⟩:=h
   exact ⟨a,vs,e,k.1 _ _ g,Tr.Ats.mono r k⟩
 | .lst xs,v,fs,h,k=>by
   simp only [Tr.At] at h ⊢
   obtain ⟨a,vs,gs,e,g,r,rfl⟩:=h
   exact ⟨a,vs,gs,e,k.2 _ (by simp) _ g,Tr.Ats.mono r (k.sub fun b m=>by simp [m]),rfl⟩
theorem Tr.Ats.mono {H H':Hp}:∀ {xs:List Tr}{vs:List V}{fs:List Addr},Tr.Ats H xs vs fs→Keep fs H H'→Tr.Ats H' xs vs fs
 | [],_,_,h,_=>by simpa only [Tr.Ats] using h
 | x::xs,vs,fs,h,k=>by
   simp only [Tr.Ats] at h ⊢
   obtain ⟨v,ws,f,g,e,rfl,a,b⟩:=h
   exact ⟨v,ws,f,g,e,rfl,Tr.At.mono a (k.sub fun c m=>by simp [m]),Tr.Ats.mono b (k.sub fun c m=>by simp [m])⟩
end
theorem Tr.Ats.len {H:Hp}:∀ {xs:List Tr}{vs:List V}{fs:List Addr},Tr.Ats H xs vs fs→vs.length=xs.length
 | [],vs,fs,h=>by
   simp only [Tr.Ats] at h
   obtain ⟨rfl,rfl⟩:=h
   rfl
 | y::xs,vs,fs,h=>by
   simp only [Tr.Ats] at h
   obtain ⟨w,ws,f,g,rfl,rfl,b,c⟩:=h
   simp [c.len]
end L2
namespace L2
open PySem PySem.Spec PyProof.Rows
theorem ba7 (n:Nat):((List.range n).all fun _=>true)=true:=by simp
theorem ae2 (A:Around):A.in1.units=A.units+1:=rfl
section
variable {X:Cx}{pins:List (Addr×Obj)}{σ:St} {H:Hp}{s:Shared}
end
theorem aj2 {it l:Addr}{items:Array Value}{h h':Heap}(hl:h.IsList l items) (e:Heap.ExtBut it h h') (hne:l≠it):h'.IsList l items:=by
 obtain ⟨o,ho,r⟩:=hl
 exact ⟨o,e l o hne ho,r⟩
section
variable {prog:Program}{w:World}{A:Around}{E:Value→Shared→Prop}
theorem ap5 {it l:Addr}{items:Array Value}(hne:l≠it):∀ (n i:Nat) (s:Shared) (Q:List Value→Shared→Prop),s.heap.IsListIter it l i→s.heap.IsList l items→i+n≤items.size →
 (∀ h',h'.IsListIter it l (i+n)→Heap.SameBut it s.heap h'→Q ((items.toList.drop i).take n) { s with heap:=h' })→wpAny (model prog w) A (draw (.ref it) n) Q E s
 | 0,i,s,Q,hit,_,_,hQ=>by
   show wpAny _ _ (pure []) Q E s
   exact wpAny_pure (by simpa using hQ s.heap hit (Heap.SameBut.refl ..))
 | n+1,i,s,Q,hit,ht,hle,hQ=>by
   have hlt:i<items.size:=by omega
   show wpAny _ _ (pyNext (.ref it) >>= _) Q E s
   refine wpAny_bind (wpAny_pyNext_list_item hit ht (x:=items[i]) (by simp [hlt]) fun h1 hit1 hs1=>?_)
   refine wpAny_bind (wpAny_holding (ap5 hne n (i+1) _ _ hit1 (aj2 ht hs1.extBut hne) (by omega) fun h2 hit2 hs2=>wpAny_pure ?_))
   have hd:items.toList.drop i=items[i]::items.toList.drop (i+1):=by simp [List.drop_eq_getElem_cons,hlt]
   have:=hQ h2 (by rw [show i+(n+1)=i+1+n by omega]; exact hit2) (hs1.trans hs2)
   rw [hd,List.take_succ_cons] at this
   exact this
theorem ag2 {s:Shared}{l:Addr}{items:Array Value}{Q:List Value→Shared→Prop}(hh:A.handled=none) (ht:s.heap.IsList l items)
 (hQ:∀ h',Heap.ExtBut s.heap.objs.size s.heap h'→Q items.toList { s with heap:=h' }):wpAny (model prog w) A (unpackItems (.ref l) items.size none) Q E s:=by
 have hlt:l≠s.heap.objs.size:=by obtain ⟨o,ho,_⟩:=ht; exact Nat.ne_of_lt (Heap.lt_size ho)
 unfold unpackItems
 refine wpAny_bind ?_
 unfold notIterableAtAll
 refine wpAny_bind (wpAny_specialOf ht.typeIs slot_list_iter.lookup ?_)
 refine wpAny_pure ?_
 simp only [Bool.false_eq_true,if_false]
 refine wpAny_bind (wpAny_holding (wpAny_pyIter_list ht ?_))
 have hp:(s.heap.push { cls:=.type "list_iterator",data:=.fields #[.ref l,.int 0 0] }).IsList l items:=by
  obtain ⟨o,ho,r⟩:=ht
  exact ⟨o,Heap.get?_push_of_some _ ho,r⟩
 refine wpAny_bind (wpAny_holding (ap5 hlt items.size 0 _ _ ⟨_,Heap.get?_push_size _ rfl,rfl,rfl⟩ hp (by omega) fun h1 hit1 hs1=>?_))
 have hall:List.take items.size (List.drop 0 items.toList)=items.toList:=by
  rw [List.drop_zero]; exact List.take_of_length_le (by simp)
 rw [hall,if_neg (by simp)]
 refine wpAny_bind (wpAny_holding (wpAny_pyNext_list_end hh hit1 (aj2 hp hs1.extBut hlt) (by simp) fun h2 he2=>?_))
 simp only [Option.isSome_none,Bool.false_eq_true,if_false]
 exact wpAny_pure (hQ h2 fun b o hb e=>he2 b o hb (hs1.extBut b o hb (Heap.get?_push_of_some _ e)))
end
section
variable {X:Cx}{pos:Pos}
def gLst (K:PySem.W.Frag) (n:Nat) (t:TGs):TG:=fun v σ H Q=>∃ a xs,v=.ref a∧SqL K H a xs∧xs.length=n∧t xs σ H Q
theorem bd7 (K:PySem.W.Frag) {es:List Expr}{k:Nat}{t:TGs}{n:Nat}(hc:X.calm=true) (h:PGs X es t) (hn:(assignEach es X.env).length=n:=by rfl) (hst:(assignEach es X.env).findIdx? (·.1)=none:=by rfl) (hK:X.K=K:=by rfl) :
 PG X (.Tuple es k pos) (gLst K n t):=by
 subst hK
 intro pins s σ H v u Q I r hw
 obtain ⟨a,xs,e1,hq,hl,hw⟩:=hw
 subst e1
 cases r
 obtain ⟨its,rv,ht,hz⟩:=I.list hq
 rw [PySem.arm_assign_Tuple]
 refine wpAny_bind (wpAny_standAt ?_)
 unfold unpack
 rw [hst,show (assignEach es X.env).length=its.toArray.size by simp [hn,←hl,rv.length]]
 refine wpAny_bind (wpAny_holding (ag2 (I.ok.hd hc) ht.isList fun h' hx=>?_))
 have I1:Inv X pins σ H { s with heap:=h' }:=I.kept (t':=s.toks) fun b o e=>hx b o (Nat.ne_of_lt (Heap.lt_size e)) e
 exact h pins _ σ H xs _ Q I1 (by simpa using rv) hw
theorem bk4 {K:PySem.W.Frag}{σ:St} {H:Hp}{QS:St→Hp→Prop}{n:Nat}{ts:TGs}{a:Addr}{xs:List V}(h1:SqL K H a xs) (h2:xs.length=n) (h:ts xs σ H QS):gLst K n ts (.ref a) σ H QS:=⟨a,xs,rfl,h1,h2,h⟩
end
end L2
namespace L2
open PySem
section
variable {H:Hp}{v:V}{fs:List Addr}
end
section
variable {H:Hp}{v:V}{fs:List Addr}
end
end L2
namespace L2
open PySem PySem.Spec PyProof.Rows
section
variable {X:Cx}
end
end L2
namespace L2
def keptP (ws:List (Option Nat)) (n:Nat):List Nat:=(List.range n).filter fun i=>decide (ws[i]?=some none)
def kept (ws:List (Option Nat)):List Nat:=keptP ws ws.length
end L2
namespace L2
open PySem
section
variable {prog:Program}{w:World}{K:Type} [DecidableEq K] {knd:KeyKind prog w K}{A:Around}{E:Value→Shared→Prop}{s:Shared}
end
section
variable {prog:Program}{w:World}{K:Type} [DecidableEq K] {knd:KeyKind prog w K}{A:Around}{E:Value→Shared→Prop}{s:Shared}
end
end L2
namespace L2
open PySem PySem.Spec PyProof.Rows
section
variable {X:Cx}{pins:List (Addr×Obj)}{σ:St} {H:Hp}{s:Shared}
theorem Inv.turnedL {t':Nat}{h':Heap}{ch:List Addr}(I:Inv X pins σ H s) (k:∀ b o,b∉ch→s.heap.get? b=some o→h'.get? b=some o) (hf:∀ b∈ch,FpOk X pins H b):Inv X pins σ H { s with heap:=h',toks:=t' }:=by
 have nit:∀ b u,H b=some u→b∉ch:=fun b u e z=>by rw [(hf b z).1] at e; cases e
 refine I.step (g':=s.gens) (d':=s.drawn) (ch:=ch) (fun b hb=>⟨(hf b hb).2.2.2.1,(hf b hb).2.1,(hf b hb).2.2.2.2.1,(hf b hb).2.2.2.2.2⟩) (fun b o _ _ hc e _=>k b o hc e) (fun b o _ _ hc e _=>⟨o.slots,k b o hc e⟩) (fun _ _ _ _ n=>n)
  (fun b o hc e=>⟨o,k b o hc e⟩) (fun _ _ e=>e) (fun _ _ _ e=>e) (fun b ps e=>⟨#[],by rw [e]; simp⟩) (fun m hm=>?_) (fun b u e=>?_) I.bare
 · obtain ⟨o,es,ep,ho,r⟩:=hm
   exact ⟨o,es,ep,k _ o (fun z=>(hf _ z).2.1 rfl) ho,r⟩
 · refine (I.hok b u e).stay (fun c v hc q=>k c v ?_ q) (fun _ q=>q) fun _ _ q=>q
   rcases hc with z | z
   · rw [z]; exact nit b u e
   · exact nit c _ z
end
def Ite (K:PySem.W.Frag) (a:Addr):It :=
 ⟨fun i H=>∃ xs x,SqL K H a xs∧xs[i]?=some x,fun i H v H'=>∃ p y,v=.ref p∧H p=none∧Same H H'∧H' p=some (.tup [.int (i:Nat),y])∧∀ xs,SqL K H a xs→xs[i]?=some y,fun i H=>∃ xs,SqL K H a xs∧xs.length≤i⟩
theorem b04 {P:Program}{w:World}{K:PySem.W.Frag}{elts:List Expr}{x1:Nat}{pos:Pos}(a e it:Addr) (hne:e≠it) :
 Turn P w K (.Tuple elts x1 pos) (Ite K a) [e,it] e (fun i h=>(∃ old,IsEnum h e it (i:Nat) old)∧h.IsListIter it a i) where
 mem:=by simp
 obj:=fun i h st b hb=>by
  obtain ⟨⟨old,he⟩,o,e2,c,d⟩:=st
  rcases (by simpa using hb:b=e∨b=it) with rfl | rfl
  · exact ⟨_,he,fun v z=>by cases z⟩
  · exact ⟨o,e2,fun v z=>by rw [d] at z; cases z⟩
 keep:=fun i h h' st k=>⟨let ⟨old,he⟩:=st.1; ⟨old,k e (by simp) _ he⟩,st.2.at fun o x=>k it (by simp) o x⟩
 item:=by
  intro X hP hw hK hc i pins s σ H E I hf st hg
  subst hP hw hK
  obtain ⟨xs,x,hq,hx⟩:=hg
  obtain ⟨its,rv,p,hz⟩:=I.list hq
  obtain ⟨u,hu,ru⟩:=rv.get hx
  obtain ⟨⟨old,he⟩,hit⟩:=st
  have helt:e<s.heap.objs.size:=Heap.lt_size he
  have hilt:it<s.heap.objs.size:=by obtain ⟨_,q,_⟩:=hit; exact Heap.lt_size q
  refine wpAny_pyNext_enum_item he hit p.isList (x:=u) (by simpa using hu) hne fun h' ho hit' hT hsz hk=>?_
  have fr:H s.heap.objs.size=none:=I.hok.fresh (Nat.le_refl _)
  have I1:Inv X pins σ H { s with heap:=h',toks:=s.toks+1 }:=I.turnedL (ch:=[e,it]) (fun b o hb q=>hk b o (fun z=>hb (by simp [z])) (fun z=>hb (by simp [z])) q) hf
  have I2:Inv X pins σ (upd H s.heap.objs.size (.tup [.int (i:Nat),x])) { s with heap:=h',toks:=s.toks+1 }:=I1.adopt (o:=.tup [.int (i:Nat),x]) fr I.sz (Nat.ne_of_gt I.lt) (fun y c ec z=>by
   obtain ⟨v,q⟩:=I.cell y c ec
   exact absurd q.lt (by rw [z]; exact Nat.lt_irrefl _)) (fun q hq z=>absurd (Heap.lt_size (I.pin q hq).1) (by rw [z]; exact Nat.lt_irrefl _))
   ⟨le_line (by simp),[.int (i:Nat) s.toks,u],.cons ⟨_,rfl⟩ (.cons ru .nil),⟨_,hT,rfl,_,rfl⟩⟩
  have ne:∀ b∈[e,it],b≠s.heap.objs.size:=fun b hb=>by
   rcases (by simpa using hb:b=e∨b=it) with rfl | rfl
   · exact Nat.ne_of_lt helt
   · exact Nat.ne_of_lt hilt
  have hf2:∀ b∈[e,it],FpOk X pins (upd H s.heap.objs.size (.tup [.int (i:Nat),x])) b:=fun b hb=>⟨by rw [a37 (ne b hb)]; exact (hf b hb).1,(hf b hb).2⟩
  refine ⟨_,rfl,wpAny_letOwnedTupleGo_enum ho fun h2 he2 hs2=>⟨.ref s.heap.objs.size,_,I2.turnedL (t':=s.toks+1) (ch:=[e]) (fun b o hb q=>(hs2.2 b (fun z=>hb (by simp [z]))).trans q) (fun b hb=>hf2 b (by simp at hb; simp [hb])),rfl,⟨s.heap.objs.size,x,rfl,fr,Same.new fr,a65,fun ys hy=>by rw [I.list_inj hy hq]; exact hx⟩,⟨⟨_,by simpa using he2⟩,hit'.at fun o q=>(hs2.2 it (Ne.symm hne)).trans q⟩,fun b hb=>(hf2 b hb).1⟩⟩
 done:=by
  intro X hP hw hK hc i pins s σ H E I hf st hg
  subst hP hw hK
  obtain ⟨xs,hq,hx⟩:=hg
  obtain ⟨its,rv,p,hz⟩:=I.list hq
  obtain ⟨⟨old,he⟩,hit⟩:=st
  have hl:=rv.length
  exact wpAny_pyNext_enum_end (I.ok.hd hc) he hit p.isList (by simp; omega) fun h' eb=>⟨rfl,I.turnedL (t':=s.toks) (ch:=[it]) (fun b o hb q=>eb b o (fun z=>hb (by simp [z])) q) (fun b hb=>hf b (by simp at hb; simp [hb]))⟩
 self:=fun A i s Q E st h=>let ⟨old,he⟩:=st.1; wpAny_pyIter_enum he h
section
variable {X:Cx}{elts:List Expr}{x1:Nat}{tpos:Pos}
def iEnum (K:PySem.W.Frag) (ta:TA):TI:=fun σ H R=>ta σ H fun vs H1=>∃ a,vs=[.ref a]∧(∃ xs,SqL K H1 a xs)∧R (Ite K a) H1
theorem b05 (K:PySem.W.Frag) {a:Expr}{ta:TA}{p pos:Pos}(hg:Gl X "enumerate") (hm:X.mg "enumerate"=none) (ha:PA X [a] ta) (hs:starEach [a] X.env=[(false,eval a X.env)]:=by rfl) (hK:X.K=K:=by rfl):PI X (.Tuple elts x1 tpos) (.Call (.Name "enumerate" p) [a] [] pos) (iEnum K ta):=by
 subst hK
 intro pins s σ H R I h
 refine Call_ (ai4 I hg hm boot_enumerate (PyProof.Rows.callWith_type1 (thn (ha pos pins s σ H _ I h) fun us s1 ⟨vs,H1,I1,r1,q1⟩=>?_) hs rfl))
 obtain ⟨l,e,⟨xs,hq⟩,q⟩:=q1
 subst e
 obtain ⟨u,rfl,ru⟩:=ay8 r1
 cases ru
 obtain ⟨its,rv,pl,hz⟩:=I1.list hq
 refine call_enumerate_list pl.isList fun h' he hit hsz hk=>?_
 refine wpAny_pyIter_enum he ?_
 refine ⟨s1.heap.objs.size+1,[s1.heap.objs.size+1,s1.heap.objs.size],_,_,H1,rfl,I1.kept (t':=s1.toks) hk,b04 l _ _ (Nat.succ_ne_self _),⟨⟨_,he⟩,hit⟩,fun b hb=>?_,q⟩
 have hb':s1.heap.objs.size≤b:=by
  rcases (by simpa using hb:b=s1.heap.objs.size+1∨b=s1.heap.objs.size) with rfl | rfl <;> omega
 exact I1.fpOk hb' (I1.hok.fresh hb')
theorem bk5 {K:PySem.W.Frag}{σ:St} {H:Hp}{R:It→Hp→Prop}{ts:TA}(h:ts σ H fun vs H1=>∃ a,vs=[.ref a]∧(∃ xs,SqL K H1 a xs)∧R (Ite K a) H1):iEnum K ts σ H R:=h
theorem bk6 {a:Addr}{p:Addr→Prop}(h:p a):∃ b,[V.ref a]=[V.ref b]∧p b:=⟨a,rfl,h⟩
end
section
variable {X:Cx}
def bk7:List V→Hp→VK→Prop:=fun xs H Q=>∃ a b:Int,xs=[.int a,.int b]∧Q (.int (min a b)) H
theorem aj3 (hh:X.calm=true:=by rfl):CallR X (.builtin "min") bk7:=by
 intro pins s σ H xs us Q I r h
 obtain ⟨a,b,rfl,q⟩:=h
 obtain ⟨u,v,rfl,⟨t1,rfl⟩,⟨t2,rfl⟩⟩:=bc3 r
 refine min_two_ints (I.ok.hd hh) fun h' tk hk=>?_
 have I1:Inv X pins σ H { s with heap:=h',toks:=tk }:=I.kept hk
 by_cases c:b<a
 · rw [if_pos c]
   exact ⟨.int b,H,I1,⟨_,rfl⟩,by rw [show min a b=b by omega] at q; exact q⟩
 · rw [if_neg c]
   exact ⟨.int a,H,I1,⟨_,rfl⟩,by rw [show min a b=a by omega] at q; exact q⟩
theorem bk8 {H:Hp}{Q:VK}{a b:Int}(h:Q (.int (min a b)) H):bk7 [.int a,.int b] H Q:=⟨a,b,rfl,h⟩
theorem b82 (xs:List V) (y:V):cutV (xs++[y]) none (some (-1))=xs∧HT.sIx (xs++[y]).length (xs++[y]).length (some (-1))=xs.length:=by
 have e:HT.sIx (xs++[y]).length (xs++[y]).length (some (-1))=xs.length:=by
  unfold HT.sIx
  simp only []
  rw [if_pos (by decide),List.length_append]
  simp only [List.length_cons,List.length_nil]
  omega
 refine ⟨?_,e⟩
 unfold cutV
 rw [e,HT.sIx_none,List.drop_zero,Nat.sub_zero,List.take_left']
 rfl
def rIsN:R2:=fun x y H Q=>y=.non∧Q (.bl (decide (x=.non))) H
def rNotN:R2:=fun x y H Q=>y=.non∧Q (.bl (!decide (x=.non))) H
theorem af4:OpR X (compareOp .Is) rIsN:=bg6
theorem b83:OpR X (compareOp .IsNot) rNotN:=bc2
theorem bp5 {x:V}{H:Hp}{Q:VK}(h:Q (.bl (decide (x=.non))) H):rIsN x .non H Q:=⟨rfl,h⟩
theorem bk9 {x:V}{H:Hp}{Q:VK}(h:Q (.bl (!decide (x=.non))) H):rNotN x .non H Q:=⟨rfl,h⟩
theorem bl0 {to ti:TE}{t:TSet}{v:V}{σ:St} {H:Hp}{Q:St→Hp→Prop}(h:to σ H fun o H1=>ti σ H1 fun i H2=>t o i v H2 fun H3=>Q σ H3):gSub to ti t v σ H Q:=h
theorem au8 {H:Hp}{Q:Hp→Prop}{p:Addr}{xs:List V}{k:Int}{j:Nat}{v:V}(h1:H p=some (.lst xs)) (h2:ixN xs.length k=some j) (h:Q (upd H p (.lst (xs.set j v)))):rSetL (.ref p) (.int k) v H Q:=⟨p,xs,k,j,rfl,rfl,h1,h2,h⟩
def tSeqC (t u:TS):TS:=fun D σ H=>∃ R:St→Hp→Prop,t { D with nx:=R } σ H∧∀ σ' H',R σ' H'→u D σ' H'
theorem b06 {st:Stmt}{rest:List Stmt}{t u:TS}(h1:PS X st t) (h2:PSs X rest u):PSs X (st::rest) (tSeqC t u):=by
 intro pins s σ H D I h
 obtain ⟨R,ha,hb⟩:=h
 refine wpAny_execs_cons (thn (h1 pins s σ H _ I ha) fun f s1 q=>?_)
 cases f with
 | next=>obtain ⟨σ1,H1,I1,q1⟩:=q; exact h2 pins s1 σ1 H1 D I1 (hb σ1 H1 q1)
 | brk=>exact q
 | cont=>exact q
 | ret v=>exact q
theorem bl1 {t u:TS}{nn bb cc:St→Hp→Prop}{rr:VK}{σ:St} {H:Hp}(R:St→Hp→Prop) (h1:t ⟨R,rr,bb,cc⟩ σ H) (h2:∀ σ' H',R σ' H'→u ⟨nn,rr,bb,cc⟩ σ' H'):tSeqC t u ⟨nn,rr,bb,cc⟩ σ H:=⟨R,h1,h2⟩
theorem b07 {c:TT}{tb:TS}{nn bb cc:St→Hp→Prop}{rr:VK}{σ:St} {H:Hp}(W:Nat→St→Hp→Prop) (m:Nat) (h0:W m σ H)
 (hs:∀ m σ H,W m σ H→c σ H fun b H1=>if b=true then ∃ N:St→Hp→Prop,(∀ σ' H',N σ' H'→∃ m',m'<m∧W m' σ' H')∧tb ⟨N,rr,nn,N⟩ σ H1 else nn σ H1):tWhile c tb ⟨nn,rr,bb,cc⟩ σ H:=⟨W,⟨m,h0⟩,hs⟩
end
end L2
namespace L2
open PySem
section
variable {H:Hp}{x:Tr}{xs:List Tr}{v:V}{vs ws:List V}
theorem ats_nil0:Tr.Ats H [] vs []↔vs=[]:=by simp [Tr.Ats]
theorem ats_cons0:Tr.Ats H (x::xs) vs []↔∃ v ws,vs=v::ws∧x.At H v []∧Tr.Ats H xs ws []:=by
 simp only [Tr.Ats]
 constructor
 · rintro ⟨v,ws,f,g,h1,h2,h3,h4⟩
   obtain ⟨rfl,rfl⟩:=List.append_eq_nil_iff.mp h2.symm
   exact ⟨v,ws,h1,h3,h4⟩
 · rintro ⟨v,ws,h1,h3,h4⟩
   exact ⟨v,ws,[],[],h1,rfl,h3,h4⟩
theorem at_tup0:(Tr.tup xs).At H v []↔∃ a vs,v=.ref a∧H a=some (.tup vs)∧Tr.Ats H xs vs []:=by simp only [Tr.At]
theorem at_int0 {i:Int}:(Tr.int i).At H v []↔v=.int i:=by simp [Tr.At]
theorem at_str0 {i:Str}:(Tr.str i).At H v []↔v=.str i:=by simp [Tr.At]
theorem ats_app0:∀ {xs ys:List Tr}{vs:List V},Tr.Ats H (xs++ys) vs []↔∃ us ws,vs=us++ws∧Tr.Ats H xs us []∧Tr.Ats H ys ws []
 | [],ys,vs=>by
   constructor
   · intro h; exact ⟨[],vs,rfl,ats_nil0.mpr rfl,h⟩
   · rintro ⟨us,ws,rfl,h1,h2⟩
     rw [ats_nil0.mp h1]
     exact h2
 | x::xs,ys,vs=>by
   constructor
   · intro h
     obtain ⟨v,ws,rfl,h1,h2⟩:=ats_cons0.mp h
     obtain ⟨us,zs,rfl,h3,h4⟩:=ats_app0.mp h2
     exact ⟨v::us,zs,rfl,ats_cons0.mpr ⟨v,us,rfl,h1,h3⟩,h4⟩
   · rintro ⟨us,ws,rfl,h1,h2⟩
     obtain ⟨v,us',rfl,h3,h4⟩:=ats_cons0.mp h1
     exact ats_cons0.mpr ⟨v,us'++ws,rfl,h3,ats_app0.mpr ⟨us',ws,rfl,h4,h2⟩⟩
theorem Tr.Ats.same {H H':Hp}(h:Tr.Ats H xs vs []) (s:Same H H'):Tr.Ats H' xs vs []:=h.mono (s.keep _)
end
section
variable {H:Hp}{v:V}{a:Addr}
theorem b08 {x y:Tr}{u v:V}(e:H a=some (.tup [u,v])) (h:x.At H u []) (h2:y.At H v []):(Tr.tup [x,y]).At H (.ref a) []:=at_tup0.mpr ⟨a,_,rfl,e,ats_cons0.mpr ⟨_,_,rfl,h,ats_cons0.mpr ⟨_,_,rfl,h2,ats_nil0.mpr rfl⟩⟩⟩
theorem bl3 {i:Int}:(Tr.int i).At H (.int i) []:=at_int0.mpr rfl
theorem al6 {i:Str}:(Tr.str i).At H (.str i) []:=at_str0.mpr rfl
end
def natsV (l:List Nat):List V:=l.map fun k=>V.int (k:Nat)
theorem ap6 (l:List Nat):natsV l=(l.map fun (k:Nat)=>(k:Int)).map V.int:=by simp [natsV]
theorem a28 (l:List Nat):(natsV l).length=l.length:=by simp [natsV]
theorem aa0 (l:List Nat) (k:Nat):natsV l++[V.int (k:Nat)]=natsV (l++[k]):=by simp [natsV]
end L2
namespace L2
open PySem PySem.Spec PyProof.Rows
section
variable {σ:St} {H:Hp}{Q:VK}{QT:Bool→Hp→Prop}{td ty tv te:TE}{nn bb cc:St→Hp→Prop}{rr:VK}
end
end L2
namespace L2
theorem pigeon:∀ (n:Nat) (l:List Nat),l.Nodup→(∀ k∈l,k<n)→l.length≤n
 | 0,l,_,h=>by
   cases l with
   | nil=>simp
   | cons a l=>exact absurd (h a (by simp)) (Nat.not_lt_zero _)
 | n+1,l,hn,h=>by
   by_cases hm:n∈l
   · have h1:=List.length_erase_of_mem hm
     have h2:=pigeon n (l.erase n) (hn.erase n) (fun k hk=>by
      have h3:=hn.mem_erase_iff.mp hk
      have:=h k h3.2
      have:=h3.1
      omega)
     have:0<l.length:=List.length_pos_of_mem hm
     omega
   · have:=pigeon n l hn (fun k hk=>by
      have h1:=h k hk
      have:k≠n:=fun z=>hm (z ▸ hk)
      omega)
     omega
end L2
namespace L2
open PySem PySem.Spec PyProof.Rows
section
variable {X:Cx}{σ:St} {H:Hp}{Q:VK}{QT:Bool→Hp→Prop}{td ty tv te:TE}{nn bb cc:St→Hp→Prop}{rr:VK}
def rRepN:R2:=fun x y H Q=>∃ l k xs,x=.ref l∧y=.int k∧H l=some (.lst xs)∧-(2 ^ 63)≤k∧k<2 ^ 63∧xs.length*k.toNat≤sizeLine∧New H (.lst (List.replicate k.toNat xs).flatten) Q
theorem au9:OpR X (binaryOp .Mult) rRepN:=by
 intro pins s σ H x y v u Q I rx ry h
 obtain ⟨l,k,xs,e1,e2,h1,h2,h3,h4,h5⟩:=h
 exact bh2 pins s σ H x y v u Q I rx ry ⟨l,k,xs,e1,e2,h1,h2,h3,h4,New.to h5⟩
end
section
variable {X:Cx}{elts:List Expr}{x1:Nat}{tpos:Pos}
end
def inB:Option Int→Bool
 | some x=>decide (0≤x) && decide (x≤9)
 | none=>false
def pl2 (k:Bool):Option Int→Option Int→Option Int
 | some x,some y=>some (if k then x+y else x - y)
 | _,_=>none
end L2
namespace L2
open PySem
end L2
namespace L2
open PySem PySem.Spec PyProof.Rows
noncomputable instance trDec:DecidableEq Tr:=fun _ _=>Classical.propDecidable _
section
variable {X:Cx}{pins:List (Addr×Obj)}{σ:St} {H:Hp}{s:Shared}
end
section
variable {s:Shared}
end
section
variable {prog:Program}{w:World}{E:Value→Shared→Prop}
end
section
variable {prog:Program}{w:World}{E:Value→Shared→Prop}
end
section
variable {prog:Program}{w:World}{E:Value→Shared→Prop}{A:Around}{s:Shared}{d:Addr}{o:Obj}{es:Array DictEntry}{ep:Nat}{ts:List Tr}{t:Tr}{u:Value}
end
section
variable {X:Cx}{pins:List (Addr×Obj)}{σ:St} {H:Hp}{s:Shared}{a:Addr}{t:Tr}{y v:V}{u r:Value}{A:Around}{E:Value→Shared→Prop}{kvs:List (Tr×V)}{m:List (Tr×V×V)}
end
section
variable {prog:Program}{w:World}{A:Around}{E:Value→Shared→Prop}{s:Shared}{d it:Addr}{es:Array DictEntry}{ep i:Nat}
end
section
variable {X:Cx}{pins:List (Addr×Obj)}{σ:St} {H:Hp}{s:Shared}{a:Addr}{t:Tr}{y v z:V}{u r:Value}{A:Around}{E:Value→Shared→Prop}{kvs:List (Tr×V)}{m:List (Tr×V×V)}
end
section
variable {X:Cx}{o i e f value:Expr}{pos pos' apos cpos:Pos}{td ty tv tx:TE}{P:Params}
end
def rSum (K:PySem.W.Frag):List V→Hp→VK→Prop:=fun xs H Q=>∃ (a:Addr) (ns:List Int),xs=[.ref a]∧SqL K H a (ns.map V.int)∧Q (.int ns.sum) H
section
variable {X:Cx}
theorem bl4 (hc:X.calm=true):CallR X (.builtin "sum") (rSum X.K):=by
 intro pins s σ H xs us Q I r h
 obtain ⟨a,ns,rfl,hS,q⟩:=h
 cases r with
 | cons r1 r2 =>
 cases r2
 cases r1
 obtain ⟨its,v1,p1,_⟩:=I.list hS
 have hi:=aw4 v1
 obtain ⟨ys,e⟩:=hi.allInts.items
 have hn:=nums_intItems (xs:=ys)
 rw [← e,show its.toArray.toList=its from rfl,hi.numsOf] at hn
 refine sum_intListG (xs:=ys) (I.ok.hd hc) (e ▸ p1.isList) fun h' tk t' hk=>⟨.int ns.sum,H,I.kept hk,⟨t',?_⟩,q⟩
 rw [preSum_eq,List.take_of_length_le (by simp),hn]
end
section
variable {P:Params}{σ:St} {H:Hp}{Q:VK}{td ty tx tv:TE}{nn bb cc:St→Hp→Prop}{rr:VK}
end
def rEqNil (K:PySem.W.Frag):R2:=fun x y H Q=>∃ a b xs,x=.ref a∧y=.ref b∧SqL K H a xs∧SqL K H b []∧Q (.bl xs.isEmpty) H
def rNeNil (K:PySem.W.Frag):R2:=fun x y H Q=>∃ a b xs,x=.ref a∧y=.ref b∧SqL K H a xs∧SqL K H b []∧Q (.bl (!xs.isEmpty)) H
section
variable {X:Cx}
theorem ag9 (K:PySem.W.Frag) (hu:X.A.units+64<cLine) (hK:X.K=K:=by rfl):OpR X (compareOp .Eq) (rEqNil K):=by
 subst hK
 intro pins s σ H x y v u Q I rx ry h
 obtain ⟨a,b,xs,rfl,rfl,h1,h2,q⟩:=h
 cases rx
 cases ry
 obtain ⟨is1,q1,p1,_⟩:=I.list h1
 obtain ⟨is2,q2,p2,_⟩:=I.list h2
 cases q2
 cases q1 with
 | nil =>
   have:=SeqAt.RcAt.lists (A:=X.A) (s:=s) (e:=fun _=>true) p1.isList p2.isList rfl (by omega) (fun j h1 _=>absurd h1 (by simp))
   exact this X.prog X.w X.xe (EP X pins σ Q) ⟨.bl true,H,I,rfl,q⟩
 | cons r1 r2 =>
   have:=SeqAt.RcAt.lists_lengths (A:=X.A) (s:=s) p1.isList p2.isList (by simp) (by omega)
   exact this X.prog X.w X.xe (EP X pins σ Q) ⟨.bl false,H,I,rfl,q⟩
theorem a96 (K:PySem.W.Frag) (hu:X.A.units+64<cLine) (hK:X.K=K:=by rfl):OpR X (compareOp .NotEq) (rNeNil K):=by
 subst hK
 intro pins s σ H x y v u Q I rx ry h
 obtain ⟨a,b,xs,rfl,rfl,h1,h2,q⟩:=h
 cases rx
 cases ry
 obtain ⟨is1,q1,p1,_⟩:=I.list h1
 obtain ⟨is2,q2,p2,_⟩:=I.list h2
 cases q2
 cases q1 with
 | nil =>
   have:=SeqAt.RcNeAt.lists (A:=X.A) (s:=s) (e:=fun _=>true) p1.isList p2.isList rfl (by omega) (fun j h1 _=>absurd h1 (by simp))
   exact this X.prog X.w X.xe (EP X pins σ Q) ⟨.bl false,H,I,rfl,q⟩
 | cons r1 r2 =>
   have:=SeqAt.RcNeAt.lists_lengths (A:=X.A) (s:=s) p1.isList p2.isList (by simp) (by omega)
   exact this X.prog X.w X.xe (EP X pins σ Q) ⟨.bl true,H,I,rfl,q⟩
theorem bd8 (K:PySem.W.Frag) (h:X.calm=true:=by rfl) (hK:X.K=K:=by rfl):CallR X (.builtin "sum") (rSum K):=hK ▸ bl4 h
end
section
variable {K:PySem.W.Frag}{H:Hp}{Q:VK}
theorem ar9 {a b:Addr}{xs:List V}(h1:SqL K H a xs) (h2:SqL K H b []) (h:Q (.bl xs.isEmpty) H):rEqNil K (.ref a) (.ref b) H Q:=⟨a,b,xs,rfl,rfl,h1,h2,h⟩
theorem ac5 {a b:Addr}{xs:List V}(h1:SqL K H a xs) (h2:SqL K H b []) (h:Q (.bl (!xs.isEmpty)) H):rNeNil K (.ref a) (.ref b) H Q:=⟨a,b,xs,rfl,rfl,h1,h2,h⟩
theorem bp6 {a:Addr}{ns:List Int}(h1:SqL K H a (ns.map V.int)) (h:Q (.int ns.sum) H):rSum K [.ref a] H Q:=⟨a,ns,rfl,h1,h⟩
end
section
variable {X:Cx}{o e value:Expr}{f:Str}{pos pos':Pos}{ta tv:TE}
end
section
variable {K:PySem.W.Frag}{σ:St} {H:Hp}{Q:VK}{ta tv:TE}{t:TA}{f m:Str}{C:Addr}{sp:Sp}{dvs:List V}{E:XK}{nn bb cc:St→Hp→Prop}{rr:VK}
end
inductive Tw where
 | sc (v:V)
 | tup (xs:List Tw)
 | lst (xs:List Tw)
def Scal:V→Prop
 | .non | .int _ | .str _ | .bl _=>True
 | _=>False
mutual
def Tw.At (H:Hp):Tw→V→List Addr→Prop
 | .sc x,v,fs=>v=x∧Scal x∧fs=[]
 | .tup xs,v,fs=>∃ a vs,v=.ref a∧H a=some (.tup vs)∧Tw.Ats H xs vs fs
 | .lst xs,v,fs=>∃ a vs gs,v=.ref a∧H a=some (.lst vs)∧Tw.Ats H xs vs gs∧fs=a::gs
def Tw.Ats (H:Hp):List Tw→List V→List Addr→Prop
 | [],vs,fs=>vs=[]∧fs=[]
 | x::xs,vs,fs=>∃ v ws f g,vs=v::ws∧fs=f++g∧Tw.At H x v f∧Tw.Ats H xs ws g
end
mutual
theorem Tw.At.mono {H H':Hp}:∀ {x:Tw}{v:V}{fs:List Addr},x.At H v fs→Keep fs H H'→x.At H' v fs
 | .sc _,_,_,h,_=>by simpa only [Tw.At] using h
 | .tup xs,v,fs,h,k=>by
   simp only [Tw.At] at h ⊢
   obtain ⟨a,vs,e,g,r⟩:=h
   exact ⟨a,vs,e,k.1 _ _ g,Tw.Ats.mono r k⟩
 | .lst xs,v,fs,h,k=>by
   simp only [Tw.At] at h ⊢
   obtain ⟨a,vs,gs,e,g,r,rfl⟩:=h
   exact ⟨a,vs,gs,e,k.2 _ (by simp) _ g,Tw.Ats.mono r (k.sub fun b m=>by simp [m]),rfl⟩
theorem Tw.Ats.mono {H H':Hp}:∀ {xs:List Tw}{vs:List V}{fs:List Addr},Tw.Ats H xs vs fs→Keep fs H H'→Tw.Ats H' xs vs fs
 | [],_,_,h,_=>by simpa only [Tw.Ats] using h
 | x::xs,vs,fs,h,k=>by
   simp only [Tw.Ats] at h ⊢
   obtain ⟨v,ws,f,g,e,rfl,a,b⟩:=h
   exact ⟨v,ws,f,g,e,rfl,Tw.At.mono a (k.sub fun c m=>by simp [m]),Tw.Ats.mono b (k.sub fun c m=>by simp [m])⟩
end
theorem Tw.Ats.same {H H':Hp}{xs:List Tw}{vs:List V}{fs:List Addr}(h:Tw.Ats H xs vs fs) (s:Same H H'):Tw.Ats H' xs vs fs:=h.mono (s.keep _)
theorem Tw.Ats.len {H:Hp}:∀ {xs:List Tw}{vs:List V}{fs:List Addr},Tw.Ats H xs vs fs→vs.length=xs.length
 | [],vs,fs,h=>by simp only [Tw.Ats] at h; rw [h.1]; rfl
 | x::xs,vs,fs,h=>by
   simp only [Tw.Ats] at h
   obtain ⟨v,ws,f,g,rfl,rfl,_,b⟩:=h
   simp [b.len]
theorem Tw.Ats.snoc {H:Hp}:∀ {xs:List Tw}{vs:List V}{fs gs:List Addr}{x:Tw}{v:V},Tw.Ats H xs vs fs→x.At H v gs→Tw.Ats H (xs++[x]) (vs++[v]) (fs++gs)
 | [],vs,fs,gs,x,v,h,a=>by
   simp only [Tw.Ats] at h
   obtain ⟨rfl,rfl⟩:=h
   simp only [List.nil_append,Tw.Ats]
   exact ⟨v,[],gs,[],rfl,by simp,a,rfl,rfl⟩
 | y::ys,vs,fs,gs,x,v,h,a=>by
   simp only [Tw.Ats,List.cons_append] at h ⊢
   obtain ⟨w,ws,f,g,rfl,rfl,b,c⟩:=h
   exact ⟨w,ws++[v],f,g++gs,rfl,by simp,b,c.snoc a⟩
theorem Tw.Ats.get {H:Hp}:∀ {xs:List Tw}{vs:List V}{fs:List Addr},Tw.Ats H xs vs fs→∀ (i:Nat) (v:V),vs[i]?=some v→∃ x f,xs[i]?=some x∧x.At H v f∧∀ a∈f,a∈fs
 | [],vs,fs,h,i,v,e=>by simp only [Tw.Ats] at h; rw [h.1] at e; simp at e
 | x::xs,vs,fs,h,i,v,e=>by
   simp only [Tw.Ats] at h
   obtain ⟨w,ws,f,g,rfl,rfl,a,b⟩:=h
   cases i with
   | zero =>
     obtain rfl:w=v:=by simpa using e
     exact ⟨x,f,rfl,a,fun c m=>by simp [m]⟩
   | succ i =>
     obtain ⟨y,f',h1,h2,h3⟩:=b.get i v (by simpa using e)
     exact ⟨y,f',by simpa using h1,h2,fun c m=>by simp [h3 c m]⟩
mutual
def Tw.h:Tw→Nat
 | .sc _=>0
 | .tup xs=>Tw.hs xs+1
 | .lst xs=>Tw.hs xs+1
def Tw.hs:List Tw→Nat
 | []=>0
 | x::xs=>max x.h (Tw.hs xs)
end
theorem bd9 {A:Around}{s:Shared}{x:V}{u z:Value}(h:Scal x) (r1:RelV x u) (r2:RelV x z):SeqAt.EqAt A s u z true:=by
 cases x with
 | non=>cases r1; cases r2; exact SeqAt.EqAt.same _
 | int i =>
   obtain ⟨t1,rfl⟩:=r1
   obtain ⟨t2,rfl⟩:=r2
   have:=SeqAt.EqAt.int_int (A:=A) (s:=s) i t1 i t2
   simpa using this
 | str i =>
   obtain ⟨t1,rfl⟩:=r1
   obtain ⟨t2,rfl⟩:=r2
   have:=SeqAt.EqAt.str_str (A:=A) (s:=s) i t1 i t2
   simpa using this
 | bl b =>
   cases (show u=Value.bool b from r1)
   cases (show z=Value.bool b from r2)
   exact SeqAt.EqAt.same _
 | _=>exact h.elim
section
variable {X:Cx}{pins:List (Addr×Obj)}{σ:St} {H:Hp}{s:Shared}
mutual
theorem Tw.eqAt (I:Inv X pins σ H s):∀ {t:Tw}{A:Around}{v w:V}{fs gs:List Addr}{u z:Value},t.At H v fs→t.At H w gs→RelV v u→RelV w z→A.units+t.h<cLine→SeqAt.EqAt A s u z true
 | .sc x,A,v,w,fs,gs,u,z,h1,h2,r1,r2,hu=>by
   simp only [Tw.At] at h1 h2
   obtain ⟨rfl,sc,-⟩:=h1
   obtain ⟨rfl,-,-⟩:=h2
   exact bd9 sc r1 r2
 | .tup xs,A,v,w,fs,gs,u,z,h1,h2,r1,r2,hu=>by
   simp only [Tw.At] at h1 h2
   obtain ⟨a,vs,rfl,e1,c1⟩:=h1
   obtain ⟨b,ws,rfl,e2,c2⟩:=h2
   cases r1
   cases r2
   by_cases hab:a=b
   · subst hab
     exact SeqAt.EqAt.same _
   refine SeqAt.EqAt.of_refs hab ?_
   obtain ⟨is1,q1,p1,_⟩:=I.tuple (SqT.of e1)
   obtain ⟨is2,q2,p2,_⟩:=I.tuple (SqT.of e2)
   simp only [Tw.h] at hu
   have hl:is1.length=is2.length:=by rw [← q1.length,←q2.length,c1.len,c2.len]
   have:=SeqAt.RcAt.tuples (A:=A) (s:=s) (e:=fun _=>true) p1 p2 (by omega) (fun j h1 h2=>by
    have:=Tw.eqAts I (A:=A.in1) c1 c2 q1 q2 (by rw [ae2]; omega) j (by simpa using h1) (by simpa using h2)
    simpa using this)
   simpa [hl,ba7] using this
 | .lst xs,A,v,w,fs,gs,u,z,h1,h2,r1,r2,hu=>by
   simp only [Tw.At] at h1 h2
   obtain ⟨a,vs,_,rfl,e1,c1,_⟩:=h1
   obtain ⟨b,ws,_,rfl,e2,c2,_⟩:=h2
   cases r1
   cases r2
   by_cases hab:a=b
   · subst hab
     exact SeqAt.EqAt.same _
   refine SeqAt.EqAt.of_refs hab ?_
   obtain ⟨is1,q1,p1,_⟩:=I.list (SqL.of e1)
   obtain ⟨is2,q2,p2,_⟩:=I.list (SqL.of e2)
   simp only [Tw.h] at hu
   have hl:is1.length=is2.length:=by rw [← q1.length,←q2.length,c1.len,c2.len]
   have:=SeqAt.RcAt.lists (A:=A) (s:=s) (e:=fun _=>true) p1.isList p2.isList (by simpa using hl) (by omega) (fun j h1 h2=>by
    have:=Tw.eqAts I (A:=A.in1) c1 c2 q1 q2 (by rw [ae2]; omega) j (by simpa using h1) (by simpa using h2)
    simpa using this)
   simpa [ba7] using this
theorem Tw.eqAts (I:Inv X pins σ H s):∀ {ts:List Tw}{A:Around}{vs ws:List V}{fs gs:List Addr}{us zs:List Value},Tw.Ats H ts vs fs→Tw.Ats H ts ws gs→Vals vs us→Vals ws zs→A.units+Tw.hs ts<cLine →
 ∀ (j:Nat) (h1:j<us.length) (h2:j<zs.length),SeqAt.EqAt A s us[j] zs[j] true
 | [],A,vs,ws,fs,gs,us,zs,c1,c2,q1,q2,hu,j,h1,h2=>by
   simp only [Tw.Ats] at c1
   obtain ⟨rfl,-⟩:=c1
   cases q1
   exact absurd h1 (by simp)
 | t::ts,A,vs,ws,fs,gs,us,zs,c1,c2,q1,q2,hu,j,h1,h2=>by
   simp only [Tw.Ats] at c1 c2
   obtain ⟨v,vs,f,g,rfl,rfl,a1,b1⟩:=c1
   obtain ⟨w,ws,f',g',rfl,rfl,a2,b2⟩:=c2
   cases q1 with
   | cons r1 q1 =>
   cases q2 with
   | cons r2 q2 =>
   simp only [Tw.hs] at hu
   cases j with
   | zero=>exact Tw.eqAt I a1 a2 r1 r2 (by omega)
   | succ j=>exact Tw.eqAts I b1 b2 q1 q2 (by omega) j (by simpa using h1) (by simpa using h2)
end
def rEqW:R2:=fun x y H Q=>∃ t fs gs,(Tw.tup t).At H x fs∧(Tw.tup t).At H y gs∧Tw.hs t≤50∧Q (.bl true) H
def rNeW:R2:=fun x y H Q=>∃ t fs gs,(Tw.tup t).At H x fs∧(Tw.tup t).At H y gs∧Tw.hs t≤50∧Q (.bl false) H
theorem bl5 (I:Inv X pins σ H s) {A:Around}{t:List Tw}{x y:V}{v u:Value}{fs gs:List Addr}(rx:RelV x v) (ry:RelV y u) (h1:(Tw.tup t).At H x fs) (h2:(Tw.tup t).At H y gs) (hu:A.units+Tw.hs t+4<cLine):SeqAt.RcAt A s v u true∧SeqAt.RcNeAt A s v u false:=by
 simp only [Tw.At] at h1 h2
 obtain ⟨a,vs,rfl,e1,c1⟩:=h1
 obtain ⟨b,ws,rfl,e2,c2⟩:=h2
 cases rx
 cases ry
 obtain ⟨is1,q1,p1,_⟩:=I.tuple (SqT.of e1)
 obtain ⟨is2,q2,p2,_⟩:=I.tuple (SqT.of e2)
 have hl:is1.length=is2.length:=by rw [← q1.length,←q2.length,c1.len,c2.len]
 have hh:∀ (j:Nat) (h1:j<is1.toArray.size) (h2:j<is2.toArray.size),SeqAt.EqAt A.in1 s is1.toArray[j] is2.toArray[j] ((fun _=>true) j):=fun j h1 h2=>by
  have:=Tw.eqAts I (A:=A.in1) c1 c2 q1 q2 (by rw [ae2]; omega) j (by simpa using h1) (by simpa using h2)
  simpa using this
 have k1:=SeqAt.RcAt.tuples (A:=A) (s:=s) (e:=fun _=>true) p1 p2 (by omega) hh
 have k2:=SeqAt.RcNeAt.tuples (A:=A) (s:=s) (e:=fun _=>true) p1 p2 (by omega) hh
 rw [show ((List.range (min is1.toArray.size is2.toArray.size)).all (fun _=>true) && is1.toArray.size == is2.toArray.size)=true by simp [hl]] at k1 k2
 exact ⟨k1,k2⟩
theorem b09 (hu:X.A.units+64<cLine):OpR X (compareOp .Eq) rEqW:=by
 intro pins s σ H x y v u Q I rx ry h
 obtain ⟨t,fs,gs,h1,h2,hh,q⟩:=h
 exact (bl5 I rx ry h1 h2 (A:=X.A) (by omega)).1 X.prog X.w X.xe (EP X pins σ Q) ⟨.bl true,H,I,rfl,q⟩
theorem be0 (hu:X.A.units+64<cLine):OpR X (compareOp .NotEq) rNeW:=by
 intro pins s σ H x y v u Q I rx ry h
 obtain ⟨t,fs,gs,h1,h2,hh,q⟩:=h
 exact (bl5 I rx ry h1 h2 (A:=X.A) (by omega)).2 X.prog X.w X.xe (EP X pins σ Q) ⟨.bl false,H,I,rfl,q⟩
theorem bl6 {H:Hp}{Q:VK}{x y:V}{t:List Tw}{fs gs:List Addr}(h1:(Tw.tup t).At H x fs) (h2:(Tw.tup t).At H y gs) (hh:Tw.hs t≤50) (h:Q (.bl true) H):rEqW x y H Q:=⟨t,fs,gs,h1,h2,hh,h⟩
theorem bl7 {H:Hp}{Q:VK}{x y:V}{t:List Tw}{fs gs:List Addr}(h1:(Tw.tup t).At H x fs) (h2:(Tw.tup t).At H y gs) (hh:Tw.hs t≤50) (h:Q (.bl false) H):rNeW x y H Q:=⟨t,fs,gs,h1,h2,hh,h⟩
end
section
variable {X:Cx}
end
theorem av0 {K:PySem.W.Frag}{a:Addr}{xs:List V}{g:TG}{tb:TS}{D:Ends}{σ:St} {H:Hp}(Pv:Nat→St→Hp→Prop) (h0:Pv 0 σ H) (hl:∀ i σ H,i≤xs.length→Pv i σ H→SqL K H a xs)
 (hs:∀ i x σ H q H2,xs[i]?=some x→Pv i σ H→Same H H2→H2 q=some (.tup [.int (i:Nat),x])→g (.ref q) σ H2 fun σ1 H1=>tb { D with nx:=Pv (i+1),ct:=Pv (i+1),bk:=D.nx } σ1 H1)
 (hd:∀ σ H,Pv xs.length σ H→D.nx σ H):ForEnd (Ite K a) g tb D σ H:=by
 refine ⟨fun i m σ H=>m=xs.length - i∧i≤xs.length∧Pv i σ H,⟨xs.length,by simp,Nat.zero_le _,h0⟩,?_⟩
 rintro i m σ' H' ⟨rfl,hi,p⟩
 have hq:=hl i σ' H' hi p
 by_cases hlt:i<xs.length
 · refine .inr ⟨⟨xs,xs[i],hq,by simp [hlt]⟩,Pv (i+1),fun σ2 H2 p'=>⟨xs.length - (i+1),by omega,rfl,hlt,p'⟩,fun v H2 y=>?_⟩
   obtain ⟨q,x,rfl,hn,sm,hT,hx⟩:=y
   exact hs i x σ' H' q H2 (hx xs hq) p sm hT
 · have e:i=xs.length:=by omega
   subst e
   exact .inl ⟨⟨xs,hq,Nat.le_refl _⟩,hd σ' H' p⟩
section
variable {K:PySem.W.Frag}{H:Hp}{Q:VK}
end
def Itr3 (lo:Int) (n:Nat):It:=⟨fun i _=>i<n,fun i H x H'=>H'=H∧x=.int (lo+i*3),fun i _=>n≤i⟩
theorem as0 {P:Program}{w:World}{K:PySem.W.Frag}{tg:Expr}(it:Addr) (lo:Int) (n:Nat):Turn P w K tg (Itr3 lo n) [it] it (fun i h=>IsRangeIter h it (lo+(i:Nat)*3) ((n:Int) - (i:Nat)) 3) where
 mem:=by simp
 obj:=fun i h st b hb=>by
  have e:b=it:=by simpa using hb
  subst e
  exact ⟨_,st,fun v z=>by
   have z':Data.fields _=Data.cell v:=z
   cases z'⟩
 keep:=fun i h h' st k=>k it (by simp) _ st
 item:=by
  intro X hP hw hK hc i pins s σ H E I hf st hg
  subst hP hw hK
  obtain ⟨f0,f1,f2,f3,f4,f5⟩:=hf it (by simp)
  have W:=Walks.range (prog:=X.prog) (w:=X.w) (I.ok.hd hc) it lo 3 n
  refine W.item i s _ _ hg st fun v h' tk hv st' kk=>?_
  obtain ⟨t,rfl⟩:=hv
  have I1:Inv X pins σ H { s with heap:=h',toks:=tk }:=I.turned (fun b o hb e=>kk b o (by simpa using hb) e) f0 f1 f3 f4 f5
  exact ⟨_,rfl,bc0 (s:={ s with heap:=h',toks:=tk }) (n:="range_iterator") st' rfl rfl (by decide) ⟨.int (lo+i*3),H,I1,⟨t,rfl⟩,⟨rfl,rfl⟩,st',fun b hb=>(hf b hb).1⟩⟩
 done:=by
  intro X hP hw hK hc i pins s σ H E I hf st hg
  subst hP hw hK
  obtain ⟨f0,f1,f2,f3,f4,f5⟩:=hf it (by simp)
  exact wpAny_pyNext_range_end (I.ok.hd hc) st (by have:n≤i:=hg; omega) fun h' eb=>⟨rfl,I.turned (t':=s.toks) (fun b o hb e=>eb b o hb e) f0 f1 f3 f4 f5⟩
 self:=fun _ _ _ _ _ st h=>wpAny_pyIter_rangeiter st h
theorem as1 {a b:Int}(h1:-(2 ^ 40)≤a) (h2:a<2 ^ 40) (h3:-(2 ^ 40)≤b) (h4:b<2 ^ 40):Builtin.Range.small a b 3=true:=by
 have hs:0≤Builtin.Range.rangeSize a b 3∧Builtin.Range.rangeSize a b 3<2 ^ 42:=by
  unfold Builtin.Range.rangeSize
  rw [if_pos (by decide)]
  split <;> omega
 unfold Builtin.Range.small
 rw [if_pos (by decide)]
 generalize Builtin.Range.rangeSize a b 3=z at hs
 simp only [Builtin.Range.rangeFitsLong,Bool.and_eq_true,Bool.or_eq_true,decide_eq_true_eq,beq_iff_eq]
 omega
def ah0 (lo hi:Int):Nat:=((hi - lo+2) / 3).toNat
section
variable {X:Cx}{tg:Expr}
theorem b24 {pins:List (Addr×Obj)}{σ:St} {H:Hp}{s:Shared}{R:It→Hp→Prop}{E:Value→Shared→Prop}{lo hi:Int}{t u v:Tok}(I:Inv X pins σ H s) (h1:-(2 ^ 40)≤lo) (h2:lo<2 ^ 40) (h3:-(2 ^ 40)≤hi) (h4:hi<2 ^ 40)
 (q:R (Itr3 lo (ah0 lo hi)) H):wpAny (model X.prog X.w) X.A (pyIter (.ref s.heap.objs.size)) (PIE X pins σ tg R) E { s with heap:=s.heap.push { cls:=.type "range",data:=.fields #[.int lo t,.int hi u,.int 3 v] } }:=by
 refine wpAny_pyIter_range (IsRange.new ..) (as1 h1 h2 h3 h4) ?_
 have I1:Inv X pins σ H { s with heap:=s.heap.push { cls:=.type "range",data:=.fields #[.int lo t,.int hi u,.int 3 v] } }:=I.kept (t':=s.toks) fun b o e=>Heap.get?_push_of_some _ e
 refine ⟨(s.heap.push { cls:=.type "range",data:=.fields #[.int lo t,.int hi u,.int 3 v] }).objs.size,[(s.heap.push { cls:=.type "range",data:=.fields #[.int lo t,.int hi u,.int 3 v] }).objs.size],_,_,H,rfl,
  I1.kept (t':=s.toks) fun b o e=>Heap.get?_push_of_some _ e,as0 _ lo (ah0 lo hi),?_,fun b hb=>?_,q⟩
 · have e1:lo+((0:Nat):Int)*3=lo:=by simp
   have e2:((ah0 lo hi:Nat):Int) - ((0:Nat):Int)=Builtin.Range.rangeSize lo hi 3:=by
    unfold Builtin.Range.rangeSize ah0
    rw [if_pos (by decide)]
    split <;> omega
   show IsRangeIter _ _ (lo+((0:Nat):Int)*3) (((ah0 lo hi:Nat):Int) - ((0:Nat):Int)) 3
   rw [e1,e2]
   exact Heap.get?_push_size _ rfl
 · have e:b=(s.heap.push { cls:=.type "range",data:=.fields #[.int lo t,.int hi u,.int 3 v] }).objs.size:=by simpa using hb
   subst e
   exact I1.fpOk (Nat.le_refl _) (I1.hok.fresh (Nat.le_refl _))
def bl8 (ta:TA):TI:=fun σ H R=>ta σ H fun vs H1=>∃ i j:Int,vs=[.int i,.int j,.int 3]∧(-(2 ^ 40)≤i∧i<2 ^ 40∧-(2 ^ 40)≤j∧j<2 ^ 40)∧R (Itr3 i (ah0 i j)) H1
theorem ap7 {a b c:Expr}{ta:TA}{p pos:Pos}(hg:Gl X "range") (hm:X.mg "range"=none) (ha:PA X [a,b,c] ta) (hs:starEach [a,b,c] X.env=[(false,eval a X.env),(false,eval b X.env),(false,eval c X.env)]:=by rfl) (hs2:starEach [b,c] X.env=[(false,eval b X.env),(false,eval c X.env)]:=by rfl) :
 PI X tg (.Call (.Name "range" p) [a,b,c] [] pos) (bl8 ta):=by
 intro pins s σ H R I h
 refine Call_ (ai4 I hg hm boot_range (PyProof.Rows.callWith_type1 (thn (ha pos pins s σ H _ I h) fun us s1 ⟨vs,H1,I1,r1,q1⟩=>?_) (by rw [hs,hs2]) (by rw [hs2]; rfl)))
 obtain ⟨i,j,e,⟨q1,q2,q3,q4⟩,q⟩:=q1
 subst e
 cases r1 with
 | cons r rr =>
   cases rr with
   | cons r' rr =>
     cases rr with
     | cons r'' rr =>
       cases rr
       obtain ⟨t,rfl⟩:=r
       obtain ⟨t',rfl⟩:=r'
       obtain ⟨t'',rfl⟩:=r''
       exact call_range_3 (by decide) (b24 I1 q1 q2 q3 q4 q)
end
section
variable {σ:St} {H:Hp}{R:It→Hp→Prop}{ts:TA}
theorem bl9 (h:ts σ H fun vs H1=>∃ i j:Int,vs=[.int i,.int j,.int 3]∧(-(2 ^ 40)≤i∧i<2 ^ 40∧-(2 ^ 40)≤j∧j<2 ^ 40)∧R (Itr3 i (ah0 i j)) H1):bl8 ts σ H R:=h
end
theorem ap8 {lo:Int}{n:Nat}{te:TE}{tt:TT}{caps:List Nat}{σ:St} {H:Hp}{Q:VK}(hz:n≤sizeLine) (Pv:Nat→List V→Hp→Prop) (h0:Pv 0 [] H) (hl:∀ i acc H,Pv i acc H→acc.length≤i)
 (hs:∀ i acc H,i<n→Pv i acc H→tt (some (.int (lo+i*3))::capV caps σ) H fun b H4=>if b=true then te (some (.int (lo+i*3))::capV caps σ) H4 fun y H5=>Pv (i+1) (acc++[y]) H5 else Pv (i+1) acc H4)
 (hd:∀ acc H,Pv n acc H→New H (.lst acc) Q):CompEnd (Itr3 lo n) (gName 0) tt te 1 caps σ H Q:=by
 refine b00 n hz Pv h0 hl (fun i acc H hi p=>hi) (fun acc H p=>Nat.le_refl _) ?_ hd
 rintro i x acc H1 H2 hi p ⟨rfl,rfl⟩
 exact hs i acc _ hi p
def relabelS (scope sc0:Scope):Scope:=relabel scope { scope:=sc0,locals:=0,globals:=0,cells:=[] }
theorem ah1 {X:Cx}{N:List Str}{scope sc0:Scope}{cl:List (Str×Addr)}{C:Addr}{s0:Shared}{H0:Hp}{ex:List Addr}(h:X.env.scope=sc0):(cxC X N scope cl C s0 H0 ex).env.scope=relabelS scope sc0:=by
 subst h
 rfl
theorem bm0 {i:Nat}{t:TE}{f:Int→Int→Int}{σ:St} {H:Hp}{nn bb cc:St→Hp→Prop}{rr:VK}{a:Int}(e:σ[i]?=some (some (.int a))) (h:t σ H fun x H1=>∃ b:Int,x=.int b∧nn (σ.set i (some (.int (f a b)))) H1):tAug i t (ipI f) ⟨nn,rr,bb,cc⟩ σ H:=⟨_,e,by
 have h':t σ H fun y H1=>ipI f (.int a) y H1 fun z H2=>nn (σ.set i (some z)) H2:=by
  have:(fun x H1=>∃ b:Int,x=.int b∧nn (σ.set i (some (.int (f a b)))) H1)=fun y H1=>ipI f (.int a) y H1 fun z H2=>nn (σ.set i (some z)) H2:=by
   funext y H1
   apply propext
   constructor
   · rintro ⟨b,rfl,h⟩; exact ⟨a,b,rfl,rfl,h⟩
   · rintro ⟨a',b,e1,rfl,h⟩; cases e1; exact ⟨b,rfl,h⟩
  rw [← this]
  exact h
 exact h'⟩
section
variable {X:Cx}
end
section
variable {K:PySem.W.Frag}{H:Hp}{Q:VK}
end
theorem aw8 (n:Nat):sliceBounds none none (some (-1)) n=((n:Int) - 1,-1,-1):=by
 unfold sliceBounds
 simp
theorem b25 (n:Nat):sliceRange ((n:Int) - 1) (-1) (-1)=(List.range n).reverse:=by
 unfold sliceRange
 have hc:(if ((-1:Int) > 0) then (if ((n:Int) - 1 < -1) then ((-1:Int) - (n - 1)+-1 - 1) / -1 else 0) else (if ((n:Int) - 1 > -1) then ((n:Int) - 1 - -1 - -1 - 1) / - -1 else 0)).toNat=n:=by
  rw [if_neg (by decide)]
  split
  · rw [show (- -1:Int)=1 from rfl,Int.ediv_one]
    omega
  · omega
 simp only [hc]
 refine List.ext_getElem? fun k=>?_
 by_cases hk:k<n
 · rw [List.getElem?_map,List.getElem?_range hk,List.getElem?_reverse (by simpa using hk),List.length_range,List.getElem?_range (by omega)]
   simp
   omega
 · rw [List.getElem?_eq_none (by simp; omega),List.getElem?_eq_none (by simp; omega)]
theorem b84 (items:List Value):slicePick items.toArray none none (some (-1))=items.reverse.toArray:=by
 unfold slicePick
 rw [aw8]
 simp only [List.size_toArray]
 rw [b25]
 congr 1
 rw [List.filterMap_reverse]
 congr 1
 refine List.ext_getElem? fun k=>?_
 have:(List.range items.length).filterMap (fun x=>items.toArray[x]?)=items:=by
  have h:∀ n,n≤items.length→(List.range n).filterMap (fun x=>items.toArray[x]?)=items.take n:=fun n=>by
   induction n with
   | zero=>intro _; simp
   | succ n ih =>
     intro hn
     rw [List.range_succ,List.filterMap_append,ih (by omega),List.take_add_one]
     simp [show n<items.length by omega]
  rw [h _ (Nat.le_refl _),List.take_length]
 rw [this]
def tRev (K:PySem.W.Frag) (te ts:TE):TE:=fun σ H Q=>te σ H fun x H1=>ts σ H1 fun y H2=>y=.int (-1)∧∃ a xs,x=.ref a∧SqL K H2 a xs∧New H2 (.lst xs.reverse) Q
section
variable {X:Cx}{e st:Expr}{te ts:TE}{p2 pos:Pos}
theorem bm1 (K:PySem.W.Frag) (he:PE X e te) (hs:PE X st ts) (ht:∀ (o r:Value),letTemporaryGo e o r=pure ():=by intro _ _; rfl) (hK:X.K=K:=by rfl):PE X (.Subscript e (.Slice none none (some st) p2) pos) (tRev K te ts):=by
 subst hK
 intro pins s σ H Q I h
 refine wpAny_Subscript_Slice_step PySem.F.slot_list_getitem.lookup (thn (he pins s σ H _ I h) fun v s1 ⟨x,H1,I1,r1,q1⟩=>?_) ht
 refine wpAny_Slice ?_
 rw [evalPart_none]
 refine wpAny_pure ?_
 refine wpAny_pure ?_
 rw [evalPart_some]
 refine thn (hs pins s1 σ H1 _ I1 q1) fun w2 s2 ⟨y,H2,I2,r2,q2⟩=>?_
 obtain ⟨rfl,a,xs,rfl,hS,q⟩:=q2
 cases r1
 obtain ⟨t,rfl⟩:=r2
 have I3:Inv X pins σ H2 { s2 with heap:=s2.heap.push { cls:=.type "slice",data:=.fields #[.none,.none,.int (-1) t] } }:=I2.kept (t':=s2.toks) fun b ob q=>Heap.get?_push_of_some _ q
 obtain ⟨its,v1,p1,hz⟩:=I3.list hS
 refine ⟨p1.isList.typeIs,wpAny_getItem_list_slice (lo:=none) (hi:=none) (st:=some (-1)) p1.isList (Heap.IsSliceOf.new ..) .none .none (.int _ _) (by decide) ?_ (by rw [List.size_toArray,←v1.length]; exact hz)⟩
 refine ⟨.ref _,_,I3.laid (t':=s2.toks) (o:=.lst xs.reverse) (fun b ob q=>Heap.get?_push_of_some _ q) (Nat.le_refl _) ?_,rfl,New.to q _ (I3.hok.fresh (Nat.le_refl _))⟩
 rw [b84]
 exact ⟨by rw [List.length_reverse]; exact hz,its.reverse,0,v1.reverse,Heap.get?_push_size _ rfl⟩
theorem bp7 {K:PySem.W.Frag}{σ:St} {H:Hp}{Q:VK}(h:te σ H fun x H1=>ts σ H1 fun y H2=>y=.int (-1)∧∃ a xs,x=.ref a∧SqL K H2 a xs∧New H2 (.lst xs.reverse) Q):tRev K te ts σ H Q:=h
end
section
variable {prog:Program}{w:World}{z TI TO i1 i2 i3 l1 l2 l3:Addr}{xs ys us:Array Value}{st1 st2 st3:Nat→Heap→Prop}
end
section
variable {X:Cx}{elts:List Expr}{x1:Nat}{tpos:Pos}
end
section
variable {X:Cx}{k v:Expr}{pos:Pos}{tk tv:TE}{P:Params}
end
section
variable {α β:Type}{R:α→β→Prop}{vs:List α}{xs:List β}
end
abbrev RRow:=List Str×Nat
abbrev RRoom:=Bool×List RRow
section
variable {f:Nat→Option Nat}{rep rk:Nat→Nat}
end
def hF (d:Addr):List (Str×V):=putF "heads" (.ref d) []
abbrev Pr:=Nat×Nat
section
variable {X:Cx}
end
section
variable {H:Hp}{Q:VK}
end
section
variable {X:Cx}{pins:List (Addr×Obj)}{σ:St} {H:Hp}{s:Shared}
end
section
variable {X:Cx}{pins:List (Addr×Obj)}{σ:St} {H:Hp}{s:Shared}{a:Addr}{t:Tr}{y v z:V}{u r:Value}{A:Around}{E:Value→Shared→Prop}{kvs:List (Tr×V)}{m:List (Tr×V×V)}
end
section
variable {X:Cx}{o i e f value:Expr}{pos pos' apos cpos:Pos}{td ty tv tx:TE}{P:Params}
end
section
variable {K:PySem.W.Frag}{P:Params}{σ:St} {H:Hp}{Q:VK}{td ty tx tv:TE}
end
section
variable {prog:Program}{w:World}{A:Around}{E:Value→Shared→Prop}{s:Shared}
end
section
variable {X:Cx}{elts:List Expr}{x1:Nat}{tpos:Pos}
end
section
variable {prog:Program}{w:World}{A:Around}{E:Value→Shared→Prop}{s:Shared}{d:Addr}{es:Array DictEntry}{ep:Nat}
end
section
variable {prog:Program}{w:World}{A:Around}{E:Value→Shared→Prop}{s:Shared}{d it:Addr}{es:Array DictEntry}{ep i:Nat}
end
section
variable {X:Cx}{P:Params}{o:Expr}{td:TE}{apos cpos:Pos}
end
section
variable {prog:Program}{w:World}{A:Around}{E:Value→Shared→Prop}{s:Shared}{d v:Addr}{es:Array DictEntry}{ep:Nat}
end
section
variable {X:Cx}{P:Params}
end
open AutoSeq1 (wpAny_loadPart')
section
variable {X:Cx}{elts:List Expr}{x1:Nat}{tpos:Pos}
end
theorem as2 (t:SetTable) (n:Nat):(t.orStandIn n).led=t.led∧(t.plain=false→(t.orStandIn n).plain=false):=by
 unfold SetTable.orStandIn
 split
 · exact ⟨rfl,id⟩
 · exact ⟨rfl,fun _=>rfl⟩
theorem be1 (t:SetTable) (es:Array (Int×Value)) (h:Int) (x:Value):(layNew t es h x).2.1.led=t.led∧(t.plain=false→(layNew t es h x).2.1.plain=false):=by
 unfold layNew
 split
 · exact as2 _ _
 · exact ⟨rfl,fun _=>rfl⟩
theorem b26 (t:SetTable) (es:Array (Int×Value)) (n:Nat):(relayAll t es n).2.1.led=t.led∧(t.plain=false→(relayAll t es n).2.1.plain=false):=by
 unfold relayAll
 split
 · next t' order he =>
   dsimp only
   split
   · unfold SetTable.relaid SetTable.laid at he
     simp only [Option.bind_eq_bind,Option.pure_def,Option.bind_eq_some_iff,Option.some.injEq] at he
     obtain ⟨ow,_,he⟩:=he
     have:=congrArg Prod.fst he
     dsimp only at this
     rw [← this]
     exact ⟨rfl,id⟩
   · exact ⟨rfl,fun _=>rfl⟩
 · exact ⟨rfl,fun _=>rfl⟩
section
variable {prog:Program}{w:World}
variable {A:Around}{E:Value→Shared→Prop}{s:Shared}
end
section
variable {prog:Program}{w:World}{A:Around}{R:Result→Shared→Prop}{I:Addr}{fp wr:List Addr}{G:Array GenState→Array GenState→Prop}{n:Nat}{P:Nat→Value→Prop}{St:Nat→Shared→Prop}
end
section
variable {prog:Program}{w:World}{A:Around}{E:Value→Shared→Prop}{s:Shared}
def setObj (w:World):Obj:={ cls:=.type "set",dict:=none,data:=.set #[] 0 (.fresh 0 0 (!w.params.followText "set-order")) }
theorem b85 (v:Value) {Q1:Value→Shared→Prop}(h:Q1 (.ref s.heap.objs.size) { s with heap:=s.heap.push (setObj w) }) :
 codeAny (model prog w) A (.call (.builtin "set.__new__") ⟨[.type "set",v],[]⟩) (wants Q1 E) s:=by
 refine codeAny_of_tree ?_
 show wpAny _ A.in1 (do checkBuiltinCall "set.__new__" ⟨[.type "set",v],[]⟩; again (.builtin "set.__new__" ⟨[.type "set",v],[]⟩)) _ _ s
 refine wpAny_bind (wpAny_of_eq (F.newCall_set_1 v) (wpAny_pure ⟨plainId_quiet F.plain_set_new _,codeAny_builtin F.entry_set_new ?_⟩))
 rw [Around.under_plainId F.plain_set_new _]
 unfold Builtin.«set.__new__» Builtin.Frozenset.newClass
 have hsub:=sub_set_self
 obtain ⟨hp,g,d,tk,os⟩:=s
 dsimp only
 wp_walk
 refine wpAny_askSetting (wpAny_pure ?_)
 dsimp only
 simp only [newObj]
 exact wpAny_bind (wpAny_alloc (wpAny_pure (wpAny_pure h)))
end
theorem af5 {α:Type}:∀ (xs:List α) (i:Nat) (h:i<xs.length),(xs[i]::xs.eraseIdx i).Perm xs
 | x::xs,0,_=>List.Perm.refl _
 | x::xs,i+1,h=>by
   have h':i<xs.length:=by simpa using h
   exact (List.Perm.swap x xs[i] (xs.eraseIdx i)).trans (List.Perm.cons x (af5 xs i h'))
section
variable {M:Model}{A:Around}{E:Value→Shared→Prop}{s:Shared}
theorem b86 {n:Nat}{Q:Nat→Shared→Prop}(hn:n≠0) (h:∀ i d,i<n→Q i { s with drawn:=d }):wpAny M A (choose .order n) Q E s:=fun Γ p _=>by
 show Sem.wp M Γ (.choose .order n .pure) _ _ p s
 rw [Sem.wp_choose]
 exact ⟨hn,h _ _ (Nat.mod_lt _ (Nat.pos_of_ne_zero hn))⟩
theorem ap9 {α:Type}:∀ (n:Nat) (xs:List α) (s:Shared) {Q:List α→Shared→Prop},xs.length=n→(∀ l d,l.Perm xs→Q l { s with drawn:=d })→wpAny M A (drawOrder n xs) Q E s
 | 0,xs,s,Q,hl,h=>by
   cases List.length_eq_zero_iff.mp hl
   exact wpAny_pure (h [] s.drawn (List.Perm.refl _))
 | n+1,xs,s,Q,hl,h=>by
   obtain ⟨x,xs',rfl⟩:=List.exists_cons_of_length_eq_add_one hl
   show wpAny M A (choose .order (x::xs').length >>= _) Q E s
   refine wpAny_bind (b86 (by simp) fun i d hi=>?_)
   rw [List.getElem?_eq_getElem hi]
   dsimp only
   refine wpAny_bind (ap9 n _ _ (by rw [List.length_eraseIdx]; simp only [hi,if_true]; omega) fun l d' p=>?_)
   refine wpAny_pure (h _ d' ?_)
   exact (List.Perm.cons _ p).trans (af5 _ i hi)
end
theorem slot_set_iterator_next:Slot "set_iterator" "__next__" "set_iterator.__next__" :=
 .of (owner:="set_iterator") (n:="__next__") (by rw [typeLookup_type,builtinLookup_eq_fast]; kernel_rfl) (by decide +kernel) (by decide +kernel) (by decide +kernel) (by first | exact .inl (by decide +kernel) | exact .inr (by decide +kernel)) (by rw [isSubtype_type]; kernel_rfl)
theorem a57:entryFor table "set_iterator.__next__"=some Builtin.«set_iterator.__next__»:=entryFor_of_tree (by kernel_rfl)
theorem ai0:entryFor table "set.__iter__"=some Builtin.«frozenset.__iter__»:=entryFor_alias (id':="frozenset.__iter__") (by kernel_rfl) rfl (by decide +kernel) (by kernel_rfl)
theorem a66 (a:Value):argsOk "set_iterator.__next__" ⟨[a],[]⟩:=by
 unfold argsOk
 kernel_rfl
section
variable {prog:Program}{w:World}{A:Around}{E:Value→Shared→Prop}{s:Shared}{S it:Addr}{o:Obj}{es:Array (Int×Value)}{ep:Nat}{t:SetTable}
def Drw (w:World) (es:Array (Int×Value)) (t:SetTable):Bool:=!w.params.followText "set-order" && (!t.plain && decide (es.size > 1))
theorem b27 {Q:Bool→Shared→Prop}(ho:s.heap.get? S=some o) (hd:o.data=.set es ep t) (hf:t.fits es.size=true) (h:Q (Drw w es t) s):wpAny (model prog w) A (setDrawn S) Q E s:=by
 unfold setDrawn
 refine wpAny_bind (wpAny_setState_of ho hd hf ?_)
 dsimp only
 unfold setsByText
 exact wpAny_bind (wpAny_bind (wpAny_askSetting (wpAny_pure (wpAny_pure h))))
def itObj (first:Value) (S:Addr) (i n ep:Nat):Obj:={ cls:=.type "set_iterator",data:=.fields #[first,.int i 0,.ref S,.int n 0,.int ep 0] }
def plObj (pl:List Nat):Obj:={ cls:=.type "tuple",data:=.seq (pl.map fun (i:Nat)=>rawInt i).toArray }
theorem b87 {Q:Value→Shared→Prop}(ho:s.heap.get? S=some o) (hx:o.ExactSet) (hd:o.data=.set es ep t) (hf:t.fits es.size=true) (lt:es.size<scanBound)
 (qN:Drw w es t=false→Q (.ref s.heap.objs.size) { s with heap:=s.heap.push (itObj (rawInt 0) S 0 es.size ep) })
 (qD:Drw w es t=true→∀ (pl:List Nat) d,pl.Perm (List.range es.size)→Q (.ref (s.heap.push (plObj pl)).objs.size) { s with heap:=(s.heap.push (plObj pl)).push (itObj (.ref s.heap.objs.size) S 0 es.size ep),drawn:=d }) :
 wpAny (model prog w) A (pyIter (.ref S)) Q E s:=by
 have T:s.TypeIs (.ref S) "set":=⟨o,ho,hx.1⟩
 refine wpAny_pyIter_slot T F.slot_set_iter (wpAny_call_entry F.slot_set_iter T ai0 ?_ (F.args_set_iter_1 _))
 unfold Builtin.«frozenset.__iter__» Builtin.Frozenset.slot0 slotArgs
 simp only [List.isEmpty_nil,Bool.not_true,Bool.false_eq_true,↓reduceIte,bind_assoc,List.length_nil,bne_self_eq_false]
 unfold Builtin.Frozenset.addrOf Builtin.Frozenset.sizeOf
 refine wpAny_bind (wpAny_pure ?_)
 try dsimp only
 refine wpAny_bind (wpAny_pure ?_)
 refine wpAny_bind (wpAny_bind (wpAny_setEntries_of ho hd hf (wpAny_pure ?_)))
 refine wpAny_bind (b27 ho hd hf ?_)
 cases hD:Drw w es t with
 | false =>
   simp only [Bool.false_eq_true,if_false]
   refine wpAny_bind (wpAny_pure (wpAny_bind (wpAny_setEpoch_of ho hd hf ?_)))
   unfold newFields
   refine wpAny_bind (wpAny_newObj_type (wpAny_pure ⟨_,rfl,"set_iterator",_,⟨_,Heap.get?_push_size _ rfl,rfl⟩,slot_set_iterator_next.lookup,?_⟩) (by size_fits))
   exact qN hD
 | true =>
   simp only [if_true]
   refine wpAny_bind (ap9 _ _ _ List.length_range fun pl d pp=>?_)
   unfold newTuple
   have ln:pl.length=es.size:=by rw [pp.length_eq,List.length_range]
   refine wpAny_bind (wpAny_newObj_type ?_ (by show (pl.map _).toArray.size≤_; rw [List.size_toArray,List.length_map,ln]; exact fits_of_scanBound lt))
   refine wpAny_bind (wpAny_setEpoch_of (Heap.get?_push_of_some _ ho) hd hf ?_)
   unfold newFields
   refine wpAny_bind (wpAny_newObj_type (wpAny_pure ⟨_,rfl,"set_iterator",_,⟨_,Heap.get?_push_size _ rfl,rfl⟩,slot_set_iterator_next.lookup,?_⟩) (by size_fits))
   exact qD hD pl d pp
end
section
variable {prog:Program}{w:World}{A:Around}{E:Value→Shared→Prop}{s:Shared}{S it tp:Addr}{o:Obj}{es:Array (Int×Value)}{ep i:Nat}{t:SetTable}{first:Value}
theorem b28 {h:Heap}(hi:h.get? it=some (itObj first S i es.size ep)):(h.update it (Obj.mapFields (·.setIfInBounds 1 (rawInt ((i:Int)+1))))).get? it=some (itObj first S (i+1) es.size ep):=by
 have:=Heap.get?_update_self (Obj.mapFields (·.setIfInBounds 1 (rawInt ((i:Int)+1)))) hi rfl
 rw [this]
 rfl
theorem ba8 {pl:List Nat}{Q:Option (Array Value)→Shared→Prop}(ht:s.heap.get? tp=some (plObj pl)) (q:Q (some (pl.map fun (i:Nat)=>rawInt i).toArray) s):wpAny (model prog w) A (seqItems? (.ref tp)) Q E s:=wpAny_seqItems (n:=0) ht rfl q
theorem aw9 {Q:Option Value→Shared→Prop}{pl:List Nat}{p:Nat}{e:Int×Value}(hi:s.heap.get? it=some (itObj (.ref tp) S i es.size ep)) (ht:s.heap.get? tp=some (plObj pl)) (ho:s.heap.get? S=some o) (hd:o.data=.set es ep t) (hf:t.fits es.size=true) (hp:pl[i]?=some p) (he:es[p]?=some e)
 (q:∀ h',h'.get? it=some (itObj (.ref tp) S (i+1) es.size ep)→Heap.SameBut it s.heap h'→Q (some e.2) { s with heap:=h' }):wpAny (model prog w) A (pyNext (.ref it)) Q E s:=by
 have T:s.TypeIs (.ref it) "set_iterator":=⟨_,hi,rfl⟩
 unfold pyNext
 refine wpAny_bind (wpAny_attempt (wpAny_callSpecial?_slot (name:=Str.ofString "__next__") T slot_set_iterator_next (wpAny_call_entry slot_set_iterator_next T a57 ?_ (a66 _))))
 unfold Builtin.«set_iterator.__next__» slotArgs
 simp only [List.isEmpty_nil,Bool.not_true,Bool.false_eq_true,↓reduceIte,bind_assoc,List.length_nil,bne_self_eq_false]
 refine wpAny_bind (wpAny_pure ?_)
 refine wpAny_bind (wpAny_fieldsOf hi rfl ?_)
 show wpAny _ A.in1 (setEntries S >>= _) _ _ s
 refine wpAny_bind (wpAny_setEntries_of ho hd hf ?_)
 rw [if_neg (by simp)]
 show wpAny _ A.in1 (seqItems? (.ref tp) >>= _) _ _ s
 refine wpAny_bind (ba8 ht ?_)
 dsimp only
 rw [show ((pl.map fun (i:Nat)=>rawInt i).toArray)[((i:Nat):Int).toNat]?=some (rawInt p) by rw [Int.toNat_natCast,List.getElem?_toArray,List.getElem?_map,hp]; rfl]
 show wpAny _ A.in1 (setNextDrawn S ((p:Nat):Int).toNat ((ep:Nat):Int).toNat >>= _) _ _ s
 unfold setNextDrawn
 refine wpAny_bind (wpAny_bind (wpAny_setState_of ho hd hf ?_))
 dsimp only
 rw [if_neg (by simp),Int.toNat_natCast,he]
 refine wpAny_pure ?_
 show wpAny _ A.in1 (setField (.ref it) 1 (rawInt ((i:Int)+1)) >>= _) _ _ s
 refine wpAny_bind (wpAny_setField hi rfl (by simp) ?_)
 exact wpAny_pure ⟨_,rfl,wpAny_pure (q _ (b28 hi) (Heap.SameBut.update ..))⟩
theorem av1 {R:PySem.Fin→Shared→Prop}{E':Value→Shared→Prop}(hh:A.handled=none) (q:∀ h' e,(∀ b o,s.heap.get? b=some o→h'.get? b=some o)→Shared.TypeIs { s with heap:=h' } (.ref e) "StopIteration"→E' (.ref e) { s with heap:=h' }) :
 wpAny (model prog w) A (newExc (.type "StopIteration") [] >>= fun e=>(raiseNew e:Sem PySem.Fin)) R E' s:=by
 refine wpAny_bind ?_
 simp only [newExc,newTuple]
 refine wpAny_bind (wpAny_newObj_type ?_ (by size_fits))
 refine wpAny_bind (m:=firstArgMember _ _) (wpAny_of_eq (a:=Value.none) (by first | rfl | (simp only [firstArgMember]; rfl)) (wpAny_newObj_type ?_ (by size_fits)))
 simp only [raiseNew]
 refine wpAny_bind (wpAny_handled ?_)
 rw [hh]
 refine wpAny_bind ((wpAny_pure) ((wpAny_throw) ?_))
 exact q _ _ (fun b o e=>Heap.get?_push_of_some _ (Heap.get?_push_of_some _ e)) ⟨_,Heap.get?_push_size _ rfl,rfl⟩
theorem b29 {Q:Option Value→Shared→Prop}{pl:List Nat}(hh:A.handled=none) (hi:s.heap.get? it=some (itObj (.ref tp) S i es.size ep)) (ht:s.heap.get? tp=some (plObj pl)) (ho:s.heap.get? S=some o) (hd:o.data=.set es ep t) (hf:t.fits es.size=true) (hp:pl[i]?=none)
 (q:∀ h',Heap.ExtBut it s.heap h'→Q none { s with heap:=h' }):wpAny (model prog w) A (pyNext (.ref it)) Q E s:=by
 have T:s.TypeIs (.ref it) "set_iterator":=⟨_,hi,rfl⟩
 unfold pyNext
 refine wpAny_bind (wpAny_attempt (wpAny_callSpecial?_slot (name:=Str.ofString "__next__") T slot_set_iterator_next (wpAny_call_entry slot_set_iterator_next T a57 ?_ (a66 _))))
 unfold Builtin.«set_iterator.__next__» slotArgs
 simp only [List.isEmpty_nil,Bool.not_true,Bool.false_eq_true,↓reduceIte,bind_assoc,List.length_nil,bne_self_eq_false]
 refine wpAny_bind (wpAny_pure (wpAny_bind (wpAny_fieldsOf hi rfl ?_)))
 show wpAny _ A.in1 (setEntries S >>= _) _ _ s
 refine wpAny_bind (wpAny_setEntries_of ho hd hf ?_)
 rw [if_neg (by simp)]
 show wpAny _ A.in1 (seqItems? (.ref tp) >>= _) _ _ s
 refine wpAny_bind (ba8 ht ?_)
 dsimp only
 rw [show ((pl.map fun (i:Nat)=>rawInt i).toArray)[((i:Nat):Int).toNat]?=none by rw [Int.toNat_natCast,List.getElem?_toArray,List.getElem?_map,hp]; rfl]
 show wpAny _ A.in1 (setField (.ref it) 0 (rawInt 0) >>= fun _=>setField (.ref it) 2 .none >>= fun _=>newExc (.type "StopIteration") [] >>= fun e=>raiseNew e) _ _ s
 refine wpAny_bind (wpAny_setField hi rfl (by simp) ?_)
 refine wpAny_bind (wpAny_setField (Heap.get?_update_self _ hi rfl) rfl (by simp) ?_)
 refine av1 hh fun h' e hk hT=>?_
 refine wpAny_bind (wpAny_isInstance (b:=true) (T:="StopIteration") hT isSubtype_stop ?_)
 refine wpAny_pure (q _ fun b ob hb e=>hk _ _ ?_)
 exact ((Heap.SameBut.update ..).trans (Heap.SameBut.update ..)).extBut b ob hb e
end
theorem a92:Slot "set_iterator" "__iter__" "set_iterator.__iter__" :=
 .of (owner:="set_iterator") (n:="__iter__") (by rw [typeLookup_type,builtinLookup_eq_fast]; kernel_rfl) (by decide +kernel) (by decide +kernel) (by decide +kernel) (by first | exact .inl (by decide +kernel) | exact .inr (by decide +kernel)) (by rw [isSubtype_type]; kernel_rfl)
theorem ab3:entryFor table "set_iterator.__iter__"=some Builtin.«dict_keyiterator.__iter__»:=entryFor_alias (id':="dict_keyiterator.__iter__") (by kernel_rfl) rfl (by decide +kernel) (by kernel_rfl)
theorem ab8 (a:Value):argsOk "set_iterator.__iter__" ⟨[a],[]⟩:=by
 unfold argsOk
 kernel_rfl
theorem b30 {α:Type}(nx:Nat→Nat):∀ (f k:Nat) (left:List α) (out:Array α),left.length≤f→(pickOrder.go nx f k left out).toList.Perm (out.toList++left)
 | 0,k,left,out,h=>by
   cases List.length_eq_zero_iff.mp (Nat.le_zero.mp h)
   simp [pickOrder.go]
 | f+1,k,left,out,h=>by
   rw [pickOrder.go]
   by_cases h0:left=[]
   · subst h0
     simp
   · have hl:0<left.length:=List.length_pos_iff.mpr h0
     have hi:nx k % left.length<left.length:=Nat.mod_lt _ hl
     rw [List.getElem?_eq_getElem hi]
     dsimp only
     refine (b30 nx f (k+1) _ _ (by rw [List.length_eraseIdx]; simp only [hi,if_true]; omega)).trans ?_
     rw [Array.toList_push,List.append_assoc]
     exact List.Perm.append (List.Perm.refl _) (af5 _ _ hi)
theorem ae3 {α:Type}(nx:Nat→Nat) (xs:Array α):(pickOrder nx xs).toList.Perm xs.toList:=by
 have:=b30 nx xs.size 0 xs.toList #[] (by simp)
 simpa [pickOrder] using this
section
variable {prog:Program}{w:World}{A:Around}{E:Value→Shared→Prop}{s:Shared}{S it tp:Addr}{o:Obj}{es:Array (Int×Value)}{ep i:Nat}{t:SetTable}{first:Value}
theorem al8 {Q:Value→Shared→Prop}(hi:s.heap.get? it=some (itObj first S i es.size ep)) (h:Q (.ref it) s):wpAny (model prog w) A (pyIter (.ref it)) Q E s:=by
 have T:s.TypeIs (.ref it) "set_iterator":=⟨_,hi,rfl⟩
 refine wpAny_pyIter_slot T a92 (wpAny_call_entry a92 T ab3 ?_ (ab8 _))
 show wpAny _ _ (ret (.ref it)) _ _ s
 exact wpAny_pure ⟨_,rfl,"set_iterator",_,T,slot_set_iterator_next.lookup,h⟩
theorem aj4 {Q:Option Value→Shared→Prop}{slot nxt:Nat}{x:Value}(hi:s.heap.get? it=some (itObj (rawInt slot) S i es.size ep)) (ho:s.heap.get? S=some o) (hd:o.data=.set es ep t) (hf:t.fits es.size=true)
 (hn:∀ {E':Value→Shared→Prop}{Q':Option (Value×Nat)→Shared→Prop},Q' (some (x,nxt)) s→wpAny (model prog w) A.in1 (setNext S slot i ep) Q' E' s)
 (q:∀ h',h'.get? it=some (itObj (rawInt nxt) S (i+1) es.size ep)→Heap.SameBut it s.heap h'→Q (some x) { s with heap:=h' }):wpAny (model prog w) A (pyNext (.ref it)) Q E s:=by
 have T:s.TypeIs (.ref it) "set_iterator":=⟨_,hi,rfl⟩
 unfold pyNext
 refine wpAny_bind (wpAny_attempt (wpAny_callSpecial?_slot (name:=Str.ofString "__next__") T slot_set_iterator_next (wpAny_call_entry slot_set_iterator_next T a57 ?_ (a66 _))))
 unfold Builtin.«set_iterator.__next__» slotArgs
 simp only [List.isEmpty_nil,Bool.not_true,Bool.false_eq_true,↓reduceIte,bind_assoc,List.length_nil,bne_self_eq_false]
 refine wpAny_bind (wpAny_pure (wpAny_bind (wpAny_fieldsOf hi rfl ?_)))
 show wpAny _ A.in1 (setEntries S >>= _) _ _ s
 refine wpAny_bind (wpAny_setEntries_of ho hd hf ?_)
 rw [if_neg (by simp)]
 show wpAny _ A.in1 (setNext S ((slot:Nat):Int).toNat ((i:Nat):Int).toNat ((ep:Nat):Int).toNat >>= _) _ _ s
 rw [Int.toNat_natCast,Int.toNat_natCast,Int.toNat_natCast]
 refine wpAny_bind (hn ?_)
 show wpAny _ A.in1 (setField (.ref it) 0 (rawInt ((nxt:Nat):Int)) >>= fun _=>setField (.ref it) 1 (rawInt ((i:Int)+1)) >>= fun _=>ret x) _ _ s
 refine wpAny_bind (wpAny_setField hi rfl (by simp) ?_)
 have h1:(s.heap.update it (Obj.mapFields (·.setIfInBounds 0 (rawInt ((nxt:Nat):Int))))).get? it=some (itObj (rawInt nxt) S i es.size ep):=by
  rw [Heap.get?_update_self _ hi rfl]
  rfl
 refine wpAny_bind (wpAny_setField h1 rfl (by simp) ?_)
 exact wpAny_pure ⟨_,rfl,wpAny_pure (q _ (b28 h1) ((Heap.SameBut.update ..).trans (Heap.SameBut.update ..)))⟩
theorem aq0 {Q:Option Value→Shared→Prop}{slot:Nat}(hh:A.handled=none) (hi:s.heap.get? it=some (itObj (rawInt slot) S i es.size ep)) (ho:s.heap.get? S=some o) (hd:o.data=.set es ep t) (hf:t.fits es.size=true)
 (hn:∀ {E':Value→Shared→Prop}{Q':Option (Value×Nat)→Shared→Prop},Q' none s→wpAny (model prog w) A.in1 (setNext S slot i ep) Q' E' s)
 (q:∀ h',Heap.ExtBut it s.heap h'→Q none { s with heap:=h' }):wpAny (model prog w) A (pyNext (.ref it)) Q E s:=by
 have T:s.TypeIs (.ref it) "set_iterator":=⟨_,hi,rfl⟩
 unfold pyNext
 refine wpAny_bind (wpAny_attempt (wpAny_callSpecial?_slot (name:=Str.ofString "__next__") T slot_set_iterator_next (wpAny_call_entry slot_set_iterator_next T a57 ?_ (a66 _))))
 unfold Builtin.«set_iterator.__next__» slotArgs
 simp only [List.isEmpty_nil,Bool.not_true,Bool.false_eq_true,↓reduceIte,bind_assoc,List.length_nil,bne_self_eq_false]
 refine wpAny_bind (wpAny_pure (wpAny_bind (wpAny_fieldsOf hi rfl ?_)))
 show wpAny _ A.in1 (setEntries S >>= _) _ _ s
 refine wpAny_bind (wpAny_setEntries_of ho hd hf ?_)
 rw [if_neg (by simp)]
 show wpAny _ A.in1 (setNext S ((slot:Nat):Int).toNat ((i:Nat):Int).toNat ((ep:Nat):Int).toNat >>= _) _ _ s
 rw [Int.toNat_natCast,Int.toNat_natCast,Int.toNat_natCast]
 refine wpAny_bind (hn ?_)
 show wpAny _ A.in1 (setField (.ref it) 2 .none >>= fun _=>newExc (.type "StopIteration") [] >>= fun e=>raiseNew e) _ _ s
 refine wpAny_bind (wpAny_setField hi rfl (by simp) ?_)
 refine av1 hh fun h' e hk hT=>?_
 refine wpAny_bind (wpAny_isInstance (b:=true) (T:="StopIteration") hT isSubtype_stop ?_)
 refine wpAny_pure (q _ fun b ob hb e=>hk _ _ ?_)
 exact (Heap.SameBut.update ..).extBut b ob hb e
theorem aq1 {slot:Nat}{Q:Option (Value×Nat)→Shared→Prop}(ho:s.heap.get? S=some o) (hd:o.data=.set es ep t) (hf:t.fits es.size=true) (hb:w.params.followText "set-order"=true)
 (q:Q (((pickOrder (w.params.setOrder S ep) es)[i]?).map fun e=>(e.2,slot)) s):wpAny (model prog w) A (setNext S slot i ep) Q E s:=by
 unfold setNext
 refine wpAny_bind (wpAny_setState_of ho hd hf ?_)
 dsimp only
 unfold setsByText
 refine wpAny_bind (wpAny_bind (wpAny_askSetting (wpAny_pure ?_)))
 rw [show (model prog w).w.params.followText "set-order"=true from hb]
 simp only [if_true,bne_self_eq_false,Bool.false_eq_true,if_false]
 unfold setWalk
 refine wpAny_bind (wpAny_bind (wpAny_setState_of ho hd hf ?_))
 dsimp only
 unfold setsByText
 refine wpAny_bind (wpAny_bind (wpAny_askSetting (wpAny_pure ?_)))
 rw [show (model prog w).w.params.followText "set-order"=true from hb]
 simp only [if_true]
 refine wpAny_bind (wpAny_askSetting (wpAny_pure ?_))
 exact wpAny_pure q
end
section
variable {prog:Program}{w:World}{A:Around}{E:Value→Shared→Prop}{s:Shared}{S it tp:Addr}{o:Obj}{es:Array (Int×Value)}{ep i:Nat}{t:SetTable}{first:Value}
theorem walkD (hh:A.handled=none) {pl:List Nat}(hn1:S≠it) (hn2:tp≠it) (hd:o.data=.set es ep t) (hf:t.fits es.size=true) (pp:pl.Perm (List.range es.size)) :
 Walks prog w A it [it,S,tp] [it] es.size (fun i v=>∃ e,(pl.map fun p=>es.getD p (0,.none))[i]?=some e∧v=e.2) (fun i h=>h.get? it=some (itObj (.ref tp) S i es.size ep)∧h.get? tp=some (plObj pl)∧h.get? S=some o) where
 sub:=fun b hb=>by simp at hb; simp [hb]
 frame:=fun _ _ _ st hk=>⟨hk it (by simp) _ st.1,hk tp (by simp) _ st.2.1,hk S (by simp) _ st.2.2⟩
 item:=fun i s Q E hi st hQ=>by
  have hl:pl.length=es.size:=by rw [pp.length_eq,List.length_range]
  have hp:pl[i]?=some (pl[i]'(by omega)):=List.getElem?_eq_getElem (by omega)
  have hm:pl[i]'(by omega)<es.size:=List.mem_range.mp (pp.mem_iff.mp (List.getElem_mem _))
  refine aw9 st.1 st.2.1 st.2.2 hd hf hp (Array.getElem?_eq_getElem hm) fun h' h1 hs=>hQ _ h' s.toks ⟨_,by rw [List.getElem?_map,hp]; rfl,by simp [Array.getD,hm]⟩ ⟨h1,hs.extBut _ _ hn2 st.2.1,hs.extBut _ _ hn1 st.2.2⟩ fun b o hb e=>hs.extBut b o (fun z=>hb (by simp [z])) e
 done:=fun s Q E st hQ=>by
  have hl:pl.length=es.size:=by rw [pp.length_eq,List.length_range]
  exact b29 hh st.1 st.2.1 st.2.2 hd hf (List.getElem?_eq_none (by omega)) fun h' he=>hQ h' s.toks fun b o hb e=>he b o (fun z=>hb (by simp [z])) e
 self:=fun _ _ _ _ st hQ=>al8 st.1 hQ
theorem walkT (hh:A.handled=none) (hn1:S≠it) (hd:o.data=.set es ep t) (hf:t.fits es.size=true) (hb:w.params.followText "set-order"=true) :
 Walks prog w A it [it,S,S] [it] es.size (fun i v=>∃ e,((pickOrder (w.params.setOrder S ep) es).toList)[i]?=some e∧v=e.2) (fun i h=>h.get? it=some (itObj (rawInt ((0:Nat):Int)) S i es.size ep)∧h.get? S=some o) where
 sub:=fun b hb=>by simp at hb; simp [hb]
 frame:=fun _ _ _ st hk=>⟨hk it (by simp) _ st.1,hk S (by simp) _ st.2⟩
 item:=fun i s Q E hi st hQ=>by
  have hl:(pickOrder (w.params.setOrder S ep) es).size=es.size:=by
   have:=(ae3 (w.params.setOrder S ep) es).length_eq
   simpa using this
  have hg:(pickOrder (w.params.setOrder S ep) es)[i]?=some ((pickOrder (w.params.setOrder S ep) es)[i]'(by omega)):=Array.getElem?_eq_getElem _
  refine aj4 (slot:=0) (nxt:=0) (x:=((pickOrder (w.params.setOrder S ep) es)[i]'(by omega)).2) st.1 st.2 hd hf (fun q'=>aq1 st.2 hd hf hb (by rw [hg]; exact q')) fun h' h1 hs=>hQ _ h' s.toks ⟨_,by rw [Array.getElem?_toList]; exact hg,rfl⟩ ⟨h1,hs.extBut _ _ hn1 st.2⟩ fun b o hb e=>hs.extBut b o (fun z=>hb (by simp [z])) e
 done:=fun s Q E st hQ=>by
  have hl:(pickOrder (w.params.setOrder S ep) es).size=es.size:=by
   have:=(ae3 (w.params.setOrder S ep) es).length_eq
   simpa using this
  exact aq0 hh st.1 st.2 hd hf (fun q'=>aq1 st.2 hd hf hb (by rw [Array.getElem?_eq_none (by omega)]; exact q')) fun h' he=>hQ h' s.toks fun b o hb e=>he b o (fun z=>hb (by simp [z])) e
 self:=fun _ _ _ _ st hQ=>al8 st.1 hQ
end
section
variable {prog:Program}{w:World}{A:Around}{E:Value→Shared→Prop}{s:Shared}{S:Addr}{es:Array (Int×Value)}
theorem b88 {Q:Bool→Shared→Prop}(hT:s.TypeIs (.ref S) "set") (h:Q false s):wpAny (model prog w) A (Builtin.List.listLengthHint (.ref S)) Q E s:=by
 unfold Builtin.List.listLengthHint
 refine wpAny_bind (wpAny_specialOf hT F.slot_set_len.lookup ?_)
 generalize hid:("set.__len__":String)=id0
 wp_delta
 rw [show splitId id0=some ("set","__len__") from by subst hid; decide +kernel]
 subst hid
 refine wpAny_bind (wpAny_isInstance (T:="set") (b:=true) hT (by rw [isSubtype_type]; kernel_rfl) ?_)
 refine wpAny_ite_split (fun hab=>absurd hab (by decide)) (fun _=>?_)
 refine wpAny_ite_split (fun _=>?_) (fun hab=>absurd (by decide +kernel) hab)
 refine wpAny_bind (wpAny_typeOf hT ?_)
 exact wpAny_pure h
theorem al9 {R:Result→Shared→Prop}{I L:Addr}{fp:List Addr}{n c0:Nat}{P:Nat→Value→Prop}{St:Nat→Heap→Prop}{res:Value}{cnd:Bool}(W:Walks prog w A.in1 I fp [I] n P St) (hn:n≤sizeLine) (hLf:L∉fp) (hI:I∈fp) (hT:s.TypeIs (.ref S) "set") (hS:S∈fp)
 (st:St 0 s.heap) (hL:s.heap.get? L=some { cls:=.type "list",data:=.seq #[] c0 })
 (hR:∀ h' tk acc c',(∀ b o,b≠L→b≠I→s.heap.get? b=some o→h'.get? b=some o)→h'.get? L=some { cls:=.type "list",dict:=none,data:=.seq acc c',slots:=#[] }→ItemsOf P acc n→R (.ok (.ret res)) { s with heap:=h',toks:=tk }) :
 wpAny (model prog w) A.in1 (do
  let room←holding [.ref I] (Builtin.List.listLengthHint (.ref S))
  if (room || cnd)=true then do
   rule "list.extend.makes-room"
   Builtin.List.listTouch (.ref L)
   again (.builtin "list.extend.loop" ⟨[.ref L,.ref I,res],[]⟩)
   else again (.builtin "list.extend.loop" ⟨[.ref L,.ref I,res],[]⟩))
  (fun fin s'=>match fin with | .done f=>R (.ok f) s' | .again c'=>c'.quiet=true∧codeAny (model prog w) A c' R s') (fun e s'=>R (.error e) s') s:=by
 have key:∀ (h:Heap) (c1:Nat),St 0 h→(∀ b o,b≠L→s.heap.get? b=some o→h.get? b=some o)→h.get? L=some { cls:=.type "list",data:=.seq #[] c1 }→codeAny (model prog w) A (.builtin "list.extend.loop" ⟨[.ref L,.ref I,res],[]⟩) R { s with heap:=h }:=by
  intro h c1 hst hk hL1
  refine codeAny_extend_loopS W.toS hn L hLf res n 0 _ #[] c1 rfl (Nat.zero_le _) hst hL1 (ItemsOf.nil _) fun s' acc' c' hm hL' hacc=>?_
  rw [Moved.eq_with hm]
  refine hR s'.heap s'.toks acc' c' (fun b o hb hbI e=>hm.heap b o (fun z=>?_) (hk b o hb e)) hL' hacc
  rcases List.mem_cons.mp z with z | z
  · exact hb z
  · exact hbI (List.mem_singleton.mp z)
 refine wpAny_bind (wpAny_holding (b88 hT ?_))
 refine wpAny_ite_split (fun _=>?_) (fun _=>wpAny_pure ⟨plainId_quiet PySem.F.plain_extend_loop _,key _ c0 st (fun b o _ e=>e) hL⟩)
 refine wpAny_bind (wpAny_rule (wpAny_bind ?_))
 show wpAny _ _ (updateSeq L (·.push .none) >>= fun _=>updateSeq L (·.pop)) _ _ _
 refine wpAny_bind (wpAny_updateSeq hL rfl ?_)
 have hL2:=Heap.get?_update_self (Obj.mapSeq (·.push Value.none)) hL rfl
 refine wpAny_updateSeq (hz:=by seq_fits) hL2 rfl ?_
 have hL3:=Heap.get?_update_self (Obj.mapSeq (·.pop)) hL2 rfl
 have hk:∀ b o,b≠L→s.heap.get? b=some o→((s.heap.update L (Obj.mapSeq (·.push Value.none))).update L (Obj.mapSeq (·.pop))).get? b=some o:=fun b o hb e=>(Heap.get?_update_other _ _ (Ne.symm hb)).trans ((Heap.get?_update_other _ _ (Ne.symm hb)).trans e)
 exact wpAny_pure ⟨plainId_quiet PySem.F.plain_extend_loop _,key _ _ (W.frame 0 _ _ st fun b hb o e=>hk b o (fun z=>hLf (z ▸ hb)) e) hk hL3⟩
theorem ah2 {ord:List (Int×Value)}{acc:Array Value}{n:Nat}(h:ItemsOf (fun i v=>∃ e,ord[i]?=some e∧v=e.2) acc n) (hl:ord.length=n):acc.toList=ord.map (·.2):=by
 apply List.ext_getElem?
 intro j
 rw [List.getElem?_map]
 by_cases hj:j<n
 · have hj':j<acc.size:=by rw [h.1]; exact hj
   obtain ⟨e,h1,h2⟩:=h.2 j acc[j] (Array.getElem?_eq_getElem hj')
   rw [h1,Array.getElem?_toList,Array.getElem?_eq_getElem hj',h2]
   rfl
 · have:=h.1
   rw [Array.getElem?_toList,Array.getElem?_eq_none (by omega),List.getElem?_eq_none (by omega)]
   rfl
theorem ax0 (es:Array (Int×Value)) (d:Int×Value):(List.range es.size).map (fun p=>es.getD p d)=es.toList:=by
 apply List.ext_getElem
 · simp
 · intro j h1 h2
   have hj:j<es.size:=by simpa using h2
   simp [Array.getD,hj]
end
section
variable {prog:Program}{w:World}{A:Around}{E:Value→Shared→Prop}{s:Shared}{S:Addr}{es:Array (Int×Value)}
theorem as3 {α β:Type}{f:α→β}{xs ys:List β}(h:xs.Perm ys):∀ l:List α,ys=l.map f→∃ l':List α,l'.Perm l∧xs=l'.map f:=by
 induction h with
 | nil =>
   intro l hl
   exact ⟨l,List.Perm.refl _,hl⟩
 | cons x _ ih =>
   intro l hl
   cases l with
   | nil=>simp at hl
   | cons y l =>
     rw [List.map_cons,List.cons.injEq] at hl
     obtain ⟨l',p,e⟩:=ih l hl.2
     exact ⟨y::l',p.cons y,by rw [List.map_cons,←hl.1,e]⟩
 | swap x y zs =>
   intro l hl
   match l,hl with
   | a::b::l,hl =>
     rw [List.map_cons,List.map_cons,List.cons.injEq,List.cons.injEq] at hl
     exact ⟨b::a::l,List.Perm.swap _ _ _,by rw [List.map_cons,List.map_cons,←hl.1,←hl.2.1,hl.2.2]⟩
 | trans _ _ ih1 ih2 =>
   intro l hl
   obtain ⟨l2,p2,e2⟩:=ih2 l hl
   obtain ⟨l1,p1,e1⟩:=ih1 l2 e2
   exact ⟨l1,p1.trans p2,e1⟩
end
theorem Inv.drw {X:Cx}{pins:List (Addr×Obj)}{σ:List (Option V)} {H:Hp}{s:Shared}(I:Inv X pins σ H s) (d:Drawn):Inv X pins σ H { s with drawn:=d }:=⟨I.ok,I.os,I.bare,I.base,I.loc,I.cell,I.free,I.freeC,I.pin,I.hok,I.len⟩
section
variable {X:Cx}{P:Program}{w:World}
end
structure Fam {α:Type} [DecidableEq α] (f:α→Tw) (n:Nat):Prop where
 uq:∀ {H:Hp}{a b:α}{v:V}{fs gs:List Addr},(f a).At H v fs→(f b).At H v gs→a=b
 rl:∀ {H:Hp}{a b:α}{v w:V}{fs gs:List Addr}{u:Value},(f a).At H v fs→(f b).At H w gs→RelV v u→RelV w u→v=w
 eq:∀ {X:Cx}{pins:List (Addr×Obj)}{σ:St} {H:Hp}{s:Shared}(I:Inv X pins σ H s) {A:Around}{a b:α}{v w:V}{fs gs:List Addr}{u z:Value},(f a).At H v fs→(f b).At H w gs→RelV v u→RelV w z→A.units+n<cLine→SeqAt.EqAt A s u z (decide (a=b))
def intF (i:Int):Tw:=.sc (.int i)
theorem be2:Fam intF 0:=by
 refine ⟨fun h1 h2=>?_,fun h1 h2 r1 r2=>?_,fun I A a b v w fs gs u z h1 h2 r1 r2 _=>?_⟩ <;> simp only [intF,Tw.At] at h1 h2 <;> obtain ⟨rfl,_,_⟩:=h1
 · have:=h2.1
   injection this
 · obtain ⟨rfl,_,_⟩:=h2
   obtain ⟨t1,rfl⟩:=r1
   obtain ⟨t2,e⟩:=r2
   injection e with e
   rw [e]
 · obtain ⟨rfl,_,_⟩:=h2
   obtain ⟨t1,rfl⟩:=r1
   obtain ⟨t2,rfl⟩:=r2
   have:=SeqAt.EqAt.int_int (A:=A) (s:=‹Shared›) a t1 b t2
   rw [show (a == b)=decide (a=b) from by rw [Bool.eq_iff_iff]; simp] at this
   exact this
theorem b31 {X:Cx}{pins:List (Addr×Obj)}{σ:St} {H:Hp}{s:Shared}(I:Inv X pins σ H s) {α:Type} [DecidableEq α] {f:α→Tw}{n:Nat}(F:Fam f n):∀ {xs ys:List α}{A:Around}{vs ws:List V}{fs gs:List Addr}{us zs:List Value},Tw.Ats H (xs.map f) vs fs→Tw.Ats H (ys.map f) ws gs→Vals vs us→Vals ws zs→A.units+n<cLine→∀ (j:Nat) (h1:j<us.length) (h2:j<zs.length),∃ (k1:j<xs.length) (k2:j<ys.length),SeqAt.EqAt A s us[j] zs[j] (decide (xs[j]=ys[j]))
 | [],ys,A,vs,ws,fs,gs,us,zs,c1,c2,q1,q2,hu,j,h1,h2=>by
   simp only [List.map_nil,Tw.Ats] at c1
   obtain ⟨rfl,-⟩:=c1
   cases q1
   exact absurd h1 (by simp)
 | x::xs,[],A,vs,ws,fs,gs,us,zs,c1,c2,q1,q2,hu,j,h1,h2=>by
   simp only [List.map_nil,Tw.Ats] at c2
   obtain ⟨rfl,-⟩:=c2
   cases q2
   exact absurd h2 (by simp)
 | x::xs,y::ys,A,vs,ws,fs,gs,us,zs,c1,c2,q1,q2,hu,j,h1,h2=>by
   simp only [List.map_cons,Tw.Ats] at c1 c2
   obtain ⟨v,vs,f,g,rfl,rfl,a1,b1⟩:=c1
   obtain ⟨w,ws,f',g',rfl,rfl,a2,b2⟩:=c2
   cases q1 with
   | cons r1 q1 =>
   cases q2 with
   | cons r2 q2 =>
   cases j with
   | zero=>exact ⟨by simp,by simp,F.eq I a1 a2 r1 r2 hu⟩
   | succ j =>
     obtain ⟨k1,k2,e⟩:=b31 I F b1 b2 q1 q2 hu j (by simpa using h1) (by simpa using h2)
     exact ⟨by simpa using k1,by simpa using k2,by simpa using e⟩
theorem as4 {α:Type} [DecidableEq α] {xs ys:List α}(h:xs.length=ys.length) {e:Nat→Bool}(he:∀ j (h1:j<xs.length) (h2:j<ys.length),e j=decide (xs[j]=ys[j])):(List.range xs.length).all e=decide (xs=ys):=by
 rw [Bool.eq_iff_iff,List.all_eq_true,decide_eq_true_iff]
 constructor
 · intro hx
   refine List.ext_getElem h fun j h1 h2=>?_
   have:=hx j (by simpa using h1)
   rw [he j h1 h2] at this
   exact of_decide_eq_true this
 · rintro rfl j hj
   have hj':j<xs.length:=by simpa using hj
   rw [he j hj' hj']
   simp
section
variable {X:Cx}
end
section
variable {rs:List RRoom}{many:Nat}{p:Pr}
variable {N k:Nat}{dv:Pr→Option Nat}
end
section
variable {prog:Program}{w:World}{A:Around}{E:Value→Shared→Prop}{s:Shared}
end
section
variable {X:Cx}{P:Params}
end
section
variable {prog:Program}{w:World}{A:Around}{R:Result→Shared→Prop}{J:Addr}{fp wr:List Addr}{n:Nat}{P:Nat→Value→Prop}{St:Nat→Heap→Prop}
end
section
variable {prog:Program}{w:World}{A:Around}{E:Value→Shared→Prop}{s:Shared}
end
section
variable {X:Cx}{e d:Expr}{t tk:TA}{p kp pos:Pos}
end
def bm2:List V→Hp→VK→Prop:=fun xs H Q=>∃ a b:Int,xs=[.int a,.int b]∧Q (.int (max a b)) H
section
variable {X:Cx}
theorem ax1 (hh:X.calm=true:=by rfl):CallR X (.builtin "max") bm2:=by
 intro pins s σ H xs us Q I r h
 obtain ⟨a,b,rfl,q⟩:=h
 obtain ⟨u,v,rfl,⟨t1,rfl⟩,⟨t2,rfl⟩⟩:=bc3 r
 refine max_two_ints (I.ok.hd hh) fun h' tk hk=>?_
 have I1:Inv X pins σ H { s with heap:=h',toks:=tk }:=I.kept hk
 by_cases c:b > a
 · rw [if_pos c]
   exact ⟨.int b,H,I1,⟨_,rfl⟩,by rw [show max a b=b by omega] at q; exact q⟩
 · rw [if_neg c]
   exact ⟨.int a,H,I1,⟨_,rfl⟩,by rw [show max a b=a by omega] at q; exact q⟩
theorem bm3 {H:Hp}{Q:VK}{a b:Int}(h:Q (.int (max a b)) H):bm2 [.int a,.int b] H Q:=⟨a,b,rfl,h⟩
end
def Ris (t:SetTable):Prop:=t.place.toList.Pairwise (·<·)∧t.dummies=#[]
theorem b32 {xs:Array Nat}(h:xs.toList.Pairwise (·<·)) {a b:Nat}(hab:a≤b) (hb:b<xs.size):xs.getD a 0≤xs.getD b 0:=by
 by_cases e:a=b
 · rw [e]; exact Nat.le_refl _
 · have:=List.pairwise_iff_getElem.mp h a b (by simp; omega) (by simpa using hb) (by omega)
   simp only [Array.getElem_toList] at this
   simp only [Array.getD,show a<xs.size by omega,hb,dif_pos]
   exact Nat.le_of_lt this
structure Blw (xs:Array Nat) (j k:Nat):Prop where
 le:k≤xs.size
 lo:∀ i,i<k→xs.getD i 0<j
 hi:∀ i,k≤i→i<xs.size→j≤xs.getD i 0
theorem am0 {xs:Array Nat}{j:Nat}(h:xs.toList.Pairwise (·<·)):∀ (fuel lo hi:Nat),hi≤xs.size→lo≤hi→hi - lo≤fuel→(∀ i,i<lo→xs.getD i 0<j)→(∀ i,hi≤i→i<xs.size→j≤xs.getD i 0)→Blw xs j (SetTable.below.go xs j fuel lo hi)
 | 0,lo,hi,h1,h2,h3,h4,h5=>by
   have:lo=hi:=by omega
   subst this
   exact ⟨h1,h4,h5⟩
 | fuel+1,lo,hi,h1,h2,h3,h4,h5=>by
   show Blw xs j (if lo<hi then if xs.getD ((lo+hi) / 2) j<j then SetTable.below.go xs j fuel ((lo+hi) / 2+1) hi else SetTable.below.go xs j fuel lo ((lo+hi) / 2) else lo)
   by_cases c:lo<hi
   · rw [if_pos c]
     have hm:(lo+hi) / 2<xs.size:=by omega
     have e:xs.getD ((lo+hi) / 2) j=xs.getD ((lo+hi) / 2) 0:=by simp [Array.getD,hm]
     rw [e]
     by_cases d:xs.getD ((lo+hi) / 2) 0<j
     · rw [if_pos d]
       exact am0 h fuel _ hi h1 (by omega) (by omega) (fun i hi'=>Nat.lt_of_le_of_lt (b32 h (by omega) hm) d) h5
     · rw [if_neg d]
       exact am0 h fuel lo _ (by omega) (by omega) (by omega) h4 fun i hi' hs=>Nat.le_trans (Nat.le_of_not_lt d) (b32 h hi' hs)
   · rw [if_neg c]
     have:lo=hi:=by omega
     subst this
     exact ⟨h1,h4,h5⟩
theorem am1 {xs:Array Nat}(h:xs.toList.Pairwise (·<·)) (j:Nat):Blw xs j (SetTable.below xs j) :=
 am0 h xs.size 0 xs.size (Nat.le_refl _) (Nat.zero_le _) (by omega) (fun i hi=>absurd hi (Nat.not_lt_zero _)) fun i h1 h2=>absurd h2 (by omega)
theorem aq2 {xs:Array Nat}{j k m:Nat}(a:Blw xs j k) (b:Blw xs j m):k=m:=by
 rcases Nat.lt_trichotomy k m with h | h | h
 · have h1:=a.hi k (Nat.le_refl _) (Nat.lt_of_lt_of_le h b.le)
   have h2:=b.lo k h
   omega
 · exact h
 · have h1:=b.hi m (Nat.le_refl _) (Nat.lt_of_lt_of_le h a.le)
   have h2:=a.lo m h
   omega
theorem aj5 {xs:Array Nat}(h:xs.toList.Pairwise (·<·)) {i:Nat}(hi:i<xs.size):SetTable.below xs (xs.getD i 0+1)=i+1:=by
 refine aq2 (am1 h _) ⟨hi,fun a ha=>?_,fun a ha hs=>?_⟩
 · have:=b32 h (show a≤i by omega) hi
   omega
 · have:=List.pairwise_iff_getElem.mp h i a (by simpa using hi) (by simpa using hs) (by omega)
   simp only [Array.getElem_toList] at this
   simp only [Array.getD,hi,hs,dif_pos]
   exact this
theorem b33 {xs:Array Nat}(h:xs.toList.Pairwise (·<·)):SetTable.below xs 0=0 :=
 aq2 (am1 h 0) ⟨Nat.zero_le _,fun i hi=>absurd hi (Nat.not_lt_zero _),fun _ _ _=>Nat.zero_le _⟩
theorem ae4 (t:SetTable) (n:Nat):Ris (t.standIn n):=by
 refine ⟨?_,rfl⟩
 show (Array.range n).toList.Pairwise (·<·)
 rw [Array.toList_range]
 exact List.pairwise_lt_range
theorem be3 {t:SetTable}{j:Nat}(h:Ris t) (he:t.slot j=.empty):Ris (t.put j).1:=by
 have b:=am1 h.1 j
 refine ⟨?_,?_⟩
 · show (SetTable.insertAt t.place (SetTable.below t.place j) j).toList.Pairwise (·<·)
   have hne:t.place[SetTable.below t.place j]?≠some j:=fun z=>by
    unfold SetTable.slot at he
    simp only [z,beq_self_eq_true,if_true] at he
    cases he
   generalize SetTable.below t.place j=k at b hne
   have e:(SetTable.insertAt t.place k j).toList=t.place.toList.take k++(j::t.place.toList.drop k):=by
    unfold SetTable.insertAt
    simp [List.append_assoc]
    exact List.take_of_length_le (by simp)
   rw [e]
   have hat:∀ i (hi:i<t.place.size),t.place.getD i 0=t.place.toList[i]'(by simpa using hi):=fun i hi=>by simp [Array.getD,hi]
   refine List.pairwise_append.mpr ⟨h.1.sublist (List.take_sublist _ _),List.pairwise_cons.mpr ⟨fun x hx=>?_,h.1.sublist (List.drop_sublist _ _)⟩,fun x hx y hy=>?_⟩
   · obtain ⟨i,hi,rfl⟩:=List.mem_iff_getElem.mp hx
     rw [List.getElem_drop]
     rw [List.length_drop,Array.length_toList] at hi
     have h1:=b.hi (k+i) (by omega) (by omega)
     rw [hat _ (by omega)] at h1
     by_cases hz:i=0
     · subst hz
       have:t.place.toList[k+0]'(by simp; omega)≠j:=fun z=>hne (by
        rw [Array.getElem?_eq_getElem (by omega)]
        simpa using z)
       omega
     · have h2:=List.pairwise_iff_getElem.mp h.1 k (k+i) (by simp; omega) (by simp; omega) (by omega)
       have h3:=b.hi k (Nat.le_refl _) (by omega)
       rw [hat _ (by omega)] at h3
       omega
   · have hxj:x<j:=by
      obtain ⟨i,hi,rfl⟩:=List.mem_iff_getElem.mp hx
      rw [List.getElem_take]
      rw [List.length_take,Array.length_toList] at hi
      have h1:=b.lo i (by omega)
      rw [hat _ (by omega)] at h1
      exact h1
     rcases List.mem_cons.mp hy with rfl | hy
     · exact hxj
     · obtain ⟨i,hi,rfl⟩:=List.mem_iff_getElem.mp hy
       rw [List.getElem_drop]
       rw [List.length_drop,Array.length_toList] at hi
       have h1:=b.hi (k+i) (by omega) (by omega)
       rw [hat _ (by omega)] at h1
       omega
 · show (if SetTable.has t.dummies j then _ else t.dummies)=#[]
   rw [h.2]
   rfl
theorem am2 (t:SetTable) (p:SetTable.Probe):(t.advance p).dummy=p.dummy:=by
 unfold SetTable.advance
 split <;> rfl
theorem av2 {t:SetTable}{f:Nat→Int}{h:Int}(hd:t.dummies=#[]):∀ (fuel:Nat) (p:SetTable.Probe) {j:Nat}{d:Option Nat},p.dummy=none→SetTable.probe.go t f h fuel p=some (.empty j d)→d=none∧t.slot j=.empty
 | 0,p,j,d,_,e=>by cases e
 | fuel+1,p,j,d,hp,e=>by
   have e':(match t.slot p.j with
    | .empty=>some (SetTable.Met.empty p.j p.dummy)
    | .dummy=>SetTable.probe.go t f h fuel (t.advance { p with dummy:=some p.j })
    | .live i=>if f i == h then some (.candidate p.j i (t.advance p)) else SetTable.probe.go t f h fuel (t.advance p))=some (.empty j d):=e
   cases hs:t.slot p.j with
   | empty =>
     rw [hs] at e'
     simp only [Option.some.injEq,SetTable.Met.empty.injEq] at e'
     obtain ⟨rfl,rfl⟩:=e'
     exact ⟨hp,hs⟩
   | dummy =>
     exfalso
     unfold SetTable.slot SetTable.has at hs
     rw [hd] at hs
     simp only at hs
     split at hs
     · cases hs
     · simp at hs
   | live i =>
     rw [hs] at e'
     simp only at e'
     split at e'
     · cases e'
     · exact av2 hd fuel _ (by rw [am2]; exact hp) e'
theorem be4 {t:SetTable}(h:Ris t) (es:Array (Int×Value)) (hh:Int) (x:Value):Ris (layNew t es hh x).2.1:=by
 unfold layNew
 split
 · next slot wd e =>
   have hs:t.slot slot=.empty:=by
    unfold SetTable.freeSlot at e
    split at e
    · next j d e' =>
      obtain ⟨rfl,hs⟩:=av2 h.2 _ _ rfl (show SetTable.probe.go t _ hh _ _=_ from e')
      simp only [Option.getD_none,Option.isSome_none,Option.some.injEq,Prod.mk.injEq] at e
      rw [← e.1]
      exact hs
    · cases e
   have hp:=be3 h hs
   dsimp only
   unfold SetTable.orStandIn
   split
   · exact hp
   · exact ae4 _ _
 · exact ae4 _ _
theorem b34 (t:SetTable) (es:Array (Int×Value)) (n:Nat):Ris (relayAll t es n).2.1:=by
 unfold relayAll
 split
 · next t' order he =>
   dsimp only
   split
   · unfold SetTable.relaid SetTable.laid at he
     simp only [Option.bind_eq_bind,Option.pure_def,Option.bind_eq_some_iff,Option.some.injEq] at he
     obtain ⟨ow,_,he⟩:=he
     have:=congrArg Prod.fst he
     dsimp only at this
     rw [← this]
     refine ⟨?_,rfl⟩
     simp only [List.map_filterMap]
     rw [List.pairwise_filterMap]
     refine List.pairwise_lt_range.imp fun {a b} hab x hx y hy=>?_
     simp only [Option.map_map,Option.map_eq_some_iff,Function.comp] at hx hy
     obtain ⟨_,_,rfl⟩:=hx
     obtain ⟨_,_,rfl⟩:=hy
     exact hab
   · exact ae4 _ _
 · exact ae4 _ _
section
variable {prog:Program}{w:World}
structure SInt (prog:Program) (w:World) (h:Heap) (a:Addr) (es:Array (Int×Value)):Prop where
 ex:∃ o ep t,h.get? a=some o∧o.ExactSet∧o.data=.set es ep t∧t.fits es.size=true∧t.led=!w.params.followText "set-order"∧Ris t
 el:ElemsOf (intKind prog w) es.toList
 lt:es.size<scanBound
theorem SInt.store {h:Heap}{a:Addr}{o:Obj}{es es':Array (Int×Value)}{ep:Nat}{t t':SetTable}(ho:h.get? a=some o) (hx:o.ExactSet) (hd:o.data=.set es ep t) (hf:t'.fits es'.size=true) (hl:t'.led=!w.params.followText "set-order") (hp:Ris t') (el:ElemsOf (intKind prog w) es'.toList) (lt:es'.size<scanBound) :
 (h.update a (Obj.putSet es' t')).get? a=some { o with data:=.set es' (ep+1) t' }∧SInt prog w (h.update a (Obj.putSet es' t')) a es':=by
 have e:(h.update a (Obj.putSet es' t')).get? a=some { o with data:=.set es' (ep+1) t' }:=by
  rw [← putSet_of es' t' hd]
  exact Heap.get?_update_self (Obj.putSet es' t') ho (by rw [putSet_of es' t' hd]; rfl)
 exact ⟨e,⟨_,ep+1,t',e,hx,rfl,hf,hl,hp⟩,el,lt⟩
def GrewI (w:World) (es es':Array (Int×Value)) (k:Int):Prop:=(es'=es∧∃ e∈es.toList,e.2.isInt k=true)∨((∀ e∈es.toList,e.2.isInt k=false)∧∃ u,es'.toList.Perm (es.toList++[(hashInt k,.int k u)]))
variable {A:Around}{E:Value→Shared→Prop}{s:Shared}
theorem SInt.add {a:Addr}{es:Array (Int×Value)}{k:Int}{u:Tok}{Q:Bool→Shared→Prop}(hS:SInt prog w s.heap a es) (room:es.size+1<scanBound)
 (h:∀ b h' es',Heap.SameBut a s.heap h'→SInt prog w h' a es'→GrewI w es es' k→Q b { s with heap:=h',toks:=s.toks+1 }):wpAny (model prog w) A (setAdd a (.int k u)) Q E s:=by
 obtain ⟨⟨o,ep,t,ho,hx,hd,hf,hl,hp⟩,hel,hlt⟩:=hS
 have hk:(intKind prog w).is k (.int k u)=true:=by simp [PySem.intKind,Value.isInt]
 have hsc:(Value.int k u).scannable=true:=rfl
 unfold setAdd setAddHashed setAddHashedIn
 refine wpAny_holding (wpAny_bind ((intKind prog w).pyHash hk ?_))
 refine wpAny_holding (wpAny_bind (wpAny_setState_of (s:={ s with toks:=s.toks+1 }) ho hd hf ?_))
 dsimp only
 rw [byScan_of hsc hlt hel]
 simp only [↓reduceIte]
 unfold setAddByScan
 refine wpAny_bind (wpAny_bind (wpAny_rule (wpAny_bind (wpAny_setScan_of (s:={ s with toks:=s.toks+1 }) hk ho hd hf hel ?_))))
 cases hr:List.findIdx? (fun e=>(intKind prog w).is k e.2) es.toList with
 | some j =>
   dsimp only
   obtain ⟨hj,hpj,_⟩:=List.findIdx?_eq_some_iff_getElem.mp hr
   exact wpAny_pure (wpAny_pure (h _ s.heap es (Heap.SameBut.refl a s.heap) ⟨⟨o,ep,t,ho,hx,hd,hf,hl,hp⟩,hel,hlt⟩ (.inl ⟨rfl,_,List.getElem_mem hj,hpj⟩)))
 | none =>
   dsimp only
   have hno:∀ e∈es.toList,e.2.isInt k=false:=fun e he=>by
    have:=List.findIdx?_eq_none_iff.mp hr e he
    exact this
   have hgw:∀ (b:Bool) {s₁:Shared}{Q':Unit→Shared→Prop},Q' () s₁→wpAny (model prog w) A (match b with | true=>rule "set.scan.the-table-gave-way" | false=>pure ()) Q' E s₁:=fun b s₁ Q' hq=>by
    cases b
    · exact wpAny_pure hq
    · exact wpAny_rule hq
   have p1:=layNew_perm t es ((intKind prog w).hash k) (.int k u)
   have q1:=layNew_fits t es ((intKind prog w).hash k) (.int k u)
   have z1:=be4 hp es ((intKind prog w).hash k) (.int k u)
   have r1:=be1 t es ((intKind prog w).hash k) (.int k u)
   generalize layNew t es ((intKind prog w).hash k) (.int k u)=L at p1 q1 r1 z1 ⊢
   obtain ⟨es1,t1,wd,gv⟩:=L
   dsimp only at p1 q1 r1 z1 ⊢
   rw [Array.toList_push] at p1
   have el1:ElemsOf (intKind prog w) es1.toList:=(hel.push hk hsc).perm p1
   have sz1:es1.size=es.size+1:=by rw [← Array.length_toList,p1.length_eq]; simp
   refine wpAny_bind (hgw _ ?_)
   have fin:∀ t2:SetTable,t2.fits es1.size=true→t2.led=t.led→Ris t2→wpAny (model prog w) A (do
    storeSet a es1 t2
    if (!wd && t2.tooFull)=true then do
     (match (relayAll t2 es1 (SetTable.grown es1.size)).2.2 with | true=>rule "set.scan.the-table-gave-way" | false=>pure ())
     storeSet a (relayAll t2 es1 (SetTable.grown es1.size)).1 (relayAll t2 es1 (SetTable.grown es1.size)).2.1
     pure (some true)
     else pure (some true)) (fun r s₁=>wpAny (model prog w) A (match r with | some added=>pure added | none=>setAddHashedIn a (.int k u) ((intKind prog w).hash k) 99999) Q E s₁) E { s with toks:=s.toks+1 }:=by
    intro t2 f2 l2 pl2
    obtain ⟨o1,S1⟩:=SInt.store (prog:=prog) (w:=w) (es':=es1) (t':=t2) ho hx hd f2 (l2.trans hl) pl2 el1 (by omega)
    have b1:=Heap.SameBut.update s.heap a (Obj.putSet es1 t2)
    refine wpAny_bind (wpAny_storeSet_of (s:={ s with toks:=s.toks+1 }) ho hd ?_ (fits_of_scanBound (by omega)))
    split
    · have p2:=relayAll_perm t2 es1 (SetTable.grown es1.size)
      have q2:=relayAll_fits t2 es1 (SetTable.grown es1.size)
      have z2:=b34 t2 es1 (SetTable.grown es1.size)
      have r2:=b26 t2 es1 (SetTable.grown es1.size)
      generalize relayAll t2 es1 (SetTable.grown es1.size)=R at p2 q2 r2 z2 ⊢
      obtain ⟨es2,t3,gv2⟩:=R
      dsimp only at p2 q2 r2 z2 ⊢
      have sz2:es2.size=es1.size:=by rw [← Array.length_toList,p2.length_eq,Array.length_toList]
      refine wpAny_bind (hgw _ ?_)
      obtain ⟨_,S2⟩:=SInt.store (prog:=prog) (w:=w) (es':=es2) (t':=t3) o1 hx rfl q2 (r2.1.trans (l2.trans hl)) z2 (el1.perm p2) (by omega)
      refine wpAny_bind (wpAny_storeSet_of o1 rfl ?_ (fits_of_scanBound (by omega)))
      exact wpAny_pure (wpAny_pure (h _ _ es2 (b1.trans (Heap.SameBut.update _ a _)) S2 (.inr ⟨hno,u,p2.trans p1⟩)))
    · exact wpAny_pure (wpAny_pure (h _ _ es1 b1 S1 (.inr ⟨hno,u,p1⟩)))
   split
   · refine wpAny_bind ?_
     rw [hashByValue_scannable 8 hsc]
     refine wpAny_pure ?_
     exact fin _ q1 r1.1 z1
   · refine wpAny_bind (wpAny_pure ?_)
     simp only [↓reduceIte]
     exact fin t1 q1 r1.1 z1
end
def metI (ks:List Int) (k:Int):List Int:=if k∈ks then ks else ks++[k]
def firstI (val:Nat→Int) (i:Nat):List Int:=((List.range i).map val).foldl metI []
theorem ab4 (val:Nat→Int) (i:Nat):firstI val (i+1)=metI (firstI val i) (val i):=by
 unfold firstI
 rw [List.range_succ,List.map_append,List.foldl_append]
 rfl
theorem b89 {ks:List Int}{k x:Int}:x∈metI ks k↔x∈ks∨x=k:=by
 unfold metI
 split
 · constructor
   · exact .inl
   · rintro (h | rfl)
     · exact h
     · assumption
 · simp
theorem aj6 (val:Nat→Int) (x:Int):∀ i,x∈firstI val i↔∃ j,j<i∧val j=x
 | 0=>by simp [firstI]
 | i+1=>by
   rw [ab4,b89,aj6 val x i]
   constructor
   · rintro (⟨j,h,e⟩ | rfl)
     · exact ⟨j,by omega,e⟩
     · exact ⟨i,by omega,rfl⟩
   · rintro ⟨j,h,e⟩
     by_cases hj:j=i
     · subst hj; exact .inr e.symm
     · exact .inl ⟨j,by omega,e⟩
theorem b90 (ks:List Int) (k:Int):(metI ks k).length≤ks.length+1:=by
 unfold metI
 split <;> simp
theorem aj7 (val:Nat→Int):∀ i,(firstI val i).length≤i
 | 0=>by simp [firstI]
 | i+1=>by
   rw [ab4]
   have h1:=b90 (firstI val i) (val i)
   have h2:=aj7 val i
   omega
def entI (w:World) (x:Int×Tok):Int×Value:=(hashInt x.1,.int x.1 x.2)
def KiOf (w:World) (es:Array (Int×Value)) (ks:List Int):Prop:=ks.Nodup∧∃ l:List (Int×Tok),l.map (·.1)=ks∧es.toList.Perm (l.map (entI w))
theorem KiOf.len {w:World}{es:Array (Int×Value)}{ks:List Int}(h:KiOf w es ks):es.size=ks.length:=by
 obtain ⟨_,l,rfl,p⟩:=h
 rw [← Array.length_toList,p.length_eq]
 simp
theorem KiOf.grew {w:World}{es es':Array (Int×Value)}{ks:List Int}{k:Int}(h:KiOf w es ks) (g:GrewI w es es' k):KiOf w es' (metI ks k):=by
 obtain ⟨nd,l,rfl,p⟩:=h
 have hm:k∈l.map (·.1)↔∃ e∈es.toList,e.2.isInt k=true:=by
  constructor
  · intro hk
    obtain ⟨x,hx,rfl⟩:=List.mem_map.mp hk
    exact ⟨entI w x,p.mem_iff.mpr (List.mem_map_of_mem hx),by simp [entI,Value.isInt]⟩
  · rintro ⟨e,he,hi⟩
    obtain ⟨x,hx,rfl⟩:=List.mem_map.mp (p.mem_iff.mp he)
    have:x.1=k:=by
     have:=Value.isInt_shape hi
     obtain ⟨t,e⟩:=this
     simp only [entI,Value.int.injEq] at e
     exact e.1
    rw [← this]
    exact List.mem_map_of_mem hx
 rcases g with ⟨rfl,hx⟩ | ⟨hno,u,pp⟩
 · unfold metI
   rw [if_pos (hm.mpr hx)]
   exact ⟨nd,l,rfl,p⟩
 · have hk:k∉l.map (·.1):=fun z=>by
    obtain ⟨e,he,hi⟩:=hm.mp z
    rw [hno e he] at hi
    cases hi
   unfold metI
   rw [if_neg hk]
   refine ⟨?_,l++[(k,u)],by simp,?_⟩
   · refine List.nodup_append.mpr ⟨nd,by simp,fun a ha b hb z=>?_⟩
     rw [List.mem_singleton.mp hb] at z
     exact hk (z ▸ ha)
   · refine pp.trans ?_
     rw [List.map_append]
     exact List.Perm.append p (List.Perm.refl _)
section
variable {prog:Program}{w:World}{A:Around}{R:Result→Shared→Prop}{I:Addr}{fp wr:List Addr}{G:Array GenState→Array GenState→Prop}{n:Nat}{P:Nat→Value→Prop}{St:Nat→Shared→Prop}
theorem SInt.moved {h h':Heap}{a:Addr}{es:Array (Int×Value)}(x:SInt prog w h a es) (k:∀ o,h.get? a=some o→h'.get? a=some o):SInt prog w h' a es:=by
 obtain ⟨⟨o,ep,t,ho,r⟩,el,lt⟩:=x
 exact ⟨⟨o,ep,t,k _ ho,r⟩,el,lt⟩
theorem b35 (W:WalksS prog w A.in1 I fp wr G n P St) (S:Addr) (hSf:S∉fp) (val:Nat→Int) (hval:∀ i v,P i v→∃ t,v=.int (val i) t) (hb:n+1<scanBound) :
 ∀ (k i:Nat) (s:Shared) (es:Array (Int×Value)),n - i=k→i≤n→St i s→SInt prog w s.heap S es→KiOf w es (firstI val i) →
  (∀ s' es',Moved (S::wr) G s s'→SInt prog w s'.heap S es'→KiOf w es' (firstI val n)→R (.ok (.ret .none)) s') →
  codeAny (model prog w) A (.builtin "set.update.loop" ⟨[.ref S,.ref I],[]⟩) R s:=by
 have hw:S∉wr:=fun z=>hSf (W.sub _ z)
 have hs:∀ b∈wr,b∈S::wr:=fun b z=>List.mem_cons_of_mem _ z
 intro k
 induction k with
 | zero =>
   intro i s es hk hi st hS hK q
   have e:i=n:=by omega
   subst e
   refine codeAny_builtin F.entry_set_update_loop ?_
   rw [Around.under_plainId F.plain_set_update_loop _]
   show wpAny _ A.in1 (pyNext (.ref I) >>= _) _ _ s
   refine wpAny_bind (W.done s _ _ st fun s' hm=>?_)
   show wpAny _ A.in1 (ret Value.none) _ _ s'
   exact wpAny_pure (q s' es (hm.mono hs) (hS.moved fun o e=>hm.heap S _ hw e) hK)
 | succ k ih =>
   intro i s es hk hi st hS hK q
   have lt:i<n:=by omega
   refine codeAny_builtin F.entry_set_update_loop ?_
   rw [Around.under_plainId F.plain_set_update_loop _]
   show wpAny _ A.in1 (pyNext (.ref I) >>= _) _ _ s
   refine wpAny_bind (W.item i s _ _ lt st fun v s' hP st' hm=>?_)
   obtain ⟨u,rfl⟩:=hval i v hP
   have hS':SInt prog w s'.heap S es:=hS.moved fun o e=>hm.heap S _ hw e
   show wpAny _ A.in1 (holding [Value.int (val i) u] (setAdd S (.int (val i) u)) >>= _) _ _ s'
   have l1:=aj7 val i
   have l2:=hK.len
   refine wpAny_bind (wpAny_holding (SInt.add hS' (by omega) fun b h' es' sb hS2 g=>?_))
   refine wpAny_pure ⟨plainId_quiet F.plain_set_update_loop _,ih (i+1) _ es' (by omega) lt (W.frame _ s' _ _ st' (Nat.le_succ _) fun b hb o e=>?_) hS2 (by rw [ab4]; exact hK.grew g) fun s2 es2 m2 S2 K2=>?_⟩
   · rw [sb.2 b (fun z:b=S=>hSf (z ▸ hb))]
     exact e
   · refine q s2 es2 (Moved.trans W.gtrans ((hm.mono hs).then_heap (Nat.le_succ _) fun b o hb e=>?_) m2) S2 K2
     rw [sb.2 b (fun z:b=S=>hb (by rw [z]; exact List.mem_cons_self))]
     exact e
end
section
variable {prog:Program}{w:World}{A:Around}{E:Value→Shared→Prop}{s:Shared}
theorem am3 {l:Addr}{items:Array Value}{val:Nat→Int}{Q:Value→Shared→Prop}(hh:A.handled=none) (hl:s.heap.IsList l items) (hi:∀ (i:Nat) (v:Value),items[i]?=some v→∃ t,v=.int (val i) t) (hb:items.size+1<scanBound)
 (h:∀ (h':Heap) (tk:Nat) (es:Array (Int×Value)),SInt prog w h' s.heap.objs.size es→KiOf w es (firstI val items.size)→(∀ b o,b<s.heap.objs.size→s.heap.get? b=some o→h'.get? b=some o)→Q (.ref s.heap.objs.size) { s with heap:=h',toks:=tk }) :
 wpAny (model prog w) A (call (.type "set") [.ref l]) Q E s:=by
 obtain ⟨c,tl,hmro⟩:=F.called_set.mro
 have hmade:=F.called_set.made
 have hsub:=F.called_set.sub
 refine wpAny_call (codeAny_of_tree ?_)
 show wpAny _ _ (callAny (.type "set") _) _ _ _
 refine wpAny_pure ⟨Code.quiet_builtin _ (by decide +kernel),codeAny_builtin F.entry_type_call ?_⟩
 rw [Around.under_plain (weight_type_call_type "set" [.ref l] []) rfl]
 have h1:=F.called_set.notType
 have h2:=F.called_set.canCreate
 have hct:=F.typeCall_set_1 (.ref l)
 repeat (any_goals (first | assumption | wp_step))
 refine codeAny_mono (b85 (.ref l) (E:=E) (Q1:=fun obj s1=>obj=.ref s.heap.objs.size∧s1={ s with heap:=s.heap.push (setObj w) }) ⟨rfl,rfl⟩) fun r s1 hr=>?_
 cases r with
 | error e=>exact hr
 | ok fl =>
   cases fl with
   | ret obj =>
     obtain ⟨rfl,rfl⟩:=hr
     have hS:(s.heap.push (setObj w)).get? s.heap.objs.size=some (setObj w):=Heap.get?_push_size _ rfl
     have hT:Shared.TypeIs { s with heap:=s.heap.push (setObj w) } (.ref s.heap.objs.size) "set":=⟨_,hS,rfl⟩
     have hli:=F.called_set.init.lookup
     have hbi:=F.called_set.init.bind (.ref s.heap.objs.size)
     repeat (any_goals (first | assumption | wp_step))
     refine codeAny_mono (codeAny_call_builtin (R:=wants (fun r s2=>r=.none∧∃ h' tk es,s2={ s with heap:=h',toks:=tk }∧SInt prog w h' s.heap.objs.size es∧KiOf w es (firstI val items.size) ∧
      (∀ b o,b<s.heap.objs.size→s.heap.get? b=some o→h'.get? b=some o)) E) F.called_set.init.plain F.entry_set_init (check_set_init_1 hT ?_)) fun r2 s2 hr2=>?_
     · obtain ⟨ol,hol,hcl,nl,hdl⟩:=hl
       obtain ⟨ocls,odict,odata,oslots⟩:=ol
       simp only at hcl hdl
       subst hcl; subst hdl
       have hol':(s.heap.push (setObj w)).get? l=some { cls:=.type "list",dict:=odict,data:=.seq items nl,slots:=oslots }:=Heap.get?_push_of_some _ hol
       have hsls:=F.sub_list_set
       have hslf:=F.sub_list_frozenset
       have hne:(Value.type "list" == Value.type "dict")=false:=by decide
       have hl1:(s.heap.push (setObj w)).IsList l items:=⟨_,hol',rfl,nl,rfl⟩
       unfold Builtin.«set.__init__» noKeywords Builtin.Frozenset.updateFrom
       generalize hPI:pyIter=PI
       wp_walk
       subst hPI
       refine wpAny_pyIter_list hl1 (wpAny_bind (wpAny_runValue ?_))
       have hlS:l<s.heap.objs.size:=Heap.lt_size hol
       have hh3:A.in1.in1.in1.handled=none:=by simp [hh]
       have hneI:l≠(s.heap.push (setObj w)).objs.size:=by
        rw [Heap.size_push]; exact Nat.ne_of_lt (Nat.lt_succ_of_lt hlS)
       have hSf:s.heap.objs.size∉[(s.heap.push (setObj w)).objs.size,l]:=by
        rw [Heap.size_push]
        simp only [List.mem_cons,List.not_mem_nil,or_false,not_or]
        exact ⟨Nat.ne_of_lt (Nat.lt_succ_self _),Nat.ne_of_gt hlS⟩
       have hget:((s.heap.push (setObj w)).push { cls:=.type "list_iterator",data:=.fields #[.ref l,.int 0 0] }).get? s.heap.objs.size=some (setObj w):=Heap.get?_push_of_some _ hS
       refine b35 ((Walks.list hh3 _ l hneI items).toS) s.heap.objs.size hSf val hi hb (items.size - 0) 0 _ #[] (by omega) (Nat.zero_le _) ⟨⟨_,Heap.get?_push_size _ rfl,rfl,rfl⟩,(hl1.push _)⟩ ?hS0 ?hK0 ?hR
       case hS0=>exact ⟨⟨_,0,_,hget,⟨rfl,rfl,rfl⟩,rfl,rfl,rfl,⟨List.Pairwise.nil,rfl⟩⟩,fun e he=>by simp at he,by decide⟩
       case hK0=>exact ⟨by simp [firstI],[],by simp [firstI],by simp⟩
       case hR =>
        intro s' es' hm hS' hK'
        obtain ⟨h',g',d',tk',os'⟩:=s'
        have eg:g'=s.gens:=hm.gens
        have ed:d'=s.drawn:=hm.drawn
        have eo:os'=s.os:=hm.os
        subst eg; subst ed; subst eo
        show wpAny _ _ _ _ _ _
        refine wpAny_pure ?_
        show wpAny _ _ (ret Value.none) _ _ _
        refine wpAny_pure ⟨rfl,h',tk',es',rfl,hS',hK',fun b o hb e=>?_⟩
        have hb1:b≠s.heap.objs.size:=Nat.ne_of_lt hb
        have hb2:b≠(s.heap.push (setObj w)).objs.size:=by
         rw [Heap.size_push]; exact Nat.ne_of_lt (Nat.lt_succ_of_lt hb)
        exact hm.heap b o (by simp only [List.mem_cons,List.not_mem_nil,or_false,not_or]; exact ⟨hb1,hb2⟩) (Heap.get?_push_of_some _ (Heap.get?_push_of_some _ e))
     · cases r2 with
       | error e=>exact hr2
       | ok fl2 =>
         cases fl2 with
         | ret r =>
           obtain ⟨rfl,h',tk,es,rfl,hS',hK',hk'⟩:=hr2
           repeat (any_goals (first | assumption | wp_step))
           exact h _ _ _ hS' hK' hk'
         | _=>exact hr2.elim
   | _=>exact hr.elim
end
section
variable {prog:Program}{w:World}{A:Around}{E:Value→Shared→Prop}{s:Shared}{S it tp:Addr}{o:Obj}{es:Array (Int×Value)}{ep i:Nat}{t:SetTable}{first:Value}
theorem aq3 {slot:Nat}{Q:Option (Value×Nat)→Shared→Prop}(ho:s.heap.get? S=some o) (hd:o.data=.set es ep t) (hf:t.fits es.size=true) (hb:w.params.followText "set-order"=false) (h1:(!t.plain && decide (es.size > 1))=false) (hl:t.led=true)
 (q:Q (match es[SetTable.below t.place slot]?,t.place[SetTable.below t.place slot]? with | some (_,x),some j=>some (x,j+1) | _,_=>none) s):wpAny (model prog w) A (setNext S slot i ep) Q E s:=by
 unfold setNext
 refine wpAny_bind (wpAny_setState_of ho hd hf ?_)
 dsimp only
 unfold setsByText
 refine wpAny_bind (wpAny_bind (wpAny_askSetting (wpAny_pure ?_)))
 rw [show (model prog w).w.params.followText "set-order"=false from hb]
 simp only [Bool.false_eq_true,if_false]
 refine wpAny_ite_split (fun z=>?_) fun _=>?_
 · have z':(!t.plain && decide (es.size > 1))=true:=z
   rw [h1] at z'
   cases z'
 show wpAny _ _ ((if (!t.led && !es.isEmpty)=true then unsupported "set:maker-not-led" else pure ()) >>= _) _ _ s
 rw [hl]
 simp only [Bool.not_true,Bool.false_and,Bool.false_eq_true,if_false]
 exact wpAny_bind (wpAny_pure (wpAny_pure q))
theorem walkI (hh:A.handled=none) (hn1:S≠it) (hd:o.data=.set es ep t) (hf:t.fits es.size=true) (hb:w.params.followText "set-order"=false) (h1:(!t.plain && decide (es.size > 1))=false) (hl:t.led=true) (hr:Ris t) :
 Walks prog w A it [it,S,S] [it] es.size (fun i v=>∃ e,es.toList[i]?=some e∧v=e.2) (fun i h=>h.get? it=some (itObj (rawInt ((if i=0 then 0 else t.place.getD (i - 1) 0+1:Nat):Int)) S i es.size ep)∧h.get? S=some o) where
 sub:=fun b hb=>by simp at hb; simp [hb]
 frame:=fun _ _ _ st hk=>⟨hk it (by simp) _ st.1,hk S (by simp) _ st.2⟩
 item:=fun i s Q E hi st hQ=>by
  have sz:t.place.size=es.size:=by
   simp only [SetTable.fits,Bool.and_eq_true,beq_iff_eq] at hf
   exact hf.1
  have he:es[i]?=some (es[i]'hi):=Array.getElem?_eq_getElem _
  have hp:t.place[i]?=some (t.place.getD i 0):=by
   rw [Array.getElem?_eq_getElem (by omega)]
   simp [Array.getD,show i<t.place.size by omega]
  have hbl:SetTable.below t.place (if i=0 then 0 else t.place.getD (i - 1) 0+1)=i:=by
   by_cases h0:i=0
   · rw [if_pos h0,b33 hr.1,h0]
   · rw [if_neg h0,aj5 hr.1 (by omega)]
     omega
  refine aj4 (slot:=(if i=0 then 0 else t.place.getD (i - 1) 0+1)) (nxt:=t.place.getD i 0+1) (x:=(es[i]'hi).2) st.1 st.2 hd hf (fun q'=>aq3 st.2 hd hf hb h1 hl (by rw [hbl,he,hp]; exact q')) fun h' h1' hs=>hQ _ h' s.toks ⟨_,by rw [Array.getElem?_toList]; exact he,rfl⟩ ⟨by rw [if_neg (by omega)]; exact h1',hs.extBut _ _ hn1 st.2⟩ fun b o hb e=>hs.extBut b o (fun z=>hb (by simp [z])) e
 done:=fun s Q E st hQ=>by
  have sz:t.place.size=es.size:=by
   simp only [SetTable.fits,Bool.and_eq_true,beq_iff_eq] at hf
   exact hf.1
  refine aq0 hh st.1 st.2 hd hf (fun q'=>aq3 st.2 hd hf hb h1 hl ?_) fun h' he=>hQ h' s.toks fun b o hb e=>he b o (fun z=>hb (by simp [z])) e
  have hbl:SetTable.below t.place (if es.size=0 then 0 else t.place.getD (es.size - 1) 0+1)=es.size:=by
   by_cases h0:es.size=0
   · rw [if_pos h0,b33 hr.1,h0]
   · rw [if_neg h0,aj5 hr.1 (by omega)]
     omega
  rw [hbl,Array.getElem?_eq_none (xs:=es) (Nat.le_refl _)]
  exact q'
 self:=fun _ _ _ _ st hQ=>al8 st.1 hQ
end
section
variable {prog:Program}{w:World}{A:Around}{E:Value→Shared→Prop}{s:Shared}{S:Addr}{es:Array (Int×Value)}
theorem as5 {R:Result→Shared→Prop}{L:Addr}{c0:Nat}{res:Value}(hh:A.handled=none) (hS:SInt prog w s.heap S es) (hne:L≠S) (hL:s.heap.get? L=some { cls:=.type "list",data:=.seq #[] c0 })
 (hR:∀ h' tk d acc c',(∀ b o,b≠L→s.heap.get? b=some o→h'.get? b=some o)→h'.get? L=some { cls:=.type "list",dict:=none,data:=.seq acc c',slots:=#[] }→acc.toList.Perm (es.toList.map (·.2))→R (.ok (.ret res)) { s with heap:=h',toks:=tk,drawn:=d }) :
 wpAny (model prog w) A.in1 (Builtin.List.listExtendWith (.ref L) (.ref S) res)
  (fun fin s'=>match fin with | .done f=>R (.ok f) s' | .again c'=>c'.quiet=true∧codeAny (model prog w) A c' R s') (fun e s'=>R (.error e) s') s:=by
 obtain ⟨⟨o,ep,t,ho,hx,hd,hf,hl,hp⟩,hel,hlt⟩:=hS
 have T:s.TypeIs (.ref S) "set":=⟨o,ho,hx.1⟩
 have hn:es.size≤sizeLine:=fits_of_scanBound hlt
 have lS:=Heap.lt_size ho
 have lL:=Heap.lt_size hL
 have hh1:A.in1.handled=none:=hh
 unfold Builtin.List.listExtendWith
 refine wpAny_bind (wpAny_typeOf (T:="set") T ?_)
 have h1:Builtin.List.listSameRef (.ref L) (.ref S)=false:=by simp [Builtin.List.listSameRef,hne]
 simp only [h1,show (Value.type "set" == Value.type "list")=false by decide,show (Value.type "set" == Value.type "tuple")=false by decide,Bool.or_false,Bool.false_eq_true,if_false]
 refine wpAny_bind (b87 ho hx hd hf hlt (fun hD=>?_) (fun hD pl d pp=>?_))
 · have nf:L∉[s.heap.objs.size,S,S]:=by
    simp only [List.mem_cons,List.not_mem_nil,or_false,not_or]
    exact ⟨Nat.ne_of_lt lL,hne,hne⟩
   have T1:Shared.TypeIs { s with heap:=s.heap.push (itObj (rawInt 0) S 0 es.size ep) } (.ref S) "set":=⟨o,Heap.get?_push_of_some _ ho,hx.1⟩
   by_cases hb:w.params.followText "set-order"=true
   · refine al9 (walkT hh1 (Nat.ne_of_lt lS) hd hf hb) hn nf (by simp) T1 (by simp) ⟨Heap.get?_push_size _ rfl,Heap.get?_push_of_some _ ho⟩ (Heap.get?_push_of_some _ hL) fun h' tk acc c' hk hL' hit=>?_
     have pl:=(ae3 (w.params.setOrder S ep) es).length_eq
     refine hR h' tk s.drawn acc c' (fun b o hb e=>hk b o hb (Nat.ne_of_lt (Heap.lt_size e)) (Heap.get?_push_of_some _ e)) hL' ?_
     rw [ah2 hit (by simpa using pl)]
     exact (ae3 _ _).map _
   · have hb':w.params.followText "set-order"=false:=by simpa using hb
     have h1':(!t.plain && decide (es.size > 1))=false:=by
      unfold Drw at hD
      rw [hb'] at hD
      simpa using hD
     refine al9 (walkI hh1 (Nat.ne_of_lt lS) hd hf hb' h1' (by rw [hl,hb']; rfl) hp) hn nf (by simp) T1 (by simp) ⟨Heap.get?_push_size _ rfl,Heap.get?_push_of_some _ ho⟩ (Heap.get?_push_of_some _ hL) fun h' tk acc c' hk hL' hit=>?_
     refine hR h' tk s.drawn acc c' (fun b o hb e=>hk b o hb (Nat.ne_of_lt (Heap.lt_size e)) (Heap.get?_push_of_some _ e)) hL' ?_
     rw [ah2 hit (by simp)]
 · have gt:∀ b:Addr,b<s.heap.objs.size→b≠(s.heap.push (plObj pl)).objs.size:=fun b z=>by
    rw [Heap.size_push]
    exact Nat.ne_of_lt (Nat.lt_succ_of_lt z)
   have gt2:s.heap.objs.size≠(s.heap.push (plObj pl)).objs.size:=by
    rw [Heap.size_push]
    exact Nat.ne_of_lt (Nat.lt_succ_self _)
   have nf:L∉[(s.heap.push (plObj pl)).objs.size,S,s.heap.objs.size]:=by
    simp only [List.mem_cons,List.not_mem_nil,or_false,not_or]
    exact ⟨gt L lL,hne,Nat.ne_of_lt lL⟩
   have up:∀ b ob,s.heap.get? b=some ob→((s.heap.push (plObj pl)).push (itObj (.ref s.heap.objs.size) S 0 es.size ep)).get? b=some ob:=fun b ob e=>Heap.get?_push_of_some _ (Heap.get?_push_of_some _ e)
   refine al9 (s:={ s with heap:=(s.heap.push (plObj pl)).push (itObj (.ref s.heap.objs.size) S 0 es.size ep),drawn:=d }) (walkD hh1 (gt S lS) gt2 hd hf pp) hn nf (by simp) ⟨o,up _ _ ho,hx.1⟩ (by simp) ⟨Heap.get?_push_size _ rfl,Heap.get?_push_of_some _ (Heap.get?_push_size _ rfl),up _ _ ho⟩ (up _ _ hL) fun h' tk acc c' hk hL' hit=>?_
   have ln:pl.length=es.size:=by rw [pp.length_eq,List.length_range]
   refine hR h' tk d acc c' (fun b o hb e=>hk b o hb (gt b (Heap.lt_size e)) (up _ _ e)) hL' ?_
   rw [ah2 hit (by simpa using ln),←ax0 es (0,.none)]
   exact (pp.map _).map _
end
def intsV (l:List Int):List V:=l.map V.int
section
variable {prog:Program}{w:World}{A:Around}{E:Value→Shared→Prop}{s:Shared}{S:Addr}{es:Array (Int×Value)}
theorem aq4 {R:List Value→Shared→Prop}(hh:A.handled=none) (hS:SInt prog w s.heap S es)
 (h:∀ (h':Heap) (tk:Nat) (d:Drawn) (acc:Array Value),(∀ b o,s.heap.get? b=some o→h'.get? b=some o)→s.heap.objs.size<h'.objs.size→acc.toList.Perm (es.toList.map (·.2))→R acc.toList { s with heap:=h',toks:=tk,drawn:=d }) :
 wpAny (model prog w) A (collect (.ref S)) R E s:=by
 obtain ⟨o,ep,t,ho,_⟩:=hS.ex
 have lS:=Heap.lt_size ho
 unfold collect
 refine wpAny_bind (wpAny_runValue (codeAny_builtin entry_proto_collect' ?_))
 rw [Around.under_plainId PySem.F.plain_proto_collect _]
 show wpAny _ A.in1 (newList [] >>= fun l=>again (.builtin "list.__iadd__" ⟨[l,.ref S],[]⟩)) _ _ s
 refine wpAny_bind (wpAny_newObj_type (wpAny_pure ⟨plainId_quiet PySem.F.plain_list_iadd _,codeAny_builtin entry_list_iadd' ?_⟩))
 rw [Around.under_plainId PySem.F.plain_list_iadd _]
 have hL:(s.heap.push { cls:=.type "list",data:=.seq ([]:List Value).toArray }).get? s.heap.objs.size=some { cls:=.type "list",data:=.seq #[] }:=Heap.get?_push_size _ rfl
 show wpAny _ A.in1 (Builtin.List.listExtendWith (.ref s.heap.objs.size) (.ref S) (.ref s.heap.objs.size)) _ _ _
 have key:=as5 (A:=A) (s:={ s with heap:=s.heap.push { cls:=.type "list",data:=.seq ([]:List Value).toArray } }) (L:=s.heap.objs.size) (c0:=0) (res:=.ref s.heap.objs.size) (es:=es) (S:=S) (w:=w) (prog:=prog)
  (R:=fun (q:Result) (s':Shared)=>∃ (h':Heap) (tk:Nat) (d:Drawn) (acc:Array Value) (c':Nat),q=.ok (.ret (.ref s.heap.objs.size))∧s'={ s with heap:=h',toks:=tk,drawn:=d }∧(∀ b o,s.heap.get? b=some o→h'.get? b=some o)∧h'.get? s.heap.objs.size=some { cls:=.type "list",dict:=none,data:=.seq acc c',slots:=#[] }∧acc.toList.Perm (es.toList.map (·.2)))
  hh (hS.moved fun o e=>Heap.get?_push_of_some _ e) (Nat.ne_of_gt lS) hL
  (fun h' tk d acc c' hk hL' hp=>⟨h',tk,d,acc,c',rfl,rfl,fun b o e=>hk b o (Nat.ne_of_lt (Heap.lt_size e)) (Heap.get?_push_of_some _ e),hL',hp⟩)
 refine wpAny_mono key (fun fin s' x=>?_) fun e s' x=>?_
 · cases fin with
   | done f =>
     obtain ⟨h',tk,d,acc,c',e,rfl,hk,hL',hp⟩:=x
     cases e
     show wpAny _ A (load s.heap.objs.size >>= _) _ _ _
     exact wpAny_bind (wpAny_load hL' (wpAny_pure (h h' tk d acc hk (Heap.lt_size hL') hp)))
   | again c1 =>
     refine ⟨x.1,codeAny_mono x.2 fun q s2 y=>?_⟩
     obtain ⟨h',tk,d,acc,c',rfl,rfl,hk,hL',hp⟩:=y
     show wpAny _ A (load s.heap.objs.size >>= _) _ _ _
     exact wpAny_bind (wpAny_load hL' (wpAny_pure (h h' tk d acc hk (Heap.lt_size hL') hp)))
 · obtain ⟨_,_,_,_,_,e',_⟩:=x
   cases e'
theorem av3:∀ {l:List (Int×Tok)}{vs:List Value},vs=l.map (fun x=>(entI w x).2)→IntsAre vs (l.map (·.1))
 | [],_,rfl=>.nil
 | x::l,_,rfl=>.cons x.1 x.2 (av3 rfl)
theorem as6 {ks:List Int}{Q:Value→Shared→Prop}(hh:A.handled=none) (hS:SInt prog w s.heap S es) (hK:KiOf w es ks) (h64:ks.length<64)
 (h:∀ (D:Addr) (h':Heap) (tk:Nat) (d:Drawn) (vs:List Value) (ss:List Int) (e:Nat),(∀ b o,s.heap.get? b=some o→h'.get? b=some o)→s.heap.objs.size≤D→h'.get? D=some (seqObj "list" vs.toArray e)→IntsAre vs ss→ss.Perm ks→ss.Pairwise (·≤·)→Q (.ref D) { s with heap:=h',toks:=tk,drawn:=d }) :
 wpAny (model prog w) A (call (.builtin "sorted") [.ref S]) Q E s:=by
 refine Calls.call_function_entry kind_sorted plain_sorted entry_sorted (args_sorted1 _) ?_
 unfold Builtin.«sorted»
 refine wpAny_bind (m:=checkCount "sorted" 1 1 _) (wpAny_pure ?_)
 refine wpAny_bind (aq4 hh hS fun h' tk d acc hk hsz hp=>?_)
 obtain ⟨nd,l,rfl,pp⟩:=hK
 have p2:acc.toList.Perm (l.map fun x=>(entI w x).2):=hp.trans (by have:=pp.map (·.2); rw [List.map_map] at this; exact this)
 have ln:acc.toList.length=l.length:=by rw [p2.length_eq,List.length_map]
 have hl64:acc.toList.length<64:=by rw [ln]; simpa using h64
 obtain ⟨l',p3,e3⟩:=as3 p2 l rfl
 have hst:=av3 (w:=w) e3
 refine wpAny_bind (wpAny_newList ?_ (by have:64≤sizeLine:=le_line (by decide); omega))
 have hD:(h'.push (seqObj "list" acc.toList.toArray 0)).get? h'.objs.size=some (seqObj "list" acc.toList.toArray 0):=Heap.get?_push_size _ rfl
 show wpAny _ _ _ _ _ { s with heap:=h'.push (seqObj "list" acc.toList.toArray 0),toks:=tk,drawn:=d }
 refine wpAny_bind (wpAny_holding (wpAny_call_entry PyProof.Rows.slot_list_sort ⟨_,hD,rfl⟩ PyProof.Rows.entry_list_sort (list_sort_tree hD hst hl64 fun out ss' b1 b2 b3=>⟨_,rfl,?_⟩) (args_list_sort _)))
 obtain ⟨e,he⟩:=sortedHeap_at (h:=h'.push (seqObj "list" acc.toList.toArray 0)) (a:=h'.objs.size) (vs:=acc.toList) (out:=out) (n:=0) hD
 have lt:∀ b o,s.heap.get? b=some o→b<h'.objs.size:=fun b o e=>Heap.lt_size (hk b o e)
 refine wpAny_pure ⟨_,rfl,h h'.objs.size _ tk d out.toList ss' e (fun b o e=>?_) ?_ (by rw [Array.toArray_toList]; exact he) b1 (b2.trans (p3.map _)) b3⟩
 · have:=lt b o e
   rw [sortedHeap_old (Nat.ne_of_lt this) (by rw [size_push']; exact Nat.lt_succ_of_lt this)]
   exact Heap.get?_push_of_some _ (hk b o e)
 · exact Nat.le_of_lt hsz
end
def setIφ (P:Program) (w:World) (p:Addr) (ks:List Int):Heap→Prop:=fun h=>∃ es,SInt P w h p es∧KiOf w es ks
def SetIAt (P:Program) (w:World) (H:Hp) (p:Addr) (ks:List Int):Prop:=H p=some (.ext (setIφ P w p ks))
def rSetI (K:PySem.W.Frag) (P:Program) (w:World):List V→Hp→VK→Prop:=fun vs H Q=>∃ a ss,vs=[V.ref a]∧SqL K H a (intsV ss)∧ss.length+1<4096∧∀ p H' ks,H p=none→Same H H'→SetIAt P w H' p ks→ks.Nodup→(∀ x,x∈ks↔x∈ss)→Q (.ref p) H'
def rSortI (P:Program) (w:World):List V→Hp→VK→Prop:=fun vs H Q=>∃ p ks,vs=[V.ref p]∧SetIAt P w H p ks∧ks.length<64∧∀ q out H',H q=none→Same H H'→H' q=some (.lst (intsV out))→out.Perm ks→out.Pairwise (·≤·)→Q (.ref q) H'
theorem aj8:∀ {ss:List Int}{us:List Value},Vals (intsV ss) us→∀ (i:Nat) (v:Value),us[i]?=some v→∃ t,v=Value.int (ss.getD i 0) t
 | [],us,h,i,v,e=>by
   cases h
   simp at e
 | x::ss,us,h,i,v,e=>by
   cases h with
   | cons h1 h2 =>
     obtain ⟨t,rfl⟩:=h1
     cases i with
     | zero =>
       simp at e
       exact ⟨t,by rw [← e]; rfl⟩
     | succ i=>exact aj8 h2 i v (by simpa using e)
theorem aj9:∀ {vs:List Value}{ss:List Int},IntsAre vs ss→Vals (intsV ss) vs
 | _,_,.nil=>.nil
 | _,_,.cons y t h=>.cons ⟨t,rfl⟩ (aj9 h)
theorem ax2 (ss:List Int) (x:Int):x∈firstI (fun i=>ss.getD i 0) ss.length↔x∈ss:=by
 rw [aj6]
 constructor
 · rintro ⟨j,hj,rfl⟩
   rw [List.getD_eq_getElem?_getD,List.getElem?_eq_getElem hj]
   exact List.getElem_mem hj
 · intro hx
   obtain ⟨j,hj,rfl⟩:=List.mem_iff_getElem.mp hx
   exact ⟨j,hj,by rw [List.getD_eq_getElem?_getD,List.getElem?_eq_getElem hj]; rfl⟩
theorem ah3 (val:Nat→Int):∀ i,(firstI val i).Nodup
 | 0=>by simp [firstI]
 | i+1=>by
   rw [ab4]
   unfold metI
   split
   · exact ah3 val i
   · next h =>
     refine List.nodup_append.mpr ⟨ah3 val i,by simp,fun a ha b hb z=>?_⟩
     rw [List.mem_singleton.mp hb] at z
     exact h (z ▸ ha)
section
variable {X:Cx}{P:Program}{w:World}
theorem be5 (K:PySem.W.Frag) (hP:X.prog=P) (hw:X.w=w) (hc:X.calm=true) (hK:X.K=K:=by rfl):CallR X (.type "set") (rSetI K P w):=by
 subst hP hw hK
 intro pins s σ H xs us Q I r h
 obtain ⟨a,ss,rfl,hS,hl,q⟩:=h
 cases r with
 | cons r1 r2 =>
 cases r2
 cases r1
 obtain ⟨its,v1,p1,z⟩:=I.list hS
 have hlen:its.length=ss.length:=by
  have:=v1.length
  simpa [intsV] using this.symm
 have hb:its.toArray.size+1<scanBound:=by
  rw [List.size_toArray,hlen]
  exact hl
 refine am3 (I.ok.hd hc) p1.isList (val:=fun i=>ss.getD i 0) (fun i v e=>aj8 v1 i v (by rw [List.getElem?_toArray] at e; exact e)) hb fun h' tk es hs hk keep=>?_
 rw [List.size_toArray,hlen] at hk
 have kp:∀ b u,s.heap.get? b=some u→h'.get? b=some u:=fun b u e=>keep b u (Heap.lt_size e) e
 have hp:=I.hok.fresh (Nat.le_refl s.heap.objs.size)
 obtain ⟨o,ep,t,ho,_⟩:=hs.ex
 have I2:=I.laid (h':=h') (t':=tk) (a:=s.heap.objs.size) (o:=.ext (setIφ X.prog X.w s.heap.objs.size (firstI (fun i=>ss.getD i 0) ss.length))) kp (Nat.le_refl _) ⟨⟨es,hs,hk⟩,⟨o,ho⟩,fun h1 h2 ⟨es',a1,a2⟩ z=>⟨es',a1.moved z,a2⟩⟩
 exact ⟨.ref s.heap.objs.size,_,I2,rfl,q _ _ _ hp (Same.new hp) a65 (ah3 _ _) (ax2 ss)⟩
theorem b91 (hP:X.prog=P) (hw:X.w=w) (hc:X.calm=true):CallR X (.builtin "sorted") (rSortI P w):=by
 subst hP hw
 intro pins s σ H xs us Q I r h
 obtain ⟨p,ks,rfl,hS,h64,q⟩:=h
 cases r with
 | cons r1 r2 =>
 cases r2
 cases r1
 obtain ⟨⟨es,hs,hk⟩,_⟩:=(show ObjOk X.prog X.w H s.heap p (.ext (setIφ X.prog X.w p ks)) from I.hok p _ hS)
 refine as6 (I.ok.hd hc) hs hk h64 fun D h' tk d vs ss e kp hD hl hv pm so=>?_
 have hp:=I.hok.fresh hD
 have ln:ss.length=ks.length:=pm.length_eq
 have I2:=(I.drw d).laid (h':=h') (t':=tk) (a:=D) (o:=.lst (intsV ss)) kp hD ⟨by simp [intsV]; exact Nat.le_trans (by omega) (le_line (show 64≤1000000 by decide)),vs,e,aj9 hv,hl⟩
 exact ⟨.ref D,_,I2,rfl,q D ss _ hp (Same.new hp) a65 pm so⟩
end
section
variable {X:Cx}
end
section
variable {X:Cx}
end
theorem ah4:∀ {a b:List Int},a.Pairwise (·≤·)→b.Pairwise (·≤·)→a.Nodup→b.Nodup→(∀ x,x∈a↔x∈b)→a=b
 | [],[],_,_,_,_,_=>rfl
 | [],y::b,_,_,_,_,h=>absurd ((h y).mpr (by simp)) (by simp)
 | x::a,[],_,_,_,_,h=>absurd ((h x).mp (by simp)) (by simp)
 | x::a,y::b,s1,s2,n1,n2,h=>by
   rw [List.pairwise_cons] at s1 s2
   rw [List.nodup_cons] at n1 n2
   have e:x=y:=by
    rcases List.mem_cons.mp ((h x).mp (by simp)) with e | hx
    · exact e
    rcases List.mem_cons.mp ((h y).mpr (by simp)) with e | hy
    · exact e.symm
    have:=s2.1 x hx
    have:=s1.1 y hy
    omega
   subst e
   rw [ah4 s1.2 s2.2 n1.2 n2.2 fun z=>?_]
   constructor
   · intro hz
     rcases List.mem_cons.mp ((h z).mp (List.mem_cons_of_mem _ hz)) with e | hz'
     · exact absurd (e ▸ hz) n1.1
     · exact hz'
   · intro hz
     rcases List.mem_cons.mp ((h z).mpr (List.mem_cons_of_mem _ hz)) with e | hz'
     · exact absurd (e ▸ hz) n2.1
     · exact hz'
def rNeLI:R2:=fun x y H Q=>∃ (a b:Addr) (xs ys:List Int),x=.ref a∧y=.ref b∧H a=some (.lst (intsV xs))∧H b=some (.lst (intsV ys))∧Q (.bl (!decide (xs=ys))) H
theorem am4 {H:Hp}:∀ xs:List Int,Tw.Ats H (xs.map intF) (intsV xs) []
 | []=>by simp [Tw.Ats,intsV]
 | x::xs=>by
   have ih:=am4 (H:=H) xs
   simp only [intsV,List.map_cons,Tw.Ats,intF,Tw.At] at ih ⊢
   exact ⟨_,_,[],[],rfl,rfl,⟨rfl,True.intro,rfl⟩,ih⟩
theorem b92 {X:Cx}(hu:X.A.units+64<cLine):OpR X (compareOp .NotEq) rNeLI:=by
 intro pins s σ H x y v u Q I rx ry h
 obtain ⟨a,b,xs,ys,rfl,rfl,e1,e2,q⟩:=h
 cases rx
 cases ry
 obtain ⟨is1,q1,p1,_⟩:=I.list (SqL.of e1)
 obtain ⟨is2,q2,p2,_⟩:=I.list (SqL.of e2)
 have c1:=am4 (H:=H) xs
 have c2:=am4 (H:=H) ys
 have l1:is1.length=xs.length:=by rw [← q1.length]; simp [intsV]
 have l2:is2.length=ys.length:=by rw [← q2.length]; simp [intsV]
 by_cases hl:is1.length=is2.length
 · have:=SeqAt.RcNeAt.lists (A:=X.A) (s:=s) (e:=fun j=>decide (xs[j]?=ys[j]?)) p1.isList p2.isList (by simpa using hl) (by omega) (fun j h1 h2=>by
    obtain ⟨k1,k2,e⟩:=b31 I be2 (A:=X.A.in1) c1 c2 q1 q2 (by rw [ae2]; omega) j (by simpa using h1) (by simpa using h2)
    simp only [List.getElem_toArray]
    rw [show decide (xs[j]?=ys[j]?)=decide (xs[j]=ys[j]) from by rw [List.getElem?_eq_getElem k1,List.getElem?_eq_getElem k2]; simp]
    exact e)
   have hx:=as4 (xs:=xs) (ys:=ys) (by omega) (e:=fun j=>decide (xs[j]?=ys[j]?)) (fun j h1 h2=>by rw [List.getElem?_eq_getElem h1,List.getElem?_eq_getElem h2]; simp)
   rw [List.size_toArray,l1,hx] at this
   exact this X.prog X.w X.xe (EP X pins σ Q) ⟨.bl (!decide (xs=ys)),H,I,rfl,q⟩
 · have hn:¬ xs=ys:=fun e=>hl (by rw [l1,l2,e])
   rw [decide_eq_false hn] at q
   exact SeqAt.RcNeAt.lists_lengths (A:=X.A) (s:=s) p1.isList p2.isList (by simpa using hl) (by omega) X.prog X.w X.xe (EP X pins σ Q) ⟨.bl true,H,I,rfl,q⟩
theorem bm4 {H:Hp}{Q:VK}{a b:Addr}{xs ys:List Int}(h1:H a=some (.lst (intsV xs))) (h2:H b=some (.lst (intsV ys))) (h:Q (.bl (!decide (xs=ys))) H):rNeLI (.ref a) (.ref b) H Q:=⟨a,b,xs,ys,rfl,rfl,h1,h2,h⟩
end L2
local macro_rules | `(tactic| walk_at "side") => `(tactic| first | exact ⟨by decide, by decide, by decide⟩ | exact ⟨by decide, by decide⟩ | exact .inr (.inr ⟨by decide, by decide⟩) | exact .inr (.inl ⟨by decide, by decide⟩) | decide | omega | exact L2.le_line (by simp only [List.length_cons, List.length_nil]; omega))
local macro_rules | `(tactic| walk_at "o") => `(tactic| first | exact Or.inl rfl | exact Or.inr rfl)
local macro_rules | `(tactic| walk_at "step") => do
  let mut acc ← `(tactic| ((with_reducible refine L2.i_rgA ?k ?l ?_); (case k => walk_at "side"); (case l => walk_at "side")))
  for s in ("i_rI ae1 bn7 bn8 i_c i_op i_un i_rU bn9 bd3 bo0 bo1 bo2 bi8 i_bl bo3 i_if bo4 bi9 bj0 bj1 bo5 i_cb bj2 bo6 bo7 bo8 bj4 bo9 i_or bj5 bp0 i_lc bj6 bd4 bp1 bp2 i_bm i_sl b80 bj7 bp3 bj8 bj9 au6 au7 bk2 bd5 bk0 bd6 bk1 bp4 bp5 bk9 bk5 bk6 bk8 bl0 bl9 bp7 i_bget i_bsetd i_dk bj3".splitOn " ").reverse do
    let n := Lean.mkIdent (Lean.Name.str `L2 s)
    if s == "i_rI" || s == "ae1" || s == "bj3" then acc ← `(tactic| first | ((with_reducible refine $n ?k ?_); (case k => walk_at "side")) | $acc:tactic)
    else acc ← `(tactic| first | with_reducible refine $n ?_ | $acc:tactic)
  `(tactic| first | ((with_reducible refine L2.i_name ?_); dsimp only [List.set_cons_zero, List.set_cons_succ]) | ((with_reducible refine' L2.i_var ?k ?_); (case k => rfl)) | $acc:tactic)
local macro_rules | `(tactic| walk_at "run") => `(tactic| (repeat walk_at "step"))
local macro_rules | `(tactic| walk_at "go") => do
  let ids := (("L2.start List.map_cons List.map_nil List.length_cons List.length_nil List.replicate List.cons_append List.nil_append Nat.reduceSub Nat.reduceAdd L2.nox_K L2.wish_K L2.cxOf_K L2.cxC_K".splitOn " ").map fun s => Lean.mkIdent s.toName).toArray
  `(tactic| (simp only [$[$ids:term],*]; walk_at "run"))
namespace K71
open PySem L2
theorem sc_unpacked:FnScope ["pack","cells","shapes","sayings","rooms","cell","pairs"] ["pack"] (defScope a77):=⟨rfl,rfl,rfl,by decide +kernel,rfl,by decide +kernel,by decide +kernel⟩
theorem sc_block_places:FnScope ["cells","place","count","found"] ["cells","place","count"] (defScope a48):=⟨rfl,rfl,rfl,by decide +kernel,rfl,by decide +kernel,by decide +kernel⟩
theorem as7:FnScope ["texts","cells","place"] ["texts","cells","place"] (defScope a78):=⟨rfl,rfl,rfl,by decide +kernel,rfl,by decide +kernel,by decide +kernel⟩
theorem as8:FnScope ["cells","place"] ["cells","place"] (defScope a82):=⟨rfl,rfl,rfl,by decide +kernel,rfl,by decide +kernel,by decide +kernel⟩
theorem sc_pairs_in:FnScope ["cells","place","count","pairs","event","saying","way"] ["cells","place","count"] (defScope a83):=⟨rfl,rfl,rfl,by decide +kernel,rfl,by decide +kernel,by decide +kernel⟩
theorem aq5:FnScope ["shape"] ["shape"] (defScope a70):=⟨rfl,rfl,rfl,by decide +kernel,rfl,by decide +kernel,by decide +kernel⟩
theorem sc_whole_pack:FnScope ["events","texts","cells","shapes","sayings","place"] ["events","texts","cells"] (defScope a61):=⟨rfl,rfl,rfl,by decide +kernel,rfl,by decide +kernel,by decide +kernel⟩
theorem sc_whole_shape:FnScope ["shape","cells","count","ahead","pairs","event","saying","way"] ["shape","cells","count"] (defScope a49):=⟨rfl,rfl,rfl,by decide +kernel,rfl,by decide +kernel,by decide +kernel⟩
theorem sc_whole_rooms:FnScope ["cells","shapes","sayings","count","room","cell","saying","way"] ["cells","shapes","sayings","count"] (defScope a56):=⟨rfl,rfl,rfl,by decide +kernel,rfl,by decide +kernel,by decide +kernel⟩
theorem sc_law_take:FnScope ["state","many","found"] ["state","many"] (defScope a84):=⟨rfl,rfl,rfl,by decide +kernel,rfl,by decide +kernel,by decide +kernel⟩
theorem as9:FnScope ["script","k","mixed"] ["script","k","mixed"] (defScope a85):=⟨rfl,rfl,rfl,by decide +kernel,rfl,by decide +kernel,by decide +kernel⟩
theorem sc_law_events:FnScope ["state","keys","words"] ["state"] (defScope a53):=⟨rfl,rfl,rfl,by decide +kernel,rfl,by decide +kernel,by decide +kernel⟩
theorem sc_law_shape:FnScope ["state","events","says","rooms","shape","place"] ["state","events","says","rooms"] (defScope a74):=⟨rfl,rfl,rfl,by decide +kernel,rfl,by decide +kernel,by decide +kernel⟩
theorem sc_law_cells:FnScope ["script","mixed","events","texts","first","rooms","says","sayings","shapes","k","told","own","cells","block"] ["script","mixed","events","texts"] (defScope a63):=⟨rfl,rfl,rfl,by decide +kernel,rfl,by decide +kernel,by decide +kernel⟩
theorem sc_law_spoilt:FnScope ["cells","state","kind","at","other","rest","some"] ["cells","state"] (defScope a68):=⟨rfl,rfl,rfl,by decide +kernel,rfl,by decide +kernel,by decide +kernel⟩
theorem sc_law_blocks:FnScope ["cells","many","found"] ["cells","many"] (defScope a69):=⟨rfl,rfl,rfl,by decide +kernel,rfl,by decide +kernel,by decide +kernel⟩
theorem ai1:FnScope ["shape"] ["shape"] (defScope a50):=⟨rfl,rfl,rfl,by decide +kernel,rfl,by decide +kernel,by decide +kernel⟩
theorem sc_law_shape_good:FnScope ["shape","events","says","rooms","places"] ["shape","events","says","rooms"] (defScope a33):=⟨rfl,rfl,rfl,by decide +kernel,rfl,by decide +kernel,by decide +kernel⟩
theorem sc_law_pair:FnScope ["shape","place","one"] ["shape","place"] (defScope a86):=⟨rfl,rfl,rfl,by decide +kernel,rfl,by decide +kernel,by decide +kernel⟩
theorem sc_law_parts:FnScope ["events","texts","cells","rooms","says","many","saying","shapes","sayings"] ["events","texts","cells"] (defScope a45):=⟨rfl,rfl,rfl,by decide +kernel,rfl,by decide +kernel,by decide +kernel⟩
theorem sc_law_good:FnScope ["events","texts","cells","parts","number","room","place","said","goal"] ["events","texts","cells"] (defScope a87):=⟨rfl,rfl,rfl,by decide +kernel,rfl,by decide +kernel,by decide +kernel⟩
theorem sc_law_table:FnScope ["events","texts","parts","says","rooms","room","pairs"] ["events","texts","parts"] (defScope a46):=⟨rfl,rfl,rfl,by decide +kernel,rfl,by decide +kernel,by decide +kernel⟩
theorem sc_law_right:FnScope ["events","texts","cells","handed","parts","found"] ["events","texts","cells"] (defScope a75):=⟨rfl,rfl,rfl,by decide +kernel,rfl,by decide +kernel,by decide +kernel⟩
theorem sc_law:FnScope ["script","mixed","first","events","texts","whole","cell","state","cells"] ["script"] (defScope ak7):=⟨rfl,rfl,rfl,by decide +kernel,rfl,by decide +kernel,by decide +kernel⟩
set_option genInjectivity false in
structure Adr where
 a_unpacked:Addr
 fd_unpacked:FuncData
 a_block_places:Addr
 fd_block_places:FuncData
 a_texts_at:Addr
 fd_texts_at:FuncData
 a_cells_in:Addr
 fd_cells_in:FuncData
 a_pairs_in:Addr
 fd_pairs_in:FuncData
 a_others_in:Addr
 fd_others_in:FuncData
 a_whole_pack:Addr
 fd_whole_pack:FuncData
 a_whole_shape:Addr
 fd_whole_shape:FuncData
 a_whole_rooms:Addr
 fd_whole_rooms:FuncData
 a__law_take:Addr
 fd__law_take:FuncData
 a__law_cell:Addr
 fd__law_cell:FuncData
 a__law_events:Addr
 fd__law_events:FuncData
 a__law_shape:Addr
 fd__law_shape:FuncData
 a__law_cells:Addr
 fd__law_cells:FuncData
 a__law_spoilt:Addr
 fd__law_spoilt:FuncData
 a__law_blocks:Addr
 fd__law_blocks:FuncData
 a__law_triples:Addr
 fd__law_triples:FuncData
 a__law_shape_good:Addr
 fd__law_shape_good:FuncData
 a__law_pair:Addr
 fd__law_pair:FuncData
 a__law_parts:Addr
 fd__law_parts:FuncData
 a__law_good:Addr
 fd__law_good:FuncData
 a__law_table:Addr
 fd__law_table:FuncData
 a__law_right:Addr
 fd__law_right:FuncData
 a_law:Addr
 fd_law:FuncData
 u_MOST_STANDINGS:Value
 u_HEAD:Value
structure Txt (K:PySem.W.Frag) (mg:Str→Option Value) (t:Adr):Prop where
 F_unpacked:Fun K "unpacked" "unpacked" a77 t.a_unpacked t.fd_unpacked
 m_unpacked:mg "unpacked"=some (.ref t.a_unpacked)
 b_unpacked:Binds K t.fd_unpacked ["pack"] []
 F_block_places:Fun K "block_places" "block_places" a48 t.a_block_places t.fd_block_places
 m_block_places:mg "block_places"=some (.ref t.a_block_places)
 b_block_places:Binds K t.fd_block_places ["cells","place","count"] []
 F_texts_at:Fun K "texts_at" "texts_at" a78 t.a_texts_at t.fd_texts_at
 m_texts_at:mg "texts_at"=some (.ref t.a_texts_at)
 b_texts_at:Binds K t.fd_texts_at ["texts","cells","place"] []
 F_cells_in:Fun K "cells_in" "cells_in" a82 t.a_cells_in t.fd_cells_in
 m_cells_in:mg "cells_in"=some (.ref t.a_cells_in)
 b_cells_in:Binds K t.fd_cells_in ["cells","place"] []
 F_pairs_in:Fun K "pairs_in" "pairs_in" a83 t.a_pairs_in t.fd_pairs_in
 m_pairs_in:mg "pairs_in"=some (.ref t.a_pairs_in)
 b_pairs_in:Binds K t.fd_pairs_in ["cells","place","count"] []
 F_others_in:Fun K "others_in" "others_in" a70 t.a_others_in t.fd_others_in
 m_others_in:mg "others_in"=some (.ref t.a_others_in)
 b_others_in:Binds K t.fd_others_in ["shape"] []
 F_whole_pack:Fun K "whole_pack" "whole_pack" a61 t.a_whole_pack t.fd_whole_pack
 m_whole_pack:mg "whole_pack"=some (.ref t.a_whole_pack)
 b_whole_pack:Binds K t.fd_whole_pack ["events","texts","cells"] []
 F_whole_shape:Fun K "whole_shape" "whole_shape" a49 t.a_whole_shape t.fd_whole_shape
 m_whole_shape:mg "whole_shape"=some (.ref t.a_whole_shape)
 b_whole_shape:Binds K t.fd_whole_shape ["shape","cells","count"] []
 F_whole_rooms:Fun K "whole_rooms" "whole_rooms" a56 t.a_whole_rooms t.fd_whole_rooms
 m_whole_rooms:mg "whole_rooms"=some (.ref t.a_whole_rooms)
 b_whole_rooms:Binds K t.fd_whole_rooms ["cells","shapes","sayings","count"] []
 F__law_take:Fun K "_law_take" "_law_take" a84 t.a__law_take t.fd__law_take
 m__law_take:mg "_law_take"=some (.ref t.a__law_take)
 b__law_take:Binds K t.fd__law_take ["state","many"] []
 F__law_cell:Fun K "_law_cell" "_law_cell" a85 t.a__law_cell t.fd__law_cell
 m__law_cell:mg "_law_cell"=some (.ref t.a__law_cell)
 b__law_cell:Binds K t.fd__law_cell ["script","k","mixed"] []
 F__law_events:Fun K "_law_events" "_law_events" a53 t.a__law_events t.fd__law_events
 m__law_events:mg "_law_events"=some (.ref t.a__law_events)
 b__law_events:Binds K t.fd__law_events ["state"] []
 F__law_shape:Fun K "_law_shape" "_law_shape" a74 t.a__law_shape t.fd__law_shape
 m__law_shape:mg "_law_shape"=some (.ref t.a__law_shape)
 b__law_shape:Binds K t.fd__law_shape ["state","events","says","rooms"] []
 F__law_cells:Fun K "_law_cells" "_law_cells" a63 t.a__law_cells t.fd__law_cells
 m__law_cells:mg "_law_cells"=some (.ref t.a__law_cells)
 b__law_cells:Binds K t.fd__law_cells ["script","mixed","events","texts"] []
 F__law_spoilt:Fun K "_law_spoilt" "_law_spoilt" a68 t.a__law_spoilt t.fd__law_spoilt
 m__law_spoilt:mg "_law_spoilt"=some (.ref t.a__law_spoilt)
 b__law_spoilt:Binds K t.fd__law_spoilt ["cells","state"] []
 F__law_blocks:Fun K "_law_blocks" "_law_blocks" a69 t.a__law_blocks t.fd__law_blocks
 m__law_blocks:mg "_law_blocks"=some (.ref t.a__law_blocks)
 b__law_blocks:Binds K t.fd__law_blocks ["cells","many"] []
 F__law_triples:Fun K "_law_triples" "_law_triples" a50 t.a__law_triples t.fd__law_triples
 m__law_triples:mg "_law_triples"=some (.ref t.a__law_triples)
 b__law_triples:Binds K t.fd__law_triples ["shape"] []
 F__law_shape_good:Fun K "_law_shape_good" "_law_shape_good" a33 t.a__law_shape_good t.fd__law_shape_good
 m__law_shape_good:mg "_law_shape_good"=some (.ref t.a__law_shape_good)
 b__law_shape_good:Binds K t.fd__law_shape_good ["shape","events","says","rooms"] []
 F__law_pair:Fun K "_law_pair" "_law_pair" a86 t.a__law_pair t.fd__law_pair
 m__law_pair:mg "_law_pair"=some (.ref t.a__law_pair)
 b__law_pair:Binds K t.fd__law_pair ["shape","place"] []
 F__law_parts:Fun K "_law_parts" "_law_parts" a45 t.a__law_parts t.fd__law_parts
 m__law_parts:mg "_law_parts"=some (.ref t.a__law_parts)
 b__law_parts:Binds K t.fd__law_parts ["events","texts","cells"] []
 F__law_good:Fun K "_law_good" "_law_good" a87 t.a__law_good t.fd__law_good
 m__law_good:mg "_law_good"=some (.ref t.a__law_good)
 b__law_good:Binds K t.fd__law_good ["events","texts","cells"] []
 F__law_table:Fun K "_law_table" "_law_table" a46 t.a__law_table t.fd__law_table
 m__law_table:mg "_law_table"=some (.ref t.a__law_table)
 b__law_table:Binds K t.fd__law_table ["events","texts","parts"] []
 F__law_right:Fun K "_law_right" "_law_right" a75 t.a__law_right t.fd__law_right
 m__law_right:mg "_law_right"=some (.ref t.a__law_right)
 b__law_right:Binds K t.fd__law_right ["events","texts","cells"] []
 F_law:Fun K "law" "law" ak7 t.a_law t.fd_law
 m_law:mg "law"=some (.ref t.a_law)
 b_law:Binds K t.fd_law ["script"] []
 z_all:mg "all"=none
 z_bool:mg "bool"=none
 z_enumerate:mg "enumerate"=none
 z_isinstance:mg "isinstance"=none
 z_len:mg "len"=none
 z_list:mg "list"=none
 z_max:mg "max"=none
 z_min:mg "min"=none
 z_range:mg "range"=none
 z_set:mg "set"=none
 z_sorted:mg "sorted"=none
 z_sum:mg "sum"=none
 z_tuple:mg "tuple"=none
 m_MOST_STANDINGS:mg "MOST_STANDINGS"=some t.u_MOST_STANDINGS
 r_MOST_STANDINGS:RelV (.int 2000) t.u_MOST_STANDINGS
 m_HEAD:mg "HEAD"=some t.u_HEAD
 r_HEAD:RelV (.int 4) t.u_HEAD
section
variable {P:Program}{w:World}{K:PySem.W.Frag}{mg:Str→Option Value}{base:Heap}{t:Adr}
def Oth (s:Addr) (H H':Hp):Prop:=∀ y o,y≠s→H y=some o→H' y=some o
def StA (H:Hp) (s:Addr) (z:Int):Prop:=∃ x:Int,H s=some (.lst [.int x,.int z])
theorem Oth.refl {s:Addr}{H:Hp}:Oth s H H:=fun _ _ _ e=>e
theorem Oth.trans {s:Addr}{H H1 H2:Hp}(a:Oth s H H1) (b:Oth s H1 H2):Oth s H H2:=fun c o h e=>b c o h (a c o h e)
theorem a58 {s:Addr}{H H':Hp}(h:Same H H'):Oth s H H':=fun c o _ e=>h c o e
theorem Oth.tups {s:Addr}{H H':Hp}{z:Int}(f:Oth s H H') (k:StA H s z):Tups H H':=fun b ys e=>by
 obtain ⟨x,h⟩:=k
 exact f b _ (bf7 e h (fun z=>nomatch z)) e
theorem Oth.new {s:Addr}{H0 H H':Hp}(f:Oth s H H') (h:Same H0 H) (hs:H0 s=none):Same H0 H':=fun b o e=>f b o (a06 e hs) (h b o e)
theorem StA.same {H H':Hp}{s:Addr}{z:Int}(k:StA H s z) (h:Same H H'):StA H' s z:=by
 obtain ⟨x,e⟩:=k
 exact ⟨x,h _ _ e⟩
theorem Oth.free {s p:Addr}{H H':Hp}{z:Int}(f:Oth s H H') (k:StA H' s z) (h:H' p=none):H p=none:=by
 cases e:H p with
 | none=>rfl
 | some o =>
   obtain ⟨x,hs⟩:=k
   rw [f p o (fun q=>by rw [q,hs] at h; cases h) e] at h
   cases h
theorem at0 (x:Int) {m:Nat}(h:0<m):∃ r:Nat,r<m∧x % (m:Int)=(r:Nat):=⟨(x % (m:Int)).toNat,by
 have h1:=Int.emod_nonneg x (show (m:Int)≠0 by omega)
 have h2:=Int.emod_lt_of_pos x (show (0:Int)<(m:Int) by omega)
 omega,by
 have h1:=Int.emod_nonneg x (show (m:Int)≠0 by omega)
 omega⟩
theorem cb {i j:Int}(h1:-1000000000000000000<i) (h2:i<1000000000000000000):CBig i j:=.inr (.inl ⟨by omega,by omega⟩)
theorem cb2 {i j:Int}(h1:-1000000000000000000<j) (h2:j<1000000000000000000):CBig i j:=.inr (.inr ⟨by omega,by omega⟩)
def be6 (K:PySem.W.Frag):Sp:=fun vs H Q _=>∃ (s:Addr) (z:Int) (m:Nat),vs=[.ref s,.int (m:Nat)]∧StA H s z∧0<m∧m≤1000∧∀ (r:Nat) H',r<m→Oth s H H'→StA H' s z→Q (.int (r:Nat)) H'
theorem aa2 (T:Txt K mg t):FnOk P w K mg base CX0 1 t.a__law_take t.fd__law_take ["state","many"] (be6 K):=by
 refine T.F__law_take.ok sc_law_take (fun vs H Q E h=>?_) (fun cdv A outer s H vs Q E hr h=>?_)
 · obtain ⟨s,z,m,rfl,_⟩:=h
   rfl
 · obtain ⟨s0,z,m,rfl,⟨x,hs⟩,hm,hm2,q⟩:=h
   refine ⟨_,(@a03 _ _ _ _ _ (@a76 _ _ _ _ _ _ _ _ (@a09 _ _ _ _ _ _ _ _ af1 (@a30 _ _ _ _ _ _ _ (a04 K) (pv 0) (@a02 _ _ _ _) (fun _ _=>rfl)) (@a02 _ _ _ _) (nomark _)) (@a03 _ _ _ _ _ (@ai5 _ _ _ _ _ _ (@a31 _ _ _ _ _ _ _ _ aa7 (@a31 _ _ _ _ _ _ _ _ ab1 (@a31 _ _ _ _ _ _ _ _ a25 (@a30 _ _ _ _ _ _ _ (a04 K) (pv 0) (@a02 _ _ _ _) (fun _ _=>rfl)) (@a02 _ _ _ _)) (@a02 _ _ _ _)) (@a02 _ _ _ _)) (au3 (pv 0) (@a02 _ _ _ _) ag4) (by rfl) (by rfl) (by rfl))
    (@a03 _ _ _ _ _ (@ai5 _ _ _ _ _ _ (@a31 _ _ _ _ _ _ _ _ aa7 (@a31 _ _ _ _ _ _ _ _ ab1 (@a30 _ _ _ _ _ _ _ (a04 K) (pv 0) (@a02 _ _ _ _) (fun _ _=>rfl)) (@a30 _ _ _ _ _ _ _ (a04 K) (pv 0) (@a02 _ _ _ _) (fun _ _=>rfl))) (@a02 _ _ _ _)) (au3 (pv 0) (@a02 _ _ _ _) ag4) (by rfl) (by rfl) (by rfl))
    (@a07 _ _ _ (@a32 _ _ _ _ (@a31 _ _ _ _ _ _ _ _ aa7 (@a31 _ _ _ _ _ _ _ _ ac3 (@a31 _ _ _ _ _ _ _ _ aa7 (@a31 _ _ _ _ _ _ _ _ ab1 (@a30 _ _ _ _ _ _ _ (a04 K) (pv 0) (@a02 _ _ _ _) (fun _ _=>rfl)) (@a02 _ _ _ _)) (@a02 _ _ _ _)) (@a02 _ _ _ _)) (pv 1)))))) (@a35 _))
    (@a03 _ _ _ _ _ (@a34 _ _ 2 _ _ _ _ sc_law_take.nd rfl (by walk_at "o") (@a31 _ _ _ _ _ _ _ _ aa7 (@a30 _ _ _ _ _ _ _ (a04 K) (pv 0) (@a02 _ _ _ _) (fun _ _=>rfl)) (pv 1)) (by rfl) (by walk_at "o"))
    (@a03 _ _ _ _ _ (@ai5 _ _ _ _ _ _ (@a31 _ _ _ _ _ _ _ _ ac3 (@a30 _ _ _ _ _ _ _ (a04 K) (pv 0) (@a02 _ _ _ _) (fun _ _=>rfl)) (pv 1)) (au3 (pv 0) (@a02 _ _ _ _) ag4) (by rfl) (by rfl) (by rfl))
    (@a07 _ _ _ (@a32 _ _ _ _ (pv 2)))))),?_⟩
   walk_at "go"
   refine a29 (SqL.of hs) (a05 (j:=1) rfl) ?_
   walk_at "run"
   have up:∀ y:Int,Oth s0 H (upd H s0 (.lst [.int y,.int z])):=fun y c o h e=>by rw [a37 h]; exact e
   have ups:∀ y:Int,upd H s0 (.lst [.int y,.int z]) s0=some (.lst [.int y,.int z]):=fun y=>a65
   refine ite2 (fun hc=>?_) (fun hc=>?_)
   · walk_at "run"
     refine a29 (SqL.of hs) (a05 (j:=0) rfl) ?_
     walk_at "run"
     refine au8 hs (j:=0) rfl ?_
     have b1:=Int.emod_nonneg ((x+1)*48271) (show (2147483647:Int)≠0 by decide)
     have b2:=Int.emod_lt_of_pos ((x+1)*48271) (show (0:Int)<2147483647 by decide)
     rw [show [V.int x,V.int z].set 0 (V.int ((x+1)*48271 % 2147483647))=[V.int ((x+1)*48271 % 2147483647),.int z] from rfl]
     generalize (x+1)*48271 % 2147483647=y at b1 b2
     walk_at "run"
     refine a29 (SqL.of (ups y)) (a05 (j:=0) rfl) ?_
     walk_at "run"
     refine a29 (SqL.of (ups y)) (a05 (j:=0) rfl) ?_
     walk_at "run"
     refine ae1 (cb2 (by omega) (by omega)) ?_
     walk_at "run"
     refine au8 (ups y) (j:=0) rfl ?_
     rw [bb7,show [V.int y,V.int z].set 0 (V.int (y*y % 2147483629))=[V.int (y*y % 2147483629),.int z] from rfl]
     generalize y*y % 2147483629=y2
     walk_at "run"
     refine a29 (SqL.of (ups y2)) (a05 (j:=0) rfl) ?_
     walk_at "run"
     obtain ⟨r,hr,e⟩:=at0 (y2*69621 % 2147483587 / 8) hm
     rw [e]
     exact q r _ hr (up y2) ⟨y2,ups y2⟩
   · walk_at "run"
     refine a29 (SqL.of hs) (a05 (j:=0) rfl) ?_
     walk_at "run"
     obtain ⟨r,hr,e⟩:=at0 x hm
     rw [e]
     refine a29 (SqL.of hs) (a05 (j:=0) rfl) ?_
     walk_at "run"
     refine i_rI (show CDiv _ _ from ⟨by omega,by omega⟩) ?_
     walk_at "run"
     refine au8 hs (j:=0) rfl ?_
     walk_at "run"
     exact q r _ hr (up (x / (m:Nat))) ⟨x / (m:Nat),ups _⟩
def be7 (K:PySem.W.Frag):Sp:=fun vs H Q _=>∃ (a:Addr) (ns:List Int) (k:Nat) (m:Int),vs=[.ref a,.int (k:Nat),.int m]∧SqL K H a (ns.map V.int)∧k≤1000∧0≤m∧m≤1∧∀ (z:Int) H',Same H H'→Q (.int z) H'
theorem ah5 (T:Txt K mg t):FnOk P w K mg base CX0 1 t.a__law_cell t.fd__law_cell ["script","k","mixed"] (be7 K):=by
 refine T.F__law_cell.ok as9 (fun vs H Q E h=>?_) (fun cdv A outer s H vs Q E hr h=>?_)
 · obtain ⟨a,ns,k,m,rfl,_⟩:=h
   rfl
 · obtain ⟨a,ns,k,m,rfl,hS,hk,hm,hm2,q⟩:=h
   refine ⟨_,(@a03 _ _ _ _ _ (@a76 _ _ _ _ _ _ _ _ (@a09 _ _ _ _ _ _ _ _ (ag9 K (by exact hr.units)) (pv 0) (@a24 _ _ _ _ (@a01 _)) (nomark _)) (@a07 _ _ _ (@a32 _ _ _ _ (@a31 _ _ _ _ _ _ _ _ ab1 (pv 2) (pv 1)))) (@a35 _))
    (@a07 _ _ _ (@a32 _ _ _ _ (@a31 _ _ _ _ _ _ _ _ a25 (@a30 _ _ _ _ _ _ _ (a04 K) (pv 0) (@a31 _ _ _ _ _ _ _ _ aa7 (pv 1) (@a26 _ _ _ _ _ _ _ _ _ aj3 (by rfl) T.z_min ba6 (@a00 _ _ _ _ _ (@a02 _ _ _ _) (@a00 _ _ _ _ _ (@a26 _ _ _ _ _ _ _ _ _ (a36 K) (by rfl) T.z_len a54 (@a00 _ _ _ _ _ (pv 0) (@a01 _) (by rfl)) (by decide) (by decide) (by rfl) (by rfl)) (@a01 _) (by rfl)) (by rfl)) (by decide) (by decide) (by rfl) (by rfl))) (fun _ _=>rfl)) (@a31 _ _ _ _ _ _ _ _ ab1 (pv 2) (pv 1)))))),?_⟩
   walk_at "go"
   intro p1 H1 f1 s1 e1
   refine ar9 (s1.seq hS) (SqL.of e1) ?_
   walk_at "run"
   cases ns with
   | nil =>
     refine bj8 ?_
     walk_at "run"
     refine ae1 (cb (by omega) (by omega)) ?_
     exact q _ H1 s1
   | cons n0 nr =>
     refine bj9 ?_
     walk_at "run"
     refine a47 (s1.seq hS) ?_
     walk_at "run"
     have hl:0<min 63 (n0::nr).length:=by simp; omega
     have hlen:(n0::nr).length=nr.length+1:=rfl
     generalize n0::nr=ns at hS hl hlen
     rw [List.length_map,show min (63:Int) (ns.length:Nat)=((min 63 ns.length:Nat):Int) by omega]
     obtain ⟨r,hr,e⟩:=at0 (k:Int) hl
     walk_at "run"
     rw [e]
     have hrl:r<ns.length:=by omega
     refine a29 (s1.seq hS) (v:=.int ns[r]) (a05 (j:=r) (by simp [hrl])) ?_
     walk_at "run"
     refine ae1 (cb (by omega) (by omega)) ?_
     walk_at "run"
     exact q _ H1 s1
inductive Ev where
 | quiet
 | key (k:Nat)
 | word (w:Str)
def Ev.tr:Ev→Tr
 | .quiet=>.tup [.str "quiet"]
 | .key k=>.tup [.str "key",.int (k:Nat)]
 | .word w=>.tup [.str "word",.str w]
def strW (s:Str):Tw:=.sc (.str s)
theorem strs_w {H:Hp}:∀ {ss:List Str}{vs:List V}{fs:List Addr},Tw.Ats H (ss.map strW) vs fs↔vs=strsV ss∧fs=[]
 | [],vs,fs=>by simp [Tw.Ats,strsV]
 | s::ss,vs,fs=>by
   simp only [List.map_cons,Tw.Ats,strW,Tw.At]
   constructor
   · rintro ⟨v,ws,f,g,rfl,rfl,⟨rfl,_,rfl⟩,h⟩
     obtain ⟨rfl,rfl⟩:=strs_w.mp h
     exact ⟨rfl,rfl⟩
   · rintro ⟨rfl,rfl⟩
     exact ⟨_,_,[],[],rfl,rfl,⟨rfl,True.intro,rfl⟩,strs_w.mpr ⟨rfl,rfl⟩⟩
mutual
theorem bm5 {H:Hp}:∀ {x:Tw}{v:V}{fs:List Addr},x.At H v fs→∀ a∈fs,∃ vs,H a=some (.lst vs)
 | .sc _,v,fs,h,a,m=>by simp only [Tw.At] at h; rw [h.2.2] at m; cases m
 | .tup xs,v,fs,h,a,m=>by
   simp only [Tw.At] at h
   obtain ⟨b,vs,_,_,r⟩:=h
   exact ad6 r a m
 | .lst xs,v,fs,h,a,m=>by
   simp only [Tw.At] at h
   obtain ⟨b,vs,gs,_,g,r,rfl⟩:=h
   rcases List.mem_cons.mp m with rfl | m
   · exact ⟨_,g⟩
   · exact ad6 r a m
theorem ad6 {H:Hp}:∀ {xs:List Tw}{vs:List V}{fs:List Addr},Tw.Ats H xs vs fs→∀ a∈fs,∃ vs,H a=some (.lst vs)
 | [],vs,fs,h,a,m=>by simp only [Tw.Ats] at h; rw [h.2] at m; cases m
 | x::xs,vs,fs,h,a,m=>by
   simp only [Tw.Ats] at h
   obtain ⟨v,ws,f,g,_,rfl,h1,h2⟩:=h
   rcases List.mem_append.mp m with m | m
   · exact bm5 h1 a m
   · exact ad6 h2 a m
end
theorem af6 {xs:List Tw}{n:Nat}(h:∀ x∈xs,x.h≤n):Tw.hs xs≤n:=by
 induction xs with
 | nil=>simp [Tw.hs]
 | cons x xs ih =>
   simp only [Tw.hs]
   have:=h x (by simp)
   have:=ih fun y hy=>h y (by simp [hy])
   omega
theorem at1 (ss:List Str):Tw.hs (ss.map strW)≤0:=af6 fun x hx=>by
 obtain ⟨s,_,rfl⟩:=List.mem_map.mp hx
 simp [strW,Tw.h]
theorem a97 {ks:List Nat}{j:Nat}{v:V}(h:(natsV ks)[j]?=some v):∃ k,ks[j]?=some k∧v=.int (k:Nat):=by
 simp only [natsV,List.getElem?_map] at h
 obtain ⟨k,h1,h2⟩:=Option.map_eq_some_iff.mp h
 exact ⟨k,h1,h2.symm⟩
theorem b36 {ks:List Str}{j:Nat}{v:V}(h:(strsV ks)[j]?=some v):∃ k,ks[j]?=some k∧v=.str k:=by
 simp only [strsV,List.getElem?_map] at h
 obtain ⟨k,h1,h2⟩:=Option.map_eq_some_iff.mp h
 exact ⟨k,h1,h2.symm⟩
theorem natsV_at {ks:List Nat}{j k:Nat}(h:ks[j]?=some k):(natsV ks)[j]?=some (.int (k:Nat)):=by
 simp only [natsV,List.getElem?_map,h]
 rfl
theorem b93 {ks:List Str}{j:Nat}{k:Str}(h:ks[j]?=some k):(strsV ks)[j]?=some (.str k):=by
 simp only [strsV,List.getElem?_map,h]
 rfl
noncomputable instance evDec:DecidableEq Ev:=fun _ _=>Classical.propDecidable _
theorem bp8 {ks:List Nat}{ws:List Str}(h1:ks.Nodup) (h2:ws.Nodup):([Ev.quiet]++ks.map Ev.key++ws.map Ev.word).Nodup:=by
 have i1:(ks.map Ev.key).Nodup:=List.Pairwise.map _ (fun a b hab z=>hab (by injection z)) h1
 have i2:(ws.map Ev.word).Nodup:=List.Pairwise.map _ (fun a b hab z=>hab (by injection z)) h2
 unfold List.Nodup at *
 rw [List.pairwise_append,List.pairwise_append]
 refine ⟨⟨by simp,i1,?_⟩,i2,?_⟩
 · intro a ha b hb z
   obtain ⟨k,_,rfl⟩:=List.mem_map.mp hb
   rw [List.mem_singleton.mp ha] at z
   cases z
 · intro a ha b hb z
   obtain ⟨k,_,rfl⟩:=List.mem_map.mp hb
   rcases List.mem_append.mp ha with ha | ha
   · rw [List.mem_singleton.mp ha] at z
     cases z
   · obtain ⟨k',_,rfl⟩:=List.mem_map.mp ha
     cases z
def b37 (K:PySem.W.Frag):Sp:=fun vs H Q _=>∃ (s:Addr) (z:Int),vs=[.ref s]∧StA H s z∧∀ (es:List Ev) p us H',H p=none→H' p=some (.lst us)→Tr.Ats H' (es.map Ev.tr) us []→es.Nodup→es.length≤8→0<es.length→Oth s H H'→StA H' s z→Q (.ref p) H'
theorem of4 {H:Hp}{r:Nat}{a b c d:Addr}(h:r<4):∃ x:Addr,atI [V.ref a,.ref b,.ref c,.ref d] (r:Nat)=some (.ref x)∧(x=a∨x=b∨x=c∨x=d):=by
 have:r=0∨r=1∨r=2∨r=3:=by omega
 rcases this with rfl | rfl | rfl | rfl
 · exact ⟨a,a05 rfl,by simp⟩
 · exact ⟨b,a05 rfl,by simp⟩
 · exact ⟨c,a05 rfl,by simp⟩
 · exact ⟨d,a05 rfl,by simp⟩
theorem StA.ne {H:Hp}{s:Addr}{z:Int}(k:StA H s z) {p:Addr}(h:H p=none):p≠s:=by
 obtain ⟨x,e⟩:=k
 exact (a06 e h).symm
theorem am5 (T:Txt K mg t):FnOk P w K mg base CX0 2 t.a__law_events t.fd__law_events ["state"] (b37 K):=by
 have G__law_take:=aa2 (P:=P) (w:=w) (base:=base) T
 refine T.F__law_events.ok sc_law_events (fun vs H Q E h=>?_) (fun cdv A outer s H vs Q E hr h=>?_)
 · obtain ⟨s,z,rfl,_⟩:=h
   rfl
 · obtain ⟨s0,z,rfl,k,q⟩:=h
   refine ⟨_,(@a03 _ _ _ _ _ (@a34 _ _ 1 _ _ _ _ sc_law_events.nd rfl (by walk_at "o") (@a30 _ _ _ _ _ _ _ (a04 K) (@a24 _ _ _ _ (@a00 _ _ _ _ _ (@a24 _ _ _ _ (@a01 _)) (@a00 _ _ _ _ _ (@a24 _ _ _ _ (@a00 _ _ _ _ _ (@a02 _ _ _ _) (@a01 _) (by rfl))) (@a00 _ _ _ _ _ (@a24 _ _ _ _ (@a00 _ _ _ _ _ (@a02 _ _ _ _) (@a00 _ _ _ _ _ (@a02 _ _ _ _) (@a01 _) (by rfl)) (by rfl))) (@a00 _ _ _ _ _ (@a24 _ _ _ _ (@a00 _ _ _ _ _ (@a02 _ _ _ _) (@a00 _ _ _ _ _ (@a02 _ _ _ _) (@a00 _ _ _ _ _ (@a02 _ _ _ _) (@a01 _) (by rfl)) (by rfl)) (by rfl))) (@a01 _) (by rfl)) (by rfl)) (by rfl)) (by rfl))) (@a08 _ _ _ _ _ _ _ _ _ _ _ _ _ _ _ _ G__law_take (hr.mono (by omega)) rfl T.m__law_take T.F__law_take.kp T.b__law_take .nil a38 (@a00 _ _ _ _ _ (pv 0) (@a00 _ _ _ _ _ (@a02 _ _ _ _) (@a01 _) (by rfl)) (by rfl)) (by decide) (by rfl) (by rfl)) (fun _ _=>rfl)) (by rfl) (by walk_at "o"))
    (@a03 _ _ _ _ _ (@a34 _ _ 2 _ _ _ _ sc_law_events.nd rfl (by walk_at "o") (@a30 _ _ _ _ _ _ _ (a04 K) (@a24 _ _ _ _ (@a00 _ _ _ _ _ (@a24 _ _ _ _ (@a01 _)) (@a00 _ _ _ _ _ (@a24 _ _ _ _ (@a00 _ _ _ _ _ (@ab7 _ _ _ _) (@a01 _) (by rfl))) (@a00 _ _ _ _ _ (@a24 _ _ _ _ (@a00 _ _ _ _ _ (@ab7 _ _ _ _) (@a00 _ _ _ _ _ (@ab7 _ _ _ _) (@a01 _) (by rfl)) (by rfl))) (@a00 _ _ _ _ _ (@a24 _ _ _ _ (@a00 _ _ _ _ _ (@ab7 _ _ _ _) (@a00 _ _ _ _ _ (@ab7 _ _ _ _) (@a00 _ _ _ _ _ (@ab7 _ _ _ _) (@a01 _) (by rfl)) (by rfl)) (by rfl))) (@a01 _) (by rfl)) (by rfl)) (by rfl)) (by rfl))) (@a08 _ _ _ _ _ _ _ _ _ _ _ _ _ _ _ _ G__law_take (hr.mono (by omega)) rfl T.m__law_take T.F__law_take.kp T.b__law_take .nil a38 (@a00 _ _ _ _ _ (pv 0) (@a00 _ _ _ _ _ (@a02 _ _ _ _) (@a01 _) (by rfl)) (by rfl)) (by decide) (by rfl) (by rfl)) (fun _ _=>rfl)) (by rfl) (by walk_at "o"))
    (@a07 _ _ _ (@a32 _ _ _ _ (@a31 _ _ _ _ _ _ _ _ a25 (@a31 _ _ _ _ _ _ _ _ a25 (@a24 _ _ _ _ (@a00 _ _ _ _ _ (@a80 _ _ _ _ _ (@a00 _ _ _ _ _ (@ab7 _ _ _ _) (@a01 _) (by rfl))) (@a01 _) (by rfl))) (ab0 (Nt:=["key"]) (Nf:=[]) (caps:=[]) rfl (a71 (sc:=defScope a53) rfl rfl (by decide +kernel) (by decide +kernel) (by decide +kernel) rfl (by decide +kernel)) (a39 K (pv 1)) (fun _ _ _ _ _=>(a27 (i:=0) (show (["key"]:List Str).Nodup by decide +kernel) rfl (by walk_at "o"))) (fun _ _ _ _ _=>(@a88 _)) (fun _ _ _ _ _=>(@a80 _ _ _ _ _ (@a00 _ _ _ _ _ (@ab7 _ _ _ _) (@a00 _ _ _ _ _ (pv 0) (@a01 _) (by rfl)) (by rfl)))))) (ab0 (Nt:=["word"]) (Nf:=[]) (caps:=[]) rfl (a71 (sc:=defScope a53) rfl rfl (by decide +kernel) (by decide +kernel) (by decide +kernel) rfl (by decide +kernel)) (a39 K (pv 2)) (fun _ _ _ _ _=>(a27 (i:=0) (show (["word"]:List Str).Nodup by decide +kernel) rfl (by walk_at "o"))) (fun _ _ _ _ _=>(@a88 _)) (fun _ _ _ _ _=>(@a80 _ _ _ _ _ (@a00 _ _ _ _ _ (@ab7 _ _ _ _) (@a00 _ _ _ _ _ (pv 0) (@a01 _) (by rfl)) (by rfl)))))))))),?_⟩
   walk_at "go"
   intro pa H1 f1 s1 e1
   walk_at "run"
   intro pb H2 f2 s2 e2
   walk_at "run"
   intro pc H3 f3 s3 e3
   walk_at "run"
   intro pd H4 f4 s4 e4
   walk_at "run"
   intro pe H5 f5 s5 e5
   walk_at "run"
   have s05:=s1.trans (s2.trans (s3.trans (s4.trans s5)))
   have k5:=k.same s05
   refine ⟨s0,z,4,rfl,k5,by decide,by decide,fun r H6 hr o6 k6=>?_⟩
   obtain ⟨pk,hpk,hor⟩:=of4 (H:=H) (a:=pa) (b:=pb) (c:=pc) (d:=pd) hr
   refine a29 (SqL.of (o6 _ _ (k.ne ((s1.trans (s2.trans (s3.trans s4))).free f5)) e5)) hpk ?_
   walk_at "run"
   obtain ⟨ks,hk6,hknd,kl,hpks⟩:∃ ks:List Nat,H6 pk=some (.lst (natsV ks))∧ks.Nodup∧ks.length≤3∧pk≠s0:=by
    rcases hor with rfl | rfl | rfl | rfl
    · exact ⟨[],o6 _ _ (k.ne f1) ((s2.trans (s3.trans (s4.trans s5))) _ _ e1),by simp,by simp,k.ne f1⟩
    · exact ⟨[3],o6 _ _ (k.ne (s1.free f2)) ((s3.trans (s4.trans s5)) _ _ e2),by simp,by simp,k.ne (s1.free f2)⟩
    · exact ⟨[0,9],o6 _ _ (k.ne ((s1.trans s2).free f3)) ((s4.trans s5) _ _ e3),by simp,by simp,k.ne ((s1.trans s2).free f3)⟩
    · exact ⟨[1,2,7],o6 _ _ (k.ne ((s1.trans (s2.trans s3)).free f4)) (s5 _ _ e4),by simp,by simp,k.ne ((s1.trans (s2.trans s3)).free f4)⟩
   have oA:Oth s0 H H6:=(a58 s05).trans o6
   clear hor hpk o6 e1 e2 e3 e4 e5 f1 f2 f3 f4 f5 s1 s2 s3 s4 s5 s05 k5
   intro pa H1 f1 s1 e1
   walk_at "run"
   intro pb H2 f2 s2 e2
   walk_at "run"
   intro pc H3 f3 s3 e3
   walk_at "run"
   intro pd H4 f4 s4 e4
   walk_at "run"
   intro pe H5 f5 s5 e5
   walk_at "run"
   have s05:=s1.trans (s2.trans (s3.trans (s4.trans s5)))
   have k5:=k6.same s05
   refine ⟨s0,z,4,rfl,k5,by decide,by decide,fun r2 H7 hr2 o7 k7=>?_⟩
   obtain ⟨pw,hpw,hor⟩:=of4 (H:=H) (a:=pa) (b:=pb) (c:=pc) (d:=pd) hr2
   refine a29 (SqL.of (o7 _ _ (k6.ne ((s1.trans (s2.trans (s3.trans s4))).free f5)) e5)) hpw ?_
   walk_at "run"
   obtain ⟨ws,e4',hwnd,wl⟩:∃ ws:List Str,H7 pw=some (.lst (strsV ws))∧ws.Nodup∧ws.length≤4:=by
    rcases hor with rfl | rfl | rfl | rfl
    · exact ⟨[],o7 _ _ (k6.ne f1) ((s2.trans (s3.trans (s4.trans s5))) _ _ e1),by simp,by simp⟩
    · exact ⟨["a"],o7 _ _ (k6.ne (s1.free f2)) ((s3.trans (s4.trans s5)) _ _ e2),by simp,by simp⟩
    · exact ⟨["no","yes"],o7 _ _ (k6.ne ((s1.trans s2).free f3)) ((s4.trans s5) _ _ e3),by decide +kernel,by simp⟩
    · exact ⟨["z","b","abcdefgh"],o7 _ _ (k6.ne ((s1.trans (s2.trans s3)).free f4)) (s5 _ _ e4),by decide +kernel,by simp⟩
   have oB:Oth s0 H H7:=oA.trans ((a58 s05).trans o7)
   have e14:H7 pk=some (.lst (natsV ks)):=o7 _ _ hpks (s05 _ _ hk6)
   clear hor hpw o7 e1 e2 e3 e4 e5 f1 f2 f3 f4 f5 s1 s2 s3 s4 s5 s05 k5 k6 hk6
   intro p5 H5 f5 s5 e5
   walk_at "run"
   intro p6 H6 f6 s6 e6
   walk_at "run"
   have s46:=s5.trans s6
   refine ⟨⟨_,SqL.of (s46 _ _ e14)⟩,a93 (xs:=natsV ks) (le_line (by rw [a28]; omega)) (fun i acc H'=>i≤ks.length∧acc.length=i∧Same H6 H'∧Tr.Ats H' (((ks.take i).map Ev.key).map Ev.tr) acc []) ⟨Nat.zero_le _,rfl,Same.refl _,ats_nil0.mpr rfl⟩ (fun i acc H' ⟨_,e,s',_⟩=>⟨by omega,SqL.of ((s46.trans s') _ _ e14)⟩) ?_ ?_⟩
   · rintro i x acc H' hx ⟨hi,ea,s',hat⟩
     obtain ⟨k0,hk0,rfl⟩:=a97 hx
     walk_at "run"
     intro p7 H7 f7 s7 e7
     refine ⟨(List.getElem?_eq_some_iff.mp hk0).1,by simp [ea],s'.trans s7,?_⟩
     rw [List.take_add_one,hk0,show ks.take i++(some k0).toList=ks.take i++[k0] from rfl,List.map_append,List.map_append]
     exact ats_app0.mpr ⟨_,_,rfl,hat.same s7,ats_cons0.mpr ⟨_,_,rfl,b08 e7 al6 bl3,ats_nil0.mpr rfl⟩⟩
   · rintro acc H' ⟨_,ea,s',hat⟩ p8 H8 f8 s8 e8
     rw [a28,List.take_length] at hat
     have al:acc.length≤3:=by rw [ea,a28]; exact kl
     walk_at "run"
     refine a67 ((s'.trans s8) _ _ e6) e8 (le_line (by simp; omega)) ?_
     intro p9 H9 f9 s9 e9
     walk_at "run"
     have s49:=s46.trans (s'.trans (s8.trans s9))
     refine ⟨⟨_,SqL.of (s49 _ _ e4')⟩,a93 (xs:=strsV ws) (le_line (by simp [strsV]; omega)) (fun i acc H'=>i≤ws.length∧acc.length=i∧Same H9 H'∧Tr.Ats H' (((ws.take i).map Ev.word).map Ev.tr) acc []) ⟨Nat.zero_le _,rfl,Same.refl _,ats_nil0.mpr rfl⟩ (fun i acc H' ⟨_,e,s',_⟩=>⟨by omega,SqL.of ((s49.trans s') _ _ e4')⟩) ?_ ?_⟩
     · rintro i x acc H' hx ⟨hi,ea,s',hat⟩
       obtain ⟨k0,hk0,rfl⟩:=b36 hx
       walk_at "run"
       intro p7 H7 f7 s7 e7
       refine ⟨(List.getElem?_eq_some_iff.mp hk0).1,by simp [ea],s'.trans s7,?_⟩
       rw [List.take_add_one,hk0,show ws.take i++(some k0).toList=ws.take i++[k0] from rfl,List.map_append,List.map_append]
       exact ats_app0.mpr ⟨_,_,rfl,hat.same s7,ats_cons0.mpr ⟨_,_,rfl,b08 e7 al6 al6,ats_nil0.mpr rfl⟩⟩
     · rintro acc2 H10 ⟨_,ea2,s10,hat2⟩ p11 H11 f11 s11 e11
       rw [show (strsV ws).length=ws.length by simp [strsV],List.take_length] at hat2
       have al2:acc2.length≤4:=by rw [ea2]; simp [strsV]; omega
       walk_at "run"
       have s911:=s10.trans s11
       refine a67 (s911 _ _ e9) e11 (le_line (by simp; omega)) ?_
       intro p12 H12 f12 s12 e12
       have s412:=s49.trans (s911.trans s12)
       refine q ([Ev.quiet]++ks.map Ev.key++ws.map Ev.word) p12 _ H12 ?_ e12 ?_ (bp8 hknd hwnd) (by simp; omega) (by simp) (oB.trans (a58 s412)) (k7.same s412)
       · exact oB.free k7 (s49.free (s911.free f12))
       · rw [List.map_append,List.map_append]
         refine ats_app0.mpr ⟨_,_,rfl,ats_app0.mpr ⟨_,_,rfl,ats_cons0.mpr ⟨_,_,rfl,?_,ats_nil0.mpr rfl⟩,hat.same (s8.trans (s9.trans (s911.trans s12)))⟩,hat2.same (s11.trans s12)⟩
         exact at_tup0.mpr ⟨p5,_,rfl,(s6.trans (s'.trans (s8.trans (s9.trans (s911.trans s12))))) _ _ e5,ats_cons0.mpr ⟨_,_,rfl,al6,ats_nil0.mpr rfl⟩⟩
def blocks (ls:List (List Nat)):List Nat:=ls.flatMap fun l=>l.length::l
theorem ag6 {ns:List Nat}{j k:Nat}:cutV (natsV ns) (some (j:Int)) (some (k:Int))=natsV ((ns.drop j).take (k - j)):=by
 rw [ap6,al1,←List.map_drop,←List.map_take,←ap6]
def txOf (txs:List Str) (l:List Nat):List Str:=l.map fun n=>txs.getD n (Str.ofString "")
theorem ba9 {txs:List Str}{n:Nat}(h:n<txs.length):(strsV txs)[n]?=some (.str (txs.getD n (Str.ofString ""))):=by
 refine b93 ?_
 rw [List.getD_eq_getElem?_getD,List.getElem?_eq_getElem h]
 rfl
theorem aq6 {txs:List Str}{l:List Nat}{i n:Nat}(e:l[i]?=some n):strsV (txOf txs (l.take i))++[V.str (txs.getD n (Str.ofString ""))]=strsV (txOf txs (l.take (i+1))):=by
 rw [List.take_add_one,e]
 simp [txOf,strsV]
abbrev Tri:=Nat×Nat×Nat
abbrev Sh:=(Nat×Nat)×List Tri
def flat3 (ts:List Tri):List Nat:=ts.flatMap fun t=>[t.1,t.2.1,t.2.2]
def shL (h:Sh):List Nat:=h.1.1::h.1.2::flat3 h.2
theorem flat3_len:∀ ts:List Tri,(flat3 ts).length=ts.length*3
 | []=>rfl
 | t::ts=>by
   have:=flat3_len ts
   simp only [flat3,List.flatMap_cons,List.length_append,List.length_cons,List.length_nil] at this ⊢
   omega
theorem flat3_at:∀ {ts:List Tri}{i:Nat}{t:Tri},ts[i]?=some t→((flat3 ts).drop (i*3)).take 3=[t.1,t.2.1,t.2.2]∧(flat3 ts)[i*3]?=some t.1∧(flat3 ts)[i*3+1]?=some t.2.1∧(flat3 ts)[i*3+2]?=some t.2.2
 | [],i,t,h=>by simp at h
 | x::ts,0,t,h=>by
   obtain rfl:x=t:=by simpa using h
   refine ⟨?_,?_,?_,?_⟩ <;> simp [flat3]
 | x::ts,i+1,t,h=>by
   obtain ⟨h1,h2,h3,h4⟩:=flat3_at (ts:=ts) (i:=i) (t:=t) (by simpa using h)
   have e:flat3 (x::ts)=[x.1,x.2.1,x.2.2]++flat3 ts:=rfl
   rw [e,show (i+1)*3=i*3+3 by omega]
   refine ⟨?_,?_,?_,?_⟩
   · simpa using h1
   · simpa using h2
   · rw [show i*3+3+1=i*3+1+3 by omega]; simpa using h3
   · rw [show i*3+3+2=i*3+2+3 by omega]; simpa using h4
theorem bm6 {h:Sh}{i:Nat}{t:Tri}(e:h.2[i]?=some t):((shL h).drop (2+i*3)).take 3=[t.1,t.2.1,t.2.2]∧(shL h)[2+i*3]?=some t.1∧(shL h)[2+i*3+1]?=some t.2.1∧(shL h)[2+i*3+2]?=some t.2.2:=by
 obtain ⟨h1,h2,h3,h4⟩:=flat3_at e
 unfold shL
 rw [show 2+i*3=i*3+1+1 by omega,show i*3+1+1+1=i*3+1+1+1 from rfl]
 refine ⟨?_,?_,?_,?_⟩
 · simpa using h1
 · simpa using h2
 · rw [show i*3+1+1+1=(i*3+1)+1+1 by omega]; simpa using h3
 · rw [show i*3+1+1+2=(i*3+2)+1+1 by omega]; simpa using h4
structure Pk where
 told:List Nat
 shs:List Sh
 sys:List (List Nat)
 say:Nat
def Pk.cells (k:Pk):List Nat:=k.told.length::k.sys.length::k.shs.length::k.say::(k.told++(blocks (k.shs.map shL)++blocks k.sys))
def Pk.pre1 (k:Pk):List Nat:=k.told.length::k.sys.length::k.shs.length::k.say::k.told
def Pk.pre2 (k:Pk):List Nat:=k.pre1++blocks (k.shs.map shL)
theorem Pk.c1 (k:Pk):k.cells=k.pre1++(blocks (k.shs.map shL)++blocks k.sys):=by simp [Pk.cells,Pk.pre1]
theorem Pk.c2 (k:Pk):k.cells=k.pre2++(blocks k.sys++[]):=by simp [Pk.cells,Pk.pre2,Pk.pre1]
theorem Pk.l1 (k:Pk):k.pre1.length=4+k.told.length:=by simp [Pk.pre1]; omega
theorem Pk.at4 (k:Pk) {i t:Nat}(h:k.told[i]?=some t):k.cells[4+i]?=some t:=by
 unfold Pk.cells
 rw [show 4+i=i+1+1+1+1 by omega]
 simp only [List.getElem?_cons_succ]
 rw [List.getElem?_append_left (List.getElem?_eq_some_iff.mp h).1,h]
def pm (d tx c sh sy:Addr):List (Str×V):=putF "sayings" (.ref sy) (putF "shapes" (.ref sh) (putF "cells" (.ref c) (putF "texts" (.ref tx) (putF "places" (.ref d) []))))
def pickP (h:Sh) (j:Nat):Nat×Nat:=match h.2.find? (fun t=>t.1 == j) with
 | some t=>t.2
 | none=>h.1
theorem b38 {h:Sh}{j i:Nat}{t:Tri}(e:h.2[i]?=some t) (hj:t.1=j) (hn:∀ x∈h.2.take i,¬ x.1=j):pickP h j=t.2:=by
 have e2:h.2=h.2.take i++t::h.2.drop (i+1):=by
  conv=>lhs; rw [← List.take_append_drop i h.2,List.drop_eq_getElem_cons (List.getElem?_eq_some_iff.mp e).1]
  rw [(List.getElem?_eq_some_iff.mp e).2]
 have hf:h.2.find? (fun t=>t.1 == j)=some t:=by
  rw [e2,List.find?_append,List.find?_eq_none.mpr fun x hx=>by simpa using hn x hx]
  simp [hj]
 unfold pickP
 rw [hf]
theorem b39 {h:Sh}{j:Nat}(hn:∀ x∈h.2,¬ x.1=j):pickP h j=h.1:=by
 unfold pickP
 rw [List.find?_eq_none.mpr fun x hx=>by simpa using hn x hx]
theorem ax3 (ts:List Tri) (t:Tri):flat3 (ts++[t])=flat3 ts++[t.1,t.2.1,t.2.2]:=by simp [flat3]
abbrev Row:=List Str×Nat
abbrev aq7:=Bool×List Row
def rowW (r:Row):Tw:=.tup [.lst (r.1.map strW),.sc (.int (r.2:Nat))]
def roomW (r:aq7):Tw:=.tup [.sc (.bl r.1),.lst (r.2.map rowW)]
theorem row_w {H:Hp}{r:Row}{v:V}{fs:List Addr}:(rowW r).At H v fs↔∃ k sl,v=.ref k∧H k=some (.tup [.ref sl,.int (r.2:Nat)])∧H sl=some (.lst (strsV r.1))∧fs=[sl]:=by
 simp only [rowW,Tw.At,Tw.Ats]
 constructor
 · rintro ⟨a,vs,rfl,e,v,ws,f,g,rfl,rfl,⟨sl,us,gs,rfl,e2,h,rfl⟩,v',ws',f',g',rfl,rfl,⟨rfl,_,rfl⟩,rfl,rfl⟩
   obtain ⟨rfl,rfl⟩:=strs_w.mp h
   exact ⟨a,sl,rfl,e,e2,rfl⟩
 · rintro ⟨k,sl,rfl,e,e2,rfl⟩
   exact ⟨k,_,rfl,e,_,_,[sl],[],rfl,rfl,⟨sl,_,[],rfl,e2,strs_w.mpr ⟨rfl,rfl⟩,rfl⟩,_,_,[],[],rfl,rfl,⟨rfl,True.intro,rfl⟩,rfl,rfl⟩
theorem room_w {H:Hp}{r:aq7}{v:V}{fs:List Addr}:(roomW r).At H v fs↔∃ q g ps gs,v=.ref q∧H q=some (.tup [.bl r.1,.ref g])∧H g=some (.lst ps)∧Tw.Ats H (r.2.map rowW) ps gs∧fs=g::gs:=by
 simp only [roomW,Tw.At,Tw.Ats]
 constructor
 · rintro ⟨a,vs,rfl,e,v,ws,f,g,rfl,rfl,⟨rfl,_,rfl⟩,v',ws',f',g',rfl,rfl,⟨sl,us,gs,rfl,e2,h,rfl⟩,rfl,rfl⟩
   exact ⟨a,sl,us,gs,rfl,e,e2,h,by simp⟩
 · rintro ⟨q,g,ps,gs,rfl,e,e2,h,rfl⟩
   exact ⟨q,_,rfl,e,_,_,[],g::gs,rfl,rfl,⟨rfl,True.intro,rfl⟩,_,_,g::gs,[],rfl,by simp,⟨g,ps,gs,rfl,e2,h,rfl⟩,rfl,rfl⟩
namespace Z
theorem intsV_len (zs:List Int):(intsV zs).length=zs.length:=by simp [intsV]
theorem intsV_get {zs:List Int}{j:Nat}{v:V}(h:(intsV zs)[j]?=some v):∃ z,zs[j]?=some z∧v=.int z:=by
 simp only [intsV,List.getElem?_map] at h
 obtain ⟨k,h1,h2⟩:=Option.map_eq_some_iff.mp h
 exact ⟨k,h1,h2.symm⟩
def gi (c:List Int) (i:Nat):Int:=c.getD i 0
theorem b94 {c:List Int}{i:Nat}(h:i<c.length):c[i]?=some (gi c i):=by
 unfold gi
 rw [List.getD_eq_getElem?_getD,List.getElem?_eq_getElem h]
 rfl
theorem iv_at {c:List Int}{i:Nat}(h:i<c.length):(intsV c)[i]?=some (.int (gi c i)):=by
 simp only [intsV,List.getElem?_map,b94 h]
 rfl
def bp (c:List Int):Nat→Nat→Option (List Nat)
 | 0,p=>if p≤c.length then some [p] else none
 | m+1,p=>if c.length≤p∨gi c p<0 then none else (bp c m (p+(1+(gi c p).toNat))).map (p::·)
theorem b40 {c:List Int}{m p:Nat}(h:c.length≤p∨gi c p<0):bp c (m+1) p=none:=by
 unfold bp
 rw [if_pos h]
theorem bp_go {c:List Int}{m p:Nat}(h:¬ (c.length≤p∨gi c p<0)):bp c (m+1) p=(bp c m (p+(1+(gi c p).toNat))).map (p::·):=by
 conv=>lhs; unfold bp
 rw [if_neg h]
def block (c:List Int) (p:Nat):List Int:=(c.drop (p+1)).take (gi c p).toNat
def lastN (l:List Nat):Nat:=l.getLastD 0
abbrev Tri:=Int×Int×Int
abbrev Sh:=(Int×Int)×List Tri
def flat3 (ts:List Tri):List Int:=ts.flatMap fun t=>[t.1,t.2.1,t.2.2]
def shI (h:Sh):List Int:=h.1.1::h.1.2::flat3 h.2
theorem flat3_len:∀ ts:List Tri,(flat3 ts).length=ts.length*3
 | []=>rfl
 | t::ts=>by
   have:=flat3_len ts
   simp only [flat3,List.flatMap_cons,List.length_append,List.length_cons,List.length_nil] at this ⊢
   omega
theorem shI_len (h:Sh):(shI h).length=h.2.length*3+2:=by simp [shI,flat3_len]
theorem av4:∀ (n:Nat) (l:List Int),l.length=n*3→∃ ts,l=flat3 ts
 | 0,l,h=>⟨[],List.length_eq_zero_iff.mp (by omega)⟩
 | n+1,[],h=>by simp at h
 | n+1,[_],h=>by simp at h; omega
 | n+1,[_,_],h=>by simp at h; omega
 | n+1,a::b::c::r,h=>by
   obtain ⟨ts,e⟩:=av4 n r (by simp at h; omega)
   exact ⟨(a,b,c)::ts,by rw [e]; rfl⟩
theorem bm7 {l:List Int}(h:l.length % 3=2):∃ s,l=shI s:=by
 match l,h with
 | a::b::r,h =>
   obtain ⟨ts,e⟩:=av4 (r.length / 3) r (by simp at h; omega)
   exact ⟨((a,b),ts),by rw [e]; rfl⟩
theorem aq8:∀ {ts us:List Tri},flat3 ts=flat3 us→ts=us
 | [],[],_=>rfl
 | [],u::us,h=>by simp [flat3] at h
 | t::ts,[],h=>by simp [flat3] at h
 | (a,b,c)::ts,(d,e,f)::us,h=>by
   have h':a::b::c::flat3 ts=d::e::f::flat3 us:=h
   injection h' with h1 h'
   injection h' with h2 h'
   injection h' with h3 h'
   rw [h1,h2,h3,aq8 h']
theorem shI_inj {s u:Sh}(h:shI s=shI u):s=u:=by
 obtain ⟨⟨a,b⟩,ts⟩:=s
 obtain ⟨⟨c,d⟩,us⟩:=u
 have h':a::b::flat3 ts=c::d::flat3 us:=h
 injection h' with h1 h'
 injection h' with h2 h'
 rw [h1,h2,aq8 h']
theorem flat3_at:∀ {ts:List Tri}{i:Nat}{t:Tri},ts[i]?=some t→((flat3 ts).drop (i*3)).take 3=[t.1,t.2.1,t.2.2]∧(flat3 ts)[i*3]?=some t.1∧(flat3 ts)[i*3+1]?=some t.2.1∧(flat3 ts)[i*3+2]?=some t.2.2
 | [],i,t,h=>by simp at h
 | x::ts,0,t,h=>by
   obtain rfl:x=t:=by simpa using h
   refine ⟨?_,?_,?_,?_⟩ <;> simp [flat3]
 | x::ts,i+1,t,h=>by
   obtain ⟨h1,h2,h3,h4⟩:=flat3_at (ts:=ts) (i:=i) (t:=t) (by simpa using h)
   have e:flat3 (x::ts)=[x.1,x.2.1,x.2.2]++flat3 ts:=rfl
   rw [e,show (i+1)*3=i*3+3 by omega]
   refine ⟨?_,?_,?_,?_⟩
   · simpa using h1
   · simpa using h2
   · rw [show i*3+3+1=i*3+1+3 by omega]; simpa using h3
   · rw [show i*3+3+2=i*3+2+3 by omega]; simpa using h4
theorem bm8 {h:Sh}{i:Nat}{t:Tri}(e:h.2[i]?=some t):((shI h).drop (2+i*3)).take 3=[t.1,t.2.1,t.2.2]∧(shI h)[2+i*3]?=some t.1∧(shI h)[2+i*3+1]?=some t.2.1∧(shI h)[2+i*3+2]?=some t.2.2:=by
 obtain ⟨h1,h2,h3,h4⟩:=flat3_at e
 unfold shI
 rw [show 2+i*3=i*3+1+1 by omega]
 refine ⟨?_,?_,?_,?_⟩
 · simpa using h1
 · simpa using h2
 · rw [show i*3+1+1+1=(i*3+1)+1+1 by omega]; simpa using h3
 · rw [show i*3+1+1+2=(i*3+2)+1+1 by omega]; simpa using h4
def asc (E:Int):Int→List Int→Prop
 | _,[]=>True
 | a,e::es=>a<e∧e<E∧asc E e es
def prs (h:Sh):List (Int×Int):=h.1::h.2.map (·.2)
def WS (c:List Int) (E:Nat) (l:List Int):Prop:=∃ h,l=shI h∧asc E (-1) (h.2.map (·.1))∧∀ x∈prs h,0≤x.1∧x.1<gi c 1∧0≤x.2∧x.2<gi c 0
def pairsOf (E:Nat) (h:Sh):List (Int×Int):=h.2.foldl (fun acc t=>acc.set t.1.toNat t.2) (List.replicate E h.1)
def WY (c:List Int) (T:Nat) (p:Nat):Prop:=∀ z∈block c p,0≤z∧z<(T:Int)
def RM (c:List Int) (sh sy:List Nat) (E:Nat) (i:Nat):Prop:=0≤gi c (4+i) / 2∧gi c (4+i) / 2<gi c 2∧(gi c (4+i) % 2=1→∃ h,block c (sh.getD (gi c (4+i) / 2).toNat 0)=shI h∧∀ x∈pairsOf E h,x.2=(i:Int)∧gi c (sy.getD x.1.toNat 0)=0)
def VVc (c:List Int) (E T:Nat):Prop:=4≤c.length∧(1≤gi c 0∧gi c 0≤2000)∧(0≤gi c 3∧gi c 3<gi c 1)∧∃ sh sy,bp c (gi c 2).toNat (4+(gi c 0).toNat)=some sh∧bp c (gi c 1).toNat (lastN sh)=some sy∧lastN sy=c.length∧(∀ p∈sh.dropLast,WS c E (block c p))∧(∀ p∈sy.dropLast,WY c T p)∧∀ i,i<(gi c 0).toNat→RM c sh sy E i
theorem bp_len {c:List Int}:∀ {m p:Nat}{l:List Nat},bp c m p=some l→l.length=m+1
 | 0,p,l,h=>by
   unfold bp at h
   split at h
   · cases h; rfl
   · cases h
 | m+1,p,l,h=>by
   unfold bp at h
   split at h
   · cases h
   · obtain ⟨l',h1,rfl⟩:=Option.map_eq_some_iff.mp h
     simp [bp_len h1]
theorem bp_head {c:List Int}:∀ {m p:Nat}{l:List Nat},bp c m p=some l→∃ t,l=p::t
 | 0,p,l,h=>by
   unfold bp at h
   split at h
   · cases h; exact ⟨[],rfl⟩
   · cases h
 | m+1,p,l,h=>by
   unfold bp at h
   split at h
   · cases h
   · obtain ⟨l',h1,rfl⟩:=Option.map_eq_some_iff.mp h
     exact ⟨l',rfl⟩
theorem lastN_cons {p q:Nat}{t:List Nat}:lastN (p::q::t)=lastN (q::t):=by simp [lastN]
theorem bp_last {c:List Int}:∀ {m p:Nat}{l:List Nat},bp c m p=some l→lastN l≤c.length∧p≤lastN l
 | 0,p,l,h=>by
   unfold bp at h
   split at h
   · cases h
     exact ⟨by simpa [lastN],by simp [lastN]⟩
   · cases h
 | m+1,p,l,h=>by
   unfold bp at h
   split at h
   · cases h
   · obtain ⟨l',h1,rfl⟩:=Option.map_eq_some_iff.mp h
     obtain ⟨t,rfl⟩:=bp_head h1
     obtain ⟨x,y⟩:=bp_last h1
     rw [lastN_cons]
     exact ⟨x,by omega⟩
theorem at2 {c:List Int}:∀ {m p:Nat}{l:List Nat},bp c m p=some l→∀ q∈l.dropLast,q<c.length∧0≤gi c q∧q+1+(gi c q).toNat≤lastN l
 | 0,p,l,h,q,hq=>by
   unfold bp at h
   split at h
   · cases h
     simp at hq
   · cases h
 | m+1,p,l,h,q,hq=>by
   unfold bp at h
   split at h
   · cases h
   · rename_i hc
     obtain ⟨l',h1,rfl⟩:=Option.map_eq_some_iff.mp h
     obtain ⟨t,rfl⟩:=bp_head h1
     have hl:=bp_last h1
     rw [List.dropLast_cons₂] at hq
     rw [lastN_cons]
     rcases List.mem_cons.mp hq with rfl | hq
     · exact ⟨by omega,by omega,by omega⟩
     · exact at2 h1 q hq
theorem b41 {c:List Int}:∀ {m p:Nat}{l:List Nat},bp c m p=some l→∀ i,p≤i→i<lastN l→∃ q∈l.dropLast,q≤i∧i≤q+(gi c q).toNat
 | 0,p,l,h,i,h1,h2=>by
   unfold bp at h
   split at h
   · cases h
     simp [lastN] at h2
     omega
   · cases h
 | m+1,p,l,h,i,h1,h2=>by
   unfold bp at h
   split at h
   · cases h
   · obtain ⟨l',h3,rfl⟩:=Option.map_eq_some_iff.mp h
     obtain ⟨t,rfl⟩:=bp_head h3
     rw [lastN_cons] at h2
     rw [List.dropLast_cons₂]
     by_cases hi:i≤p+(gi c p).toNat
     · exact ⟨p,by simp,h1,hi⟩
     · obtain ⟨q,hq,x⟩:=b41 h3 i (by omega) h2
       exact ⟨q,by simp [hq],x⟩
theorem am6 {c:List Int}{q k:Nat}(h:q+1+(gi c q).toNat≤c.length) (hk:k<(gi c q).toNat):(block c q)[k]?=some (gi c (q+1+k)):=by
 unfold block
 rw [List.getElem?_take_of_lt hk,List.getElem?_drop]
 exact b94 (by omega)
theorem ae5 {c:List Int}{q:Nat}(h:q+1+(gi c q).toNat≤c.length):(block c q).length=(gi c q).toNat:=by
 simp [block]
 omega
theorem at3 {E:Int}:∀ {a:Int}{l:List Int},asc E a l→-1≤a→∀ e∈l,0≤e∧e<E
 | _,[],_,_,e,he=>by simp at he
 | a,x::l,h,ha,e,he=>by
   obtain ⟨h1,h2,h3⟩:=h
   rcases List.mem_cons.mp he with rfl | he
   · exact ⟨by omega,h2⟩
   · exact at3 h3 (by omega) e he
theorem bm9 {c:List Int}{E:Nat}{l:List Int}(h:WS c E l):∀ z∈l,0≤z:=by
 obtain ⟨s,rfl,h1,h2⟩:=h
 intro z hz
 have hp:=at3 h1 (by omega)
 simp only [shI,List.mem_cons] at hz
 rcases hz with rfl | rfl | hz
 · exact (h2 s.1 (by simp [prs])).1
 · exact (h2 s.1 (by simp [prs])).2.2.1
 · simp only [flat3,List.mem_flatMap] at hz
   obtain ⟨t,ht,hz⟩:=hz
   have ht2:=h2 t.2 (by simp only [prs,List.mem_cons]; exact .inr (List.mem_map.mpr ⟨t,ht,rfl⟩))
   simp only [List.mem_cons,List.not_mem_nil,or_false] at hz
   rcases hz with rfl | rfl | rfl
   · exact (hp t.1 (List.mem_map.mpr ⟨t,ht,rfl⟩)).1
   · exact ht2.1
   · exact ht2.2.2.1
theorem vv_pos {c:List Int}{E T:Nat}(h:VVc c E T):∀ z∈c,0≤z:=by
 obtain ⟨h4,⟨h0,h01⟩,⟨h3,h31⟩,sh,sy,b1,b2,hl,w1,w2,rm⟩:=h
 intro z hz
 obtain ⟨i,hi,rfl⟩:=List.mem_iff_getElem.mp hz
 have ei:c[i]=gi c i:=by
  have:=b94 hi
  rw [List.getElem?_eq_getElem hi] at this
  exact Option.some.inj this
 rw [ei]
 have l1:=bp_last b1
 have l2:=bp_last b2
 have inB:∀ {q k:Nat},q<c.length→0≤gi c q→q+1+(gi c q).toNat≤c.length→(∀ z∈block c q,0≤z)→q≤k→k≤q+(gi c q).toNat→0≤gi c k:=fun {q k} a1 a2 a3 a4 a5 a6=>by
  by_cases hk:k=q
  · rw [hk]; exact a2
  · have:=am6 (k:=k - (q+1)) a3 (by omega)
    rw [show q+1+(k - (q+1))=k by omega] at this
    exact a4 _ (List.mem_of_getElem? this)
 by_cases hi4:i<4
 · have h2:0≤gi c 2:=by
    have:=rm 0 (by omega)
    have:=this.1
    have:=(rm 0 (by omega)).2.1
    omega
   have:i=0∨i=1∨i=2∨i=3:=by omega
   rcases this with rfl | rfl | rfl | rfl <;> omega
 by_cases hir:i<4+(gi c 0).toNat
 · have:=(rm (i - 4) (by omega)).1
   rw [show 4+(i - 4)=i by omega] at this
   omega
 by_cases his:i<lastN sh
 · obtain ⟨q,hq,x1,x2⟩:=b41 b1 i (by omega) his
   obtain ⟨y1,y2,y3⟩:=at2 b1 q hq
   exact inB y1 y2 (by omega) (bm9 (w1 q hq)) x1 x2
 · obtain ⟨q,hq,x1,x2⟩:=b41 b2 i (by omega) (by omega)
   obtain ⟨y1,y2,y3⟩:=at2 b2 q hq
   exact inB y1 y2 (by omega) (fun z hz=>(w2 q hq z hz).1) x1 x2
end Z
namespace Z
def bp9 (K:PySem.W.Frag):Sp:=fun vs H Q _=>∃ (a:Addr) (c:List Int) (p:Nat) (cnt:Int),vs=[.ref a,.int (p:Nat),.int cnt]∧H a=some (.lst (intsV c))∧c.length≤5000∧(∀ H',Same H H'→bp c cnt.toNat p=none→Q .non H')∧∀ q l H',H q=none→Same H H'→bp c cnt.toNat p=some l→H' q=some (.lst (natsV l))→Q (.ref q) H'
theorem at5 {o:Option (List Nat)}{pre:List Nat}{p:Nat}:(o.map (p::·)).map (pre++·)=o.map ((pre++[p])++·):=by
 cases o <;> simp
theorem a41 (T:Txt K mg t):FnOk P w K mg base CX0 1 t.a_block_places t.fd_block_places ["cells","place","count"] (bp9 K):=by
 refine T.F_block_places.ok sc_block_places (fun vs H Q E h=>?_) (fun cdv A outer s H vs Q E hr h=>?_)
 · obtain ⟨a,c,p,cnt,rfl,_⟩:=h
   rfl
 · obtain ⟨a,c,p,cnt,rfl,ha,hcl,qn,q⟩:=h
   refine ⟨_,(@a03 _ _ _ _ _ (@a34 _ _ 3 _ _ _ _ sc_block_places.nd rfl (by walk_at "o") (@a24 _ _ _ _ (@a00 _ _ _ _ _ (pv 1) (@a01 _) (by rfl))) (by rfl) (by walk_at "o"))
    (@a03 _ _ _ _ _ (@au4 _ _ _ _ _ _ PassesOwn.never (@a09 _ _ _ _ _ _ _ _ ak2 (@a26 _ _ _ _ _ _ _ _ _ (a36 K) (by rfl) T.z_len a54 (@a00 _ _ _ _ _ (pv 3) (@a01 _) (by rfl)) (by decide) (by decide) (by rfl) (by rfl)) (pv 2) (nomark _)) (@a03 _ _ _ _ _ (@a76 _ _ _ _ _ _ _ _ (@PW.pt _ _ _ (@aa6 _ _ _ _ _ _ _ (@a09 _ _ _ _ _ _ _ _ ak3 (pv 1) (@a26 _ _ _ _ _ _ _ _ _ (a36 K) (by rfl) T.z_len a54 (@a00 _ _ _ _ _ (pv 0) (@a01 _) (by rfl)) (by decide) (by decide) (by rfl) (by rfl)) (nomark _)) (@aa4 _ _ _ _ (@a09 _ _ _ _ _ _ _ _ ad3 (@a30 _ _ _ _ _ _ _ (a04 K) (pv 0) (pv 1) (fun _ _=>rfl)) (@a02 _ _ _ _) (nomark _))))) (@a07 _ _ _ (@a32 _ _ _ _ (@a89 _ _ _))) (@a35 _))
     (@a03 _ _ _ _ _ (@bg0 _ _ 1 _ _ _ _ _ _ sc_block_places.nd rfl (by walk_at "o") (@a31 _ _ _ _ _ _ _ _ a25 (@a02 _ _ _ _) (@a30 _ _ _ _ _ _ _ (a04 K) (pv 0) (pv 1) (fun _ _=>rfl))) bg1 (by walk_at "o"))
     (@a07 _ _ _ (@aa9 _ _ _ _ (@ae0 _ K _ _ _ _ _ _ _ _ _ _ _ PySem.F.plainAttrs_list PySem.F.slot_list_append PySem.F.type_list_append a90 (pv 3) (@a00 _ _ _ _ _ (pv 1) (@a01 _) (by rfl)) (by rfl) (by rfl) (by rfl) (by rfl) (by rfl) (by rfl)) (by rfl))))))
    (@a07 _ _ _ (@a32 _ _ _ _ (@b68 _ _ _ _ _ _ _ _ (@a09 _ _ _ _ _ _ _ _ ak2 (pv 1) (@a26 _ _ _ _ _ _ _ _ _ (a36 K) (by rfl) T.z_len a54 (@a00 _ _ _ _ _ (pv 0) (@a01 _) (by rfl)) (by decide) (by decide) (by rfl) (by rfl)) (nomark _)) (pv 3) (@a89 _ _ _)))))),?_⟩
   have sl:(1000000:Nat)≤sizeLine:=le_line (Nat.le_refl _)
   walk_at "go"
   intro pf H1 f1 s1 e1
   walk_at "run"
   refine b07 (fun m σ H'=>Same H H'∧∃ (pre:List Nat) (p':Nat),σ=[some (.ref a),some (.int (p':Nat)),some (.int cnt),some (.ref pf)]∧m=(cnt - pre.length).toNat∧pre.length≤p'∧pre.length≤5000∧bp c cnt.toNat p=(bp c (cnt - pre.length).toNat p').map (pre++·)∧H' pf=some (.lst (natsV (pre++[p'])))) cnt.toNat ⟨s1,[],p,rfl,by simp,by simp,by simp,by simp,e1⟩ ?_
   rintro m σ H2 ⟨s2,pre,p',rfl,rfl,hpl,hpl2,hbp,hpf⟩
   have ha2:=s2 _ _ ha
   walk_at "run"
   refine a47 (SqL.of hpf) ?_
   walk_at "run"
   have ol:(natsV (pre++[p'])).length=pre.length+1:=by simp [natsV]
   rw [ol]
   refine ite2 (fun hd=>?_) (fun hd=>?_)
   · have hlt:(pre.length:Int)+1≤cnt:=by have:=of_decide_eq_true hd; omega
     have em:(cnt - pre.length).toNat=(cnt - (pre++[p']).length).toNat+1:=by simp; omega
     refine ⟨fun σ' H'=>Same H H'∧∃ p'':Nat,σ'=[some (.ref a),some (.int (p'':Nat)),some (.int cnt),some (.ref pf)]∧(pre++[p']).length≤p''∧(pre++[p']).length≤5000∧bp c cnt.toNat p=(bp c (cnt - (pre++[p']).length).toNat p'').map ((pre++[p'])++·)∧H' pf=some (.lst (natsV ((pre++[p'])++[p'']))),fun σ' H' ⟨s',p'',e,h1,h2,h3,h4⟩=>⟨_,by rw [em]; exact Nat.lt_succ_self _,s',pre++[p'],p'',e,rfl,h1,h2,h3,h4⟩,?_⟩
     walk_at "run"
     refine a47 (SqL.of ha2) ?_
     walk_at "run"
     rw [intsV_len]
     refine ite2 (fun hx=>?_) (fun hx=>?_)
     · walk_at "run"
       have:c.length≤p':=by have:=of_decide_eq_true hx; omega
       refine qn H2 s2 ?_
       rw [hbp,em,b40 (.inl this)]
       rfl
     have hlt2:p'<c.length:=Nat.lt_of_not_le fun z=>hx (decide_eq_true (by omega))
     walk_at "run"
     refine a29 (SqL.of ha2) (a05 (iv_at hlt2)) ?_
     walk_at "run"
     refine ite2 (fun hx=>?_) (fun hx=>?_)
     · walk_at "run"
       refine qn H2 s2 ?_
       rw [hbp,em,b40 (.inr (of_decide_eq_true hx))]
       rfl
     have hge:0≤gi c p':=Int.not_lt.mp fun z=>hx (decide_eq_true z)
     walk_at "run"
     refine bm0 rfl ?_
     walk_at "run"
     refine a29 (SqL.of ha2) (a05 (iv_at hlt2)) ?_
     walk_at "run"
     dsimp only [List.set_cons_zero,List.set_cons_succ]
     refine al5 (SqL.of hpf) ?_
     walk_at "run"
     refine a99 hpf (by rw [ol]; omega) ?_
     have eo:((p':Nat):Int)+(1+gi c p')=((p'+(1+(gi c p').toNat):Nat):Int):=by omega
     rw [eo]
     refine ⟨s2.updNew f1,_,rfl,by simp; omega,by simp; omega,?_,by rw [a65,aa0]⟩
     rw [hbp,em,bp_go (by omega),at5]
   · have hm:(cnt - pre.length).toNat=0:=by
      have:¬ ((pre.length:Int)+1≤cnt):=fun z=>hd (decide_eq_true (by omega))
      omega
     rw [hm] at hbp
     walk_at "run"
     refine a47 (SqL.of ha2) ?_
     walk_at "run"
     rw [intsV_len]
     refine ite2 (fun hx=>?_) (fun hx=>?_)
     · walk_at "run"
       have hle:p'≤c.length:=by have:=of_decide_eq_true hx; omega
       refine q pf (pre++[p']) H2 f1 s2 ?_ hpf
       rw [hbp]
       simp [bp,hle]
     · walk_at "run"
       have hle:¬ p'≤c.length:=fun z=>hx (decide_eq_true (by omega))
       refine qn H2 s2 ?_
       rw [hbp]
       simp [bp,hle]
def at6 (K:PySem.W.Frag):Sp:=fun vs H Q _=>∃ (a:Addr) (c:List Int) (p:Nat),vs=[.ref a,.int (p:Nat)]∧H a=some (.lst (intsV c))∧p<c.length∧0≤gi c p∧∀ q H',H q=none→Same H H'→H' q=some (.lst (intsV (block c p)))→Q (.ref q) H'
theorem a64 (T:Txt K mg t):FnOk P w K mg base CX0 1 t.a_cells_in t.fd_cells_in ["cells","place"] (at6 K):=by
 refine T.F_cells_in.ok as8 (fun vs H Q E h=>?_) (fun cdv A outer s H vs Q E hr h=>?_)
 · obtain ⟨a,c,p,rfl,_⟩:=h
   rfl
 · obtain ⟨a,c,p,rfl,ha,h1,h2,q⟩:=h
   refine ⟨_,(@a07 _ _ _ (@a32 _ _ _ _ (@a42 _ _ _ _ _ _ _ _ _ _ (a43 K) (pv 0) (@a40 _ _ _ (@a31 _ _ _ _ _ _ _ _ a25 (pv 1) (@a02 _ _ _ _))) (@a40 _ _ _ (@a31 _ _ _ _ _ _ _ _ a25 (@a31 _ _ _ _ _ _ _ _ a25 (pv 1) (@a02 _ _ _ _)) (@a30 _ _ _ _ _ _ _ (a04 K) (pv 0) (pv 1) (fun _ _=>rfl))))))),?_⟩
   walk_at "go"
   refine a29 (SqL.of ha) (a05 (iv_at h1)) ?_
   walk_at "run"
   refine a95 (SqL.of ha) ?_
   rw [show ((p:Nat):Int)+1=((p+1:Nat):Int) by omega,show ((p+1:Nat):Int)+gi c p=((p+1+(gi c p).toNat:Nat):Int) by omega,show cutV (intsV c) (some ((p+1:Nat):Int)) (some ((p+1+(gi c p).toNat:Nat):Int))=intsV (block c p) by unfold intsV; rw [al1,Nat.add_sub_cancel_left]; rfl]
   intro q1 H1 f1 s1 e1
   exact q q1 H1 f1 s1 e1
def intW (k:Int):Tw:=.sc (.int k)
def tripZ (t:Tri):Tw:=.tup [intW t.1,intW t.2.1,intW t.2.2]
theorem trip_z {H:Hp}{t:Tri}{v:V}{fs:List Addr}:(tripZ t).At H v fs↔∃ k,v=.ref k∧H k=some (.tup [.int t.1,.int t.2.1,.int t.2.2])∧fs=[]:=by
 simp only [tripZ,intW,Tw.At,Tw.Ats]
 constructor
 · rintro ⟨a,vs,rfl,e,v,ws,f,g,rfl,rfl,⟨rfl,_,rfl⟩,v',ws',f',g',rfl,rfl,⟨rfl,_,rfl⟩,v2,ws2,f2,g2,rfl,rfl,⟨rfl,_,rfl⟩,rfl,rfl⟩
   exact ⟨a,rfl,e,rfl⟩
 · rintro ⟨k,rfl,e,rfl⟩
   exact ⟨k,_,rfl,e,_,_,[],[],rfl,rfl,⟨rfl,True.intro,rfl⟩,_,_,[],[],rfl,rfl,⟨rfl,True.intro,rfl⟩,_,_,[],[],rfl,rfl,⟨rfl,True.intro,rfl⟩,rfl,rfl⟩
def ax4 (K:PySem.W.Frag):Sp:=fun vs H Q _=>∃ (s:Addr) (h:Sh),vs=[.ref s]∧H s=some (.lst (intsV (shI h)))∧h.2.length≤10000∧∀ p acc H',H p=none→Same H H'→H' p=some (.lst acc)→Tw.Ats H' (h.2.map tripZ) acc []→Q (.ref p) H'
theorem b42 (n:Nat):ah0 2 ((n*3+2:Nat):Int)=n:=by
 unfold ah0
 omega
theorem av5 {ns:List Int}{j k:Nat}:cutV (intsV ns) (some (j:Int)) (some (k:Int))=intsV ((ns.drop j).take (k - j)):=by
 unfold intsV
 rw [al1]
theorem a62 (T:Txt K mg t):FnOk P w K mg base CX0 1 t.a_others_in t.fd_others_in ["shape"] (ax4 K):=by
 refine T.F_others_in.ok aq5 (fun vs H Q E h=>?_) (fun cdv A outer s H vs Q E hr h=>?_)
 · obtain ⟨s,h,rfl,_⟩:=h
   rfl
 · obtain ⟨s0,sh,rfl,hs,hl,q⟩:=h
   refine ⟨_,(@a07 _ _ _ (@a32 _ _ _ _ (ab0 (Nt:=["place"]) (Nf:=["shape"]) (caps:=[0]) rfl (a71 (sc:=defScope a70) rfl rfl (by decide +kernel) (by decide +kernel) (by decide +kernel) rfl (by decide +kernel)) (ap7 rfl T.z_range (@a00 _ _ _ _ _ (@a02 _ _ _ _) (@a00 _ _ _ _ _ (@a26 _ _ _ _ _ _ _ _ _ (a36 K) (by rfl) T.z_len a54 (@a00 _ _ _ _ _ (pv 0) (@a01 _) (by rfl)) (by decide) (by decide) (by rfl) (by rfl)) (@a00 _ _ _ _ _ (@a02 _ _ _ _) (@a01 _) (by rfl)) (by rfl)) (by rfl))) (fun _ _ _ _ _=>(a27 (i:=0) (show (["place","shape"]:List Str).Nodup by decide +kernel) rfl (by walk_at "o"))) (fun _ _ _ _ _=>(@a88 _)) (fun _ _ _ _ _=>(@aa8 _ _ _ _ _ _ _ _ _ (b02 K) (by rfl) T.z_tuple b79 (@a00 _ _ _ _ _ (@a42 _ _ _ _ _ _ _ _ _ _ (a43 K) (pv 1) (@a40 _ _ _ (pv 0)) (@a40 _ _ _ (@a31 _ _ _ _ _ _ _ _ a25 (pv 0) (@a02 _ _ _ _)))) (@a01 _) (by rfl)) (by decide) (by decide) (by rfl) (by rfl)))))),?_⟩
   walk_at "go"
   refine a47 (SqL.of hs) ?_
   walk_at "run"
   have hle:(intsV (shI sh)).length=sh.2.length*3+2:=by rw [intsV_len,shI_len]
   rw [hle]
   refine ⟨2,_,rfl,⟨by omega,by omega,by omega,by omega⟩,?_⟩
   rw [b42]
   refine ap8 (n:=sh.2.length) (le_line (by omega)) (fun i acc H'=>i≤sh.2.length∧acc.length=i∧Same H H'∧Tw.Ats H' ((sh.2.take i).map tripZ) acc []) ⟨Nat.zero_le _,rfl,Same.refl _,by simp [Tw.Ats]⟩ (fun i acc H' ⟨_,e,_⟩=>by omega) ?_ ?_
   · rintro i acc H1 hi ⟨hil,ea,s1,hat⟩
     have et:sh.2[i]?=some sh.2[i]:=List.getElem?_eq_getElem hi
     obtain ⟨x1,_⟩:=bm8 et
     walk_at "run"
     refine a95 (SqL.of (s1 _ _ hs)) ?_
     rw [show (2:Int)+(i:Nat)*3=((2+i*3:Nat):Int) by omega,show ((2+i*3:Nat):Int)+3=((2+i*3+3:Nat):Int) by omega,av5,Nat.add_sub_cancel_left,x1]
     intro p2 H2 f2 s2 e2
     walk_at "run"
     refine b81 (SqL.of e2) ?_
     intro p3 H3 f3 s3 e3
     refine ⟨hi,by simp [ea],s1.trans (s2.trans s3),?_⟩
     rw [List.take_add_one,et,List.map_append]
     exact Tw.Ats.snoc (gs:=[]) (hat.same (s2.trans s3)) (trip_z.mpr ⟨p3,rfl,e3,rfl⟩)
   · rintro acc H1 ⟨_,ea,s1,hat⟩ p2 H2 f2 s2 e2
     rw [List.take_length] at hat
     exact q p2 acc H2 (s1.free f2) (s1.trans s2) e2 (hat.same s2)
end Z
namespace Z
def pairW (x:Int×Int):Tw:=.tup [intW x.1,intW x.2]
theorem pair_w {H:Hp}{x:Int×Int}{v:V}{fs:List Addr}:(pairW x).At H v fs↔∃ k,v=.ref k∧H k=some (.tup [.int x.1,.int x.2])∧fs=[]:=by
 simp only [pairW,intW,Tw.At,Tw.Ats]
 constructor
 · rintro ⟨a,vs,rfl,e,v,ws,f,g,rfl,rfl,⟨rfl,_,rfl⟩,v',ws',f',g',rfl,rfl,⟨rfl,_,rfl⟩,rfl,rfl⟩
   exact ⟨a,rfl,e,rfl⟩
 · rintro ⟨k,rfl,e,rfl⟩
   exact ⟨k,_,rfl,e,_,_,[],[],rfl,rfl,⟨rfl,True.intro,rfl⟩,_,_,[],[],rfl,rfl,⟨rfl,True.intro,rfl⟩,rfl,rfl⟩
theorem av6 {H:Hp}:∀ {xs:List Tw}{vs:List V}{j:Nat}{x:Tw}{v:V},Tw.Ats H xs vs []→x.At H v []→Tw.Ats H (xs.set j x) (vs.set j v) []
 | [],vs,j,x,v,h,_=>by
   simp only [Tw.Ats] at h
   rw [h.1]
   simp [Tw.Ats]
 | y::ys,vs,j,x,v,h,hx=>by
   simp only [Tw.Ats] at h
   obtain ⟨w,ws,f,g,rfl,hfg,a,b⟩:=h
   obtain ⟨rfl,rfl⟩:=List.append_eq_nil_iff.mp hfg.symm
   cases j with
   | zero =>
     simp only [List.set_cons_zero,Tw.Ats]
     exact ⟨v,ws,[],[],rfl,rfl,hx,b⟩
   | succ j =>
     simp only [List.set_cons_succ,Tw.Ats]
     exact ⟨w,ws.set j v,[],[],rfl,rfl,a,av6 b hx⟩
theorem b43 {H:Hp}{x:Tw}{v:V}(h:x.At H v []):∀ n,Tw.Ats H (List.replicate n x) (List.replicate n v) []
 | 0=>by simp [Tw.Ats]
 | n+1=>by
   rw [List.replicate_succ,List.replicate_succ,Tw.Ats]
   exact ⟨v,_,[],[],rfl,rfl,h,b43 h n⟩
theorem ats_get0w {H:Hp}{xs:List Tw}{vs:List V}(h:Tw.Ats H xs vs []) {i:Nat}{v:V}(e:vs[i]?=some v):∃ x,xs[i]?=some x∧x.At H v []:=by
 obtain ⟨x,f,h1,h2,h3⟩:=h.get i v e
 have:f=[]:=List.eq_nil_iff_forall_not_mem.mpr fun a m=>by simpa using h3 a m
 subst this
 exact ⟨x,h1,h2⟩
def pairsT (E:Nat) (h:Sh) (i:Nat):List (Int×Int):=(h.2.take i).foldl (fun acc t=>acc.set t.1.toNat t.2) (List.replicate E h.1)
theorem at7 {E:Nat}{h:Sh}{i:Nat}{t:Tri}(e:h.2[i]?=some t):pairsT E h (i+1)=(pairsT E h i).set t.1.toNat t.2:=by
 unfold pairsT
 rw [List.take_add_one,e]
 simp
theorem ae6:∀ (ts:List Tri) (l:List (Int×Int)) (x:Int×Int),x∈ts.foldl (fun acc t=>acc.set t.1.toNat t.2) l→x∈l∨x∈ts.map (·.2)
 | [],l,x,h=>.inl h
 | t::ts,l,x,h=>by
   rw [List.foldl_cons] at h
   rcases ae6 ts _ x h with h | h
   · rcases List.mem_or_eq_of_mem_set h with h | h
     · exact .inl h
     · exact .inr (by rw [h]; simp)
   · exact .inr (by simp at h ⊢; exact .inr h)
theorem at8 {E:Nat}{h:Sh}{x:Int×Int}(hx:x∈pairsOf E h):x∈prs h:=by
 rcases ae6 h.2 _ x hx with hx | hx
 · rw [(List.mem_replicate.mp hx).2]
   simp [prs]
 · simp only [prs,List.mem_cons]
   exact .inr hx
theorem b44 {c:List Int}{p:Nat}{h:Sh}(hb:block c p=shI h) (hl:p+1+(gi c p).toNat≤c.length):gi c (p+1)=h.1.1∧gi c (p+2)=h.1.2∧2≤(gi c p).toNat:=by
 have l1:=ae5 hl
 rw [hb,shI_len] at l1
 have e0:=am6 hl (k:=0) (by omega)
 have e1:=am6 hl (k:=1) (by omega)
 rw [hb] at e0 e1
 exact ⟨(Option.some.inj e0).symm,(Option.some.inj e1).symm,by omega⟩
def ax5 (K:PySem.W.Frag):Sp:=fun vs H Q _=>∃ (a:Addr) (c:List Int) (p E:Nat) (h:Sh),vs=[.ref a,.int (p:Nat),.int (E:Nat)]∧H a=some (.lst (intsV c))∧c.length≤5000∧p<c.length∧0≤gi c p∧p+1+(gi c p).toNat≤c.length∧block c p=shI h∧asc E (-1) (h.2.map (·.1))∧E≤100∧∀ q acc H',H q=none→Same H H'→H' q=some (.lst acc)→Tw.Ats H' ((pairsOf E h).map pairW) acc []→Q (.ref q) H'
theorem a72 (T:Txt K mg t):FnOk P w K mg base CX0 2 t.a_pairs_in t.fd_pairs_in ["cells","place","count"] (ax5 K):=by
 have G_cells_in:=a64 (P:=P) (w:=w) (base:=base) T
 have G_others_in:=a62 (P:=P) (w:=w) (base:=base) T
 refine T.F_pairs_in.ok sc_pairs_in (fun vs H Q E h=>?_) (fun cdv A outer s H vs Q E hr h=>?_)
 · obtain ⟨a,c,p,E,h,rfl,_⟩:=h
   rfl
 · obtain ⟨a,c,p,En,h,rfl,ha,hcl,h1,h2,h3,hb,hasc,hE,q⟩:=h
   refine ⟨_,(@a03 _ _ _ _ _ (@a34 _ _ 3 _ _ _ _ sc_pairs_in.nd rfl (by walk_at "o") (@a31 _ _ _ _ _ _ _ _ au9 (@a24 _ _ _ _ (@a00 _ _ _ _ _ (@a80 _ _ _ _ _ (@a00 _ _ _ _ _ (@a30 _ _ _ _ _ _ _ (a04 K) (pv 0) (@a31 _ _ _ _ _ _ _ _ a25 (pv 1) (@a02 _ _ _ _)) (fun _ _=>rfl)) (@a00 _ _ _ _ _ (@a30 _ _ _ _ _ _ _ (a04 K) (pv 0) (@a31 _ _ _ _ _ _ _ _ a25 (pv 1) (@a02 _ _ _ _)) (fun _ _=>rfl)) (@a01 _) (by rfl)) (by rfl))) (@a01 _) (by rfl))) (pv 2)) (by rfl) (by walk_at "o"))
    (@a03 _ _ _ _ _ (@a98 _ _ _ _ _ _ _ _ PassesOwn.never rfl (a39 K (@a08 _ _ _ _ _ _ _ _ _ _ _ _ _ _ _ _ G_others_in (hr.mono (by omega)) rfl T.m_others_in T.F_others_in.kp T.b_others_in .nil a38 (@a00 _ _ _ _ _ (@a08 _ _ _ _ _ _ _ _ _ _ _ _ _ _ _ _ G_cells_in (hr.mono (by omega)) rfl T.m_cells_in T.F_cells_in.kp T.b_cells_in .nil a38 (@a00 _ _ _ _ _ (pv 0) (@a00 _ _ _ _ _ (pv 1) (@a01 _) (by rfl)) (by rfl)) (by decide) (by rfl) (by rfl)) (@a01 _) (by rfl)) (by decide) (by rfl) (by rfl))) (ab2 K (n:=3) rfl (a44 (a27 (i:=4) sc_pairs_in.nd rfl (by walk_at "o")) (a44 (a27 (i:=5) sc_pairs_in.nd rfl (by walk_at "o")) (a44 (a27 (i:=6) sc_pairs_in.nd rfl (by walk_at "o")) (@aa5 _))))) (@a07 _ _ _ (@ai5 _ _ _ _ _ _ (@a80 _ _ _ _ _ (@a00 _ _ _ _ _ (pv 5) (@a00 _ _ _ _ _ (pv 6) (@a01 _) (by rfl)) (by rfl))) (au3 (pv 3) (pv 4) ag4) (by rfl) (by rfl) (by rfl))) (by intro _; rfl))
    (@a07 _ _ _ (@a32 _ _ _ _ (pv 3))))),?_⟩
   have sl:(1000000:Nat)≤sizeLine:=le_line (Nat.le_refl _)
   obtain ⟨g1,g2,g3⟩:=b44 hb h3
   have hpos:=at3 hasc (by omega)
   walk_at "go"
   rw [show ((p:Nat):Int)+1=((p+1:Nat):Int) by omega]
   refine a29 (SqL.of ha) (a05 (iv_at (i:=p+1) (by omega))) ?_
   walk_at "run"
   rw [show ((p:Nat):Int)+2=((p+2:Nat):Int) by omega]
   refine a29 (SqL.of ha) (a05 (iv_at (i:=p+2) (by omega))) ?_
   walk_at "run"
   rw [g1,g2]
   intro p1 H1 f1 s1 e1
   walk_at "run"
   intro p2 H2 f2 s2 e2
   walk_at "run"
   refine ⟨p2,(En:Int),[.ref p1],rfl,rfl,e2,by omega,by omega,by simp only [List.length_cons,List.length_nil,Int.toNat_natCast]; omega,?_⟩
   rw [Int.toNat_natCast,show (List.replicate En [V.ref p1]).flatten=List.replicate En (V.ref p1) from by simp]
   intro q0 H3 f3 s3 e3
   walk_at "run"
   have s13:=s2.trans s3
   have s03:=s1.trans s13
   refine ⟨a,c,p,rfl,s03 _ _ ha,h1,h2,fun pb H4 f4 s4 e4=>?_⟩
   rw [hb] at e4
   walk_at "run"
   have hl2:h.2.length≤10000:=by
    have l1:=ae5 h3
    rw [hb,shI_len] at l1
    omega
   refine ⟨pb,h,rfl,e4,hl2,fun po acc H5 f5 s5 e5 ho=>?_⟩
   have al:acc.length=h.2.length:=by rw [ho.len,List.length_map]
   have s35:=s4.trans s5
   have s05:=s03.trans s35
   have f03:H q0=none:=(s1.trans s2).free f3
   refine ⟨po,rfl,⟨_,SqL.of e5⟩,a94 (K:=K) (a:=po) (xs:=acc) (fun i σ H'=>i≤h.2.length∧Same H H'∧H' po=some (.lst acc)∧Tw.Ats H' (h.2.map tripZ) acc []∧(∃ ps,H' q0=some (.lst ps)∧ps.length=En∧Tw.Ats H' ((pairsT En h i).map pairW) ps [])∧∃ y1 y2 y3,σ=[some (.ref a),some (.int (p:Nat)),some (.int (En:Nat)),some (.ref q0),y1,y2,y3]) ⟨Nat.zero_le _,s05,e5,ho,⟨_,s35 _ _ e3,by simp,?_⟩,_,_,_,rfl⟩ (fun i σ H' _ ⟨_,_,e,_⟩=>SqL.of e) ?_ ?_⟩
   · unfold pairsT
     simp only [List.take_zero,List.foldl_nil,List.map_replicate]
     exact b43 (pair_w.mpr ⟨p1,rfl,(s13.trans s35) _ _ e1,rfl⟩) En
   · rintro i x σ H6 hx ⟨hil,s6,e6,ho6,⟨ps,hq0,hpl,hps⟩,y1,y2,y3,rfl⟩
     obtain ⟨tx,ht1,ht2⟩:=ats_get0w ho6 hx
     rw [List.getElem?_map] at ht1
     obtain ⟨t3,ht3,rfl⟩:=Option.map_eq_some_iff.mp ht1
     obtain ⟨kk,rfl,hkk,_⟩:=trip_z.mp ht2
     have hi':i<h.2.length:=(List.getElem?_eq_some_iff.mp ht3).1
     obtain ⟨z1,z2⟩:=hpos t3.1 (List.mem_map.mpr ⟨t3,List.mem_of_getElem? ht3,rfl⟩)
     refine aj1 (SqT.of hkk) rfl ?_
     walk_at "run"
     intro p7 H7 f7 s7 e7
     walk_at "run"
     refine au8 (s7 _ _ hq0) (j:=t3.1.toNat) (by unfold ixN; rw [if_pos (by omega),if_pos (by omega)]) ?_
     have hpo:po≠q0:=(a06 ((s4 _ _ e3)) f5).symm
     have kq:Keep [] H7 (upd H7 q0 (.lst (ps.set t3.1.toNat (.ref p7)))):=Keep.upd (s7 _ _ hq0) (by simp)
     refine ⟨hi',(s6.trans s7).updNew f03,by rw [a37 hpo]; exact s7 _ _ e6,(ho6.same s7).mono kq,⟨_,a65,by simp [hpl],?_⟩,_,_,_,rfl⟩
     rw [at7 ht3,List.map_set]
     exact (av6 (hps.same s7) (pair_w.mpr ⟨p7,rfl,e7,rfl⟩)).mono kq
   · rintro σ H6 ⟨hil,s6,e6,ho6,⟨ps,hq0,hpl,hps⟩,y1,y2,y3,rfl⟩
     rw [al] at hps
     walk_at "run"
     refine q q0 ps H6 f03 s6 hq0 ?_
     unfold pairsT at hps
     rw [List.take_length] at hps
     exact hps
end Z
namespace Z
def cnd (c:List Int) (x:Int×Int):Bool:=decide (0≤x.1∧x.1<gi c 1∧0≤x.2∧x.2<gi c 0)
theorem b95 {c:List Int}{ps:List (Int×Int)}{i:Nat}{x:Int×Int}(e:ps[i]?=some x):blsV ((ps.take i).map (cnd c))++[V.bl (cnd c x)]=blsV ((ps.take (i+1)).map (cnd c)):=by
 rw [List.take_add_one,e]
 simp [blsV]
def b45 (K:PySem.W.Frag):Sp:=fun vs H Q _=>∃ (s a:Addr) (l c:List Int) (E:Nat),vs=[.ref s,.ref a,.int (E:Nat)]∧H s=some (.lst (intsV l))∧l.length≤5000∧H a=some (.lst (intsV c))∧4≤c.length∧∀ b H',(b=true↔WS c E l)→Same H H'→Q (.bl b) H'
theorem a51 (T:Txt K mg t):FnOk P w K mg base CX0 2 t.a_whole_shape t.fd_whole_shape ["shape","cells","count"] (b45 K):=by
 have G_others_in:=a62 (P:=P) (w:=w) (base:=base) T
 refine T.F_whole_shape.ok sc_whole_shape (fun vs H Q E h=>?_) (fun cdv A outer s H vs Q E hr h=>?_)
 · obtain ⟨s,a,l,c,E,rfl,_⟩:=h
   rfl
 · obtain ⟨s0,a,l,c,En,rfl,hs,hll,ha,hcl,q⟩:=h
   refine ⟨_,(@a03 _ _ _ _ _ (@a76 _ _ _ _ _ _ _ _ (@a09 _ _ _ _ _ _ _ _ ar6 (@a31 _ _ _ _ _ _ _ _ aa7 (@a26 _ _ _ _ _ _ _ _ _ (a36 K) (by rfl) T.z_len a54 (@a00 _ _ _ _ _ (pv 0) (@a01 _) (by rfl)) (by decide) (by decide) (by rfl) (by rfl)) (@a02 _ _ _ _)) (@a02 _ _ _ _) (nomark _)) (@a07 _ _ _ (@a32 _ _ _ _ (@ab9 _ _ _ _))) (@a35 _))
    (@a03 _ _ _ _ _ (@a34 _ _ 3 _ _ _ _ sc_whole_shape.nd rfl (by walk_at "o") (@ao2 _ _ _ _ _ _ ag0 (@a02 _ _ _ _)) (by rfl) (by walk_at "o"))
    (@a03 _ _ _ _ _ (@a34 _ _ 4 _ _ _ _ sc_whole_shape.nd rfl (by walk_at "o") (@a24 _ _ _ _ (@a00 _ _ _ _ _ (@a80 _ _ _ _ _ (@a00 _ _ _ _ _ (@a30 _ _ _ _ _ _ _ (a04 K) (pv 0) (@a02 _ _ _ _) (fun _ _=>rfl)) (@a00 _ _ _ _ _ (@a30 _ _ _ _ _ _ _ (a04 K) (pv 0) (@a02 _ _ _ _) (fun _ _=>rfl)) (@a01 _) (by rfl)) (by rfl))) (@a01 _) (by rfl))) (by rfl) (by walk_at "o"))
    (@a03 _ _ _ _ _ (@a98 _ _ _ _ _ _ _ _ PassesOwn.never rfl (a39 K (@a08 _ _ _ _ _ _ _ _ _ _ _ _ _ _ _ _ G_others_in (hr.mono (by omega)) rfl T.m_others_in T.F_others_in.kp T.b_others_in .nil a38 (@a00 _ _ _ _ _ (pv 0) (@a01 _) (by rfl)) (by decide) (by rfl) (by rfl))) (ab2 K (n:=3) rfl (a44 (a27 (i:=5) sc_whole_shape.nd rfl (by walk_at "o")) (a44 (a27 (i:=6) sc_whole_shape.nd rfl (by walk_at "o")) (a44 (a27 (i:=7) sc_whole_shape.nd rfl (by walk_at "o")) (@aa5 _))))) (@a03 _ _ _ _ _ (@a76 _ _ _ _ _ _ _ _ (@ac1 _ _ _ _ (ag3 ad3 ad3 (pv 3) (pv 5) (pv 2))) (@a07 _ _ _ (@a32 _ _ _ _ (@ab9 _ _ _ _))) (@a35 _))
     (@a03 _ _ _ _ _ (@a34 _ _ 3 _ _ _ _ sc_whole_shape.nd rfl (by walk_at "o") (pv 5) (by rfl) (by walk_at "o"))
     (@a07 _ _ _ (@aa9 _ _ _ _ (@ae0 _ K _ _ _ _ _ _ _ _ _ _ _ PySem.F.plainAttrs_list PySem.F.slot_list_append PySem.F.type_list_append a90 (pv 4) (@a00 _ _ _ _ _ (@a80 _ _ _ _ _ (@a00 _ _ _ _ _ (pv 6) (@a00 _ _ _ _ _ (pv 7) (@a01 _) (by rfl)) (by rfl))) (@a01 _) (by rfl)) (by rfl) (by rfl) (by rfl) (by rfl) (by rfl) (by rfl)) (by rfl))))) (by intro _; rfl))
    (@a07 _ _ _ (@a32 _ _ _ _ (@a26 _ _ _ _ _ _ _ _ _ (b01 K) (by rfl) T.z_all ba5 (@a00 _ _ _ _ _ (ab0 (Nt:=["saying","way"]) (Nf:=["cells"]) (caps:=[1]) rfl (a71 (sc:=defScope a49) rfl rfl (by decide +kernel) (by decide +kernel) (by decide +kernel) rfl (by decide +kernel)) (a39 K (pv 4)) (fun _ _ _ _ _=>(ab2 K (n:=2) rfl (a44 (a27 (i:=0) (show (["saying","way","cells"]:List Str).Nodup by decide +kernel) rfl (by walk_at "o")) (a44 (a27 (i:=1) (show (["saying","way","cells"]:List Str).Nodup by decide +kernel) rfl (by walk_at "o")) (@aa5 _))))) (fun _ _ _ _ _=>(@a88 _)) (fun _ _ _ _ _=>(@ba3 _ _ _ _ _ _ _ (ak4 ak2 ad3 (@a02 _ _ _ _) (pv 0) (@a30 _ _ _ _ _ _ _ (a04 K) (pv 2) (@a02 _ _ _ _) (fun _ _=>rfl))) (@ba2 _ _ _ _ _ (ak4 ak2 ad3 (@a02 _ _ _ _) (pv 1) (@a30 _ _ _ _ _ _ _ (a04 K) (pv 2) (@a02 _ _ _ _) (fun _ _=>rfl))))))) (@a01 _) (by rfl)) (by decide) (by decide) (by rfl) (by rfl)))))))),?_⟩
   have sl:(1000000:Nat)≤sizeLine:=le_line (Nat.le_refl _)
   walk_at "go"
   refine a47 (SqL.of hs) ?_
   walk_at "run"
   rw [intsV_len]
   refine ite2 (fun hc=>?_) (fun hc=>?_)
   · walk_at "run"
     refine q false H ⟨fun z=>(Bool.noConfusion z),fun ⟨h,e,_⟩=>?_⟩ (Same.refl _)
     exfalso
     have:=congrArg List.length e
     rw [shI_len] at this
     simp at hc
     omega
   have hl3:l.length % 3=2:=by
    simp at hc
    omega
   obtain ⟨h,rfl⟩:=bm7 hl3
   rw [shI_len] at hll
   walk_at "run"
   refine a29 (SqL.of hs) (v:=.int h.1.1) (a05 (j:=0) rfl) ?_
   walk_at "run"
   refine a29 (SqL.of hs) (v:=.int h.1.2) (a05 (j:=1) rfl) ?_
   walk_at "run"
   intro p1 H1 f1 s1 e1
   walk_at "run"
   intro q0 H2 f2 s2 e2
   walk_at "run"
   have s02:=s1.trans s2
   have f02:H q0=none:=s1.free f2
   refine ⟨s0,h,rfl,s02 _ _ hs,by omega,fun po acc H5 f5 s5 e5 ho=>?_⟩
   have al:acc.length=h.2.length:=by rw [ho.len,List.length_map]
   have s05:=s02.trans s5
   have no:∀ {b:Bool},b=false→¬ WS c En (shI h)→(b=true↔WS c En (shI h)):=fun hb hw=>⟨fun z=>(by rw [hb] at z; cases z),fun z=>absurd z hw⟩
   refine ⟨po,rfl,⟨_,SqL.of e5⟩,a94 (K:=K) (a:=po) (xs:=acc) (fun i σ H'=>i≤h.2.length∧Same H H'∧H' po=some (.lst acc)∧Tw.Ats H' (h.2.map tripZ) acc []∧(∃ ps,H' q0=some (.lst ps)∧ps.length=i+1∧Tw.Ats H' ((h.1::(h.2.take i).map (·.2)).map pairW) ps [])∧∃ (ah:Int) (y1 y2 y3:Option V),(asc En (-1) (h.2.map (·.1))↔asc En ah ((h.2.drop i).map (·.1)))∧σ=[some (.ref s0),some (.ref a),some (.int (En:Nat)),some (.int ah),some (.ref q0),y1,y2,y3]) ⟨Nat.zero_le _,s05,e5,ho,⟨_,s5 _ _ e2,rfl,?_⟩,-1,_,_,_,by simp,rfl⟩ (fun i σ H' _ ⟨_,_,e,_⟩=>SqL.of e) ?_ ?_⟩
   · simp only [List.take_zero,List.map_nil,List.map_cons,Tw.Ats]
     exact ⟨_,_,[],[],rfl,rfl,pair_w.mpr ⟨p1,rfl,(s2.trans s5) _ _ e1,rfl⟩,rfl,rfl⟩
   · rintro i x σ H6 hx ⟨hil,s6,e6,ho6,⟨ps,hq0,hpl,hps⟩,ah,y1,y2,y3,hasc,rfl⟩
     obtain ⟨tx,ht1,ht2⟩:=ats_get0w ho6 hx
     rw [List.getElem?_map] at ht1
     obtain ⟨t3,ht3,rfl⟩:=Option.map_eq_some_iff.mp ht1
     obtain ⟨kk,rfl,hkk,_⟩:=trip_z.mp ht2
     have hi':i<h.2.length:=(List.getElem?_eq_some_iff.mp ht3).1
     have hdr:(h.2.drop i).map (·.1)=t3.1::(h.2.drop (i+1)).map (·.1):=by
      rw [List.drop_eq_getElem_cons hi',(List.getElem?_eq_some_iff.mp ht3).2]
      rfl
     rw [hdr] at hasc
     have nWS:¬ (ah<t3.1∧t3.1<(En:Int))→¬ WS c En (shI h):=fun hn ⟨h',e',h1,_⟩=>by
      cases shI_inj e'
      have:=hasc.mp h1
      exact hn ⟨this.1,this.2.1⟩
     refine aj1 (SqT.of hkk) rfl ?_
     walk_at "run"
     refine ite2 (fun hc1=>?_) (fun hc1=>?_)
     · walk_at "run"
       refine ite2 (fun hc2=>?_) (fun hc2=>?_)
       · walk_at "run"
         exact q false H6 (no rfl (nWS fun z=>by simp at hc2; omega)) s6
       · have hd1:ah<t3.1:=of_decide_eq_true hc1
         have hd2:t3.1<(En:Int):=by simp at hc2; omega
         walk_at "run"
         refine al5 (SqL.of hq0) ?_
         walk_at "run"
         intro p7 H7 f7 s7 e7
         walk_at "run"
         refine a99 (s7 _ _ hq0) (by omega) ?_
         have hpo:po≠q0:=(a06 e2 f5).symm
         have kq:Keep [] H7 (upd H7 q0 (.lst (ps++[.ref p7]))):=Keep.upd (s7 _ _ hq0) (by simp)
         refine ⟨hi',(s6.trans s7).updNew f02,by rw [a37 hpo]; exact s7 _ _ e6,(ho6.same s7).mono kq,⟨_,a65,by simp [hpl],?_⟩,t3.1,_,_,_,?_,rfl⟩
         · rw [List.take_add_one,ht3]
           simp only [Option.toList_some,List.map_append,List.map_cons,List.map_nil,←List.cons_append]
           have:=Tw.Ats.snoc (gs:=[]) (hps.same s7) (pair_w.mpr ⟨p7,rfl,e7,rfl⟩)
           simp only [List.map_cons] at this
           exact this.mono kq
         · rw [hasc]
           simp [asc,hd1,hd2]
     · walk_at "run"
       exact q false H6 (no rfl (nWS fun z=>hc1 (decide_eq_true z.1))) s6
   · rintro σ H6 ⟨hil,s6,e6,ho6,⟨ps,hq0,hpl,hps⟩,ah,y1,y2,y3,hasc,rfl⟩
     rw [al,List.take_length] at hps
     rw [al,List.drop_length] at hasc
     rw [al] at hpl
     have hasc':asc En (-1) (h.2.map (·.1)):=hasc.mpr (by simp [asc])
     change Tw.Ats H6 ((prs h).map pairW) ps [] at hps
     have prl:(prs h).length=h.2.length+1:=by simp [prs]
     walk_at "run"
     refine ⟨⟨_,SqL.of hq0⟩,al4 (xs:=ps) (le_line (by omega)) (fun i acc2 H'=>H'=H6∧i≤(prs h).length∧acc2=blsV (((prs h).take i).map (cnd c))) ⟨rfl,Nat.zero_le _,rfl⟩ (fun i acc2 H' ⟨e,hi,ea⟩=>⟨by rw [ea]; simp [blsV]; omega,e ▸ SqL.of hq0⟩) ?_ ?_⟩
     · rintro i x acc2 H' hx ⟨rfl,hi,rfl⟩
       obtain ⟨tx,ht1,ht2⟩:=ats_get0w hps hx
       rw [List.getElem?_map] at ht1
       obtain ⟨y,hy,rfl⟩:=Option.map_eq_some_iff.mp ht1
       obtain ⟨kk,rfl,hkk,_⟩:=pair_w.mp ht2
       have hi':i<(prs h).length:=(List.getElem?_eq_some_iff.mp hy).1
       have fin:∀ b:Bool,b=cnd c y→H'=H'∧i+1≤(prs h).length∧blsV (((prs h).take i).map (cnd c))++[V.bl b]=blsV (((prs h).take (i+1)).map (cnd c)):=fun b hb=>⟨rfl,hi',by rw [hb]; exact b95 hy⟩
       have ha6:=s6 _ _ ha
       refine ⟨kk,_,_,rfl,SqT.of hkk,?_⟩
       walk_at "run"
       refine ite2 (fun hc1=>?_) (fun hc1=>?_)
       · walk_at "run"
         refine a29 (SqL.of ha6) (v:=.int (gi c 1)) (a05 (iv_at (i:=1) (by omega))) ?_
         walk_at "run"
         refine ite2 (fun hc2=>?_) (fun hc2=>?_)
         · walk_at "run"
           refine ite2 (fun hc3=>?_) (fun hc3=>?_)
           · walk_at "run"
             refine a29 (SqL.of ha6) (v:=.int (gi c 0)) (a05 (iv_at (i:=0) (by omega))) ?_
             walk_at "run"
             refine fin _ ?_
             simp at hc1 hc2 hc3
             simp [cnd,hc1,hc2,hc3]
           · walk_at "run"
             refine fin _ ?_
             simp at hc3
             simp [cnd]
             omega
         · walk_at "run"
           refine fin _ ?_
           simp at hc2
           simp [cnd]
           omega
       · walk_at "run"
         refine fin _ ?_
         simp at hc1
         simp [cnd]
         omega
     · rintro acc2 H' ⟨rfl,_,rfl⟩ p8 H8 f8 s8 e8
       rw [show ps.length=(prs h).length by omega,List.take_length] at e8
       refine bk3 (SqL.of e8) ?_
       refine q _ H8 ?_ (s6.trans s8)
       rw [List.all_map,List.all_eq_true]
       constructor
       · intro hz
         exact ⟨h,rfl,hasc',fun x hx=>of_decide_eq_true (hz x hx)⟩
       · rintro ⟨h',e',_,h2⟩ x hx
         cases shI_inj e'
         exact decide_eq_true (h2 x hx)
end Z
namespace Z
theorem av7 {l:List Nat}{j:Nat}(h:j+1<l.length):l.getD j 0∈l.dropLast:=by
 rw [List.getD_eq_getElem?_getD,List.getElem?_eq_getElem (by omega)]
 have:l.dropLast[j]?=some l[j]:=by
  rw [List.dropLast_eq_take,List.getElem?_take_of_lt (by omega),List.getElem?_eq_getElem (by omega)]
 exact List.mem_of_getElem? this
theorem natsV_at {ks:List Nat}{j:Nat}(h:j<ks.length):(natsV ks)[j]?=some (.int (ks.getD j 0:Nat)):=by
 simp only [natsV,List.getElem?_map,List.getElem?_eq_getElem h,List.getD_eq_getElem?_getD]
 rfl
def b46 (K:PySem.W.Frag):Sp:=fun vs H Q _=>∃ (a s1 s2:Addr) (c:List Int) (sh sy:List Nat) (E:Nat),vs=[.ref a,.ref s1,.ref s2,.int (E:Nat)]∧H a=some (.lst (intsV c))∧c.length≤5000∧4≤c.length∧1≤gi c 0∧H s1=some (.lst (natsV sh))∧H s2=some (.lst (natsV sy))∧bp c (gi c 2).toNat (4+(gi c 0).toNat)=some sh∧bp c (gi c 1).toNat (lastN sh)=some sy∧(∀ p∈sh.dropLast,WS c E (block c p))∧E≤100∧∀ b H',(b=true↔∀ i,i<(gi c 0).toNat→RM c sh sy E i)→Same H H'→Q (.bl b) H'
theorem a52 (T:Txt K mg t):FnOk P w K mg base CX0 3 t.a_whole_rooms t.fd_whole_rooms ["cells","shapes","sayings","count"] (b46 K):=by
 have G_pairs_in:=a72 (P:=P) (w:=w) (base:=base) T
 refine T.F_whole_rooms.ok sc_whole_rooms (fun vs H Q E h=>?_) (fun cdv A outer s H vs Q E hr h=>?_)
 · obtain ⟨a,s1,s2,c,sh,sy,E,rfl,_⟩:=h
   rfl
 · obtain ⟨a,s1,s2,c,sh,sy,En,rfl,ha,hcl,h4,h0,hs1,hs2,b1,b2,w1,hE,q⟩:=h
   refine ⟨_,(@a03 _ _ _ _ _ (@a98 _ _ _ _ _ _ _ _ PassesOwn.never rfl (b05 K rfl T.z_enumerate (@a00 _ _ _ _ _ (@a42 _ _ _ _ _ _ _ _ _ _ (a43 K) (pv 0) (@a40 _ _ _ (ac0 (by rfl) T.m_HEAD (by exact T.r_HEAD))) (@a40 _ _ _ (@a31 _ _ _ _ _ _ _ _ a25 (ac0 (by rfl) T.m_HEAD (by exact T.r_HEAD)) (@a30 _ _ _ _ _ _ _ (a04 K) (pv 0) (@a02 _ _ _ _) (fun _ _=>rfl))))) (@a01 _) (by rfl))) (ab2 K (n:=2) rfl (a44 (a27 (i:=4) sc_whole_rooms.nd rfl (by walk_at "o")) (a44 (a27 (i:=5) sc_whole_rooms.nd rfl (by walk_at "o")) (@aa5 _)))) (@a03 _ _ _ _ _ (@a76 _ _ _ _ _ _ _ _ (@ac1 _ _ _ _ (ag3 ak2 ad3 (@a02 _ _ _ _) (@a31 _ _ _ _ _ _ _ _ ac3 (pv 5) (@a02 _ _ _ _)) (@a30 _ _ _ _ _ _ _ (a04 K) (pv 0) (@a02 _ _ _ _) (fun _ _=>rfl)))) (@a07 _ _ _ (@a32 _ _ _ _ (@ab9 _ _ _ _))) (@a35 _))
    (@a07 _ _ _ (@a76 _ _ _ _ _ _ _ _ (@a09 _ _ _ _ _ _ _ _ af1 (@a31 _ _ _ _ _ _ _ _ aa7 (pv 5) (@a02 _ _ _ _)) (@a02 _ _ _ _) (nomark _)) (@a07 _ _ _ (@a98 _ _ _ _ _ _ _ _ PassesOwn.never rfl (a39 K (@a08 _ _ _ _ _ _ _ _ _ _ _ _ _ _ _ _ G_pairs_in (hr.mono (by omega)) rfl T.m_pairs_in T.F_pairs_in.kp T.b_pairs_in .nil a38 (@a00 _ _ _ _ _ (pv 0) (@a00 _ _ _ _ _ (@a30 _ _ _ _ _ _ _ (a04 K) (pv 1) (@a31 _ _ _ _ _ _ _ _ ac3 (pv 5) (@a02 _ _ _ _)) (fun _ _=>rfl)) (@a00 _ _ _ _ _ (pv 3) (@a01 _) (by rfl)) (by rfl)) (by rfl)) (by decide) (by rfl) (by rfl))) (ab2 K (n:=2) rfl (a44 (a27 (i:=6) sc_whole_rooms.nd rfl (by walk_at "o")) (a44 (a27 (i:=7) sc_whole_rooms.nd rfl (by walk_at "o")) (@aa5 _)))) (@a07 _ _ _ (@a76 _ _ _ _ _ _ _ _ (@PW.pt _ _ _ (@aa6 _ _ _ _ _ _ _ (@a09 _ _ _ _ _ _ _ _ ar6 (pv 7) (pv 4) (nomark _)) (@aa4 _ _ _ _ (@a09 _ _ _ _ _ _ _ _ ar6 (@a30 _ _ _ _ _ _ _ (a04 K) (pv 0) (@a30 _ _ _ _ _ _ _ (a04 K) (pv 2) (pv 6) (fun _ _=>rfl)) (fun _ _=>rfl)) (@a02 _ _ _ _) (nomark _))))) (@a07 _ _ _ (@a32 _ _ _ _ (@ab9 _ _ _ _))) (@a35 _))) (by intro _; rfl))) (@a35 _)))) (by intro _; rfl))
    (@a07 _ _ _ (@a32 _ _ _ _ (@ab9 _ _ _ _)))),?_⟩
   have l1:=bp_last b1
   have l2:=bp_last b2
   have n1:=bp_len b1
   have n2:=bp_len b2
   walk_at "go"
   refine a29 (SqL.of ha) (v:=.int (gi c 0)) (a05 (iv_at (i:=0) (by omega))) ?_
   walk_at "run"
   refine a95 (SqL.of ha) ?_
   rw [show cutV (intsV c) (some 4) (some (4+gi c 0))=intsV ((c.drop 4).take (gi c 0).toNat) from by
    rw [show (4:Int)+gi c 0=((4+(gi c 0).toNat:Nat):Int) by omega,show (some (4:Int))=some ((4:Nat):Int) from rfl,av5,Nat.add_sub_cancel_left]]
   intro pr H1 f1 t1 e1
   walk_at "run"
   have rl:((c.drop 4).take (gi c 0).toNat).length=(gi c 0).toNat:=by simp; omega
   have rg:∀ {i:Nat}{z:Int},((c.drop 4).take (gi c 0).toNat)[i]?=some z→i<(gi c 0).toNat∧z=gi c (4+i):=fun {i z} e=>by
    have hi:i<(gi c 0).toNat:=by rw [← rl]; exact (List.getElem?_eq_some_iff.mp e).1
    rw [List.getElem?_take_of_lt hi,List.getElem?_drop,b94 (by omega)] at e
    exact ⟨hi,(Option.some.inj e).symm⟩
   generalize hrw:(c.drop 4).take (gi c 0).toNat=rw' at e1 rl rg
   refine ⟨⟨_,SqL.of e1⟩,av0 (K:=K) (a:=pr) (xs:=intsV rw') (fun i σ H'=>i≤(gi c 0).toNat∧Same H1 H'∧(∀ i',i'<i→RM c sh sy En i')∧∃ y1 y2 y3 y4,σ=[some (.ref a),some (.ref s1),some (.ref s2),some (.int (En:Nat)),y1,y2,y3,y4]) ⟨Nat.zero_le _,Same.refl _,fun i' h=>absurd h (Nat.not_lt_zero _),_,_,_,_,rfl⟩ (fun i σ H' _ ⟨_,s',_⟩=>SqL.of (s' _ _ e1)) ?_ ?_⟩
   · rintro i x σ H2 pt H3 hx ⟨hil,t2,hrm,y1,y2,y3,y4,rfl⟩ t3 e3
     obtain ⟨z,hz,rfl⟩:=intsV_get hx
     obtain ⟨hi,rfl⟩:=rg hz
     have t03:=t1.trans (t2.trans t3)
     have ha3:=t03 _ _ ha
     have no:¬ RM c sh sy En i→((false=true)↔∀ i,i<(gi c 0).toNat→RM c sh sy En i):=fun hn=>⟨fun z=>(nomatch z),fun z=>absurd (z i hi) hn⟩
     refine aj1 (SqT.of e3) rfl ?_
     walk_at "run"
     refine ite2 (fun hc1=>?_) (fun hc1=>?_)
     · walk_at "run"
       refine a29 (SqL.of ha3) (v:=.int (gi c 2)) (a05 (iv_at (i:=2) (by omega))) ?_
       walk_at "run"
       refine ite2 (fun hc2=>?_) (fun hc2=>?_)
       · walk_at "run"
         exact q false H3 (no fun hn=>by have:=hn.2.1; simp at hc2; omega) t03
       have hg1:0≤gi c (4+i) / 2:=by simpa using hc1
       have hg2:gi c (4+i) / 2<gi c 2:=by simp at hc2; omega
       walk_at "run"
       have goOn:RM c sh sy En i→∀ i',i'<i+1→RM c sh sy En i':=fun hr i' hi'=>by
        by_cases h:i'=i
        · rw [h]; exact hr
        · exact hrm i' (by omega)
       refine ite2 (fun hc3=>?_) (fun hc3=>?_)
       · have hodd:gi c (4+i) % 2=1:=by simpa using hc3
         have hj:(gi c (4+i) / 2).toNat+1<sh.length:=by omega
         have hm:=av7 hj
         obtain ⟨p1,p2,p3⟩:=at2 b1 _ hm
         obtain ⟨h,hb,hasc,hpr⟩:=w1 _ hm
         walk_at "run"
         rw [show gi c (4+i) / 2=(((gi c (4+i) / 2).toNat:Nat):Int) by omega]
         refine a29 (SqL.of (t03 _ _ hs1)) (a05 (natsV_at (by omega))) ?_
         walk_at "run"
         refine ⟨a,c,_,En,h,rfl,ha3,hcl,p1,p2,by omega,hb,hasc,hE,fun q0 acc H4 f4 t4 e4 hat=>?_⟩
         have al:acc.length=(pairsOf En h).length:=by rw [hat.len,List.length_map]
         have rmI:RM c sh sy En i↔∀ x∈pairsOf En h,x.2=(i:Int)∧gi c (sy.getD x.1.toNat 0)=0:=by
          constructor
          · rintro ⟨_,_,h3⟩
            obtain ⟨h',e',h4⟩:=h3 hodd
            rw [hb] at e'
            cases shI_inj e'
            exact h4
          · intro h4
            exact ⟨hg1,hg2,fun _=>⟨h,hb,h4⟩⟩
         refine ⟨q0,rfl,⟨_,SqL.of e4⟩,a94 (K:=K) (a:=q0) (xs:=acc) (fun j σ H'=>H'=H4∧(∀ x∈(pairsOf En h).take j,x.2=(i:Int)∧gi c (sy.getD x.1.toNat 0)=0)∧∃ y3 y4,σ=[some (.ref a),some (.ref s1),some (.ref s2),some (.int (En:Nat)),some (.int (i:Nat)),some (.int (gi c (4+i))),y3,y4]) ⟨rfl,by simp,_,_,rfl⟩ (fun j σ H' _ ⟨e,_⟩=>e ▸ SqL.of e4) ?_ ?_⟩
         · rintro j x σ H' hx ⟨rfl,hall,y3,y4,rfl⟩
           obtain ⟨tx,ht1,ht2⟩:=ats_get0w hat hx
           rw [List.getElem?_map] at ht1
           obtain ⟨y,hy,rfl⟩:=Option.map_eq_some_iff.mp ht1
           obtain ⟨kk,rfl,hkk,_⟩:=pair_w.mp ht2
           have hym:=List.mem_of_getElem? hy
           obtain ⟨z1,z2,z3,z4⟩:=hpr y (at8 hym)
           have t04:=t03.trans t4
           refine aj1 (SqT.of hkk) rfl ?_
           walk_at "run"
           refine ite2 (fun hd=>?_) (fun hd=>?_)
           · walk_at "run"
             exact q false _ (no fun hn=>by have:=(rmI.mp hn y hym).1; simp [this] at hd) t04
           have hd':y.2=(i:Int):=by simpa using hd
           walk_at "run"
           rw [show y.1=((y.1.toNat:Nat):Int) by omega]
           have hk:y.1.toNat+1<sy.length:=by omega
           obtain ⟨u1,u2,u3⟩:=at2 b2 _ (av7 hk)
           refine a29 (SqL.of (t04 _ _ hs2)) (a05 (natsV_at (by omega))) ?_
           walk_at "run"
           refine a29 (SqL.of (t04 _ _ ha)) (a05 (iv_at u1)) ?_
           walk_at "run"
           refine ite2 (fun he=>?_) (fun he=>?_)
           · walk_at "run"
             exact q false _ (no fun hn=>by have:=(rmI.mp hn y hym).2; simp at he; exact he (by simpa using this)) t04
           walk_at "run"
           refine ⟨rfl,fun x hx=>?_,_,_,rfl⟩
           rw [List.take_add_one,hy] at hx
           rcases List.mem_append.mp hx with hx | hx
           · exact hall x hx
           · have:x=y:=by simpa using hx
             rw [this]
             exact ⟨hd',by simpa using he⟩
         · rintro σ H' ⟨rfl,hall,y3,y4,rfl⟩
           rw [al,List.take_length] at hall
           exact ⟨hi,t2.trans (t3.trans t4),goOn (rmI.mpr hall),_,_,_,_,rfl⟩
       · have heven:¬ gi c (4+i) % 2=1:=by simpa using hc3
         walk_at "run"
         exact ⟨hi,t2.trans t3,goOn ⟨hg1,hg2,fun z=>absurd z heven⟩,_,_,_,_,rfl⟩
     · walk_at "run"
       exact q false H3 (no fun hn=>by have:=hn.1; simp at hc1; omega) t03
   · rintro σ H2 ⟨_,t2,hrm,y1,y2,y3,y4,rfl⟩
     rw [intsV_len,rl] at hrm
     walk_at "run"
     exact q true H2 ⟨fun _=>hrm,fun _=>rfl⟩ (t1.trans t2)
end Z
namespace Z
theorem lastN_at {l:List Nat}(h:0<l.length):atI (natsV l) (-1)=some (.int (lastN l:Nat)):=by
 obtain ⟨r,x,rfl⟩:∃ r x,l=r++[x]:=⟨l.dropLast,l.getLast (by intro z; rw [z] at h; simp at h),(List.dropLast_concat_getLast _).symm⟩
 rw [← aa0,b72]
 simp [lastN]
theorem ag1 (l:List Nat) (h:0<l.length):cutV (natsV l) none (some (-1))=natsV l.dropLast:=by
 obtain ⟨r,x,rfl⟩:∃ r x,l=r++[x]:=⟨l.dropLast,l.getLast (by intro z; rw [z] at h; simp at h),(List.dropLast_concat_getLast _).symm⟩
 rw [← aa0,(b82 (natsV r) _).1]
 simp
def b96 (K:PySem.W.Frag):Sp:=fun vs H Q _=>∃ (e t a:Addr) (es ts:List V) (c:List Int),vs=[.ref e,.ref t,.ref a]∧H e=some (.lst es)∧es.length≤100∧H t=some (.lst ts)∧H a=some (.lst (intsV c))∧c.length≤5000∧∀ b H',(b=true↔VVc c es.length ts.length)→Same H H'→Q (.bl b) H'
theorem a59 (T:Txt K mg t):FnOk P w K mg base CX0 4 t.a_whole_pack t.fd_whole_pack ["events","texts","cells"] (b96 K):=by
 have G_block_places:=a41 (P:=P) (w:=w) (base:=base) T
 have G_cells_in:=a64 (P:=P) (w:=w) (base:=base) T
 have G_whole_rooms:=a52 (P:=P) (w:=w) (base:=base) T
 have G_whole_shape:=a51 (P:=P) (w:=w) (base:=base) T
 refine T.F_whole_pack.ok sc_whole_pack (fun vs H Q E h=>?_) (fun cdv A outer s H vs Q E hr h=>?_)
 · obtain ⟨e,t,a,es,ts,c,rfl,_⟩:=h
   rfl
 · obtain ⟨ee,te,a,es,ts,c,rfl,hee,hel,hte,ha,hcl,q⟩:=h
   refine ⟨_,(@a03 _ _ _ _ _ (@a76 _ _ _ _ _ _ _ _ (@PW.pt _ _ _ (@aa6 _ _ _ _ _ _ _ (@a09 _ _ _ _ _ _ _ _ ad3 (@a26 _ _ _ _ _ _ _ _ _ (a36 K) (by rfl) T.z_len a54 (@a00 _ _ _ _ _ (pv 2) (@a01 _) (by rfl)) (by decide) (by decide) (by rfl) (by rfl)) (ac0 (by rfl) T.m_HEAD (by exact T.r_HEAD)) (nomark _)) (@aa6 _ _ _ _ _ _ _ (@ac1 _ _ _ _ (ag3 ak2 ak2 (@a02 _ _ _ _) (@a30 _ _ _ _ _ _ _ (a04 K) (pv 2) (@a02 _ _ _ _) (fun _ _=>rfl)) (ac0 (by rfl) T.m_MOST_STANDINGS (by exact T.r_MOST_STANDINGS)))) (@aa4 _ _ _ _ (@ac1 _ _ _ _ (ag3 ak2 ad3 (@a02 _ _ _ _) (@a30 _ _ _ _ _ _ _ (a04 K) (pv 2) (@a02 _ _ _ _) (fun _ _=>rfl)) (@a30 _ _ _ _ _ _ _ (a04 K) (pv 2) (@a02 _ _ _ _) (fun _ _=>rfl)))))))) (@a07 _ _ _ (@a32 _ _ _ _ (@ab9 _ _ _ _))) (@a35 _))
    (@a03 _ _ _ _ _ (@a34 _ _ 3 _ _ _ _ sc_whole_pack.nd rfl (by walk_at "o") (@a08 _ _ _ _ _ _ _ _ _ _ _ _ _ _ _ _ G_block_places (hr.mono (by omega)) rfl T.m_block_places T.F_block_places.kp T.b_block_places .nil a38 (@a00 _ _ _ _ _ (pv 2) (@a00 _ _ _ _ _ (@a31 _ _ _ _ _ _ _ _ a25 (ac0 (by rfl) T.m_HEAD (by exact T.r_HEAD)) (@a30 _ _ _ _ _ _ _ (a04 K) (pv 2) (@a02 _ _ _ _) (fun _ _=>rfl))) (@a00 _ _ _ _ _ (@a30 _ _ _ _ _ _ _ (a04 K) (pv 2) (@a02 _ _ _ _) (fun _ _=>rfl)) (@a01 _) (by rfl)) (by rfl)) (by rfl)) (by decide) (by rfl) (by rfl)) (by rfl) (by walk_at "o"))
    (@a03 _ _ _ _ _ (@a76 _ _ _ _ _ _ _ _ (@a09 _ _ _ _ _ _ _ _ af4 (pv 3) (@a89 _ _ _) (nomark _)) (@a07 _ _ _ (@a32 _ _ _ _ (@ab9 _ _ _ _))) (@a35 _))
    (@a03 _ _ _ _ _ (@a34 _ _ 4 _ _ _ _ sc_whole_pack.nd rfl (by walk_at "o") (@a08 _ _ _ _ _ _ _ _ _ _ _ _ _ _ _ _ G_block_places (hr.mono (by omega)) rfl T.m_block_places T.F_block_places.kp T.b_block_places .nil a38 (@a00 _ _ _ _ _ (pv 2) (@a00 _ _ _ _ _ (@a30 _ _ _ _ _ _ _ (a04 K) (pv 3) (@ao2 _ _ _ _ _ _ ag0 (@a02 _ _ _ _)) (fun _ _=>rfl)) (@a00 _ _ _ _ _ (@a30 _ _ _ _ _ _ _ (a04 K) (pv 2) (@a02 _ _ _ _) (fun _ _=>rfl)) (@a01 _) (by rfl)) (by rfl)) (by rfl)) (by decide) (by rfl) (by rfl)) (by rfl) (by walk_at "o"))
    (@a03 _ _ _ _ _ (@a76 _ _ _ _ _ _ _ _ (@PW.pt _ _ _ (@aa6 _ _ _ _ _ _ _ (@a09 _ _ _ _ _ _ _ _ af4 (pv 4) (@a89 _ _ _) (nomark _)) (@aa4 _ _ _ _ (@a09 _ _ _ _ _ _ _ _ ar6 (@a30 _ _ _ _ _ _ _ (a04 K) (pv 4) (@ao2 _ _ _ _ _ _ ag0 (@a02 _ _ _ _)) (fun _ _=>rfl)) (@a26 _ _ _ _ _ _ _ _ _ (a36 K) (by rfl) T.z_len a54 (@a00 _ _ _ _ _ (pv 2) (@a01 _) (by rfl)) (by decide) (by decide) (by rfl) (by rfl)) (nomark _))))) (@a07 _ _ _ (@a32 _ _ _ _ (@ab9 _ _ _ _))) (@a35 _))
    (@a03 _ _ _ _ _ (@a98 _ _ _ _ _ _ _ _ PassesOwn.never rfl (a39 K (@a42 _ _ _ _ _ _ _ _ _ _ (a43 K) (pv 3) (@a79 _) (@a40 _ _ _ (@ao2 _ _ _ _ _ _ ag0 (@a02 _ _ _ _))))) (a27 (i:=5) sc_whole_pack.nd rfl (by walk_at "o")) (@a07 _ _ _ (@a76 _ _ _ _ _ _ _ _ (@ac1 _ _ _ _ (ad5 K (@a08 _ _ _ _ _ _ _ _ _ _ _ _ _ _ _ _ G_whole_shape (hr.mono (by omega)) rfl T.m_whole_shape T.F_whole_shape.kp T.b_whole_shape .nil a38 (@a00 _ _ _ _ _ (@a08 _ _ _ _ _ _ _ _ _ _ _ _ _ _ _ _ G_cells_in (hr.mono (by omega)) rfl T.m_cells_in T.F_cells_in.kp T.b_cells_in .nil a38 (@a00 _ _ _ _ _ (pv 2) (@a00 _ _ _ _ _ (pv 5) (@a01 _) (by rfl)) (by rfl)) (by decide) (by rfl) (by rfl)) (@a00 _ _ _ _ _ (pv 2) (@a00 _ _ _ _ _ (@a26 _ _ _ _ _ _ _ _ _ (a36 K) (by rfl) T.z_len a54 (@a00 _ _ _ _ _ (pv 0) (@a01 _) (by rfl)) (by decide) (by decide) (by rfl) (by rfl)) (@a01 _) (by rfl)) (by rfl)) (by rfl)) (by decide) (by rfl) (by rfl)) (fun _=>rfl))) (@a07 _ _ _ (@a32 _ _ _ _ (@ab9 _ _ _ _))) (@a35 _))) (by intro _; rfl))
    (@a03 _ _ _ _ _ (@a98 _ _ _ _ _ _ _ _ PassesOwn.never rfl (a39 K (@a42 _ _ _ _ _ _ _ _ _ _ (a43 K) (pv 4) (@a79 _) (@a40 _ _ _ (@ao2 _ _ _ _ _ _ ag0 (@a02 _ _ _ _))))) (a27 (i:=5) sc_whole_pack.nd rfl (by walk_at "o")) (@a07 _ _ _ (@a76 _ _ _ _ _ _ _ _ (@ac1 _ _ _ _ (ad5 K (@a26 _ _ _ _ _ _ _ _ _ (b01 K) (by rfl) T.z_all ba5 (@a00 _ _ _ _ _ (ab0 (Nt:=["number"]) (Nf:=["texts"]) (caps:=[1]) rfl (a71 (sc:=defScope a61) rfl rfl (by decide +kernel) (by decide +kernel) (by decide +kernel) rfl (by decide +kernel)) (a39 K (@a08 _ _ _ _ _ _ _ _ _ _ _ _ _ _ _ _ G_cells_in (hr.mono (by omega)) rfl T.m_cells_in T.F_cells_in.kp T.b_cells_in .nil a38 (@a00 _ _ _ _ _ (pv 2) (@a00 _ _ _ _ _ (pv 5) (@a01 _) (by rfl)) (by rfl)) (by decide) (by rfl) (by rfl))) (fun _ _ _ _ _=>(a27 (i:=0) (show (["number","texts"]:List Str).Nodup by decide +kernel) rfl (by walk_at "o"))) (fun _ _ _ _ _=>(@a88 _)) (fun _ _ _ _ _=>(ak4 ak2 ad3 (@a02 _ _ _ _) (pv 0) (@a26 _ _ _ _ _ _ _ _ _ (a36 K) (by rfl) T.z_len a54 (@a00 _ _ _ _ _ (pv 1) (@a01 _) (by rfl)) (by decide) (by decide) (by rfl) (by rfl))))) (@a01 _) (by rfl)) (by decide) (by decide) (by rfl) (by rfl)) (fun _=>rfl))) (@a07 _ _ _ (@a32 _ _ _ _ (@ab9 _ _ _ _))) (@a35 _))) (by intro _; rfl))
    (@a07 _ _ _ (@a32 _ _ _ _ (@a08 _ _ _ _ _ _ _ _ _ _ _ _ _ _ _ _ G_whole_rooms (hr.mono (by omega)) rfl T.m_whole_rooms T.F_whole_rooms.kp T.b_whole_rooms .nil a38 (@a00 _ _ _ _ _ (pv 2) (@a00 _ _ _ _ _ (pv 3) (@a00 _ _ _ _ _ (pv 4) (@a00 _ _ _ _ _ (@a26 _ _ _ _ _ _ _ _ _ (a36 K) (by rfl) T.z_len a54 (@a00 _ _ _ _ _ (pv 0) (@a01 _) (by rfl)) (by decide) (by decide) (by rfl) (by rfl)) (@a01 _) (by rfl)) (by rfl)) (by rfl)) (by rfl)) (by decide) (by rfl) (by rfl))))))))))),?_⟩
   have no:∀ {b:Bool},b=false→¬ VVc c es.length ts.length→(b=true↔VVc c es.length ts.length):=fun hb hw=>⟨fun z=>(by rw [hb] at z; cases z),fun z=>absurd z hw⟩
   walk_at "go"
   refine a47 (SqL.of ha) ?_
   walk_at "run"
   rw [intsV_len]
   refine ite2 (fun hc=>?_) (fun hc=>?_)
   · walk_at "run"
     exact q false H (no rfl fun z=>by have:=z.1; simp at hc; omega) (Same.refl _)
   have h4:4≤c.length:=by simp at hc; omega
   walk_at "run"
   refine a29 (SqL.of ha) (v:=.int (gi c 0)) (a05 (iv_at (i:=0) (by omega))) ?_
   walk_at "run"
   refine ite2 (fun hc1=>?_) (fun hc1=>?_)
   · walk_at "run"
     refine ite2 (fun hc2=>?_) (fun hc2=>?_)
     · walk_at "run"
       exact q false H (no rfl fun z=>by have:=z.2.1.2; simp at hc2; omega) (Same.refl _)
     have g1:1≤gi c 0:=by simpa using hc1
     have g2:gi c 0≤2000:=by simp at hc2; omega
     walk_at "run"
     refine a29 (SqL.of ha) (v:=.int (gi c 3)) (a05 (iv_at (i:=3) (by omega))) ?_
     walk_at "run"
     refine ite2 (fun hc3=>?_) (fun hc3=>?_)
     · walk_at "run"
       refine a29 (SqL.of ha) (v:=.int (gi c 1)) (a05 (iv_at (i:=1) (by omega))) ?_
       walk_at "run"
       refine ite2 (fun hc4=>?_) (fun hc4=>?_)
       · walk_at "run"
         exact q false H (no rfl fun z=>by have:=z.2.2.1.2; simp at hc4; omega) (Same.refl _)
       have g3:0≤gi c 3:=by simpa using hc3
       have g4:gi c 3<gi c 1:=by simp at hc4; omega
       walk_at "run"
       refine a29 (SqL.of ha) (v:=.int (gi c 0)) (a05 (iv_at (i:=0) (by omega))) ?_
       walk_at "run"
       refine a29 (SqL.of ha) (v:=.int (gi c 2)) (a05 (iv_at (i:=2) (by omega))) ?_
       walk_at "run"
       rw [show (4:Int)+gi c 0=((4+(gi c 0).toNat:Nat):Int) by omega]
       refine ⟨a,c,_,_,rfl,ha,hcl,fun H1 s1 hb=>?_,fun p1 sh H1 f1 s1 b1 e1=>?_⟩
       · walk_at "run"
         refine ap4 rfl ?_
         walk_at "run"
         exact q false H1 (no rfl fun ⟨_,_,_,sh,sy,z,_⟩=>by rw [hb] at z; cases z) s1
       have n1:=bp_len b1
       have l1:=bp_last b1
       walk_at "run"
       refine aj0 (by simp) ?_
       walk_at "run"
       refine a29 (SqL.of e1) (lastN_at (by omega)) ?_
       walk_at "run"
       refine a29 (SqL.of (s1 _ _ ha)) (v:=.int (gi c 1)) (a05 (iv_at (i:=1) (by omega))) ?_
       walk_at "run"
       refine ⟨a,c,_,_,rfl,s1 _ _ ha,hcl,fun H2 s2 hb=>?_,fun p2 sy H2 f2 s2 b2 e2=>?_⟩
       · walk_at "run"
         refine ap4 rfl ?_
         walk_at "run"
         refine q false H2 (no rfl fun ⟨_,_,_,sh',sy,z,z2,_⟩=>?_) (s1.trans s2)
         rw [b1] at z
         cases z
         rw [hb] at z2
         cases z2
       have n2:=bp_len b2
       have l2:=bp_last b2
       have uq:∀ sh' sy',bp c (gi c 2).toNat (4+(gi c 0).toNat)=some sh'→bp c (gi c 1).toNat (lastN sh')=some sy'→sh'=sh∧sy'=sy:=fun sh' sy' x1 x2=>by
        rw [b1] at x1
        cases x1
        rw [b2] at x2
        cases x2
        exact ⟨rfl,rfl⟩
       have s02:=s1.trans s2
       walk_at "run"
       refine aj0 (by simp) ?_
       walk_at "run"
       refine a29 (SqL.of e2) (lastN_at (by omega)) ?_
       walk_at "run"
       refine a47 (SqL.of (s02 _ _ ha)) ?_
       walk_at "run"
       rw [intsV_len]
       refine ite2 (fun hc5=>?_) (fun hc5=>?_)
       · walk_at "run"
         refine q false H2 (no rfl fun ⟨_,_,_,sh',sy',z,z2,z3,_⟩=>?_) s02
         obtain ⟨rfl,rfl⟩:=uq _ _ z z2
         simp [z3] at hc5
       have hlast:lastN sy=c.length:=by simp at hc5; omega
       walk_at "run"
       refine a95 (SqL.of (s2 _ _ e1)) ?_
       rw [ag1 sh (by omega)]
       intro p3 H3 f3 s3 e3
       walk_at "run"
       have s03:=s02.trans s3
       refine ⟨⟨_,SqL.of e3⟩,a94 (K:=K) (a:=p3) (xs:=natsV sh.dropLast) (fun i σ H'=>Same H3 H'∧(∀ p∈sh.dropLast.take i,WS c es.length (block c p))∧∃ y,σ=[some (.ref ee),some (.ref te),some (.ref a),some (.ref p1),some (.ref p2),y]) ⟨Same.refl _,by simp,_,rfl⟩ (fun i σ H' _ ⟨s',_⟩=>SqL.of (s' _ _ e3)) ?_ ?_⟩
       · rintro i x σ H4 hx ⟨s4,hall,y,rfl⟩
         obtain ⟨k,hk,rfl⟩:∃ k:Nat,sh.dropLast[i]?=some k∧x=.int (k:Nat):=by
          simp only [natsV,List.getElem?_map] at hx
          obtain ⟨k,h1,h2⟩:=Option.map_eq_some_iff.mp hx
          exact ⟨k,h1,h2.symm⟩
         have hkm:=List.mem_of_getElem? hk
         obtain ⟨p1',p2',p3'⟩:=at2 b1 _ hkm
         have s04:=s03.trans s4
         walk_at "run"
         refine ⟨a,c,k,rfl,s04 _ _ ha,p1',p2',fun p5 H5 f5 s5 e5=>?_⟩
         walk_at "run"
         have s05:=s04.trans s5
         refine a47 (SqL.of (s05 _ _ hee)) ?_
         walk_at "run"
         have bl:=ae5 (c:=c) (q:=k) (by omega)
         refine ⟨p5,a,block c k,c,es.length,rfl,e5,by omega,s05 _ _ ha,h4,fun b H6 hb s6=>?_⟩
         walk_at "run"
         cases b with
         | false =>
           refine au7 ?_
           walk_at "run"
           refine q false H6 (no rfl fun ⟨_,_,_,sh',sy',z,z2,z3,z4,_⟩=>?_) (s05.trans s6)
           obtain ⟨rfl,rfl⟩:=uq _ _ z z2
           exact absurd (hb.mpr (z4 k hkm)) (by simp)
         | true =>
           refine au6 ?_
           walk_at "run"
           refine ⟨s4.trans (s5.trans s6),fun p hp=>?_,_,rfl⟩
           rw [List.take_add_one,hk] at hp
           rcases List.mem_append.mp hp with hp | hp
           · exact hall p hp
           · have:p=k:=by simpa using hp
             rw [this]
             exact hb.mp rfl
       rintro σ H4 ⟨s4,w1,y,rfl⟩
       rw [a28,List.take_length] at w1
       walk_at "run"
       have s24:=s3.trans s4
       refine a95 (SqL.of (s24 _ _ e2)) ?_
       rw [ag1 sy (by omega)]
       intro p5 H5 f5 s5 e5
       walk_at "run"
       have s25:=s24.trans s5
       have s05:=s02.trans s25
       refine ⟨⟨_,SqL.of e5⟩,a94 (K:=K) (a:=p5) (xs:=natsV sy.dropLast) (fun i σ H'=>Same H5 H'∧(∀ p∈sy.dropLast.take i,WY c ts.length p)∧∃ y,σ=[some (.ref ee),some (.ref te),some (.ref a),some (.ref p1),some (.ref p2),y]) ⟨Same.refl _,by simp,_,rfl⟩ (fun i σ H' _ ⟨s',_⟩=>SqL.of (s' _ _ e5)) ?_ ?_⟩
       · rintro i x σ H6 hx ⟨s6,hall,y,rfl⟩
         obtain ⟨k,hk,rfl⟩:∃ k:Nat,sy.dropLast[i]?=some k∧x=.int (k:Nat):=by
          simp only [natsV,List.getElem?_map] at hx
          obtain ⟨k,h1,h2⟩:=Option.map_eq_some_iff.mp hx
          exact ⟨k,h1,h2.symm⟩
         have hkm:=List.mem_of_getElem? hk
         obtain ⟨p1',p2',p3'⟩:=at2 b2 _ hkm
         have s06:=s05.trans s6
         walk_at "run"
         refine ⟨a,c,k,rfl,s06 _ _ ha,p1',p2',fun p7 H7 f7 s7 e7=>?_⟩
         have bl:=ae5 (c:=c) (q:=k) (by omega)
         have s07:=s06.trans s7
         refine ⟨p7,rfl,⟨_,SqL.of e7⟩,a93 (xs:=intsV (block c k)) (le_line (by rw [intsV_len]; omega)) (fun j acc H'=>H'=H7∧j≤(block c k).length∧acc=blsV (((block c k).take j).map fun z=>decide (0≤z∧z<(ts.length:Int)))) ⟨rfl,Nat.zero_le _,rfl⟩ (fun j acc H' ⟨e,hj,ea⟩=>⟨by rw [ea]; simp [blsV]; omega,e ▸ SqL.of e7⟩) ?_ ?_⟩
         · rintro j x acc H' hx ⟨rfl,hj,rfl⟩
           obtain ⟨z,hz,rfl⟩:=intsV_get hx
           have fin:∀ b:Bool,b=decide (0≤z∧z<(ts.length:Int))→H'=H'∧j+1≤(block c k).length∧blsV (((block c k).take j).map fun z=>decide (0≤z∧z<(ts.length:Int)))++[V.bl b]=blsV (((block c k).take (j+1)).map fun z=>decide (0≤z∧z<(ts.length:Int))):=fun b hb=>⟨rfl,(List.getElem?_eq_some_iff.mp hz).1,by rw [hb,List.take_add_one,hz]; simp [blsV]⟩
           walk_at "run"
           refine ite2 (fun hd1=>?_) (fun hd1=>?_)
           · walk_at "run"
             refine a47 (SqL.of (s07 _ _ hte)) ?_
             walk_at "run"
             refine fin _ ?_
             simp at hd1
             simp [hd1]
           · walk_at "run"
             refine fin _ ?_
             simp at hd1
             simp
             omega
         · rintro acc H' ⟨rfl,_,rfl⟩ p8 H8 f8 s8 e8
           rw [intsV_len,List.take_length] at e8
           walk_at "run"
           refine bk3 (SqL.of e8) ?_
           walk_at "run"
           have hall2:(((block c k).map fun z=>decide (0≤z∧z<(ts.length:Int))).all id=true)↔WY c ts.length k:=by
            rw [List.all_map,List.all_eq_true]
            exact ⟨fun hz z hzm=>of_decide_eq_true (hz z hzm),fun hz z hzm=>decide_eq_true (hz z hzm)⟩
           cases hb:((block c k).map fun z=>decide (0≤z∧z<(ts.length:Int))).all id with
           | false =>
             refine au7 ?_
             walk_at "run"
             refine q false H8 (no rfl fun ⟨_,_,_,sh',sy',z,z2,z3,z4,z5,_⟩=>?_) (s07.trans s8)
             obtain ⟨rfl,rfl⟩:=uq _ _ z z2
             have:=hall2.mpr (z5 k hkm)
             rw [hb] at this
             cases this
           | true =>
             refine au6 ?_
             walk_at "run"
             refine ⟨s6.trans (s7.trans s8),fun p hp=>?_,_,rfl⟩
             rw [List.take_add_one,hk] at hp
             rcases List.mem_append.mp hp with hp | hp
             · exact hall p hp
             · have:p=k:=by simpa using hp
               rw [this]
               exact hall2.mp hb
       rintro σ H6 ⟨s6,w2,y,rfl⟩
       rw [a28,List.take_length] at w2
       have s06:=s05.trans s6
       walk_at "run"
       refine a47 (SqL.of (s06 _ _ hee)) ?_
       walk_at "run"
       refine ⟨a,p1,p2,c,sh,sy,es.length,rfl,s06 _ _ ha,hcl,h4,g1,(s2.trans (s25.trans s6)) _ _ e1,(s25.trans s6) _ _ e2,b1,b2,w1,hel,fun b H7 hb s7=>?_⟩
       refine q b H7 ⟨fun z=>?_,fun ⟨_,_,_,sh',sy',z,z2,z3,z4,z5,z6⟩=>?_⟩ (s06.trans s7)
       · exact ⟨h4,⟨g1,g2⟩,⟨g3,g4⟩,sh,sy,b1,b2,hlast,w1,w2,hb.mp z⟩
       · obtain ⟨rfl,rfl⟩:=uq _ _ z z2
         exact hb.mpr z6
     · walk_at "run"
       exact q false H (no rfl fun z=>by have:=z.2.2.1.1; simp at hc3; omega) (Same.refl _)
   · walk_at "run"
     exact q false H (no rfl fun z=>by have:=z.2.1.1; simp at hc1; omega) (Same.refl _)
end Z
def zs (l:List Nat):List Int:=l.map fun n=>((n:Nat):Int)
theorem a91 (l:List Nat):(zs l).length=l.length:=by simp [zs]
theorem aa3 (l:List Nat):natsV l=intsV (zs l):=by simp [natsV,intsV,zs]
theorem ab5 {l:List Nat}{i n:Nat}(h:l[i]?=some n):Z.gi (zs l) i=(n:Nat):=by
 unfold Z.gi zs
 rw [List.getD_eq_getElem?_getD,List.getElem?_map,h]
 rfl
def offR:Nat→List (List Nat)→List Nat
 | p,[]=>[p]
 | p,l::ls=>p::offR (p+(1+l.length)) ls
theorem a55 (l:List Nat) (ls:List (List Nat)):blocks (l::ls)=l.length::(l++blocks ls):=by simp [blocks]
theorem ah6:∀ {ls:List (List Nat)}{c pre post:List Nat},c=pre++(blocks ls++post)→Z.bp (zs c) ls.length pre.length=some (offR pre.length ls)
 | [],c,pre,post,h=>by
   show (if pre.length≤(zs c).length then some [pre.length] else none)=_
   rw [if_pos (by rw [a91,h]; simp)]
   rfl
 | l::ls,c,pre,post,h=>by
   have hg:c[pre.length]?=some l.length:=by rw [h,List.getElem?_append_right (Nat.le_refl _),Nat.sub_self,a55]; rfl
   have hlt:pre.length<c.length:=(List.getElem?_eq_some_iff.mp hg).1
   have ih:=ah6 (ls:=ls) (c:=c) (pre:=pre++(l.length::l)) (post:=post) (by rw [h,a55]; simp)
   rw [List.length_cons,Z.bp_go (by rw [a91,ab5 hg]; omega),ab5 hg,Int.toNat_natCast,show pre.length+(1+l.length)=(pre++(l.length::l)).length by simp; omega,ih]
   rw [show (pre++(l.length::l)).length=pre.length+(1+l.length) by simp; omega]
   rfl
theorem ae7:∀ (ls:List (List Nat)) (p:Nat),Z.lastN (offR p ls)=p+(blocks ls).length
 | [],p=>by simp [offR,Z.lastN,blocks]
 | [l],p=>by simp [offR,Z.lastN,blocks]; omega
 | l::m::ls,p=>by
   have ih:=ae7 (m::ls) (p+(1+l.length))
   show Z.lastN (p::(p+(1+l.length))::offR (p+(1+l.length)+(1+m.length)) ls)=_
   rw [Z.lastN_cons]
   rw [show offR (p+(1+l.length)) (m::ls)=(p+(1+l.length))::offR (p+(1+l.length)+(1+m.length)) ls from rfl] at ih
   rw [ih,a55 l,List.length_cons,List.length_append]
   omega
theorem am7:∀ (ls:List (List Nat)) (p:Nat),(offR p ls).length=ls.length+1
 | [],p=>rfl
 | l::ls,p=>by simp [offR,am7 ls]
theorem ad7:∀ {ls:List (List Nat)}{c pre post:List Nat}{k:Nat}{l:List Nat},c=pre++(blocks ls++post)→ls[k]?=some l→∃ p,(offR pre.length ls)[k]?=some p∧c[p]?=some l.length∧Z.block (zs c) p=zs l∧p+1+l.length≤c.length
 | [],c,pre,post,k,l,h,e=>by simp at e
 | m::ls,c,pre,post,0,l,h,e=>by
   obtain rfl:m=l:=by simpa using e
   have hg:c[pre.length]?=some m.length:=by rw [h,List.getElem?_append_right (Nat.le_refl _),Nat.sub_self,a55]; rfl
   refine ⟨pre.length,rfl,hg,?_,by rw [h,a55]; simp; omega⟩
   unfold Z.block
   rw [ab5 hg,Int.toNat_natCast,h,a55,show zs (pre++(m.length::(m++blocks ls)++post))=zs (pre++[m.length])++(zs m++zs (blocks ls++post)) by simp [zs],List.drop_left' (by simp [zs]),List.take_left' (by simp [zs])]
 | m::ls,c,pre,post,k+1,l,h,e=>by
   obtain ⟨p,a1,a2⟩:=ad7 (ls:=ls) (c:=c) (pre:=pre++(m.length::m)) (post:=post) (k:=k) (l:=l) (by rw [h,a55]; simp) (by simpa using e)
   rw [show (pre++(m.length::m)).length=pre.length+(1+m.length) by simp; omega] at a1
   exact ⟨p,by simpa [offR] using a1,a2⟩
theorem b47 {ls:List (List Nat)}{c pre post:List Nat}(h:c=pre++(blocks ls++post)) {p:Nat}(hp:p∈(offR pre.length ls).dropLast):∃ l∈ls,c[p]?=some l.length∧Z.block (zs c) p=zs l:=by
 obtain ⟨k,hk,rfl⟩:=List.mem_iff_getElem.mp hp
 have hk2:k<ls.length:=by
  rw [List.length_dropLast,am7] at hk
  omega
 obtain ⟨p,a1,a2,a3,_⟩:=ad7 h (List.getElem?_eq_getElem hk2)
 refine ⟨ls[k],List.getElem_mem _,?_⟩
 rw [List.getElem_dropLast]
 have:(offR pre.length ls)[k]?=some ((offR pre.length ls)[k]'(by rw [List.length_dropLast] at hk; omega)):=List.getElem?_eq_getElem _
 rw [this] at a1
 injection a1 with a1
 rw [a1]
 exact ⟨a2,a3⟩
def triZ (t:Tri):Z.Tri:=(((t.1:Nat):Int),((t.2.1:Nat):Int),((t.2.2:Nat):Int))
def hZ (h:Sh):Z.Sh:=((((h.1.1:Nat):Int),((h.1.2:Nat):Int)),h.2.map triZ)
theorem ah7 (h:Sh):zs (shL h)=Z.shI (hZ h):=by
 have e:∀ ts:List Tri,zs (flat3 ts)=Z.flat3 (ts.map triZ):=fun ts=>by
  induction ts with
  | nil=>rfl
  | cons t ts ih =>
    simp only [zs,flat3,List.flatMap_cons,List.map_append,Z.flat3,List.map_cons] at ih ⊢
    rw [ih]
    rfl
 show ((h.1.1:Nat):Int)::((h.1.2:Nat):Int)::zs (flat3 h.2)=_
 rw [e]
 rfl
def ris (E:Nat):Nat→List Tri→Prop
 | _,[]=>True
 | a,t::ts=>a≤t.1∧t.1<E∧ris E (t.1+1) ts
theorem at9 {E:Nat}:∀ {a:Nat}{ts:List Tri},ris E a ts→Z.asc (E:Nat) ((a:Nat) - 1:Int) ((ts.map triZ).map (·.1))
 | a,[],_=>trivial
 | a,t::ts,h=>by
   obtain ⟨h1,h2,h3⟩:=h
   have:=at9 h3
   refine ⟨?_,?_,?_⟩
   · show ((a:Nat):Int) - 1<((t.1:Nat):Int)
     omega
   · show ((t.1:Nat):Int)<_
     omega
   · rw [show ((t.1+1:Nat):Int) - 1=((t.1:Nat):Int) by omega] at this
     exact this
theorem am8 {E:Nat}:∀ {a:Nat}{ts:List Tri},ris E a ts→∀ t∈ts,a≤t.1∧t.1<E
 | a,t::ts,h,u,hu=>by
   obtain ⟨h1,h2,h3⟩:=h
   rcases List.mem_cons.mp hu with rfl | hu
   · exact ⟨h1,h2⟩
   · have:=am8 h3 u hu
     omega
theorem b48 {a:Nat}{E:Nat}:∀ {ts:List Tri}{acc:List (Int×Int)},ris E a ts→acc.length=E→∀ j,j<E→((ts.map triZ).foldl (fun acc t=>acc.set t.1.toNat t.2) acc)[j]?=match ts.find? (fun t=>t.1 == j) with | some t=>some (((t.2.1:Nat):Int),((t.2.2:Nat):Int)) | none=>acc[j]?
 | [],acc,_,_,j,_=>rfl
 | t::ts,acc,h,hl,j,hj=>by
   obtain ⟨h1,h2,h3⟩:=h
   rw [List.map_cons,List.foldl_cons,b48 (a:=t.1+1) h3 (by simp [hl]) j hj,List.find?_cons]
   by_cases e:t.1=j
   · rw [show (t.1 == j)=true by simpa using e]
     have:ts.find? (fun t=>t.1 == j)=none:=List.find?_eq_none.mpr fun u hu=>by
      have:=(am8 h3 u hu).1
      simp
      omega
     rw [this]
     show (acc.set ((t.1:Nat):Int).toNat _)[j]?=_
     rw [Int.toNat_natCast,e,List.getElem?_set_self (by omega)]
     rfl
   · rw [show (t.1 == j)=false by simpa using e]
     cases hf:ts.find? (fun t=>t.1 == j) with
     | some u=>rfl
     | none =>
       show (acc.set ((t.1:Nat):Int).toNat _)[j]?=_
       rw [Int.toNat_natCast,List.getElem?_set_ne e]
theorem av8:∀ {ts:List Z.Tri}{acc:List (Int×Int)},(ts.foldl (fun acc t=>acc.set t.1.toNat t.2) acc).length=acc.length
 | [],acc=>rfl
 | t::ts,acc=>by rw [List.foldl_cons,av8]; simp
def pairZ (p:Nat×Nat):Int×Int:=(((p.1:Nat):Int),((p.2:Nat):Int))
theorem af7 {h:Sh}{E:Nat}(hr:ris E 0 h.2):Z.pairsOf E (hZ h)=(List.range E).map fun j=>pairZ (pickP h j):=by
 refine List.ext_getElem? fun j=>?_
 rw [List.getElem?_map]
 have hl:(Z.pairsOf E (hZ h)).length=E:=by unfold Z.pairsOf; rw [av8]; simp
 by_cases hj:j<E
 · rw [List.getElem?_range hj]
   unfold Z.pairsOf
   rw [show (hZ h).2=h.2.map triZ from rfl,b48 hr (by simp) j hj]
   show _=some (pairZ (pickP h j))
   unfold pickP
   cases h.2.find? (fun t=>t.1 == j) with
   | some t=>rfl
   | none =>
     show (List.replicate E (hZ h).1)[j]?=_
     rw [List.getElem?_replicate,if_pos hj]
     rfl
 · rw [List.getElem?_eq_none_iff.mpr (by omega),List.getElem?_eq_none_iff.mpr (by simp; omega)]
   rfl
structure PkV (k:Pk) (E T:Nat):Prop where
 n0:0<k.told.length
 n1:k.told.length≤2000
 say:k.say<k.sys.length
 sh:∀ h∈k.shs,ris E 0 h.2∧h.1.1<k.sys.length∧h.1.2<k.told.length∧∀ t∈h.2,t.2.1<k.sys.length∧t.2.2<k.told.length
 sy:∀ l∈k.sys,∀ n∈l,n<T
 told:∀ (i t:Nat),k.told[i]?=some t→t / 2<k.shs.length∧(t % 2=1→∀ h,k.shs[t / 2]?=some h→∀ j,j<E→(pickP h j).2=i∧k.sys[(pickP h j).1]?=some [])
theorem b49 {k:Pk}{E T:Nat}(v:PkV k E T) {h:Sh}(hh:h∈k.shs) (j:Nat):(pickP h j).1<k.sys.length∧(pickP h j).2<k.told.length:=by
 obtain ⟨_,h1,h2,h3⟩:=v.sh h hh
 unfold pickP
 cases e:h.2.find? (fun t=>t.1 == j) with
 | some t=>exact h3 t (List.mem_of_find?_eq_some e)
 | none=>exact ⟨h1,h2⟩
theorem Pk.g (k:Pk):k.cells[0]?=some k.told.length∧k.cells[1]?=some k.sys.length∧k.cells[2]?=some k.shs.length∧k.cells[3]?=some k.say:=⟨rfl,rfl,rfl,rfl⟩
theorem bq0 {k:Pk}{E T:Nat}(v:PkV k E T):Z.VVc (zs k.cells) E T:=by
 obtain ⟨g0,g1,g2,g3⟩:=k.g
 have n0:=v.n0
 have n1:=v.n1
 have n2:=v.say
 have b1:=ah6 (k.c1)
 have b2:=ah6 (k.c2)
 rw [List.length_map] at b1
 have l1:Z.lastN (offR k.pre1.length (k.shs.map shL))=k.pre2.length:=by
  rw [ae7]
  simp [Pk.pre2]
 have l2:Z.lastN (offR k.pre2.length k.sys)=k.cells.length:=by
  rw [ae7,k.c2]
  simp
 refine ⟨by rw [a91]; unfold Pk.cells; simp,by rw [ab5 g0]; omega,by rw [ab5 g3,ab5 g1]; omega,offR k.pre1.length (k.shs.map shL),offR k.pre2.length k.sys,?_,?_,?_,?_,?_,?_⟩
 · rw [ab5 g2,ab5 g0,Int.toNat_natCast,Int.toNat_natCast,←k.l1]
   exact b1
 · rw [ab5 g1,Int.toNat_natCast,l1]
   exact b2
 · rw [l2,a91]
 · intro p hp
   obtain ⟨l,hl,_,hb⟩:=b47 k.c1 hp
   obtain ⟨h,hh,rfl⟩:=List.mem_map.mp hl
   obtain ⟨v1,v2,v3,v4⟩:=v.sh h hh
   refine ⟨hZ h,by rw [hb,ah7],?_,fun x hx=>?_⟩
   · exact at9 v1
   · rw [ab5 g1,ab5 g0]
     rcases List.mem_cons.mp hx with rfl | hx
     · show 0≤((h.1.1:Nat):Int)∧_∧0≤((h.1.2:Nat):Int)∧_
       exact ⟨by omega,by show ((h.1.1:Nat):Int)<_; omega,by omega,by show ((h.1.2:Nat):Int)<_; omega⟩
     · obtain ⟨t,ht,rfl⟩:=List.mem_map.mp hx
       obtain ⟨u,hu,rfl⟩:=List.mem_map.mp ht
       obtain ⟨w1,w2⟩:=v4 u hu
       exact ⟨by show 0≤((u.2.1:Nat):Int); omega,by show ((u.2.1:Nat):Int)<_; omega,by show 0≤((u.2.2:Nat):Int); omega,by show ((u.2.2:Nat):Int)<_; omega⟩
 · intro p hp z hz
   obtain ⟨l,hl,_,hb⟩:=b47 k.c2 hp
   rw [hb] at hz
   obtain ⟨n,hn,rfl⟩:=List.mem_map.mp hz
   have:=v.sy l hl n hn
   omega
 · intro i hi
   rw [ab5 g0,Int.toNat_natCast] at hi
   obtain ⟨t,ht⟩:∃ t,k.told[i]?=some t:=⟨_,List.getElem?_eq_getElem hi⟩
   have g4:=ab5 (k.at4 ht)
   obtain ⟨v1,v2⟩:=v.told i t ht
   unfold Z.RM
   rw [g4,ab5 g2]
   refine ⟨by omega,by omega,fun ho=>?_⟩
   rw [show (((t:Nat):Int) / 2).toNat=t / 2 by omega]
   obtain ⟨h,hh⟩:∃ h,k.shs[t / 2]?=some h:=⟨_,List.getElem?_eq_getElem v1⟩
   obtain ⟨p,a1,a2,a3,_⟩:=ad7 k.c1 (k:=t / 2) (l:=shL h) (by rw [List.getElem?_map,hh]; rfl)
   refine ⟨hZ h,by rw [List.getD_eq_getElem?_getD,a1]; exact a3.trans (ah7 h),fun x hx=>?_⟩
   rw [af7 (v.sh h (List.mem_of_getElem? hh)).1] at hx
   obtain ⟨j,hj,rfl⟩:=List.mem_map.mp hx
   obtain ⟨w1,w2⟩:=v2 (by omega) h hh j (by simpa using hj)
   refine ⟨by show (((pickP h j).2:Nat):Int)=_; rw [w1],?_⟩
   obtain ⟨q,c1,c2,_,_⟩:=ad7 k.c2 w2
   show Z.gi _ ((offR k.pre2.length k.sys).getD (((pickP h j).1:Nat):Int).toNat 0)=0
   rw [Int.toNat_natCast,List.getD_eq_getElem?_getD,c1]
   exact ab5 c2
open Z (a41 a64 a62 a72 a51 a52 a59)
def be8 (K:PySem.W.Frag):Sp:=fun vs H Q _=>∃ (t c:Addr) (txs:List Str) (cells l:List Nat) (pl:Nat),vs=[.ref t,.ref c,.int (pl:Nat)]∧H t=some (.lst (strsV txs))∧H c=some (.lst (natsV cells))∧cells[pl]?=some l.length∧Z.block (zs cells) pl=zs l∧(∀ n∈l,n<txs.length)∧l.length≤5000∧∀ p H',H p=none→Same H H'→H' p=some (.lst (strsV (txOf txs l)))→Q (.ref p) H'
theorem au0 (T:Txt K mg t):FnOk P w K mg base CX0 2 t.a_texts_at t.fd_texts_at ["texts","cells","place"] (be8 K):=by
 have G_cells_in:=a64 (P:=P) (w:=w) (base:=base) T
 refine T.F_texts_at.ok as7 (fun vs H Q E h=>?_) (fun cdv A outer s H vs Q E hr h=>?_)
 · obtain ⟨t,c,txs,cells,l,pl,rfl,_⟩:=h
   rfl
 · obtain ⟨tx,c,txs,cells,l,pl,rfl,ht,hc,h1,h2,hlt,hll,q⟩:=h
   refine ⟨_,(@a07 _ _ _ (@a32 _ _ _ _ (ab0 (Nt:=["number"]) (Nf:=["texts"]) (caps:=[0]) rfl (a71 (sc:=defScope a78) rfl rfl (by decide +kernel) (by decide +kernel) (by decide +kernel) rfl (by decide +kernel)) (a39 K (@a08 _ _ _ _ _ _ _ _ _ _ _ _ _ _ _ _ G_cells_in (hr.mono (by omega)) rfl T.m_cells_in T.F_cells_in.kp T.b_cells_in .nil a38 (@a00 _ _ _ _ _ (pv 1) (@a00 _ _ _ _ _ (pv 2) (@a01 _) (by rfl)) (by rfl)) (by decide) (by rfl) (by rfl))) (fun _ _ _ _ _=>(a27 (i:=0) (show (["number","texts"]:List Str).Nodup by decide +kernel) rfl (by walk_at "o"))) (fun _ _ _ _ _=>(@a88 _)) (fun _ _ _ _ _=>(@a30 _ _ _ _ _ _ _ (a04 K) (pv 1) (pv 0) (fun _ _=>rfl)))))),?_⟩
   walk_at "go"
   have hpl:pl<cells.length:=(List.getElem?_eq_some_iff.mp h1).1
   refine ⟨c,zs cells,pl,rfl,by rw [← aa3]; exact hc,by rw [a91]; exact hpl,by rw [ab5 h1]; omega,fun p1 H1 f1 s1 e1=>?_⟩
   rw [h2,←aa3] at e1
   refine ⟨p1,rfl,⟨_,SqL.of e1⟩,a93 (xs:=natsV l) (le_line (by rw [a28]; omega)) (fun i acc H'=>H'=H1∧i≤l.length∧acc=strsV (txOf txs (l.take i))) ⟨rfl,Nat.zero_le _,rfl⟩ (fun i acc H' ⟨e,hi,ea⟩=>⟨by rw [ea]; simp [strsV,txOf]; omega,e ▸ SqL.of e1⟩) ?_ ?_⟩
   · rintro i x acc H' hx ⟨rfl,hi,rfl⟩
     obtain ⟨n,hn,rfl⟩:=a97 hx
     walk_at "run"
     refine a29 (SqL.of (s1 _ _ ht)) (a05 (ba9 (hlt n (List.mem_of_getElem? hn)))) ?_
     exact ⟨rfl,(List.getElem?_eq_some_iff.mp hn).1,aq6 hn⟩
   · rintro acc H' ⟨rfl,_,rfl⟩ p2 H2 f2 s2 e2
     rw [a28,List.take_length] at e2
     exact q p2 H2 (s1.free f2) (s1.trans s2) e2
open Z (a41 a64 a62 a72 a51 a52 a59)
def rowAt (k:Pk) (txs:List Str) (h:Sh) (j:Nat):Row:=(txOf txs (k.sys.getD (pickP h j).1 []),(pickP h j).2)
def roomAt (k:Pk) (E:Nat) (txs:List Str) (t:Nat):aq7:=(decide ((t:Int) % 2=1),(List.range E).map (rowAt k txs (k.shs.getD (t / 2) ((0,0),[]))))
def rsOf (k:Pk) (E:Nat) (txs:List Str):List aq7:=k.told.map (roomAt k E txs)
structure UnpPost (H H':Hp) (tt a b c:Addr) (us rvs:List V) (gs:List Addr) (es:List Ev) (sy:List Str) (rs:List aq7):Prop where
 same:Same H H'
 e:H' tt=some (.tup [.ref a,.ref b,.ref c])
 ea:H' a=some (.lst us)
 hu:Tr.Ats H' (es.map Ev.tr) us []
 eb:H' b=some (.lst (strsV sy))
 ec:H' c=some (.lst rvs)
 hr:Tw.Ats H' (rs.map roomW) rvs gs
 fr:∀ x∈a::b::c::gs,H x=none
 nd:(a::b::c::gs).Nodup
def bn0 (K:PySem.W.Frag):Sp:=fun vs H Q _=>∃ (tt a b c:Addr) (us:List V) (es:List Ev) (txs:List Str) (k:Pk),vs=[.ref tt]∧H tt=some (.tup [.ref a,.ref b,.ref c])∧H a=some (.lst us)∧Tr.Ats H (es.map Ev.tr) us []∧es.length≤100∧H b=some (.lst (strsV txs))∧H c=some (.lst (natsV k.cells))∧k.cells.length≤5000∧PkV k es.length txs.length∧∀ tt' a' b' c' us' rvs gs H',UnpPost H H' tt' a' b' c' us' rvs gs es (txOf txs (k.sys.getD k.say [])) (rsOf k es.length txs)→Q (.ref tt') H'
theorem Pk.sub (k:Pk):k.shs.length≤k.cells.length∧k.told.length≤k.cells.length∧∀ l∈k.sys,l.length≤k.cells.length:=by
 have hb:∀ ls:List (List Nat),ls.length≤(blocks ls).length∧∀ l∈ls,l.length≤(blocks ls).length:=fun ls=>by
  induction ls with
  | nil=>simp [blocks]
  | cons m ls ih =>
    rw [a55]
    refine ⟨by simp; omega,fun l hl=>?_⟩
    rcases List.mem_cons.mp hl with rfl | hl
    · simp; omega
    · have:=ih.2 l hl
      simp
      omega
 have h1:=(hb (k.shs.map shL)).1
 have h2:=hb k.sys
 rw [List.length_map] at h1
 unfold Pk.cells
 simp only [List.length_cons,List.length_append]
 refine ⟨by omega,by omega,fun l hl=>?_⟩
 have:=h2.2 l hl
 omega
theorem au1 (T:Txt K mg t):FnOk P w K mg base CX0 3 t.a_unpacked t.fd_unpacked ["pack"] (bn0 K):=by
 have G_block_places:=a41 (P:=P) (w:=w) (base:=base) T
 have G_pairs_in:=a72 (P:=P) (w:=w) (base:=base) T
 have G_texts_at:=au0 (P:=P) (w:=w) (base:=base) T
 refine T.F_unpacked.ok sc_unpacked (fun vs H Q E h=>?_) (fun cdv A outer s H vs Q E hr h=>?_)
 · obtain ⟨tt,a,b,c,us,es,txs,k,rfl,_⟩:=h
   rfl
 · obtain ⟨tt,a,b,c,us,es,txs,k,rfl,hT,ha,hu,hE,hb,hc,hcl,v,q⟩:=h
   refine ⟨_,(@a03 _ _ _ _ _ (@a34 _ _ 1 _ _ _ _ sc_unpacked.nd rfl (by walk_at "o") (@a30 _ _ _ _ _ _ _ (ac4 K) (pv 0) (@a02 _ _ _ _) (fun _ _=>rfl)) (by rfl) (by walk_at "o"))
    (@a03 _ _ _ _ _ (@a34 _ _ 2 _ _ _ _ sc_unpacked.nd rfl (by walk_at "o") (@a08 _ _ _ _ _ _ _ _ _ _ _ _ _ _ _ _ G_block_places (hr.mono (by omega)) rfl T.m_block_places T.F_block_places.kp T.b_block_places .nil a38 (@a00 _ _ _ _ _ (pv 1) (@a00 _ _ _ _ _ (@a31 _ _ _ _ _ _ _ _ a25 (ac0 (by rfl) T.m_HEAD (by exact T.r_HEAD)) (@a30 _ _ _ _ _ _ _ (a04 K) (pv 1) (@a02 _ _ _ _) (fun _ _=>rfl))) (@a00 _ _ _ _ _ (@a30 _ _ _ _ _ _ _ (a04 K) (pv 1) (@a02 _ _ _ _) (fun _ _=>rfl)) (@a01 _) (by rfl)) (by rfl)) (by rfl)) (by decide) (by rfl) (by rfl)) (by rfl) (by walk_at "o"))
    (@a03 _ _ _ _ _ (@a34 _ _ 3 _ _ _ _ sc_unpacked.nd rfl (by walk_at "o") (@a08 _ _ _ _ _ _ _ _ _ _ _ _ _ _ _ _ G_block_places (hr.mono (by omega)) rfl T.m_block_places T.F_block_places.kp T.b_block_places .nil a38 (@a00 _ _ _ _ _ (pv 1) (@a00 _ _ _ _ _ (@a30 _ _ _ _ _ _ _ (a04 K) (pv 2) (@ao2 _ _ _ _ _ _ ag0 (@a02 _ _ _ _)) (fun _ _=>rfl)) (@a00 _ _ _ _ _ (@a30 _ _ _ _ _ _ _ (a04 K) (pv 1) (@a02 _ _ _ _) (fun _ _=>rfl)) (@a01 _) (by rfl)) (by rfl)) (by rfl)) (by decide) (by rfl) (by rfl)) (by rfl) (by walk_at "o"))
    (@a03 _ _ _ _ _ (@a34 _ _ 4 _ _ _ _ sc_unpacked.nd rfl (by walk_at "o") (@a24 _ _ _ _ (@a01 _)) (by rfl) (by walk_at "o"))
    (@a03 _ _ _ _ _ (@a98 _ _ _ _ _ _ _ _ PassesOwn.never rfl (a39 K (@a42 _ _ _ _ _ _ _ _ _ _ (a43 K) (pv 1) (@a40 _ _ _ (ac0 (by rfl) T.m_HEAD (by exact T.r_HEAD))) (@a40 _ _ _ (@a31 _ _ _ _ _ _ _ _ a25 (ac0 (by rfl) T.m_HEAD (by exact T.r_HEAD)) (@a30 _ _ _ _ _ _ _ (a04 K) (pv 1) (@a02 _ _ _ _) (fun _ _=>rfl)))))) (a27 (i:=5) sc_unpacked.nd rfl (by walk_at "o")) (@a03 _ _ _ _ _ (@a34 _ _ 6 _ _ _ _ sc_unpacked.nd rfl (by walk_at "o") (@a08 _ _ _ _ _ _ _ _ _ _ _ _ _ _ _ _ G_pairs_in (hr.mono (by omega)) rfl T.m_pairs_in T.F_pairs_in.kp T.b_pairs_in .nil a38 (@a00 _ _ _ _ _ (pv 1) (@a00 _ _ _ _ _ (@a30 _ _ _ _ _ _ _ (a04 K) (pv 2) (@a31 _ _ _ _ _ _ _ _ ac3 (pv 5) (@a02 _ _ _ _)) (fun _ _=>rfl)) (@a00 _ _ _ _ _ (@a26 _ _ _ _ _ _ _ _ _ (a36 K) (by rfl) T.z_len a54 (@a00 _ _ _ _ _ (@a30 _ _ _ _ _ _ _ (ac4 K) (pv 0) (@a02 _ _ _ _) (fun _ _=>rfl)) (@a01 _) (by rfl)) (by decide) (by decide) (by rfl) (by rfl)) (@a01 _) (by rfl)) (by rfl)) (by rfl)) (by decide) (by rfl) (by rfl)) (by rfl) (by walk_at "o"))
     (@a07 _ _ _ (@aa9 _ _ _ _ (@ae0 _ K _ _ _ _ _ _ _ _ _ _ _ PySem.F.plainAttrs_list PySem.F.slot_list_append PySem.F.type_list_append a90 (pv 4) (@a00 _ _ _ _ _ (@a80 _ _ _ _ _ (@a00 _ _ _ _ _ (@af2 _ _ _ _ _ _ _ _ af1 (@a31 _ _ _ _ _ _ _ _ aa7 (pv 5) (@a02 _ _ _ _)) (@a02 _ _ _ _) (nomark _)) (@a00 _ _ _ _ _ (ab0 (Nt:=["saying","way"]) (Nf:=["pack","cells","sayings"]) (caps:=[0,1,3]) rfl (a71 (sc:=defScope a77) rfl rfl (by decide +kernel) (by decide +kernel) (by decide +kernel) rfl (by decide +kernel)) (a39 K (pv 6)) (fun _ _ _ _ _=>(ab2 K (n:=2) rfl (a44 (a27 (i:=0) (show (["saying","way","pack","cells","sayings"]:List Str).Nodup by decide +kernel) rfl (by walk_at "o")) (a44 (a27 (i:=1) (show (["saying","way","pack","cells","sayings"]:List Str).Nodup by decide +kernel) rfl (by walk_at "o")) (@aa5 _))))) (fun _ _ _ _ _=>(@a88 _)) (fun _ _ _ _ _=>(@a80 _ _ _ _ _ (@a00 _ _ _ _ _ (@a08 _ _ _ _ _ _ _ _ _ _ _ _ _ _ _ _ G_texts_at (hr.mono (by omega)) rfl T.m_texts_at T.F_texts_at.kp T.b_texts_at .nil a38 (@a00 _ _ _ _ _ (@a30 _ _ _ _ _ _ _ (ac4 K) (pv 2) (@a02 _ _ _ _) (fun _ _=>rfl)) (@a00 _ _ _ _ _ (pv 3) (@a00 _ _ _ _ _ (@a30 _ _ _ _ _ _ _ (a04 K) (pv 4) (pv 0) (fun _ _=>rfl)) (@a01 _) (by rfl)) (by rfl)) (by rfl)) (by decide) (by rfl) (by rfl)) (@a00 _ _ _ _ _ (pv 1) (@a01 _) (by rfl)) (by rfl))))) (@a01 _) (by rfl)) (by rfl))) (@a01 _) (by rfl)) (by rfl) (by rfl) (by rfl) (by rfl) (by rfl) (by rfl)) (by rfl)))) (by intro _; rfl))
    (@a07 _ _ _ (@a32 _ _ _ _ (@a80 _ _ _ _ _ (@a00 _ _ _ _ _ (@aa8 _ _ _ _ _ _ _ _ _ (ag5 K) (by rfl) T.z_list al0 (@a00 _ _ _ _ _ (@a30 _ _ _ _ _ _ _ (ac4 K) (pv 0) (@a02 _ _ _ _) (fun _ _=>rfl)) (@a01 _) (by rfl)) (by decide) (by decide) (by rfl) (by rfl)) (@a00 _ _ _ _ _ (@a08 _ _ _ _ _ _ _ _ _ _ _ _ _ _ _ _ G_texts_at (hr.mono (by omega)) rfl T.m_texts_at T.F_texts_at.kp T.b_texts_at .nil a38 (@a00 _ _ _ _ _ (@a30 _ _ _ _ _ _ _ (ac4 K) (pv 0) (@a02 _ _ _ _) (fun _ _=>rfl)) (@a00 _ _ _ _ _ (pv 1) (@a00 _ _ _ _ _ (@a30 _ _ _ _ _ _ _ (a04 K) (pv 3) (@a30 _ _ _ _ _ _ _ (a04 K) (pv 1) (@a02 _ _ _ _) (fun _ _=>rfl)) (fun _ _=>rfl)) (@a01 _) (by rfl)) (by rfl)) (by rfl)) (by decide) (by rfl) (by rfl)) (@a00 _ _ _ _ _ (pv 4) (@a01 _) (by rfl)) (by rfl)) (by rfl)))))))))),?_⟩
   have sl:(1000000:Nat)≤sizeLine:=le_line (Nat.le_refl _)
   have ul:us.length=es.length:=by rw [hu.len,List.length_map]
   obtain ⟨g0,g1,g2,g3⟩:=k.g
   obtain ⟨kl1,kl2,kl3⟩:=k.sub
   have hci:H c=some (.lst (intsV (zs k.cells))):=by rw [← aa3]; exact hc
   have hcl':(zs k.cells).length≤5000:=by rw [a91]; exact hcl
   have b1:=ah6 k.c1
   have b2:=ah6 k.c2
   rw [List.length_map] at b1
   have l1:Z.lastN (offR k.pre1.length (k.shs.map shL))=k.pre2.length:=by
    rw [ae7]
    simp [Pk.pre2]
   walk_at "go"
   refine ag8 (SqT.of hT) (a05 (j:=2) rfl) ?_
   walk_at "run"
   refine a29 (SqL.of hc) (a05 (j:=0) (natsV_at g0)) ?_
   walk_at "run"
   refine a29 (SqL.of hc) (a05 (j:=2) (natsV_at g2)) ?_
   walk_at "run"
   rw [show (4:Int)+((k.told.length:Nat):Int)=((k.pre1.length:Nat):Int) by rw [k.l1]; omega]
   refine ⟨c,zs k.cells,k.pre1.length,(k.shs.length:Nat),rfl,hci,hcl',fun H' _ z=>?_,fun pS l H1 f1 s1 z e1=>?_⟩
   · rw [Int.toNat_natCast,b1] at z
     cases z
   rw [Int.toNat_natCast,b1] at z
   obtain rfl:=Option.some.inj z
   walk_at "run"
   refine a29 (SqL.of e1) (Z.lastN_at (by rw [am7]; omega)) ?_
   rw [l1]
   walk_at "run"
   refine a29 (SqL.of (s1 _ _ hc)) (a05 (j:=1) (natsV_at g1)) ?_
   walk_at "run"
   refine ⟨c,zs k.cells,k.pre2.length,(k.sys.length:Nat),rfl,s1 _ _ hci,hcl',fun H' _ z=>?_,fun pY l H2 f2 s2 z e2=>?_⟩
   · rw [Int.toNat_natCast,b2] at z
     cases z
   rw [Int.toNat_natCast,b2] at z
   obtain rfl:=Option.some.inj z
   have s02:=s1.trans s2
   walk_at "run"
   intro pR H3 f3 s3 e3
   walk_at "run"
   have s03:=s02.trans s3
   refine a29 (SqL.of (s03 _ _ hc)) (a05 (j:=0) (natsV_at g0)) ?_
   walk_at "run"
   refine a95 (SqL.of (s03 _ _ hc)) ?_
   rw [show (4:Int)+((k.told.length:Nat):Int)=((4+k.told.length:Nat):Int) by omega,show (4:Int)=((4:Nat):Int) from rfl,ag6,Nat.add_sub_cancel_left,show (k.cells.drop 4).take k.told.length=k.told by simp [Pk.cells]]
   intro p4 H4 f4 s4 e4
   walk_at "run"
   have s04:=s03.trans s4
   have e14:=(s2.trans (s3.trans s4)) _ _ e1
   have e24:=(s3.trans s4) _ _ e2
   have e34:=s4 _ _ e3
   have fR:H pR=none:=s02.free f3
   have np4:p4≠pR:=a06 e3 f4 |>.symm
   have nS:pS≠pR:=a06 (s2 _ _ e1) f3
   have nY:pY≠pR:=a06 e2 f3
   obtain ⟨Pv,hPv⟩:∃ Pv:Nat→St→Hp→Prop,Pv=(fun i σ H'=>i≤k.told.length∧(∀ x o,x≠pR→H4 x=some o→H' x=some o)∧(∃ acc fs,H' pR=some (.lst acc)∧Tw.Ats H' (((k.told.take i).map (roomAt k es.length txs)).map roomW) acc fs∧fs.Nodup∧∀ x∈fs,H4 x=none)∧∃ y z,σ=[some (.ref tt),some (.ref c),some (.ref pS),some (.ref pY),some (.ref pR),y,z]):=⟨_,rfl⟩
   refine ⟨⟨_,SqL.of e4⟩,a94 (K:=K) (a:=p4) (xs:=natsV k.told) Pv (by rw [hPv]; exact ⟨Nat.zero_le _,fun x o _ e=>e,⟨[],[],e34,by simp [Tw.Ats],by simp,by simp⟩,_,_,rfl⟩) (fun i σ H' _ hI=>by rw [hPv] at hI; obtain ⟨_,kp,_⟩:=hI; exact SqL.of (kp _ _ np4 e4)) ?_ ?_⟩
   · intro i x σ H5 hx hI
     rw [hPv] at hI
     obtain ⟨hi,kp,⟨acc,fs,eR,hat,hnd,hfs⟩,y,z,rfl⟩:=hI
     obtain ⟨t,ht,rfl⟩:=a97 hx
     have hi':i<k.told.length:=(List.getElem?_eq_some_iff.mp ht).1
     have htk:k.told.take (i+1)=k.told.take i++[t]:=by rw [List.take_add_one,ht]; rfl
     have s05:Same H H5:=fun x o e=>kp x o (a06 e fR) (s04 _ _ e)
     have fr5:∀ {x:Addr},H5 x=none→H4 x=none:=fun {x} z=>by
      cases e:H4 x with
      | none=>rfl
      | some o =>
        rw [kp x o (fun q=>by rw [q,eR] at z; cases z) e] at z
        cases z
     obtain ⟨v1,_⟩:=v.told i t ht
     obtain ⟨h,hh⟩:∃ h,k.shs[t / 2]?=some h:=⟨_,List.getElem?_eq_getElem v1⟩
     have hhm:=List.mem_of_getElem? hh
     have hris:=(v.sh h hhm).1
     obtain ⟨p,a1,a2,a3,a4⟩:=ad7 k.c1 (k:=t / 2) (l:=shL h) (by rw [List.getElem?_map,hh]; rfl)
     have al:acc.length=i:=by rw [hat.len,List.length_map,List.length_map,List.length_take]; omega
     walk_at "run"
     rw [show ((t:Nat):Int) / 2=((t / 2:Nat):Int) by omega]
     refine a29 (SqL.of (kp _ _ nS e14)) (a05 (natsV_at a1)) ?_
     walk_at "run"
     refine ag8 (SqT.of (s05 _ _ hT)) (a05 (j:=0) rfl) ?_
     walk_at "run"
     refine a47 (SqL.of (s05 _ _ ha)) ?_
     walk_at "run"
     rw [ul]
     refine ⟨c,zs k.cells,p,es.length,hZ h,rfl,s05 _ _ hci,hcl',by rw [a91]; omega,by rw [ab5 a2]; omega,by rw [ab5 a2,a91,Int.toNat_natCast]; omega,by rw [a3,ah7],at9 hris,hE,fun pP ps H6 f6 s6 e6 hps=>?_⟩
     rw [af7 hris,List.map_map] at hps
     have pl:ps.length=es.length:=by rw [hps.len,List.length_map,List.length_range]
     have s06:=s05.trans s6
     walk_at "run"
     refine al5 (SqL.of (s6 _ _ eR)) ?_
     walk_at "run"
     refine ⟨⟨_,SqL.of e6⟩,al4 (xs:=ps) (by omega) (fun j ac H'=>j≤es.length∧ac.length=j∧Same H6 H'∧∃ gs,Tw.Ats H' (((List.range j).map (rowAt k txs h)).map rowW) ac gs∧gs.Nodup∧∀ x∈gs,H6 x=none) ⟨Nat.zero_le _,rfl,Same.refl _,[],by simp [Tw.Ats],by simp,by simp⟩ (fun j ac H' ⟨_,e,s',_⟩=>⟨by omega,SqL.of (s' _ _ e6)⟩) ?_ ?_⟩
     · rintro j x ac H7 hx ⟨hj,ea,s7,gs,hat7,nd7,fr7⟩
       obtain ⟨tx,hx1,hx2⟩:=Z.ats_get0w (hps.same s7) hx
       have hj':j<es.length:=by
        have:=(List.getElem?_eq_some_iff.mp hx).1
        omega
       rw [List.getElem?_map,List.getElem?_range hj'] at hx1
       obtain rfl:=Option.some.inj hx1
       obtain ⟨kk,rfl,hkk,_⟩:=Z.pair_w.mp hx2
       obtain ⟨w1,w2⟩:=b49 v hhm j
       obtain ⟨l,hl⟩:∃ l,k.sys[(pickP h j).1]?=some l:=⟨_,List.getElem?_eq_getElem w1⟩
       obtain ⟨q2,c1,c2,c3,c4⟩:=ad7 k.c2 hl
       have s07:=s06.trans s7
       refine ⟨kk,_,_,rfl,SqT.of hkk,?_⟩
       walk_at "run"
       refine ag8 (SqT.of (s07 _ _ hT)) (a05 (j:=1) rfl) ?_
       walk_at "run"
       refine a29 (SqL.of ((s6.trans s7) _ _ (kp _ _ nY e24))) (a05 (j:=(pickP h j).1) (natsV_at c1)) ?_
       walk_at "run"
       refine ⟨b,c,txs,k.cells,l,q2,rfl,s07 _ _ hb,s07 _ _ hc,c2,c3,v.sy l (List.mem_of_getElem? hl),by have:=kl3 l (List.mem_of_getElem? hl); omega,fun p8 H8 f8 s8 e8=>?_⟩
       walk_at "run"
       intro p9 H9 f9 s9 e9
       refine ⟨hj',by simp [ea],s7.trans (s8.trans s9),gs++[p8],?_,?_,?_⟩
       · rw [List.range_succ,List.map_append,List.map_append]
         refine (hat7.same (s8.trans s9)).snoc (row_w.mpr ⟨p9,p8,rfl,e9,?_,rfl⟩)
         rw [s9 _ _ e8]
         unfold rowAt
         rw [List.getD_eq_getElem?_getD,hl]
         rfl
       · refine List.nodup_append.mpr ⟨nd7,by simp,fun x hx y hy e=>?_⟩
         rw [List.mem_singleton.mp hy] at e
         obtain ⟨vs,ev⟩:=ad6 hat7 x hx
         rw [e,f8] at ev
         cases ev
       · intro x hx
         rcases List.mem_append.mp hx with hx | hx
         · exact fr7 x hx
         · rw [List.mem_singleton.mp hx]; exact s7.free f8
     rintro ac H7 ⟨_,ea,s7,gs,hat7,nd7,fr7⟩ p8 H8 f8 s8 e8
     rw [pl] at hat7
     walk_at "run"
     intro p9 H9 f9 s9 e9
     walk_at "run"
     have s59:=s6.trans (s7.trans (s8.trans s9))
     refine a99 (s59 _ _ eR) (by omega) ?_
     have fr8:∀ x∈p8::gs,H5 x=none:=fun x hx=>by
      rcases List.mem_cons.mp hx with rfl | hx
      · exact (s6.trans s7).free f8
      · exact s6.free (fr7 x hx)
     have nR:∀ x∈p8::gs,x≠pR:=fun x hx z=>by have:=fr8 x hx; rw [z,eR] at this; cases this
     have nRf:∀ x∈fs,x≠pR:=fun x hx z=>by have:=hfs x hx; rw [z,e34] at this; cases this
     rw [hPv]
     refine ⟨hi',fun x o hx e=>by rw [a37 hx]; exact s59 _ _ (kp x o hx e),⟨_,fs++(p8::gs),a65,?_,?_,?_⟩,_,_,rfl⟩
     · rw [htk,List.map_append,List.map_append]
       refine Tw.Ats.snoc ((hat.same s59).mono (Keep.upd (s59 _ _ eR) fun z=>nRf _ z rfl)) (Tw.At.mono ?_ (Keep.upd (s59 _ _ eR) fun z=>nR _ z rfl))
       refine room_w.mpr ⟨p9,p8,ac,gs,rfl,e9,s9 _ _ e8,?_,rfl⟩
       unfold roomAt
       rw [List.getD_eq_getElem?_getD,hh]
       exact hat7.same (s8.trans s9)
     · refine List.nodup_append.mpr ⟨hnd,List.nodup_cons.mpr ⟨fun hx=>?_,nd7⟩,fun x hx y hy e=>?_⟩
       · obtain ⟨vs,ev⟩:=ad6 hat7 p8 hx
         rw [f8] at ev
         cases ev
       · obtain ⟨vs,ev⟩:=ad6 hat x hx
         rw [e,fr8 y hy] at ev
         cases ev
     · intro x hx
       rcases List.mem_append.mp hx with hx | hx
       · exact hfs x hx
       · exact fr5 (fr8 x hx)
   intro σ H5 hI
   rw [hPv] at hI
   obtain ⟨_,kp,⟨acc,fs,eR,hat,hnd,hfs⟩,y,z,rfl⟩:=hI
   rw [a28,List.take_length] at hat
   have s05:Same H H5:=fun x o e=>kp x o (a06 e fR) (s04 _ _ e)
   walk_at "run"
   refine ag8 (SqT.of (s05 _ _ hT)) (a05 (j:=0) rfl) ?_
   walk_at "run"
   refine al3 (SqL.of (s05 _ _ ha)) ?_
   intro p6 H6 f6 s6 e6
   walk_at "run"
   have s06:=s05.trans s6
   refine ag8 (SqT.of (s06 _ _ hT)) (a05 (j:=1) rfl) ?_
   walk_at "run"
   refine a29 (SqL.of (s06 _ _ hc)) (a05 (j:=3) (natsV_at g3)) ?_
   walk_at "run"
   obtain ⟨l,hl⟩:∃ l,k.sys[k.say]?=some l:=⟨_,List.getElem?_eq_getElem v.say⟩
   obtain ⟨q2,c1,c2,c3,c4⟩:=ad7 k.c2 hl
   refine a29 (SqL.of (s6 _ _ (kp _ _ nY e24))) (a05 (j:=k.say) (natsV_at c1)) ?_
   walk_at "run"
   refine ⟨b,c,txs,k.cells,l,q2,rfl,s06 _ _ hb,s06 _ _ hc,c2,c3,v.sy l (List.mem_of_getElem? hl),by have:=kl3 l (List.mem_of_getElem? hl); omega,fun p7 H7 f7 s7 e7=>?_⟩
   walk_at "run"
   intro p8 H8 f8 s8 e8
   have s58:=s6.trans (s7.trans s8)
   have hlst:=fun x hx=>ad6 hat x hx
   refine q p8 p6 p7 pR us acc fs H8 ⟨s05.trans s58,e8,(s7.trans s8) _ _ e6,hu.same (s05.trans s58),?_,s58 _ _ eR,hat.same s58,fun x hx=>?_,?_⟩
   · rw [s8 _ _ e7,List.getD_eq_getElem?_getD,hl]
     rfl
   · rcases List.mem_cons.mp hx with rfl | hx
     · exact s05.free f6
     rcases List.mem_cons.mp hx with rfl | hx
     · exact s06.free f7
     rcases List.mem_cons.mp hx with rfl | hx
     · exact fR
     · exact s04.free (hfs x hx)
   · have n1:p6≠p7:=a06 e6 f7
     have n2:p6≠pR:=(a06 eR f6).symm
     have n3:p7≠pR:=(a06 (s6 _ _ eR) f7).symm
     have n4:p6∉fs:=fun z=>by
      obtain ⟨vs,ev⟩:=hlst _ z
      rw [f6] at ev
      cases ev
     have n5:p7∉fs:=fun z=>by
      obtain ⟨vs,ev⟩:=hlst _ z
      rw [s6.free f7] at ev
      cases ev
     have n6:pR∉fs:=fun z=>by have:=hfs _ z; rw [e34] at this; cases this
     simp only [List.nodup_cons,List.mem_cons,not_or]
     exact ⟨⟨n1,n2,n4⟩,⟨n3,n5⟩,n6,hnd⟩
def lb:Nat→List Nat→Option (List (List Nat)×List Nat)
 | 0,c=>some ([],c)
 | _+1,[]=>none
 | m+1,x::r=>if r.length<x then none else (lb m (r.drop x)).map fun y=>(r.take x::y.1,y.2)
theorem ac6:∀ (ls:List (List Nat)) (r:List Nat),lb ls.length (blocks ls++r)=some (ls,r)
 | [],r=>rfl
 | l::ls,r=>by
   rw [a55,List.length_cons,List.cons_append,List.append_assoc]
   unfold lb
   rw [if_neg (by simp),List.drop_left,List.take_left,ac6 ls r]
   rfl
theorem b50:∀ {m:Nat}{c:List Nat}{ls:List (List Nat)}{r:List Nat},lb m c=some (ls,r)→c=blocks ls++r∧ls.length=m
 | 0,c,ls,r,h=>by
   simp only [lb,Option.some.injEq,Prod.mk.injEq] at h
   obtain ⟨rfl,rfl⟩:=h
   exact ⟨rfl,rfl⟩
 | m+1,[],ls,r,h=>by simp [lb] at h
 | m+1,x::c,ls,r,h=>by
   unfold lb at h
   split at h
   · cases h
   · rename_i hx
     obtain ⟨⟨a,b⟩,h1,h2⟩:=Option.map_eq_some_iff.mp h
     simp only [Prod.mk.injEq] at h2
     obtain ⟨rfl,rfl⟩:=h2
     obtain ⟨e,rfl⟩:=b50 h1
     refine ⟨?_,rfl⟩
     rw [a55,List.cons_append,List.append_assoc,←e,List.take_append_drop,List.length_take,Nat.min_eq_left (by omega)]
def nblk (n:List Nat) (q:Nat):List Nat:=(n.drop (q+1)).take (n.getD q 0)
theorem ae8 (n:List Nat) (q:Nat):Z.gi (zs n) q=((n.getD q 0:Nat):Int):=by
 unfold Z.gi zs
 rw [List.getD_eq_getElem?_getD,List.getElem?_map,List.getD_eq_getElem?_getD]
 cases n[q]? <;> rfl
theorem b51 (n:List Nat) (q:Nat):Z.block (zs n) q=zs (nblk n q):=by
 unfold Z.block nblk
 rw [ae8,Int.toNat_natCast]
 simp [zs,List.map_take,List.map_drop]
theorem be9 {n:List Nat}:∀ {m p:Nat}{l:List Nat},Z.bp (zs n) m p=some l→lb m (n.drop p)=some (l.dropLast.map (nblk n),n.drop (Z.lastN l))
 | 0,p,l,h=>by
   unfold Z.bp at h
   split at h
   · cases h
     rfl
   · cases h
 | m+1,p,l,h=>by
   unfold Z.bp at h
   split at h
   · cases h
   · rename_i hc
     obtain ⟨l',h1,rfl⟩:=Option.map_eq_some_iff.mp h
     have ih:=be9 h1
     have hl:=Z.bp_last h1
     obtain ⟨t,rfl⟩:=Z.bp_head h1
     rw [a91] at hc hl
     rw [ae8,Int.toNat_natCast] at ih hl h1
     have hp:p<n.length:=by omega
     rw [Z.lastN_cons,List.dropLast_cons₂,List.drop_eq_getElem_cons hp]
     rw [ae8,Int.toNat_natCast] at *
     have e:n.getD p 0=n[p]:=by rw [List.getD_eq_getElem?_getD,List.getElem?_eq_getElem hp]; rfl
     unfold lb
     rw [if_neg (by rw [List.length_drop,←e]; omega),List.drop_drop,←e,show p+1+n.getD p 0=p+(1+n.getD p 0) by omega,ih]
     rfl
theorem aq9:∀ (n:Nat) (l:List Nat),l.length=n*3→∃ ts,l=flat3 ts
 | 0,l,h=>⟨[],List.length_eq_zero_iff.mp (by omega)⟩
 | n+1,[],h=>by simp at h
 | n+1,[_],h=>by simp at h; omega
 | n+1,[_,_],h=>by simp at h; omega
 | n+1,a::b::c::r,h=>by
   obtain ⟨ts,e⟩:=aq9 n r (by simp at h; omega)
   exact ⟨(a,b,c)::ts,by rw [e]; rfl⟩
theorem bb0 {l:List Nat}(h:l.length % 3=2):∃ s,l=shL s:=by
 match l,h with
 | a::b::r,h =>
   obtain ⟨ts,e⟩:=aq9 (r.length / 3) r (by simp at h; omega)
   exact ⟨((a,b),ts),by rw [e]; rfl⟩
theorem ac9 (h:Sh):(shL h).length=h.2.length*3+2:=by simp [shL,flat3_len]
theorem bb1 {a b:List Nat}(h:zs a=zs b):a=b:=by
 have:=congrArg (List.map Int.toNat) h
 simpa [zs,List.map_map,Function.comp_def] using this
theorem b52 {a b:Sh}(h:shL a=shL b):a=b:=by
 have h1:Z.shI (hZ a)=Z.shI (hZ b):=by rw [← ah7,←ah7,h]
 have h2:=Z.shI_inj h1
 obtain ⟨⟨a1,a2⟩,a3⟩:=a
 obtain ⟨⟨b1,b2⟩,b3⟩:=b
 simp only [hZ,Prod.mk.injEq] at h2
 obtain ⟨⟨x,y⟩,z⟩:=h2
 have z2:a3=b3:=by
  have:=congrArg (List.map fun t:Z.Tri=>(t.1.toNat,t.2.1.toNat,t.2.2.toNat)) z
  simpa [triZ,List.map_map,Function.comp_def] using this
 rw [z2,show a1=b1 by omega,show a2=b2 by omega]
theorem b53 {E:Nat}:∀ {a:Nat}{ts:List Tri},Z.asc (E:Nat) ((a:Nat) - 1:Int) ((ts.map triZ).map (·.1))→ris E a ts
 | a,[],_=>trivial
 | a,t::ts,h=>by
   obtain ⟨h1,h2,h3⟩:=h
   change ((a:Nat):Int) - 1<((t.1:Nat):Int) at h1
   change ((t.1:Nat):Int)<((E:Nat):Int) at h2
   refine ⟨by omega,by omega,b53 (a:=t.1+1) ?_⟩
   rw [show ((t.1+1:Nat):Int) - 1=((t.1:Nat):Int) by omega]
   exact h3
theorem af8 {α β:Type}{f:α→β}{P:α→Prop}:∀ {bs:List β},(∀ b∈bs,∃ a,b=f a∧P a)→∃ as:List α,bs=as.map f∧∀ a∈as,P a
 | [],_=>⟨[],rfl,by simp⟩
 | b::bs,h=>by
   obtain ⟨a,rfl,ha⟩:=h b (by simp)
   obtain ⟨as,rfl,h2⟩:=af8 (bs:=bs) fun x hx=>h x (by simp [hx])
   exact ⟨a::as,rfl,fun x hx=>by
    rcases List.mem_cons.mp hx with rfl | hx
    · exact ha
    · exact h2 x hx⟩
def ShG (h:Sh) (E S R:Nat):Prop:=ris E 0 h.2∧h.1.1<S∧h.1.2<R∧∀ t∈h.2,t.2.1<S∧t.2.2<R
structure PkS (k:Pk) (E T:Nat):Prop where
 n0:0<k.told.length
 n1:k.told.length≤2000
 say:k.say<k.sys.length
 sh:∀ h∈k.shs,ShG h E k.sys.length k.told.length
 sy:∀ l∈k.sys,∀ n∈l,n<T
def PkR (k:Pk) (E:Nat):Prop:=∀ (i t:Nat),k.told[i]?=some t→t / 2<k.shs.length∧(t % 2=1→∀ h,k.shs[t / 2]?=some h→∀ j,j<E→(pickP h j).2=i∧k.sys[(pickP h j).1]?=some [])
theorem PkV.of {k:Pk}{E T:Nat}(s:PkS k E T) (r:PkR k E):PkV k E T:=⟨s.n0,s.n1,s.say,s.sh,s.sy,r⟩
theorem PkV.s {k:Pk}{E T:Nat}(v:PkV k E T):PkS k E T:=⟨v.n0,v.n1,v.say,v.sh,v.sy⟩
theorem bq1 {n:List Nat}{E p:Nat}(h:Z.WS (zs n) E (Z.block (zs n) p)):∃ s,nblk n p=shL s∧ShG s E (n.getD 1 0) (n.getD 0 0):=by
 obtain ⟨h',e,h1,h2⟩:=h
 rw [b51] at e
 have hl:=congrArg List.length e
 rw [a91,Z.shI_len] at hl
 obtain ⟨s,hs⟩:=bb0 (l:=nblk n p) (by omega)
 rw [hs,ah7] at e
 obtain rfl:=Z.shI_inj e
 refine ⟨s,hs,b53 (a:=0) h1,?_⟩
 rw [ae8,ae8] at h2
 have h3:=h2 (hZ s).1 (by simp [Z.prs])
 change 0≤((s.1.1:Nat):Int)∧((s.1.1:Nat):Int)<_∧0≤((s.1.2:Nat):Int)∧((s.1.2:Nat):Int)<_ at h3
 refine ⟨by omega,by omega,fun t ht=>?_⟩
 have h4:=h2 (triZ t).2 (by simp only [Z.prs,List.mem_cons]; exact .inr (List.mem_map.mpr ⟨triZ t,List.mem_map.mpr ⟨t,ht,rfl⟩,rfl⟩))
 change 0≤((t.2.1:Nat):Int)∧((t.2.1:Nat):Int)<_∧0≤((t.2.2:Nat):Int)∧((t.2.2:Nat):Int)<_ at h4
 omega
theorem bb2 {c:List Int}(h:∀ z∈c,0≤z):∃ n,c=zs n:=by
 refine ⟨c.map Int.toNat,?_⟩
 unfold zs
 rw [List.map_map]
 refine (List.map_id c).symm.trans (List.map_congr_left fun z hz=>?_)
 have:=h z hz
 show z=((z.toNat:Nat):Int)
 omega
theorem bq2 {c:List Int}{E T:Nat}(v:Z.VVc c E T):∃ k,c=zs k.cells∧PkV k E T:=by
 obtain ⟨n,rfl⟩:=bb2 (Z.vv_pos v)
 obtain ⟨h4,⟨h0,h01⟩,⟨h3,h31⟩,sh,sy,b1,b2,hl,w1,w2,rm⟩:=v
 rw [a91] at h4 hl
 rw [ae8] at h0 h01 h3 h31 rm b1
 rw [ae8] at h31 b1 b2
 simp only [Int.toNat_natCast] at b1 b2 rm
 have g2:∀ i,i<n.getD 0 0→Z.RM (zs n) sh sy E i:=fun i hi=>rm i hi
 have l1:=Z.bp_last b1
 have m1:=Z.bp_len b1
 have m2:=Z.bp_len b2
 have d1:=be9 b1
 have d2:=be9 b2
 rw [hl,List.drop_length] at d2
 obtain ⟨e1,_⟩:=b50 d1
 obtain ⟨e2,_⟩:=b50 d2
 rw [a91] at l1
 obtain ⟨hs,f1,f2⟩:=af8 (f:=shL) (P:=fun h=>ShG h E (n.getD 1 0) (n.getD 0 0)) (bs:=sh.dropLast.map (nblk n)) (fun b hb=>by
  obtain ⟨p,hp,rfl⟩:=List.mem_map.mp hb
  obtain ⟨s,q1,q2⟩:=bq1 (w1 p hp)
  exact ⟨s,q1,q2⟩)
 have hsl:hs.length=n.getD 2 0:=by
  have:=congrArg List.length f1
  simp only [List.length_map,List.length_dropLast] at this
  omega
 have hyl:(sy.dropLast.map (nblk n)).length=n.getD 1 0:=by simp only [List.length_map,List.length_dropLast]; omega
 match n,h4 with
 | a0::a1::a2::a3::rest,_ =>
   simp only [List.getD_cons_zero,List.getD_cons_succ] at h0 h01 h3 h31 rm hsl hyl f2 g2 l1
   simp only [List.length_cons] at l1
   have htl:(rest.take a0).length=a0:=by rw [List.length_take]; omega
   refine ⟨⟨rest.take a0,hs,sy.dropLast.map (nblk (a0::a1::a2::a3::rest)),a3⟩,?_,?_,?_,?_,?_,?_,?_⟩
   · congr 1
     unfold Pk.cells
     simp only [htl,hsl,hyl]
     rw [← f1]
     rw [show (a0::a1::a2::a3::rest).drop (4+(a0::a1::a2::a3::rest).getD 0 0)=rest.drop a0 by rw [List.getD_cons_zero,Nat.add_comm]; rfl,e2,List.append_nil] at e1
     rw [← e1,List.take_append_drop]
   · simp only [htl]; omega
   · simp only [htl]; omega
   · simp only [hyl]; omega
   · intro h hh
     simp only [htl,hyl]
     exact f2 h hh
   · intro l hL x hx
     obtain ⟨p,hp,rfl⟩:=List.mem_map.mp hL
     have:=w2 p hp (x:Nat) (by rw [b51]; exact List.mem_map.mpr ⟨x,hx,rfl⟩)
     omega
   · intro i t ht
     have hi:i<a0:=by rw [← htl]; exact (List.getElem?_eq_some_iff.mp ht).1
     have hr:=g2 i hi
     have gt:Z.gi (zs (a0::a1::a2::a3::rest)) (4+i)=((t:Nat):Int):=by
      refine ab5 ?_
      rw [List.getElem?_take_of_lt hi] at ht
      rw [Nat.add_comm]
      exact ht
     unfold Z.RM at hr
     rw [gt,ae8] at hr
     obtain ⟨r1,r2,r3⟩:=hr
     simp only [List.getD_cons_zero,List.getD_cons_succ] at r2
     have hlt:t / 2<hs.length:=by omega
     refine ⟨hlt,fun ho h hh j hj=>?_⟩
     obtain ⟨h',q1,q2⟩:=r3 (by omega)
     rw [show (((t:Nat):Int) / 2).toNat=t / 2 by omega] at q1
     have hdl:t / 2<sh.dropLast.length:=by
      have:=congrArg List.length f1
      simp only [List.length_map] at this
      omega
     have hsd:sh.getD (t / 2) 0=sh.dropLast[t / 2]:=by
      rw [List.getElem_dropLast,List.getD_eq_getElem?_getD,List.getElem?_eq_getElem (by rw [List.length_dropLast] at hdl; omega)]
      rfl
     have hb:nblk (a0::a1::a2::a3::rest) (sh.getD (t / 2) 0)=shL h:=by
      have:=congrArg (fun l=>l[t / 2]?) f1
      simp only [List.getElem?_map,hh,List.getElem?_eq_getElem hdl] at this
      rw [hsd]
      exact Option.some.inj this
     rw [b51,hb,ah7] at q1
     obtain rfl:=Z.shI_inj q1
     have hg:=f2 h (List.mem_of_getElem? hh)
     rw [af7 hg.1] at q2
     obtain ⟨u1,u2⟩:=q2 (pairZ (pickP h j)) (List.mem_map.mpr ⟨j,by simpa using hj,rfl⟩)
     have hpk:(pickP h j).1<a1:=by
      obtain ⟨_,z1,z2,z3⟩:=hg
      unfold pickP
      cases e:h.2.find? (fun t=>t.1 == j) with
      | some t=>exact (z3 t (List.mem_of_find?_eq_some e)).1
      | none=>exact z1
     change ((((pickP h j).2:Nat):Int))=_ at u1
     change Z.gi _ (sy.getD (((pickP h j).1:Nat):Int).toNat 0)=0 at u2
     rw [Int.toNat_natCast,ae8] at u2
     refine ⟨by omega,?_⟩
     simp only [List.getElem?_map]
     simp only [List.length_map] at hyl
     have hyd:(pickP h j).1<sy.dropLast.length:=by omega
     rw [List.getElem?_eq_getElem hyd]
     have hsd2:sy.getD (pickP h j).1 0=sy.dropLast[(pickP h j).1]:=by
      rw [List.getElem_dropLast,List.getD_eq_getElem?_getD,List.getElem?_eq_getElem (by rw [List.length_dropLast] at hyd; omega)]
      rfl
     rw [hsd2] at u2
     show some (nblk _ _)=_
     unfold nblk
     rw [show (a0::a1::a2::a3::rest).getD sy.dropLast[(pickP h j).1] 0=0 by omega]
     rfl
theorem b54 {a b:Pk}(h:a.cells=b.cells):a=b:=by
 obtain ⟨t1,s1,y1,g1⟩:=a
 obtain ⟨t2,s2,y2,g2⟩:=b
 simp only [Pk.cells,List.cons.injEq] at h
 obtain ⟨h1,h2,h3,rfl,h5⟩:=h
 obtain ⟨rfl,h6⟩:=List.append_inj h5 h1
 have q1:=ac6 (s1.map shL) (blocks y1)
 have q2:=ac6 (s2.map shL) (blocks y2)
 rw [h6,List.length_map,h3,←List.length_map (f:=shL),q2] at q1
 simp only [Option.some.injEq,Prod.mk.injEq] at q1
 obtain ⟨e1,e2⟩:=q1
 have r1:=ac6 y1 []
 have r2:=ac6 y2 []
 rw [h2,List.append_nil,←e2,←List.append_nil (blocks y2),r2] at r1
 simp only [Option.some.injEq,Prod.mk.injEq,and_true] at r1
 rw [r1]
 have:s1=s2:=by
  have:∀ {a b:List Sh},a.map shL=b.map shL→a=b:=fun {a}=>by
   induction a with
   | nil=>intro b h; cases b with
     | nil=>rfl
     | cons=>simp at h
   | cons x xs ih=>intro b h; cases b with
     | nil=>simp at h
     | cons y ys =>
       simp only [List.map_cons,List.cons.injEq] at h
       rw [b52 h.1,ih h.2]
  exact (this e1).symm
 rw [this]
open Z (a41 a64 a62 a72 a51 a52 a59)
def LGs {α:Type}(f:List α→List V) (H:Hp) (vs:List V) (ls:List (List α)):Prop:=vs.length=ls.length∧∀ (i:Nat) (l:List α),ls[i]?=some l→∃ q,vs[i]?=some (.ref q)∧H q=some (.lst (f l))
theorem LGs.nil {α:Type}{f:List α→List V}{H:Hp}:LGs f H [] []:=⟨rfl,fun i l h=>by simp at h⟩
theorem LGs.same {α:Type}{f:List α→List V}{H H':Hp}{vs:List V}{ls:List (List α)}(h:LGs f H vs ls) (s:Same H H'):LGs f H' vs ls:=⟨h.1,fun i l e=>by
 obtain ⟨q,h1,h2⟩:=h.2 i l e
 exact ⟨q,h1,s _ _ h2⟩⟩
theorem LGs.snoc {α:Type}{f:List α→List V}{H:Hp}{vs:List V}{ls:List (List α)}{q:Addr}{l:List α}(h:LGs f H vs ls) (e:H q=some (.lst (f l))):LGs f H (vs++[.ref q]) (ls++[l]):=⟨by simp [h.1],fun i x hx=>by
 by_cases hi:i<ls.length
 · rw [List.getElem?_append_left hi] at hx
   obtain ⟨q',h1,h2⟩:=h.2 i x hx
   exact ⟨q',by rw [List.getElem?_append_left (by rw [h.1]; exact hi)]; exact h1,h2⟩
 · have hlt:=(List.getElem?_eq_some_iff.mp hx).1
   simp at hlt
   have:i=ls.length:=by omega
   subst this
   rw [List.getElem?_append_right (Nat.le_refl _),Nat.sub_self] at hx
   simp at hx
   subst hx
   exact ⟨q,by rw [← h.1,List.getElem?_append_right (Nat.le_refl _),Nat.sub_self]; rfl,e⟩⟩
theorem LGs.get {α:Type}{f:List α→List V}{H:Hp}{vs:List V}{ls:List (List α)}(h:LGs f H vs ls) {i:Nat}{v:V}(e:vs[i]?=some v):∃ l q,ls[i]?=some l∧v=.ref q∧H q=some (.lst (f l)):=by
 have hi:=(List.getElem?_eq_some_iff.mp e).1
 obtain ⟨q,h1,h2⟩:=h.2 i _ (List.getElem?_eq_getElem (by rw [← h.1]; exact hi))
 rw [e] at h1
 exact ⟨_,q,List.getElem?_eq_getElem (by rw [← h.1]; exact hi),Option.some.inj h1,h2⟩
theorem LGs.upd {α:Type}{f:List α→List V}{H:Hp}{vs:List V}{ls:List (List α)}{x:Addr}{o:HO}(h:LGs f H vs ls) (hn:∀ v∈vs,v≠.ref x):LGs f (upd H x o) vs ls:=⟨h.1,fun i l e=>by
 obtain ⟨q,h1,h2⟩:=h.2 i l e
 exact ⟨q,h1,by rw [a37 (fun z=>hn _ (List.mem_of_getElem? h1) (by rw [z]))]; exact h2⟩⟩
theorem ar0 {ns:List Nat}{j:Nat}:cutV (natsV ns) (some (j:Int)) none=natsV (ns.drop j):=by
 unfold cutV
 rw [HT.sIx_nat,HT.sIx_none,a28,List.take_of_length_le (by rw [List.length_drop,a28]; exact Nat.le_refl _)]
 by_cases h:j≤ns.length
 · rw [Nat.min_eq_left h]
   simp [natsV,List.map_drop]
 · rw [Nat.min_eq_right (by omega),List.drop_of_length_le (by rw [a28]; exact Nat.le_refl _),List.drop_of_length_le (by omega)]
   rfl
def tri3 (t:Tri):List Nat:=[t.1,t.2.1,t.2.2]
def ax6 (K:PySem.W.Frag):Sp:=fun vs H Q _=>∃ (s:Addr) (h:Sh),vs=[.ref s]∧H s=some (.lst (natsV (shL h)))∧h.2.length≤2000∧∀ p acc H',H p=none→Same H H'→H' p=some (.lst acc)→LGs natsV H' acc (h.2.map tri3)→Q (.ref p) H'
theorem b55 (n:Nat):ah0 2 ((n*3+2:Nat):Int)=n:=by
 unfold ah0
 omega
theorem ad4 (T:Txt K mg t):FnOk P w K mg base CX0 1 t.a__law_triples t.fd__law_triples ["shape"] (ax6 K):=by
 refine T.F__law_triples.ok ai1 (fun vs H Q E h=>?_) (fun cdv A outer s H vs Q E hr h=>?_)
 · obtain ⟨s,h,rfl,_⟩:=h
   rfl
 · obtain ⟨s0,sh,rfl,hs,hl,q⟩:=h
   refine ⟨_,(@a07 _ _ _ (@a32 _ _ _ _ (ab0 (Nt:=["at"]) (Nf:=["shape"]) (caps:=[0]) rfl (a71 (sc:=defScope a50) rfl rfl (by decide +kernel) (by decide +kernel) (by decide +kernel) rfl (by decide +kernel)) (ap7 rfl T.z_range (@a00 _ _ _ _ _ (@a02 _ _ _ _) (@a00 _ _ _ _ _ (@a26 _ _ _ _ _ _ _ _ _ (a36 K) (by rfl) T.z_len a54 (@a00 _ _ _ _ _ (pv 0) (@a01 _) (by rfl)) (by decide) (by decide) (by rfl) (by rfl)) (@a00 _ _ _ _ _ (@a02 _ _ _ _) (@a01 _) (by rfl)) (by rfl)) (by rfl))) (fun _ _ _ _ _=>(a27 (i:=0) (show (["at","shape"]:List Str).Nodup by decide +kernel) rfl (by walk_at "o"))) (fun _ _ _ _ _=>(@a88 _)) (fun _ _ _ _ _=>(@a42 _ _ _ _ _ _ _ _ _ _ (a43 K) (pv 1) (@a40 _ _ _ (pv 0)) (@a40 _ _ _ (@a31 _ _ _ _ _ _ _ _ a25 (pv 0) (@a02 _ _ _ _)))))))),?_⟩
   walk_at "go"
   refine a47 (SqL.of hs) ?_
   walk_at "run"
   rw [a28,ac9]
   refine ⟨2,_,rfl,⟨by omega,by omega,by omega,by omega⟩,?_⟩
   rw [b55]
   refine ap8 (n:=sh.2.length) (le_line (by omega)) (fun i acc H'=>i≤sh.2.length∧acc.length=i∧Same H H'∧LGs natsV H' acc ((sh.2.take i).map tri3)) ⟨Nat.zero_le _,rfl,Same.refl _,LGs.nil⟩ (fun i acc H' ⟨_,e,_⟩=>by omega) ?_ ?_
   · rintro i acc H1 hi ⟨hil,ea,s1,hat⟩
     have et:sh.2[i]?=some sh.2[i]:=List.getElem?_eq_getElem hi
     obtain ⟨x1,_⟩:=bm6 et
     walk_at "run"
     refine a95 (SqL.of (s1 _ _ hs)) ?_
     rw [show (2:Int)+(i:Nat)*3=((2+i*3:Nat):Int) by omega,show ((2+i*3:Nat):Int)+3=((2+i*3+3:Nat):Int) by omega,ag6,Nat.add_sub_cancel_left,x1]
     intro p2 H2 f2 s2 e2
     refine ⟨hi,by simp [ea],s1.trans s2,?_⟩
     rw [List.take_add_one,et,List.map_append]
     exact (hat.same s2).snoc e2
   · rintro acc H1 ⟨_,ea,s1,hat⟩ p2 H2 f2 s2 e2
     rw [List.take_length] at hat
     exact q p2 acc H2 (s1.free f2) (s1.trans s2) e2 (hat.same s2)
def b97 (K:PySem.W.Frag):Sp:=fun vs H Q _=>∃ (s:Addr) (h:Sh) (j:Nat),vs=[.ref s,.int (j:Nat)]∧H s=some (.lst (natsV (shL h)))∧h.2.length≤2000∧∀ p H',H p=none→Same H H'→H' p=some (.tup [.int ((pickP h j).1:Nat),.int ((pickP h j).2:Nat)])→Q (.ref p) H'
theorem ah8 (T:Txt K mg t):FnOk P w K mg base CX0 2 t.a__law_pair t.fd__law_pair ["shape","place"] (b97 K):=by
 have G__law_triples:=ad4 (P:=P) (w:=w) (base:=base) T
 refine T.F__law_pair.ok sc_law_pair (fun vs H Q E h=>?_) (fun cdv A outer s H vs Q E hr h=>?_)
 · obtain ⟨s,h,j,rfl,_⟩:=h
   rfl
 · obtain ⟨s0,sh,j,rfl,hs,hl,q⟩:=h
   refine ⟨_,(@a03 _ _ _ _ _ (@a98 _ _ _ _ _ _ _ _ PassesOwn.never rfl (a39 K (@a08 _ _ _ _ _ _ _ _ _ _ _ _ _ _ _ _ G__law_triples (hr.mono (by omega)) rfl T.m__law_triples T.F__law_triples.kp T.b__law_triples .nil a38 (@a00 _ _ _ _ _ (pv 0) (@a01 _) (by rfl)) (by decide) (by rfl) (by rfl))) (a27 (i:=2) sc_law_pair.nd rfl (by walk_at "o")) (@a07 _ _ _ (@a76 _ _ _ _ _ _ _ _ (@a09 _ _ _ _ _ _ _ _ af1 (@a30 _ _ _ _ _ _ _ (a04 K) (pv 2) (@a02 _ _ _ _) (fun _ _=>rfl)) (pv 1) (nomark _)) (@a07 _ _ _ (@a32 _ _ _ _ (@a80 _ _ _ _ _ (@a00 _ _ _ _ _ (@a30 _ _ _ _ _ _ _ (a04 K) (pv 2) (@a02 _ _ _ _) (fun _ _=>rfl)) (@a00 _ _ _ _ _ (@a30 _ _ _ _ _ _ _ (a04 K) (pv 2) (@a02 _ _ _ _) (fun _ _=>rfl)) (@a01 _) (by rfl)) (by rfl))))) (@a35 _))) (by intro _; rfl))
    (@a07 _ _ _ (@a32 _ _ _ _ (@a80 _ _ _ _ _ (@a00 _ _ _ _ _ (@a30 _ _ _ _ _ _ _ (a04 K) (pv 0) (@a02 _ _ _ _) (fun _ _=>rfl)) (@a00 _ _ _ _ _ (@a30 _ _ _ _ _ _ _ (a04 K) (pv 0) (@a02 _ _ _ _) (fun _ _=>rfl)) (@a01 _) (by rfl)) (by rfl)))))),?_⟩
   walk_at "go"
   refine ⟨s0,sh,rfl,hs,hl,fun p1 acc H1 f1 s1 e1 hat=>?_⟩
   refine ⟨p1,rfl,⟨_,SqL.of e1⟩,a94 (K:=K) (a:=p1) (xs:=acc) (fun i σ H'=>H'=H1∧(∀ x∈sh.2.take i,¬ x.1=j)∧∃ y,σ=[some (.ref s0),some (.int (j:Nat)),y]) ⟨rfl,by simp,_,rfl⟩ (fun i σ H' _ ⟨e,_⟩=>e ▸ SqL.of e1) ?_ ?_⟩
   · rintro i x σ H' hx ⟨rfl,hn,y,rfl⟩
     obtain ⟨l,p2,hl2,rfl,e2⟩:=hat.get hx
     rw [List.getElem?_map] at hl2
     obtain ⟨t3,ht3,rfl⟩:=Option.map_eq_some_iff.mp hl2
     walk_at "run"
     refine a29 (SqL.of e2) (a05 (j:=0) rfl) ?_
     walk_at "run"
     refine ite2 (fun hc=>?_) (fun hc=>?_)
     · have hj:t3.1=j:=by simp at hc; omega
       walk_at "run"
       refine a29 (SqL.of e2) (a05 (j:=1) rfl) ?_
       walk_at "run"
       refine a29 (SqL.of e2) (a05 (j:=2) rfl) ?_
       walk_at "run"
       intro p3 H3 f3 s3 e3
       refine q p3 H3 (s1.free f3) (s1.trans s3) ?_
       rw [b38 ht3 hj hn]
       exact e3
     · have hj:¬ t3.1=j:=by simp at hc; omega
       refine ⟨rfl,fun x hx=>?_,_,rfl⟩
       rw [List.take_add_one,ht3] at hx
       rcases List.mem_append.mp hx with hx | hx
       · exact hn x hx
       · have:x=t3:=by simpa using hx
         rw [this]
         exact hj
   · rintro σ H' ⟨rfl,hn,y,rfl⟩
     rw [hat.1,List.length_map,List.take_length] at hn
     walk_at "run"
     refine a29 (SqL.of (s1 _ _ hs)) (a05 (j:=0) rfl) ?_
     walk_at "run"
     refine a29 (SqL.of (s1 _ _ hs)) (a05 (j:=1) rfl) ?_
     walk_at "run"
     intro p3 H3 f3 s3 e3
     refine q p3 H3 (s1.free f3) (s1.trans s3) ?_
     rw [b39 hn]
     exact e3
def ax7 (K:PySem.W.Frag):Sp:=fun vs H Q _=>∃ (a:Addr) (c:List Nat) (m:Nat),vs=[.ref a,.int (m:Nat)]∧H a=some (.lst (natsV c))∧c.length≤5000∧(∀ H',Same H H'→lb m c=none→Q .non H')∧∀ p f a' vs ls r H',Same H H'→lb m c=some (ls,r)→H' p=some (.lst [.ref f,.ref a'])→H' f=some (.lst vs)→LGs natsV H' vs ls→H' a'=some (.lst (natsV r))→Q (.ref p) H'
theorem bq3 {m:Nat}:lb (m+1) []=none:=rfl
theorem bn1 {m x:Nat}{r:List Nat}(h:r.length<x):lb (m+1) (x::r)=none:=by
 unfold lb
 rw [if_pos h]
theorem bq4 {m x:Nat}{r:List Nat}(h:x≤r.length):lb (m+1) (x::r)=(lb m (r.drop x)).map fun y=>(r.take x::y.1,y.2):=by
 conv=>lhs; unfold lb
 rw [if_neg (by omega)]
theorem am9 (T:Txt K mg t):FnOk P w K mg base CX0 1 t.a__law_blocks t.fd__law_blocks ["cells","many"] (ax7 K):=by
 refine T.F__law_blocks.ok sc_law_blocks (fun vs H Q E h=>?_) (fun cdv A outer s H vs Q E hr h=>?_)
 · obtain ⟨a,c,m,rfl,_⟩:=h
   rfl
 · obtain ⟨a,c,m,rfl,ha,hcl,qn,q⟩:=h
   refine ⟨_,(@a03 _ _ _ _ _ (@a34 _ _ 2 _ _ _ _ sc_law_blocks.nd rfl (by walk_at "o") (@a24 _ _ _ _ (@a01 _)) (by rfl) (by walk_at "o"))
    (@a03 _ _ _ _ _ (@au4 _ _ _ _ _ _ PassesOwn.never (@PW.pt _ _ _ (@ba1 _ _ _ _ _ _ _ (@a09 _ _ _ _ _ _ _ _ (a96 K (by exact hr.units)) (pv 0) (@a24 _ _ _ _ (@a01 _)) (nomark _)) (@ay1 _ _ _ _ (@a09 _ _ _ _ _ _ _ _ ad3 (@a26 _ _ _ _ _ _ _ _ _ (a36 K) (by rfl) T.z_len a54 (@a00 _ _ _ _ _ (pv 2) (@a01 _) (by rfl)) (by decide) (by decide) (by rfl) (by rfl)) (pv 1) (nomark _))))) (@a03 _ _ _ _ _ (@a76 _ _ _ _ _ _ _ _ (@a09 _ _ _ _ _ _ _ _ bg5 (@a30 _ _ _ _ _ _ _ (a04 K) (pv 0) (@a02 _ _ _ _) (fun _ _=>rfl)) (@a31 _ _ _ _ _ _ _ _ ay4 (@a26 _ _ _ _ _ _ _ _ _ (a36 K) (by rfl) T.z_len a54 (@a00 _ _ _ _ _ (pv 0) (@a01 _) (by rfl)) (by decide) (by decide) (by rfl) (by rfl)) (@a02 _ _ _ _)) (nomark _)) (@a07 _ _ _ (@a32 _ _ _ _ (@a89 _ _ _))) (@a35 _))
     (@a03 _ _ _ _ _ (@aa9 _ _ _ _ (@ae0 _ K _ _ _ _ _ _ _ _ _ _ _ PySem.F.plainAttrs_list PySem.F.slot_list_append PySem.F.type_list_append a90 (pv 2) (@a00 _ _ _ _ _ (@a42 _ _ _ _ _ _ _ _ _ _ (a43 K) (pv 0) (@a40 _ _ _ (@a02 _ _ _ _)) (@a40 _ _ _ (@a31 _ _ _ _ _ _ _ _ a25 (@a02 _ _ _ _) (@a30 _ _ _ _ _ _ _ (a04 K) (pv 0) (@a02 _ _ _ _) (fun _ _=>rfl))))) (@a01 _) (by rfl)) (by rfl) (by rfl) (by rfl) (by rfl) (by rfl) (by rfl)) (by rfl))
     (@a07 _ _ _ (@a34 _ _ 0 _ _ _ _ sc_law_blocks.nd rfl (by walk_at "o") (@a42 _ _ _ _ _ _ _ _ _ _ (a43 K) (pv 0) (@a40 _ _ _ (@a31 _ _ _ _ _ _ _ _ a25 (@a02 _ _ _ _) (@a30 _ _ _ _ _ _ _ (a04 K) (pv 0) (@a02 _ _ _ _) (fun _ _=>rfl)))) (@a79 _)) (by rfl) (by walk_at "o"))))))
    (@a03 _ _ _ _ _ (@a76 _ _ _ _ _ _ _ _ (@a09 _ _ _ _ _ _ _ _ ad3 (@a26 _ _ _ _ _ _ _ _ _ (a36 K) (by rfl) T.z_len a54 (@a00 _ _ _ _ _ (pv 2) (@a01 _) (by rfl)) (by decide) (by decide) (by rfl) (by rfl)) (pv 1) (nomark _)) (@a07 _ _ _ (@a32 _ _ _ _ (@a89 _ _ _))) (@a35 _))
    (@a07 _ _ _ (@a32 _ _ _ _ (@a24 _ _ _ _ (@a00 _ _ _ _ _ (pv 2) (@a00 _ _ _ _ _ (pv 0) (@a01 _) (by rfl)) (by rfl)))))))),?_⟩
   have sl:(1000000:Nat)≤sizeLine:=le_line (Nat.le_refl _)
   walk_at "go"
   intro pf H1 f1 s1 e1
   walk_at "run"
   refine b07 (fun mm σ H'=>Same H H'∧∃ (a':Addr) (c':List Nat) (pre:List (List Nat)) (vs:List V),σ=[some (.ref a'),some (.int (m:Nat)),some (.ref pf)]∧mm=c'.length∧H' a'=some (.lst (natsV c'))∧H' pf=some (.lst vs)∧LGs natsV H' vs pre∧(∀ v∈vs,v≠.ref pf)∧a'≠pf∧pre.length+c'.length≤5000∧pre.length≤m∧lb m c=(lb (m - pre.length) c').map fun y=>(pre++y.1,y.2)) c.length ⟨s1,a,c,[],[],rfl,rfl,s1 _ _ ha,e1,LGs.nil,by simp,a06 ha f1,by simpa using hcl,by simp,?_⟩ ?_
   · cases h:lb m c with
     | none=>simp [h]
     | some y=>simp [h]
   rintro mm σ H2 ⟨s2,a',c',pre,vs,rfl,rfl,ha',hpf,hLL,hne,hna,hlen,hpm,hlb⟩
   walk_at "run"
   intro p3 H3 f3 s3 e3
   refine ac5 (SqL.of (s3 _ _ ha')) (SqL.of e3) ?_
   have s03:=s2.trans s3
   have hpf3:=s3 _ _ hpf
   have hLL3:=hLL.same s3
   have vl:vs.length=pre.length:=hLL.1
   cases c' with
   | nil =>
     refine ⟨false,rfl,?_⟩
     rw [if_neg Bool.false_ne_true]
     walk_at "run"
     refine a47 (SqL.of hpf3) ?_
     walk_at "run"
     rw [vl]
     refine ite2 (fun hc=>?_) (fun hc=>?_)
     · walk_at "run"
       have:pre.length<m:=by simp at hc; omega
       refine qn H3 s03 ?_
       rw [hlb,show m - pre.length=(m - pre.length - 1)+1 by omega,bq3]
       rfl
     · have:m - pre.length=0:=by simp at hc; omega
       walk_at "run"
       intro p4 H4 f4 s4 e4
       rw [this] at hlb
       refine q p4 pf a' vs pre [] H4 (s03.trans s4) ?_ e4 (s4 _ _ hpf3) (hLL3.same s4) ((s3.trans s4) _ _ ha')
       rw [hlb]
       simp [lb]
   | cons x r =>
     have ha3:=s3 _ _ ha'
     refine ⟨true,rfl,?_⟩
     rw [if_pos rfl]
     walk_at "run"
     refine a47 (SqL.of hpf3) ?_
     walk_at "run"
     rw [vl]
     refine ite2 (fun hc=>?_) (fun hc=>?_)
     · have hlt:pre.length<m:=by simp at hc; omega
       have em:m - pre.length=(m - (pre.length+1))+1:=by omega
       refine ⟨fun σ' H'=>Same H H'∧∃ (b:Addr) (vs':List V),σ'=[some (.ref b),some (.int (m:Nat)),some (.ref pf)]∧H' b=some (.lst (natsV (r.drop x)))∧H' pf=some (.lst vs')∧LGs natsV H' vs' (pre++[r.take x])∧(∀ v∈vs',v≠.ref pf)∧b≠pf∧x≤r.length,fun σ' H' ⟨s',b,vs',e,h1,h2,h3,h4,h5,h6⟩=>⟨_,?_,s',b,r.drop x,pre++[r.take x],vs',e,rfl,h1,h2,h3,h4,h5,?_,?_,?_⟩,?_⟩
       · simp; omega
       · simp only [List.length_cons,List.length_append,List.length_drop,List.length_nil] at hlen ⊢; omega
       · simp; omega
       · rw [hlb,em,bq4 h6,show m - (pre++[r.take x]).length=m - (pre.length+1) by simp]
         cases lb (m - (pre.length+1)) (r.drop x) <;> simp
       walk_at "run"
       refine a29 (SqL.of ha3) (a05 (j:=0) rfl) ?_
       walk_at "run"
       refine a47 (SqL.of ha3) ?_
       walk_at "run"
       rw [a28]
       refine ite2 (fun hd=>?_) (fun hd=>?_)
       · walk_at "run"
         refine qn H3 s03 ?_
         rw [hlb,em,bn1 (by simp at hd; omega)]
         rfl
       have hx:x≤r.length:=by simp at hd; omega
       walk_at "run"
       refine al5 (SqL.of hpf3) ?_
       walk_at "run"
       refine a29 (SqL.of ha3) (a05 (j:=0) rfl) ?_
       walk_at "run"
       refine a95 (SqL.of ha3) ?_
       rw [show (1:Int)+((x:Nat):Int)=((1+x:Nat):Int) by omega,show (some (1:Int))=some ((1:Nat):Int) from rfl,ag6,Nat.add_sub_cancel_left,show (x::r).drop 1=r from rfl]
       intro p4 H4 f4 s4 e4
       walk_at "run"
       refine a99 (s4 _ _ hpf3) (by rw [vl]; simp only [List.length_cons] at hlen; omega) ?_
       have np4:p4≠pf:=(a06 hpf3 f4).symm
       have ha5:upd H4 pf (.lst (vs++[.ref p4])) a'=some (.lst (natsV (x::r))):=by rw [a37 hna]; exact s4 _ _ ha3
       have s05:Same H (upd H4 pf (.lst (vs++[.ref p4]))):=(s03.trans s4).updNew f1
       have hne2:∀ v∈vs++[V.ref p4],v≠.ref pf:=fun v hv=>by
        rcases List.mem_append.mp hv with hv | hv
        · exact hne v hv
        · rw [List.mem_singleton.mp hv]
          exact fun z=>np4 (by injection z)
       have hLL5:LGs natsV (upd H4 pf (.lst (vs++[.ref p4]))) (vs++[.ref p4]) (pre++[r.take x]):=((hLL3.same s4).snoc e4).upd hne2
       have hpf5:upd H4 pf (.lst (vs++[.ref p4])) pf=some (.lst (vs++[.ref p4])):=a65
       generalize upd H4 pf (.lst (vs++[.ref p4]))=H5 at ha5 s05 hLL5 hpf5
       walk_at "run"
       refine a29 (SqL.of ha5) (a05 (j:=0) rfl) ?_
       walk_at "run"
       refine a95 (SqL.of ha5) ?_
       rw [show (1:Int)+((x:Nat):Int)=((x+1:Nat):Int) by omega,ar0,show (x::r).drop (x+1)=r.drop x from rfl]
       intro p6 H6 f6 s6 e6
       walk_at "run"
       exact ⟨s05.trans s6,p6,_,rfl,e6,s6 _ _ hpf5,hLL5.same s6,hne2,(a06 hpf5 f6).symm,hx⟩
     · have hmm:m - pre.length=0:=by simp at hc; omega
       walk_at "run"
       refine a47 (SqL.of hpf3) ?_
       walk_at "run"
       rw [vl]
       refine ite2 (fun hd=>?_) (fun hd=>?_)
       · exfalso
         simp at hd
         omega
       walk_at "run"
       intro p4 H4 f4 s4 e4
       rw [hmm] at hlb
       refine q p4 pf a' vs pre (x::r) H4 (s03.trans s4) ?_ e4 (s4 _ _ hpf3) (hLL3.same s4) (s4 _ _ ha3)
       rw [hlb]
       simp [lb]
theorem bn2 {ks ss:List Int}(hn:ks.Nodup) (h:∀ x∈ks,x∈ss):ks.length≤ss.length:=by
 have:=pigeon ss.length (ks.map fun x=>ss.idxOf x) (List.pairwise_map.mpr (List.Pairwise.imp_of_mem (fun {a b} ha hb hne e=>hne (by
  have h1:=List.getElem_idxOf (List.idxOf_lt_length_of_mem (h a ha))
  have h2:=List.getElem_idxOf (List.idxOf_lt_length_of_mem (h b hb))
  rw [← h1,←h2]
  simp only [e])) hn)) (fun k hk=>by
  obtain ⟨x,hx,rfl⟩:=List.mem_map.mp hk
  exact List.idxOf_lt_length_of_mem (h x hx))
 simpa using this
theorem bb3 {E:Nat}:∀ {a:Nat}{ts:List Tri},ris E a ts→(ts.map (·.1)).Pairwise (·<·)
 | a,[],_=>.nil
 | a,t::ts,h=>by
   rw [List.map_cons,List.pairwise_cons]
   refine ⟨fun x hx=>?_,bb3 h.2.2⟩
   obtain ⟨u,hu,rfl⟩:=List.mem_map.mp hx
   have:=(am8 h.2.2 u hu).1
   omega
theorem bb4 {E:Nat}:∀ {a:Nat}{ts:List Tri},(∀ t∈ts,a≤t.1∧t.1<E)→(ts.map (·.1)).Pairwise (·<·)→ris E a ts
 | a,[],_,_=>trivial
 | a,t::ts,h,hp=>by
   rw [List.map_cons,List.pairwise_cons] at hp
   obtain ⟨h1,h2⟩:=h t (by simp)
   refine ⟨h1,h2,bb4 (fun u hu=>⟨?_,(h u (by simp [hu])).2⟩) hp.2⟩
   have:=hp.1 u.1 (List.mem_map.mpr ⟨u,hu,rfl⟩)
   omega
theorem bf0 {l:List Nat}(h:l.Pairwise (·<·)):(zs l).Pairwise (·≤·)∧(zs l).Nodup:=by
 unfold zs List.Nodup
 rw [List.pairwise_map,List.pairwise_map]
 exact ⟨h.imp fun {a b} q=>by omega,h.imp fun {a b} q=>by omega⟩
theorem bf1 {l:List Nat}(h:(zs l).Pairwise (·≤·)) (hn:(zs l).Nodup):l.Pairwise (·<·):=by
 unfold zs List.Nodup at *
 rw [List.pairwise_map] at h hn
 exact List.Pairwise.imp₂ (fun a b p q=>by omega) h hn
def b56 (K:PySem.W.Frag):Sp:=fun vs H Q _=>∃ (s:Addr) (l:List Nat) (E S R:Nat),vs=[.ref s,.int (E:Nat),.int (S:Nat),.int (R:Nat)]∧H s=some (.lst (natsV l))∧l.length≤180∧∀ b H',(b=true↔∃ h,l=shL h∧ShG h E S R)→Same H H'→Q (.bl b) H'
theorem af9 (T:Txt K mg t):FnOk P w K mg base CX0 2 t.a__law_shape_good t.fd__law_shape_good ["shape","events","says","rooms"] (b56 K):=by
 have G__law_triples:=ad4 (P:=P) (w:=w) (base:=base) T
 refine T.F__law_shape_good.ok sc_law_shape_good (fun vs H Q E h=>?_) (fun cdv A outer s H vs Q E hr h=>?_)
 · obtain ⟨s,l,E,S,R,rfl,_⟩:=h
   rfl
 · obtain ⟨s0,l,En,Sn,Rn,rfl,hs,hl,q⟩:=h
   refine ⟨_,(@a03 _ _ _ _ _ (@a76 _ _ _ _ _ _ _ _ (@PW.pt _ _ _ (@aa6 _ _ _ _ _ _ _ (@a09 _ _ _ _ _ _ _ _ ad3 (@a26 _ _ _ _ _ _ _ _ _ (a36 K) (by rfl) T.z_len a54 (@a00 _ _ _ _ _ (pv 0) (@a01 _) (by rfl)) (by decide) (by decide) (by rfl) (by rfl)) (@a02 _ _ _ _) (nomark _)) (@aa6 _ _ _ _ _ _ _ (@a09 _ _ _ _ _ _ _ _ ar6 (@a31 _ _ _ _ _ _ _ _ aa7 (@a26 _ _ _ _ _ _ _ _ _ (a36 K) (by rfl) T.z_len a54 (@a00 _ _ _ _ _ (pv 0) (@a01 _) (by rfl)) (by decide) (by decide) (by rfl) (by rfl)) (@a02 _ _ _ _)) (@a02 _ _ _ _) (nomark _)) (@aa6 _ _ _ _ _ _ _ (@a09 _ _ _ _ _ _ _ _ ak3 (@a30 _ _ _ _ _ _ _ (a04 K) (pv 0) (@a02 _ _ _ _) (fun _ _=>rfl)) (pv 2) (nomark _)) (@aa4 _ _ _ _ (@a09 _ _ _ _ _ _ _ _ ak3 (@a30 _ _ _ _ _ _ _ (a04 K) (pv 0) (@a02 _ _ _ _) (fun _ _=>rfl)) (pv 3) (nomark _))))))) (@a07 _ _ _ (@a32 _ _ _ _ (@ab9 _ _ _ _))) (@a35 _))
    (@a03 _ _ _ _ _ (bh6 (i:=4) (Nt:=["one"]) (Nf:=[]) (caps:=[]) rfl (a71 (sc:=defScope a33) rfl rfl (by decide +kernel) (by decide +kernel) (by decide +kernel) rfl (by decide +kernel)) (a39 K (@a08 _ _ _ _ _ _ _ _ _ _ _ _ _ _ _ _ G__law_triples (hr.mono (by omega)) rfl T.m__law_triples T.F__law_triples.kp T.b__law_triples .nil a38 (@a00 _ _ _ _ _ (pv 0) (@a01 _) (by rfl)) (by decide) (by rfl) (by rfl))) (fun _ _ _ _ _=>(a27 (i:=0) (show (["one"]:List Str).Nodup by decide +kernel) rfl (by walk_at "o"))) (fun _ _ _ _ _=>(@a88 _)) (fun _ _ _ _ _=>(@a30 _ _ _ _ _ _ _ (a04 K) (pv 0) (@a02 _ _ _ _) (fun _ _=>rfl))) sc_law_shape_good.nd rfl (by walk_at "o") rfl)
    (@a03 _ _ _ _ _ (@a76 _ _ _ _ _ _ _ _ (@PW.pt _ _ _ (@aa6 _ _ _ _ _ _ _ (@a09 _ _ _ _ _ _ _ _ (b92 (by exact hr.units)) (pv 4) (@a26 _ _ _ _ _ _ _ _ _ (b91 (P:=P) (w:=w) rfl rfl rfl) (by rfl) T.z_sorted b03 (@a00 _ _ _ _ _ (@aa8 _ _ _ _ _ _ _ _ _ (be5 (P:=P) (w:=w) K rfl rfl rfl) (by rfl) T.z_set bi6 (@a00 _ _ _ _ _ (pv 4) (@a01 _) (by rfl)) (by decide) (by decide) (by rfl) (by rfl)) (@a01 _) (by rfl)) (by decide) (by decide) (by rfl) (by rfl)) (nomark _)) (@aa4 _ _ _ _ (@a09 _ _ _ _ _ _ _ _ (a96 K (by exact hr.units)) (ab0 (Nt:=["place"]) (Nf:=["events"]) (caps:=[1]) rfl (a71 (sc:=defScope a33) rfl rfl (by decide +kernel) (by decide +kernel) (by decide +kernel) rfl (by decide +kernel)) (a39 K (pv 4)) (fun _ _ _ _ _=>(a27 (i:=0) (show (["place","events"]:List Str).Nodup by decide +kernel) rfl (by walk_at "o"))) (fun _ _ _ _ _=>(@af3 _ _ _ (@a09 _ _ _ _ _ _ _ _ ak3 (pv 0) (pv 1) (nomark _)))) (fun _ _ _ _ _=>(pv 0))) (@a24 _ _ _ _ (@a01 _)) (nomark _))))) (@a07 _ _ _ (@a32 _ _ _ _ (@ab9 _ _ _ _))) (@a35 _))
    (@a07 _ _ _ (@a32 _ _ _ _ (@af2 _ _ _ _ _ _ _ _ (ag9 K (by exact hr.units)) (ab0 (Nt:=["one"]) (Nf:=["says","rooms"]) (caps:=[2,3]) rfl (a71 (sc:=defScope a33) rfl rfl (by decide +kernel) (by decide +kernel) (by decide +kernel) rfl (by decide +kernel)) (a39 K (@a08 _ _ _ _ _ _ _ _ _ _ _ _ _ _ _ _ G__law_triples (hr.mono (by omega)) rfl T.m__law_triples T.F__law_triples.kp T.b__law_triples .nil a38 (@a00 _ _ _ _ _ (pv 0) (@a01 _) (by rfl)) (by decide) (by rfl) (by rfl))) (fun _ _ _ _ _=>(a27 (i:=0) (show (["one","says","rooms"]:List Str).Nodup by decide +kernel) rfl (by walk_at "o"))) (fun _ _ _ _ _=>(@af3 _ _ _ (@PW.pt _ _ _ (@aa6 _ _ _ _ _ _ _ (@a09 _ _ _ _ _ _ _ _ ak3 (@a30 _ _ _ _ _ _ _ (a04 K) (pv 0) (@a02 _ _ _ _) (fun _ _=>rfl)) (pv 1) (nomark _)) (@aa4 _ _ _ _ (@a09 _ _ _ _ _ _ _ _ ak3 (@a30 _ _ _ _ _ _ _ (a04 K) (pv 0) (@a02 _ _ _ _) (fun _ _=>rfl)) (pv 2) (nomark _))))))) (fun _ _ _ _ _=>(pv 0))) (@a24 _ _ _ _ (@a01 _)) (nomark _))))))),?_⟩
   have sl:(1000000:Nat)≤sizeLine:=le_line (Nat.le_refl _)
   have no:∀ {b:Bool},b=false→(¬ ∃ h,l=shL h∧ShG h En Sn Rn)→(b=true↔∃ h,l=shL h∧ShG h En Sn Rn):=fun hb hw=>⟨fun z=>(by rw [hb] at z; cases z),fun z=>absurd z hw⟩
   walk_at "go"
   refine a47 (SqL.of hs) ?_
   walk_at "run"
   rw [a28]
   refine ite2 (fun hc=>?_) (fun hc=>?_)
   · walk_at "run"
     refine q false H (no rfl fun ⟨h,e,_⟩=>?_) (Same.refl _)
     have:=congrArg List.length e
     rw [ac9] at this
     simp at hc
     omega
   walk_at "run"
   refine a47 (SqL.of hs) ?_
   walk_at "run"
   rw [a28]
   refine ite2 (fun hc2=>?_) (fun hc2=>?_)
   · walk_at "run"
     refine q false H (no rfl fun ⟨h,e,_⟩=>?_) (Same.refl _)
     have:=congrArg List.length e
     rw [ac9] at this
     simp at hc2
     omega
   have hl3:l.length % 3=2:=by simp at hc2; omega
   obtain ⟨h,rfl⟩:=bb0 hl3
   have no2:(ShG h En Sn Rn→False)→¬ ∃ h',shL h=shL h'∧ShG h' En Sn Rn:=fun hn ⟨h',e,g⟩=>by
    cases b52 e
    exact hn g
   rw [ac9] at hl
   walk_at "run"
   refine a29 (SqL.of hs) (v:=.int (h.1.1:Nat)) (a05 (j:=0) rfl) ?_
   walk_at "run"
   refine ite2 (fun hc3=>?_) (fun hc3=>?_)
   · walk_at "run"
     refine q false H (no rfl (no2 fun g=>?_)) (Same.refl _)
     have:=g.2.1
     simp at hc3
     omega
   walk_at "run"
   refine a29 (SqL.of hs) (v:=.int (h.1.2:Nat)) (a05 (j:=1) rfl) ?_
   walk_at "run"
   refine ite2 (fun hc4=>?_) (fun hc4=>?_)
   · walk_at "run"
     refine q false H (no rfl (no2 fun g=>?_)) (Same.refl _)
     have:=g.2.2.1
     simp at hc4
     omega
   have g1:h.1.1<Sn:=by simp at hc3; omega
   have g2:h.1.2<Rn:=by simp at hc4; omega
   walk_at "run"
   refine ⟨s0,h,rfl,hs,by omega,fun p1 acc H1 f1 s1 e1 hat=>?_⟩
   have al:acc.length=h.2.length:=by rw [hat.1,List.length_map]
   refine ⟨p1,rfl,⟨_,SqL.of e1⟩,a93 (xs:=acc) (by omega) (fun i ac H'=>H'=H1∧i≤acc.length∧ac=natsV ((h.2.take i).map (·.1))) ⟨rfl,Nat.zero_le _,rfl⟩ (fun i ac H' ⟨e,hi,ea⟩=>⟨by rw [ea,a28]; simp; omega,e ▸ SqL.of e1⟩) ?_ ?_⟩
   · rintro i x ac H' hx ⟨rfl,hi,rfl⟩
     obtain ⟨l,p2,hl2,rfl,e2⟩:=hat.get hx
     rw [List.getElem?_map] at hl2
     obtain ⟨t3,ht3,rfl⟩:=Option.map_eq_some_iff.mp hl2
     walk_at "run"
     refine a29 (SqL.of e2) (a05 (j:=0) rfl) ?_
     refine ⟨rfl,(List.getElem?_eq_some_iff.mp hx).1,?_⟩
     rw [List.take_add_one,ht3]
     simp [natsV]
   rintro ac H' ⟨rfl,_,rfl⟩ p2 H2 f2 s2 e2
   rw [al,List.take_length] at e2
   walk_at "run"
   have s02:=s1.trans s2
   have e2':=e2
   rw [aa3] at e2'
   refine ⟨p2,zs (h.2.map (·.1)),rfl,SqL.of e2',by rw [a91,List.length_map]; omega,fun p3 H3 ks f3 s3 h3 nd3 mem3=>?_⟩
   walk_at "run"
   have kl:=bn2 nd3 fun x hx=>(mem3 x).mp hx
   rw [a91,List.length_map] at kl
   refine ⟨p3,ks,rfl,h3,by omega,fun p4 out H4 f4 s4 e4 pm4 so4=>?_⟩
   have s24:=s3.trans s4
   have s04:=s02.trans s24
   refine bm4 (s24 _ _ e2') e4 ?_
   walk_at "run"
   have ndo:out.Nodup:=pm4.nodup_iff.mpr nd3
   have memo:∀ x,x∈zs (h.2.map (·.1))↔x∈out:=fun x=>(mem3 x).symm.trans pm4.mem_iff.symm
   refine ite2 (fun hd=>?_) (fun hd=>?_)
   · walk_at "run"
     refine q false H4 (no rfl (no2 fun g=>?_)) s04
     obtain ⟨z1,z2⟩:=bf0 (bb3 g.1)
     have:=ah4 z1 so4 z2 ndo memo
     simp [this] at hd
   have heq:zs (h.2.map (·.1))=out:=by simpa using hd
   rw [← heq] at so4 ndo
   have hpw:=bf1 so4 ndo
   walk_at "run"
   refine ⟨⟨_,SqL.of (s24 _ _ e2)⟩,a93 (xs:=natsV (h.2.map (·.1))) (by rw [a28,List.length_map]; omega) (fun i ac H'=>H'=H4∧ac.length≤i∧(ac=[]↔∀ z∈(h.2.map (·.1)).take i,z<En)) ⟨rfl,Nat.le_refl _,by simp⟩ (fun i ac H' ⟨e,hi,_⟩=>⟨hi,e ▸ SqL.of (s24 _ _ e2)⟩) ?_ ?_⟩
   · rintro i x ac H' hx ⟨rfl,hi,hiff⟩
     obtain ⟨z,hz,rfl⟩:=a97 hx
     have htk:(h.2.map (·.1)).take (i+1)=(h.2.map (·.1)).take i++[z]:=by rw [List.take_add_one,hz]; rfl
     walk_at "run"
     refine ite2 (fun hd=>?_) (fun hd=>?_)
     · walk_at "run"
       refine ⟨rfl,by simp; omega,?_⟩
       simp at hd
       constructor
       · intro hh; simp at hh
       · intro hh
         have:=hh z (by rw [htk]; simp)
         omega
     · simp at hd
       refine ⟨rfl,by omega,?_⟩
       rw [hiff,htk]
       constructor
       · intro hh y hy
         rcases List.mem_append.mp hy with hy | hy
         · exact hh y hy
         · rw [List.mem_singleton.mp hy]; omega
       · intro hh y hy
         exact hh y (List.mem_append_left _ hy)
   rintro ac H' ⟨rfl,_,hiff⟩ p5 H5 f5 s5 e5
   rw [a28,List.take_length] at hiff
   walk_at "run"
   intro p6 H6 f6 s6 e6
   refine ac5 (SqL.of (s6 _ _ e5)) (SqL.of e6) ?_
   have s06:=s04.trans (s5.trans s6)
   walk_at "run"
   refine ite2 (fun hd=>?_) (fun hd=>?_)
   · walk_at "run"
     refine q false H6 (no rfl (no2 fun g=>?_)) s06
     have:ac=[]:=hiff.mpr fun z hz=>by
      obtain ⟨u,hu,rfl⟩:=List.mem_map.mp hz
      exact (am8 g.1 u hu).2
     simp [this] at hd
   have hlt:=hiff.mp (by simpa using hd)
   have hris:ris En 0 h.2:=bb4 (fun u hu=>⟨Nat.zero_le _,hlt _ (List.mem_map.mpr ⟨u,hu,rfl⟩)⟩) hpw
   walk_at "run"
   refine ⟨s0,h,rfl,s06 _ _ hs,by omega,fun p7 acc7 H7 f7 s7 e7 hat7=>?_⟩
   have al7:acc7.length=h.2.length:=by rw [hat7.1,List.length_map]
   refine ⟨p7,rfl,⟨_,SqL.of e7⟩,a93 (xs:=acc7) (by omega) (fun i ac H'=>H'=H7∧ac.length≤i∧(ac=[]↔∀ t∈h.2.take i,t.2.1<Sn∧t.2.2<Rn)) ⟨rfl,Nat.le_refl _,by simp⟩ (fun i ac H' ⟨e,hi,_⟩=>⟨hi,e ▸ SqL.of e7⟩) ?_ ?_⟩
   · rintro i x ac H' hx ⟨rfl,hi,hiff⟩
     obtain ⟨l,p2,hl2,rfl,e2⟩:=hat7.get hx
     rw [List.getElem?_map] at hl2
     obtain ⟨t3,ht3,rfl⟩:=Option.map_eq_some_iff.mp hl2
     have htk:h.2.take (i+1)=h.2.take i++[t3]:=by rw [List.take_add_one,ht3]; rfl
     have bad:(¬ (t3.2.1<Sn∧t3.2.2<Rn))→∀ (ac:List V) (v:V),(ac++[v]=[]↔∀ t∈h.2.take (i+1),t.2.1<Sn∧t.2.2<Rn):=fun hb ac v=>⟨fun hh=>by simp at hh,fun hh=>absurd (hh t3 (by rw [htk]; simp)) hb⟩
     walk_at "run"
     refine a29 (SqL.of e2) (a05 (j:=1) rfl) ?_
     walk_at "run"
     refine ite2 (fun hd=>?_) (fun hd=>?_)
     · walk_at "run"
       exact ⟨rfl,by simp; omega,bad (by simp at hd; omega) _ _⟩
     walk_at "run"
     refine a29 (SqL.of e2) (a05 (j:=2) rfl) ?_
     walk_at "run"
     refine ite2 (fun hd2=>?_) (fun hd2=>?_)
     · walk_at "run"
       exact ⟨rfl,by simp; omega,bad (by simp at hd2; omega) _ _⟩
     · simp at hd hd2
       refine ⟨rfl,by omega,?_⟩
       rw [hiff,htk]
       constructor
       · intro hh y hy
         rcases List.mem_append.mp hy with hy | hy
         · exact hh y hy
         · rw [List.mem_singleton.mp hy]; omega
       · intro hh y hy
         exact hh y (List.mem_append_left _ hy)
   rintro ac7 H' ⟨rfl,_,hiff7⟩ p8 H8 f8 s8 e8
   rw [al7,List.take_length] at hiff7
   walk_at "run"
   intro p9 H9 f9 s9 e9
   refine ar9 (SqL.of (s9 _ _ e8)) (SqL.of e9) ?_
   refine q _ H9 ?_ (s06.trans (s7.trans (s8.trans s9)))
   rw [List.isEmpty_iff,hiff7]
   exact ⟨fun hh=>⟨h,rfl,hris,g1,g2,hh⟩,fun ⟨h',e,g⟩=>by
    cases b52 e
    exact g.2.2.2⟩
open Z (a41 a64 a62 a72 a51 a52 a59)
structure PtsAt (H:Hp) (p a b d:Addr) (bs ds:List V) (k:Pk):Prop where
 e:H p=some (.lst [.ref a,.ref b,.ref d,.int (k.say:Nat)])
 ea:H a=some (.lst (natsV k.told))
 eb:H b=some (.lst bs)
 hb:LGs natsV H bs (k.shs.map shL)
 ed:H d=some (.lst ds)
 hd:LGs natsV H ds k.sys
theorem PtsAt.same {H H':Hp}{p a b d:Addr}{bs ds:List V}{k:Pk}(h:PtsAt H p a b d bs ds k) (s:Same H H'):PtsAt H' p a b d bs ds k:=⟨s _ _ h.e,s _ _ h.ea,s _ _ h.eb,h.hb.same s,s _ _ h.ed,h.hd.same s⟩
theorem ae9 {ls:List (List Nat)}:ls.length≤(blocks ls).length∧∀ l∈ls,l.length≤(blocks ls).length:=by
 induction ls with
 | nil=>simp [blocks]
 | cons m ls ih =>
   rw [a55]
   refine ⟨by simp; omega,fun l hl=>?_⟩
   rcases List.mem_cons.mp hl with rfl | hl
   · simp; omega
   · have:=ih.2 l hl
     simp
     omega
theorem ab6 {xs:List V}{k:Nat}:cutV xs none (some (k:Int))=xs.take k:=by
 unfold cutV
 rw [HT.sIx_none,HT.sIx_nat,List.drop_zero,Nat.sub_zero]
 by_cases h:k≤xs.length
 · rw [Nat.min_eq_left h]
 · rw [Nat.min_eq_right (by omega),List.take_of_length_le (by simp),List.take_of_length_le (by omega)]
def b57 (K:PySem.W.Frag):Sp:=fun vs H Q _=>∃ (a:Addr) (c:List Int) (E T:Nat),vs=[.int (E:Nat),.int (T:Nat),.ref a]∧H a=some (.lst (intsV c))∧c.length≤180∧(∀ H',Same H H'→(¬ ∃ k,c=zs k.cells∧PkS k E T)→Q .non H')∧∀ p a' b d bs ds k H',Same H H'→c=zs k.cells→PkS k E T→PtsAt H' p a' b d bs ds k→Q (.ref p) H'
theorem ar1 (T:Txt K mg t):FnOk P w K mg base CX0 3 t.a__law_parts t.fd__law_parts ["events","texts","cells"] (b57 K):=by
 have G__law_blocks:=am9 (P:=P) (w:=w) (base:=base) T
 have G__law_shape_good:=af9 (P:=P) (w:=w) (base:=base) T
 refine T.F__law_parts.ok sc_law_parts (fun vs H Q E h=>?_) (fun cdv A outer s H vs Q E hr h=>?_)
 · obtain ⟨a,c,E,T,rfl,_⟩:=h
   rfl
 · obtain ⟨a,c,En,Tn,rfl,ha,hcl,qn,q⟩:=h
   refine ⟨_,(@a03 _ _ _ _ _ (@a76 _ _ _ _ _ _ _ _ (@PW.pt _ _ _ (@aa6 _ _ _ _ _ _ _ (@a09 _ _ _ _ _ _ _ _ ad3 (@a26 _ _ _ _ _ _ _ _ _ (a36 K) (by rfl) T.z_len a54 (@a00 _ _ _ _ _ (pv 2) (@a01 _) (by rfl)) (by decide) (by decide) (by rfl) (by rfl)) (@a02 _ _ _ _) (nomark _)) (@aa4 _ _ _ _ (@a09 _ _ _ _ _ _ _ _ (a96 K (by exact hr.units)) (ab0 (Nt:=["cell"]) (Nf:=[]) (caps:=[]) rfl (a71 (sc:=defScope a45) rfl rfl (by decide +kernel) (by decide +kernel) (by decide +kernel) rfl (by decide +kernel)) (a39 K (pv 2)) (fun _ _ _ _ _=>(a27 (i:=0) (show (["cell"]:List Str).Nodup by decide +kernel) rfl (by walk_at "o"))) (fun _ _ _ _ _=>(@af3 _ _ _ (@a09 _ _ _ _ _ _ _ _ ad3 (pv 0) (@a02 _ _ _ _) (nomark _)))) (fun _ _ _ _ _=>(pv 0))) (@a24 _ _ _ _ (@a01 _)) (nomark _))))) (@a07 _ _ _ (@a32 _ _ _ _ (@a89 _ _ _))) (@a35 _))
    (@a03 _ _ _ _ _ (@ai5 _ _ _ _ _ _ (@a42 _ _ _ _ _ _ _ _ _ _ (a43 K) (pv 2) (@a79 _) (@a40 _ _ _ (@a02 _ _ _ _))) (bd7 K (n:=4) rfl (a44 (a27 (i:=3) sc_law_parts.nd rfl (by walk_at "o")) (a44 (a27 (i:=4) sc_law_parts.nd rfl (by walk_at "o")) (a44 (a27 (i:=5) sc_law_parts.nd rfl (by walk_at "o")) (a44 (a27 (i:=6) sc_law_parts.nd rfl (by walk_at "o")) (@aa5 _)))))) (by rfl) (by rfl) (by rfl))
    (@a03 _ _ _ _ _ (@a76 _ _ _ _ _ _ _ _ (@PW.pt _ _ _ (@aa6 _ _ _ _ _ _ _ (@a09 _ _ _ _ _ _ _ _ ad3 (pv 3) (@a02 _ _ _ _) (nomark _)) (@aa6 _ _ _ _ _ _ _ (@a09 _ _ _ _ _ _ _ _ bg5 (pv 3) (@a02 _ _ _ _) (nomark _)) (@aa6 _ _ _ _ _ _ _ (@a09 _ _ _ _ _ _ _ _ ad3 (@a26 _ _ _ _ _ _ _ _ _ (a36 K) (by rfl) T.z_len a54 (@a00 _ _ _ _ _ (pv 2) (@a01 _) (by rfl)) (by decide) (by decide) (by rfl) (by rfl)) (@a31 _ _ _ _ _ _ _ _ a25 (@a02 _ _ _ _) (pv 3)) (nomark _)) (@aa4 _ _ _ _ (@a09 _ _ _ _ _ _ _ _ ak3 (pv 6) (pv 4) (nomark _))))))) (@a07 _ _ _ (@a32 _ _ _ _ (@a89 _ _ _))) (@a35 _))
    (@a03 _ _ _ _ _ (@a34 _ _ 7 _ _ _ _ sc_law_parts.nd rfl (by walk_at "o") (@a08 _ _ _ _ _ _ _ _ _ _ _ _ _ _ _ _ G__law_blocks (hr.mono (by omega)) rfl T.m__law_blocks T.F__law_blocks.kp T.b__law_blocks .nil a38 (@a00 _ _ _ _ _ (@a42 _ _ _ _ _ _ _ _ _ _ (a43 K) (pv 2) (@a40 _ _ _ (@a31 _ _ _ _ _ _ _ _ a25 (@a02 _ _ _ _) (pv 3))) (@a79 _)) (@a00 _ _ _ _ _ (pv 5) (@a01 _) (by rfl)) (by rfl)) (by decide) (by rfl) (by rfl)) (by rfl) (by walk_at "o"))
    (@a03 _ _ _ _ _ (@a76 _ _ _ _ _ _ _ _ (@a09 _ _ _ _ _ _ _ _ af4 (pv 7) (@a89 _ _ _) (nomark _)) (@a07 _ _ _ (@a32 _ _ _ _ (@a89 _ _ _))) (@a35 _))
    (@a03 _ _ _ _ _ (@a34 _ _ 8 _ _ _ _ sc_law_parts.nd rfl (by walk_at "o") (@a08 _ _ _ _ _ _ _ _ _ _ _ _ _ _ _ _ G__law_blocks (hr.mono (by omega)) rfl T.m__law_blocks T.F__law_blocks.kp T.b__law_blocks .nil a38 (@a00 _ _ _ _ _ (@a30 _ _ _ _ _ _ _ (a04 K) (pv 7) (@a02 _ _ _ _) (fun _ _=>rfl)) (@a00 _ _ _ _ _ (pv 4) (@a01 _) (by rfl)) (by rfl)) (by decide) (by rfl) (by rfl)) (by rfl) (by walk_at "o"))
    (@a03 _ _ _ _ _ (@a76 _ _ _ _ _ _ _ _ (@PW.pt _ _ _ (@aa6 _ _ _ _ _ _ _ (@a09 _ _ _ _ _ _ _ _ af4 (pv 8) (@a89 _ _ _) (nomark _)) (@aa4 _ _ _ _ (@a09 _ _ _ _ _ _ _ _ (a96 K (by exact hr.units)) (@a30 _ _ _ _ _ _ _ (a04 K) (pv 8) (@a02 _ _ _ _) (fun _ _=>rfl)) (@a24 _ _ _ _ (@a01 _)) (nomark _))))) (@a07 _ _ _ (@a32 _ _ _ _ (@a89 _ _ _))) (@a35 _))
    (@a03 _ _ _ _ _ (@a76 _ _ _ _ _ _ _ _ (@a09 _ _ _ _ _ _ _ _ (a96 K (by exact hr.units)) (ab0 (Nt:=["shape"]) (Nf:=["events","says","rooms"]) (caps:=[0,4,3]) rfl (a71 (sc:=defScope a45) rfl rfl (by decide +kernel) (by decide +kernel) (by decide +kernel) rfl (by decide +kernel)) (a39 K (@a30 _ _ _ _ _ _ _ (a04 K) (pv 7) (@a02 _ _ _ _) (fun _ _=>rfl))) (fun _ _ _ _ _=>(a27 (i:=0) (show (["shape","events","says","rooms"]:List Str).Nodup by decide +kernel) rfl (by walk_at "o"))) (fun _ _ _ _ _=>(@af3 _ _ _ (@ac1 _ _ _ _ (ad5 K (@a08 _ _ _ _ _ _ _ _ _ _ _ _ _ _ _ _ G__law_shape_good (hr.mono (by omega)) rfl T.m__law_shape_good T.F__law_shape_good.kp T.b__law_shape_good .nil a38 (@a00 _ _ _ _ _ (pv 0) (@a00 _ _ _ _ _ (pv 1) (@a00 _ _ _ _ _ (pv 2) (@a00 _ _ _ _ _ (pv 3) (@a01 _) (by rfl)) (by rfl)) (by rfl)) (by rfl)) (by decide) (by rfl) (by rfl)) (fun _=>rfl))))) (fun _ _ _ _ _=>(pv 0))) (@a24 _ _ _ _ (@a01 _)) (nomark _)) (@a07 _ _ _ (@a32 _ _ _ _ (@a89 _ _ _))) (@a35 _))
    (@a03 _ _ _ _ _ (@a76 _ _ _ _ _ _ _ _ (@a09 _ _ _ _ _ _ _ _ (a96 K (by exact hr.units)) (ab0 (Nt:=["said"]) (Nf:=["texts"]) (caps:=[1]) rfl (a71 (sc:=defScope a45) rfl rfl (by decide +kernel) (by decide +kernel) (by decide +kernel) rfl (by decide +kernel)) (a39 K (@a30 _ _ _ _ _ _ _ (a04 K) (pv 8) (@a02 _ _ _ _) (fun _ _=>rfl))) (fun _ _ _ _ _=>(a27 (i:=0) (show (["said","texts"]:List Str).Nodup by decide +kernel) rfl (by walk_at "o"))) (fun _ _ _ _ _=>(@af3 _ _ _ (@a09 _ _ _ _ _ _ _ _ (a96 K (by exact hr.units)) (ab0 (Nt:=["place"]) (Nf:=["texts"]) (caps:=[1]) rfl (a71 (ah1 (sc0:=defScope a45) rfl) rfl (by decide +kernel) (by decide +kernel) (by decide +kernel) rfl (by decide +kernel)) (a39 K (pv 0)) (fun _ _ _ _ _=>(a27 (i:=0) (show (["place","texts"]:List Str).Nodup by decide +kernel) rfl (by walk_at "o"))) (fun _ _ _ _ _=>(@af3 _ _ _ (@a09 _ _ _ _ _ _ _ _ ak3 (pv 0) (pv 1) (nomark _)))) (fun _ _ _ _ _=>(pv 0))) (@a24 _ _ _ _ (@a01 _)) (nomark _)))) (fun _ _ _ _ _=>(pv 0))) (@a24 _ _ _ _ (@a01 _)) (nomark _)) (@a07 _ _ _ (@a32 _ _ _ _ (@a89 _ _ _))) (@a35 _))
    (@a07 _ _ _ (@a32 _ _ _ _ (@a24 _ _ _ _ (@a00 _ _ _ _ _ (@a42 _ _ _ _ _ _ _ _ _ _ (a43 K) (pv 2) (@a40 _ _ _ (@a02 _ _ _ _)) (@a40 _ _ _ (@a31 _ _ _ _ _ _ _ _ a25 (@a02 _ _ _ _) (pv 3)))) (@a00 _ _ _ _ _ (@a30 _ _ _ _ _ _ _ (a04 K) (pv 7) (@a02 _ _ _ _) (fun _ _=>rfl)) (@a00 _ _ _ _ _ (@a30 _ _ _ _ _ _ _ (a04 K) (pv 8) (@a02 _ _ _ _) (fun _ _=>rfl)) (@a00 _ _ _ _ _ (pv 6) (@a01 _) (by rfl)) (by rfl)) (by rfl)) (by rfl)))))))))))))),?_⟩
   have sl:(1000000:Nat)≤sizeLine:=le_line (Nat.le_refl _)
   have cl4:∀ k:Pk,4≤(zs k.cells).length:=fun k=>by rw [a91]; simp [Pk.cells]
   walk_at "go"
   refine a47 (SqL.of ha) ?_
   walk_at "run"
   rw [Z.intsV_len]
   refine ite2 (fun hc=>?_) (fun hc=>?_)
   · walk_at "run"
     refine qn H (Same.refl _) fun ⟨k,e,_⟩=>?_
     have:=cl4 k
     rw [← e] at this
     simp at hc
     omega
   have h4:4≤c.length:=by simp at hc; omega
   walk_at "run"
   refine ⟨⟨_,SqL.of ha⟩,a93 (xs:=intsV c) (by rw [Z.intsV_len]; omega) (fun i ac H'=>H'=H∧ac.length≤i∧(ac=[]↔∀ z∈c.take i,0≤z)) ⟨rfl,Nat.le_refl _,by simp⟩ (fun i ac H' ⟨e,hi,_⟩=>⟨hi,e ▸ SqL.of ha⟩) ?_ ?_⟩
   · rintro i x ac H' hx ⟨rfl,hi,hiff⟩
     obtain ⟨z,hz,rfl⟩:=Z.intsV_get hx
     have htk:c.take (i+1)=c.take i++[z]:=by rw [List.take_add_one,hz]; rfl
     walk_at "run"
     refine ite2 (fun hd=>?_) (fun hd=>?_)
     · walk_at "run"
       refine ⟨rfl,by simp; omega,?_⟩
       simp at hd
       constructor
       · intro hh; simp at hh
       · intro hh
         have:=hh z (by rw [htk]; simp)
         omega
     · simp at hd
       refine ⟨rfl,by omega,?_⟩
       rw [hiff,htk]
       constructor
       · intro hh y hy
         rcases List.mem_append.mp hy with hy | hy
         · exact hh y hy
         · rw [List.mem_singleton.mp hy]; omega
       · intro hh y hy
         exact hh y (List.mem_append_left _ hy)
   rintro ac H' ⟨rfl,_,hiff⟩ p1 H1 f1 s1 e1
   rw [Z.intsV_len,List.take_length] at hiff
   walk_at "run"
   intro p2 H2 f2 s2 e2
   have s02:=s1.trans s2
   refine ac5 (SqL.of (s2 _ _ e1)) (SqL.of e2) ?_
   walk_at "run"
   refine ite2 (fun hd=>?_) (fun hd=>?_)
   · walk_at "run"
     refine qn H2 s02 fun ⟨k,e,_⟩=>?_
     have:ac=[]:=hiff.mpr fun z hz=>by
      rw [e] at hz
      obtain ⟨u,hu,rfl⟩:=List.mem_map.mp hz
      omega
     simp [this] at hd
   have hnn:=hiff.mp (by simpa using hd)
   obtain ⟨n,rfl⟩:=bb2 hnn
   rw [a91] at h4 hcl
   clear hiff hd hc hnn e1 e2 f1 f2
   match n,h4 with
   | a0::a1::a2::a3::rest,_ =>
   have inv:∀ k:Pk,zs (a0::a1::a2::a3::rest)=zs k.cells→a0=k.told.length∧a1=k.sys.length∧a2=k.shs.length∧a3=k.say∧rest=k.told++(blocks (k.shs.map shL)++blocks k.sys):=fun k e=>by
    have:=bb1 e
    simp only [Pk.cells,List.cons.injEq] at this
    exact this
   have ha2:=s02 _ _ ha
   rw [← aa3] at ha2
   simp only [List.length_cons] at hcl
   walk_at "run"
   refine a95 (SqL.of ha2) ?_
   rw [show (some (4:Int))=some ((4:Nat):Int) from rfl,ab6]
   intro p3 H3 f3 s3 e3
   walk_at "run"
   refine bk4 (xs:=[.int (a0:Nat),.int (a1:Nat),.int (a2:Nat),.int (a3:Nat)]) (SqL.of e3) rfl ?_
   have s03:=s02.trans s3
   have ha3:=s3 _ _ ha2
   clear e3 f3
   walk_at "run"
   refine ite2 (fun hc1=>?_) (fun hc1=>?_)
   · walk_at "run"
     refine qn H3 s03 fun ⟨k,e,g⟩=>?_
     obtain ⟨i0,_⟩:=inv k e
     have:=g.n0
     simp at hc1
     omega
   walk_at "run"
   refine ite2 (fun hc2=>?_) (fun hc2=>?_)
   · walk_at "run"
     refine qn H3 s03 fun ⟨k,e,g⟩=>?_
     obtain ⟨i0,_⟩:=inv k e
     have:=g.n1
     simp at hc2
     omega
   walk_at "run"
   refine a47 (SqL.of ha3) ?_
   walk_at "run"
   rw [a28]
   refine ite2 (fun hc3=>?_) (fun hc3=>?_)
   · walk_at "run"
     refine qn H3 s03 fun ⟨k,e,g⟩=>?_
     obtain ⟨i0,_,_,_,i4⟩:=inv k e
     have:=congrArg List.length i4
     simp only [List.length_append] at this
     simp at hc3
     omega
   walk_at "run"
   refine ite2 (fun hc4=>?_) (fun hc4=>?_)
   · walk_at "run"
     refine qn H3 s03 fun ⟨k,e,g⟩=>?_
     obtain ⟨_,i1,_,i3,_⟩:=inv k e
     have:=g.say
     simp at hc4
     omega
   have g0:0<a0:=by simp at hc1; omega
   have g0':a0≤2000:=by simp at hc2; omega
   have gl:a0≤rest.length:=by simp at hc3; omega
   have g3:a3<a1:=by simp at hc4; omega
   clear hc1 hc2 hc3 hc4
   walk_at "run"
   refine a95 (SqL.of ha3) ?_
   rw [show (4:Int)+((a0:Nat):Int)=((a0+4:Nat):Int) by omega,ar0,show (a0::a1::a2::a3::rest).drop (a0+4)=rest.drop a0 from rfl]
   intro p4 H4 f4 s4 e4
   walk_at "run"
   have s04:=s03.trans s4
   have lbk:∀ k:Pk,zs (a0::a1::a2::a3::rest)=zs k.cells→lb a2 (rest.drop a0)=some (k.shs.map shL,blocks k.sys):=fun k e=>by
    obtain ⟨i0,_,i2,_,i4⟩:=inv k e
    rw [i4,i0,List.drop_left,i2,←List.length_map (f:=shL)]
    exact ac6 _ _
   refine ⟨p4,rest.drop a0,a2,rfl,e4,by rw [List.length_drop]; omega,fun H5 s5 hno=>?_,fun pS fS aS vS ls1 r1 H5 s5 hlb1 eS efS hS eaS=>?_⟩
   · walk_at "run"
     refine ap4 rfl ?_
     walk_at "run"
     refine qn H5 (s04.trans s5) fun ⟨k,e,g⟩=>?_
     rw [lbk k e] at hno
     cases hno
   have s05:=s04.trans s5
   obtain ⟨d1,d1l⟩:=b50 hlb1
   have dl1:(blocks ls1).length+r1.length+a0=rest.length:=by
    have:=congrArg List.length d1
    simp only [List.length_drop,List.length_append] at this
    omega
   walk_at "run"
   refine aj0 (by simp) ?_
   walk_at "run"
   refine a29 (SqL.of eS) (a05 (j:=1) rfl) ?_
   walk_at "run"
   refine ⟨aS,r1,a1,rfl,eaS,by omega,fun H6 s6 hno=>?_,fun pY fY aY vY ls2 r2 H6 s6 hlb2 eY efY hY eaY=>?_⟩
   · walk_at "run"
     refine ap4 rfl ?_
     walk_at "run"
     refine qn H6 (s05.trans s6) fun ⟨k,e,g⟩=>?_
     have l1:=lbk k e
     rw [hlb1] at l1
     simp only [Option.some.injEq,Prod.mk.injEq] at l1
     have l2:=ac6 k.sys []
     rw [← (inv k e).2.1,List.append_nil,←l1.2,hno] at l2
     cases l2
   have s06:=s05.trans s6
   obtain ⟨d2,d2l⟩:=b50 hlb2
   have dl2:(blocks ls2).length+r2.length=r1.length:=by
    have:=congrArg List.length d2
    simp only [List.length_append] at this
    omega
   walk_at "run"
   refine aj0 (by simp) ?_
   walk_at "run"
   refine a29 (SqL.of eY) (a05 (j:=1) rfl) ?_
   walk_at "run"
   intro p7 H7 f7 s7 e7
   refine ac5 (SqL.of (s7 _ _ eaY)) (SqL.of e7) ?_
   have s07:=s06.trans s7
   have idk:∀ k:Pk,zs (a0::a1::a2::a3::rest)=zs k.cells→ls1=k.shs.map shL∧ls2=k.sys∧r2=[]:=fun k e=>by
    have l1:=lbk k e
    rw [hlb1] at l1
    simp only [Option.some.injEq,Prod.mk.injEq] at l1
    have l2:=ac6 k.sys []
    rw [← (inv k e).2.1,List.append_nil,←l1.2,hlb2] at l2
    simp only [Option.some.injEq,Prod.mk.injEq] at l2
    exact ⟨l1.1,l2.1,l2.2⟩
   walk_at "run"
   refine ite2 (fun hd=>?_) (fun hd=>?_)
   · walk_at "run"
     refine qn H7 s07 fun ⟨k,e,g⟩=>?_
     rw [(idk k e).2.2] at hd
     simp [natsV] at hd
   have hr2:r2=[]:=by
    cases r2 with
    | nil=>rfl
    | cons=>simp [natsV] at hd
   subst hr2
   clear hd
   have vSl:vS.length=ls1.length:=hS.1
   have vYl:vY.length=ls2.length:=hY.1
   have bi1:=ae9 (ls:=ls1)
   have bi2:=ae9 (ls:=ls2)
   have eS7:=(s6.trans s7) _ _ eS
   have efS7:=(s6.trans s7) _ _ efS
   have hS7:=hS.same (s6.trans s7)
   walk_at "run"
   refine a29 (SqL.of eS7) (a05 (j:=0) rfl) ?_
   refine ⟨fS,rfl,⟨_,SqL.of efS7⟩,a93 (xs:=vS) (by omega) (fun i ac H'=>Same H7 H'∧ac.length≤i∧(ac=[]↔∀ l∈ls1.take i,∃ h,l=shL h∧ShG h En a1 a0)) ⟨Same.refl _,Nat.le_refl _,by simp⟩ (fun i ac H' ⟨e,hi,_⟩=>⟨hi,SqL.of (e _ _ efS7)⟩) ?_ ?_⟩
   · rintro i x ac H8 hx ⟨s8,hi,hiff⟩
     obtain ⟨l,p9,hl2,rfl,e9⟩:=(hS7.same s8).get hx
     have htk:ls1.take (i+1)=ls1.take i++[l]:=by rw [List.take_add_one,hl2]; rfl
     walk_at "run"
     refine ⟨p9,l,En,a1,a0,rfl,e9,by have:=bi1.2 l (List.mem_of_getElem? hl2); omega,fun b H9 hb s9=>?_⟩
     walk_at "run"
     cases b with
     | false =>
       refine au7 ?_
       walk_at "run"
       refine ⟨s8.trans s9,by simp; omega,fun hh=>by simp at hh,fun hh=>?_⟩
       have:=hb.mpr (hh l (by rw [htk]; simp))
       cases this
     | true =>
       refine au6 ?_
       refine ⟨s8.trans s9,by omega,?_⟩
       rw [hiff,htk]
       constructor
       · intro hh y hy
         rcases List.mem_append.mp hy with hy | hy
         · exact hh y hy
         · rw [List.mem_singleton.mp hy]; exact hb.mp rfl
       · intro hh y hy
         exact hh y (List.mem_append_left _ hy)
   rintro ac8 H8 ⟨s8,_,hiff8⟩ p9 H9 f9 s9 e9
   rw [vSl,List.take_length] at hiff8
   walk_at "run"
   intro p10 H10 f10 s10 e10
   have s710:=s8.trans (s9.trans s10)
   refine ac5 (SqL.of (s10 _ _ e9)) (SqL.of e10) ?_
   walk_at "run"
   refine ite2 (fun hd=>?_) (fun hd=>?_)
   · walk_at "run"
     refine qn H10 (s07.trans s710) fun ⟨k,e,g⟩=>?_
     have:ac8=[]:=hiff8.mpr fun l hl=>by
      rw [(idk k e).1] at hl
      obtain ⟨u,hu,rfl⟩:=List.mem_map.mp hl
      obtain ⟨i0,i1,_⟩:=inv k e
      exact ⟨u,rfl,by rw [i0,i1]; exact g.sh u hu⟩
     simp [this] at hd
   have hsh:=hiff8.mp (by simpa using hd)
   have eY10:=(s7.trans s710) _ _ eY
   have efY10:=(s7.trans s710) _ _ efY
   have hY10:=hY.same (s7.trans s710)
   clear hd hiff8 e9 e10
   walk_at "run"
   refine a29 (SqL.of eY10) (a05 (j:=0) rfl) ?_
   refine ⟨fY,rfl,⟨_,SqL.of efY10⟩,a93 (xs:=vY) (by omega) (fun i ac H'=>Same H10 H'∧ac.length≤i∧(ac=[]↔∀ l∈ls2.take i,∀ n∈l,n<Tn)) ⟨Same.refl _,Nat.le_refl _,by simp⟩ (fun i ac H' ⟨e,hi,_⟩=>⟨hi,SqL.of (e _ _ efY10)⟩) ?_ ?_⟩
   · rintro i x ac H11 hx ⟨s11,hi,hiff⟩
     obtain ⟨l,p9,hl2,rfl,e9⟩:=(hY10.same s11).get hx
     have htk:ls2.take (i+1)=ls2.take i++[l]:=by rw [List.take_add_one,hl2]; rfl
     walk_at "run"
     refine ⟨⟨_,SqL.of e9⟩,a93 (xs:=natsV l) (by rw [a28]; have:=bi2.2 l (List.mem_of_getElem? hl2); omega) (fun j ac2 H'=>H'=H11∧ac2.length≤j∧(ac2=[]↔∀ n∈l.take j,n<Tn)) ⟨rfl,Nat.le_refl _,by simp⟩ (fun j ac2 H' ⟨e,hj,_⟩=>⟨hj,e ▸ SqL.of e9⟩) ?_ ?_⟩
     · rintro j x ac2 H' hx2 ⟨rfl,hj,hiff2⟩
       obtain ⟨z,hz,rfl⟩:=a97 hx2
       have htk2:l.take (j+1)=l.take j++[z]:=by rw [List.take_add_one,hz]; rfl
       walk_at "run"
       refine ite2 (fun hd=>?_) (fun hd=>?_)
       · walk_at "run"
         refine ⟨rfl,by simp; omega,?_⟩
         simp at hd
         constructor
         · intro hh; simp at hh
         · intro hh
           have:=hh z (by rw [htk2]; simp)
           omega
       · simp at hd
         refine ⟨rfl,by omega,?_⟩
         rw [hiff2,htk2]
         constructor
         · intro hh y hy
           rcases List.mem_append.mp hy with hy | hy
           · exact hh y hy
           · rw [List.mem_singleton.mp hy]; omega
         · intro hh y hy
           exact hh y (List.mem_append_left _ hy)
     rintro ac2 H' ⟨rfl,_,hiff2⟩ p12 H12 f12 s12 e12
     rw [a28,List.take_length] at hiff2
     walk_at "run"
     intro p13 H13 f13 s13 e13
     refine ac5 (SqL.of (s13 _ _ e12)) (SqL.of e13) ?_
     have s1113:=s11.trans (s12.trans s13)
     cases ac2 with
     | nil =>
       refine ⟨false,rfl,?_⟩
       rw [if_neg Bool.false_ne_true]
       refine ⟨s1113,by omega,?_⟩
       rw [hiff,htk]
       constructor
       · intro hh y hy
         rcases List.mem_append.mp hy with hy | hy
         · exact hh y hy
         · rw [List.mem_singleton.mp hy]; exact hiff2.mp rfl
       · intro hh y hy
         exact hh y (List.mem_append_left _ hy)
     | cons v2 vr =>
       refine ⟨true,rfl,?_⟩
       rw [if_pos rfl]
       walk_at "run"
       refine ⟨s1113,by simp; omega,fun hh=>by simp at hh,fun hh=>?_⟩
       have:=hiff2.mpr (hh l (by rw [htk]; simp))
       cases this
   rintro ac11 H11 ⟨s11,_,hiff11⟩ p12 H12 f12 s12 e12
   rw [vYl,List.take_length] at hiff11
   walk_at "run"
   intro p13 H13 f13 s13 e13
   have s1013:=s11.trans (s12.trans s13)
   have s013:=(s07.trans s710).trans s1013
   refine ac5 (SqL.of (s13 _ _ e12)) (SqL.of e13) ?_
   walk_at "run"
   refine ite2 (fun hd=>?_) (fun hd=>?_)
   · walk_at "run"
     refine qn H13 s013 fun ⟨k,e,g⟩=>?_
     have:ac11=[]:=hiff11.mpr fun l hl=>by
      rw [(idk k e).2.1] at hl
      exact g.sy l hl
     simp [this] at hd
   have hsy:=hiff11.mp (by simpa using hd)
   clear hd hiff11 e12 e13
   have s313:Same H3 H13:=s4.trans (s5.trans (s6.trans (s7.trans (s710.trans s1013))))
   walk_at "run"
   refine a95 (SqL.of (s313 _ _ ha3)) ?_
   rw [show (4:Int)+((a0:Nat):Int)=((4+a0:Nat):Int) by omega,show (some (4:Int))=some ((4:Nat):Int) from rfl,ag6,Nat.add_sub_cancel_left,show (a0::a1::a2::a3::rest).drop 4=rest from rfl]
   intro p14 H14 f14 s14 e14
   walk_at "run"
   refine a29 (SqL.of ((s1013.trans s14) _ _ (s710 _ _ eS7))) (a05 (j:=0) rfl) ?_
   walk_at "run"
   refine a29 (SqL.of ((s1013.trans s14) _ _ eY10)) (a05 (j:=0) rfl) ?_
   walk_at "run"
   intro p15 H15 f15 s15 e15
   obtain ⟨hs,hs1,hs2⟩:=af8 hsh
   have htl:(rest.take a0).length=a0:=by rw [List.length_take]; omega
   have s1015:=s1013.trans (s14.trans s15)
   have hsl:hs.length=a2:=by rw [← d1l,hs1,List.length_map]
   refine q p15 p14 fS fY vS vY ⟨rest.take a0,hs,ls2,a3⟩ H15 (s013.trans (s14.trans s15)) ?_ ?_ ⟨e15,s15 _ _ e14,(s710.trans s1015) _ _ efS7,?_,s1015 _ _ efY10,hY10.same s1015⟩
   · congr 1
     unfold Pk.cells
     simp only [htl,hsl,d2l]
     rw [← hs1,←List.append_nil (blocks ls2),←d2,←d1,List.take_append_drop]
   · refine ⟨by simp only [htl]; exact g0,by simp only [htl]; exact g0',by simp only [d2l]; exact g3,fun h hh=>?_,hsy⟩
     simp only [htl,d2l]
     exact hs2 h hh
   · show LGs natsV H15 vS (hs.map shL)
     rw [← hs1]
     exact hS7.same (s710.trans s1015)
open Z (a41 a64 a62 a72 a51 a52 a59)
def RmOk (k:Pk) (E i t:Nat):Prop:=t / 2<k.shs.length∧(t % 2=1→∀ h,k.shs[t / 2]?=some h→∀ j,j<E→(pickP h j).2=i∧k.sys[(pickP h j).1]?=some [])
theorem b98 {k:Pk}{E T:Nat}(v:PkS k E T) {h:Sh}(hh:h∈k.shs) (j:Nat):(pickP h j).1<k.sys.length∧(pickP h j).2<k.told.length:=by
 obtain ⟨_,h1,h2,h3⟩:=v.sh h hh
 unfold pickP
 cases e:h.2.find? (fun t=>t.1 == j) with
 | some t=>exact h3 t (List.mem_of_find?_eq_some e)
 | none=>exact ⟨h1,h2⟩
theorem bb5 {k:Pk}{h:Sh}(hh:h∈k.shs):h.2.length≤k.cells.length:=by
 have b:=(ae9 (ls:=k.shs.map shL)).2 (shL h) (List.mem_map.mpr ⟨h,hh,rfl⟩)
 rw [ac9] at b
 unfold Pk.cells
 simp only [List.length_cons,List.length_append]
 omega
def b99 (K:PySem.W.Frag):Sp:=fun vs H Q _=>∃ (a:Addr) (c:List Int) (E T:Nat),vs=[.int (E:Nat),.int (T:Nat),.ref a]∧H a=some (.lst (intsV c))∧c.length≤180∧E≤100∧(∀ H',Same H H'→(¬ ∃ k,c=zs k.cells∧PkV k E T)→Q .non H')∧∀ p a' b d bs ds k H',Same H H'→c=zs k.cells→PkV k E T→PtsAt H' p a' b d bs ds k→Q (.ref p) H'
theorem ah9 (T:Txt K mg t):FnOk P w K mg base CX0 4 t.a__law_good t.fd__law_good ["events","texts","cells"] (b99 K):=by
 have G__law_pair:=ah8 (P:=P) (w:=w) (base:=base) T
 have G__law_parts:=ar1 (P:=P) (w:=w) (base:=base) T
 refine T.F__law_good.ok sc_law_good (fun vs H Q E h=>?_) (fun cdv A outer s H vs Q E hr h=>?_)
 · obtain ⟨a,c,E,T,rfl,_⟩:=h
   rfl
 · obtain ⟨a,c,En,Tn,rfl,ha,hcl,hE,qn,q⟩:=h
   refine ⟨_,(@a03 _ _ _ _ _ (@a34 _ _ 3 _ _ _ _ sc_law_good.nd rfl (by walk_at "o") (@a08 _ _ _ _ _ _ _ _ _ _ _ _ _ _ _ _ G__law_parts (hr.mono (by omega)) rfl T.m__law_parts T.F__law_parts.kp T.b__law_parts .nil a38 (@a00 _ _ _ _ _ (pv 0) (@a00 _ _ _ _ _ (pv 1) (@a00 _ _ _ _ _ (pv 2) (@a01 _) (by rfl)) (by rfl)) (by rfl)) (by decide) (by rfl) (by rfl)) (by rfl) (by walk_at "o"))
    (@a03 _ _ _ _ _ (@a76 _ _ _ _ _ _ _ _ (@a09 _ _ _ _ _ _ _ _ af4 (pv 3) (@a89 _ _ _) (nomark _)) (@a07 _ _ _ (@a32 _ _ _ _ (@a89 _ _ _))) (@a35 _))
    (@a03 _ _ _ _ _ (@a98 _ _ _ _ _ _ _ _ PassesOwn.never rfl (b05 K rfl T.z_enumerate (@a00 _ _ _ _ _ (@a30 _ _ _ _ _ _ _ (a04 K) (pv 3) (@a02 _ _ _ _) (fun _ _=>rfl)) (@a01 _) (by rfl))) (ab2 K (n:=2) rfl (a44 (a27 (i:=4) sc_law_good.nd rfl (by walk_at "o")) (a44 (a27 (i:=5) sc_law_good.nd rfl (by walk_at "o")) (@aa5 _)))) (@a03 _ _ _ _ _ (@a76 _ _ _ _ _ _ _ _ (@a09 _ _ _ _ _ _ _ _ ak3 (@a31 _ _ _ _ _ _ _ _ ac3 (pv 5) (@a02 _ _ _ _)) (@a26 _ _ _ _ _ _ _ _ _ (a36 K) (by rfl) T.z_len a54 (@a00 _ _ _ _ _ (@a30 _ _ _ _ _ _ _ (a04 K) (pv 3) (@a02 _ _ _ _) (fun _ _=>rfl)) (@a01 _) (by rfl)) (by decide) (by decide) (by rfl) (by rfl)) (nomark _)) (@a07 _ _ _ (@a32 _ _ _ _ (@a89 _ _ _))) (@a35 _))
     (@a07 _ _ _ (@a98 _ _ _ _ _ _ _ _ PassesOwn.never rfl (aa1 rfl T.z_range (@a00 _ _ _ _ _ (pv 0) (@a01 _) (by rfl))) (a27 (i:=6) sc_law_good.nd rfl (by walk_at "o")) (@a03 _ _ _ _ _ (@ai5 _ _ _ _ _ _ (@a08 _ _ _ _ _ _ _ _ _ _ _ _ _ _ _ _ G__law_pair (hr.mono (by omega)) rfl T.m__law_pair T.F__law_pair.kp T.b__law_pair .nil a38 (@a00 _ _ _ _ _ (@a30 _ _ _ _ _ _ _ (a04 K) (@a30 _ _ _ _ _ _ _ (a04 K) (pv 3) (@a02 _ _ _ _) (fun _ _=>rfl)) (@a31 _ _ _ _ _ _ _ _ ac3 (pv 5) (@a02 _ _ _ _)) (fun _ _=>rfl)) (@a00 _ _ _ _ _ (pv 6) (@a01 _) (by rfl)) (by rfl)) (by decide) (by rfl) (by rfl)) (ab2 K (n:=2) rfl (a44 (a27 (i:=7) sc_law_good.nd rfl (by walk_at "o")) (a44 (a27 (i:=8) sc_law_good.nd rfl (by walk_at "o")) (@aa5 _)))) (by rfl) (by rfl) (by rfl))
      (@a07 _ _ _ (@a76 _ _ _ _ _ _ _ _ (@PW.pt _ _ _ (@ba1 _ _ _ _ _ _ _ (@a09 _ _ _ _ _ _ _ _ af1 (@a31 _ _ _ _ _ _ _ _ aa7 (pv 5) (@a02 _ _ _ _)) (@a02 _ _ _ _) (nomark _)) (@ay1 _ _ _ _ (@PW.pt _ _ _ (@aa6 _ _ _ _ _ _ _ (@a09 _ _ _ _ _ _ _ _ (a96 K (by exact hr.units)) (@a30 _ _ _ _ _ _ _ (a04 K) (@a30 _ _ _ _ _ _ _ (a04 K) (pv 3) (@a02 _ _ _ _) (fun _ _=>rfl)) (pv 7) (fun _ _=>rfl)) (@a24 _ _ _ _ (@a01 _)) (nomark _)) (@aa4 _ _ _ _ (@a09 _ _ _ _ _ _ _ _ ar6 (pv 8) (pv 4) (nomark _)))))))) (@a07 _ _ _ (@a32 _ _ _ _ (@a89 _ _ _))) (@a35 _)))) (by intro _; rfl)))) (by intro _; rfl))
    (@a07 _ _ _ (@a32 _ _ _ _ (pv 3)))))),?_⟩
   have sl:(1000000:Nat)≤sizeLine:=le_line (Nat.le_refl _)
   walk_at "go"
   refine ⟨a,c,En,Tn,rfl,ha,hcl,fun H1 s1 hno=>?_,fun p a' b d bs ds k H1 s1 ek v pt=>?_⟩
   · walk_at "run"
     refine ap4 rfl ?_
     walk_at "run"
     exact qn H1 s1 fun ⟨k,e,v⟩=>hno ⟨k,e,v.s⟩
   have kcl:k.cells.length≤180:=by rw [ek,a91] at hcl; exact hcl
   have un:∀ k',c=zs k'.cells→k'=k:=fun k' e=>b54 (bb1 (e.symm.trans ek))
   have bsl:bs.length=k.shs.length:=by rw [pt.hb.1,List.length_map]
   walk_at "run"
   refine aj0 (by simp) ?_
   walk_at "run"
   refine a29 (SqL.of pt.e) (a05 (j:=0) rfl) ?_
   walk_at "run"
   refine ⟨⟨_,SqL.of pt.ea⟩,av0 (K:=K) (a:=a') (xs:=natsV k.told) (fun i σ H'=>i≤k.told.length∧Same H1 H'∧(∀ i' t,i'<i→k.told[i']?=some t→RmOk k En i' t)∧∃ y1 y2 y3 y4 y5,σ=[some (.int (En:Nat)),some (.int (Tn:Nat)),some (.ref a),some (.ref p),y1,y2,y3,y4,y5]) ⟨Nat.zero_le _,Same.refl _,fun i' t h=>absurd h (Nat.not_lt_zero _),_,_,_,_,_,rfl⟩ (fun i σ H' _ ⟨_,s',_⟩=>SqL.of (s' _ _ pt.ea)) ?_ ?_⟩
   · rintro i x σ H2 pt2 H3 hx ⟨hil,s2,hrm,y1,y2,y3,y4,y5,rfl⟩ s3 e3
     obtain ⟨t,ht,rfl⟩:=a97 hx
     have s13:=s2.trans s3
     have pt3:=pt.same s13
     have hi:i<k.told.length:=(List.getElem?_eq_some_iff.mp ht).1
     have bad:¬ RmOk k En i t→¬ ∃ k,c=zs k.cells∧PkV k En Tn:=fun hn ⟨k',e,v'⟩=>by
      cases un k' e
      exact hn (v'.told i t ht)
     have goOn:RmOk k En i t→∀ i' t',i'<i+1→k.told[i']?=some t'→RmOk k En i' t':=fun hr i' t' hi' ht'=>by
      by_cases h:i'=i
      · subst h
        rw [ht] at ht'
        cases ht'
        exact hr
      · exact hrm i' t' (by omega) ht'
     refine aj1 (SqT.of e3) rfl ?_
     walk_at "run"
     refine a29 (SqL.of pt3.e) (a05 (j:=1) rfl) ?_
     walk_at "run"
     refine a47 (SqL.of pt3.eb) ?_
     walk_at "run"
     rw [bsl]
     refine ite2 (fun hc1=>?_) (fun hc1=>?_)
     · walk_at "run"
       refine qn H3 (s1.trans s13) (bad fun hr=>?_)
       have:=hr.1
       simp at hc1
       omega
     have h2:t / 2<k.shs.length:=by simp at hc1; omega
     obtain ⟨h,hh⟩:∃ h,k.shs[t / 2]?=some h:=⟨_,List.getElem?_eq_getElem h2⟩
     have hhm:=List.mem_of_getElem? hh
     have hhl:=bb5 hhm
     walk_at "run"
     rw [Int.toNat_natCast]
     refine ad9 (lo:=0) (n:=En) (fun j σ H'=>j≤En∧Same H3 H'∧(t % 2=1→∀ j',j'<j→(pickP h j').2=i∧k.sys[(pickP h j').1]?=some [])∧∃ y1 y2 y3,σ=[some (.int (En:Nat)),some (.int (Tn:Nat)),some (.ref a),some (.ref p),some (.int (i:Nat)),some (.int (t:Nat)),y1,y2,y3]) ⟨Nat.zero_le _,Same.refl _,fun _ j' h=>absurd h (Nat.not_lt_zero _),_,_,_,rfl⟩ ?_ ?_
     · rintro j σ H4 hj ⟨_,s4,hall,z1,z2,z3,rfl⟩
       have pt4:=pt3.same s4
       have s14:=s13.trans s4
       have bad2:t % 2=1→¬ ((pickP h j).2=i∧k.sys[(pickP h j).1]?=some [])→¬ ∃ k,c=zs k.cells∧PkV k En Tn:=fun ho hn=>bad fun hr=>hn (hr.2 ho h hh j hj)
       obtain ⟨qb,hqb,eqb⟩:=pt4.hb.2 (t / 2) (shL h) (by rw [List.getElem?_map,hh]; rfl)
       walk_at "run"
       refine a29 (SqL.of pt4.e) (a05 (j:=1) rfl) ?_
       walk_at "run"
       rw [show ((t:Nat):Int) / 2=((t / 2:Nat):Int) by omega]
       refine a29 (SqL.of pt4.eb) (a05 hqb) ?_
       walk_at "run"
       rw [show (0:Int)+((j:Nat):Int)=((j:Nat):Int) by omega]
       refine ⟨qb,h,j,rfl,eqb,by omega,fun p5 H5 f5 s5 e5=>?_⟩
       have pt5:=pt4.same s5
       have s15:=s14.trans s5
       walk_at "run"
       refine aj1 (SqT.of e5) rfl ?_
       walk_at "run"
       obtain ⟨w1,w2⟩:=b98 v hhm j
       refine ite2 (fun ho=>?_) (fun ho=>?_)
       · have ho':t % 2=1:=by simp at ho; omega
         obtain ⟨qd,hqd,eqd⟩:=pt5.hd.2 (pickP h j).1 _ (List.getElem?_eq_getElem w1)
         walk_at "run"
         refine a29 (SqL.of pt5.e) (a05 (j:=2) rfl) ?_
         walk_at "run"
         refine a29 (SqL.of pt5.ed) (a05 hqd) ?_
         walk_at "run"
         intro p6 H6 f6 s6 e6
         have s16:=s15.trans s6
         refine ac5 (SqL.of (s6 _ _ eqd)) (SqL.of e6) ?_
         walk_at "run"
         refine ite2 (fun hd=>?_) (fun hd=>?_)
         · walk_at "run"
           refine qn H6 (s1.trans s16) (bad2 ho' fun hr=>?_)
           have h2:=hr.2
           rw [List.getElem?_eq_getElem w1] at h2
           rw [Option.some.inj h2] at hd
           simp [natsV] at hd
         have he:k.sys[(pickP h j).1]?=some []:=by
          rw [List.getElem?_eq_getElem w1]
          simpa [natsV] using hd
         walk_at "run"
         refine ite2 (fun hg=>?_) (fun hg=>?_)
         · walk_at "run"
           refine qn H6 (s1.trans s16) (bad2 ho' fun hr=>?_)
           have:=hr.1
           simp at hg
           omega
         · have hgi:(pickP h j).2=i:=by simp at hg; omega
           refine ⟨hj,s4.trans (s5.trans s6),fun _ j' hj'=>?_,_,_,_,rfl⟩
           by_cases hjj:j'=j
           · rw [hjj]; exact ⟨hgi,he⟩
           · exact hall ho' j' (by omega)
       · refine ⟨hj,s4.trans s5,fun z=>?_,_,_,_,rfl⟩
         simp at ho
         omega
     · rintro σ H4 ⟨_,s4,hall,z1,z2,z3,rfl⟩
       refine ⟨hi,s13.trans s4,goOn ⟨h2,fun ho h' hh' j hj=>?_⟩,_,_,_,_,_,rfl⟩
       rw [hh] at hh'
       cases hh'
       exact hall ho j hj
   · rintro σ H2 ⟨_,s2,hrm,y1,y2,y3,y4,y5,rfl⟩
     rw [a28] at hrm
     walk_at "run"
     exact q p a' b d bs ds k H2 (s1.trans s2) ek (PkV.of v fun i t ht=>hrm i t (List.getElem?_eq_some_iff.mp ht).1 ht) (pt.same s2)
open Z (a41 a64 a62 a72 a51 a52 a59)
def b58 (K:PySem.W.Frag):Sp:=fun vs H Q _=>∃ (e tx p a b d:Addr) (us bs ds:List V) (txs:List Str) (k:Pk) (T:Nat),vs=[.ref e,.ref tx,.ref p]∧H e=some (.lst us)∧us.length≤100∧H tx=some (.lst (strsV txs))∧PtsAt H p a b d bs ds k∧k.cells.length≤180∧PkV k us.length txs.length∧∀ tt b' c rvs gs H',Same H H'→H' tt=some (.tup [.ref e,.ref b',.ref c])→H' b'=some (.lst (strsV (txOf txs (k.sys.getD k.say []))))→H' c=some (.lst rvs)→Tw.Ats H' ((rsOf k us.length txs).map roomW) rvs gs→Q (.ref tt) H'
theorem ar2 (T:Txt K mg t):FnOk P w K mg base CX0 3 t.a__law_table t.fd__law_table ["events","texts","parts"] (b58 K):=by
 have G__law_pair:=ah8 (P:=P) (w:=w) (base:=base) T
 refine T.F__law_table.ok sc_law_table (fun vs H Q E h=>?_) (fun cdv A outer s H vs Q E hr h=>?_)
 · obtain ⟨e,tx,p,a,b,d,us,bs,ds,txs,k,T,rfl,_⟩:=h
   rfl
 · obtain ⟨e,tx,p,a,b,d,us,bs,ds,txs,k,_,rfl,he,hul,htx,pt,kcl,v,q⟩:=h
   refine ⟨_,(@a03 _ _ _ _ _ (@a34 _ _ 3 _ _ _ _ sc_law_table.nd rfl (by walk_at "o") (ab0 (Nt:=["said"]) (Nf:=["texts"]) (caps:=[1]) rfl (a71 (sc:=defScope a46) rfl rfl (by decide +kernel) (by decide +kernel) (by decide +kernel) rfl (by decide +kernel)) (a39 K (@a30 _ _ _ _ _ _ _ (a04 K) (pv 2) (@a02 _ _ _ _) (fun _ _=>rfl))) (fun _ _ _ _ _=>(a27 (i:=0) (show (["said","texts"]:List Str).Nodup by decide +kernel) rfl (by walk_at "o"))) (fun _ _ _ _ _=>(@a88 _)) (fun _ _ _ _ _=>(ab0 (Nt:=["place"]) (Nf:=["texts"]) (caps:=[1]) rfl (a71 (ah1 (sc0:=defScope a46) rfl) rfl (by decide +kernel) (by decide +kernel) (by decide +kernel) rfl (by decide +kernel)) (a39 K (pv 0)) (fun _ _ _ _ _=>(a27 (i:=0) (show (["place","texts"]:List Str).Nodup by decide +kernel) rfl (by walk_at "o"))) (fun _ _ _ _ _=>(@a88 _)) (fun _ _ _ _ _=>(@a30 _ _ _ _ _ _ _ (a04 K) (pv 1) (pv 0) (fun _ _=>rfl)))))) (by rfl) (by walk_at "o"))
    (@a03 _ _ _ _ _ (@a34 _ _ 4 _ _ _ _ sc_law_table.nd rfl (by walk_at "o") (@a24 _ _ _ _ (@a01 _)) (by rfl) (by walk_at "o"))
    (@a03 _ _ _ _ _ (@a98 _ _ _ _ _ _ _ _ PassesOwn.never rfl (a39 K (@a30 _ _ _ _ _ _ _ (a04 K) (pv 2) (@a02 _ _ _ _) (fun _ _=>rfl))) (a27 (i:=5) sc_law_table.nd rfl (by walk_at "o")) (@a03 _ _ _ _ _ (bh6 (i:=6) (Nt:=["place"]) (Nf:=["parts","room"]) (caps:=[2,5]) rfl (a71 (sc:=defScope a46) rfl rfl (by decide +kernel) (by decide +kernel) (by decide +kernel) rfl (by decide +kernel)) (aa1 rfl T.z_range (@a00 _ _ _ _ _ (@a26 _ _ _ _ _ _ _ _ _ (a36 K) (by rfl) T.z_len a54 (@a00 _ _ _ _ _ (pv 0) (@a01 _) (by rfl)) (by decide) (by decide) (by rfl) (by rfl)) (@a01 _) (by rfl))) (fun _ _ _ _ _=>(a27 (i:=0) (show (["place","parts","room"]:List Str).Nodup by decide +kernel) rfl (by walk_at "o"))) (fun _ _ _ _ _=>(@a88 _)) (fun _ _ _ _ _=>(@a08 _ _ _ _ _ _ _ _ _ _ _ _ _ _ _ _ G__law_pair (hr.mono (by omega)) rfl T.m__law_pair T.F__law_pair.kp T.b__law_pair .nil a38 (@a00 _ _ _ _ _ (@a30 _ _ _ _ _ _ _ (a04 K) (@a30 _ _ _ _ _ _ _ (a04 K) (pv 1) (@a02 _ _ _ _) (fun _ _=>rfl)) (@a31 _ _ _ _ _ _ _ _ ac3 (pv 2) (@a02 _ _ _ _)) (fun _ _=>rfl)) (@a00 _ _ _ _ _ (pv 0) (@a01 _) (by rfl)) (by rfl)) (by decide) (by rfl) (by rfl))) sc_law_table.nd rfl (by walk_at "o") rfl)
     (@a07 _ _ _ (@aa9 _ _ _ _ (@ae0 _ K _ _ _ _ _ _ _ _ _ _ _ PySem.F.plainAttrs_list PySem.F.slot_list_append PySem.F.type_list_append a90 (pv 4) (@a00 _ _ _ _ _ (@a80 _ _ _ _ _ (@a00 _ _ _ _ _ (@af2 _ _ _ _ _ _ _ _ af1 (@a31 _ _ _ _ _ _ _ _ aa7 (pv 5) (@a02 _ _ _ _)) (@a02 _ _ _ _) (nomark _)) (@a00 _ _ _ _ _ (ab0 (Nt:=["said","goal"]) (Nf:=["says"]) (caps:=[3]) rfl (a71 (sc:=defScope a46) rfl rfl (by decide +kernel) (by decide +kernel) (by decide +kernel) rfl (by decide +kernel)) (a39 K (pv 6)) (fun _ _ _ _ _=>(ab2 K (n:=2) rfl (a44 (a27 (i:=0) (show (["said","goal","says"]:List Str).Nodup by decide +kernel) rfl (by walk_at "o")) (a44 (a27 (i:=1) (show (["said","goal","says"]:List Str).Nodup by decide +kernel) rfl (by walk_at "o")) (@aa5 _))))) (fun _ _ _ _ _=>(@a88 _)) (fun _ _ _ _ _=>(@a80 _ _ _ _ _ (@a00 _ _ _ _ _ (@a30 _ _ _ _ _ _ _ (a04 K) (pv 2) (pv 0) (fun _ _=>rfl)) (@a00 _ _ _ _ _ (pv 1) (@a01 _) (by rfl)) (by rfl))))) (@a01 _) (by rfl)) (by rfl))) (@a01 _) (by rfl)) (by rfl) (by rfl) (by rfl) (by rfl) (by rfl) (by rfl)) (by rfl)))) (by intro _; rfl))
    (@a07 _ _ _ (@a32 _ _ _ _ (@a80 _ _ _ _ _ (@a00 _ _ _ _ _ (pv 0) (@a00 _ _ _ _ _ (@a30 _ _ _ _ _ _ _ (a04 K) (pv 3) (@a30 _ _ _ _ _ _ _ (a04 K) (pv 2) (@a02 _ _ _ _) (fun _ _=>rfl)) (fun _ _=>rfl)) (@a00 _ _ _ _ _ (pv 4) (@a01 _) (by rfl)) (by rfl)) (by rfl)))))))),?_⟩
   have sl:(1000000:Nat)≤sizeLine:=le_line (Nat.le_refl _)
   obtain ⟨kl1,kl2,kl3⟩:=k.sub
   have dsl:ds.length=k.sys.length:=pt.hd.1
   have ksl:k.sys.length≤180:=by
    have:=(ae9 (ls:=k.sys)).1
    unfold Pk.cells at kcl
    simp only [List.length_cons,List.length_append] at kcl
    omega
   walk_at "go"
   refine a29 (SqL.of pt.e) (a05 (j:=2) rfl) ?_
   refine ⟨d,rfl,⟨_,SqL.of pt.ed⟩,a93 (xs:=ds) (by omega) (fun i ac H'=>Same H H'∧ac.length=i∧LGs strsV H' ac ((k.sys.take i).map (txOf txs))) ⟨Same.refl _,rfl,LGs.nil⟩ (fun i ac H' ⟨s',hi,_⟩=>⟨by omega,SqL.of (s' _ _ pt.ed)⟩) ?_ ?_⟩
   · rintro i x ac H1 hx ⟨s1,hi,hat⟩
     obtain ⟨l,p2,hl2,rfl,e2⟩:=(pt.hd.same s1).get hx
     have hlm:=List.mem_of_getElem? hl2
     have hll:=kl3 l hlm
     walk_at "run"
     refine ⟨⟨_,SqL.of e2⟩,a93 (xs:=natsV l) (by rw [a28]; omega) (fun j ac2 H'=>H'=H1∧j≤l.length∧ac2=strsV (txOf txs (l.take j))) ⟨rfl,Nat.zero_le _,rfl⟩ (fun j ac2 H' ⟨e,hj,ea⟩=>⟨by rw [ea]; simp [strsV,txOf]; omega,e ▸ SqL.of e2⟩) ?_ ?_⟩
     · rintro j x2 ac2 H' hx2 ⟨rfl,hj,rfl⟩
       obtain ⟨n,hn,rfl⟩:=a97 hx2
       walk_at "run"
       refine a29 (SqL.of (s1 _ _ htx)) (a05 (ba9 (v.sy l hlm n (List.mem_of_getElem? hn)))) ?_
       exact ⟨rfl,(List.getElem?_eq_some_iff.mp hn).1,aq6 hn⟩
     rintro ac2 H' ⟨rfl,_,rfl⟩ p3 H3 f3 s3 e3
     rw [a28,List.take_length] at e3
     refine ⟨s1.trans s3,by simp [hi],?_⟩
     rw [List.take_add_one,hl2,List.map_append]
     exact (hat.same s3).snoc e3
   rintro says H1 ⟨s1,sal,hsay⟩ ps H2 f2 s2 e2
   rw [dsl,List.take_length] at hsay
   have s02:=s1.trans s2
   have hsay2:=hsay.same s2
   walk_at "run"
   intro pR H3 f3 s3 e3
   have s03:=s02.trans s3
   have hsay3:=hsay2.same s3
   have ps3:=s3 _ _ e2
   have fR:H pR=none:=s02.free f3
   have nps:ps≠pR:=a06 e2 f3
   walk_at "run"
   refine a29 (SqL.of (s03 _ _ pt.e)) (a05 (j:=0) rfl) ?_
   obtain ⟨Pv,hPv⟩:∃ Pv:Nat→St→Hp→Prop,Pv=(fun i σ H'=>i≤k.told.length∧(∀ x o,x≠pR→H3 x=some o→H' x=some o)∧(∃ acc fs,H' pR=some (.lst acc)∧Tw.Ats H' (((k.told.take i).map (roomAt k us.length txs)).map roomW) acc fs∧∀ x∈fs,x≠pR)∧∃ y z,σ=[some (.ref e),some (.ref tx),some (.ref p),some (.ref ps),some (.ref pR),y,z]):=⟨_,rfl⟩
   refine ⟨a,rfl,⟨_,SqL.of (s03 _ _ pt.ea)⟩,a94 (K:=K) (a:=a) (xs:=natsV k.told) Pv (by rw [hPv]; exact ⟨Nat.zero_le _,fun x o _ e=>e,⟨[],[],e3,by simp [Tw.Ats],by simp⟩,_,_,rfl⟩) (fun i σ H' _ hI=>by rw [hPv] at hI; obtain ⟨_,kp,_⟩:=hI; exact SqL.of (kp _ _ (a06 pt.ea fR) (s03 _ _ pt.ea))) ?_ ?_⟩
   · intro i x σ H5 hx hI
     rw [hPv] at hI
     obtain ⟨hi,kp,⟨acc,fs,eR,hat,hfs⟩,y,z,rfl⟩:=hI
     obtain ⟨t,ht,rfl⟩:=a97 hx
     have hi':i<k.told.length:=(List.getElem?_eq_some_iff.mp ht).1
     have htk:k.told.take (i+1)=k.told.take i++[t]:=by rw [List.take_add_one,ht]; rfl
     have s05:Same H H5:=fun x o e=>kp x o (a06 e fR) (s03 _ _ e)
     have pt5:=pt.same s05
     obtain ⟨v1,_⟩:=v.told i t ht
     obtain ⟨h,hh⟩:∃ h,k.shs[t / 2]?=some h:=⟨_,List.getElem?_eq_getElem v1⟩
     have hhm:=List.mem_of_getElem? hh
     have hhl:=bb5 hhm
     have al:acc.length=i:=by rw [hat.len,List.length_map,List.length_map,List.length_take]; omega
     walk_at "run"
     refine a47 (SqL.of (s05 _ _ he)) ?_
     walk_at "run"
     rw [Int.toNat_natCast]
     refine ak8 (n:=us.length) (by omega) (fun j ac H'=>Same H5 H'∧ac.length=j∧∀ (j':Nat) (w:V),ac[j']?=some w→∃ q,w=.ref q∧H' q=some (.tup [.int ((pickP h j').1:Nat),.int ((pickP h j').2:Nat)])) ⟨Same.refl _,rfl,fun j' w hw=>by simp at hw⟩ (fun j ac H' ⟨_,e,_⟩=>by omega) ?_ ?_
     · rintro j ac H6 hj ⟨s6,ea,hac⟩
       obtain ⟨qb,hqb,eqb⟩:=(pt5.same s6).hb.2 (t / 2) (shL h) (by rw [List.getElem?_map,hh]; rfl)
       walk_at "run"
       refine a29 (SqL.of (pt5.same s6).e) (a05 (j:=1) rfl) ?_
       walk_at "run"
       rw [show ((t:Nat):Int) / 2=((t / 2:Nat):Int) by omega]
       refine a29 (SqL.of (pt5.same s6).eb) (a05 hqb) ?_
       walk_at "run"
       rw [show (0:Int)+((j:Nat):Int)=((j:Nat):Int) by omega]
       refine ⟨qb,h,j,rfl,eqb,by omega,fun p7 H7 f7 s7 e7=>?_⟩
       refine ⟨s6.trans s7,by simp [ea],fun j' w hw=>?_⟩
       by_cases hlt:j'<ac.length
       · rw [List.getElem?_append_left hlt] at hw
         obtain ⟨q',h1,h2⟩:=hac j' w hw
         exact ⟨q',h1,s7 _ _ h2⟩
       · have hl:=(List.getElem?_eq_some_iff.mp hw).1
         simp at hl
         have:j'=j:=by omega
         subst this
         rw [List.getElem?_append_right (by omega),ea,Nat.sub_self] at hw
         exact ⟨p7,(by simpa using hw.symm),e7⟩
     rintro pairs H6 ⟨s6,pl,hpr⟩ pP H7 f7 s7 e7
     have s57:=s6.trans s7
     walk_at "run"
     refine al5 (SqL.of (s57 _ _ eR)) ?_
     walk_at "run"
     refine ⟨⟨_,SqL.of e7⟩,al4 (xs:=pairs) (by omega) (fun j ac H'=>j≤us.length∧ac.length=j∧Same H7 H'∧∃ gs,Tw.Ats H' (((List.range j).map (rowAt k txs h)).map rowW) ac gs∧∀ x∈gs,x≠pR) ⟨Nat.zero_le _,rfl,Same.refl _,[],by simp [Tw.Ats],by simp⟩ (fun j ac H' ⟨_,e,s',_⟩=>⟨by omega,SqL.of (s' _ _ e7)⟩) ?_ ?_⟩
     · rintro j x ac H8 hx ⟨hj,ea,s8,gs,hat8,fr8⟩
       have hj':j<us.length:=by
        have:=(List.getElem?_eq_some_iff.mp hx).1
        omega
       obtain ⟨qq,rfl,eqq⟩:=hpr j x hx
       have eq8:=(s7.trans s8) _ _ eqq
       obtain ⟨w1,w2⟩:=b49 v hhm j
       obtain ⟨l,hl⟩:∃ l,k.sys[(pickP h j).1]?=some l:=⟨_,List.getElem?_eq_getElem w1⟩
       obtain ⟨qs,hqs,eqs⟩:=hsay3.2 (pickP h j).1 (txOf txs l) (by rw [List.getElem?_map,hl]; rfl)
       have nqs:qs≠pR:=fun z=>by
        obtain ⟨qs2,hqs2,eqs2⟩:=hsay2.2 (pickP h j).1 (txOf txs l) (by rw [List.getElem?_map,hl]; rfl)
        rw [hqs] at hqs2
        injection hqs2 with e1
        injection e1 with e1
        rw [← e1,z,f3] at eqs2
        cases eqs2
       have s58:=s57.trans s8
       refine ⟨qq,_,_,rfl,SqT.of eq8,?_⟩
       walk_at "run"
       refine a29 (SqL.of (s58 _ _ (kp _ _ nps ps3))) (a05 hqs) ?_
       walk_at "run"
       intro p9 H9 f9 s9 e9
       refine ⟨hj',by simp [ea],s8.trans s9,gs++[qs],?_,fun x hx=>?_⟩
       · rw [List.range_succ,List.map_append,List.map_append]
         refine (hat8.same s9).snoc (row_w.mpr ⟨p9,qs,rfl,e9,?_,rfl⟩)
         rw [(s58.trans s9) _ _ (kp _ _ nqs eqs)]
         unfold rowAt
         rw [List.getD_eq_getElem?_getD,hl]
         rfl
       · rcases List.mem_append.mp hx with hx | hx
         · exact fr8 x hx
         · rw [List.mem_singleton.mp hx]; exact nqs
     rintro ac H8 ⟨_,ea,s8,gs,hat8,fr8⟩ p9 H9 f9 s9 e9
     rw [pl] at hat8
     walk_at "run"
     intro p10 H10 f10 s10 e10
     walk_at "run"
     have s510:=s57.trans (s8.trans (s9.trans s10))
     refine a99 (s510 _ _ eR) (by omega) ?_
     have nR:∀ x∈p9::gs,x≠pR:=fun x hx=>by
      rcases List.mem_cons.mp hx with rfl | hx
      · exact (a06 ((s57.trans s8) _ _ eR) f9).symm
      · exact fr8 x hx
     rw [hPv]
     refine ⟨hi',fun x o hx e=>by rw [a37 hx]; exact s510 _ _ (kp x o hx e),⟨_,fs++(p9::gs),a65,?_,?_⟩,_,_,rfl⟩
     · rw [htk,List.map_append,List.map_append]
       refine Tw.Ats.snoc ((hat.same s510).mono (Keep.upd (s510 _ _ eR) fun z=>hfs _ z rfl)) (Tw.At.mono ?_ (Keep.upd (s510 _ _ eR) fun z=>nR _ z rfl))
       refine room_w.mpr ⟨p10,p9,ac,gs,rfl,e10,s10 _ _ e9,?_,rfl⟩
       unfold roomAt
       rw [List.getD_eq_getElem?_getD,hh]
       exact hat8.same (s9.trans s10)
     · intro x hx
       rcases List.mem_append.mp hx with hx | hx
       · exact hfs x hx
       · exact nR x hx
   intro σ H5 hI
   rw [hPv] at hI
   obtain ⟨_,kp,⟨acc,fs,eR,hat,hfs⟩,y,z,rfl⟩:=hI
   rw [a28,List.take_length] at hat
   have s05:Same H H5:=fun x o e=>kp x o (a06 e fR) (s03 _ _ e)
   have pt5:=pt.same s05
   obtain ⟨l,hl⟩:∃ l,k.sys[k.say]?=some l:=⟨_,List.getElem?_eq_getElem v.say⟩
   obtain ⟨qs,hqs,eqs⟩:=hsay3.2 k.say (txOf txs l) (by rw [List.getElem?_map,hl]; rfl)
   have nqs:qs≠pR:=fun z=>by
    obtain ⟨qs2,hqs2,eqs2⟩:=hsay2.2 k.say (txOf txs l) (by rw [List.getElem?_map,hl]; rfl)
    rw [hqs] at hqs2
    injection hqs2 with e1
    injection e1 with e1
    rw [← e1,z,f3] at eqs2
    cases eqs2
   walk_at "run"
   refine a29 (SqL.of pt5.e) (a05 (j:=3) rfl) ?_
   walk_at "run"
   refine a29 (SqL.of (kp _ _ nps ps3)) (a05 hqs) ?_
   walk_at "run"
   intro p8 H8 f8 s8 e8
   refine q p8 qs pR acc fs H8 (s05.trans s8) e8 ?_ (s8 _ _ eR) (hat.same s8)
   rw [s8 _ _ (kp _ _ nqs eqs),List.getD_eq_getElem?_getD,hl]
   rfl
open Z (a41 a64 a62 a72 a51 a52 a59)
def Ev.tw:Ev→Tw
 | .quiet=>.tup [strW "quiet"]
 | .key k=>.tup [strW "key",.sc (.int (k:Nat))]
 | .word w=>.tup [strW "word",strW w]
theorem sc_w {H:Hp}{x:V}(h:Scal x):(Tw.sc x).At H x []:=by rw [Tw.At]; exact ⟨rfl,h,rfl⟩
theorem bq5 {H:Hp}{e:Ev}{v:V}(h:e.tr.At H v []):e.tw.At H v []:=by
 cases e with
 | quiet =>
   obtain ⟨a,vs,rfl,e2,q1⟩:=at_tup0.mp h
   obtain ⟨u1,w1,rfl,a1,q2⟩:=ats_cons0.mp q1
   cases at_str0.mp a1
   cases ats_nil0.mp q2
   simp only [Ev.tw,Tw.At,Tw.Ats]
   exact ⟨a,_,rfl,e2,_,_,[],[],rfl,rfl,sc_w trivial,rfl,rfl⟩
 | key k =>
   obtain ⟨a,vs,rfl,e2,q1⟩:=at_tup0.mp h
   obtain ⟨u1,w1,rfl,a1,q2⟩:=ats_cons0.mp q1
   cases at_str0.mp a1
   obtain ⟨u2,w2,rfl,a2,q3⟩:=ats_cons0.mp q2
   cases at_int0.mp a2
   cases ats_nil0.mp q3
   simp only [Ev.tw,Tw.At,Tw.Ats]
   exact ⟨a,_,rfl,e2,_,_,[],[],rfl,rfl,sc_w trivial,_,_,[],[],rfl,rfl,⟨rfl,trivial,rfl⟩,rfl,rfl⟩
 | word w =>
   obtain ⟨a,vs,rfl,e2,q1⟩:=at_tup0.mp h
   obtain ⟨u1,w1,rfl,a1,q2⟩:=ats_cons0.mp q1
   cases at_str0.mp a1
   obtain ⟨u2,w2,rfl,a2,q3⟩:=ats_cons0.mp q2
   cases at_str0.mp a2
   cases ats_nil0.mp q3
   simp only [Ev.tw,Tw.At,Tw.Ats]
   exact ⟨a,_,rfl,e2,_,_,[],[],rfl,rfl,sc_w trivial,_,_,[],[],rfl,rfl,sc_w trivial,rfl,rfl⟩
theorem b59 {H:Hp}:∀ {es:List Ev}{vs:List V},Tr.Ats H (es.map Ev.tr) vs []→Tw.Ats H (es.map Ev.tw) vs []
 | [],vs,h=>by
   cases ats_nil0.mp h
   simp [Tw.Ats]
 | e::es,vs,h=>by
   obtain ⟨u,w1,rfl,a1,h⟩:=ats_cons0.mp h
   simp only [List.map_cons,Tw.Ats]
   exact ⟨_,_,[],[],rfl,rfl,bq5 a1,b59 h⟩
def tabL (es:List Ev) (sy:List Str) (rs:List aq7):List Tw:=[.lst (es.map Ev.tw),.lst (sy.map strW),.lst (rs.map roomW)]
theorem bn3 (es:List Ev) (sy:List Str) (rs:List aq7):Tw.hs (tabL es sy rs)≤50:=by
 have h1:Tw.hs (es.map Ev.tw)≤1:=af6 fun x hx=>by
  obtain ⟨e,_,rfl⟩:=List.mem_map.mp hx
  cases e <;> simp [Ev.tw,Tw.h,Tw.hs,strW]
 have h2:=at1 sy
 have h3:Tw.hs (rs.map roomW)≤4:=af6 fun x hx=>by
  obtain ⟨r,_,rfl⟩:=List.mem_map.mp hx
  have:Tw.hs (r.2.map rowW)≤2:=af6 fun x hx=>by
   obtain ⟨r,_,rfl⟩:=List.mem_map.mp hx
   have:=at1 r.1
   simp only [rowW,Tw.h,Tw.hs]
   omega
  simp only [roomW,Tw.h,Tw.hs]
  omega
 simp only [tabL,Tw.h,Tw.hs]
 omega
def hanL (es:List Ev) (txs:List Str) (cs:List Int):List Tw:=[.lst (es.map Ev.tw),.lst (txs.map strW),.lst (cs.map intF)]
theorem ak0 {H:Hp}{tt a b c:Addr}{us:List V}{es:List Ev}{txs:List Str}{cs:List Int}(h1:H tt=some (.tup [.ref a,.ref b,.ref c])) (h2:H a=some (.lst us)) (h3:Tr.Ats H (es.map Ev.tr) us []) (h4:H b=some (.lst (strsV txs))) (h5:H c=some (.lst (intsV cs))):(Tw.tup (hanL es txs cs)).At H (.ref tt) ([a]++([b]++([c]++[]))):=by
 simp only [hanL,Tw.At,Tw.Ats]
 exact ⟨tt,_,rfl,h1,_,_,[a],_,rfl,rfl,⟨a,us,[],rfl,h2,b59 h3,rfl⟩,_,_,[b],_,rfl,rfl,⟨b,_,[],rfl,h4,strs_w.mpr ⟨rfl,rfl⟩,rfl⟩,_,_,[c],[],rfl,rfl,⟨c,_,[],rfl,h5,am4 cs,rfl⟩,rfl,rfl⟩
theorem b60 (es:List Ev) (txs:List Str) (cs:List Int):Tw.hs (hanL es txs cs)≤50:=by
 have h1:Tw.hs (es.map Ev.tw)≤1:=af6 fun x hx=>by
  obtain ⟨e,_,rfl⟩:=List.mem_map.mp hx
  cases e <;> simp [Ev.tw,Tw.h,Tw.hs,strW]
 have h2:=at1 txs
 have h3:Tw.hs (cs.map intF)≤0:=af6 fun x hx=>by
  obtain ⟨s,_,rfl⟩:=List.mem_map.mp hx
  simp [intF,Tw.h]
 simp only [hanL,Tw.hs,Tw.h]
 omega
theorem bb6 {H:Hp}{tt a b c:Addr}{us rvs:List V}{gs:List Addr}{es:List Ev}{sy:List Str}{rs:List aq7}(h1:H tt=some (.tup [.ref a,.ref b,.ref c])) (h2:H a=some (.lst us)) (h3:Tr.Ats H (es.map Ev.tr) us []) (h4:H b=some (.lst (strsV sy))) (h5:H c=some (.lst rvs)) (h6:Tw.Ats H (rs.map roomW) rvs gs):(Tw.tup (tabL es sy rs)).At H (.ref tt) ([a]++([b]++((c::gs)++[]))):=by
 simp only [tabL,Tw.At,Tw.Ats]
 exact ⟨tt,_,rfl,h1,_,_,[a],_,rfl,rfl,⟨a,us,[],rfl,h2,b59 h3,rfl⟩,_,_,[b],_,rfl,rfl,⟨b,_,[],rfl,h4,strs_w.mpr ⟨rfl,rfl⟩,rfl⟩,_,_,c::gs,[],rfl,rfl,⟨c,rvs,gs,rfl,h5,h6,rfl⟩,rfl,rfl⟩
def b61 (K:PySem.W.Frag):Sp:=fun vs H Q _=>∃ (e tx a:Addr) (us:List V) (es:List Ev) (txs:List Str) (c:List Int),vs=[.ref e,.ref tx,.ref a]∧H e=some (.lst us)∧Tr.Ats H (es.map Ev.tr) us []∧es.length≤100∧H tx=some (.lst (strsV txs))∧txs.length≤100∧H a=some (.lst (intsV c))∧c.length≤180∧∀ H',Same H H'→Q (.bl true) H'
theorem ar3 (T:Txt K mg t):FnOk P w K mg base CX0 5 t.a__law_right t.fd__law_right ["events","texts","cells"] (b61 K):=by
 have G__law_good:=ah9 (P:=P) (w:=w) (base:=base) T
 have G__law_table:=ar2 (P:=P) (w:=w) (base:=base) T
 have G_unpacked:=au1 (P:=P) (w:=w) (base:=base) T
 have G_whole_pack:=a59 (P:=P) (w:=w) (base:=base) T
 refine T.F__law_right.ok sc_law_right (fun vs H Q E h=>?_) (fun cdv A outer s H vs Q E hr h=>?_)
 · obtain ⟨e,tx,a,us,es,txs,c,rfl,_⟩:=h
   rfl
 · obtain ⟨ee,te,a,us,es,txs,c,rfl,hee,hev,hel,hte,htl,ha,hcl,q⟩:=h
   refine ⟨_,(@a03 _ _ _ _ _ (@a34 _ _ 3 _ _ _ _ sc_law_right.nd rfl (by walk_at "o") (@a80 _ _ _ _ _ (@a00 _ _ _ _ _ (@aa8 _ _ _ _ _ _ _ _ _ (ag5 K) (by rfl) T.z_list al0 (@a00 _ _ _ _ _ (pv 0) (@a01 _) (by rfl)) (by decide) (by decide) (by rfl) (by rfl)) (@a00 _ _ _ _ _ (@aa8 _ _ _ _ _ _ _ _ _ (ag5 K) (by rfl) T.z_list al0 (@a00 _ _ _ _ _ (pv 1) (@a01 _) (by rfl)) (by decide) (by decide) (by rfl) (by rfl)) (@a00 _ _ _ _ _ (@aa8 _ _ _ _ _ _ _ _ _ (ag5 K) (by rfl) T.z_list al0 (@a00 _ _ _ _ _ (pv 2) (@a01 _) (by rfl)) (by decide) (by decide) (by rfl) (by rfl)) (@a01 _) (by rfl)) (by rfl)) (by rfl))) (by rfl) (by walk_at "o"))
    (@a03 _ _ _ _ _ (@a34 _ _ 4 _ _ _ _ sc_law_right.nd rfl (by walk_at "o") (@a08 _ _ _ _ _ _ _ _ _ _ _ _ _ _ _ _ G__law_good (hr.mono (by omega)) rfl T.m__law_good T.F__law_good.kp T.b__law_good .nil a38 (@a00 _ _ _ _ _ (@a26 _ _ _ _ _ _ _ _ _ (a36 K) (by rfl) T.z_len a54 (@a00 _ _ _ _ _ (pv 0) (@a01 _) (by rfl)) (by decide) (by decide) (by rfl) (by rfl)) (@a00 _ _ _ _ _ (@a26 _ _ _ _ _ _ _ _ _ (a36 K) (by rfl) T.z_len a54 (@a00 _ _ _ _ _ (pv 1) (@a01 _) (by rfl)) (by decide) (by decide) (by rfl) (by rfl)) (@a00 _ _ _ _ _ (pv 2) (@a01 _) (by rfl)) (by rfl)) (by rfl)) (by decide) (by rfl) (by rfl)) (by rfl) (by walk_at "o"))
    (@a03 _ _ _ _ _ (@a34 _ _ 5 _ _ _ _ sc_law_right.nd rfl (by walk_at "o") (@a08 _ _ _ _ _ _ _ _ _ _ _ _ _ _ _ _ G_whole_pack (hr.mono (by omega)) rfl T.m_whole_pack T.F_whole_pack.kp T.b_whole_pack .nil a38 (@a00 _ _ _ _ _ (@a30 _ _ _ _ _ _ _ (ac4 K) (pv 3) (@a02 _ _ _ _) (fun _ _=>rfl)) (@a00 _ _ _ _ _ (@a30 _ _ _ _ _ _ _ (ac4 K) (pv 3) (@a02 _ _ _ _) (fun _ _=>rfl)) (@a00 _ _ _ _ _ (@a30 _ _ _ _ _ _ _ (ac4 K) (pv 3) (@a02 _ _ _ _) (fun _ _=>rfl)) (@a01 _) (by rfl)) (by rfl)) (by rfl)) (by decide) (by rfl) (by rfl)) (by rfl) (by walk_at "o"))
    (@a03 _ _ _ _ _ (@a76 _ _ _ _ _ _ _ _ (@PW.pt _ _ _ (@aa6 _ _ _ _ _ _ _ (@ac1 _ _ _ _ (ad5 K (@a26 _ _ _ _ _ _ _ _ _ (bd1 K) (by rfl) T.z_isinstance ak9 (@a00 _ _ _ _ _ (pv 5) (@a00 _ _ _ _ _ (bb9 (v:=.ty "bool") (by rfl) T.z_bool bd2 rfl) (@a01 _) (by rfl)) (by rfl)) (by decide) (by decide) (by rfl) (by rfl)) (fun _=>rfl))) (@aa6 _ _ _ _ _ _ _ (@a09 _ _ _ _ _ _ _ _ ar6 (pv 5) (@af2 _ _ _ _ _ _ _ _ b83 (pv 4) (@a89 _ _ _) (nomark _)) (nomark _)) (@aa4 _ _ _ _ (@a09 _ _ _ _ _ _ _ _ (be0 (by exact hr.units)) (pv 3) (@a80 _ _ _ _ _ (@a00 _ _ _ _ _ (pv 0) (@a00 _ _ _ _ _ (pv 1) (@a00 _ _ _ _ _ (pv 2) (@a01 _) (by rfl)) (by rfl)) (by rfl))) (nomark _)))))) (@a07 _ _ _ (@a32 _ _ _ _ (@ab9 _ _ _ _))) (@a35 _))
    (@a03 _ _ _ _ _ (@a76 _ _ _ _ _ _ _ _ (@ac1 _ _ _ _ (ad5 K (pv 5) (fun _=>rfl))) (@a07 _ _ _ (@a32 _ _ _ _ (@ab9 _ _ _ _))) (@a35 _))
    (@a07 _ _ _ (@a32 _ _ _ _ (@ba3 _ _ _ _ _ _ _ (@af2 _ _ _ _ _ _ _ _ (b09 (by exact hr.units)) (@a08 _ _ _ _ _ _ _ _ _ _ _ _ _ _ _ _ G_unpacked (hr.mono (by omega)) rfl T.m_unpacked T.F_unpacked.kp T.b_unpacked .nil a38 (@a00 _ _ _ _ _ (pv 3) (@a01 _) (by rfl)) (by decide) (by rfl) (by rfl)) (@a08 _ _ _ _ _ _ _ _ _ _ _ _ _ _ _ _ G__law_table (hr.mono (by omega)) rfl T.m__law_table T.F__law_table.kp T.b__law_table .nil a38 (@a00 _ _ _ _ _ (pv 0) (@a00 _ _ _ _ _ (pv 1) (@a00 _ _ _ _ _ (pv 4) (@a01 _) (by rfl)) (by rfl)) (by rfl)) (by decide) (by rfl) (by rfl)) (nomark _)) (@ba2 _ _ _ _ _ (@af2 _ _ _ _ _ _ _ _ (b09 (by exact hr.units)) (pv 3) (@a80 _ _ _ _ _ (@a00 _ _ _ _ _ (pv 0) (@a00 _ _ _ _ _ (pv 1) (@a00 _ _ _ _ _ (pv 2) (@a01 _) (by rfl)) (by rfl)) (by rfl))) (nomark _))))))))))),?_⟩
   have sl:(1000000:Nat)≤sizeLine:=le_line (Nat.le_refl _)
   have ul:us.length=es.length:=by rw [hev.len,List.length_map]
   have sl2:(strsV txs).length=txs.length:=by simp [strsV]
   walk_at "go"
   refine al3 (SqL.of hee) ?_
   intro la H1 f1 s1 e1
   walk_at "run"
   refine al3 (SqL.of (s1 _ _ hte)) ?_
   intro lb' H2 f2 s2 e2
   walk_at "run"
   refine al3 (SqL.of ((s1.trans s2) _ _ ha)) ?_
   intro lc H3 f3 s3 e3
   walk_at "run"
   intro lt H4 f4 s4 e4
   walk_at "run"
   have s04:=s1.trans (s2.trans (s3.trans s4))
   have e14:=(s2.trans (s3.trans s4)) _ _ e1
   have e24:=(s3.trans s4) _ _ e2
   have e34:=s4 _ _ e3
   refine a47 (SqL.of (s04 _ _ hee)) ?_
   walk_at "run"
   refine a47 (SqL.of (s04 _ _ hte)) ?_
   walk_at "run"
   rw [ul,sl2]
   refine ⟨a,c,es.length,txs.length,rfl,s04 _ _ ha,hcl,hel,fun H5 s5 hno=>?_,fun pp aa bb dd bs ds k H5 s5 ek v pt=>?_⟩
   · walk_at "run"
     refine ag8 (SqT.of (s5 _ _ e4)) (a05 (j:=0) rfl) ?_
     walk_at "run"
     refine ag8 (SqT.of (s5 _ _ e4)) (a05 (j:=1) rfl) ?_
     walk_at "run"
     refine ag8 (SqT.of (s5 _ _ e4)) (a05 (j:=2) rfl) ?_
     walk_at "run"
     refine ⟨la,lb',lc,us,strsV txs,c,rfl,s5 _ _ e14,by omega,s5 _ _ e24,s5 _ _ e34,by omega,fun b H6 hb s6=>?_⟩
     have hbf:b=false:=by
      cases b with
      | false=>rfl
      | true =>
        refine absurd ?_ hno
        have:=bq2 (hb.mp rfl)
        rw [ul,sl2] at this
        exact this
     subst hbf
     have s46:=s5.trans s6
     have s06:=s04.trans s46
     walk_at "run"
     refine ite2 (fun hd=>?_) (fun hd=>?_)
     · exfalso
       simp at hd
     walk_at "run"
     intro p7 H7 f7 s7 e7
     have s47:=s46.trans s7
     have s07:=s04.trans s47
     refine bl7 (ak0 (s47 _ _ e4) (s47 _ _ e14) (hev.same s07) (s47 _ _ e24) (s47 _ _ e34)) (ak0 e7 (s07 _ _ hee) (hev.same s07) (s07 _ _ hte) (s07 _ _ ha)) (b60 es txs c) ?_
     walk_at "run"
     exact q H7 s07
   · walk_at "run"
     refine ag8 (SqT.of (s5 _ _ e4)) (a05 (j:=0) rfl) ?_
     walk_at "run"
     refine ag8 (SqT.of (s5 _ _ e4)) (a05 (j:=1) rfl) ?_
     walk_at "run"
     refine ag8 (SqT.of (s5 _ _ e4)) (a05 (j:=2) rfl) ?_
     walk_at "run"
     refine ⟨la,lb',lc,us,strsV txs,c,rfl,s5 _ _ e14,by omega,s5 _ _ e24,s5 _ _ e34,by omega,fun b H6 hb s6=>?_⟩
     have hbt:b=true:=hb.mpr (by rw [ul,sl2,ek]; exact bq0 v)
     subst hbt
     have s46:=s5.trans s6
     have s06:=s04.trans s46
     walk_at "run"
     refine ite2 (fun hd=>?_) (fun hd=>?_)
     · exfalso
       simp at hd
     walk_at "run"
     intro p7 H7 f7 s7 e7
     have s47:=s46.trans s7
     have s07:=s04.trans s47
     refine bl7 (ak0 (s47 _ _ e4) (s47 _ _ e14) (hev.same s07) (s47 _ _ e24) (s47 _ _ e34)) (ak0 e7 (s07 _ _ hee) (hev.same s07) (s07 _ _ hte) (s07 _ _ ha)) (b60 es txs c) ?_
     walk_at "run"
     have hc7:=s47 _ _ e34
     rw [ek,←aa3] at hc7
     have kcl:k.cells.length≤180:=by rw [ek,a91] at hcl; exact hcl
     refine ⟨lt,la,lb',lc,us,es,txs,k,rfl,s47 _ _ e4,s47 _ _ e14,hev.same s07,hel,s47 _ _ e24,hc7,by omega,v,fun tt' a' b' c' us' rvs gs H8 up=>?_⟩
     walk_at "run"
     have s08:=s07.trans up.same
     have s58:=s6.trans (s7.trans up.same)
     refine ⟨ee,te,pp,aa,bb,dd,us,bs,ds,txs,k,0,rfl,s08 _ _ hee,by omega,s08 _ _ hte,pt.same s58,kcl,by rw [ul]; exact v,fun t2 b2 c2 rvs2 gs2 H9 s9 g1 g2 g3 g4=>?_⟩
     rw [ul] at g4
     have s09:=s08.trans s9
     refine bl6 (bb6 (s9 _ _ up.e) (s9 _ _ up.ea) (up.hu.same s9) (s9 _ _ up.eb) (s9 _ _ up.ec) (up.hr.same s9)) (bb6 g1 (s09 _ _ hee) (hev.same s09) g2 g3 g4) (bn3 _ _ _) ?_
     walk_at "run"
     intro p10 H10 f10 s10 e10
     have s410:=s47.trans (up.same.trans (s9.trans s10))
     have s010:=s04.trans s410
     refine bl6 (ak0 (s410 _ _ e4) (s410 _ _ e14) (hev.same s010) (s410 _ _ e24) (s410 _ _ e34)) (ak0 e10 (s010 _ _ hee) (hev.same s010) (s010 _ _ hte) (s010 _ _ ha)) (b60 es txs c) ?_
     walk_at "run"
     exact q H10 s010
theorem av9 {E:Nat}{x:Nat×Nat}:∀ {a:Nat}{ts:List Tri},ris E a ts→a≤E→ris (E+1) a (ts++[(E,x)])
 | a,[],_,h=>⟨h,Nat.lt_succ_self _,trivial⟩
 | a,t::ts,h,_=>⟨h.1,Nat.lt_succ_of_lt h.2.1,av9 h.2.2 h.2.1⟩
theorem aw0 {E E':Nat}(hE:E≤E'):∀ {a:Nat}{ts:List Tri},ris E a ts→ris E' a ts
 | a,[],_=>trivial
 | a,t::ts,h=>⟨h.1,Nat.lt_of_lt_of_le h.2.1 hE,aw0 hE h.2.2⟩
def b62 (K:PySem.W.Frag):Sp:=fun vs H Q _=>∃ (s:Addr) (z:Int) (E S R:Nat),vs=[.ref s,.int (E:Nat),.int (S:Nat),.int (R:Nat)]∧StA H s z∧0<S∧S≤100∧0<R∧R≤100∧E≤100∧∀ h p H',Oth s H H'→H p=none→ShG h E S R→h.2.length≤E→H' p=some (.lst (natsV (shL h)))→Q (.ref p) H'
theorem ar4 (T:Txt K mg t):FnOk P w K mg base CX0 2 t.a__law_shape t.fd__law_shape ["state","events","says","rooms"] (b62 K):=by
 have G__law_take:=aa2 (P:=P) (w:=w) (base:=base) T
 refine T.F__law_shape.ok sc_law_shape (fun vs H Q E h=>?_) (fun cdv A outer s H vs Q E hr h=>?_)
 · obtain ⟨s,z,E,S,R,rfl,_⟩:=h
   rfl
 · obtain ⟨s0,z,En,Sn,Rn,rfl,k0,hS0,hS,hR0,hR,hE,q⟩:=h
   refine ⟨_,(@a03 _ _ _ _ _ (@a34 _ _ 4 _ _ _ _ sc_law_shape.nd rfl (by walk_at "o") (@a24 _ _ _ _ (@a00 _ _ _ _ _ (@a08 _ _ _ _ _ _ _ _ _ _ _ _ _ _ _ _ G__law_take (hr.mono (by omega)) rfl T.m__law_take T.F__law_take.kp T.b__law_take .nil a38 (@a00 _ _ _ _ _ (pv 0) (@a00 _ _ _ _ _ (pv 2) (@a01 _) (by rfl)) (by rfl)) (by decide) (by rfl) (by rfl)) (@a00 _ _ _ _ _ (@a08 _ _ _ _ _ _ _ _ _ _ _ _ _ _ _ _ G__law_take (hr.mono (by omega)) rfl T.m__law_take T.F__law_take.kp T.b__law_take .nil a38 (@a00 _ _ _ _ _ (pv 0) (@a00 _ _ _ _ _ (pv 3) (@a01 _) (by rfl)) (by rfl)) (by decide) (by rfl) (by rfl)) (@a01 _) (by rfl)) (by rfl))) (by rfl) (by walk_at "o"))
    (@a03 _ _ _ _ _ (@a98 _ _ _ _ _ _ _ _ PassesOwn.never rfl (aa1 rfl T.z_range (@a00 _ _ _ _ _ (pv 1) (@a01 _) (by rfl))) (a27 (i:=5) sc_law_shape.nd rfl (by walk_at "o")) (@a07 _ _ _ (@a76 _ _ _ _ _ _ _ _ (@a09 _ _ _ _ _ _ _ _ af1 (@a08 _ _ _ _ _ _ _ _ _ _ _ _ _ _ _ _ G__law_take (hr.mono (by omega)) rfl T.m__law_take T.F__law_take.kp T.b__law_take .nil a38 (@a00 _ _ _ _ _ (pv 0) (@a00 _ _ _ _ _ (@a02 _ _ _ _) (@a01 _) (by rfl)) (by rfl)) (by decide) (by rfl) (by rfl)) (@a02 _ _ _ _) (nomark _)) (@a07 _ _ _ (@a34 _ _ 4 _ _ _ _ sc_law_shape.nd rfl (by walk_at "o") (@a31 _ _ _ _ _ _ _ _ a25 (pv 4) (@a24 _ _ _ _ (@a00 _ _ _ _ _ (pv 5) (@a00 _ _ _ _ _ (@a08 _ _ _ _ _ _ _ _ _ _ _ _ _ _ _ _ G__law_take (hr.mono (by omega)) rfl T.m__law_take T.F__law_take.kp T.b__law_take .nil a38 (@a00 _ _ _ _ _ (pv 0) (@a00 _ _ _ _ _ (pv 2) (@a01 _) (by rfl)) (by rfl)) (by decide) (by rfl) (by rfl)) (@a00 _ _ _ _ _ (@a08 _ _ _ _ _ _ _ _ _ _ _ _ _ _ _ _ G__law_take (hr.mono (by omega)) rfl T.m__law_take T.F__law_take.kp T.b__law_take .nil a38 (@a00 _ _ _ _ _ (pv 0) (@a00 _ _ _ _ _ (pv 3) (@a01 _) (by rfl)) (by rfl)) (by decide) (by rfl) (by rfl)) (@a01 _) (by rfl)) (by rfl)) (by rfl)))) (by rfl) (by walk_at "o"))) (@a35 _))) (by intro _; rfl))
    (@a07 _ _ _ (@a32 _ _ _ _ (pv 4))))),?_⟩
   have sl:(1000000:Nat)≤sizeLine:=le_line (Nat.le_refl _)
   walk_at "go"
   refine ⟨s0,z,Sn,rfl,k0,hS0,by omega,fun r1 H1 hr1 o1 k1=>?_⟩
   walk_at "run"
   refine ⟨s0,z,Rn,rfl,k1,hR0,by omega,fun r2 H2 hr2 o2 k2=>?_⟩
   walk_at "run"
   intro p3 H3 f3 t3 e3
   walk_at "run"
   have o02:=o1.trans o2
   have o03:=o02.trans (a58 t3)
   have fp3:H p3=none:=o02.free k2 f3
   have np3:p3≠s0:=k2.ne f3
   rw [Int.toNat_natCast]
   refine ad9 (lo:=0) (n:=En) (fun i σ H'=>i≤En∧Oth s0 H H'∧StA H' s0 z∧∃ (p:Addr) (ts:List Tri) (y:Option V),σ=[some (.ref s0),some (.int (En:Nat)),some (.int (Sn:Nat)),some (.int (Rn:Nat)),some (.ref p),y]∧H p=none∧p≠s0∧H' p=some (.lst (natsV (shL ((r1,r2),ts))))∧ris i 0 ts∧ts.length≤i∧∀ t∈ts,t.2.1<Sn∧t.2.2<Rn) ⟨Nat.zero_le _,o03,k2.same t3,p3,[],_,rfl,fp3,np3,e3,trivial,Nat.le_refl _,by simp⟩ ?_ ?_
   · rintro i σ H4 hi ⟨_,o4,k4,p,ts,y,rfl,fp,np,ep,hr,hl,hts⟩
     rw [Int.zero_add]
     walk_at "run"
     refine ⟨s0,z,3,rfl,k4,by decide,by decide,fun r3 H5 hr3 o5 k5=>?_⟩
     walk_at "run"
     have o05:=o4.trans o5
     have ep5:=o5 _ _ np ep
     refine ite2 (fun hc=>?_) (fun hc=>?_)
     · walk_at "run"
       refine ⟨s0,z,Sn,rfl,k5,hS0,by omega,fun r4 H6 hr4 o6 k6=>?_⟩
       walk_at "run"
       refine ⟨s0,z,Rn,rfl,k6,hR0,by omega,fun r5 H7 hr5 o7 k7=>?_⟩
       walk_at "run"
       intro p8 H8 f8 t8 e8
       have o07:=o05.trans (o6.trans o7)
       have ep8:=t8 _ _ (o7 _ _ np (o6 _ _ np ep5))
       refine a67 ep8 e8 (le_line (by rw [a28,ac9]; simp only [List.length_cons,List.length_nil]; omega)) ?_
       intro p9 H9 f9 t9 e9
       walk_at "run"
       have o09:=o07.trans (a58 (t8.trans t9))
       refine ⟨hi,o09,k7.same (t8.trans t9),p9,ts++[(i,r4,r5)],_,rfl,(o07.trans (a58 t8)).free (k7.same t8) f9,(k7.same t8).ne f9,?_,av9 hr (Nat.zero_le _),by simp; omega,fun t ht=>?_⟩
       · rw [e9]
         simp [natsV,shL,ax3]
       · rcases List.mem_append.mp ht with ht | ht
         · exact hts t ht
         · rw [List.mem_singleton.mp ht]; exact ⟨hr4,hr5⟩
     · exact ⟨hi,o05,k5,p,ts,_,rfl,fp,np,ep5,aw0 (Nat.le_succ _) hr,by omega,hts⟩
   · rintro σ H4 ⟨_,o4,k4,p,ts,y,rfl,fp,np,ep,hr,hl,hts⟩
     walk_at "run"
     exact q ((r1,r2),ts) p H4 o4 fp ⟨hr,hr1,hr2,hts⟩ hl ep
theorem LGs.oth {α:Type}{f:List α→List V}{H H':Hp}{vs:List V}{ls:List (List α)}{s:Addr}(h:LGs f H vs ls) (o:Oth s H H') (hn:∀ v∈vs,v≠.ref s):LGs f H' vs ls:=⟨h.1,fun i l e=>by
 obtain ⟨q,h1,h2⟩:=h.2 i l e
 exact ⟨q,h1,o _ _ (fun z=>hn _ (List.mem_of_getElem? h1) (by rw [z])) h2⟩⟩
theorem LGs.newNe {α:Type}{f:List α→List V}{H:Hp}{vs:List V}{ls:List (List α)}{p:Addr}(h:LGs f H vs ls) (hp:H p=none):∀ v∈vs,v≠.ref p:=fun v hv z=>by
 obtain ⟨i,hi,rfl⟩:=List.mem_iff_getElem.mp hv
 obtain ⟨l,q,_,h2,h3⟩:=h.get (List.getElem?_eq_getElem hi)
 rw [h2] at z
 injection z with z
 rw [z,hp] at h3
 cases h3
theorem LGs.app {α:Type}{f:List α→List V}{H:Hp}{vs ws:List V}{ls ms:List (List α)}(h:LGs f H vs ls) (h2:LGs f H ws ms):LGs f H (vs++ws) (ls++ms):=⟨by simp [h.1,h2.1],fun i x hx=>by
 by_cases hi:i<ls.length
 · rw [List.getElem?_append_left hi] at hx
   obtain ⟨q',e1,e2⟩:=h.2 i x hx
   exact ⟨q',by rw [List.getElem?_append_left (by rw [h.1]; exact hi)]; exact e1,e2⟩
 · rw [List.getElem?_append_right (by omega)] at hx
   obtain ⟨q',e1,e2⟩:=h2.2 _ x hx
   exact ⟨q',by rw [List.getElem?_append_right (by rw [h.1]; omega),h.1]; exact e1,e2⟩⟩
theorem af0 {vs:List V}{x p:Addr}(h:∀ v∈vs,v≠.ref x) (hp:p≠x):∀ v∈vs++[V.ref p],v≠.ref x:=fun v hv=>by
 rcases List.mem_append.mp hv with hv | hv
 · exact h v hv
 · rw [List.mem_singleton.mp hv]
   exact fun z=>hp (by injection z)
def ovS (S i:Nat) (b:Bool):Sh:=((S,i),if b then [(0,S,i)] else [])
theorem bf2 (S i:Nat) (b:Bool) (j:Nat):pickP (ovS S i b) j=(S,i):=by
 unfold pickP ovS
 cases b with
 | false=>rfl
 | true =>
   by_cases h:0=j
   · simp [h]
   · have:List.find? (fun t:Tri=>t.1 == j) [(0,S,i)]=none:=by simp [h]
     simp [this]
theorem ad8 (ls:List (List Nat)) (l:List Nat):blocks (ls++[l])=blocks ls++(l.length::l):=by simp [blocks]
theorem ad2 (ls ms:List (List Nat)):blocks (ls++ms)=blocks ls++blocks ms:=by simp [blocks]
theorem ax8 {ls:List (List Nat)}(h:∀ l∈ls,l.length≤2):(blocks ls).length≤3*ls.length:=by
 induction ls with
 | nil=>simp [blocks]
 | cons l ls ih =>
   rw [a55]
   have h1:=h l (by simp)
   have h2:=ih fun x hx=>h x (by simp [hx])
   simp only [List.length_cons,List.length_append]
   omega
def b63 (K:PySem.W.Frag):Sp:=fun vs H Q _=>∃ (a:Addr) (ns:List Int) (m:Int) (E T:Nat),vs=[.ref a,.int m,.int (E:Nat),.int (T:Nat)]∧SqL K H a (ns.map V.int)∧0≤m∧m≤1∧0<E∧E≤8∧0<T∧T≤3∧∀ p k H',Same H H'→H' p=some (.lst (natsV k.cells))→PkV k E T→k.cells.length≤140→Q (.ref p) H'
theorem ar5 (T:Txt K mg t):FnOk P w K mg base CX0 3 t.a__law_cells t.fd__law_cells ["script","mixed","events","texts"] (b63 K):=by
 have G__law_cell:=ah5 (P:=P) (w:=w) (base:=base) T
 have G__law_shape:=ar4 (P:=P) (w:=w) (base:=base) T
 have G__law_take:=aa2 (P:=P) (w:=w) (base:=base) T
 refine T.F__law_cells.ok sc_law_cells (fun vs H Q E h=>?_) (fun cdv A outer s H vs Q E hr h=>?_)
 · obtain ⟨a,ns,m,E,T,rfl,_⟩:=h
   rfl
 · obtain ⟨a0,ns,m,En,Tn,rfl,hS,hm0,hm1,hE0,hE,hT0,hT,q⟩:=h
   refine ⟨_,(@a03 _ _ _ _ _ (@a34 _ _ 4 _ _ _ _ sc_law_cells.nd rfl (by walk_at "o") (@a24 _ _ _ _ (@a00 _ _ _ _ _ (@a08 _ _ _ _ _ _ _ _ _ _ _ _ _ _ _ _ G__law_cell (hr.mono (by omega)) rfl T.m__law_cell T.F__law_cell.kp T.b__law_cell .nil a38 (@a00 _ _ _ _ _ (pv 0) (@a00 _ _ _ _ _ (@a02 _ _ _ _) (@a00 _ _ _ _ _ (pv 1) (@a01 _) (by rfl)) (by rfl)) (by rfl)) (by decide) (by rfl) (by rfl)) (@a00 _ _ _ _ _ (pv 1) (@a01 _) (by rfl)) (by rfl))) (by rfl) (by walk_at "o"))
    (@a03 _ _ _ _ _ (@a34 _ _ 5 _ _ _ _ sc_law_cells.nd rfl (by walk_at "o") (@a31 _ _ _ _ _ _ _ _ a25 (@a02 _ _ _ _) (@a08 _ _ _ _ _ _ _ _ _ _ _ _ _ _ _ _ G__law_take (hr.mono (by omega)) rfl T.m__law_take T.F__law_take.kp T.b__law_take .nil a38 (@a00 _ _ _ _ _ (pv 4) (@a00 _ _ _ _ _ (@a02 _ _ _ _) (@a01 _) (by rfl)) (by rfl)) (by decide) (by rfl) (by rfl))) (by rfl) (by walk_at "o"))
    (@a03 _ _ _ _ _ (@a34 _ _ 6 _ _ _ _ sc_law_cells.nd rfl (by walk_at "o") (@a31 _ _ _ _ _ _ _ _ a25 (@a02 _ _ _ _) (@a08 _ _ _ _ _ _ _ _ _ _ _ _ _ _ _ _ G__law_take (hr.mono (by omega)) rfl T.m__law_take T.F__law_take.kp T.b__law_take .nil a38 (@a00 _ _ _ _ _ (pv 4) (@a00 _ _ _ _ _ (@a02 _ _ _ _) (@a01 _) (by rfl)) (by rfl)) (by decide) (by rfl) (by rfl))) (by rfl) (by walk_at "o"))
    (@a03 _ _ _ _ _ (@a34 _ _ 7 _ _ _ _ sc_law_cells.nd rfl (by walk_at "o") (@a31 _ _ _ _ _ _ _ _ a25 (ab0 (Nt:=["said"]) (Nf:=["first","texts"]) (caps:=[4,3]) rfl (a71 (sc:=defScope a63) rfl rfl (by decide +kernel) (by decide +kernel) (by decide +kernel) rfl (by decide +kernel)) (aa1 rfl T.z_range (@a00 _ _ _ _ _ (pv 6) (@a01 _) (by rfl))) (fun _ _ _ _ _=>(a27 (i:=0) (show (["said","first","texts"]:List Str).Nodup by decide +kernel) rfl (by walk_at "o"))) (fun _ _ _ _ _=>(@a88 _)) (fun _ _ _ _ _=>(ab0 (Nt:=["k"]) (Nf:=["first","texts"]) (caps:=[1,2]) rfl (a71 (ah1 (sc0:=defScope a63) rfl) rfl (by decide +kernel) (by decide +kernel) (by decide +kernel) rfl (by decide +kernel)) (aa1 rfl T.z_range (@a00 _ _ _ _ _ (@a08 _ _ _ _ _ _ _ _ _ _ _ _ _ _ _ _ G__law_take (hr.mono (by omega)) rfl T.m__law_take T.F__law_take.kp T.b__law_take .nil a38 (@a00 _ _ _ _ _ (pv 1) (@a00 _ _ _ _ _ (@a02 _ _ _ _) (@a01 _) (by rfl)) (by rfl)) (by decide) (by rfl) (by rfl)) (@a01 _) (by rfl))) (fun _ _ _ _ _=>(a27 (i:=0) (show (["k","first","texts"]:List Str).Nodup by decide +kernel) rfl (by walk_at "o"))) (fun _ _ _ _ _=>(@a88 _)) (fun _ _ _ _ _=>(@a08 _ _ _ _ _ _ _ _ _ _ _ _ _ _ _ _ G__law_take (hr.mono (by omega)) rfl T.m__law_take T.F__law_take.kp T.b__law_take .nil a38 (@a00 _ _ _ _ _ (pv 1) (@a00 _ _ _ _ _ (pv 2) (@a01 _) (by rfl)) (by rfl)) (by decide) (by rfl) (by rfl)))))) (@a24 _ _ _ _ (@a00 _ _ _ _ _ (@a24 _ _ _ _ (@a01 _)) (@a01 _) (by rfl)))) (by rfl) (by walk_at "o"))
    (@a03 _ _ _ _ _ (@a34 _ _ 8 _ _ _ _ sc_law_cells.nd rfl (by walk_at "o") (@a24 _ _ _ _ (@a01 _)) (by rfl) (by walk_at "o"))
    (@a03 _ _ _ _ _ (@a98 _ _ _ _ _ _ _ _ PassesOwn.never rfl (aa1 rfl T.z_range (@a00 _ _ _ _ _ (@a31 _ _ _ _ _ _ _ _ a25 (@a02 _ _ _ _) (@a08 _ _ _ _ _ _ _ _ _ _ _ _ _ _ _ _ G__law_take (hr.mono (by omega)) rfl T.m__law_take T.F__law_take.kp T.b__law_take .nil a38 (@a00 _ _ _ _ _ (pv 4) (@a00 _ _ _ _ _ (@a02 _ _ _ _) (@a01 _) (by rfl)) (by rfl)) (by decide) (by rfl) (by rfl))) (@a01 _) (by rfl))) (a27 (i:=9) sc_law_cells.nd rfl (by walk_at "o")) (@a07 _ _ _ (@aa9 _ _ _ _ (@ae0 _ K _ _ _ _ _ _ _ _ _ _ _ PySem.F.plainAttrs_list PySem.F.slot_list_append PySem.F.type_list_append a90 (pv 8) (@a00 _ _ _ _ _ (@a08 _ _ _ _ _ _ _ _ _ _ _ _ _ _ _ _ G__law_shape (hr.mono (by omega)) rfl T.m__law_shape T.F__law_shape.kp T.b__law_shape .nil a38 (@a00 _ _ _ _ _ (@a24 _ _ _ _ (@a00 _ _ _ _ _ (@a08 _ _ _ _ _ _ _ _ _ _ _ _ _ _ _ _ G__law_cell (hr.mono (by omega)) rfl T.m__law_cell T.F__law_cell.kp T.b__law_cell .nil a38 (@a00 _ _ _ _ _ (pv 0) (@a00 _ _ _ _ _ (@a31 _ _ _ _ _ _ _ _ a25 (@a02 _ _ _ _) (pv 9)) (@a00 _ _ _ _ _ (pv 1) (@a01 _) (by rfl)) (by rfl)) (by rfl)) (by decide) (by rfl) (by rfl)) (@a00 _ _ _ _ _ (pv 1) (@a01 _) (by rfl)) (by rfl))) (@a00 _ _ _ _ _ (pv 2) (@a00 _ _ _ _ _ (@a31 _ _ _ _ _ _ _ _ a25 (pv 6) (@a02 _ _ _ _)) (@a00 _ _ _ _ _ (pv 5) (@a01 _) (by rfl)) (by rfl)) (by rfl)) (by rfl)) (by decide) (by rfl) (by rfl)) (@a01 _) (by rfl)) (by rfl) (by rfl) (by rfl) (by rfl) (by rfl) (by rfl)) (by rfl))) (by intro _; rfl))
    (@a03 _ _ _ _ _ (@a34 _ _ 10 _ _ _ _ sc_law_cells.nd rfl (by walk_at "o") (@a24 _ _ _ _ (@a01 _)) (by rfl) (by walk_at "o"))
    (@a03 _ _ _ _ _ (@a98 _ _ _ _ _ _ _ _ PassesOwn.never rfl (aa1 rfl T.z_range (@a00 _ _ _ _ _ (pv 5) (@a01 _) (by rfl))) (a27 (i:=9) sc_law_cells.nd rfl (by walk_at "o")) (@a03 _ _ _ _ _ (@a34 _ _ 11 _ _ _ _ sc_law_cells.nd rfl (by walk_at "o") (@a24 _ _ _ _ (@a00 _ _ _ _ _ (@a08 _ _ _ _ _ _ _ _ _ _ _ _ _ _ _ _ G__law_cell (hr.mono (by omega)) rfl T.m__law_cell T.F__law_cell.kp T.b__law_cell .nil a38 (@a00 _ _ _ _ _ (pv 0) (@a00 _ _ _ _ _ (@a31 _ _ _ _ _ _ _ _ a25 (@a02 _ _ _ _) (pv 9)) (@a00 _ _ _ _ _ (pv 1) (@a01 _) (by rfl)) (by rfl)) (by rfl)) (by decide) (by rfl) (by rfl)) (@a00 _ _ _ _ _ (pv 1) (@a01 _) (by rfl)) (by rfl))) (by rfl) (by walk_at "o"))
     (@a07 _ _ _ (@a76 _ _ _ _ _ _ _ _ (@a09 _ _ _ _ _ _ _ _ af1 (@a08 _ _ _ _ _ _ _ _ _ _ _ _ _ _ _ _ G__law_take (hr.mono (by omega)) rfl T.m__law_take T.F__law_take.kp T.b__law_take .nil a38 (@a00 _ _ _ _ _ (pv 11) (@a00 _ _ _ _ _ (@a02 _ _ _ _) (@a01 _) (by rfl)) (by rfl)) (by decide) (by rfl) (by rfl)) (@a02 _ _ _ _) (nomark _)) (@a03 _ _ _ _ _ (@aa9 _ _ _ _ (@ae0 _ K _ _ _ _ _ _ _ _ _ _ _ PySem.F.plainAttrs_list PySem.F.slot_list_append PySem.F.type_list_append a90 (pv 10) (@a00 _ _ _ _ _ (@a31 _ _ _ _ _ _ _ _ a25 (@a31 _ _ _ _ _ _ _ _ ab1 (@a02 _ _ _ _) (@a26 _ _ _ _ _ _ _ _ _ (a36 K) (by rfl) T.z_len a54 (@a00 _ _ _ _ _ (pv 8) (@a01 _) (by rfl)) (by decide) (by decide) (by rfl) (by rfl))) (@a02 _ _ _ _)) (@a01 _) (by rfl)) (by rfl) (by rfl) (by rfl) (by rfl) (by rfl) (by rfl)) (by rfl))
      (@a07 _ _ _ (@aa9 _ _ _ _ (@ae0 _ K _ _ _ _ _ _ _ _ _ _ _ PySem.F.plainAttrs_list PySem.F.slot_list_append PySem.F.type_list_append a90 (pv 8) (@a00 _ _ _ _ _ (@a31 _ _ _ _ _ _ _ _ a25 (@a24 _ _ _ _ (@a00 _ _ _ _ _ (pv 6) (@a00 _ _ _ _ _ (pv 9) (@a01 _) (by rfl)) (by rfl))) (@a31 _ _ _ _ _ _ _ _ au9 (@a24 _ _ _ _ (@a00 _ _ _ _ _ (@a02 _ _ _ _) (@a00 _ _ _ _ _ (pv 6) (@a00 _ _ _ _ _ (pv 9) (@a01 _) (by rfl)) (by rfl)) (by rfl))) (@a08 _ _ _ _ _ _ _ _ _ _ _ _ _ _ _ _ G__law_take (hr.mono (by omega)) rfl T.m__law_take T.F__law_take.kp T.b__law_take .nil a38 (@a00 _ _ _ _ _ (pv 11) (@a00 _ _ _ _ _ (@a02 _ _ _ _) (@a01 _) (by rfl)) (by rfl)) (by decide) (by rfl) (by rfl)))) (@a01 _) (by rfl)) (by rfl) (by rfl) (by rfl) (by rfl) (by rfl) (by rfl)) (by rfl)))) (@a07 _ _ _ (@aa9 _ _ _ _ (@ae0 _ K _ _ _ _ _ _ _ _ _ _ _ PySem.F.plainAttrs_list PySem.F.slot_list_append PySem.F.type_list_append a90 (pv 10) (@a00 _ _ _ _ _ (@a31 _ _ _ _ _ _ _ _ ab1 (@a02 _ _ _ _) (@a08 _ _ _ _ _ _ _ _ _ _ _ _ _ _ _ _ G__law_take (hr.mono (by omega)) rfl T.m__law_take T.F__law_take.kp T.b__law_take .nil a38 (@a00 _ _ _ _ _ (pv 11) (@a00 _ _ _ _ _ (@a26 _ _ _ _ _ _ _ _ _ (a36 K) (by rfl) T.z_len a54 (@a00 _ _ _ _ _ (pv 8) (@a01 _) (by rfl)) (by decide) (by decide) (by rfl) (by rfl)) (@a01 _) (by rfl)) (by rfl)) (by decide) (by rfl) (by rfl))) (@a01 _) (by rfl)) (by rfl) (by rfl) (by rfl) (by rfl) (by rfl) (by rfl)) (by rfl)))))) (by intro _; rfl))
    (@a03 _ _ _ _ _ (@a34 _ _ 12 _ _ _ _ sc_law_cells.nd rfl (by walk_at "o") (@a31 _ _ _ _ _ _ _ _ a25 (@a24 _ _ _ _ (@a00 _ _ _ _ _ (pv 5) (@a00 _ _ _ _ _ (@a31 _ _ _ _ _ _ _ _ a25 (pv 6) (@a02 _ _ _ _)) (@a00 _ _ _ _ _ (@a26 _ _ _ _ _ _ _ _ _ (a36 K) (by rfl) T.z_len a54 (@a00 _ _ _ _ _ (pv 8) (@a01 _) (by rfl)) (by decide) (by decide) (by rfl) (by rfl)) (@a00 _ _ _ _ _ (@a08 _ _ _ _ _ _ _ _ _ _ _ _ _ _ _ _ G__law_take (hr.mono (by omega)) rfl T.m__law_take T.F__law_take.kp T.b__law_take .nil a38 (@a00 _ _ _ _ _ (pv 4) (@a00 _ _ _ _ _ (pv 6) (@a01 _) (by rfl)) (by rfl)) (by decide) (by rfl) (by rfl)) (@a01 _) (by rfl)) (by rfl)) (by rfl)) (by rfl))) (pv 10)) (by rfl) (by walk_at "o"))
    (@a03 _ _ _ _ _ (@a98 _ _ _ _ _ _ _ _ PassesOwn.never rfl (a39 K (@a31 _ _ _ _ _ _ _ _ a25 (pv 8) (pv 7))) (a27 (i:=13) sc_law_cells.nd rfl (by walk_at "o")) (@a07 _ _ _ (@a34 _ _ 12 _ _ _ _ sc_law_cells.nd rfl (by walk_at "o") (@a31 _ _ _ _ _ _ _ _ a25 (@a31 _ _ _ _ _ _ _ _ a25 (pv 12) (@a24 _ _ _ _ (@a00 _ _ _ _ _ (@a26 _ _ _ _ _ _ _ _ _ (a36 K) (by rfl) T.z_len a54 (@a00 _ _ _ _ _ (pv 13) (@a01 _) (by rfl)) (by decide) (by decide) (by rfl) (by rfl)) (@a01 _) (by rfl)))) (pv 13)) (by rfl) (by walk_at "o"))) (by intro _; rfl))
    (@a07 _ _ _ (@a32 _ _ _ _ (pv 12))))))))))))),?_⟩
   have sl:(1000000:Nat)≤sizeLine:=le_line (Nat.le_refl _)
   walk_at "go"
   refine ⟨a0,ns,1,m,rfl,hS,by omega,hm0,hm1,fun z0 H1 s1=>?_⟩
   walk_at "run"
   intro pf H2 f2 s2 e2
   walk_at "run"
   have k2:StA H2 pf m:=⟨z0,e2⟩
   have fpf:H pf=none:=s1.free f2
   have s02:=s1.trans s2
   refine ⟨pf,m,6,rfl,k2,by decide,by decide,fun r1 H3 hr1 o3 k3=>?_⟩
   walk_at "run"
   rw [show (1:Int)+((r1:Nat):Int)=((1+r1:Nat):Int) by omega]
   refine ⟨pf,m,3,rfl,k3,by decide,by decide,fun r2 H4 hr2 o4 k4=>?_⟩
   walk_at "run"
   rw [show (1:Int)+((r2:Nat):Int)=((1+r2:Nat):Int) by omega]
   have s04:Same H H4:=(o3.trans o4).new s02 fpf
   clear e2 o3 o4 k2 k3
   obtain ⟨R,hR⟩:∃ R,R=1+r1:=⟨_,rfl⟩
   obtain ⟨S,hS'⟩:∃ S,S=1+r2:=⟨_,rfl⟩
   rw [← hR,←hS']
   rw [Int.toNat_natCast]
   refine ak8 (lo:=0) (n:=S) (by omega) (fun i acc H'=>Oth pf H4 H'∧StA H' pf m∧acc.length=i∧(∀ v∈acc,v≠.ref pf)∧∃ sys,LGs natsV H' acc sys∧∀ l∈sys,l.length≤2∧∀ n∈l,n<Tn) ⟨Oth.refl,k4,rfl,by simp,[],LGs.nil,by simp⟩ (fun i acc H' ⟨_,_,e,_⟩=>by omega) ?_ ?_
   · rintro i acc H5 hi ⟨o5,k5,ea,hne,sys,hL,hsy⟩
     walk_at "run"
     refine ⟨pf,m,3,rfl,k5,by decide,by decide,fun r3 H6 hr3 o6 k6=>?_⟩
     walk_at "run"
     rw [Int.toNat_natCast]
     refine ak8 (lo:=0) (n:=r3) (by omega) (fun j ac H'=>Oth pf H6 H'∧StA H' pf m∧∃ l,ac=natsV l∧l.length=j∧∀ n∈l,n<Tn) ⟨Oth.refl,k6,[],rfl,rfl,by simp⟩ (fun j ac H' ⟨_,_,l,e,e2,_⟩=>by rw [e,a28]; omega) ?_ ?_
     · rintro j ac H7 hj ⟨o7,k7,l,rfl,hl,hn⟩
       walk_at "run"
       refine ⟨pf,m,Tn,rfl,k7,hT0,by omega,fun r4 H8 hr4 o8 k8=>?_⟩
       refine ⟨o7.trans o8,k8,l++[r4],aa0 l r4,by simp [hl],fun n hn'=>?_⟩
       rcases List.mem_append.mp hn' with hn' | hn'
       · exact hn n hn'
       · rw [List.mem_singleton.mp hn']; exact hr4
     rintro ac H7 ⟨o7,k7,l,rfl,hl,hn⟩ p8 H8 f8 t8 e8
     have o68:=o6.trans (o7.trans (a58 t8))
     refine ⟨o5.trans o68,k7.same t8,by simp [ea],af0 hne (k7.ne f8),sys++[l],(hL.oth o68 hne).snoc e8,fun x hx=>?_⟩
     rcases List.mem_append.mp hx with hx | hx
     · exact hsy x hx
     · rw [List.mem_singleton.mp hx]; exact ⟨by omega,hn⟩
   rintro vy H5 ⟨o5,k5,vyl,hne,sys,hL,hsy⟩ p6 H6 f6 t6 e6
   walk_at "run"
   intro p7 H7 f7 t7 e7
   walk_at "run"
   intro p8 H8 f8 t8 e8
   walk_at "run"
   refine a67 ((t7.trans t8) _ _ e6) e8 (le_line (by simp; omega)) ?_
   intro pY H9 f9 t9 eY
   walk_at "run"
   have t59:=t6.trans (t7.trans (t8.trans t9))
   have k9:=k5.same t59
   have s09:Same H H9:=(o5.trans (a58 t59)).new s04 fpf
   have hY:LGs natsV H9 (vy++[.ref p7]) (sys++[[]]):=(hL.same t59).snoc ((t8.trans t9) _ _ e7)
   have syl:sys.length=S:=by rw [← hL.1,vyl]
   have hneY:∀ v∈vy++[V.ref p7],v≠.ref pf:=af0 hne ((k5.same t6).ne f7)
   have npY:pY≠pf:=(k5.same (t6.trans (t7.trans t8))).ne f9
   have hsyT:∀ l∈sys++[[]],l.length≤2∧∀ n∈l,n<Tn:=fun l hl=>by
    rcases List.mem_append.mp hl with hl | hl
    · exact hsy l hl
    · rw [List.mem_singleton.mp hl]; simp
   have vYl:(vy++[V.ref p7]).length=S+1:=by simp [vyl]
   generalize vy++[V.ref p7]=vY at eY hY hneY vYl
   clear hL hne hsy e6 e7 e8 f6 f7 f8 t6 t7 t8 t9 f9 o5 k5 vyl k4 s02 s1 s2 f2 s04
   intro pS H10 f10 s10 e10
   walk_at "run"
   have k10:=k9.same s10
   have npS:pS≠pf:=k9.ne f10
   refine ⟨pf,m,3,rfl,k10,by decide,by decide,fun r3 H11 hr3 o11 k11=>?_⟩
   have s011:Same H H11:=o11.new (s09.trans s10) fpf
   have eS:=o11 _ _ npS e10
   have eY11:=o11 _ _ npY (s10 _ _ eY)
   have hY11:=(hY.same s10).oth o11 hneY
   have fS:H pS=none:=s09.free f10
   have hneYS:∀ v∈vY,v≠.ref pS:=hY.newNe f10
   have nYS:pY≠pS:=a06 eY f10
   walk_at "run"
   rw [show (1:Int)+((r3:Nat):Int)=((1+r3:Nat):Int) by omega,Int.toNat_natCast]
   obtain ⟨Pv,hPv⟩:∃ Pv:Nat→St→Hp→Prop,Pv=(fun i σ H'=>i≤1+r3∧(∀ x o,x≠pS→H11 x=some o→H' x=some o)∧(∃ (vs:List V) (hs:List Sh),H' pS=some (.lst vs)∧LGs natsV H' vs (hs.map shL)∧hs.length=i∧(∀ v∈vs,v≠.ref pS)∧(∀ v∈vs,v≠.ref pf)∧(∀ h∈hs,ShG h En (S+1) R)∧(blocks (hs.map shL)).length≤27*i)∧∃ y1 y2 y3 y4 y5,σ=[some (.ref a0),some (.int m),some (.int (En:Nat)),some (.int (Tn:Nat)),some (.ref pf),some (.int (R:Nat)),some (.int (S:Nat)),some (.ref pY),some (.ref pS),y1,y2,y3,y4,y5]):=⟨_,rfl⟩
   refine ad9 (lo:=0) (n:=1+r3) Pv (by rw [hPv]; exact ⟨Nat.zero_le _,fun x o _ e=>e,⟨[],[],eS,LGs.nil,rfl,by simp,by simp,by simp,by simp [blocks]⟩,_,_,_,_,_,rfl⟩) ?_ ?_
   · intro i σ H12 hi hI
     rw [hPv] at hI
     obtain ⟨_,kp,⟨vs,hs,ePS,hL,hsl,hn1,hn2,hsg,hbl⟩,y1,y2,y3,y4,y5,rfl⟩:=hI
     have s012:Same H H12:=fun x o e=>kp x o (a06 e fS) (s011 _ _ e)
     walk_at "run"
     refine al5 (SqL.of ePS) ?_
     walk_at "run"
     rw [show (0:Int)+((i:Nat):Int)=((i:Nat):Int) by omega,show (2:Int)+((i:Nat):Int)=((2+i:Nat):Int) by omega]
     refine ⟨a0,ns,2+i,m,rfl,s012.seq hS,by omega,hm0,hm1,fun z1 H13 s13=>?_⟩
     walk_at "run"
     intro pw H14 f14 s14 e14
     walk_at "run"
     rw [show ((S:Nat):Int)+1=((S+1:Nat):Int) by omega]
     refine ⟨pw,m,En,S+1,R,rfl,⟨z1,e14⟩,by omega,by omega,by omega,by omega,by omega,fun h ph H15 o15 fph hg hgl eph=>?_⟩
     walk_at "run"
     have s1315:Same H13 H15:=o15.new s14 f14
     have s1215:=s13.trans s1315
     have fph12:H12 ph=none:=(s13.trans s14).free fph
     refine a99 (s1215 _ _ ePS) (by rw [hL.1,List.length_map]; omega) ?_
     have nph:ph≠pS:=(a06 ePS fph12).symm
     have nph2:ph≠pf:=by
      obtain ⟨x,ex⟩:=k11
      exact (a06 (kp _ _ npS.symm ex) fph12).symm
     rw [hPv]
     refine ⟨hi,fun x o hx e=>by rw [a37 hx]; exact s1215 _ _ (kp x o hx e),⟨_,hs++[h],a65,?_,by simp [hsl],af0 hn1 nph,af0 hn2 nph2,fun x hx=>?_,?_⟩,_,_,_,_,_,rfl⟩
     · rw [List.map_append]
       exact ((hL.same s1215).snoc eph).upd (af0 hn1 nph)
     · rcases List.mem_append.mp hx with hx | hx
       · exact hsg x hx
       · rw [List.mem_singleton.mp hx]; exact hg
     · rw [List.map_append,List.map_cons,List.map_nil,ad8,List.length_append,List.length_cons,ac9]
       omega
   intro σ H12 hI
   rw [hPv] at hI
   obtain ⟨_,kp,⟨vs0,hs0,ePS,hL0,hsl0,hn1,hn2,hsg0,hbl0⟩,y1,y2,y3,y4,y5,rfl⟩:=hI
   have s012:Same H H12:=fun x o e=>kp x o (a06 e fS) (s011 _ _ e)
   have eY12:=kp _ _ nYS eY11
   have hY12:LGs natsV H12 vY (sys++[[]]):=⟨hY11.1,fun i l e=>by
    obtain ⟨qq,g1,g2⟩:=hY11.2 i l e
    exact ⟨qq,g1,kp _ _ (fun z=>hneYS _ (List.mem_of_getElem? g1) (by rw [z])) g2⟩⟩
   have k12:StA H12 pf m:=by
    obtain ⟨x,ex⟩:=k11
    exact ⟨x,kp _ _ npS.symm ex⟩
   have hYS:=hneYS
   clear kp hPv Pv k11 eY11 hY11 s011 eS hneYS hY eY e10 k10 k9 s09 s10 f10 o11
   walk_at "run"
   intro pT H13 f13 s13 e13
   walk_at "run"
   have nTS:pT≠pS:=(a06 ePS f13).symm
   have nTf:pT≠pf:=k12.ne f13
   have fT:H pT=none:=s012.free f13
   have s013:=s012.trans s13
   have nYT:pY≠pT:=a06 eY12 f13
   have hneYT:=hY12.newNe f13
   have eY13:=s13 _ _ eY12
   have hY13:=hY12.same s13
   have k13:=k12.same s13
   have hneYS:∀ v∈vY,v≠.ref pS:=hYS
   rw [Int.toNat_natCast]
   obtain ⟨Pv,hPv⟩:∃ Pv:Nat→St→Hp→Prop,Pv=(fun i σ H'=>i≤R∧(∀ x o,x≠pS→x≠pT→H13 x=some o→H' x=some o)∧(∃ (vs:List V) (hs:List Sh) (told:List Nat),H' pS=some (.lst vs)∧LGs natsV H' vs (hs.map shL)∧H' pT=some (.lst (natsV told))∧told.length=i∧0<hs.length∧hs.length≤3+i∧(∀ v∈vs,v≠.ref pS)∧(∀ v∈vs,v≠.ref pT)∧(∀ v∈vs,v≠.ref pf)∧(∀ h∈hs,ShG h En (S+1) R)∧(blocks (hs.map shL)).length≤81+6*i∧∀ j t,told[j]?=some t→t / 2<hs.length∧(t % 2=1→∃ b,hs[t / 2]?=some (ovS S j b)))∧∃ y1 y3 y4 y5,σ=[some (.ref a0),some (.int m),some (.int (En:Nat)),some (.int (Tn:Nat)),some (.ref pf),some (.int (R:Nat)),some (.int (S:Nat)),some (.ref pY),some (.ref pS),y1,some (.ref pT),y3,y4,y5]):=⟨_,rfl⟩
   refine ad9 (lo:=0) (n:=R) Pv (by rw [hPv]; exact ⟨Nat.zero_le _,fun x o _ _ e=>e,⟨vs0,hs0,[],s13 _ _ ePS,hL0.same s13,e13,rfl,by omega,by omega,hn1,hL0.newNe f13,hn2,hsg0,by omega,fun j t h=>by simp at h⟩,_,_,_,_,rfl⟩) ?_ ?_
   · intro i σ H14 hi hI
     rw [hPv] at hI
     obtain ⟨_,kp,⟨vs,hs,told,eS,hL,eT,tl,h0,hsl,n1,n2,n3,hsg,hbl,htd⟩,y1,y3,y4,y5,rfl⟩:=hI
     have s014:Same H H14:=fun x o e=>kp x o (a06 e fS) (a06 e fT) (s013 _ _ e)
     have vsl:vs.length=hs.length:=by rw [hL.1,List.length_map]
     walk_at "run"
     rw [show (0:Int)+((i:Nat):Int)=((i:Nat):Int) by omega,show (6:Int)+((i:Nat):Int)=((6+i:Nat):Int) by omega]
     refine ⟨a0,ns,6+i,m,rfl,s014.seq hS,by omega,hm0,hm1,fun z1 H15 s15=>?_⟩
     walk_at "run"
     intro pw H16 f16 s16 e16
     walk_at "run"
     have kw:StA H16 pw m:=⟨z1,e16⟩
     have fw:H14 pw=none:=s15.free f16
     refine ⟨pw,m,3,rfl,kw,by decide,by decide,fun r4 H17 hr4 o17 k17=>?_⟩
     walk_at "run"
     have s1417:Same H14 H17:=o17.new (s15.trans s16) fw
     have eT17:=s1417 _ _ eT
     have eS17:=s1417 _ _ eS
     refine ite2 (fun hc=>?_) (fun hc=>?_)
     · walk_at "run"
       refine al5 (SqL.of eT17) ?_
       walk_at "run"
       refine a47 (SqL.of eS17) ?_
       walk_at "run"
       rw [vsl]
       refine a99 eT17 (by rw [a28]; omega) ?_
       rw [show (2:Int)*((hs.length:Nat):Int)+1=((2*hs.length+1:Nat):Int) by omega,aa0]
       have eS18:upd H17 pT (.lst (natsV (told++[2*hs.length+1]))) pS=some (.lst vs):=by rw [a37 nTS.symm]; exact eS17
       have hL18:LGs natsV (upd H17 pT (.lst (natsV (told++[2*hs.length+1])))) vs (hs.map shL):=(hL.same s1417).upd n2
       have eT18:upd H17 pT (.lst (natsV (told++[2*hs.length+1]))) pT=some (.lst (natsV (told++[2*hs.length+1]))):=a65
       have nw:pw≠pT:=(a06 eT fw).symm
       have k18:StA (upd H17 pT (.lst (natsV (told++[2*hs.length+1])))) pw m:=by
        obtain ⟨x,ex⟩:=k17
        exact ⟨x,by rw [a37 nw]; exact ex⟩
       have kp18:∀ x o,x≠pT→H14 x=some o→upd H17 pT (.lst (natsV (told++[2*hs.length+1]))) x=some o:=fun x o hx e=>by rw [a37 hx]; exact s1417 _ _ e
       have fr18:∀ x,upd H17 pT (.lst (natsV (told++[2*hs.length+1]))) x=none→H14 x=none:=fun x hx=>by
        by_cases h:x=pT
        · rw [h,eT18] at hx; cases hx
        · cases e:H14 x with
          | none=>rfl
          | some o=>rw [kp18 x o h e] at hx; cases hx
       generalize upd H17 pT (.lst (natsV (told++[2*hs.length+1])))=H18 at eS18 hL18 eT18 k18 kp18 fr18
       walk_at "run"
       refine al5 (SqL.of eS18) ?_
       walk_at "run"
       intro p19 H19 f19 s19 e19
       walk_at "run"
       intro p20 H20 f20 s20 e20
       walk_at "run"
       refine ⟨pw,m,2,rfl,k18.same (s19.trans s20),by decide,by decide,fun r5 H21 hr5 o21 k21=>?_⟩
       walk_at "run"
       have s1820:=s19.trans s20
       have k20:=k18.same s1820
       have np20:p20≠pw:=(k18.same s19).ne f20
       have np19:p19≠pw:=k18.ne f19
       have e20':=o21 _ _ np20 e20
       have e19':=o21 _ _ np19 (s20 _ _ e19)
       refine ⟨p20,(r5:Int),_,rfl,rfl,e20',by omega,by omega,by simp only [List.length_cons,List.length_nil,Int.toNat_natCast]; omega,?_⟩
       rw [Int.toNat_natCast]
       intro p22 H22 f22 s22 e22
       walk_at "run"
       refine a67 (s22 _ _ e19') e22 (le_line (by simp; omega)) ?_
       intro p23 H23 f23 s23 e23
       walk_at "run"
       have w18:∀ x o,x≠pw→H18 x=some o→H23 x=some o:=fun x o hx e=>(s22.trans s23) _ _ (o21 _ _ hx (s1820 _ _ e))
       have nwS:pS≠pw:=(a06 eS fw)
       have nwT:pT≠pw:=nw.symm
       refine a99 (w18 _ _ nwS eS18) (by omega) ?_
       have f23':H14 p23=none:=fr18 _ (s1820.free ((o21.free k21 (s22.free f23))))
       have n23S:p23≠pS:=(a06 eS f23').symm
       have n23T:p23≠pT:=(a06 eT f23').symm
       have n23f:p23≠pf:=by
        obtain ⟨x,ex⟩:=k13
        exact (a06 (kp _ _ npS.symm nTf.symm ex) f23').symm
       have e23':H23 p23=some (.lst (natsV (shL (ovS S i (decide (r5=1)))))):=by
        rw [e23]
        have:r5=0∨r5=1:=by omega
        rcases this with rfl | rfl <;> rfl
       have hwne:∀ v∈vs,v≠.ref pw:=hL.newNe fw
       have hL23:LGs natsV H23 vs (hs.map shL):=⟨hL18.1,fun i l e=>by
        obtain ⟨qq,g1,g2⟩:=hL18.2 i l e
        exact ⟨qq,g1,w18 _ _ (fun z=>hwne _ (List.mem_of_getElem? g1) (by rw [z])) g2⟩⟩
       rw [hPv]
       refine ⟨hi,fun x o h1 h2 e=>?_,⟨_,hs++[ovS S i (decide (r5=1))],told++[2*hs.length+1],a65,?_,?_,by simp [tl],by simp,by simp; omega,af0 n1 n23S,af0 n2 n23T,af0 n3 n23f,fun x hx=>?_,?_,fun j t ht=>?_⟩,_,_,_,_,rfl⟩
       · rw [a37 h1]
         exact w18 _ _ (a06 (kp x o h1 h2 e) fw) (kp18 _ _ h2 (kp x o h1 h2 e))
       · rw [List.map_append]
         exact (hL23.snoc e23').upd (af0 n1 n23S)
       · rw [a37 nTS]
         exact w18 _ _ nwT eT18
       · rcases List.mem_append.mp hx with hx | hx
         · exact hsg x hx
         · rw [List.mem_singleton.mp hx]
           refine ⟨?_,by show S<S+1; omega,by show i<R; exact hi,fun t ht=>?_⟩
           · unfold ovS
             split
             · exact ⟨Nat.zero_le _,hE0,trivial⟩
             · trivial
           · unfold ovS at ht
             split at ht
             · rw [List.mem_singleton.mp ht]
               exact ⟨by show S<S+1; omega,hi⟩
             · simp at ht
       · rw [List.map_append,List.map_cons,List.map_nil,ad8,List.length_append,List.length_cons,ac9]
         have:(ovS S i (decide (r5=1))).2.length≤1:=by
          unfold ovS
          split <;> simp
         omega
       · by_cases hj:j<told.length
         · rw [List.getElem?_append_left hj] at ht
           obtain ⟨g1,g2⟩:=htd j t ht
           refine ⟨by simp; omega,fun ho=>?_⟩
           obtain ⟨b,hb⟩:=g2 ho
           exact ⟨b,by rw [List.getElem?_append_left g1]; exact hb⟩
         · have hlt:=(List.getElem?_eq_some_iff.mp ht).1
           simp at hlt
           have:j=told.length:=by omega
           subst this
           rw [List.getElem?_append_right (Nat.le_refl _),Nat.sub_self] at ht
           have:t=2*hs.length+1:=by simpa using ht.symm
           subst this
           rw [show (2*hs.length+1) / 2=hs.length by omega]
           refine ⟨by simp,fun _=>⟨decide (r5=1),?_⟩⟩
           rw [List.getElem?_append_right (Nat.le_refl _),Nat.sub_self,tl]
           rfl
     · walk_at "run"
       refine al5 (SqL.of eT17) ?_
       walk_at "run"
       refine a47 (SqL.of eS17) ?_
       walk_at "run"
       rw [vsl]
       refine ⟨pw,m,hs.length,rfl,k17,h0,by omega,fun r5 H18 hr5 o18 k18=>?_⟩
       walk_at "run"
       have s1418:Same H14 H18:=o18.new s1417 fw
       refine a99 (s1418 _ _ eT) (by rw [a28]; omega) ?_
       rw [show (2:Int)*((r5:Nat):Int)=((2*r5:Nat):Int) by omega,aa0]
       rw [hPv]
       refine ⟨hi,fun x o h1 h2 e=>?_,⟨vs,hs,told++[2*r5],?_,(hL.same s1418).upd n2,a65,by simp [tl],h0,by omega,n1,n2,n3,hsg,by omega,fun j t ht=>?_⟩,_,_,_,_,rfl⟩
       · rw [a37 h2]
         exact s1418 _ _ (kp x o h1 h2 e)
       · rw [a37 nTS.symm]
         exact s1418 _ _ eS
       · by_cases hj:j<told.length
         · rw [List.getElem?_append_left hj] at ht
           exact htd j t ht
         · have hlt:=(List.getElem?_eq_some_iff.mp ht).1
           simp at hlt
           have:j=told.length:=by omega
           subst this
           rw [List.getElem?_append_right (Nat.le_refl _),Nat.sub_self] at ht
           have:t=2*r5:=by simpa using ht.symm
           subst this
           exact ⟨by omega,fun ho=>by omega⟩
   intro σ H14 hI
   rw [hPv] at hI
   obtain ⟨_,kp,⟨vs,hs,told,eS,hL,eT,tl,h0,hsl,n1,n2,n3,hsg,hbl,htd⟩,y1,y3,y4,y5,rfl⟩:=hI
   have s014:Same H H14:=fun x o e=>kp x o (a06 e fS) (a06 e fT) (s013 _ _ e)
   have vsl:vs.length=hs.length:=by rw [hL.1,List.length_map]
   have eY14:=kp _ _ nYS nYT eY13
   have hY14:LGs natsV H14 vY (sys++[[]]):=⟨hY13.1,fun i l e=>by
    obtain ⟨qq,g1,g2⟩:=hY13.2 i l e
    exact ⟨qq,g1,kp _ _ (fun z=>hneYS _ (List.mem_of_getElem? g1) (by rw [z])) (fun z=>hneYT _ (List.mem_of_getElem? g1) (by rw [z])) g2⟩⟩
   have k14:StA H14 pf m:=by
    obtain ⟨x,ex⟩:=k13
    exact ⟨x,kp _ _ npS.symm nTf.symm ex⟩
   clear kp hPv Pv
   walk_at "run"
   rw [show ((S:Nat):Int)+1=((S+1:Nat):Int) by omega]
   refine a47 (SqL.of eS) ?_
   walk_at "run"
   rw [vsl]
   refine ⟨pf,m,S,rfl,k14,by omega,by omega,fun g H15 hg o15 k15=>?_⟩
   walk_at "run"
   have s015:Same H H15:=o15.new s014 fpf
   have eS15:=o15 _ _ npS eS
   have eT15:=o15 _ _ nTf eT
   have eY15:=o15 _ _ npY eY14
   have hL15:=hL.oth o15 n3
   have hY15:=hY14.oth o15 hneY
   intro p16 H16 f16 s16 e16
   walk_at "run"
   refine a67 e16 (s16 _ _ eT15) (le_line (by rw [a28]; simp only [List.length_cons,List.length_nil]; omega)) ?_
   intro p17 H17 f17 s17 e17
   walk_at "run"
   have s1517:=s16.trans s17
   refine a67 (s1517 _ _ eS15) (s1517 _ _ eY15) (le_line (by omega)) ?_
   intro p18 H18 f18 s18 e18
   walk_at "run"
   have s1518:=s1517.trans s18
   have hA:LGs natsV H18 (vs++vY) (hs.map shL++(sys++[[]])):=(hL15.same s1518).app (hY15.same s1518)
   have e17':H18 p17=some (.lst (natsV (R::(S+1)::hs.length::g::told))):=by
    rw [s18 _ _ e17]
    rfl
   have bl2:(blocks (sys++[[]])).length≤3*(S+1):=by
    have:=ax8 fun l hl=>(hsyT l hl).1
    rw [show (sys++[([]:List Nat)]).length=S+1 by simp [syl]] at this
    exact this
   have blA:(blocks (hs.map shL++(sys++[[]]))).length≤81+6*R+3*(S+1):=by
    rw [ad2,List.length_append]
    omega
   obtain ⟨LA,hLA⟩:∃ LA,LA=hs.map shL++(sys++[[]]):=⟨_,rfl⟩
   rw [← hLA] at hA blA
   have vAl:(vs++vY).length=LA.length:=hA.1
   have pre4:∀ i,(blocks (LA.take i)).length≤(blocks LA).length:=fun i=>by
    conv=>rhs; rw [← List.take_append_drop i LA,ad2,List.length_append]
    omega
   refine ⟨⟨_,SqL.of e18⟩,a94 (K:=K) (a:=p18) (xs:=vs++vY) (fun i σ H'=>i≤LA.length∧Same H18 H'∧∃ (pc:Addr) (y:Option V),H' pc=some (.lst (natsV ((R::(S+1)::hs.length::g::told)++blocks (LA.take i))))∧∃ y1 y3,σ=[some (.ref a0),some (.int m),some (.int (En:Nat)),some (.int (Tn:Nat)),some (.ref pf),some (.int (R:Nat)),some (.int (S:Nat)),some (.ref pY),some (.ref pS),y1,some (.ref pT),y3,some (.ref pc),y]) ⟨Nat.zero_le _,Same.refl _,p17,_,by simpa [blocks] using e17',_,_,rfl⟩ (fun i σ H' _ ⟨_,s',_⟩=>SqL.of (s' _ _ e18)) ?_ ?_⟩
   · rintro i x σ H19 hx ⟨hil,s19,pc,y,epc,y1,y3,rfl⟩
     obtain ⟨l,ql,hl,rfl,eql⟩:=(hA.same s19).get hx
     have hil':i<LA.length:=(List.getElem?_eq_some_iff.mp hl).1
     have hp:=pre4 i
     have hp1:=pre4 (i+1)
     have htk:blocks (LA.take (i+1))=blocks (LA.take i)++(l.length::l):=by
      rw [List.take_add_one,hl,Option.toList_some,ad8]
     rw [htk] at hp1
     simp only [List.length_append,List.length_cons] at hp1
     walk_at "run"
     refine a47 (SqL.of eql) ?_
     walk_at "run"
     rw [a28]
     intro p20 H20 f20 s20 e20
     walk_at "run"
     refine a67 (s20 _ _ epc) e20 (le_line (by rw [a28]; simp only [List.length_append,List.length_cons,List.length_nil]; omega)) ?_
     intro p21 H21 f21 s21 e21
     walk_at "run"
     refine a67 e21 ((s20.trans s21) _ _ eql) (le_line (by simp only [List.length_append,a28,List.length_cons,List.length_nil]; omega)) ?_
     intro p22 H22 f22 s22 e22
     walk_at "run"
     refine ⟨hil',s19.trans (s20.trans (s21.trans s22)),p22,_,?_,_,_,rfl⟩
     rw [e22,htk]
     simp [natsV]
   rintro σ H19 ⟨_,s19,pc,y,epc,y1,y3,rfl⟩
   rw [vAl,List.take_length,hLA,ad2] at epc
   walk_at "run"
   rw [hLA,ad2,List.length_append] at blA
   have hsT:(sys++[[]]).length=S+1:=by simp [syl]
   refine q pc ⟨told,hs,sys++[[]],g⟩ H19 (s015.trans (s1518.trans s19)) ?_ ?_ ?_
   · rw [epc]
     unfold Pk.cells
     simp only [tl,hsT]
     rfl
   · refine ⟨by simp only [tl]; omega,by simp only [tl]; omega,by simp only [hsT]; omega,fun h hh=>?_,fun l hl=>(hsyT l hl).2,fun i t ht=>?_⟩
     · simp only [tl,hsT]
       exact hsg h hh
     · obtain ⟨g1,g2⟩:=htd i t ht
       refine ⟨g1,fun ho h hh j hj=>?_⟩
       obtain ⟨b,hb⟩:=g2 ho
       rw [hb] at hh
       cases hh
       rw [bf2]
       refine ⟨rfl,?_⟩
       show (sys++[[]])[S]?=some []
       rw [← syl,List.getElem?_append_right (Nat.le_refl _),Nat.sub_self]
       rfl
   · unfold Pk.cells
     simp only [List.length_cons,List.length_append,tl]
     omega
def IsI (vs:List V):Prop:=∃ c:List Int,vs=intsV c
theorem IsI.nil:IsI []:=⟨[],rfl⟩
theorem IsI.one (z:Int):IsI [.int z]:=⟨[z],rfl⟩
theorem IsI.app {vs ws:List V}(h:IsI vs) (h2:IsI ws):IsI (vs++ws):=by
 obtain ⟨c,rfl⟩:=h
 obtain ⟨d,rfl⟩:=h2
 exact ⟨c++d,by simp [intsV]⟩
theorem IsI.take {vs:List V}{n:Nat}(h:IsI vs):IsI (vs.take n):=by
 obtain ⟨c,rfl⟩:=h
 exact ⟨c.take n,by simp [intsV,List.map_take]⟩
theorem IsI.drop {vs:List V}{n:Nat}(h:IsI vs):IsI (vs.drop n):=by
 obtain ⟨c,rfl⟩:=h
 exact ⟨c.drop n,by simp [intsV,List.map_drop]⟩
theorem IsI.at {vs:List V}(h:IsI vs) {r:Nat}(hr:r<vs.length):∃ z:Int,atI vs (r:Nat)=some (.int z):=by
 obtain ⟨c,rfl⟩:=h
 exact ⟨_,a05 (Z.iv_at (by rwa [Z.intsV_len] at hr))⟩
theorem ad0 {xs:List V}{j:Nat}:cutV xs (some (j:Int)) none=xs.drop j:=by
 unfold cutV
 rw [HT.sIx_nat,HT.sIx_none,List.take_of_length_le (by rw [List.length_drop]; exact Nat.le_refl _)]
 by_cases h:j≤xs.length
 · rw [Nat.min_eq_left h]
 · rw [Nat.min_eq_right (by omega),List.drop_of_length_le (Nat.le_refl _),List.drop_of_length_le (by omega)]
def b64 (K:PySem.W.Frag):Sp:=fun vs H Q _=>∃ (a s:Addr) (c:List Int) (z:Int),vs=[.ref a,.ref s]∧H a=some (.lst (intsV c))∧c.length≤160∧StA H s z∧a≠s∧∀ p c' H',Oth s H H'→StA H' s z→H' p=some (.lst (intsV c'))→p≠s→c'.length≤c.length+2→Q (.ref p) H'
theorem ao0 (T:Txt K mg t):FnOk P w K mg base CX0 2 t.a__law_spoilt t.fd__law_spoilt ["cells","state"] (b64 K):=by
 have G__law_take:=aa2 (P:=P) (w:=w) (base:=base) T
 refine T.F__law_spoilt.ok sc_law_spoilt (fun vs H Q E h=>?_) (fun cdv A outer s H vs Q E hr h=>?_)
 · obtain ⟨a,s,c,z,rfl,_⟩:=h
   rfl
 · obtain ⟨a,s0,c,z,rfl,ha,hcl,k0,ha0,q⟩:=h
   refine ⟨_,(@a03 _ _ _ _ _ (@a34 _ _ 2 _ _ _ _ sc_law_spoilt.nd rfl (by walk_at "o") (@a08 _ _ _ _ _ _ _ _ _ _ _ _ _ _ _ _ G__law_take (hr.mono (by omega)) rfl T.m__law_take T.F__law_take.kp T.b__law_take .nil a38 (@a00 _ _ _ _ _ (pv 1) (@a00 _ _ _ _ _ (@a02 _ _ _ _) (@a01 _) (by rfl)) (by rfl)) (by decide) (by rfl) (by rfl)) (by rfl) (by walk_at "o"))
    (@a03 _ _ _ _ _ (@a34 _ _ 3 _ _ _ _ sc_law_spoilt.nd rfl (by walk_at "o") (@a08 _ _ _ _ _ _ _ _ _ _ _ _ _ _ _ _ G__law_take (hr.mono (by omega)) rfl T.m__law_take T.F__law_take.kp T.b__law_take .nil a38 (@a00 _ _ _ _ _ (pv 1) (@a00 _ _ _ _ _ (@a26 _ _ _ _ _ _ _ _ _ ax1 (by rfl) T.z_max bi5 (@a00 _ _ _ _ _ (@a02 _ _ _ _) (@a00 _ _ _ _ _ (@a26 _ _ _ _ _ _ _ _ _ (a36 K) (by rfl) T.z_len a54 (@a00 _ _ _ _ _ (pv 0) (@a01 _) (by rfl)) (by decide) (by decide) (by rfl) (by rfl)) (@a01 _) (by rfl)) (by rfl)) (by decide) (by decide) (by rfl) (by rfl)) (@a01 _) (by rfl)) (by rfl)) (by decide) (by rfl) (by rfl)) (by rfl) (by walk_at "o"))
    (@a03 _ _ _ _ _ (@a76 _ _ _ _ _ _ _ _ (@PW.pt _ _ _ (@aa6 _ _ _ _ _ _ _ (@a09 _ _ _ _ _ _ _ _ (ag9 K (by exact hr.units)) (pv 0) (@a24 _ _ _ _ (@a01 _)) (nomark _)) (@aa4 _ _ _ _ (@a09 _ _ _ _ _ _ _ _ af1 (pv 2) (@a02 _ _ _ _) (nomark _))))) (@a07 _ _ _ (@a32 _ _ _ _ (@a30 _ _ _ _ _ _ _ (a04 K) (@a24 _ _ _ _ (@a00 _ _ _ _ _ (pv 0) (@a00 _ _ _ _ _ (@a24 _ _ _ _ (@a01 _)) (@a00 _ _ _ _ _ (@a31 _ _ _ _ _ _ _ _ a25 (pv 0) (@a24 _ _ _ _ (@a00 _ _ _ _ _ (@a02 _ _ _ _) (@a01 _) (by rfl)))) (@a00 _ _ _ _ _ (@a31 _ _ _ _ _ _ _ _ a25 (pv 0) (@a24 _ _ _ _ (@a00 _ _ _ _ _ (@a02 _ _ _ _) (@a00 _ _ _ _ _ (@a02 _ _ _ _) (@a01 _) (by rfl)) (by rfl)))) (@a00 _ _ _ _ _ (@a42 _ _ _ _ _ _ _ _ _ _ (a43 K) (pv 0) (@a79 _) (@a40 _ _ _ (pv 3))) (@a00 _ _ _ _ _ (bm1 K (pv 0) (@ao2 _ _ _ _ _ _ ag0 (@a02 _ _ _ _))) (@a01 _) (by rfl)) (by rfl)) (by rfl)) (by rfl)) (by rfl)) (by rfl))) (@a08 _ _ _ _ _ _ _ _ _ _ _ _ _ _ _ _ G__law_take (hr.mono (by omega)) rfl T.m__law_take T.F__law_take.kp T.b__law_take .nil a38 (@a00 _ _ _ _ _ (pv 1) (@a00 _ _ _ _ _ (@a02 _ _ _ _) (@a01 _) (by rfl)) (by rfl)) (by decide) (by rfl) (by rfl)) (fun _ _=>rfl)))) (@a35 _))
    (@a03 _ _ _ _ _ (@a76 _ _ _ _ _ _ _ _ (@a09 _ _ _ _ _ _ _ _ af1 (pv 2) (@a02 _ _ _ _) (nomark _)) (@a07 _ _ _ (@a32 _ _ _ _ (@a31 _ _ _ _ _ _ _ _ a25 (@a42 _ _ _ _ _ _ _ _ _ _ (a43 K) (pv 0) (@a79 _) (@a40 _ _ _ (pv 3))) (@a42 _ _ _ _ _ _ _ _ _ _ (a43 K) (pv 0) (@a40 _ _ _ (@a31 _ _ _ _ _ _ _ _ a25 (pv 3) (@a02 _ _ _ _))) (@a79 _))))) (@a35 _))
    (@a03 _ _ _ _ _ (@a76 _ _ _ _ _ _ _ _ (@a09 _ _ _ _ _ _ _ _ af1 (pv 2) (@a02 _ _ _ _) (nomark _)) (@a07 _ _ _ (@a32 _ _ _ _ (@a31 _ _ _ _ _ _ _ _ a25 (@a31 _ _ _ _ _ _ _ _ a25 (@a42 _ _ _ _ _ _ _ _ _ _ (a43 K) (pv 0) (@a79 _) (@a40 _ _ _ (pv 3))) (@a24 _ _ _ _ (@a00 _ _ _ _ _ (@a30 _ _ _ _ _ _ _ (a04 K) (pv 0) (pv 3) (fun _ _=>rfl)) (@a01 _) (by rfl)))) (@a42 _ _ _ _ _ _ _ _ _ _ (a43 K) (pv 0) (@a40 _ _ _ (pv 3)) (@a79 _))))) (@a35 _))
    (@a03 _ _ _ _ _ (@a76 _ _ _ _ _ _ _ _ (@a09 _ _ _ _ _ _ _ _ af1 (pv 2) (@a02 _ _ _ _) (nomark _)) (@a03 _ _ _ _ _ (@a34 _ _ 4 _ _ _ _ sc_law_spoilt.nd rfl (by walk_at "o") (@a08 _ _ _ _ _ _ _ _ _ _ _ _ _ _ _ _ G__law_take (hr.mono (by omega)) rfl T.m__law_take T.F__law_take.kp T.b__law_take .nil a38 (@a00 _ _ _ _ _ (pv 1) (@a00 _ _ _ _ _ (@a26 _ _ _ _ _ _ _ _ _ (a36 K) (by rfl) T.z_len a54 (@a00 _ _ _ _ _ (pv 0) (@a01 _) (by rfl)) (by decide) (by decide) (by rfl) (by rfl)) (@a01 _) (by rfl)) (by rfl)) (by decide) (by rfl) (by rfl)) (by rfl) (by walk_at "o"))
     (@a03 _ _ _ _ _ (@a34 _ _ 5 _ _ _ _ sc_law_spoilt.nd rfl (by walk_at "o") (@a31 _ _ _ _ _ _ _ _ a25 (@a42 _ _ _ _ _ _ _ _ _ _ (a43 K) (pv 0) (@a79 _) (@a40 _ _ _ (pv 3))) (@a42 _ _ _ _ _ _ _ _ _ _ (a43 K) (pv 0) (@a40 _ _ _ (@a31 _ _ _ _ _ _ _ _ a25 (pv 3) (@a02 _ _ _ _))) (@a79 _))) (by rfl) (by walk_at "o"))
     (@a07 _ _ _ (@a32 _ _ _ _ (@a31 _ _ _ _ _ _ _ _ a25 (@a31 _ _ _ _ _ _ _ _ a25 (@a42 _ _ _ _ _ _ _ _ _ _ (a43 K) (pv 5) (@a79 _) (@a40 _ _ _ (pv 4))) (@a24 _ _ _ _ (@a00 _ _ _ _ _ (@a30 _ _ _ _ _ _ _ (a04 K) (pv 0) (pv 3) (fun _ _=>rfl)) (@a01 _) (by rfl)))) (@a42 _ _ _ _ _ _ _ _ _ _ (a43 K) (pv 5) (@a40 _ _ _ (pv 4)) (@a79 _))))))) (@a35 _))
    (@a03 _ _ _ _ _ (@a34 _ _ 6 _ _ _ _ sc_law_spoilt.nd rfl (by walk_at "o") (@a24 _ _ _ _ (@a00 _ _ _ _ _ (@a31 _ _ _ _ _ _ _ _ a25 (@a30 _ _ _ _ _ _ _ (a04 K) (pv 0) (pv 3) (fun _ _=>rfl)) (@a02 _ _ _ _)) (@a00 _ _ _ _ _ (@a31 _ _ _ _ _ _ _ _ ay4 (@a30 _ _ _ _ _ _ _ (a04 K) (pv 0) (pv 3) (fun _ _=>rfl)) (@a02 _ _ _ _)) (@a00 _ _ _ _ _ (@a02 _ _ _ _) (@a00 _ _ _ _ _ (@a30 _ _ _ _ _ _ _ (a04 K) (pv 0) (@a08 _ _ _ _ _ _ _ _ _ _ _ _ _ _ _ _ G__law_take (hr.mono (by omega)) rfl T.m__law_take T.F__law_take.kp T.b__law_take .nil a38 (@a00 _ _ _ _ _ (pv 1) (@a00 _ _ _ _ _ (@a26 _ _ _ _ _ _ _ _ _ aj3 (by rfl) T.z_min ba6 (@a00 _ _ _ _ _ (@a02 _ _ _ _) (@a00 _ _ _ _ _ (@a26 _ _ _ _ _ _ _ _ _ (a36 K) (by rfl) T.z_len a54 (@a00 _ _ _ _ _ (pv 0) (@a01 _) (by rfl)) (by decide) (by decide) (by rfl) (by rfl)) (@a01 _) (by rfl)) (by rfl)) (by decide) (by decide) (by rfl) (by rfl)) (@a01 _) (by rfl)) (by rfl)) (by decide) (by rfl) (by rfl)) (fun _ _=>rfl)) (@a00 _ _ _ _ _ (@a08 _ _ _ _ _ _ _ _ _ _ _ _ _ _ _ _ G__law_take (hr.mono (by omega)) rfl T.m__law_take T.F__law_take.kp T.b__law_take .nil a38 (@a00 _ _ _ _ _ (pv 1) (@a00 _ _ _ _ _ (@a02 _ _ _ _) (@a01 _) (by rfl)) (by rfl)) (by decide) (by rfl) (by rfl)) (@a01 _) (by rfl)) (by rfl)) (by rfl)) (by rfl)) (by rfl))) (by rfl) (by walk_at "o"))
    (@a03 _ _ _ _ _ (@a34 _ _ 6 _ _ _ _ sc_law_spoilt.nd rfl (by walk_at "o") (@a31 _ _ _ _ _ _ _ _ a25 (pv 6) (@a24 _ _ _ _ (@a00 _ _ _ _ _ (@a31 _ _ _ _ _ _ _ _ ay4 (@ao2 _ _ _ _ _ _ ag0 (@a02 _ _ _ _)) (@a08 _ _ _ _ _ _ _ _ _ _ _ _ _ _ _ _ G__law_take (hr.mono (by omega)) rfl T.m__law_take T.F__law_take.kp T.b__law_take .nil a38 (@a00 _ _ _ _ _ (pv 1) (@a00 _ _ _ _ _ (@a02 _ _ _ _) (@a01 _) (by rfl)) (by rfl)) (by decide) (by rfl) (by rfl))) (@a00 _ _ _ _ _ (@a31 _ _ _ _ _ _ _ _ a25 (@a31 _ _ _ _ _ _ _ _ bg4 (@a02 _ _ _ _) (@a02 _ _ _ _)) (@a08 _ _ _ _ _ _ _ _ _ _ _ _ _ _ _ _ G__law_take (hr.mono (by omega)) rfl T.m__law_take T.F__law_take.kp T.b__law_take .nil a38 (@a00 _ _ _ _ _ (pv 1) (@a00 _ _ _ _ _ (@a02 _ _ _ _) (@a01 _) (by rfl)) (by rfl)) (by decide) (by rfl) (by rfl))) (@a00 _ _ _ _ _ (@a31 _ _ _ _ _ _ _ _ a25 (@a30 _ _ _ _ _ _ _ (a04 K) (pv 0) (pv 3) (fun _ _=>rfl)) (@a02 _ _ _ _)) (@a00 _ _ _ _ _ (@a31 _ _ _ _ _ _ _ _ a25 (@a30 _ _ _ _ _ _ _ (a04 K) (pv 0) (pv 3) (fun _ _=>rfl)) (@a02 _ _ _ _)) (@a01 _) (by rfl)) (by rfl)) (by rfl)) (by rfl)))) (by rfl) (by walk_at "o"))
    (@a07 _ _ _ (@a32 _ _ _ _ (@a31 _ _ _ _ _ _ _ _ a25 (@a31 _ _ _ _ _ _ _ _ a25 (@a42 _ _ _ _ _ _ _ _ _ _ (a43 K) (pv 0) (@a79 _) (@a40 _ _ _ (pv 3))) (@a24 _ _ _ _ (@a00 _ _ _ _ _ (@a30 _ _ _ _ _ _ _ (a04 K) (pv 6) (@a08 _ _ _ _ _ _ _ _ _ _ _ _ _ _ _ _ G__law_take (hr.mono (by omega)) rfl T.m__law_take T.F__law_take.kp T.b__law_take .nil a38 (@a00 _ _ _ _ _ (pv 1) (@a00 _ _ _ _ _ (@a02 _ _ _ _) (@a01 _) (by rfl)) (by rfl)) (by decide) (by rfl) (by rfl)) (fun _ _=>rfl)) (@a01 _) (by rfl)))) (@a42 _ _ _ _ _ _ _ _ _ _ (a43 K) (pv 0) (@a40 _ _ _ (@a31 _ _ _ _ _ _ _ _ a25 (pv 3) (@a02 _ _ _ _))) (@a79 _))))))))))))),?_⟩
   have sl:(1000000:Nat)≤sizeLine:=le_line (Nat.le_refl _)
   walk_at "go"
   refine ⟨s0,z,8,rfl,k0,by decide,by decide,fun r1 H1 hr1 o1 k1=>?_⟩
   walk_at "run"
   have ea1:=o1 _ _ ha0 ha
   refine a47 (SqL.of ea1) ?_
   walk_at "run"
   rw [Z.intsV_len]
   refine bm3 ?_
   walk_at "run"
   rw [show max (1:Int) ((c.length:Nat):Int)=((max 1 c.length:Nat):Int) by omega]
   refine ⟨s0,z,max 1 c.length,rfl,k1,by omega,by omega,fun at' H2 hat o2 k2=>?_⟩
   walk_at "run"
   have ea2:=o2 _ _ ha0 ea1
   have o02:=o1.trans o2
   intro p3 H4 f3 s3 e3
   have ea4:=s3 _ _ ea2
   have k4:=k2.same s3
   have o04:=o02.trans (a58 s3)
   refine ar9 (SqL.of ea4) (SqL.of e3) ?_
   walk_at "run"
   refine ite2 (fun hc0=>?_) (fun hc0=>?_)
   · walk_at "run"
     intro q1 H5 g1 t1 x1
     walk_at "run"
     intro q2 H6 g2 t2 x2
     walk_at "run"
     have ea5:=t1 _ _ ea4
     have ea6:=t2 _ _ ea5
     refine a67 ea6 x2 (le_line (by rw [Z.intsV_len]; simp only [List.length_cons,List.length_nil]; omega)) ?_
     intro q3 H7 g3 t3 x3
     have ea7:=t3 _ _ ea6
     walk_at "run"
     intro q4 H8 g4 t4 x4
     have ea8:=t4 _ _ ea7
     walk_at "run"
     refine a67 ea8 x4 (le_line (by rw [Z.intsV_len]; simp only [List.length_cons,List.length_nil]; omega)) ?_
     intro q5 H9 g5 t5 x5
     have ea9:=t5 _ _ ea8
     walk_at "run"
     refine a95 (SqL.of ea9) ?_
     rw [ab6]
     intro q6 H10 g6 t6 x6
     have ea10:=t6 _ _ ea9
     walk_at "run"
     refine ⟨rfl,a,_,rfl,SqL.of ea10,?_⟩
     intro q7 H11 g7 t7 x7
     have ea11:=t7 _ _ ea10
     walk_at "run"
     intro q8 H12 g8 t8 x8
     have ea12:=t8 _ _ ea11
     walk_at "run"
     have t13:=t1.trans (t2.trans t3)
     have t15:=t13.trans (t4.trans t5)
     have t17:=t15.trans (t6.trans t7)
     have t18:=t17.trans t8
     refine ⟨s0,z,6,rfl,k4.same t18,by decide,by decide,fun r6 H13 hr6 o13 k13=>?_⟩
     walk_at "run"
     have o0:=o04.trans ((a58 t18).trans o13)
     have n8:q8≠s0:=(k4.same t17).ne g8
     have fin:∀ (p:Addr) (vs:List V),H12 p=some (.lst vs)→p≠s0→IsI vs→vs.length≤c.length+2→Q (.ref p) H13:=fun p vs e hp ⟨c',hc'⟩ hl=>q p c' H13 o0 k13 (by rw [← hc']; exact o13 _ _ hp e) hp (by rw [hc',Z.intsV_len] at hl; exact hl)
     have hor:r6=0∨r6=1∨r6=2∨r6=3∨r6=4∨r6=5:=by omega
     rcases hor with rfl | rfl | rfl | rfl | rfl | rfl
     · refine a29 (SqL.of (o13 _ _ n8 x8)) (a05 (j:=0) rfl) ?_
       exact fin a _ ea12 ha0 ⟨c,rfl⟩ (by rw [Z.intsV_len]; omega)
     · refine a29 (SqL.of (o13 _ _ n8 x8)) (a05 (j:=1) rfl) ?_
       exact fin q1 _ ((t2.trans (t3.trans (t4.trans (t5.trans (t6.trans (t7.trans t8)))))) _ _ x1) (k4.ne g1) IsI.nil (by simp)
     · refine a29 (SqL.of (o13 _ _ n8 x8)) (a05 (j:=2) rfl) ?_
       exact fin q3 _ ((t4.trans (t5.trans (t6.trans (t7.trans t8)))) _ _ x3) ((k4.same (t1.trans t2)).ne g3) (IsI.app ⟨c,rfl⟩ (IsI.one 0)) (by rw [List.length_append,Z.intsV_len]; simp)
     · refine a29 (SqL.of (o13 _ _ n8 x8)) (a05 (j:=3) rfl) ?_
       exact fin q5 _ ((t6.trans (t7.trans t8)) _ _ x5) ((k4.same (t13.trans t4)).ne g5) (IsI.app ⟨c,rfl⟩ ⟨[0,0],rfl⟩) (by rw [List.length_append,Z.intsV_len]; simp)
     · refine a29 (SqL.of (o13 _ _ n8 x8)) (a05 (j:=4) rfl) ?_
       exact fin q6 _ ((t7.trans t8) _ _ x6) ((k4.same t15).ne g6) (IsI.take ⟨c,rfl⟩) (by rw [List.length_take,Z.intsV_len]; omega)
     · refine a29 (SqL.of (o13 _ _ n8 x8)) (a05 (j:=5) rfl) ?_
       exact fin q7 _ (t8 _ _ x7) ((k4.same (t15.trans t6)).ne g7) ⟨c.reverse,by simp [intsV]⟩ (by rw [List.length_reverse,Z.intsV_len]; omega)
   have hcne:0<c.length:=by
    cases c with
    | nil=>simp [intsV] at hc0
    | cons=>simp
   have hat':at'<c.length:=by omega
   walk_at "run"
   refine ite2 (fun hc7=>?_) (fun hc7=>?_)
   · walk_at "run"
     intro q1 H5 g1 t1 x1
     walk_at "run"
     intro q2 H6 g2 t2 x2
     walk_at "run"
     have ea5:=t1 _ _ ea4
     have ea6:=t2 _ _ ea5
     refine a67 ea6 x2 (le_line (by rw [Z.intsV_len]; simp only [List.length_cons,List.length_nil]; omega)) ?_
     intro q3 H7 g3 t3 x3
     have ea7:=t3 _ _ ea6
     walk_at "run"
     intro q4 H8 g4 t4 x4
     have ea8:=t4 _ _ ea7
     walk_at "run"
     refine a67 ea8 x4 (le_line (by rw [Z.intsV_len]; simp only [List.length_cons,List.length_nil]; omega)) ?_
     intro q5 H9 g5 t5 x5
     have ea9:=t5 _ _ ea8
     walk_at "run"
     refine a95 (SqL.of ea9) ?_
     rw [ab6]
     intro q6 H10 g6 t6 x6
     have ea10:=t6 _ _ ea9
     walk_at "run"
     refine ⟨rfl,a,_,rfl,SqL.of ea10,?_⟩
     intro q7 H11 g7 t7 x7
     have ea11:=t7 _ _ ea10
     walk_at "run"
     intro q8 H12 g8 t8 x8
     have ea12:=t8 _ _ ea11
     walk_at "run"
     have t13:=t1.trans (t2.trans t3)
     have t15:=t13.trans (t4.trans t5)
     have t17:=t15.trans (t6.trans t7)
     have t18:=t17.trans t8
     refine ⟨s0,z,6,rfl,k4.same t18,by decide,by decide,fun r6 H13 hr6 o13 k13=>?_⟩
     walk_at "run"
     have o0:=o04.trans ((a58 t18).trans o13)
     have n8:q8≠s0:=(k4.same t17).ne g8
     have fin:∀ (p:Addr) (vs:List V),H12 p=some (.lst vs)→p≠s0→IsI vs→vs.length≤c.length+2→Q (.ref p) H13:=fun p vs e hp ⟨c',hc'⟩ hl=>q p c' H13 o0 k13 (by rw [← hc']; exact o13 _ _ hp e) hp (by rw [hc',Z.intsV_len] at hl; exact hl)
     have hor:r6=0∨r6=1∨r6=2∨r6=3∨r6=4∨r6=5:=by omega
     rcases hor with rfl | rfl | rfl | rfl | rfl | rfl
     · refine a29 (SqL.of (o13 _ _ n8 x8)) (a05 (j:=0) rfl) ?_
       exact fin a _ ea12 ha0 ⟨c,rfl⟩ (by rw [Z.intsV_len]; omega)
     · refine a29 (SqL.of (o13 _ _ n8 x8)) (a05 (j:=1) rfl) ?_
       exact fin q1 _ ((t2.trans (t3.trans (t4.trans (t5.trans (t6.trans (t7.trans t8)))))) _ _ x1) (k4.ne g1) IsI.nil (by simp)
     · refine a29 (SqL.of (o13 _ _ n8 x8)) (a05 (j:=2) rfl) ?_
       exact fin q3 _ ((t4.trans (t5.trans (t6.trans (t7.trans t8)))) _ _ x3) ((k4.same (t1.trans t2)).ne g3) (IsI.app ⟨c,rfl⟩ (IsI.one 0)) (by rw [List.length_append,Z.intsV_len]; simp)
     · refine a29 (SqL.of (o13 _ _ n8 x8)) (a05 (j:=3) rfl) ?_
       exact fin q5 _ ((t6.trans (t7.trans t8)) _ _ x5) ((k4.same (t13.trans t4)).ne g5) (IsI.app ⟨c,rfl⟩ ⟨[0,0],rfl⟩) (by rw [List.length_append,Z.intsV_len]; simp)
     · refine a29 (SqL.of (o13 _ _ n8 x8)) (a05 (j:=4) rfl) ?_
       exact fin q6 _ ((t7.trans t8) _ _ x6) ((k4.same t15).ne g6) (IsI.take ⟨c,rfl⟩) (by rw [List.length_take,Z.intsV_len]; omega)
     · refine a29 (SqL.of (o13 _ _ n8 x8)) (a05 (j:=5) rfl) ?_
       exact fin q7 _ (t8 _ _ x7) ((k4.same (t15.trans t6)).ne g7) ⟨c.reverse,by simp [intsV]⟩ (by rw [List.length_reverse,Z.intsV_len]; omega)
   walk_at "run"
   have fin:∀ (p:Addr) (vs:List V) (H':Hp),Oth s0 H4 H'→StA H' s0 z→H' p=some (.lst vs)→p≠s0→IsI vs→vs.length≤c.length+2→Q (.ref p) H':=fun p vs H' o k e hp ⟨c',hc'⟩ hl=>q p c' H' (o04.trans o) k (by rw [← hc']; exact e) hp (by rw [hc',Z.intsV_len] at hl; exact hl)
   have hatV:atI (intsV c) ((at':Nat):Int)=some (.int (Z.gi c at')):=a05 (Z.iv_at hat')
   refine ite2 (fun hk0=>?_) (fun hk0=>?_)
   · walk_at "run"
     refine a95 (SqL.of ea4) ?_
     rw [ab6]
     intro q1 H5 g1 t1 x1
     walk_at "run"
     refine a95 (SqL.of (t1 _ _ ea4)) ?_
     rw [show ((at':Nat):Int)+1=((at'+1:Nat):Int) by omega,ad0]
     intro q2 H6 g2 t2 x2
     walk_at "run"
     refine a67 (t2 _ _ x1) x2 (le_line (by simp [intsV]; omega)) ?_
     intro q3 H7 g3 t3 x3
     exact fin q3 _ H7 (a58 (t1.trans (t2.trans t3))) (k4.same (t1.trans (t2.trans t3))) x3 ((k4.same (t1.trans t2)).ne g3) (IsI.app (IsI.take ⟨c,rfl⟩) (IsI.drop ⟨c,rfl⟩)) (by simp [intsV]; omega)
   walk_at "run"
   refine ite2 (fun hk1=>?_) (fun hk1=>?_)
   · walk_at "run"
     refine a95 (SqL.of ea4) ?_
     rw [ab6]
     intro q1 H5 g1 t1 x1
     walk_at "run"
     refine a29 (SqL.of (t1 _ _ ea4)) hatV ?_
     walk_at "run"
     intro q2 H6 g2 t2 x2
     walk_at "run"
     refine a67 (t2 _ _ x1) x2 (le_line (by simp [intsV]; omega)) ?_
     intro q3 H7 g3 t3 x3
     walk_at "run"
     have t13:=t1.trans (t2.trans t3)
     refine a95 (SqL.of (t13 _ _ ea4)) ?_
     rw [ad0]
     intro q4 H8 g4 t4 x4
     walk_at "run"
     refine a67 (t4 _ _ x3) x4 (le_line (by simp [intsV]; omega)) ?_
     intro q5 H9 g5 t5 x5
     have t15:=t13.trans (t4.trans t5)
     exact fin q5 _ H9 (a58 t15) (k4.same t15) x5 ((k4.same (t13.trans t4)).ne g5) (IsI.app (IsI.app (IsI.take ⟨c,rfl⟩) (IsI.one _)) (IsI.drop ⟨c,rfl⟩)) (by simp [intsV]; omega)
   walk_at "run"
   refine ite2 (fun hk2=>?_) (fun hk2=>?_)
   · walk_at "run"
     refine a47 (SqL.of ea4) ?_
     walk_at "run"
     rw [Z.intsV_len]
     refine ⟨s0,z,c.length,rfl,k4,by omega,by omega,fun r2 H5 hr2 o5 k5=>?_⟩
     walk_at "run"
     have ea5:=o5 _ _ ha0 ea4
     refine a95 (SqL.of ea5) ?_
     rw [ab6]
     intro q1 H6 g1 t1 x1
     walk_at "run"
     refine a95 (SqL.of (t1 _ _ ea5)) ?_
     rw [show ((at':Nat):Int)+1=((at'+1:Nat):Int) by omega,ad0]
     intro q2 H7 g2 t2 x2
     walk_at "run"
     refine a67 (t2 _ _ x1) x2 (le_line (by simp [intsV]; omega)) ?_
     intro q3 H8 g3 t3 x3
     walk_at "run"
     have t13:=t1.trans (t2.trans t3)
     have hI3:IsI ((intsV c).take at'++(intsV c).drop (at'+1)):=IsI.app (IsI.take ⟨c,rfl⟩) (IsI.drop ⟨c,rfl⟩)
     have hl3:((intsV c).take at'++(intsV c).drop (at'+1)).length≤c.length:=by simp [intsV]; omega
     generalize (intsV c).take at'++(intsV c).drop (at'+1)=v3 at x3 hI3 hl3
     refine a95 (SqL.of x3) ?_
     rw [ab6]
     intro q4 H9 g4 t4 x4
     walk_at "run"
     refine a29 (SqL.of ((t13.trans t4) _ _ ea5)) hatV ?_
     walk_at "run"
     intro q5 H10 g5 t5 x5
     walk_at "run"
     refine a67 (t5 _ _ x4) x5 (le_line (by simp; omega)) ?_
     intro q6 H11 g6 t6 x6
     walk_at "run"
     have t46:=t4.trans (t5.trans t6)
     refine a95 (SqL.of (t46 _ _ x3)) ?_
     rw [ad0]
     intro q7 H12 g7 t7 x7
     walk_at "run"
     refine a67 (t7 _ _ x6) x7 (le_line (by simp; omega)) ?_
     intro q8 H13 g8 t8 x8
     have t18:=t13.trans (t46.trans (t7.trans t8))
     exact fin q8 _ H13 (o5.trans (a58 t18)) (k5.same t18) x8 ((k5.same (t13.trans (t46.trans t7))).ne g8) (IsI.app (IsI.app (IsI.take hI3) (IsI.one _)) (IsI.drop hI3)) (by simp; omega)
   walk_at "run"
   refine a29 (SqL.of ea4) hatV ?_
   walk_at "run"
   refine a29 (SqL.of ea4) hatV ?_
   walk_at "run"
   refine a47 (SqL.of ea4) ?_
   walk_at "run"
   rw [Z.intsV_len,show min (4:Int) ((c.length:Nat):Int)=((min 4 c.length:Nat):Int) by omega]
   refine ⟨s0,z,min 4 c.length,rfl,k4,by omega,by omega,fun r2 H5 hr2 o5 k5=>?_⟩
   walk_at "run"
   have ea5:=o5 _ _ ha0 ea4
   refine a29 (SqL.of ea5) (a05 (Z.iv_at (i:=r2) (by omega))) ?_
   walk_at "run"
   refine ⟨s0,z,40,rfl,k5,by decide,by decide,fun r3 H6 hr3 o6 k6=>?_⟩
   walk_at "run"
   have ea6:=o6 _ _ ha0 ea5
   intro q1 H7 g1 t1 x1
   walk_at "run"
   have k7:=k6.same t1
   refine ⟨s0,z,9,rfl,k7,by decide,by decide,fun r4 H8 hr4 o8 k8=>?_⟩
   walk_at "run"
   have ea8:=o8 _ _ ha0 (t1 _ _ ea6)
   refine ⟨s0,z,9,rfl,k8,by decide,by decide,fun r5 H9 hr5 o9 k9=>?_⟩
   generalize (10:Int) ^ Int.toNat 59=big
   walk_at "run"
   have ea9:=o9 _ _ ha0 ea8
   refine a29 (SqL.of ea9) hatV ?_
   walk_at "run"
   refine a29 (SqL.of ea9) hatV ?_
   walk_at "run"
   intro q2 H10 g2 t2 x2
   walk_at "run"
   have nq1:q1≠s0:=k6.ne g1
   have x1':=t2 _ _ (o9 _ _ nq1 (o8 _ _ nq1 x1))
   refine a67 x1' x2 (le_line (by simp)) ?_
   intro q3 H11 g3 t3 x3
   walk_at "run"
   have hI3:=(IsI.app ⟨[Z.gi c at'+1,Z.gi c at' - 1,0,Z.gi c r2,(r3:Int)],rfl⟩ ⟨[-1 - (r4:Int),big+(r5:Int),Z.gi c at'+2,Z.gi c at'+3],rfl⟩:IsI ([V.int (Z.gi c at'+1),.int (Z.gi c at' - 1),.int 0,.int (Z.gi c r2),.int (r3:Nat)]++[.int (-1 - (r4:Int)),.int (big+(r5:Int)),.int (Z.gi c at'+2),.int (Z.gi c at'+3)]))
   have t23:=t2.trans t3
   have ea11:=t23 _ _ ea9
   have k11:=k9.same t23
   refine a95 (SqL.of ea11) ?_
   rw [ab6]
   intro q4 H12 g4 t4 x4
   walk_at "run"
   refine ⟨s0,z,9,rfl,k11.same t4,by decide,by decide,fun r6 H13 hr6 o13 k13=>?_⟩
   walk_at "run"
   have nq3:q3≠s0:=(k9.same t2).ne g3
   have nq4:q4≠s0:=k11.ne g4
   obtain ⟨zz,hzz⟩:=hI3.at (r:=r6) (by simp; omega)
   refine a29 (SqL.of (o13 _ _ nq3 (t4 _ _ x3))) hzz ?_
   walk_at "run"
   intro q5 H14 g5 t5 x5
   walk_at "run"
   have x4':=o13 _ _ nq4 x4
   have ea13:=o13 _ _ ha0 (t4 _ _ ea11)
   refine a67 (t5 _ _ x4') x5 (le_line (by simp [intsV]; omega)) ?_
   intro q6 H15 g6 t6 x6
   walk_at "run"
   refine a95 (SqL.of ((t5.trans t6) _ _ ea13)) ?_
   rw [show ((at':Nat):Int)+1=((at'+1:Nat):Int) by omega,ad0]
   intro q7 H16 g7 t7 x7
   walk_at "run"
   refine a67 (t7 _ _ x6) x7 (le_line (by simp [intsV]; omega)) ?_
   intro q8 H17 g8 t8 x8
   have t57:=t5.trans (t6.trans t7)
   have o017:Oth s0 H4 H17:=o5.trans (o6.trans ((a58 t1).trans (o8.trans (o9.trans ((a58 (t23.trans t4)).trans (o13.trans (a58 (t57.trans t8))))))))
   exact fin q8 _ H17 o017 (k13.same (t57.trans t8)) x8 ((k13.same t57).ne g8) (IsI.app (IsI.app (IsI.take ⟨c,rfl⟩) (IsI.one _)) (IsI.drop ⟨c,rfl⟩)) (by simp [intsV]; omega)
open Z (a41 a64 a62 a72 a51 a52 a59)
theorem bn4 (T:Txt K mg t):FnOk P w K mg base CX0 6 t.a_law t.fd_law ["script"] (ai7 K):=by
 have G__law_cell:=ah5 (P:=P) (w:=w) (base:=base) T
 have G__law_cells:=ar5 (P:=P) (w:=w) (base:=base) T
 have G__law_events:=am5 (P:=P) (w:=w) (base:=base) T
 have G__law_good:=ah9 (P:=P) (w:=w) (base:=base) T
 have G__law_right:=ar3 (P:=P) (w:=w) (base:=base) T
 have G__law_spoilt:=ao0 (P:=P) (w:=w) (base:=base) T
 have G__law_take:=aa2 (P:=P) (w:=w) (base:=base) T
 refine T.F_law.ok sc_law (fun vs H Q E h=>?_) (fun cdv A outer s H vs Q E hr h=>?_)
 · obtain ⟨a,ns,rfl,_⟩:=h
   rfl
 · obtain ⟨a0,ns,rfl,hS,hl,q⟩:=h
   refine ⟨_,(@a03 _ _ _ _ _ (@a34 _ _ 1 _ _ _ _ sc_law.nd rfl (by walk_at "o") (@a31 _ _ _ _ _ _ _ _ aa7 (@a26 _ _ _ _ _ _ _ _ _ (bd8 K) (by rfl) T.z_sum bi4 (@a00 _ _ _ _ _ (pv 0) (@a01 _) (by rfl)) (by decide) (by decide) (by rfl) (by rfl)) (@a02 _ _ _ _)) (by rfl) (by walk_at "o"))
    (@a03 _ _ _ _ _ (@a34 _ _ 2 _ _ _ _ sc_law.nd rfl (by walk_at "o") (@a24 _ _ _ _ (@a00 _ _ _ _ _ (@a08 _ _ _ _ _ _ _ _ _ _ _ _ _ _ _ _ G__law_cell (hr.mono (by omega)) rfl T.m__law_cell T.F__law_cell.kp T.b__law_cell .nil a38 (@a00 _ _ _ _ _ (pv 0) (@a00 _ _ _ _ _ (@a02 _ _ _ _) (@a00 _ _ _ _ _ (pv 1) (@a01 _) (by rfl)) (by rfl)) (by rfl)) (by decide) (by rfl) (by rfl)) (@a00 _ _ _ _ _ (pv 1) (@a01 _) (by rfl)) (by rfl))) (by rfl) (by walk_at "o"))
    (@a03 _ _ _ _ _ (@a34 _ _ 3 _ _ _ _ sc_law.nd rfl (by walk_at "o") (@a08 _ _ _ _ _ _ _ _ _ _ _ _ _ _ _ _ G__law_events (hr.mono (by omega)) rfl T.m__law_events T.F__law_events.kp T.b__law_events .nil a38 (@a00 _ _ _ _ _ (pv 2) (@a01 _) (by rfl)) (by decide) (by rfl) (by rfl)) (by rfl) (by walk_at "o"))
    (@a03 _ _ _ _ _ (@a34 _ _ 4 _ _ _ _ sc_law.nd rfl (by walk_at "o") (@a42 _ _ _ _ _ _ _ _ _ _ (a43 K) (@a24 _ _ _ _ (@a00 _ _ _ _ _ (@ab7 _ _ _ _) (@a00 _ _ _ _ _ (@ab7 _ _ _ _) (@a00 _ _ _ _ _ (@ab7 _ _ _ _) (@a01 _) (by rfl)) (by rfl)) (by rfl))) (@a79 _) (@a40 _ _ _ (@a31 _ _ _ _ _ _ _ _ a25 (@a02 _ _ _ _) (@a08 _ _ _ _ _ _ _ _ _ _ _ _ _ _ _ _ G__law_take (hr.mono (by omega)) rfl T.m__law_take T.F__law_take.kp T.b__law_take .nil a38 (@a00 _ _ _ _ _ (pv 2) (@a00 _ _ _ _ _ (@a02 _ _ _ _) (@a01 _) (by rfl)) (by rfl)) (by decide) (by rfl) (by rfl))))) (by rfl) (by walk_at "o"))
    (@a03 _ _ _ _ _ (@a34 _ _ 5 _ _ _ _ sc_law.nd rfl (by walk_at "o") (@a08 _ _ _ _ _ _ _ _ _ _ _ _ _ _ _ _ G__law_cells (hr.mono (by omega)) rfl T.m__law_cells T.F__law_cells.kp T.b__law_cells .nil a38 (@a00 _ _ _ _ _ (pv 0) (@a00 _ _ _ _ _ (pv 1) (@a00 _ _ _ _ _ (@a26 _ _ _ _ _ _ _ _ _ (a36 K) (by rfl) T.z_len a54 (@a00 _ _ _ _ _ (pv 3) (@a01 _) (by rfl)) (by decide) (by decide) (by rfl) (by rfl)) (@a00 _ _ _ _ _ (@a26 _ _ _ _ _ _ _ _ _ (a36 K) (by rfl) T.z_len a54 (@a00 _ _ _ _ _ (pv 4) (@a01 _) (by rfl)) (by decide) (by decide) (by rfl) (by rfl)) (@a01 _) (by rfl)) (by rfl)) (by rfl)) (by rfl)) (by decide) (by rfl) (by rfl)) (by rfl) (by walk_at "o"))
    (@a03 _ _ _ _ _ (@a76 _ _ _ _ _ _ _ _ (@PW.pt _ _ _ (@aa6 _ _ _ _ _ _ _ (@a09 _ _ _ _ _ _ _ _ af4 (@a08 _ _ _ _ _ _ _ _ _ _ _ _ _ _ _ _ G__law_good (hr.mono (by omega)) rfl T.m__law_good T.F__law_good.kp T.b__law_good .nil a38 (@a00 _ _ _ _ _ (@a26 _ _ _ _ _ _ _ _ _ (a36 K) (by rfl) T.z_len a54 (@a00 _ _ _ _ _ (pv 3) (@a01 _) (by rfl)) (by decide) (by decide) (by rfl) (by rfl)) (@a00 _ _ _ _ _ (@a26 _ _ _ _ _ _ _ _ _ (a36 K) (by rfl) T.z_len a54 (@a00 _ _ _ _ _ (pv 4) (@a01 _) (by rfl)) (by decide) (by decide) (by rfl) (by rfl)) (@a00 _ _ _ _ _ (pv 5) (@a01 _) (by rfl)) (by rfl)) (by rfl)) (by decide) (by rfl) (by rfl)) (@a89 _ _ _) (nomark _)) (@aa4 _ _ _ _ (@ac1 _ _ _ _ (ad5 K (@a08 _ _ _ _ _ _ _ _ _ _ _ _ _ _ _ _ G__law_right (hr.mono (by omega)) rfl T.m__law_right T.F__law_right.kp T.b__law_right .nil a38 (@a00 _ _ _ _ _ (pv 3) (@a00 _ _ _ _ _ (pv 4) (@a00 _ _ _ _ _ (pv 5) (@a01 _) (by rfl)) (by rfl)) (by rfl)) (by decide) (by rfl) (by rfl)) (fun _=>rfl)))))) (@a07 _ _ _ (@a32 _ _ _ _ (@ab9 _ _ _ _))) (@a35 _))
    (@a03 _ _ _ _ _ (@a98 _ _ _ _ _ _ _ _ PassesOwn.never rfl (a39 K (@a42 _ _ _ _ _ _ _ _ _ _ (a43 K) (pv 0) (@a79 _) (@a40 _ _ _ (@a02 _ _ _ _)))) (a27 (i:=6) sc_law.nd rfl (by walk_at "o")) (@a03 _ _ _ _ _ (@a34 _ _ 7 _ _ _ _ sc_law.nd rfl (by walk_at "o") (@a24 _ _ _ _ (@a00 _ _ _ _ _ (pv 6) (@a00 _ _ _ _ _ (pv 1) (@a01 _) (by rfl)) (by rfl))) (by rfl) (by walk_at "o"))
     (@a03 _ _ _ _ _ (@a34 _ _ 8 _ _ _ _ sc_law.nd rfl (by walk_at "o") (@a08 _ _ _ _ _ _ _ _ _ _ _ _ _ _ _ _ G__law_spoilt (hr.mono (by omega)) rfl T.m__law_spoilt T.F__law_spoilt.kp T.b__law_spoilt .nil a38 (@a00 _ _ _ _ _ (pv 5) (@a00 _ _ _ _ _ (pv 7) (@a01 _) (by rfl)) (by rfl)) (by decide) (by rfl) (by rfl)) (by rfl) (by walk_at "o"))
     (@b06 _ _ _ _ _ (@a76 _ _ _ _ _ _ _ _ (@a09 _ _ _ _ _ _ _ _ af1 (@a08 _ _ _ _ _ _ _ _ _ _ _ _ _ _ _ _ G__law_take (hr.mono (by omega)) rfl T.m__law_take T.F__law_take.kp T.b__law_take .nil a38 (@a00 _ _ _ _ _ (pv 7) (@a00 _ _ _ _ _ (@a02 _ _ _ _) (@a01 _) (by rfl)) (by rfl)) (by decide) (by rfl) (by rfl)) (@a02 _ _ _ _) (nomark _)) (@a07 _ _ _ (@a34 _ _ 8 _ _ _ _ sc_law.nd rfl (by walk_at "o") (@a08 _ _ _ _ _ _ _ _ _ _ _ _ _ _ _ _ G__law_spoilt (hr.mono (by omega)) rfl T.m__law_spoilt T.F__law_spoilt.kp T.b__law_spoilt .nil a38 (@a00 _ _ _ _ _ (pv 8) (@a00 _ _ _ _ _ (pv 7) (@a01 _) (by rfl)) (by rfl)) (by decide) (by rfl) (by rfl)) (by rfl) (by walk_at "o"))) (@a35 _))
     (@a07 _ _ _ (@a76 _ _ _ _ _ _ _ _ (@ac1 _ _ _ _ (ad5 K (@a08 _ _ _ _ _ _ _ _ _ _ _ _ _ _ _ _ G__law_right (hr.mono (by omega)) rfl T.m__law_right T.F__law_right.kp T.b__law_right .nil a38 (@a00 _ _ _ _ _ (pv 3) (@a00 _ _ _ _ _ (pv 4) (@a00 _ _ _ _ _ (pv 8) (@a01 _) (by rfl)) (by rfl)) (by rfl)) (by decide) (by rfl) (by rfl)) (fun _=>rfl))) (@a07 _ _ _ (@a32 _ _ _ _ (@ab9 _ _ _ _))) (@a35 _)))))) (by intro _; rfl))
    (@a07 _ _ _ (@a32 _ _ _ _ (@ab9 _ _ _ _)))))))))),?_⟩
   have sl:(1000000:Nat)≤sizeLine:=le_line (Nat.le_refl _)
   walk_at "go"
   refine bp6 hS ?_
   walk_at "run"
   obtain ⟨m,hm⟩:∃ m:Int,m=ns.sum % 2:=⟨_,rfl⟩
   have hm0:0≤m:=by rw [hm]; omega
   have hm1:m≤1:=by rw [hm]; omega
   rw [← hm]
   refine ⟨a0,ns,0,m,rfl,hS,by omega,hm0,hm1,fun z0 H1 s1=>?_⟩
   walk_at "run"
   intro pf H2 f2 s2 e2
   walk_at "run"
   have k2:StA H2 pf m:=⟨z0,e2⟩
   have fpf:H pf=none:=s1.free f2
   refine ⟨pf,m,rfl,k2,fun es pe us H3 fpe epe hev hnd hel he0 o3 k3=>?_⟩
   walk_at "run"
   have npe:pe≠pf:=k2.ne fpe
   intro p4 H4 f4 s4 e4
   walk_at "run"
   refine ⟨pf,m,3,rfl,k3.same s4,by decide,by decide,fun r1 H5 hr1 o5 k5=>?_⟩
   walk_at "run"
   have np4:p4≠pf:=k3.ne f4
   refine a95 (SqL.of (o5 _ _ np4 e4)) ?_
   rw [show (1:Int)+((r1:Nat):Int)=((1+r1:Nat):Int) by omega,ab6]
   intro pt H6 f6 s6 e6
   walk_at "run"
   have o26:Oth pf H2 H6:=o3.trans ((a58 s4).trans (o5.trans (a58 s6)))
   have s06:Same H H6:=o26.new (s1.trans s2) fpf
   obtain ⟨txs,etx,htl0,htl⟩:∃ txs:List Str,H6 pt=some (.lst (strsV txs))∧0<txs.length∧txs.length≤3:=⟨(["1:yes","a","b"]:List Str).take (1+r1),by rw [e6]; simp [strsV],by simp; omega,by simp; omega⟩
   have epe6:H6 pe=some (.lst us):=s6 _ _ (o5 _ _ npe (s4 _ _ epe))
   have hev6:Tr.Ats H6 (es.map Ev.tr) us []:=hev.mono ⟨s4.tups.trans ((o5.tups (k3.same s4)).trans s6.tups),fun x hx=>absurd hx (by simp)⟩
   have ul:us.length=es.length:=by rw [hev6.len,List.length_map]
   have tl:(strsV txs).length=txs.length:=by simp [strsV]
   refine a47 (SqL.of epe6) ?_
   walk_at "run"
   refine a47 (SqL.of etx) ?_
   walk_at "run"
   rw [ul,tl]
   refine ⟨a0,ns,m,es.length,txs.length,rfl,s06.seq hS,hm0,hm1,he0,by omega,htl0,htl,fun pw k H7 s7 ew v kcl=>?_⟩
   walk_at "run"
   refine a47 (SqL.of (s7 _ _ epe6)) ?_
   walk_at "run"
   refine a47 (SqL.of (s7 _ _ etx)) ?_
   walk_at "run"
   rw [ul,tl]
   have ew':=ew
   rw [aa3] at ew'
   have zcl:(zs k.cells).length≤140:=by rw [a91]; exact kcl
   refine ⟨pw,zs k.cells,es.length,txs.length,rfl,ew',by omega,by omega,fun H8 s8 hno=>absurd ⟨k,rfl,v⟩ hno,fun pp aa bb dd bs ds k' H8 s8 ek v' ptt=>?_⟩
   walk_at "run"
   refine aj0 (by simp) ?_
   walk_at "run"
   have s68:=s7.trans s8
   refine ⟨pe,pt,pw,us,es,txs,zs k.cells,rfl,s68 _ _ epe6,hev6.same s68,by omega,s68 _ _ etx,by omega,s8 _ _ ew',by omega,fun H9 s9=>?_⟩
   walk_at "run"
   have s69:=s68.trans s9
   have s79:=s8.trans s9
   refine a95 ((s06.trans s69).seq hS) ?_
   intro pz H10 f10 s10 e10
   rw [show cutV (ns.map V.int) none (some 40)=(ns.take 40).map V.int from bi7 (k:=40)] at e10
   walk_at "run"
   have s610:=s69.trans s10
   have ew10:=(s79.trans s10) _ _ ew'
   have epe10:=s610 _ _ epe6
   have etx10:=s610 _ _ etx
   have hev10:=hev6.same s610
   refine ⟨⟨_,SqL.of e10⟩,a94 (K:=K) (a:=pz) (xs:=(ns.take 40).map V.int) (fun i σ H'=>Same H10 H'∧∃ y1 y2 y3,σ=[some (.ref a0),some (.int m),some (.ref pf),some (.ref pe),some (.ref pt),some (.ref pw),y1,y2,y3]) ⟨Same.refl _,_,_,_,rfl⟩ (fun i σ H' _ ⟨s',_⟩=>SqL.of (s' _ _ e10)) ?_ ?_⟩
   · rintro i x σ H11 hx ⟨s11,y1,y2,y3,rfl⟩
     obtain ⟨cz,rfl⟩:∃ cz:Int,x=.int cz:=by
      rw [List.getElem?_map] at hx
      obtain ⟨z,_,h2⟩:=Option.map_eq_some_iff.mp hx
      exact ⟨z,h2.symm⟩
     walk_at "run"
     intro st H12 f12 s12 e12
     walk_at "run"
     have k12:StA H12 st m:=⟨cz,e12⟩
     have nw:pw≠st:=a06 (s11 _ _ ew10) f12
     have s1012:=s11.trans s12
     refine ⟨pw,st,zs k.cells,m,rfl,s1012 _ _ ew10,by omega,k12,nw,fun p1 c1 H13 o13 k13 e13 n13 l13=>?_⟩
     walk_at "run"
     refine bl1 (fun σ' H'=>Same H11 H'∧∃ (p:Addr) (c:List Int),σ'=[some (.ref a0),some (.int m),some (.ref pf),some (.ref pe),some (.ref pt),some (.ref pw),some (.int cz),some (.ref st),some (.ref p)]∧H' p=some (.lst (intsV c))∧c.length≤160) ?_ ?_
     rotate_left
     · rintro σ' H' ⟨s',p,c,rfl,ep,hpl⟩
       walk_at "run"
       have s10':=s11.trans s'
       refine ⟨pe,pt,p,us,es,txs,c,rfl,s10' _ _ epe10,hev10.same s10',by omega,s10' _ _ etx10,by omega,ep,by omega,fun H15 s15=>?_⟩
       walk_at "run"
       exact ⟨s10'.trans s15,_,_,_,rfl⟩
     walk_at "run"
     refine ⟨st,m,3,rfl,k13,by decide,by decide,fun r2 H14 hr2 o14 k14=>?_⟩
     walk_at "run"
     have o1114:=o13.trans o14
     have s1114:Same H11 H14:=o1114.new s12 f12
     have e14:=o14 _ _ n13 e13
     refine ite2 (fun hc=>?_) (fun hc=>?_)
     · walk_at "run"
       refine ⟨p1,st,c1,m,rfl,e14,by omega,k14,n13,fun p2 c2 H15 o15 k15 e15 n15 l15=>?_⟩
       walk_at "run"
       exact ⟨(o1114.trans o15).new s12 f12,p2,c2,rfl,e15,by omega⟩
     · exact ⟨s1114,p1,c1,rfl,e14,by omega⟩
   · rintro σ H11 ⟨s11,y1,y2,y3,rfl⟩
     walk_at "run"
     exact q H11
end
theorem ai2 {us:List Value}{n:Nat}(h:us.length=n+1):∃ u r,us=u::r:=by
 cases us with
 | nil=>cases h
 | cons u r=>exact ⟨u,r,rfl⟩
theorem b65 {us:List Value}(h:us.length=1):∃ u0,us=[u0]:=by
 obtain ⟨u0,us,rfl⟩:=ai2 h; replace h:=Nat.succ.inj h
 obtain rfl:=List.length_eq_zero_iff.mp h
 exact ⟨u0,rfl⟩
theorem b66 {us:List Value}(h:us.length=2):∃ u0 u1,us=[u0,u1]:=by
 obtain ⟨u0,us,rfl⟩:=ai2 h; replace h:=Nat.succ.inj h
 obtain ⟨u1,us,rfl⟩:=ai2 h; replace h:=Nat.succ.inj h
 obtain rfl:=List.length_eq_zero_iff.mp h
 exact ⟨u0,u1,rfl⟩
theorem ai3 {us:List Value}(h:us.length=3):∃ u0 u1 u2,us=[u0,u1,u2]:=by
 obtain ⟨u0,us,rfl⟩:=ai2 h; replace h:=Nat.succ.inj h
 obtain ⟨u1,us,rfl⟩:=ai2 h; replace h:=Nat.succ.inj h
 obtain ⟨u2,us,rfl⟩:=ai2 h; replace h:=Nat.succ.inj h
 obtain rfl:=List.length_eq_zero_iff.mp h
 exact ⟨u0,u1,u2,rfl⟩
theorem ba0 {us:List Value}(h:us.length=4):∃ u0 u1 u2 u3,us=[u0,u1,u2,u3]:=by
 obtain ⟨u0,us,rfl⟩:=ai2 h; replace h:=Nat.succ.inj h
 obtain ⟨u1,us,rfl⟩:=ai2 h; replace h:=Nat.succ.inj h
 obtain ⟨u2,us,rfl⟩:=ai2 h; replace h:=Nat.succ.inj h
 obtain ⟨u3,us,rfl⟩:=ai2 h; replace h:=Nat.succ.inj h
 obtain rfl:=List.length_eq_zero_iff.mp h
 exact ⟨u0,u1,u2,u3,rfl⟩
theorem all_mk {l:PySem.W.OpenLaw}{w:World}{K:PySem.W.Frag}{h:Heap}{mg:Str→Option Value}{fa:Addr}(X:K.In h) (G:h.Ns mainGlobals mg) (hfa:mg "law"=some (.ref fa))
 {f0:Addr}{od0 an0:Option Addr}{sl0:Array (Option Value)}{oc0 kV0 dc0 pm0 cd0 ct0:Value}
 {f1:Addr}{od1 an1:Option Addr}{sl1:Array (Option Value)}{oc1 kV1 dc1 pm1 cd1 ct1:Value}
 {f2:Addr}{od2 an2:Option Addr}{sl2:Array (Option Value)}{oc2 kV2 dc2 pm2 cd2 ct2:Value}
 {f3:Addr}{od3 an3:Option Addr}{sl3:Array (Option Value)}{oc3 kV3 dc3 pm3 cd3 ct3:Value}
 {f4:Addr}{od4 an4:Option Addr}{sl4:Array (Option Value)}{oc4 kV4 dc4 pm4 cd4 ct4:Value}
 {f5:Addr}{od5 an5:Option Addr}{sl5:Array (Option Value)}{oc5 kV5 dc5 pm5 cd5 ct5:Value}
 {f6:Addr}{od6 an6:Option Addr}{sl6:Array (Option Value)}{oc6 kV6 dc6 pm6 cd6 ct6:Value}
 {f7:Addr}{od7 an7:Option Addr}{sl7:Array (Option Value)}{oc7 kV7 dc7 pm7 cd7 ct7:Value}
 {f8:Addr}{od8 an8:Option Addr}{sl8:Array (Option Value)}{oc8 kV8 dc8 pm8 cd8 ct8:Value}
 {f9:Addr}{od9 an9:Option Addr}{sl9:Array (Option Value)}{oc9 kV9 dc9 pm9 cd9 ct9:Value}
 {f10:Addr}{od10 an10:Option Addr}{sl10:Array (Option Value)}{oc10 kV10 dc10 pm10 cd10 ct10:Value}
 {f11:Addr}{od11 an11:Option Addr}{sl11:Array (Option Value)}{oc11 kV11 dc11 pm11 cd11 ct11:Value}
 {f12:Addr}{od12 an12:Option Addr}{sl12:Array (Option Value)}{oc12 kV12 dc12 pm12 cd12 ct12:Value}
 {f13:Addr}{od13 an13:Option Addr}{sl13:Array (Option Value)}{oc13 kV13 dc13 pm13 cd13 ct13:Value}
 {f14:Addr}{od14 an14:Option Addr}{sl14:Array (Option Value)}{oc14 kV14 dc14 pm14 cd14 ct14:Value}
 {f15:Addr}{od15 an15:Option Addr}{sl15:Array (Option Value)}{oc15 kV15 dc15 pm15 cd15 ct15:Value}
 {f16:Addr}{od16 an16:Option Addr}{sl16:Array (Option Value)}{oc16 kV16 dc16 pm16 cd16 ct16:Value}
 {f17:Addr}{od17 an17:Option Addr}{sl17:Array (Option Value)}{oc17 kV17 dc17 pm17 cd17 ct17:Value}
 {f18:Addr}{od18 an18:Option Addr}{sl18:Array (Option Value)}{oc18 kV18 dc18 pm18 cd18 ct18:Value}
 {f19:Addr}{od19 an19:Option Addr}{sl19:Array (Option Value)}{oc19 kV19 dc19 pm19 cd19 ct19:Value}
 {f20:Addr}{od20 an20:Option Addr}{sl20:Array (Option Value)}{oc20 kV20 dc20 pm20 cd20 ct20:Value}
 {f21:Addr}{od21 an21:Option Addr}{sl21:Array (Option Value)}{oc21 kV21 dc21 pm21 cd21 ct21:Value}
 {f22:Addr}{od22 an22:Option Addr}{sl22:Array (Option Value)}{oc22 kV22 dc22 pm22 cd22 ct22:Value}
 {f23:Addr}{od23 an23:Option Addr}{sl23:Array (Option Value)}{oc23 kV23 dc23 pm23 cd23 ct23:Value}
 (a0:PySem.W.nsIn K mainGlobals "unpacked"=some (some (.ref f0))) (l0:K.lookup f0=some ⟨oc0,od0,.func (PySem.W.fnOf "unpacked" "unpacked" (defArgs a77) (defBody a77) (defScope a77) .none kV0 dc0 pm0 an0 cd0 ct0),sl0⟩) (c0:PySem.W.codeIn K cd0 "unpacked"=true) (k0:PySem.W.keepIn K (.ref f0)=true)
 (a1:PySem.W.nsIn K mainGlobals "block_places"=some (some (.ref f1))) (l1:K.lookup f1=some ⟨oc1,od1,.func (PySem.W.fnOf "block_places" "block_places" (defArgs a48) (defBody a48) (defScope a48) .none kV1 dc1 pm1 an1 cd1 ct1),sl1⟩) (c1:PySem.W.codeIn K cd1 "block_places"=true) (k1:PySem.W.keepIn K (.ref f1)=true)
 (a2:PySem.W.nsIn K mainGlobals "texts_at"=some (some (.ref f2))) (l2:K.lookup f2=some ⟨oc2,od2,.func (PySem.W.fnOf "texts_at" "texts_at" (defArgs a78) (defBody a78) (defScope a78) .none kV2 dc2 pm2 an2 cd2 ct2),sl2⟩) (c2:PySem.W.codeIn K cd2 "texts_at"=true) (k2:PySem.W.keepIn K (.ref f2)=true)
 (a3:PySem.W.nsIn K mainGlobals "cells_in"=some (some (.ref f3))) (l3:K.lookup f3=some ⟨oc3,od3,.func (PySem.W.fnOf "cells_in" "cells_in" (defArgs a82) (defBody a82) (defScope a82) .none kV3 dc3 pm3 an3 cd3 ct3),sl3⟩) (c3:PySem.W.codeIn K cd3 "cells_in"=true) (k3:PySem.W.keepIn K (.ref f3)=true)
 (a4:PySem.W.nsIn K mainGlobals "pairs_in"=some (some (.ref f4))) (l4:K.lookup f4=some ⟨oc4,od4,.func (PySem.W.fnOf "pairs_in" "pairs_in" (defArgs a83) (defBody a83) (defScope a83) .none kV4 dc4 pm4 an4 cd4 ct4),sl4⟩) (c4:PySem.W.codeIn K cd4 "pairs_in"=true) (k4:PySem.W.keepIn K (.ref f4)=true)
 (a5:PySem.W.nsIn K mainGlobals "others_in"=some (some (.ref f5))) (l5:K.lookup f5=some ⟨oc5,od5,.func (PySem.W.fnOf "others_in" "others_in" (defArgs a70) (defBody a70) (defScope a70) .none kV5 dc5 pm5 an5 cd5 ct5),sl5⟩) (c5:PySem.W.codeIn K cd5 "others_in"=true) (k5:PySem.W.keepIn K (.ref f5)=true)
 (a6:PySem.W.nsIn K mainGlobals "whole_pack"=some (some (.ref f6))) (l6:K.lookup f6=some ⟨oc6,od6,.func (PySem.W.fnOf "whole_pack" "whole_pack" (defArgs a61) (defBody a61) (defScope a61) .none kV6 dc6 pm6 an6 cd6 ct6),sl6⟩) (c6:PySem.W.codeIn K cd6 "whole_pack"=true) (k6:PySem.W.keepIn K (.ref f6)=true)
 (a7:PySem.W.nsIn K mainGlobals "whole_shape"=some (some (.ref f7))) (l7:K.lookup f7=some ⟨oc7,od7,.func (PySem.W.fnOf "whole_shape" "whole_shape" (defArgs a49) (defBody a49) (defScope a49) .none kV7 dc7 pm7 an7 cd7 ct7),sl7⟩) (c7:PySem.W.codeIn K cd7 "whole_shape"=true) (k7:PySem.W.keepIn K (.ref f7)=true)
 (a8:PySem.W.nsIn K mainGlobals "whole_rooms"=some (some (.ref f8))) (l8:K.lookup f8=some ⟨oc8,od8,.func (PySem.W.fnOf "whole_rooms" "whole_rooms" (defArgs a56) (defBody a56) (defScope a56) .none kV8 dc8 pm8 an8 cd8 ct8),sl8⟩) (c8:PySem.W.codeIn K cd8 "whole_rooms"=true) (k8:PySem.W.keepIn K (.ref f8)=true)
 (a9:PySem.W.nsIn K mainGlobals "_law_take"=some (some (.ref f9))) (l9:K.lookup f9=some ⟨oc9,od9,.func (PySem.W.fnOf "_law_take" "_law_take" (defArgs a84) (defBody a84) (defScope a84) .none kV9 dc9 pm9 an9 cd9 ct9),sl9⟩) (c9:PySem.W.codeIn K cd9 "_law_take"=true) (k9:PySem.W.keepIn K (.ref f9)=true)
 (a10:PySem.W.nsIn K mainGlobals "_law_cell"=some (some (.ref f10))) (l10:K.lookup f10=some ⟨oc10,od10,.func (PySem.W.fnOf "_law_cell" "_law_cell" (defArgs a85) (defBody a85) (defScope a85) .none kV10 dc10 pm10 an10 cd10 ct10),sl10⟩) (c10:PySem.W.codeIn K cd10 "_law_cell"=true) (k10:PySem.W.keepIn K (.ref f10)=true)
 (a11:PySem.W.nsIn K mainGlobals "_law_events"=some (some (.ref f11))) (l11:K.lookup f11=some ⟨oc11,od11,.func (PySem.W.fnOf "_law_events" "_law_events" (defArgs a53) (defBody a53) (defScope a53) .none kV11 dc11 pm11 an11 cd11 ct11),sl11⟩) (c11:PySem.W.codeIn K cd11 "_law_events"=true) (k11:PySem.W.keepIn K (.ref f11)=true)
 (a12:PySem.W.nsIn K mainGlobals "_law_shape"=some (some (.ref f12))) (l12:K.lookup f12=some ⟨oc12,od12,.func (PySem.W.fnOf "_law_shape" "_law_shape" (defArgs a74) (defBody a74) (defScope a74) .none kV12 dc12 pm12 an12 cd12 ct12),sl12⟩) (c12:PySem.W.codeIn K cd12 "_law_shape"=true) (k12:PySem.W.keepIn K (.ref f12)=true)
 (a13:PySem.W.nsIn K mainGlobals "_law_cells"=some (some (.ref f13))) (l13:K.lookup f13=some ⟨oc13,od13,.func (PySem.W.fnOf "_law_cells" "_law_cells" (defArgs a63) (defBody a63) (defScope a63) .none kV13 dc13 pm13 an13 cd13 ct13),sl13⟩) (c13:PySem.W.codeIn K cd13 "_law_cells"=true) (k13:PySem.W.keepIn K (.ref f13)=true)
 (a14:PySem.W.nsIn K mainGlobals "_law_spoilt"=some (some (.ref f14))) (l14:K.lookup f14=some ⟨oc14,od14,.func (PySem.W.fnOf "_law_spoilt" "_law_spoilt" (defArgs a68) (defBody a68) (defScope a68) .none kV14 dc14 pm14 an14 cd14 ct14),sl14⟩) (c14:PySem.W.codeIn K cd14 "_law_spoilt"=true) (k14:PySem.W.keepIn K (.ref f14)=true)
 (a15:PySem.W.nsIn K mainGlobals "_law_blocks"=some (some (.ref f15))) (l15:K.lookup f15=some ⟨oc15,od15,.func (PySem.W.fnOf "_law_blocks" "_law_blocks" (defArgs a69) (defBody a69) (defScope a69) .none kV15 dc15 pm15 an15 cd15 ct15),sl15⟩) (c15:PySem.W.codeIn K cd15 "_law_blocks"=true) (k15:PySem.W.keepIn K (.ref f15)=true)
 (a16:PySem.W.nsIn K mainGlobals "_law_triples"=some (some (.ref f16))) (l16:K.lookup f16=some ⟨oc16,od16,.func (PySem.W.fnOf "_law_triples" "_law_triples" (defArgs a50) (defBody a50) (defScope a50) .none kV16 dc16 pm16 an16 cd16 ct16),sl16⟩) (c16:PySem.W.codeIn K cd16 "_law_triples"=true) (k16:PySem.W.keepIn K (.ref f16)=true)
 (a17:PySem.W.nsIn K mainGlobals "_law_shape_good"=some (some (.ref f17))) (l17:K.lookup f17=some ⟨oc17,od17,.func (PySem.W.fnOf "_law_shape_good" "_law_shape_good" (defArgs a33) (defBody a33) (defScope a33) .none kV17 dc17 pm17 an17 cd17 ct17),sl17⟩) (c17:PySem.W.codeIn K cd17 "_law_shape_good"=true) (k17:PySem.W.keepIn K (.ref f17)=true)
 (a18:PySem.W.nsIn K mainGlobals "_law_pair"=some (some (.ref f18))) (l18:K.lookup f18=some ⟨oc18,od18,.func (PySem.W.fnOf "_law_pair" "_law_pair" (defArgs a86) (defBody a86) (defScope a86) .none kV18 dc18 pm18 an18 cd18 ct18),sl18⟩) (c18:PySem.W.codeIn K cd18 "_law_pair"=true) (k18:PySem.W.keepIn K (.ref f18)=true)
 (a19:PySem.W.nsIn K mainGlobals "_law_parts"=some (some (.ref f19))) (l19:K.lookup f19=some ⟨oc19,od19,.func (PySem.W.fnOf "_law_parts" "_law_parts" (defArgs a45) (defBody a45) (defScope a45) .none kV19 dc19 pm19 an19 cd19 ct19),sl19⟩) (c19:PySem.W.codeIn K cd19 "_law_parts"=true) (k19:PySem.W.keepIn K (.ref f19)=true)
 (a20:PySem.W.nsIn K mainGlobals "_law_good"=some (some (.ref f20))) (l20:K.lookup f20=some ⟨oc20,od20,.func (PySem.W.fnOf "_law_good" "_law_good" (defArgs a87) (defBody a87) (defScope a87) .none kV20 dc20 pm20 an20 cd20 ct20),sl20⟩) (c20:PySem.W.codeIn K cd20 "_law_good"=true) (k20:PySem.W.keepIn K (.ref f20)=true)
 (a21:PySem.W.nsIn K mainGlobals "_law_table"=some (some (.ref f21))) (l21:K.lookup f21=some ⟨oc21,od21,.func (PySem.W.fnOf "_law_table" "_law_table" (defArgs a46) (defBody a46) (defScope a46) .none kV21 dc21 pm21 an21 cd21 ct21),sl21⟩) (c21:PySem.W.codeIn K cd21 "_law_table"=true) (k21:PySem.W.keepIn K (.ref f21)=true)
 (a22:PySem.W.nsIn K mainGlobals "_law_right"=some (some (.ref f22))) (l22:K.lookup f22=some ⟨oc22,od22,.func (PySem.W.fnOf "_law_right" "_law_right" (defArgs a75) (defBody a75) (defScope a75) .none kV22 dc22 pm22 an22 cd22 ct22),sl22⟩) (c22:PySem.W.codeIn K cd22 "_law_right"=true) (k22:PySem.W.keepIn K (.ref f22)=true)
 (a23:PySem.W.nsIn K mainGlobals "law"=some (some (.ref f23))) (l23:K.lookup f23=some ⟨oc23,od23,.func (PySem.W.fnOf "law" "law" (defArgs ak7) (defBody ak7) (defScope ak7) .none kV23 dc23 pm23 an23 cd23 ct23),sl23⟩) (c23:PySem.W.codeIn K cd23 "law"=true) (k23:PySem.W.keepIn K (.ref f23)=true)
 (z_all:PySem.W.nsIn K mainGlobals "all"=some none)
 (z_bool:PySem.W.nsIn K mainGlobals "bool"=some none)
 (z_enumerate:PySem.W.nsIn K mainGlobals "enumerate"=some none)
 (z_isinstance:PySem.W.nsIn K mainGlobals "isinstance"=some none)
 (z_len:PySem.W.nsIn K mainGlobals "len"=some none)
 (z_list:PySem.W.nsIn K mainGlobals "list"=some none)
 (z_max:PySem.W.nsIn K mainGlobals "max"=some none)
 (z_min:PySem.W.nsIn K mainGlobals "min"=some none)
 (z_range:PySem.W.nsIn K mainGlobals "range"=some none)
 (z_set:PySem.W.nsIn K mainGlobals "set"=some none)
 (z_sorted:PySem.W.nsIn K mainGlobals "sorted"=some none)
 (z_sum:PySem.W.nsIn K mainGlobals "sum"=some none)
 (z_tuple:PySem.W.nsIn K mainGlobals "tuple"=some none)
 {u_MOST_STANDINGS:Value}(m_MOST_STANDINGS:PySem.W.nsIn K mainGlobals "MOST_STANDINGS"=some (some u_MOST_STANDINGS))
 (r_MOST_STANDINGS:RelV (.int 2000) u_MOST_STANDINGS)
 {u_HEAD:Value}(m_HEAD:PySem.W.nsIn K mainGlobals "HEAD"=some (some u_HEAD))
 (r_HEAD:RelV (.int 4) u_HEAD)
 : ∃ fd:FuncData,(∀ (s:Shared) (v:Value),BindsTo s fd ⟨[v],[]⟩ [("script",v)])∧∀ base:Heap,K.In base→base.Ns mainGlobals mg→FnOk l.prog w K mg base CX0 6 fa fd ["script"] (ai7 K):=by
 have e:=hfa.symm.trans (PySem.W.mg_of X G a23)
 cases e
 have F0:=a81 (st:=a77) l0 c0 k0
 have b0:=F0.binds (ps:=["pack"]) fun _ _ _ _ _ _ us hl=>by obtain ⟨_,rfl⟩:=b65 hl; rfl
 have F1:=a81 (st:=a48) l1 c1 k1
 have b1:=F1.binds (ps:=["cells","place","count"]) fun _ _ _ _ _ _ us hl=>by obtain ⟨_,_,_,rfl⟩:=ai3 hl; rfl
 have F2:=a81 (st:=a78) l2 c2 k2
 have b2:=F2.binds (ps:=["texts","cells","place"]) fun _ _ _ _ _ _ us hl=>by obtain ⟨_,_,_,rfl⟩:=ai3 hl; rfl
 have F3:=a81 (st:=a82) l3 c3 k3
 have b3:=F3.binds (ps:=["cells","place"]) fun _ _ _ _ _ _ us hl=>by obtain ⟨_,_,rfl⟩:=b66 hl; rfl
 have F4:=a81 (st:=a83) l4 c4 k4
 have b4:=F4.binds (ps:=["cells","place","count"]) fun _ _ _ _ _ _ us hl=>by obtain ⟨_,_,_,rfl⟩:=ai3 hl; rfl
 have F5:=a81 (st:=a70) l5 c5 k5
 have b5:=F5.binds (ps:=["shape"]) fun _ _ _ _ _ _ us hl=>by obtain ⟨_,rfl⟩:=b65 hl; rfl
 have F6:=a81 (st:=a61) l6 c6 k6
 have b6:=F6.binds (ps:=["events","texts","cells"]) fun _ _ _ _ _ _ us hl=>by obtain ⟨_,_,_,rfl⟩:=ai3 hl; rfl
 have F7:=a81 (st:=a49) l7 c7 k7
 have b7:=F7.binds (ps:=["shape","cells","count"]) fun _ _ _ _ _ _ us hl=>by obtain ⟨_,_,_,rfl⟩:=ai3 hl; rfl
 have F8:=a81 (st:=a56) l8 c8 k8
 have b8:=F8.binds (ps:=["cells","shapes","sayings","count"]) fun _ _ _ _ _ _ us hl=>by obtain ⟨_,_,_,_,rfl⟩:=ba0 hl; rfl
 have F9:=a81 (st:=a84) l9 c9 k9
 have b9:=F9.binds (ps:=["state","many"]) fun _ _ _ _ _ _ us hl=>by obtain ⟨_,_,rfl⟩:=b66 hl; rfl
 have F10:=a81 (st:=a85) l10 c10 k10
 have b10:=F10.binds (ps:=["script","k","mixed"]) fun _ _ _ _ _ _ us hl=>by obtain ⟨_,_,_,rfl⟩:=ai3 hl; rfl
 have F11:=a81 (st:=a53) l11 c11 k11
 have b11:=F11.binds (ps:=["state"]) fun _ _ _ _ _ _ us hl=>by obtain ⟨_,rfl⟩:=b65 hl; rfl
 have F12:=a81 (st:=a74) l12 c12 k12
 have b12:=F12.binds (ps:=["state","events","says","rooms"]) fun _ _ _ _ _ _ us hl=>by obtain ⟨_,_,_,_,rfl⟩:=ba0 hl; rfl
 have F13:=a81 (st:=a63) l13 c13 k13
 have b13:=F13.binds (ps:=["script","mixed","events","texts"]) fun _ _ _ _ _ _ us hl=>by obtain ⟨_,_,_,_,rfl⟩:=ba0 hl; rfl
 have F14:=a81 (st:=a68) l14 c14 k14
 have b14:=F14.binds (ps:=["cells","state"]) fun _ _ _ _ _ _ us hl=>by obtain ⟨_,_,rfl⟩:=b66 hl; rfl
 have F15:=a81 (st:=a69) l15 c15 k15
 have b15:=F15.binds (ps:=["cells","many"]) fun _ _ _ _ _ _ us hl=>by obtain ⟨_,_,rfl⟩:=b66 hl; rfl
 have F16:=a81 (st:=a50) l16 c16 k16
 have b16:=F16.binds (ps:=["shape"]) fun _ _ _ _ _ _ us hl=>by obtain ⟨_,rfl⟩:=b65 hl; rfl
 have F17:=a81 (st:=a33) l17 c17 k17
 have b17:=F17.binds (ps:=["shape","events","says","rooms"]) fun _ _ _ _ _ _ us hl=>by obtain ⟨_,_,_,_,rfl⟩:=ba0 hl; rfl
 have F18:=a81 (st:=a86) l18 c18 k18
 have b18:=F18.binds (ps:=["shape","place"]) fun _ _ _ _ _ _ us hl=>by obtain ⟨_,_,rfl⟩:=b66 hl; rfl
 have F19:=a81 (st:=a45) l19 c19 k19
 have b19:=F19.binds (ps:=["events","texts","cells"]) fun _ _ _ _ _ _ us hl=>by obtain ⟨_,_,_,rfl⟩:=ai3 hl; rfl
 have F20:=a81 (st:=a87) l20 c20 k20
 have b20:=F20.binds (ps:=["events","texts","cells"]) fun _ _ _ _ _ _ us hl=>by obtain ⟨_,_,_,rfl⟩:=ai3 hl; rfl
 have F21:=a81 (st:=a46) l21 c21 k21
 have b21:=F21.binds (ps:=["events","texts","parts"]) fun _ _ _ _ _ _ us hl=>by obtain ⟨_,_,_,rfl⟩:=ai3 hl; rfl
 have F22:=a81 (st:=a75) l22 c22 k22
 have b22:=F22.binds (ps:=["events","texts","cells"]) fun _ _ _ _ _ _ us hl=>by obtain ⟨_,_,_,rfl⟩:=ai3 hl; rfl
 have F23:=a81 (st:=ak7) l23 c23 k23
 have b23:=F23.binds (ps:=["script"]) fun _ _ _ _ _ _ us hl=>by obtain ⟨_,rfl⟩:=b65 hl; rfl
 have TT:Txt K mg ⟨_,_,_,_,_,_,_,_,_,_,_,_,_,_,_,_,_,_,_,_,_,_,_,_,_,_,_,_,_,_,_,_,_,_,_,_,_,_,_,_,_,_,_,_,_,_,_,_,u_MOST_STANDINGS,u_HEAD⟩:=⟨F0,PySem.W.mg_of X G a0,b0,F1,PySem.W.mg_of X G a1,b1,F2,PySem.W.mg_of X G a2,b2,F3,PySem.W.mg_of X G a3,b3,F4,PySem.W.mg_of X G a4,b4,F5,PySem.W.mg_of X G a5,b5,F6,PySem.W.mg_of X G a6,b6,F7,PySem.W.mg_of X G a7,b7,F8,PySem.W.mg_of X G a8,b8,F9,PySem.W.mg_of X G a9,b9,F10,PySem.W.mg_of X G a10,b10,F11,PySem.W.mg_of X G a11,b11,F12,PySem.W.mg_of X G a12,b12,F13,PySem.W.mg_of X G a13,b13,F14,PySem.W.mg_of X G a14,b14,F15,PySem.W.mg_of X G a15,b15,F16,PySem.W.mg_of X G a16,b16,F17,PySem.W.mg_of X G a17,b17,F18,PySem.W.mg_of X G a18,b18,F19,PySem.W.mg_of X G a19,b19,F20,PySem.W.mg_of X G a20,b20,F21,PySem.W.mg_of X G a21,b21,F22,PySem.W.mg_of X G a22,b22,F23,PySem.W.mg_of X G a23,b23,PySem.W.mg_none_of X G z_all,PySem.W.mg_none_of X G z_bool,PySem.W.mg_none_of X G z_enumerate,PySem.W.mg_none_of X G z_isinstance,PySem.W.mg_none_of X G z_len,PySem.W.mg_none_of X G z_list,PySem.W.mg_none_of X G z_max,PySem.W.mg_none_of X G z_min,PySem.W.mg_none_of X G z_range,PySem.W.mg_none_of X G z_set,PySem.W.mg_none_of X G z_sorted,PySem.W.mg_none_of X G z_sum,PySem.W.mg_none_of X G z_tuple,PySem.W.mg_of X G m_MOST_STANDINGS,r_MOST_STANDINGS,PySem.W.mg_of X G m_HEAD,r_HEAD⟩
 exact ⟨_,fun s v=>.of_eq rfl,fun base _ _=>bn4 TT⟩
end K71
theorem PySem.Challenge.cw_callmill_k71_cells_spoilt_holds : PySem.Challenge.rw_callmill_k71_cells_spoilt.Holds := by
  exact K71.head fun K hF w mg fa h KX G hmg => hF w.params _ (@K71.all_mk _ w _ h mg fa KX G hmg)
