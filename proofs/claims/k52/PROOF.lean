import PyProof.Rows.All
import Wide.All
import OpenK.KLine
import KE.KItem
import KE.KIsAll
import Wide.FinOn
import Lean
import PyProof.EqAt
import PyProof.EqKinds
import PyProof.TupleCall
import PyProof.NeKinds
import PyProof.DictUpdate
import PyProof.AttrMissHeap
import KE.KDictOf
import PyProof.TupleIter
import PyProof.WalksEnum
import PyProof.EnumMake
import PyProof.Rows.EnumRows
import PyProof.Rows.MaxTwoN
import PyProof.ZipIter
import PyProof.IsRules
import PyProof.DictRoadsH
import Wide.Seal
import PyProof.MeetsDict
import PyProof.DictIter
import PyProof.DictWalks
import KE.KDictList
import PyProof.Rows.SumAny
import PyProof.ListRange
import PyProof.AutoSeq1
import PyProof.WalkInts
import PyProof.SeqI3
import KE.KTextTable
import PyProof.MeetsStr
import PyProof.StrCalls5
import PyProof.Rows.TupDisplay
import PyProof.Rows.TupAdd
import PyProof.Rows.StrNews2
import PyProof.StrBlockI
import PyProof.DictTruth
import PyProof.Rows.SortShell
import PyProof.DictValues
import PyProof.ConsumeS
import PyProof.Draws
import PyProof.Rows.SetFrom
import PyProof.FactsAll.set_1
import KE.KDictSum
import PyProof.Rows.SortStr
import PyProof.Rows.SortWalk
import PyProof.Rows.TmSorted
import PyProof.Rows.CallKwBuiltin
import KE.KTryDeep
import PyProof.Rows.CatchBare
import PyProof.Rows.TopTwo
import OpenK.KOwn
import KE.KTryMore
import KE.KIsAll
import PyProof.ExcArgsOwn
import PyProof.ExcAttrAll.ValueError
import PyProof.RulesAs
import PyProof.NsDelKeeps
import PyProof.Rows.Catch
import PySem.Challenge.RW_callmill_k52_counters_and_too_many
set_option Elab.async false
set_option linter.all false
set_option maxRecDepth 100000
set_option maxHeartbeats 4000000
namespace L2
open PySem PySem.Spec PyProof.Rows
abbrev Key:=Sum Int Str
def bw2:Key→Value→Bool
 | .inl k,v=>Value.isInt k v
 | .inr x,v=>Value.isStrOf x v
def keyH (w:World):Key→Int
 | .inl k=>hashInt k
 | .inr x=>hashStr w x
theorem a38:∀ {k:Key}{v:Value},bw2 k v=true→(∃ i t,k=Sum.inl i∧v=Value.int i t)∨(∃ x t,k=Sum.inr x∧v=Value.str x t)
 | .inl i,v,h=>by
   obtain ⟨t,e⟩:=Value.isInt_shape (k:=i) (v:=v) h
   exact .inl ⟨i,t,rfl,e⟩
 | .inr x,v,h=>by
   obtain ⟨t,e⟩:=Value.isStrOf_shape (x:=x) (v:=v) h
   exact .inr ⟨x,t,rfl,e⟩
theorem bw3 (a b:Int):decide ((Sum.inl a:Key)=Sum.inl b)=(a == b):=by
 by_cases e:a=b
 · subst e; simp
 · have h:¬ (Sum.inl a:Key)=Sum.inl b:=fun q=>e (Sum.inl.inj q)
   rw [decide_eq_false h]
   exact (beq_eq_false_iff_ne.mpr e).symm
theorem bw4 (a b:Str):decide ((Sum.inr a:Key)=Sum.inr b)=decide (a=b):=by
 by_cases e:a=b
 · subst e; simp
 · have h:¬ (Sum.inr a:Key)=Sum.inr b:=fun q=>e (Sum.inr.inj q)
   rw [decide_eq_false h,decide_eq_false e]
theorem bw5 (a:Int) (b:Str):decide ((Sum.inl a:Key)=Sum.inr b)=false:=decide_eq_false (fun q=>nomatch q)
theorem bw6 (a:Str) (b:Int):decide ((Sum.inr a:Key)=Sum.inl b)=false:=decide_eq_false (fun q=>nomatch q)
def at1 (prog:Program) (w:World):PySem.KeyKind prog w Key where
 is:=bw2
 hash:=keyH w
 inj:=fun v a b ha hb=>by
  rcases a38 ha with ⟨i,t,rfl,rfl⟩ | ⟨x,t,rfl,rfl⟩
  · rcases a38 hb with ⟨j,u,rfl,e⟩ | ⟨y,u,rfl,e⟩
    · injection e with e1 _; rw [e1]
    · exact nomatch e
  · rcases a38 hb with ⟨j,u,rfl,e⟩ | ⟨y,u,rfl,e⟩
    · exact nomatch e
    · injection e with e1 _; rw [e1]
 byValue:=fun k v h=>by
  rcases a38 h with ⟨i,t,rfl,rfl⟩ | ⟨x,t,rfl,rfl⟩ <;> rfl
 pyHash:=fun hv h=>by
  rcases a38 hv with ⟨i,t,rfl,rfl⟩ | ⟨x,t,rfl,rfl⟩
  · exact wpAny_pyHash_int h
  · exact wpAny_pyHash_str h
 eqBool:=fun hu hv h=>by
  rcases a38 hu with ⟨i,t,rfl,rfl⟩ | ⟨x,t,rfl,rfl⟩
  · rcases a38 hv with ⟨j,u,rfl,rfl⟩ | ⟨y,u,rfl,rfl⟩
    · rw [bw3] at h; exact wpAny_eqBool_int h
    · rw [bw5] at h; exact SeqAt.EqAt.int_str i t y u _ _ _ _ h
  · rcases a38 hv with ⟨j,u,rfl,rfl⟩ | ⟨y,u,rfl,rfl⟩
    · rw [bw6] at h; exact SeqAt.EqAt.str_int x t j u _ _ _ _ h
    · rw [bw4] at h; exact wpAny_eqBool_str h
 «strs»:=fun k x t v h=>by
  rcases a38 h with ⟨i,u,rfl,e⟩ | ⟨y,u,rfl,e⟩
  · exact nomatch e
  · injection e with e1 _
    subst e1
    cases v <;> rfl
inductive V where
 | non | bl (b:Bool) | int (i:Int) | str (x:Str) | byt (b:Array UInt8) | flt (b:UInt64) | ref (a:Addr) | ty (n:String)
 deriving DecidableEq
def RelV:V→Value→Prop
 | .non,u=>u=Value.none
 | .bl b,u=>u=Value.bool b
 | .int i,u=>∃ t,u=Value.int i t
 | .str x,u=>∃ t,u=Value.str x t
 | .byt b,u=>∃ t,u=Value.bytes b t
 | .flt b,u=>∃ t,u=Value.float b t
 | .ref a,u=>u=Value.ref a
 | .ty n,u=>u=Value.type n
abbrev Vals:List V→List Value→Prop:=Paired RelV
theorem Vals.length {xs:List V}{us:List Value}(r:Vals xs us):xs.length=us.length:=Paired.length r
theorem Vals.get:∀ {xs:List V}{us:List Value}{i:Nat}{x:V},Vals xs us→xs[i]?=some x→∃ u,us[i]?=some u∧RelV x u
 | _,_,_,_,.nil,e=>by simp at e
 | _,_,0,_,.cons r _,e=>by simp at e; subst e; exact ⟨_,rfl,r⟩
 | _,_,i+1,x,.cons _ t,e=>by
   obtain ⟨u,h1,h2⟩:=Vals.get (i:=i) (x:=x) t (by simpa using e)
   exact ⟨u,by simpa using h1,h2⟩
theorem Vals.set {x:V}{u:Value}(r:RelV x u):∀ {xs:List V}{us:List Value}(i:Nat),Vals xs us→Vals (xs.set i x) (us.set i u)
 | _,_,_,.nil=>.nil
 | _,_,0,.cons _ t=>.cons r t
 | _,_,i+1,.cons q t=>.cons q (Vals.set r i t)
theorem Vals.append:∀ {xs ys:List V}{us ws:List Value},Vals xs us→Vals ys ws→Vals (xs++ys) (us++ws)
 | _,_,_,_,.nil,s=>s
 | _,_,_,_,.cons r t,s=>.cons r (Vals.append t s)
theorem Vals.take:∀ {xs:List V}{us:List Value}(n:Nat),Vals xs us→Vals (xs.take n) (us.take n)
 | _,_,0,_=>.nil
 | _,_,_+1,.nil=>.nil
 | _,_,n+1,.cons r t=>.cons r (Vals.take n t)
theorem Vals.drop:∀ {xs:List V}{us:List Value}(n:Nat),Vals xs us→Vals (xs.drop n) (us.drop n)
 | _,_,0,r=>r
 | _,_,_+1,.nil=>.nil
 | _,_,n+1,.cons _ t=>Vals.drop n t
def RelO:Option V→Option Value→Prop
 | some v,some u=>RelV v u
 | none,none=>True
 | _,_=>False
def KV {κ:Type}:List (κ×V)→List (κ×Value)→Prop:=Paired fun (p:κ×V) (q:κ×Value)=>p.1=q.1∧RelV p.2 q.2
def kV:Key→V
 | .inl i=>.int i
 | .inr x=>.str x
inductive HO where
 | lst (xs:List V)
 | tup (xs:List V)
 | dK (kvs:List (Key×V)) | dT (kvs:List (List Key×V))
 | set (S:Int→Bool) (n:Nat)
 | ins (C dx:Addr) (fs:List (Str×V))
 | own (x:Addr)
 | xd (fs:List (Str×V))
 | met (f x:Addr)
 | rng (lo hi:Int)
 | frz (o:Obj) (u:HO)
 | tbl (ps:Array Value)
 | ext (φ:Heap→Prop)
abbrev Hp:=Addr→Option HO
def upd (H:Hp) (a:Addr) (o:HO):Hp:=fun b=>if b=a then some o else H b
theorem a17 {H:Hp}{a:Addr}{o:HO}:upd H a o a=some o:=by unfold upd; rw [if_pos rfl]
theorem a09 {H:Hp}{a b:Addr}{o:HO}(h:b≠a):upd H a o b=H b:=by unfold upd; rw [if_neg h]
theorem aj8 {H:Hp}{a b:Addr}{o u:HO}(h:H a=some o) (h':H b=some u) (d:o≠u):a≠b:=by
 intro e; subst e; rw [h] at h'; exact d (Option.some.inj h')
theorem a27 {H:Hp}{a b:Addr}{o:HO}(h:H a=some o) (h':H b=none):a≠b:=by
 intro e; subst e; rw [h] at h'; cases h'
section
variable (P:Program) (w:World)
def ObjOk (H:Hp) (h:Heap) (a:Addr):HO→Prop
 | .lst xs=>xs.length≤sizeLine∧∃ (its:List Value) (n:Nat),Vals xs its∧h.get? a=some { cls:=.type "list",data:=.seq its.toArray n }
 | .tup xs=>xs.length≤sizeLine∧∃ its:List Value,Vals xs its∧IsTup h a its.toArray
 | .dK kvs=>kvs.length≤sizeLine∧(a == sysModules)=false∧∃ vs,KV kvs vs∧h.DictOf (at1 P w) a vs
 | .dT kvs=>kvs.length≤sizeLine∧(a == sysModules)=false∧∃ xs:List (List Key×Addr×Value),
  Paired (fun (p:List Key×V) (q:List Key×Addr×Value)=>p.1=q.1∧H q.2.1=some (.tup (p.1.map kV))∧RelV p.2 q.2.2) kvs xs ∧
  ∃ o es ep,h.get? a=some o∧o.ExactDict∧o.data=.dict es ep∧es.toList=xs.map (entryOfKey (tupleKind (at1 P w)))∧(xs.map (·.1)).Nodup
 | .set S n=>h.SetOf (intKind P w) a S n
 | .ins C dx fs=>H dx=some (.own a)∧fs.length≤1000∧dx≠a∧h.get? a=some (PySem.W.instObj C dx) ∧
  ∃ mA,h.Ns1 dx mA∧(∀ f,RelO (fs.lookup f) (mA f))∧PySem.Within mA (fs.map (·.1))
 | .own _=>∃ o,h.get? a=some o
 | .xd fs=>∃ mA,h.Ns1 a mA∧∀ f,RelO (fs.lookup f) (mA f)
 | .rng lo hi=>∃ t u v,h.get? a=some { cls:=.type "range",data:=.fields #[.int lo t,.int hi u,.int 1 v] }
 | .frz o u=>h.get? a=some o∧ObjOk H h a u
 | .tbl ps=>h.get? a=some { cls:=.none,data:=.fields ps }
 | .met f x=>h.get? a=some (PySem.W.methodObj (.ref f) (.ref x))
 | .ext φ=>φ h∧(∃ o,h.get? a=some o)∧∀ h1 h2:Heap,φ h1→(∀ o,h1.get? a=some o→h2.get? a=some o)→φ h2
def HOk (H:Hp) (h:Heap):Prop:=∀ a o,H a=some o→ObjOk P w H h a o
end
section
variable {P:Program}{w:World}{H H':Hp}{h h':Heap}{a:Addr}{o:HO}
theorem ObjOk.lt (x:ObjOk P w H h a o):a<h.objs.size:=by
 cases o with
 | lst xs=>obtain ⟨_,_,_,_,e⟩:=x; exact Heap.lt_size e
 | tup xs=>obtain ⟨_,_,_,p⟩:=x; exact p.lt
 | dK kvs=>obtain ⟨_,_,_,_,o,_,_,e,_⟩:=x; exact Heap.lt_size e
 | dT kvs=>obtain ⟨_,_,_,_,o,_,_,e,_⟩:=x; exact Heap.lt_size e
 | set S n=>obtain ⟨o,_,_,_,e,_⟩:=x; exact Heap.lt_size e
 | ins C dx fs=>obtain ⟨_,_,_,e,_⟩:=x; exact Heap.lt_size e
 | own y=>obtain ⟨_,e⟩:=x; exact Heap.lt_size e
 | xd fs=>obtain ⟨_,⟨_,_,_,e,_⟩,_⟩:=x; exact Heap.lt_size e
 | rng lo hi=>obtain ⟨_,_,_,e⟩:=x; exact Heap.lt_size e
 | frz ob u=>obtain ⟨e,_⟩:=x; exact Heap.lt_size e
 | tbl ps=>exact Heap.lt_size (show h.get? a=some _ from x)
 | met f y=>exact Heap.lt_size (show h.get? a=some _ from x)
 | ext φ=>obtain ⟨_,⟨_,e⟩,_⟩:=x; exact Heap.lt_size e
theorem Paired.mapP {α β:Type}{F G:α→β→Prop}:∀ {l₁:List α}{l₂:List β},Paired F l₁ l₂→(∀ a b,F a b→G a b)→Paired G l₁ l₂
 | _,_,.nil,_=>.nil
 | _,_,.cons r t,f=>.cons (f _ _ r) (Paired.mapP t f)
theorem ObjOk.stay (x:ObjOk P w H h a o) (k:∀ b u,(b=a∨H b=some (.own a))→h.get? b=some u→h'.get? b=some u)
 (ho:∀ b,H b=some (.own a)→H' b=some (.own a)) (ht:∀ b xs,H b=some (.tup xs)→H' b=some (.tup xs)):ObjOk P w H' h' a o:=by
 induction o with
 | lst xs=>obtain ⟨z,its,n,r,e⟩:=x; exact ⟨z,its,n,r,k _ _ (.inl rfl) e⟩
 | tup xs=>obtain ⟨z,its,r,ob,e,c⟩:=x; exact ⟨z,its,r,ob,k _ _ (.inl rfl) e,c⟩
 | dK kvs=>obtain ⟨z,y,vs,r,ob,es,ep,e,c⟩:=x; exact ⟨z,y,vs,r,ob,es,ep,k _ _ (.inl rfl) e,c⟩
 | dT kvs =>
   obtain ⟨z,y,xs,r,ob,es,ep,e,c⟩:=x
   exact ⟨z,y,xs,Paired.mapP r fun p q z=>⟨z.1,ht _ _ z.2.1,z.2.2⟩,ob,es,ep,k _ _ (.inl rfl) e,c⟩
 | set S n=>obtain ⟨ob,es,ep,t,e,c⟩:=x; exact ⟨ob,es,ep,t,k _ _ (.inl rfl) e,c⟩
 | ins C dx fs =>
   obtain ⟨d,z,ne,e,mA,⟨od,es,ep,e2,c⟩,r⟩:=x
   exact ⟨ho _ d,z,ne,k _ _ (.inl rfl) e,mA,⟨od,es,ep,k _ _ (.inr d) e2,c⟩,r⟩
 | own y=>obtain ⟨ob,e⟩:=x; exact ⟨ob,k _ _ (.inl rfl) e⟩
 | xd fs=>obtain ⟨mA,⟨od,es,ep,e,c⟩,r⟩:=x; exact ⟨mA,⟨od,es,ep,k _ _ (.inl rfl) e,c⟩,r⟩
 | rng lo hi=>obtain ⟨t,u,v,e⟩:=x; exact ⟨t,u,v,k _ _ (.inl rfl) e⟩
 | frz ob u ih=>obtain ⟨e,q⟩:=x; exact ⟨k _ _ (.inl rfl) e,ih q⟩
 | tbl ps =>
   have e:h.get? a=some { cls:=.none,data:=.fields ps }:=x
   show h'.get? a=some { cls:=.none,data:=.fields ps }
   exact k a _ (.inl rfl) e
 | met f y =>
   have e:h.get? a=some (PySem.W.methodObj (.ref f) (.ref y)):=x
   show h'.get? a=some (PySem.W.methodObj (.ref f) (.ref y))
   exact k a _ (.inl rfl) e
 | ext φ=>obtain ⟨p,⟨o,e⟩,st⟩:=x; exact ⟨st _ _ p fun o q=>k _ _ (.inl rfl) q,⟨o,k _ _ (.inl rfl) e⟩,st⟩
theorem HOk.lt (x:HOk P w H h) (e:H a=some o):a<h.objs.size:=(x a o e).lt
theorem HOk.fresh (x:HOk P w H h) (e:h.objs.size≤a):H a=none:=by
 cases q:H a with
 | none=>rfl
 | some u=>exact absurd (Nat.lt_of_lt_of_le (x.lt q) e) (Nat.lt_irrefl _)
theorem HOk.kept (x:HOk P w H h) (k:∀ b u,h.get? b=some u→h'.get? b=some u):HOk P w H h':=fun a o e =>
 (x a o e).stay (fun b u _ q=>k b u q) (fun _ q=>q) fun _ _ q=>q
theorem HOk.laid (x:HOk P w H h) (k:∀ b u,h.get? b=some u→h'.get? b=some u) (hp:h.objs.size≤a) (new:ObjOk P w (upd H a o) h' a o):HOk P w (upd H a o) h':=fun b u e=>by
 have hn:=x.fresh hp
 by_cases hb:b=a
 · subst hb; rw [a17] at e; cases e; exact new
 · rw [a09 hb] at e
   exact (x b u e).stay (fun c v _ q=>k c v q) (fun c q=>by rw [a09 (a27 q hn)]; exact q) fun c xs q=>by rw [a09 (a27 q hn)]; exact q
end
def Rd (H:Hp) (a:Addr) (u:HO):Prop:=H a=some u∨∃ o,H a=some (.frz o u)
theorem Rd.ok {P:Program}{w:World}{H:Hp}{h:Heap}{a:Addr}{u:HO}(r:Rd H a u) (x:HOk P w H h):ObjOk P w H h a u:=by
 rcases r with r | ⟨o,r⟩
 · exact x a u r
 · obtain ⟨_,q⟩:=x a _ r
   exact q
def Mut:Option HO→Prop
 | some (.lst _)=>True
 | some (.dK _)=>True
 | some (.dT _)=>True
 | some (.set _ _)=>True
 | some (.ins _ _ _)=>True
 | some (.ext _)=>True
 | _=>False
section
variable {P:Program}{w:World}{H:Hp}{h h':Heap}{x e:Addr}{o':HO}
theorem HOk.write (ok:HOk P w H h) (mu:Mut (H x)) (he:e=x∨H e=some (.own x)) (k:∀ b u,b≠e→h.get? b=some u→h'.get? b=some u) (heo:∃ u,h'.get? e=some u)
 (new:ObjOk P w (upd H x o') h' x o'):HOk P w (upd H x o') h':=fun b u q=>by
 have nown:∀ c y,H c=some (.own y)→c≠x:=fun c y r z=>by subst z; rw [r] at mu; exact mu
 have ntup:∀ c xs,H c=some (.tup xs)→c≠x:=fun c xs r z=>by subst z; rw [r] at mu; exact mu
 by_cases hb:b=x
 · subst hb; rw [a17] at q; cases q; exact new
 · rw [a09 hb] at q
   by_cases hbe:b=e
   · have q':H b=some (.own x):=by
      rcases he with z | z
      · exact absurd (hbe.trans z) hb
      · rw [hbe]; exact z
     rw [q] at q'; cases q'
     obtain ⟨v,hv⟩:=heo
     exact ⟨v,by rw [hbe]; exact hv⟩
   · refine (ok b u q).stay (fun c v hc r=>k c v ?_ r) (fun c r=>by rw [a09 (nown c b r)]; exact r) fun c xs r=>by rw [a09 (ntup c xs r)]; exact r
     rcases hc with rfl | hc
     · exact hbe
     · rintro rfl
       rcases he with z | z
       · exact nown c b hc z
       · rw [hc] at z; cases z; exact hb rfl
end
structure Un (fs ex:List Addr) (H H':Hp) (h h':Heap):Prop where
 keep:∀ b o,h.get? b=some o→H b=none→b∉fs→b∉ex→h'.get? b=some o
 slot:∀ b o,h.get? b=some o→H b=none→b∈fs→b∉ex→∃ sl,h'.get? b=some { o with slots:=sl }
 free:∀ b o,h.get? b=some o→H b=none→b∉ex→H' b=none
 there:∀ b o,h.get? b=some o→b∉ex→∃ o',h'.get? b=some o'
 tups:∀ b xs,H b=some (.tup xs)→H' b=some (.tup xs)
 frzs:∀ b o u,H b=some (.frz o u)→H' b=some (.frz o u)
 tbls:∀ b ps,H b=some (.tbl ps)→∃ more,H' b=some (.tbl (ps++more))
section
variable {fs fs' ex ex':List Addr}{H H1 H2:Hp}{h h1 h2 h':Heap}{a x e:Addr}{o:HO}
theorem Un.any (u:Un fs ex H H1 h h1) {b:Addr}{ob:Obj}(q:h.get? b=some ob) (n:H b=none) (hx:b∉ex):∃ sl,h1.get? b=some { ob with slots:=sl }:=by
 by_cases hb:b∈fs
 · exact u.slot b ob q n hb hx
 · exact ⟨ob.slots,u.keep b ob q n hb hx⟩
theorem Un.kept (k:∀ b u,h.get? b=some u→h'.get? b=some u):Un fs ex H H h h' :=
 ⟨fun b ob q _ _ _=>k b ob q,fun b ob q _ _ _=>⟨ob.slots,k b ob q⟩,fun _ _ _ n _=>n,fun b ob q _=>⟨ob,k b ob q⟩,fun _ _ q=>q,fun _ _ _ q=>q,fun _ ps q=>⟨#[],by rw [q]; simp⟩⟩
theorem Un.refl:Un fs ex H H h h:=Un.kept fun _ _ q=>q
theorem Un.laid (k:∀ b u,h.get? b=some u→h'.get? b=some u) (hp:h.objs.size≤a) (hn:H a=none):Un fs ex H (upd H a o) h h' where
 keep:=fun b u q _ _ _=>k b u q
 slot:=fun b u q _ _ _=>⟨u.slots,k b u q⟩
 free:=fun b u q n _=>by rw [a09 (Nat.ne_of_lt (Nat.lt_of_lt_of_le (Heap.lt_size q) hp))]; exact n
 there:=fun b u q _=>⟨u,k b u q⟩
 tups:=fun b xs q=>by rw [a09 (a27 q hn)]; exact q
 frzs:=fun b u xs q=>by rw [a09 (a27 q hn)]; exact q
 tbls:=fun b ps q=>⟨#[],by rw [a09 (a27 q hn),q]; simp⟩
theorem Un.write (mu:Mut (H x)) (he:e=x∨H e=some (.own x)) (k:∀ b u,b≠e→h.get? b=some u→h'.get? b=some u) (heo:∃ u,h'.get? e=some u):Un fs ex H (upd H x o) h h':=by
 have hx:∀ b,H b=none→b≠x:=fun b n z=>by subst z; rw [n] at mu; exact mu
 have hb:∀ b,H b=none→b≠e:=fun b n z=>by
  subst z
  rcases he with r | r
  · exact hx b n r
  · rw [n] at r; cases r
 have hm:∀ b u,H b=some u→¬ Mut (some u)→b≠x:=fun b u q nm z=>by subst z; rw [q] at mu; exact nm mu
 refine ⟨fun b u q n _ _=>k b u (hb b n) q,fun b u q n _ _=>⟨u.slots,k b u (hb b n) q⟩,fun b u q n _=>by rw [a09 (hx b n)]; exact n,fun b u q _=>?_,
  fun b xs q=>by rw [a09 (hm b _ q fun z=>z)]; exact q,fun b u xs q=>by rw [a09 (hm b _ q fun z=>z)]; exact q,fun b ps q=>⟨#[],by rw [a09 (hm b _ q fun z=>z),q]; simp⟩⟩
 by_cases hbe:b=e
 · subst hbe; exact heo
 · exact ⟨u,k b u hbe q⟩
end
def trk (h:Heap) (H:Hp):List Addr:=(List.range h.objs.size).filter fun a=>(H a).isSome
def hidT (h:Heap) (H:Hp):Heap:=PySem.W.hideAll h (trk h H)
theorem b19 (h:Heap) (H:Hp):(hidT h H).objs.size=h.objs.size:=PySem.W.hideAll_size _ _
theorem bb8 {h:Heap}{H:Hp}{b:Addr}{o:Obj}(e:h.get? b=some o) (n:H b=none):(hidT h H).get? b=some o :=
 PySem.W.hideAll_get _ e fun hm=>by
  have q:(H b).isSome=true:=(List.mem_filter.mp hm).2
  rw [n] at q; simp at q
theorem bm7 {h:Heap}{H:Hp}{b:Addr}{o:Obj}(e:(hidT h H).get? b=some o):h.get? b=some o∧H b=none:=by
 have e':h.get? b=some o:=PySem.W.of_hideAll (trk h H) e
 refine ⟨e',?_⟩
 cases q:H b with
 | none=>rfl
 | some x =>
   have hm:b∈trk h H:=List.mem_filter.mpr ⟨List.mem_range.mpr (Heap.lt_size e'),by simp [q]⟩
   have z:(hidT h H).get? b=none:=PySem.W.hideAll_none (trk h H) hm
   rw [z] at e; cases e
def bm8 (g h:Heap) (L:Addr):List (Addr×Obj):=(List.range h.objs.size).filterMap fun a=>if a=L∨(g.get? a).isSome=true then none else (h.get? a).map fun o=>(a,o)
def rest (g h:Heap) (L d:Addr):List (Addr×Obj):=(bm8 g h L).filter fun p=>decide (p.1≠d)
structure Mod (K:PySem.W.Frag) (mg:Str→Option Value) (base:Heap):Prop where
 kin:K.In base
 glob:base.Ns mainGlobals mg
 blt:∃ mb,base.Ns builtinsNs mb∧∀ x:Str,x≠"__name__"→mb x=bootBuiltins x
 nolimit:base.NoLimit
structure Cx where
 prog:Program
 w:World
 K:PySem.W.Frag
 mg:Str→Option Value
 base:Heap
 A:Around
 N:List Str
 s₀:Shared
 H₀:Hp
 env:Env
 outer:List Env
 stack:List Env
 ex:List Addr
 fn:Str→Bool
 calm:Bool
 pn:List (Addr×Obj)
 xe:Value→Shared→Prop
def frs (l:List Env):List Addr:=l.filterMap (·.frame)
abbrev Cx.fs (X:Cx):List Addr:=frs X.outer
def Vis (sc:Scope) (x:Str):Prop:=sc.names.lookup x=some .local∨sc.names.lookup x=some .cell∨sc.names.lookup x=some .free
def Loc (sc:Scope) (x:Str):Prop:=sc.names.lookup x=some .local∨sc.names.lookup x=some .cell
def Look (env:Env) (h:Heap) (m:Str→Option Value) (x:Str) (u:Value):Prop :=
 (env.kindOf x=some .local∧m x=some u)∨((env.kindOf x=some .cell∨env.kindOf x=some .free)∧∃ c,env.cells.lookup x=some c∧h.IsCell c (some u))
structure Cx.Ok (X:Cx):Prop where
 mod:Mod X.K X.mg X.base
 kind:X.env.scope.kind=.function
 glob:X.env.globals=mainGlobals
 blt:X.env.builtins=builtinsNs
 above:X.s₀.heap.objs.size≤X.env.locals
 inj:∀ x y c,X.env.cells.lookup x=some c→X.env.cells.lookup y=some c→x=y
 has:∀ x,(X.env.kindOf x=some .cell∨X.env.kindOf x=some .free)→∃ c,X.env.cells.lookup x=some c
 cab:∀ x c,X.fn x=true→X.env.cells.lookup x=some c→X.s₀.heap.objs.size≤c
 hd:X.calm=true→X.A.handled=none
 frames:X.A.frames=some X.stack
 stk:X.stack=X.outer∨(X.stack=X.env::X.outer∧X.env.frame=some X.env.locals)
 exf:∀ b∈X.ex,b≠X.env.locals∧∀ x c,X.env.cells.lookup x=some c→c≠b
 bs:∀ b o,X.base.get? b=some o→X.s₀.heap.get? b=some o∧X.H₀ b=none
 bsz:X.base.objs.size≤X.s₀.heap.objs.size
 noex:∀ b o,X.base.get? b=some o→b∉X.ex
 exfs:∀ b∈X.ex,b∉X.fs
 funs:X.s₀.heap.FunFrames X.base X.outer
 frf:∀ b∈X.fs,X.H₀ b=none
structure Inv (X:Cx) (pins:List (Addr×Obj)) (σ:List (Option V)) (H:Hp) (s:Shared):Prop where
 ok:X.Ok
 os:s.os=X.s₀.os
 bare:AllBare s.gens
 base:Un X.fs X.ex X.H₀ H X.s₀.heap s.heap
 loc:∃ m,s.heap.Ns X.env.locals m∧∀ (i:Nat) (x:Str) (v:V),X.N[i]?=some x→σ[i]?=some (some v)→Vis X.env.scope x→∃ u,RelV v u∧Look X.env s.heap m x u
 cell:∀ x c,X.env.cells.lookup x=some c→∃ v,s.heap.IsCell c v
 free:H X.env.locals=none
 freeC:∀ x c,X.env.cells.lookup x=some c→H c=none
 pin:∀ p∈X.pn++pins,s.heap.get? p.1=some p.2∧H p.1=none∧p.1≠X.env.locals∧p.1∉X.fs∧∀ v,p.2.data≠.cell v
 hok:HOk X.prog X.w H s.heap
 len:σ.length=X.N.length
section
variable {X:Cx}{pins:List (Addr×Obj)}{σ:List (Option V)} {H H':Hp}{s:Shared}{h':Heap}
theorem Cx.Ok.nofr (ok:X.Ok) {b:Addr}{o:Obj}(e:X.base.get? b=some o):b∉X.fs:=fun hb=>by
 have:=(ok.funs.mem hb).1
 rw [e] at this; cases this
theorem Inv.bs (I:Inv X pins σ H s):∀ b o,X.base.get? b=some o→s.heap.get? b=some o∧H b=none:=fun b o e =>
 ⟨I.base.keep b o (I.ok.bs b o e).1 (I.ok.bs b o e).2 (I.ok.nofr e) (I.ok.noex b o e),I.base.free b o (I.ok.bs b o e).1 (I.ok.bs b o e).2 (I.ok.noex b o e)⟩
theorem Inv.bk (I:Inv X pins σ H s):∀ b o,X.base.get? b=some o→s.heap.get? b=some o:=fun b o e=>(I.bs b o e).1
theorem Inv.mod (I:Inv X pins σ H s):Mod X.K X.mg X.base:=I.ok.mod
theorem Inv.kIn (I:Inv X pins σ H s):X.K.In s.heap:=I.ok.mod.kin.keeps I.bk
theorem Inv.lt (I:Inv X pins σ H s):X.env.locals<s.heap.objs.size:=let ⟨_,hn,_⟩:=I.loc; hn.lt
theorem Inv.sz (I:Inv X pins σ H s):X.s₀.heap.objs.size≤s.heap.objs.size:=Nat.le_trans I.ok.above (Nat.le_of_lt I.lt)
theorem Inv.nofs (I:Inv X pins σ H s) {a:Addr}(h:s.heap.objs.size≤a):a∉X.fs:=fun hb=>by
 obtain ⟨_,o,ho,_⟩:=I.ok.funs.mem hb
 exact absurd (Nat.lt_of_lt_of_le (Heap.lt_size ho) (Nat.le_trans I.sz h)) (Nat.lt_irrefl _)
theorem Inv.cne (I:Inv X pins σ H s):∀ x c,X.env.cells.lookup x=some c→c≠X.env.locals:=fun x c e z=>by
 obtain ⟨v,o,ho,hd⟩:=I.cell x c e
 obtain ⟨m,⟨o',es,ep,ho',hd',_⟩,_⟩:=I.loc
 rw [z,ho'] at ho; cases ho; rw [hd'] at hd; cases hd
theorem Inv.funs (I:Inv X pins σ H s):s.heap.FunFrames X.base X.outer:=by
 have all:∀ (l:List Env),(∀ b∈frs l,b∈X.fs)→X.s₀.heap.FunFrames X.base l→s.heap.FunFrames X.base l:=by
  intro l
  induction l with
  | nil=>intro _ _; trivial
  | cons env r ih =>
    intro hs hl
    obtain ⟨hk,⟨L,o,hf,hn,ho,hd⟩,hr⟩:=hl
    have hL:L∈X.fs:=hs L (by unfold frs; rw [List.filterMap_cons,hf]; exact List.mem_cons_self)
    obtain ⟨sl,e⟩:=I.base.slot L o ho (I.ok.frf L hL) hL fun z=>I.ok.exfs L z hL
    exact ⟨hk,⟨L,_,hf,hn,e,hd⟩,ih (fun b hb=>hs b (by unfold frs; rw [List.filterMap_cons,hf]; exact List.mem_cons_of_mem _ hb)) hr⟩
 exact all X.outer (fun _ hb=>hb) I.ok.funs
theorem Inv.stack (I:Inv X pins σ H s):s.heap.FunFrames X.base X.stack:=by
 rcases I.ok.stk with e | ⟨e,hf⟩
 · rw [e]; exact I.funs
 · rw [e]
   obtain ⟨m,hn,_⟩:=I.loc
   refine .cons (by rw [I.ok.kind]; decide) hf hn ?_ I.funs
   exact Heap.get?_none_of_le (Nat.le_trans I.ok.bsz I.ok.above)
theorem Inv.stkSub (I:Inv X pins σ H s):∀ b∈frs X.stack,b∈X.env.locals::X.fs:=fun b hb=>by
 rcases I.ok.stk with e | ⟨e,hf⟩
 · rw [e] at hb; exact List.mem_cons_of_mem _ hb
 · rw [e] at hb
   unfold frs at hb
   rw [List.filterMap_cons,hf] at hb
   exact hb
theorem Inv.stkFree (I:Inv X pins σ H s):∀ b∈frs X.stack,H b=none:=fun b hb=>by
 rcases List.mem_cons.mp (I.stkSub b hb) with e | hb
 · rw [e]; exact I.free
 · obtain ⟨_,o,ho,_⟩:=I.ok.funs.mem hb
   exact I.base.free b o ho (I.ok.frf b hb) fun z=>I.ok.exfs b z hb
theorem Inv.step {g':Array GenState}{t':Nat}{d':Drawn}{ch:List Addr}(I:Inv X pins σ H s)
 (hch:∀ b∈ch,(b∈X.ex∨X.s₀.heap.objs.size≤b)∧b≠X.env.locals∧(∀ x c,X.env.cells.lookup x=some c→c≠b)∧∀ p∈X.pn++pins,p.1≠b)
 (keep:∀ b o,b≠X.env.locals→b∉X.fs→b∉ch→s.heap.get? b=some o→H b=none→h'.get? b=some o)
 (slot:∀ b o,b≠X.env.locals→b∈X.fs→b∉ch→s.heap.get? b=some o→H b=none→∃ sl,h'.get? b=some { o with slots:=sl }) (free:∀ b o,b∉ch→s.heap.get? b=some o→H b=none→H' b=none)
 (there:∀ b o,b∉ch→s.heap.get? b=some o→∃ o',h'.get? b=some o')
 (tups:∀ b xs,H b=some (.tup xs)→H' b=some (.tup xs)) (frzs:∀ b o u,H b=some (.frz o u)→H' b=some (.frz o u)) (tbls:∀ b ps,H b=some (.tbl ps)→∃ more,H' b=some (.tbl (ps++more)))
 (ns:∀ m,s.heap.Ns X.env.locals m→h'.Ns X.env.locals m) (hok:HOk X.prog X.w H' h') (hg:AllBare g') :
 Inv X pins σ H' { s with heap:=h',gens:=g',drawn:=d',toks:=t' }:=by
 have neL:∀ b o,X.s₀.heap.get? b=some o→b≠X.env.locals:=fun b o e=>Nat.ne_of_lt (Nat.lt_of_lt_of_le (Heap.lt_size e) I.ok.above)
 have neC:∀ b o,X.s₀.heap.get? b=some o→b∉X.ex→b∉ch:=fun b o e hx hb=>by
  rcases (hch b hb).1 with z | z
  · exact hx z
  · exact absurd (Nat.lt_of_lt_of_le (Heap.lt_size e) z) (Nat.lt_irrefl _)
 have cellK:∀ x c,X.env.cells.lookup x=some c→∀ v,s.heap.IsCell c v→h'.IsCell c v:=fun x c e v ⟨o,ho,hd⟩=>by
  have nch:c∉ch:=fun z=>(hch c z).2.2.1 x c e rfl
  by_cases hc:c∈X.fs
  · obtain ⟨sl,q⟩:=slot c o (I.cne x c e) hc nch ho (I.freeC x c e)
    exact ⟨_,q,hd⟩
  · exact ⟨o,keep c o (I.cne x c e) hc nch ho (I.freeC x c e),hd⟩
 refine ⟨I.ok,I.os,hg,⟨fun b o e n hb hx=>?_,fun b o e n hb hx=>?_,fun b o e n hx=>?_,fun b o e hx=>?_,fun b xs e=>tups b xs (I.base.tups b xs e),fun b o xs e=>frzs b o xs (I.base.frzs b o xs e),fun b ps e=>?_⟩,?_,fun x c e=>?_,?_,fun x c e=>?_,fun p hp=>?_,hok,I.len⟩
 · exact keep b o (neL b o e) hb (neC b o e hx) (I.base.keep b o e n hb hx) (I.base.free b o e n hx)
 · obtain ⟨sl,e1⟩:=I.base.slot b o e n hb hx
   obtain ⟨sl',e2⟩:=slot b _ (neL b o e) hb (neC b o e hx) e1 (I.base.free b o e n hx)
   exact ⟨sl',e2⟩
 · obtain ⟨o',e1⟩:=I.base.there b o e hx
   exact free b o' (neC b o e hx) e1 (I.base.free b o e n hx)
 · obtain ⟨o',e1⟩:=I.base.there b o e hx
   exact there b o' (neC b o e hx) e1
 · obtain ⟨m1,e1⟩:=I.base.tbls b ps e
   obtain ⟨m2,e2⟩:=tbls b _ e1
   exact ⟨m1++m2,by rw [e2,Array.append_assoc]⟩
 · obtain ⟨m,hn,hl⟩:=I.loc
   refine ⟨m,ns m hn,fun i x v e1 e2 e3=>?_⟩
   obtain ⟨u,r,l⟩:=hl i x v e1 e2 e3
   refine ⟨u,r,?_⟩
   rcases l with l | ⟨k,c,e,z⟩
   · exact .inl l
   · exact .inr ⟨k,c,e,cellK x c e _ z⟩
 · obtain ⟨v,z⟩:=I.cell x c e
   exact ⟨v,cellK x c e v z⟩
 · obtain ⟨m,⟨o,_,_,ho,_⟩,_⟩:=I.loc
   exact free _ o (fun z=>(hch _ z).2.1 rfl) ho I.free
 · obtain ⟨v,o,ho,hd⟩:=I.cell x c e
   exact free c o (fun z=>(hch c z).2.2.1 x c e rfl) ho (I.freeC x c e)
 · obtain ⟨e,n,ne,nf,d⟩:=I.pin p hp
   have nch:p.1∉ch:=fun z=>(hch p.1 z).2.2.2 p hp rfl
   exact ⟨keep p.1 p.2 ne nf nch e n,free p.1 p.2 nch e n,ne,nf,d⟩
theorem Inv.un {t':Nat}(I:Inv X pins σ H s) (u:Un X.fs [] H H' s.heap h') (hok:HOk X.prog X.w H' h'):Inv X pins σ H' { s with heap:=h',toks:=t' }:=by
 obtain ⟨m,⟨o,es,ep,ho,r⟩,_⟩:=id I.loc
 obtain ⟨sl,hL⟩:=u.any ho I.free (by simp)
 exact I.step (g':=s.gens) (d':=s.drawn) (ch:=[]) (fun _ z=>nomatch z) (fun b o _ hb _ e n=>u.keep b o e n hb (by simp)) (fun b o _ hb _ e n=>u.slot b o e n hb (by simp)) (fun b o _ e n=>u.free b o e n (by simp)) (fun b o _ e=>u.there b o e (by simp)) u.tups u.frzs u.tbls (fun m' hm=>by
  obtain ⟨o',es',ep',ho',r'⟩:=hm
  rw [ho] at ho'; cases ho'
  exact ⟨_,es',ep',hL,r'⟩) hok I.bare
theorem Inv.call {g':Array GenState}{t':Nat}{d':Drawn}{ch:List Addr}(I:Inv X pins σ H s) (u:Un (frs X.stack) ch H H' s.heap h') (hok:HOk X.prog X.w H' h') (hg:AllBare g')
 (hch:∀ b∈ch,(b∈X.ex∨X.s₀.heap.objs.size≤b)∧b≠X.env.locals∧(∀ x c,X.env.cells.lookup x=some c→c≠b)∧∀ p∈X.pn++pins,p.1≠b) :
 Inv X pins σ H' { s with heap:=h',gens:=g',drawn:=d',toks:=t' }:=by
 obtain ⟨m,⟨o,es,ep,ho,r⟩,_⟩:=id I.loc
 obtain ⟨sl,hL⟩:=u.any ho I.free fun z=>(hch _ z).2.1 rfl
 exact I.step (ch:=ch) hch (fun b o hL hb hc e n=>u.keep b o e n (fun z=>(List.mem_cons.mp (I.stkSub b z)).elim hL hb) hc) (fun b o _ _ hc e n=>u.any e n hc) (fun b o hc e n=>u.free b o e n hc) (fun b o hc e=>u.there b o e hc) u.tups u.frzs u.tbls (fun m' hm=>by
  obtain ⟨o',es',ep',ho',r'⟩:=hm
  rw [ho] at ho'; cases ho'
  exact ⟨_,es',ep',hL,r'⟩) hok hg
theorem Inv.turned {t':Nat}{it:Addr}(I:Inv X pins σ H s) (k:∀ b o,b≠it→s.heap.get? b=some o→h'.get? b=some o) (hn:H it=none) (hL:it≠X.env.locals)
 (h1:it∈X.ex∨X.s₀.heap.objs.size≤it) (h2:∀ x c,X.env.cells.lookup x=some c→c≠it) (h3:∀ p∈X.pn++pins,p.1≠it):Inv X pins σ H { s with heap:=h',toks:=t' }:=by
 have nit:∀ b u,H b=some u→b≠it:=fun b u e z=>by rw [z,hn] at e; cases e
 refine I.step (g':=s.gens) (d':=s.drawn) (ch:=[it]) (fun b hb=>?_) (fun b o _ _ hc e _=>k b o (fun z=>hc (by simp [z])) e) (fun b o _ _ hc e _=>⟨o.slots,k b o (fun z=>hc (by simp [z])) e⟩) (fun _ _ _ _ n=>n)
  (fun b o hc e=>⟨o,k b o (fun z=>hc (by simp [z])) e⟩) (fun _ _ e=>e) (fun _ _ _ e=>e) (fun b ps e=>⟨#[],by rw [e]; simp⟩) (fun m hm=>?_) (fun b u e=>?_) I.bare
 · have e:b=it:=by simpa using hb
   subst e
   exact ⟨h1,hL,h2,h3⟩
 · obtain ⟨o,es,ep,ho,r⟩:=hm
   exact ⟨o,es,ep,k _ o (Ne.symm hL) ho,r⟩
 · refine (I.hok b u e).stay (fun c v hc q=>k c v ?_ q) (fun _ q=>q) fun _ _ q=>q
   rcases hc with z | z
   · rw [z]; exact nit b u e
   · exact nit c _ z
theorem Inv.tok (I:Inv X pins σ H s) (t:Nat):Inv X pins σ H { s with toks:=t }:=I.un (h':=s.heap) (t':=t) Un.refl I.hok
theorem Inv.kept {t':Nat}(I:Inv X pins σ H s) (k:∀ b u,s.heap.get? b=some u→h'.get? b=some u):Inv X pins σ H { s with heap:=h',toks:=t' }:=I.un (Un.kept k) (I.hok.kept k)
theorem Inv.laid {a:Addr}{o:HO}{t':Nat}(I:Inv X pins σ H s) (k:∀ b u,s.heap.get? b=some u→h'.get? b=some u) (hp:s.heap.objs.size≤a) (new:ObjOk X.prog X.w (upd H a o) h' a o) :
 Inv X pins σ (upd H a o) { s with heap:=h',toks:=t' }:=I.un (Un.laid k hp (I.hok.fresh hp)) (I.hok.laid k hp new)
theorem Inv.write {x e:Addr}{o:HO}{t':Nat}(I:Inv X pins σ H s) (mu:Mut (H x)) (he:e=x∨H e=some (.own x)) (k:∀ b u,b≠e→s.heap.get? b=some u→h'.get? b=some u) (heo:∃ u,h'.get? e=some u)
 (new:ObjOk X.prog X.w (upd H x o) h' x o):Inv X pins σ (upd H x o) { s with heap:=h',toks:=t' }:=I.un (Un.write mu he k heo) (I.hok.write mu he k heo new)
theorem Inv.pins_of {pins':List (Addr×Obj)}(I:Inv X pins σ H s) (h:∀ p∈pins',s.heap.get? p.1=some p.2∧H p.1=none∧p.1≠X.env.locals∧p.1∉X.fs∧∀ v,p.2.data≠.cell v):Inv X pins' σ H s :=
 ⟨I.ok,I.os,I.bare,I.base,I.loc,I.cell,I.free,I.freeC,fun p hp=>(List.mem_append.mp hp).elim (fun z=>I.pin p (List.mem_append_left _ z)) (h p),I.hok,I.len⟩
theorem am1 {N:List Str}(hN:N.Nodup) {i j:Nat}{x:Str}(a:N[i]?=some x) (b:N[j]?=some x):i=j:=by
 obtain ⟨h1,e1⟩:=List.getElem?_eq_some_iff.mp a
 obtain ⟨h2,e2⟩:=List.getElem?_eq_some_iff.mp b
 exact (List.getElem_inj hN).mp (e1.trans e2.symm)
theorem ao9 {M:Model}{A:Around}{E:Value→Shared→Prop}{i:Nat}{x:Str}{v:V}{u:Value}{Q:Unit→Shared→Prop}(I:Inv X pins σ H s) (hN:X.N.Nodup) (hi:X.N[i]?=some x) (hx:Loc X.env.scope x) (r:RelV v u)
 (h:∀ s',Inv X pins (σ.set i (some v)) H s'→(∃ a,Heap.SameBut a s.heap s'.heap∧(a=X.env.locals∨X.env.cells.lookup x=some a))→Q () s') (hf:X.fn x=true∨X.env.scope.names.lookup x=some .local:=by first | exact .inl rfl | exact .inr rfl | assumption):wpAny M A (storeName X.env x u) Q E s:=by
 obtain ⟨m,hn,hl⟩:=id I.loc
 have hcls:(X.env.scope.kind == .class || (X.env.scope.kind == .module && X.env.locals != X.env.globals))=false:=by rw [I.ok.kind]; rfl
 have hiσ:i<σ.length:=by rw [I.len]; exact (List.getElem?_eq_some_iff.mp hi).1
 have cne:=I.cne
 have tracked:∀ {a:Addr}{h':Heap},(∃ o,s.heap.get? a=some o∧H a=none)→Heap.SameBut a s.heap h'→HOk X.prog X.w H h':=fun {a h'} ha hs b ob e=>by
  obtain ⟨_,_,hfree⟩:=ha
  refine (I.hok b ob e).stay (fun c w' hc q=>(hs.2 c ?_).trans q) (fun _ q=>q) fun _ _ q=>q
  rintro rfl
  rcases hc with rfl | hc
  · rw [hfree] at e; cases e
  · rw [hfree] at hc; cases hc
 rcases hx with hk | hk
 · refine wpAny_storeName_local hk hn (fun h' hn' hs=>?_) hcls
   obtain ⟨oL,_,_,hoL,_⟩:=id hn
   refine h _ ⟨I.ok,I.os,I.bare,⟨fun b o e n hb hx=>?_,fun b o e n hb hx=>?_,I.base.free,fun b o e hx=>?_,I.base.tups,I.base.frzs,I.base.tbls⟩,⟨_,hn',fun j y v' e1 e2 e3=>?_⟩,fun y c e=>?_,I.free,I.freeC,fun p hp=>?_,tracked ⟨oL,hoL,I.free⟩ hs,by simpa using I.len⟩ ⟨_,hs,.inl rfl⟩
   · exact (hs.2 b (Nat.ne_of_lt (Nat.lt_of_lt_of_le (Heap.lt_size e) I.ok.above))).trans (I.base.keep b o e n hb hx)
   · obtain ⟨sl,e1⟩:=I.base.slot b o e n hb hx
     exact ⟨sl,(hs.2 b (Nat.ne_of_lt (Nat.lt_of_lt_of_le (Heap.lt_size e) I.ok.above))).trans e1⟩
   · obtain ⟨o',e1⟩:=I.base.there b o e hx
     exact ⟨o',(hs.2 b (Nat.ne_of_lt (Nat.lt_of_lt_of_le (Heap.lt_size e) I.ok.above))).trans e1⟩
   · by_cases hj:j=i
     · subst hj
       rw [hi] at e1; cases e1
       rw [List.getElem?_set_self hiσ] at e2
       cases e2
       exact ⟨u,r,.inl ⟨hk,by simp⟩⟩
     · rw [List.getElem?_set_ne (Ne.symm hj)] at e2
       obtain ⟨u',r',q⟩:=hl j y v' e1 e2 e3
       refine ⟨u',r',?_⟩
       rcases q with ⟨k,e⟩ | ⟨k,c,e,z⟩
       · refine .inl ⟨k,?_⟩
         have:y≠x:=fun e=>hj (am1 hN e1 (e ▸ hi))
         simp [this,e]
       · exact .inr ⟨k,c,e,z.sameBut hs (cne y c e)⟩
   · obtain ⟨w',z⟩:=I.cell y c e
     exact ⟨w',z.sameBut hs (cne y c e)⟩
   · obtain ⟨e,n,ne,nf,d⟩:=I.pin p hp
     exact ⟨(hs.2 p.1 ne).trans e,n,ne,nf,d⟩
 · have hfn:X.fn x=true:=by
    rcases hf with z | z
    · exact z
    · rw [z] at hk; cases hk
   obtain ⟨c,hc⟩:=I.ok.has x (.inl hk)
   obtain ⟨w',z⟩:=I.cell x c hc
   refine wpAny_storeName_cell I.ok.kind hk hc z (fun h' hc' hs=>?_)
   obtain ⟨oc,hoc,hocd⟩:=id z
   refine h { s with heap:=h' } ⟨I.ok,I.os,I.bare,⟨fun b o e n hb hx=>?_,fun b o e n hb hx=>?_,I.base.free,fun b o e hx=>?_,I.base.tups,I.base.frzs,I.base.tbls⟩,⟨m,hn.sameBut hs (Ne.symm (cne x c hc)),fun j y v' e1 e2 e3=>?_⟩,fun y c' e=>?_,I.free,I.freeC,fun p hp=>?_,tracked ⟨oc,hoc,I.freeC x c hc⟩ hs,by simpa using I.len⟩ ⟨c,hs,.inr hc⟩
   · exact (hs.2 b (Nat.ne_of_lt (Nat.lt_of_lt_of_le (Heap.lt_size e) (I.ok.cab x c hfn hc)))).trans (I.base.keep b o e n hb hx)
   · obtain ⟨sl,e1⟩:=I.base.slot b o e n hb hx
     exact ⟨sl,(hs.2 b (Nat.ne_of_lt (Nat.lt_of_lt_of_le (Heap.lt_size e) (I.ok.cab x c hfn hc)))).trans e1⟩
   · obtain ⟨o',e1⟩:=I.base.there b o e hx
     exact ⟨o',(hs.2 b (Nat.ne_of_lt (Nat.lt_of_lt_of_le (Heap.lt_size e) (I.ok.cab x c hfn hc)))).trans e1⟩
   · by_cases hj:j=i
     · subst hj
       rw [hi] at e1; cases e1
       rw [List.getElem?_set_self hiσ] at e2
       cases e2
       exact ⟨u,r,.inr ⟨.inl hk,c,hc,hc'⟩⟩
     · rw [List.getElem?_set_ne (Ne.symm hj)] at e2
       obtain ⟨u',r',q⟩:=hl j y v' e1 e2 e3
       refine ⟨u',r',?_⟩
       rcases q with q | ⟨k,c',e,z'⟩
       · exact .inl q
       · refine .inr ⟨k,c',e,z'.sameBut hs ?_⟩
         rintro rfl
         exact hj (am1 hN e1 (I.ok.inj _ _ _ e hc ▸ hi))
   · by_cases hcc:c'=c
     · subst hcc; exact ⟨_,hc'⟩
     · obtain ⟨w2,z2⟩:=I.cell y c' e
       exact ⟨w2,z2.sameBut hs hcc⟩
   · obtain ⟨e,n,ne,nf,d⟩:=I.pin p hp
     refine ⟨(hs.2 p.1 ?_).trans e,n,ne,nf,d⟩
     intro q
     rw [q,hoc] at e
     have q':oc=p.2:=Option.some.inj e
     exact d w' (by rw [← q']; exact hocd)
theorem ad1 {M:Model}{A:Around}{E:Value→Shared→Prop}{i:Nat}{x:Str}{v:V}{u:Value}{Q:Unit→Shared→Prop}(I:Inv X pins σ H s) (hN:X.N.Nodup) (hi:X.N[i]?=some x) (hx:Loc X.env.scope x) (r:RelV v u)
 (h:∀ s',Inv X pins (σ.set i (some v)) H s'→Q () s') (hf:X.fn x=true∨X.env.scope.names.lookup x=some .local:=by first | exact .inl rfl | exact .inr rfl | assumption):wpAny M A (storeName X.env x u) Q E s :=
 ao9 I hN hi hx r (fun s' I' _=>h s' I') hf
theorem Inv.call' {s':Shared}{ch:List Addr}(I:Inv X pins σ H s) (ho:s'.os=s.os) (u:Un (frs X.stack) ch H H' s.heap s'.heap) (hok:HOk X.prog X.w H' s'.heap) (hg:AllBare s'.gens)
 (hch:∀ b∈ch,(b∈X.ex∨X.s₀.heap.objs.size≤b)∧b≠X.env.locals∧(∀ x c,X.env.cells.lookup x=some c→c≠b)∧∀ p∈X.pn++pins,p.1≠b):Inv X pins σ H' s':=by
 obtain ⟨h',g',d',t',o'⟩:=s'
 have e:o'=s.os:=ho
 subst e
 exact I.call (g':=g') (t':=t') (d':=d') u hok hg hch
end
abbrev XK:=Value→Option Addr→Hp→Prop
abbrev St:=List (Option V)
abbrev VK:=V→Hp→Prop
abbrev TE:=St→Hp→VK→Prop
abbrev TT:=St→Hp→(Bool→Hp→Prop)→Prop
abbrev TA:=St→Hp→(List V→Hp→Prop)→Prop
structure Ends where
 nx:St→Hp→Prop
 rt:VK
 bk:St→Hp→Prop:=fun _ _=>False
 ct:St→Hp→Prop:=fun _ _=>False
abbrev TS:=Ends→St→Hp→Prop
def EP (X:Cx) (pins:List (Addr×Obj)) (σ:St) (Q:VK) (u:Value) (s':Shared):Prop:=∃ v H',Inv X pins σ H' s'∧RelV v u∧Q v H'
def TP (X:Cx) (pins:List (Addr×Obj)) (σ:St) (Q:Bool→Hp→Prop) (b:Bool) (s':Shared):Prop:=∃ H',Inv X pins σ H' s'∧Q b H'
def AP (X:Cx) (pins:List (Addr×Obj)) (σ:St) (Q:List V→Hp→Prop) (us:List Value) (s':Shared):Prop:=∃ vs H',Inv X pins σ H' s'∧Vals vs us∧Q vs H'
def SP (X:Cx) (pins:List (Addr×Obj)) (D:Ends) (f:Flow) (s':Shared):Prop :=
 match f with
 | .next=>∃ σ' H',Inv X pins σ' H' s'∧D.nx σ' H'
 | .brk=>∃ σ' H',Inv X pins σ' H' s'∧D.bk σ' H'
 | .cont=>∃ σ' H',Inv X pins σ' H' s'∧D.ct σ' H'
 | .ret u=>∃ v σ' H',Inv X pins σ' H' s'∧RelV v u∧D.rt v H'
def PE (X:Cx) (e:Expr) (t:TE):Prop :=
 ∀ (pins:List (Addr×Obj)) (s:Shared) (σ:St) (H:Hp) (Q:VK),Inv X pins σ H s→t σ H Q→wpAny (model X.prog X.w) X.A (eval e X.env) (EP X pins σ Q) X.xe s
def PT (X:Cx) (e:Expr) (t:TT):Prop :=
 ∀ (pins:List (Addr×Obj)) (s:Shared) (σ:St) (H:Hp) (Q:Bool→Hp→Prop),Inv X pins σ H s→t σ H Q→wpAny (model X.prog X.w) X.A (isTrue e X.env (eval e X.env)) (TP X pins σ Q) X.xe s
def PW (X:Cx) (e:Expr) (t:TT):Prop :=
 ∀ (whole:Sem Value) (pins:List (Addr×Obj)) (s:Shared) (σ:St) (H:Hp) (Q:Bool→Hp→Prop),Inv X pins σ H s→t σ H Q→wpAny (model X.prog X.w) X.A (isTrue e X.env whole) (TP X pins σ Q) X.xe s
theorem PW.pt {X:Cx}{e:Expr}{t:TT}(h:PW X e t):PT X e t:=h _
def PA (X:Cx) (es:List Expr) (t:TA):Prop :=
 ∀ (pos:Pos) (pins:List (Addr×Obj)) (s:Shared) (σ:St) (H:Hp) (Q:List V→Hp→Prop),Inv X pins σ H s→t σ H Q→wpAny (model X.prog X.w) X.A (spliced (backTo pos (starEach es X.env))) (AP X pins σ Q) X.xe s
def PS (X:Cx) (st:Stmt) (t:TS):Prop :=
 ∀ (pins:List (Addr×Obj)) (s:Shared) (σ:St) (H:Hp) (D:Ends),Inv X pins σ H s→t D σ H→wpAny (model X.prog X.w) X.A (exec st X.env) (SP X pins D) X.xe s
def PSs (X:Cx) (st:List Stmt) (t:TS):Prop :=
 ∀ (pins:List (Addr×Obj)) (s:Shared) (σ:St) (H:Hp) (D:Ends),Inv X pins σ H s→t D σ H→wpAny (model X.prog X.w) X.A (execs st X.env) (SP X pins D) X.xe s
theorem thn {α:Type}{t:Sem α}{Q Q':α→Shared→Prop}{M:Model}{A:Around}{E:Value→Shared→Prop}{s:Shared}(h:wpAny M A t Q E s) (hQ:∀ a s,Q a s→Q' a s):wpAny M A t Q' E s:=wpAny_mono h hQ fun _ _ x=>x
section
variable {X:Cx}
def tVar (i:Nat):TE:=fun σ H Q=>∃ v,σ[i]?=some (some v)∧Q v H
def tC (v:V):TE:=fun _ H Q=>Q v H
theorem bw7 {i:Nat}{x:Str}{pos:Pos}(hN:X.N[i]?=some x) (hv:Vis X.env.scope x) (hd:(x == ("__debug__":Str))=false:=by decide) (hcd:(x == ("__classdict__":Str))=false:=by decide):PE X (.Name x pos) (tVar i):=by
 intro pins s σ H Q I h
 obtain ⟨v,e,h⟩:=h
 obtain ⟨m,hn,hl⟩:=I.loc
 obtain ⟨u,r,l⟩:=hl i x v hN e hv
 have fin:EP X pins σ Q u s:=⟨v,H,I,r,h⟩
 rcases l with ⟨hk,hm⟩ | ⟨hk,c,hc,hcell⟩
 · exact wpAny_Name (wpAny_loadName_local I.ok.kind hk hn hm fin) hd
 · rcases hk with hk | hk
   · exact wpAny_Name (wpAny_loadName_cell I.ok.kind hk hc hcell fin) hd
   · exact wpAny_Name (wpAny_loadName_free I.ok.kind hk hc hcell fin hcd) hd
theorem a03 {i j pos}:PE X (.Constant (.int i) j pos) (tC (.int i)):=fun _ _ _ H _ I h=>wpAny_Constant_int ⟨.int i,H,I.tok _,⟨_,rfl⟩,h⟩
theorem aj9 {b j pos}:PE X (.Constant (.bool b) j pos) (tC (.bl b)):=fun _ _ _ H _ I h=>Constant_bool ⟨.bl b,H,I,rfl,h⟩
theorem a50 {j pos}:PE X (.Constant .none j pos) (tC .non):=fun _ _ _ H _ I h=>Constant_none ⟨.non,H,I,rfl,h⟩
theorem a15 {x j pos}:PE X (.Constant (.str x) j pos) (tC (.str x)):=fun _ _ _ H _ I h=>Calls.Constant_str ⟨.str x,H,I.tok _,⟨_,rfl⟩,h⟩
def Gl (X:Cx) (x:Str):Prop:=X.env.kindOf x=some .globalImplicit
theorem ag3 {E:Value→Shared→Prop}{pins:List (Addr×Obj)}{s:Shared}{σ:St} {H:Hp}{x:Str}{u:Value}{pos:Pos}{Q:Value→Shared→Prop}(I:Inv X pins σ H s) (hg:Gl X x) (hm:X.mg x=some u) (h:Q u s)
 (hd:(x == ("__debug__":Str))=false:=by decide):wpAny (model X.prog X.w) X.A (eval (.Name x pos) X.env) Q E s :=
 Calls.Name_function_global I.ok.kind hg (Calls.loadGlobal_global (by rw [I.ok.glob]; exact I.mod.glob.keeps I.bk) hm h) hd
theorem ak9 {E:Value→Shared→Prop}{pins:List (Addr×Obj)}{s:Shared}{σ:St} {H:Hp}{x:Str}{u:Value}{pos:Pos}{Q:Value→Shared→Prop}(I:Inv X pins σ H s) (hg:Gl X x) (hm:X.mg x=none) (hv:bootBuiltins x=some u) (h:Q u s)
 (hn:x≠"__name__":=by decide) (hd:(x == ("__debug__":Str))=false:=by decide):wpAny (model X.prog X.w) X.A (eval (.Name x pos) X.env) Q E s:=by
 obtain ⟨mb,h1,h2⟩:=I.mod.blt
 exact Calls.Name_function_global I.ok.kind hg (Calls.loadGlobal_builtin (by rw [I.ok.glob]; exact I.mod.glob.keeps I.bk) hm (by rw [I.ok.blt]; exact h1.keeps I.bk) ((h2 x hn).trans hv) h) hd
theorem aa3 {x:Str}{v:V}{u:Value}{pos:Pos}(hg:Gl X x) (hm:X.mg x=some u) (r:RelV v u) (hd:(x == ("__debug__":Str))=false:=by decide):PE X (.Name x pos) (tC v) :=
 fun _ _ _ H _ I h=>ag3 I hg hm ⟨v,H,I,r,h⟩ hd
theorem bm9 {x:Str}{v:V}{u:Value}{pos:Pos}(hg:Gl X x) (hm:X.mg x=none) (hv:bootBuiltins x=some u) (r:RelV v u) (hn:x≠"__name__":=by decide) (hd:(x == ("__debug__":Str))=false:=by decide):PE X (.Name x pos) (tC v) :=
 fun _ _ _ H _ I h=>ak9 I hg hm hv ⟨v,H,I,r,h⟩ hn hd
variable {a b:Expr}{ta tb:TE}{pos:Pos}
def PC (X:Cx) (op:CmpOp) (a b:Expr) (t:TE):Prop :=
 ∀ (pins:List (Addr×Obj)) (s:Shared) (σ:St) (H:Hp) (Q:VK),Inv X pins σ H s→t σ H Q →
  wpAny (model X.prog X.w) X.A (eval a X.env) (fun v s₁=>wpAny (model X.prog X.w) X.A (eval b X.env) (fun u s₂=>wpAny (model X.prog X.w) X.A (compareOp op v u) (EP X pins σ Q) X.xe s₂) X.xe s₁) X.xe s
theorem nobehind (b:Expr) {op:CmpOp}(h:op≠.In) (h2:op≠.NotIn):behindInMarks op b=false:=by
 have e1:(op == CmpOp.In)=false:=by cases op <;> first | rfl | exact absurd rfl h
 have e2:(op == CmpOp.NotIn)=false:=by cases op <;> first | rfl | exact absurd rfl h2
 cases b <;> simp [behindInMarks,e1,e2]
def tB (t:TE):TT:=fun σ H Q=>t σ H fun x H1=>∃ c,x=.bl c∧Q c H1
theorem bw8 {op:CmpOp}{t:TE}(h:PC X op a b t) (h1:behindInMarks op b=false:=by first | exact nobehind _ (by decide) (by decide) | rfl):PT X (.Compare a [op] [b] pos) (tB t):=by
 intro pins s σ H Q I hw
 refine wpAny_isTrue_Compare1 (thn (h pins s σ H _ I hw) fun v s1 h1=>thn h1 fun u s2 h2=>thn h2 ?_) h1
 rintro c s3 ⟨x,H1,I1,r1,q1⟩
 obtain ⟨d,rfl,q⟩:=q1
 cases r1
 exact wpAny_truthy_bool ⟨H1,I1,q⟩
variable {tA tB':TT}{rest:List Expr}
def tOr (t u:TT):TT:=fun σ H Q=>t σ H fun c H1=>if c=true then Q true H1 else u σ H1 Q
def tNot (t:TT):TT:=fun σ H Q=>t σ H fun c H1=>Q (!c) H1
theorem b20 (ha:PT X a tA):PW X (.BoolOp .Or [a] pos) tA:=by
 intro wh pins s σ H Q I h
 refine isTrue_or (thn (ha pins s σ H Q I h) fun c s1 e=>?_)
 cases c with
 | false=>exact isTrue_or_nil e
 | true=>exact e
theorem bn0 (ha:PT X a tA) (hb:PW X (.BoolOp .Or (b::rest) pos) tB'):PW X (.BoolOp .Or (a::b::rest) pos) (tOr tA tB'):=by
 intro wh pins s σ H Q I h
 refine isTrue_or (thn (ha pins s σ H _ I h) ?_)
 rintro c s1 ⟨H1,I1,q1⟩
 cases c with
 | true=>exact ⟨H1,I1,q1⟩
 | false=>exact hb wh pins s1 σ H1 Q I1 q1
theorem bw9 (ha:PT X a tA):PT X (.UnaryOp .Not a pos) (tNot tA):=by
 intro pins s σ H Q I h
 exact isTrue_not (ha pins s σ H (fun c H1=>Q (!c) H1) I h)
def bx0 (ta tb:TE):TE:=fun σ H Q=>ta σ H fun x H1=>∃ c,x=.bl c∧if c=true then tb σ H1 Q else Q (.bl false) H1
def bx1 (ta:TE):TE:=fun σ H Q=>ta σ H fun x H1=>∃ c,x=.bl c∧Q (.bl (!c)) H1
theorem bi5 {op}{t:TE}(h:PE X a t):PE X (.BoolOp op [a] pos) t:=fun pins s σ H Q I hw=>BoolOp_one (h pins s σ H Q I hw)
theorem bi6 (ha:PE X a ta) (hb:PE X (.BoolOp .And (b::rest) pos) tb):PE X (.BoolOp .And (a::b::rest) pos) (bx0 ta tb):=by
 intro pins s σ H Q I h
 refine BoolOp_and (thn (ha pins s σ H _ I h) ?_)
 rintro v s1 ⟨x,H1,I1,r1,q1⟩
 obtain ⟨c,rfl,q1⟩:=q1
 cases r1
 refine wpAny_truthy_bool ?_
 cases c with
 | true=>exact hb pins s1 σ H1 Q I1 q1
 | false=>exact ⟨.bl false,H1,I1,rfl,q1⟩
theorem bi7 (ha:PE X a ta):PE X (.UnaryOp .Not a pos) (bx1 ta):=by
 intro pins s σ H Q I h
 refine UnaryOp_ (thn (ha pins s σ H _ I h) ?_)
 rintro v s1 ⟨x,H1,I1,r1,q1⟩
 obtain ⟨c,rfl,q1⟩:=q1
 cases r1
 exact not_of (wpAny_truthy_bool ⟨.bl (!c),H1,I1,rfl,q1⟩)
def tIf (t:TT) (ta tb:TE):TE:=fun σ H Q=>t σ H fun c H1=>if c=true then ta σ H1 Q else tb σ H1 Q
theorem af8 {c:Expr}(hc:PT X c tA) (ha:PE X a ta) (hb:PE X b tb):PE X (.IfExp c a b pos) (tIf tA ta tb):=by
 intro pins s σ H Q I h
 refine wpAny_IfExp (thn (hc pins s σ H _ I h) ?_)
 rintro d s1 ⟨H1,I1,q1⟩
 cases d with
 | true=>exact ha pins s1 σ H1 Q I1 q1
 | false=>exact hb pins s1 σ H1 Q I1 q1
end
def SqL (K:PySem.W.Frag) (H:Hp) (a:Addr) (xs:List V):Prop :=
 Rd H a (.lst xs) ∨
  ∃ (o:Obj) (its:Array Value) (n:Nat),K.lookup a=some o∧o.cls=.type "list"∧o.dict=none∧o.data=.seq its n∧its.size≤sizeLine∧Vals xs its.toList
def SqT (K:PySem.W.Frag) (H:Hp) (a:Addr) (xs:List V):Prop :=
 Rd H a (.tup xs) ∨
  ∃ (o:Obj) (its:Array Value) (n:Nat),K.lookup a=some o∧o.cls=.type "tuple"∧o.data=.seq its n∧its.size≤sizeLine∧Vals xs its.toList
def absV:Value→Option V
 | .none=>some .non
 | .bool b=>some (.bl b)
 | .int i _=>some (.int i)
 | .str x _=>some (.str x)
 | .bytes b _=>some (.byt b)
 | .float b _=>some (.flt b)
 | .ref a=>some (.ref a)
 | .type n=>some (.ty n)
 | _=>none
theorem RelV.abs {x:V}{u:Value}(r:RelV x u):absV u=some x:=by
 cases x with
 | non=>cases r; rfl
 | bl _=>cases r; rfl
 | int _=>obtain ⟨t,rfl⟩:=r; rfl
 | str _=>obtain ⟨t,rfl⟩:=r; rfl
 | byt _=>obtain ⟨t,rfl⟩:=r; rfl
 | flt _=>obtain ⟨t,rfl⟩:=r; rfl
 | ref _=>cases r; rfl
 | ty _=>cases r; rfl
theorem RelV.inj {x y:V}{u:Value}(r:RelV x u) (q:RelV y u):x=y:=Option.some.inj (r.abs.symm.trans q.abs)
theorem Vals.inj:∀ {xs ys:List V}{us:List Value},Vals xs us→Vals ys us→xs=ys
 | _,_,_,.nil,.nil=>rfl
 | _,_,_,.cons r t,.cons r' t'=>by rw [r.inj r',Vals.inj t t']
section
variable {X:Cx}{pins:List (Addr×Obj)}{σ:St} {H:Hp}{s:Shared}{a:Addr}{xs ys:List V}
theorem SqL.of {K:PySem.W.Frag}(h:H a=some (.lst xs)):SqL K H a xs:=.inl (.inl h)
theorem SqT.of {K:PySem.W.Frag}(h:H a=some (.tup xs)):SqT K H a xs:=.inl (.inl h)
theorem Inv.list (I:Inv X pins σ H s) (h:SqL X.K H a xs):∃ its:List Value,Vals xs its∧PlainL s.heap a its.toArray∧xs.length≤sizeLine:=by
 rcases h with h | ⟨o,its,n,hk,hc,hd,hs,hz,r⟩
 · obtain ⟨z,its,n,r,e⟩:=h.ok I.hok
   exact ⟨its,r,⟨_,n,e,rfl,rfl,rfl⟩,z⟩
 · refine ⟨its.toList,r,⟨o,n,I.kIn a o hk,hc,hd,by simpa using hs⟩,?_⟩
   have e:=r.length
   simp only [Array.length_toList] at e
   omega
theorem Inv.tuple (I:Inv X pins σ H s) (h:SqT X.K H a xs):∃ its:List Value,Vals xs its∧IsTup s.heap a its.toArray∧xs.length≤sizeLine:=by
 rcases h with h | ⟨o,its,n,hk,hc,hs,hz,r⟩
 · obtain ⟨z,its,r,p⟩:=h.ok I.hok
   exact ⟨its,r,p,z⟩
 · refine ⟨its.toList,r,⟨o,I.kIn a o hk,hc,n,by simpa using hs⟩,?_⟩
   have e:=r.length
   simp only [Array.length_toList] at e
   omega
theorem Inv.list_inj (I:Inv X pins σ H s) (h:SqL X.K H a xs) (h':SqL X.K H a ys):xs=ys:=by
 obtain ⟨its,r,⟨o,n,e,_,_,d⟩,_⟩:=I.list h
 obtain ⟨its',r',⟨o',n',e',_,_,d'⟩,_⟩:=I.list h'
 rw [e] at e'; cases e'
 rw [d] at d'
 injection d' with d1 _
 have:its=its':=by simpa using congrArg Array.toList d1
 subst this
 exact r.inj r'
theorem Inv.tuple_inj (I:Inv X pins σ H s) (h:SqT X.K H a xs) (h':SqT X.K H a ys):xs=ys:=by
 obtain ⟨its,r,⟨o,e,_,n,d⟩,_⟩:=I.tuple h
 obtain ⟨its',r',⟨o',e',_,n',d'⟩,_⟩:=I.tuple h'
 rw [e] at e'; cases e'
 rw [d] at d'
 injection d' with d1 _
 have:its=its':=by simpa using congrArg Array.toList d1
 subst this
 exact r.inj r'
end
abbrev Cx.wish (X:Cx) (E:Value→Shared→Prop):Cx:={ X with xe:=E }
abbrev Cx.nox (X:Cx):Cx:=X.wish fun _ _=>False
theorem Cx.Ok.wish {X:Cx}(ok:X.Ok) (E:Value→Shared→Prop):(X.wish E).Ok :=
 ⟨ok.mod,ok.kind,ok.glob,ok.blt,ok.above,ok.inj,ok.has,ok.cab,ok.hd,ok.frames,ok.stk,ok.exf,ok.bs,ok.bsz,ok.noex,ok.exfs,ok.funs,ok.frf⟩
theorem Cx.Ok.unwish {X:Cx}{E:Value→Shared→Prop}(ok:(X.wish E).Ok):X.Ok :=
 ⟨ok.mod,ok.kind,ok.glob,ok.blt,ok.above,ok.inj,ok.has,ok.cab,ok.hd,ok.frames,ok.stk,ok.exf,ok.bs,ok.bsz,ok.noex,ok.exfs,ok.funs,ok.frf⟩
section
variable {X:Cx}{pins:List (Addr×Obj)}{σ:St} {H:Hp}{s:Shared}{E:Value→Shared→Prop}
theorem Inv.wish (I:Inv X pins σ H s) (E:Value→Shared→Prop):Inv (X.wish E) pins σ H s:=⟨I.ok.wish E,I.os,I.bare,I.base,I.loc,I.cell,I.free,I.freeC,I.pin,I.hok,I.len⟩
theorem Inv.unwish (I:Inv (X.wish E) pins σ H s):Inv X pins σ H s:=⟨I.ok.unwish,I.os,I.bare,I.base,I.loc,I.cell,I.free,I.freeC,I.pin,I.hok,I.len⟩
theorem SP.unwish {D:Ends}{f:Flow}{s':Shared}(h:SP (X.wish E) pins D f s'):SP X pins D f s':=by
 cases f with
 | next=>obtain ⟨σ',H',I,q⟩:=h; exact ⟨σ',H',I.unwish,q⟩
 | brk=>obtain ⟨σ',H',I,q⟩:=h; exact ⟨σ',H',I.unwish,q⟩
 | cont=>obtain ⟨σ',H',I,q⟩:=h; exact ⟨σ',H',I.unwish,q⟩
 | ret u=>obtain ⟨v,σ',H',I,r,q⟩:=h; exact ⟨v,σ',H',I.unwish,r,q⟩
theorem PSs.nox {st:List Stmt}{t:TS}(h:PSs X.nox st t):PSs X st t:=fun pins s σ H D I hw =>
 wpAny_mono (h pins s σ H D (I.wish _) hw) (fun _ _ q=>q.unwish) fun _ _ z=>False.elim z
end
section
variable {X:Cx}{st:Stmt}{rest:List Stmt}{t u:TS}{e:Expr}{te:TE}{pos:Pos}
def bx2:TS:=fun D σ H=>D.nx σ H
def tSeq (t u:TS):TS:=fun D σ H=>t { D with nx:=u D } σ H
theorem a21:PSs X [] bx2:=fun _ _ σ H _ I h=>wpAny_execs_nil ⟨σ,H,I,h⟩
theorem a02 (h1:PS X st t) (h2:PSs X rest u):PSs X (st::rest) (tSeq t u):=by
 intro pins s σ H D I h
 refine wpAny_execs_cons (thn (h1 pins s σ H { D with nx:=u D } I h) fun f s1 q=>?_)
 cases f with
 | next =>
   obtain ⟨σ',H',I',q⟩:=q
   exact h2 pins s1 σ' H' D I' q
 | ret v=>exact q
 | brk=>exact q
 | cont=>exact q
theorem a05 (h1:PS X st t):PSs X [st] t:=by
 intro pins s σ H D I h
 refine wpAny_execs_cons (thn (h1 pins s σ H D I h) fun f s1 q=>?_)
 cases f with
 | next=>exact wpAny_execs_nil q
 | ret v=>exact q
 | brk=>exact q
 | cont=>exact q
def bx3:TS:=fun D σ H=>D.ct σ H
theorem at2:PS X (.Continue pos) bx3:=fun _ _ σ H _ I h=>wpAny_Continue ⟨σ,H,I,h⟩
theorem Inv.quiet {pins:List (Addr×Obj)}{σ:St} {H:Hp}{s:Shared}(I:Inv X pins σ H s):interactive X.env=false:=by simp [interactive,I.ok.kind]
def bx4 (te:TE):TS:=fun D σ H=>te σ H fun _ H1=>D.nx σ H1
theorem a65 (he:PE X e te) (hs:swapsWith e none pos.line X.env=pure false:=by rfl):PS X (.Expr e pos) (bx4 te):=by
 intro pins s σ H D I h
 exact wpAny_Expr_any (thn (he pins s σ H _ I h) (by rintro v s1 ⟨x,H1,I1,r1,q1⟩; exact ⟨σ,H1,I1,q1⟩)) I.quiet hs
def tRet (te:TE):TS:=fun D σ H=>te σ H D.rt
theorem a19 (he:PE X e te):PS X (.Return (some e) pos) (tRet te):=by
 intro pins s σ H D I h
 exact wpAny_Return_some (thn (he pins s σ H _ I h) (by rintro v s1 ⟨x,H1,I1,r1,q1⟩; exact ⟨x,σ,H1,I1,r1,q1⟩))
def tIfS (c:TT) (t u:TS):TS:=fun D σ H=>c σ H fun b H1=>if b=true then t D σ H1 else u D σ H1
theorem a35 {c:Expr}{a b:List Stmt}{tc:TT}(hc:PT X c tc) (ha:PSs X a t) (hb:PSs X b u):PS X (.If c a b pos) (tIfS tc t u):=by
 intro pins s σ H D I h
 refine wpAny_If (thn (hc pins s σ H _ I h) ?_)
 rintro d s1 ⟨H1,I1,q1⟩
 cases d with
 | true=>exact ha pins s1 σ H1 D I1 q1
 | false=>exact hb pins s1 σ H1 D I1 q1
end
abbrev TG:=V→St→Hp→(St→Hp→Prop)→Prop
abbrev TGs:=List V→St→Hp→(St→Hp→Prop)→Prop
def PG (X:Cx) (target:Expr) (t:TG):Prop :=
 ∀ (pins:List (Addr×Obj)) (s:Shared) (σ:St) (H:Hp) (v:V) (u:Value) (Q:St→Hp→Prop),Inv X pins σ H s→RelV v u→t v σ H Q →
  wpAny (model X.prog X.w) X.A (assign target X.env u) (fun _ s'=>∃ σ' H',Inv X pins σ' H' s'∧Q σ' H') X.xe s
def PGs (X:Cx) (ts:List Expr) (t:TGs):Prop :=
 ∀ (pins:List (Addr×Obj)) (s:Shared) (σ:St) (H:Hp) (vs:List V) (us:List Value) (Q:St→Hp→Prop),Inv X pins σ H s→Vals vs us→t vs σ H Q →
  wpAny (model X.prog X.w) X.A (assignInOrder ((assignEach ts X.env).map (·.2)) us) (fun _ s'=>∃ σ' H',Inv X pins σ' H' s'∧Q σ' H') X.xe s
abbrev TSet:=V→V→V→Hp→(Hp→Prop)→Prop
def PSet (X:Cx) (t:TSet):Prop :=
 ∀ (pins:List (Addr×Obj)) (s:Shared) (σ:St) (H:Hp) (o i v:V) (ov iv u:Value) (Q:Hp→Prop),Inv X pins σ H s→RelV o ov→RelV i iv→RelV v u→t o i v H Q →
  wpAny (model X.prog X.w) X.A (setItem ov iv u) (fun _ s'=>∃ H',Inv X pins σ H' s'∧Q H') X.xe s
abbrev TIp:=V→V→Hp→VK→Prop
def PIp (X:Cx) (op:Operator) (t:TIp):Prop :=
 ∀ (pins:List (Addr×Obj)) (s:Shared) (σ:St) (H:Hp) (x y:V) (v u:Value) (Q:VK),Inv X pins σ H s→RelV x v→RelV y u→t x y H Q →
  wpAny (model X.prog X.w) X.A (inplaceOp op v u) (EP X pins σ Q) X.xe s
section
variable {X:Cx}{pos:Pos}
def ad2 (i:Nat):TG:=fun v σ H Q=>Q (σ.set i (some v)) H
theorem a29 {i:Nat}{x:Str}(hN:X.N.Nodup) (hi:X.N[i]?=some x) (hx:Loc X.env.scope x) (hf:X.fn x=true∨X.env.scope.names.lookup x=some .local:=by first | exact .inl rfl | exact .inr rfl | assumption):PG X (.Name x pos) (ad2 i):=by
 intro pins s σ H v u Q I r h
 exact wpAny_assign_Name (ad1 I hN hi hx r (fun s' I'=>⟨_,H,I',h⟩) hf)
def gNil:TGs:=fun vs σ H Q=>vs=[]∧Q σ H
def ap0 (t:TG) (u:TGs):TGs:=fun vs σ H Q=>∃ v r,vs=v::r∧t v σ H fun σ' H'=>u r σ' H' Q
theorem a81:PGs X [] gNil:=by
 intro pins s σ H vs us Q I r h
 obtain ⟨e,h⟩:=h
 subst e
 cases r
 exact assignInOrder_nil ⟨σ,H,I,h⟩
theorem a34 {e:Expr}{es:List Expr}{t:TG}{u:TGs}(h1:PG X e t) (h2:PGs X es u)
 (hs:(assignEach (e::es) X.env).map (·.2)=assign e X.env::(assignEach es X.env).map (·.2):=by rfl):PGs X (e::es) (ap0 t u):=by
 intro pins s σ H vs us Q I r h
 obtain ⟨v,vr,e1,h⟩:=h
 subst e1
 cases r with
 | cons r rr =>
   rw [hs]
   refine assignInOrder_cons (thn (h1 pins s σ H _ _ _ I r h) ?_)
   rintro _ s1 ⟨σ1,H1,I1,q1⟩
   exact h2 pins s1 σ1 H1 _ _ Q I1 rr q1
def gTup (K:PySem.W.Frag) (n:Nat) (t:TGs):TG:=fun v σ H Q=>∃ a xs,v=.ref a∧SqT K H a xs∧xs.length=n∧t xs σ H Q
theorem bx5 {es:List Expr}{k:Nat}{t:TGs}{n:Nat}(hc:X.calm=true) (h:PGs X es t)
 (hn:(assignEach es X.env).length=n:=by rfl) (hst:(assignEach es X.env).findIdx? (·.1)=none:=by rfl):PG X (.Tuple es k pos) (gTup X.K n t):=by
 intro pins s σ H v u Q I r hw
 obtain ⟨a,xs,e1,hq,hl,hw⟩:=hw
 subst e1
 cases r
 obtain ⟨its,rv,ht,hz⟩:=I.tuple hq
 refine assign_Tuple_tuple (I.ok.hd hc) ht (by simp [hn,←hl,rv.length]) hst fun h' hx=>?_
 have I1:Inv X pins σ H { s with heap:=h' }:=I.kept (t':=s.toks) fun b o e=>hx b o (Nat.ne_of_lt (Heap.lt_size e)) e
 exact h pins _ σ H xs _ Q I1 (by simpa using rv) hw
def gSub (to ti:TE) (t:TSet):TG:=fun v σ H Q=>to σ H fun o H1=>ti σ H1 fun i H2=>t o i v H2 fun H3=>Q σ H3
theorem b21 {o i:Expr}{to ti:TE}{t:TSet}(ho:PE X o to) (hi:PE X i ti) (hs:PSet X t)
 (ha:∀ v,assign (.Subscript o i pos) X.env v=(do
  let ov←holding [v] (eval o X.env)
  let iv←holding [v,ov] (eval i X.env)
  standAt pos
  holding [v,ov,iv] (setItem ov iv v)
  release [v,ov,iv] []):=by intro _; rfl):PG X (.Subscript o i pos) (gSub to ti t):=by
 intro pins s σ H v u Q I r h
 rw [ha]
 refine wpAny_bind (wpAny_holding (thn (ho pins s σ H _ I h) ?_))
 rintro ov s1 ⟨x,H1,I1,r1,q1⟩
 refine wpAny_bind (wpAny_holding (thn (hi pins s1 σ H1 _ I1 q1) ?_))
 rintro iv s2 ⟨y,H2,I2,r2,q2⟩
 refine wpAny_bind (wpAny_standAt (wpAny_bind (wpAny_holding (thn (hs pins s2 σ H2 x y v ov iv u _ I2 r1 r2 r q2) ?_))))
 rintro _ s3 ⟨H3,I3,q3⟩
 exact wpAny_release ⟨σ,H3,I3,q3⟩
def tAsg (te:TE) (g:TG):TS:=fun D σ H=>te σ H fun x H1=>g x σ H1 D.nx
theorem b22 {tg e:Expr}{te:TE}{g:TG}(he:PE X e te) (hg:PG X tg g) (hs:swapsWithSole [tg] e pos.line X.env=pure false:=by rfl) (hw:swappedStores [tg] e X.env=pure none:=by rfl)
 (h1:(assignEach [tg] X.env).map (·.2)=[assign tg X.env]:=by rfl):PS X (.Assign [tg] e pos) (tAsg te g):=by
 intro pins s σ H D I h
 refine wpAny_Assign_stores (thn (he pins s σ H _ I h) ?_) hs hw
 rintro v s1 ⟨x,H1,I1,r1,q1⟩
 rw [h1]
 exact thn (hg pins s1 σ H1 x v _ I1 r1 q1) fun _ s2 q=>q
theorem a14 {i:Nat}{x:Str}{e:Expr}{te:TE}{pos':Pos}(hN:X.N.Nodup) (hi:X.N[i]?=some x) (hx:Loc X.env.scope x) (he:PE X e te) (hs:swapsWith e (some (.Name x pos')) pos.line X.env=pure false:=by rfl) (hf:X.fn x=true∨X.env.scope.names.lookup x=some .local:=by first | exact .inl rfl | exact .inr rfl | assumption) :
 PS X (.Assign [.Name x pos'] e pos) (tAsg te (ad2 i)):=by
 intro pins s σ H D I h
 refine wpAny_Assign_Name (thn (he pins s σ H _ I h) ?_) hs
 rintro v s1 ⟨y,H1,I1,r1,q1⟩
 exact ad1 I1 hN hi hx r1 (fun s2 I2=>⟨_,H1,I2,q1⟩) hf
def tAug (i:Nat) (te:TE) (ti:TIp):TS:=fun D σ H=>∃ x,σ[i]?=some (some x)∧te σ H fun y H1=>ti x y H1 fun z H2=>D.nx (σ.set i (some z)) H2
theorem bi8 {i:Nat}{x:Str}{e:Expr}{te:TE}{op:Operator}{ti:TIp}{pos':Pos}(hN:X.N.Nodup) (hi:X.N[i]?=some x) (hx:Loc X.env.scope x) (he:PE X e te) (ho:PIp X op ti) (hf:X.fn x=true∨X.env.scope.names.lookup x=some .local:=by first | exact .inl rfl | exact .inr rfl | assumption) :
 PS X (.AugAssign (.Name x pos') op e pos) (tAug i te ti):=by
 intro pins s σ H D I h
 obtain ⟨v,e1,h⟩:=h
 obtain ⟨m,hn,hl⟩:=I.loc
 have vis:Vis X.env.scope x:=by rcases hx with k | k; exact .inl k; exact .inr (.inl k)
 obtain ⟨u,r,l⟩:=hl i x v hi e1 vis
 refine wpAny_AugAssign_Name ?_
 have go:wpAny (model X.prog X.w) X.A (eval e X.env) (fun w s₂=>wpAny (model X.prog X.w) X.A (inplaceOp op u w) (fun r s₃=>wpAny (model X.prog X.w) X.A (storeName X.env x r) (fun _=>SP X pins D .next) X.xe s₃) X.xe s₂) X.xe s:=by
  refine thn (he pins s σ H _ I h) ?_
  rintro w s1 ⟨y,H1,I1,r1,q1⟩
  refine thn (ho pins s1 σ H1 v y u w _ I1 r r1 q1) ?_
  rintro z s2 ⟨zv,H2,I2,r2,q2⟩
  exact ad1 I2 hN hi hx r2 (fun s3 I3=>⟨_,H2,I3,q2⟩) hf
 rcases l with ⟨hk,hm⟩ | ⟨hk,c,hc,hcell⟩
 · exact wpAny_loadName_local I.ok.kind hk hn hm go
 · rcases hk with hk | hk
   · exact wpAny_loadName_cell I.ok.kind hk hc hcell go
   · rcases hx with k | k
     · have:X.env.scope.names.lookup x=some .free:=hk
       rw [k] at this; cases this
     · have:X.env.scope.names.lookup x=some .free:=hk
       rw [k] at this; cases this
def ipI (f:Int→Int→Int):TIp:=fun x y H Q=>∃ i j,x=.int i∧y=.int j∧Q (.int (f i j)) H
theorem bi9:PIp X .Add (ipI fun i j=>i+j):=by
 intro pins s σ H x y v u Q I r1 r2 h
 obtain ⟨i,j,e1,e2,q⟩:=h
 subst e1; subst e2
 obtain ⟨t,rfl⟩:=r1
 obtain ⟨t',rfl⟩:=r2
 exact iadd_int ⟨.int _,H,I.tok _,⟨_,rfl⟩,q⟩
end
section
variable {X:Cx}{pos:Pos}
def bj0 (c:TT) (tb:TS):TS:=fun D σ H=>∃ W:Nat→St→Hp→Prop,(∃ m,W m σ H)∧∀ m σ H,W m σ H →
 c σ H fun b H1=>if b=true then ∃ N:St→Hp→Prop,(∀ σ' H',N σ' H'→∃ m',m'<m∧W m' σ' H')∧tb { D with nx:=N,ct:=N,bk:=D.nx } σ H1 else D.nx σ H1
theorem ad3 {c:Expr}{body:List Stmt}{tc:TT}{tb:TS}(hp:PassesOwn (model X.prog X.w) X.A X.env X.xe) (hc:PT X c tc) (hb:PSs X body tb):PS X (.While c body [] pos) (bj0 tc tb):=by
 intro pins s σ H D I h
 obtain ⟨W,⟨m0,w0⟩,turn⟩:=h
 refine wpAny_While (codeAny_whileLoop (fun n s'=>∃ σ' H',Inv X pins σ' H' s'∧W n σ' H') ?_ m0 ⟨σ,H,I,w0⟩)
 rintro n s1 ⟨σ1,H1,I1,w1⟩
 refine wpAny_passesOwn hp (thn (hc pins s1 σ1 H1 _ I1 (turn n σ1 H1 w1)) ?_)
 rintro b s2 ⟨H2,I2,q2⟩
 cases b with
 | true =>
   obtain ⟨N,hN,q2⟩:=q2
   rw [if_pos rfl]
   refine wpAny_passesOwn hp (thn (hb pins s2 σ1 H2 _ I2 q2) fun f s3 q3=>?_)
   cases f with
   | next =>
     obtain ⟨σ3,H3,I3,n3⟩:=q3
     obtain ⟨m',hm,w3⟩:=hN σ3 H3 n3
     exact ⟨m',hm,σ3,H3,I3,w3⟩
   | cont =>
     obtain ⟨σ3,H3,I3,n3⟩:=q3
     obtain ⟨m',hm,w3⟩:=hN σ3 H3 n3
     exact ⟨m',hm,σ3,H3,I3,w3⟩
   | brk=>exact q3
   | ret v=>exact q3
 | false =>
   rw [if_neg Bool.false_ne_true]
   exact wpAny_execs_nil ⟨σ1,H2,I2,q2⟩
end
structure It where
 go:Nat→Hp→Prop
 yld:Nat→Hp→V→Hp→Prop
 stop:Nat→Hp→Prop
def FpOk (X:Cx) (pins:List (Addr×Obj)) (H:Hp) (b:Addr):Prop :=
 H b=none∧b≠X.env.locals∧b∉X.fs∧(b∈X.ex∨X.s₀.heap.objs.size≤b)∧(∀ x c,X.env.cells.lookup x=some c→c≠b)∧∀ p∈X.pn++pins,p.1≠b
theorem Inv.fpOk {X:Cx}{pins:List (Addr×Obj)}{σ:St} {H H':Hp}{s:Shared}{b:Addr}(I:Inv X pins σ H s) (hb:s.heap.objs.size≤b) (hn:H' b=none):FpOk X pins H' b:=by
 refine ⟨hn,Nat.ne_of_gt (Nat.lt_of_lt_of_le I.lt hb),I.nofs hb,.inr (Nat.le_trans I.sz hb),fun x c e z=>?_,fun p hp z=>?_⟩
 · obtain ⟨v,q⟩:=I.cell x c e
   exact absurd (Nat.lt_of_lt_of_le q.lt (by rw [z]; exact hb)) (Nat.lt_irrefl _)
 · exact absurd (Nat.lt_of_lt_of_le (Heap.lt_size (I.pin p hp).1) (by rw [z]; exact hb)) (Nat.lt_irrefl _)
structure Turn (P:Program) (w:World) (K:PySem.W.Frag) (tg:Expr) (J:It) (fp:List Addr) (it:Addr) (tn:Nat→Heap→Prop):Prop where
 mem:it∈fp
 obj:∀ i h,tn i h→∀ b∈fp,∃ o,h.get? b=some o∧∀ v,o.data≠.cell v
 keep:∀ i h h',tn i h→(∀ b∈fp,∀ o,h.get? b=some o→h'.get? b=some o)→tn i h'
 item:∀ (X:Cx),X.prog=P→X.w=w→X.K=K→X.calm=true→∀ (i:Nat) (pins:List (Addr×Obj)) (s:Shared) (σ:St) (H:Hp) (E:Value→Shared→Prop),Inv X pins σ H s→(∀ b∈fp,FpOk X pins H b)→tn i s.heap→J.go i H →
  wpAny (model P w) X.A (pyNext (.ref it)) (fun r s1=>∃ u,r=some u ∧
   wpAny (model P w) X.A (letOwnedTupleGo tg (.ref it) u) (fun _ s2=>∃ x H',Inv X pins σ H' s2∧RelV x u∧J.yld i H x H'∧tn (i+1) s2.heap∧∀ b∈fp,H' b=none) E s1) E s
 done:∀ (X:Cx),X.prog=P→X.w=w→X.K=K→X.calm=true→∀ (i:Nat) (pins:List (Addr×Obj)) (s:Shared) (σ:St) (H:Hp) (E:Value→Shared→Prop),Inv X pins σ H s→(∀ b∈fp,FpOk X pins H b)→tn i s.heap→J.stop i H →
  wpAny (model P w) X.A (pyNext (.ref it)) (fun r s1=>r=none∧Inv X pins σ H s1) E s
 self:∀ (A:Around) (i:Nat) (s:Shared) (Q:Value→Shared→Prop) (E:Value→Shared→Prop),tn i s.heap→Q (.ref it) s→wpAny (model P w) A (pyIter (.ref it)) Q E s
abbrev TI:=St→Hp→(It→Hp→Prop)→Prop
def PIE (X:Cx) (pins:List (Addr×Obj)) (σ:St) (tg:Expr) (R:It→Hp→Prop) (itv:Value) (s2:Shared):Prop :=
 ∃ (it:Addr) (fp:List Addr) (tn:Nat→Heap→Prop) (J:It) (H':Hp),itv=.ref it∧Inv X pins σ H' s2∧Turn X.prog X.w X.K tg J fp it tn∧tn 0 s2.heap∧(∀ b∈fp,FpOk X pins H' b)∧R J H'
def PI (X:Cx) (tg iter:Expr) (wi:TI):Prop :=
 ∀ (pins:List (Addr×Obj)) (s:Shared) (σ:St) (H:Hp) (R:It→Hp→Prop),Inv X pins σ H s→wi σ H R →
  wpAny (model X.prog X.w) X.A (eval iter X.env) (fun v s1=>wpAny (model X.prog X.w) X.A (pyIter v) (PIE X pins σ tg R) X.xe s1) X.xe s
theorem bn1 {M:Model}{A:Around}{E:Value→Shared→Prop}{s:Shared}{tg:Expr}{it:Addr}{u:Value}{o:Obj}{n:String}{vs:Array Value}{Q:Unit→Shared→Prop}(ho:s.heap.get? it=some o) (hc:o.cls=.type n) (hd:o.data=.fields vs)
 (hn:["enumerate","zip","dict_itemiterator","dict_reverseitemiterator","odict_iterator","itertools.zip_longest","itertools.pairwise"].contains n=false) (hQ:Q () s):wpAny M A (letOwnedTupleGo tg (.ref it) u) Q E s:=by
 unfold letOwnedTupleGo
 cases tg <;> first
  | exact wpAny_pure hQ
  | (cases u <;> first
   | exact wpAny_pure hQ
   | (refine wpAny_bind (wpAny_load ho ?_)
      rw [hc,hd]
      show wpAny M A (if (["enumerate","zip","dict_itemiterator","dict_reverseitemiterator","odict_iterator","itertools.zip_longest","itertools.pairwise"].contains n && vs[0]? == some (rawInt _))=true then _ else _) Q E s
      rw [if_neg (by intro h; rw [hn,Bool.false_and] at h; cases h)]
      exact wpAny_pure hQ))
def Itl (K:PySem.W.Frag) (a:Addr):It :=
 ⟨fun i H=>∃ xs x,SqL K H a xs∧xs[i]?=some x,fun i H x H'=>H'=H∧∀ xs,SqL K H a xs→xs[i]?=some x,fun i H=>∃ xs,SqL K H a xs∧xs.length≤i⟩
def Itt (K:PySem.W.Frag) (a:Addr):It :=
 ⟨fun i H=>∃ xs x,SqT K H a xs∧xs[i]?=some x,fun i H x H'=>H'=H∧∀ xs,SqT K H a xs→xs[i]?=some x,fun i H=>∃ xs,SqT K H a xs∧xs.length≤i⟩
def Itr (lo:Int) (n:Nat):It:=⟨fun i _=>i<n,fun i H x H'=>H'=H∧x=.int (lo+i),fun i _=>n≤i⟩
theorem b23 {P:Program}{w:World}{K:PySem.W.Frag}{tg:Expr}(a it:Addr):Turn P w K tg (Itl K a) [it] it (fun i h=>h.IsListIter it a i) where
 mem:=by simp
 obj:=fun i h st b hb=>by
  have e:b=it:=by simpa using hb
  subst e
  obtain ⟨o,e,c,d⟩:=st
  exact ⟨o,e,fun v z=>by rw [d] at z; cases z⟩
 keep:=fun i h h' st k=>st.at fun o e=>k it (by simp) o e
 item:=by
  intro X hP hw hK hc i pins s σ H E I hf st hg
  subst hP hw hK
  obtain ⟨xs,x,hq,hx⟩:=hg
  obtain ⟨its,rv,p,hz⟩:=I.list hq
  obtain ⟨u,hu,ru⟩:=rv.get hx
  obtain ⟨f0,f1,f2,f3,f4,f5⟩:=hf it (by simp)
  refine wpAny_pyNext_list_item st p.isList (x:=u) (by simpa using hu) fun h' st' sb=>?_
  have I1:Inv X pins σ H { s with heap:=h' }:=I.turned (t':=s.toks) (fun b o hb e=>(sb.2 b hb).trans e) f0 f1 f3 f4 f5
  obtain ⟨o,e,c,d⟩:=id st'
  exact ⟨u,rfl,bn1 (s:={ s with heap:=h' }) e c d (by decide) ⟨x,H,I1,ru,⟨rfl,fun ys hy=>by rw [I.list_inj hy hq]; exact hx⟩,st',fun b hb=>(hf b hb).1⟩⟩
 done:=by
  intro X hP hw hK hc i pins s σ H E I hf st hg
  subst hP hw hK
  obtain ⟨xs,hq,hx⟩:=hg
  obtain ⟨its,rv,p,hz⟩:=I.list hq
  obtain ⟨f0,f1,f2,f3,f4,f5⟩:=hf it (by simp)
  have hl:=rv.length
  exact wpAny_pyNext_list_end (I.ok.hd hc) st p.isList (by simp; omega) fun h' eb=>⟨rfl,I.turned (t':=s.toks) (fun b o hb e=>eb b o hb e) f0 f1 f3 f4 f5⟩
 self:=fun _ _ _ _ _ st h=>wpAny_pyIter_listiter st h
theorem az5 {P:Program}{w:World}{K:PySem.W.Frag}{tg:Expr}(a it:Addr):Turn P w K tg (Itt K a) [it] it (fun i h=>h.IsTupleIter it a i) where
 mem:=by simp
 obj:=fun i h st b hb=>by
  have e:b=it:=by simpa using hb
  subst e
  obtain ⟨o,e,c,d⟩:=st
  exact ⟨o,e,fun v z=>by rw [d] at z; cases z⟩
 keep:=fun i h h' st k=>st.at fun o e=>k it (by simp) o e
 item:=by
  intro X hP hw hK hc i pins s σ H E I hf st hg
  subst hP hw hK
  obtain ⟨xs,x,hq,hx⟩:=hg
  obtain ⟨its,rv,p,hz⟩:=I.tuple hq
  obtain ⟨u,hu,ru⟩:=rv.get hx
  obtain ⟨f0,f1,f2,f3,f4,f5⟩:=hf it (by simp)
  refine wpAny_pyNext_tuple_item st (show s.heap.IsTuple a its.toArray from p) (x:=u) (by simpa using hu) fun h' st' sb=>?_
  have I1:Inv X pins σ H { s with heap:=h' }:=I.turned (t':=s.toks) (fun b o hb e=>(sb.2 b hb).trans e) f0 f1 f3 f4 f5
  obtain ⟨o,e,c,d⟩:=id st'
  exact ⟨u,rfl,bn1 (s:={ s with heap:=h' }) e c d (by decide) ⟨x,H,I1,ru,⟨rfl,fun ys hy=>by rw [I.tuple_inj hy hq]; exact hx⟩,st',fun b hb=>(hf b hb).1⟩⟩
 done:=by
  intro X hP hw hK hc i pins s σ H E I hf st hg
  subst hP hw hK
  obtain ⟨xs,hq,hx⟩:=hg
  obtain ⟨its,rv,p,hz⟩:=I.tuple hq
  obtain ⟨f0,f1,f2,f3,f4,f5⟩:=hf it (by simp)
  have hl:=rv.length
  exact wpAny_pyNext_tuple_end (I.ok.hd hc) st (show s.heap.IsTuple a its.toArray from p) (by simp; omega) fun h' eb=>⟨rfl,I.turned (t':=s.toks) (fun b o hb e=>eb b o hb e) f0 f1 f3 f4 f5⟩
 self:=fun _ _ _ _ _ st h=>wpAny_pyIter_tupleiter st h
theorem az6 {P:Program}{w:World}{K:PySem.W.Frag}{tg:Expr}(it:Addr) (lo:Int) (n:Nat):Turn P w K tg (Itr lo n) [it] it (fun i h=>IsRangeIter h it (lo+(i:Nat)*1) ((n:Int) - (i:Nat)) 1) where
 mem:=by simp
 obj:=fun i h st b hb=>by
  have e:b=it:=by simpa using hb
  subst e
  exact ⟨_,st,fun v z=>by
   have z':Data.fields _=Data.cell v:=z
   cases z'⟩
 keep:=fun i h h' st k=>k it (by simp) _ st
 item:=by
  intro X hP hw hK hc i pins s σ H E I hf st hg
  subst hP hw hK
  obtain ⟨f0,f1,f2,f3,f4,f5⟩:=hf it (by simp)
  have W:=Walks.range (prog:=X.prog) (w:=X.w) (I.ok.hd hc) it lo 1 n
  refine W.item i s _ _ hg st fun v h' tk hv st' kk=>?_
  obtain ⟨t,rfl⟩:=hv
  have I1:Inv X pins σ H { s with heap:=h',toks:=tk }:=I.turned (fun b o hb e=>kk b o (by simpa using hb) e) f0 f1 f3 f4 f5
  refine ⟨_,rfl,bn1 (s:={ s with heap:=h',toks:=tk }) (n:="range_iterator") st' rfl rfl (by decide) ⟨.int (lo+i),H,I1,⟨t,?_⟩,⟨rfl,rfl⟩,st',fun b hb=>(hf b hb).1⟩⟩
  rw [Int.mul_one]
 done:=by
  intro X hP hw hK hc i pins s σ H E I hf st hg
  subst hP hw hK
  obtain ⟨f0,f1,f2,f3,f4,f5⟩:=hf it (by simp)
  exact wpAny_pyNext_range_end (I.ok.hd hc) st (by have:n≤i:=hg; omega) fun h' eb=>⟨rfl,I.turned (t':=s.toks) (fun b o hb e=>eb b o hb e) f0 f1 f3 f4 f5⟩
 self:=fun _ _ _ _ _ st h=>wpAny_pyIter_rangeiter st h
section
variable {X:Cx}{tg:Expr}
def bn2 (K:PySem.W.Frag) (tl:TE):TI:=fun σ H R=>tl σ H fun x H1=>∃ a,x=.ref a∧(∃ xs,SqL K H1 a xs)∧R (Itl K a) H1
def iTup (K:PySem.W.Frag) (tl:TE):TI:=fun σ H R=>tl σ H fun x H1=>∃ a,x=.ref a∧(∃ xs,SqT K H1 a xs)∧R (Itt K a) H1
theorem bn3 {l:Expr}{tl:TE}(hl:PE X l tl):PI X tg l (bn2 X.K tl):=by
 intro pins s σ H R I h
 refine thn (hl pins s σ H _ I h) ?_
 rintro v s1 ⟨x,H1,I1,r1,q1⟩
 obtain ⟨a,e,⟨xs,hq⟩,q⟩:=q1
 subst e
 cases r1
 obtain ⟨its,rv,p,hz⟩:=I1.list hq
 refine wpAny_pyIter_list p.isList ?_
 refine ⟨s1.heap.objs.size,[s1.heap.objs.size],_,_,H1,rfl,I1.kept (t':=s1.toks) fun b o e=>Heap.get?_push_of_some _ e,b23 a _,⟨_,Heap.get?_push_size _ rfl,rfl,rfl⟩,fun b hb=>?_,q⟩
 have e:b=s1.heap.objs.size:=by simpa using hb
 subst e
 exact I1.fpOk (Nat.le_refl _) (I1.hok.fresh (Nat.le_refl _))
theorem bx6 {l:Expr}{tl:TE}(hl:PE X l tl):PI X tg l (iTup X.K tl):=by
 intro pins s σ H R I h
 refine thn (hl pins s σ H _ I h) ?_
 rintro v s1 ⟨x,H1,I1,r1,q1⟩
 obtain ⟨a,e,⟨xs,hq⟩,q⟩:=q1
 subst e
 cases r1
 obtain ⟨its,rv,p,hz⟩:=I1.tuple hq
 refine wpAny_pyIter_tuple (show s1.heap.IsTuple a its.toArray from p) ?_
 refine ⟨s1.heap.objs.size,[s1.heap.objs.size],_,_,H1,rfl,I1.kept (t':=s1.toks) fun b o e=>Heap.get?_push_of_some _ e,az5 a _,⟨_,Heap.get?_push_size _ rfl,rfl,rfl⟩,fun b hb=>?_,q⟩
 have e:b=s1.heap.objs.size:=by simpa using hb
 subst e
 exact I1.fpOk (Nat.le_refl _) (I1.hok.fresh (Nat.le_refl _))
theorem bb9 {pins:List (Addr×Obj)}{σ:St} {H:Hp}{s:Shared}{R:It→Hp→Prop}{E:Value→Shared→Prop}{lo hi:Int}{t u v:Tok}{tk:Nat}(I:Inv X pins σ H s) (h1:-(2 ^ 62)≤lo) (h2:lo<2 ^ 62) (h3:-(2 ^ 62)≤hi) (h4:hi<2 ^ 62)
 (q:R (Itr lo (hi - lo).toNat) H):wpAny (model X.prog X.w) X.A (pyIter (.ref s.heap.objs.size)) (PIE X pins σ tg R) E { s with heap:=s.heap.push { cls:=.type "range",data:=.fields #[.int lo t,.int hi u,.int 1 v] },toks:=tk }:=by
 refine wpAny_pyIter_range (IsRange.new ..) (small_one h1 h2 h3 h4) ?_
 have I1:Inv X pins σ H { s with heap:=s.heap.push { cls:=.type "range",data:=.fields #[.int lo t,.int hi u,.int 1 v] },toks:=tk }:=I.kept fun b o e=>Heap.get?_push_of_some _ e
 refine ⟨(s.heap.push { cls:=.type "range",data:=.fields #[.int lo t,.int hi u,.int 1 v] }).objs.size,[(s.heap.push { cls:=.type "range",data:=.fields #[.int lo t,.int hi u,.int 1 v] }).objs.size],_,_,H,rfl,
  I1.kept (t':=tk) fun b o e=>Heap.get?_push_of_some _ e,az6 _ lo (hi - lo).toNat,?_,fun b hb=>?_,q⟩
 · have e1:lo+((0:Nat):Int)*1=lo:=by simp
   have e2:(((hi - lo).toNat:Nat):Int) - ((0:Nat):Int)=Builtin.Range.rangeSize lo hi 1:=by rw [rangeSize_one]; split <;> omega
   show IsRangeIter _ _ (lo+((0:Nat):Int)*1) ((((hi - lo).toNat:Nat):Int) - ((0:Nat):Int)) 1
   rw [e1,e2]
   exact Heap.get?_push_size _ rfl
 · have e:b=(s.heap.push { cls:=.type "range",data:=.fields #[.int lo t,.int hi u,.int 1 v] }).objs.size:=by simpa using hb
   subst e
   exact I1.fpOk (Nat.le_refl _) (I1.hok.fresh (Nat.le_refl _))
def bx7 (ta:TA):TI:=fun σ H R=>ta σ H fun vs H1=>∃ j:Int,vs=[.int j]∧-(2 ^ 62)≤j∧j<2 ^ 62∧R (Itr 0 j.toNat) H1
theorem b24 {a:Expr}{ta:TA}{p pos:Pos}(hg:Gl X "range") (hm:X.mg "range"=none) (ha:PA X [a] ta) (hs:starEach [a] X.env=[(false,eval a X.env)]:=by rfl):PI X tg (.Call (.Name "range" p) [a] [] pos) (bx7 ta):=by
 intro pins s σ H R I h
 refine Call_ (ak9 I hg hm boot_range (PyProof.Rows.callWith_type1 (thn (ha pos pins s σ H _ I h) ?_) hs rfl))
 rintro us s1 ⟨vs,H1,I1,r1,q1⟩
 obtain ⟨j,e,q1,q2,q⟩:=q1
 subst e
 cases r1 with
 | cons r rr =>
   cases rr
   obtain ⟨t,rfl⟩:=r
   exact call_range_1 (bb9 I1 (by omega) (by omega) q1 q2 (by simpa using q))
def tFor (wi:TI) (g:TG) (tb:TS):TS:=fun D σ H=>wi σ H fun J H1=>∃ W:Nat→Nat→St→Hp→Prop,(∃ m,W 0 m σ H1)∧∀ i m σ H,W i m σ H →
 (J.stop i H∧D.nx σ H)∨(J.go i H∧∃ N:St→Hp→Prop,(∀ σ' H',N σ' H'→∃ m',m'<m∧W (i+1) m' σ' H')∧∀ x H',J.yld i H x H'→g x σ H' fun σ2 H2=>tb { D with nx:=N,ct:=N,bk:=D.nx } σ2 H2)
def ag4 (fp:List Addr) (h:Heap):List (Addr×Obj):=fp.filterMap fun b=>(h.get? b).map fun o=>(b,o)
theorem ab1 {fp:List Addr}{h:Heap}{b:Addr}{o:Obj}(hb:b∈fp) (e:h.get? b=some o):(b,o)∈ag4 fp h:=List.mem_filterMap.mpr ⟨b,hb,by rw [e]; rfl⟩
theorem b25 {fp:List Addr}{h:Heap}{p:Addr×Obj}(hp:p∈ag4 fp h):p.1∈fp∧h.get? p.1=some p.2:=by
 obtain ⟨b,hb,e⟩:=List.mem_filterMap.mp hp
 cases q:h.get? b with
 | none=>rw [q] at e; cases e
 | some o =>
   rw [q] at e
   have e':(b,o)=p:=Option.some.inj e
   subst e'
   exact ⟨hb,q⟩
theorem Inv.pinned {pins:List (Addr×Obj)}{σ:St} {H:Hp}{s:Shared}{fp:List Addr}(I:Inv X pins σ H s) (hf:∀ b∈fp,FpOk X pins H b) (ho:∀ b∈fp,∃ o,s.heap.get? b=some o∧∀ v,o.data≠.cell v):Inv X (pins++ag4 fp s.heap) σ H s :=
 I.pins_of fun p hp=>(List.mem_append.mp hp).elim (fun z=>I.pin p (List.mem_append_right _ z)) fun z=>by
  obtain ⟨hb,e⟩:=b25 z
  obtain ⟨f0,f1,f2,_⟩:=hf p.1 hb
  obtain ⟨o,e',d⟩:=ho p.1 hb
  rw [e] at e'; cases e'
  exact ⟨e,f0,f1,f2,d⟩
theorem Inv.unpinned {pins pl:List (Addr×Obj)}{σ:St} {H:Hp}{s:Shared}(I:Inv X (pins++pl) σ H s):Inv X pins σ H s:=I.pins_of fun p hp=>I.pin p (List.mem_append_right _ (List.mem_append_left _ hp))
theorem ap1 {iter:Expr}{body:List Stmt}{wi:TI}{g:TG}{tb:TS}{pos:Pos}(hp:PassesOwn (model X.prog X.w) X.A X.env X.xe) (hc:X.calm=true) (hi:PI X tg iter wi) (hg:PG X tg g) (hb:PSs X body tb)
 (hs:∀ x,foldedSetIterable iter X.env x=pure x:=by intro _; rfl):PS X (.For tg iter body [] pos) (tFor wi g tb):=by
 intro pins s σ H D I h
 refine wpAny_For (thn (hi pins s σ H _ I h) fun v s1 h1=>thn h1 fun itv s2 h2=>?_) hs
 obtain ⟨it,fp,tn,J,H2,e,I2,T,st2,f2,W,⟨m0,w0⟩,turn⟩:=h2
 subst e
 have stat:∀ {H':Hp},(∀ b∈fp,H' b=none)→∀ b∈fp,FpOk X pins H' b:=fun hn b hb=>⟨hn b hb,(f2 b hb).2⟩
 refine codeAny_forLoop_any (fun n s'=>∃ i σ' H',Inv X pins σ' H' s'∧tn i s'.heap∧(∀ b∈fp,H' b=none)∧W i n σ' H') ?_ m0 ⟨0,σ,H2,I2,st2,fun b hb=>(f2 b hb).1,w0⟩
 rintro n s3 ⟨i,σ3,H3,I3,st3,fr3,w3⟩
 rcases turn i n σ3 H3 w3 with ⟨stop,qn⟩ | ⟨go,N,hN,step⟩
 · refine wpAny_passesOwn hp (thn (T.done X rfl rfl rfl hc i pins s3 σ3 H3 X.xe I3 (stat fr3) st3 stop) ?_)
   rintro r s4 ⟨hr,I4⟩
   subst hr
   exact wpAny_execs_nil ⟨σ3,H3,I4,qn⟩
 · refine wpAny_passesOwn hp (thn (T.item X rfl rfl rfl hc i pins s3 σ3 H3 X.xe I3 (stat fr3) st3 go) ?_)
   rintro r s4 ⟨u,hr,h4⟩
   subst hr
   refine wpAny_passesOwn hp (thn h4 ?_)
   rintro _ s5 ⟨x,H5,I5,r5,y5,st5,fr5⟩
   have I5':=I5.pinned (stat fr5) (T.obj _ _ st5)
   refine wpAny_passesOwn hp (thn (hg _ s5 σ3 H5 x u _ I5' r5 (step x H5 y5)) ?_)
   rintro _ s6 ⟨σ6,H6,I6,q6⟩
   refine wpAny_passesOwn hp (thn (hb _ s6 σ6 H6 _ I6 q6) fun f s7 q7=>?_)
   have again:∀ {σ7:St} {H7:Hp},Inv X (pins++ag4 fp s5.heap) σ7 H7 s7→N σ7 H7→∃ m,m<n∧∃ i σ' H',Inv X pins σ' H' s7∧tn i s7.heap∧(∀ b∈fp,H' b=none)∧W i m σ' H':=fun {σ7 H7} I7 n7=>by
    obtain ⟨m',hm,w7⟩:=hN σ7 H7 n7
    refine ⟨m',hm,i+1,σ7,H7,I7.unpinned,T.keep _ _ _ st5 fun b hb o e=>(I7.pin (b,o) (List.mem_append_right _ (List.mem_append_right _ (ab1 hb e)))).1,fun b hb=>?_,w7⟩
    obtain ⟨o,e,d⟩:=T.obj _ _ st5 b hb
    exact (I7.pin (b,o) (List.mem_append_right _ (List.mem_append_right _ (ab1 hb e)))).2.1
   cases f with
   | next=>obtain ⟨σ7,H7,I7,n7⟩:=q7; exact again I7 n7
   | cont=>obtain ⟨σ7,H7,I7,n7⟩:=q7; exact again I7 n7
   | brk=>obtain ⟨σ7,H7,I7,q7⟩:=q7; exact ⟨σ7,H7,I7.unpinned,q7⟩
   | ret v=>obtain ⟨x7,σ7,H7,I7,r7,q7⟩:=q7; exact ⟨x7,σ7,H7,I7.unpinned,r7,q7⟩
end
theorem aw3 {K:PySem.W.Frag}{a:Addr}{xs:List V}{g:TG}{tb:TS}{D:Ends}{σ:St} {H:Hp}(Pv:Nat→St→Hp→Prop) (h0:Pv 0 σ H) (hl:∀ i σ H,i≤xs.length→Pv i σ H→SqL K H a xs)
 (hs:∀ i x σ H,xs[i]?=some x→Pv i σ H→g x σ H fun σ2 H2=>tb { D with nx:=Pv (i+1),ct:=Pv (i+1),bk:=D.nx } σ2 H2) (hd:∀ σ H,Pv xs.length σ H→D.nx σ H) :
 ∃ W:Nat→Nat→St→Hp→Prop,(∃ m,W 0 m σ H)∧∀ i m σ H,W i m σ H →
  ((Itl K a).stop i H∧D.nx σ H)∨((Itl K a).go i H∧∃ N:St→Hp→Prop,(∀ σ' H',N σ' H'→∃ m',m'<m∧W (i+1) m' σ' H')∧∀ x H',(Itl K a).yld i H x H'→g x σ H' fun σ2 H2=>tb { D with nx:=N,ct:=N,bk:=D.nx } σ2 H2):=by
 refine ⟨fun i m σ H=>m=xs.length - i∧i≤xs.length∧Pv i σ H,⟨xs.length,by simp,Nat.zero_le _,h0⟩,?_⟩
 rintro i m σ H ⟨rfl,hi,p⟩
 have q:=hl i σ H hi p
 by_cases hlt:i<xs.length
 · refine .inr ⟨⟨xs,xs[i],q,by simp [hlt]⟩,Pv (i+1),fun σ' H' p'=>⟨xs.length - (i+1),by omega,rfl,hlt,p'⟩,fun x H' y=>?_⟩
   obtain ⟨e,y⟩:=y
   subst e
   exact hs i x σ _ (y xs q) p
 · have e:i=xs.length:=by omega
   subst e
   exact .inl ⟨⟨xs,q,Nat.le_refl _⟩,hd σ H p⟩
theorem bn4 {K:PySem.W.Frag}{a:Addr}{xs:List V}{g:TG}{tb:TS}{D:Ends}{σ:St} {H:Hp}(Pv:Nat→St→Hp→Prop) (h0:Pv 0 σ H) (hl:∀ i σ H,i≤xs.length→Pv i σ H→SqT K H a xs)
 (hs:∀ i x σ H,xs[i]?=some x→Pv i σ H→g x σ H fun σ2 H2=>tb { D with nx:=Pv (i+1),ct:=Pv (i+1),bk:=D.nx } σ2 H2) (hd:∀ σ H,Pv xs.length σ H→D.nx σ H) :
 ∃ W:Nat→Nat→St→Hp→Prop,(∃ m,W 0 m σ H)∧∀ i m σ H,W i m σ H →
  ((Itt K a).stop i H∧D.nx σ H)∨((Itt K a).go i H∧∃ N:St→Hp→Prop,(∀ σ' H',N σ' H'→∃ m',m'<m∧W (i+1) m' σ' H')∧∀ x H',(Itt K a).yld i H x H'→g x σ H' fun σ2 H2=>tb { D with nx:=N,ct:=N,bk:=D.nx } σ2 H2):=by
 refine ⟨fun i m σ H=>m=xs.length - i∧i≤xs.length∧Pv i σ H,⟨xs.length,by simp,Nat.zero_le _,h0⟩,?_⟩
 rintro i m σ H ⟨rfl,hi,p⟩
 have q:=hl i σ H hi p
 by_cases hlt:i<xs.length
 · refine .inr ⟨⟨xs,xs[i],q,by simp [hlt]⟩,Pv (i+1),fun σ' H' p'=>⟨xs.length - (i+1),by omega,rfl,hlt,p'⟩,fun x H' y=>?_⟩
   obtain ⟨e,y⟩:=y
   subst e
   exact hs i x σ _ (y xs q) p
 · have e:i=xs.length:=by omega
   subst e
   exact .inl ⟨⟨xs,q,Nat.le_refl _⟩,hd σ H p⟩
theorem b26 {lo:Int}{n:Nat}{g:TG}{tb:TS}{D:Ends}{σ:St} {H:Hp}(Pv:Nat→St→Hp→Prop) (h0:Pv 0 σ H)
 (hs:∀ i σ H,i<n→Pv i σ H→g (.int (lo+i)) σ H fun σ2 H2=>tb { D with nx:=Pv (i+1),ct:=Pv (i+1),bk:=D.nx } σ2 H2) (hd:∀ σ H,Pv n σ H→D.nx σ H) :
 ∃ W:Nat→Nat→St→Hp→Prop,(∃ m,W 0 m σ H)∧∀ i m σ H,W i m σ H →
  ((Itr lo n).stop i H∧D.nx σ H)∨((Itr lo n).go i H∧∃ N:St→Hp→Prop,(∀ σ' H',N σ' H'→∃ m',m'<m∧W (i+1) m' σ' H')∧∀ x H',(Itr lo n).yld i H x H'→g x σ H' fun σ2 H2=>tb { D with nx:=N,ct:=N,bk:=D.nx } σ2 H2):=by
 refine ⟨fun i m σ H=>m=n - i∧i≤n∧Pv i σ H,⟨n,by simp,Nat.zero_le _,h0⟩,?_⟩
 rintro i m σ H ⟨rfl,hi,p⟩
 by_cases hlt:i<n
 · refine .inr ⟨hlt,Pv (i+1),fun σ' H' p'=>⟨n - (i+1),by omega,rfl,hlt,p'⟩,fun x H' y=>?_⟩
   obtain ⟨e,y⟩:=y
   subst e y
   exact hs i σ _ hlt p
 · have e:i=n:=by omega
   subst e
   exact .inl ⟨Nat.le_refl _,hd σ H p⟩
abbrev R2:=V→V→Hp→VK→Prop
def OpR (X:Cx) (f:Value→Value→Sem Value) (r:R2):Prop :=
 ∀ (pins:List (Addr×Obj)) (s:Shared) (σ:St) (H:Hp) (x y:V) (v u:Value) (Q:VK),Inv X pins σ H s→RelV x v→RelV y u→r x y H Q →
  wpAny (model X.prog X.w) X.A (f v u) (EP X pins σ Q) X.xe s
def UnR (X:Cx) (f:Value→Sem Value) (r:V→Hp→VK→Prop):Prop :=
 ∀ (pins:List (Addr×Obj)) (s:Shared) (σ:St) (H:Hp) (x:V) (v:Value) (Q:VK),Inv X pins σ H s→RelV x v→r x H Q →
  wpAny (model X.prog X.w) X.A (f v) (EP X pins σ Q) X.xe s
def CallR (X:Cx) (f:Value) (r:List V→Hp→VK→Prop):Prop :=
 ∀ (pins:List (Addr×Obj)) (s:Shared) (σ:St) (H:Hp) (xs:List V) (us:List Value) (Q:VK),Inv X pins σ H s→Vals xs us→r xs H Q →
  wpAny (model X.prog X.w) X.A (call f us) (EP X pins σ Q) X.xe s
def TruR (X:Cx) (r:V→Hp→(Bool→Hp→Prop)→Prop):Prop :=
 ∀ (pins:List (Addr×Obj)) (s:Shared) (σ:St) (H:Hp) (x:V) (v:Value) (Q:Bool→Hp→Prop),Inv X pins σ H s→RelV x v→r x H Q →
  wpAny (model X.prog X.w) X.A (truthy v) (TP X pins σ Q) X.xe s
def tOp (r:R2) (ta tb:TE):TE:=fun σ H Q=>ta σ H fun x H1=>tb σ H1 fun y H2=>r x y H2 Q
def tUn (r:V→Hp→VK→Prop) (ta:TE):TE:=fun σ H Q=>ta σ H fun x H1=>r x H1 Q
def rI (C:Int→Int→Prop) (g:Int→Int→V):R2:=fun x y H Q=>∃ i j,x=.int i∧y=.int j∧C i j∧Q (g i j) H
def rI0 (g:Int→Int→V):R2:=fun x y H Q=>∃ i j,x=.int i∧y=.int j∧Q (g i j) H
def rU (g:Int→V):V→Hp→VK→Prop:=fun x H Q=>∃ i,x=.int i∧Q (g i) H
section
variable {X:Cx}{a b c:Expr}{ta tb tc:TE}{pos:Pos}
theorem binT (ha:PE X a ta) (hb:PE X b tb) {pins:List (Addr×Obj)}{s:Shared}{σ:St} {H:Hp}{R:V→V→Hp→Prop}(I:Inv X pins σ H s)
 (h:ta σ H fun x H1=>tb σ H1 fun y H2=>R x y H2) {Q:Value→Shared→Prop}{f:Value→Value→Sem Value}
 (hf:∀ v u s2 x y H2,Inv X pins σ H2 s2→RelV x v→RelV y u→R x y H2→wpAny (model X.prog X.w) X.A (f v u) Q X.xe s2) :
 wpAny (model X.prog X.w) X.A (eval a X.env) (fun v s₁=>wpAny (model X.prog X.w) X.A (eval b X.env) (fun u s₂=>wpAny (model X.prog X.w) X.A (f v u) Q X.xe s₂) X.xe s₁) X.xe s:=by
 refine thn (ha pins s σ H _ I h) ?_
 rintro v s1 ⟨x,H1,I1,r1,q1⟩
 refine thn (hb pins s1 σ H1 _ I1 q1) ?_
 rintro u s2 ⟨y,H2,I2,r2,q2⟩
 exact hf v u s2 x y H2 I2 r1 r2 q2
theorem a31 {op:Operator}{r:R2}(ho:OpR X (binaryOp op) r) (ha:PE X a ta) (hb:PE X b tb):PE X (.BinOp a op b pos) (tOp r ta tb):=by
 intro pins s σ H Q I h
 exact wpAny_BinOp (binT ha hb I h fun v u s2 x y H2 I2 rx ry q=>ho pins s2 σ H2 x y v u Q I2 rx ry q)
theorem bx8 {op:UnaryOp}{r:V→Hp→VK→Prop}(ho:UnR X (unaryOp op) r) (ha:PE X a ta):PE X (.UnaryOp op a pos) (tUn r ta):=by
 intro pins s σ H Q I h
 exact UnaryOp_ (thn (ha pins s σ H _ I h) (by rintro v s1 ⟨x,H1,I1,r1,q1⟩; exact ho pins s1 σ H1 x v Q I1 r1 q1))
theorem opI {f:Value→Value→Sem Value}{C:Int→Int→Prop}{g:Int→Int→Int}
 (rule:∀ (i j:Int) (t u:Tok) (s:Shared) (Q:Value→Shared→Prop) (E:Value→Shared→Prop),C i j→Q (.int (g i j) s.toks) { s with toks:=s.toks+1 }→wpAny (model X.prog X.w) X.A (f (.int i t) (.int j u)) Q E s) :
 OpR X f (rI C fun i j=>.int (g i j)):=by
 intro pins s σ H x y v u Q I rx ry h
 obtain ⟨i,j,rfl,rfl,hc,q⟩:=h
 obtain ⟨t,rfl⟩:=rx
 obtain ⟨t',rfl⟩:=ry
 exact rule i j t t' s _ _ hc ⟨.int (g i j),H,I.tok _,⟨_,rfl⟩,q⟩
theorem opI0 {f:Value→Value→Sem Value}{g:Int→Int→Int}
 (rule:∀ (i j:Int) (t u:Tok) (s:Shared) (Q:Value→Shared→Prop) (E:Value→Shared→Prop),Q (.int (g i j) s.toks) { s with toks:=s.toks+1 }→wpAny (model X.prog X.w) X.A (f (.int i t) (.int j u)) Q E s) :
 OpR X f (rI0 fun i j=>.int (g i j)):=by
 intro pins s σ H x y v u Q I rx ry h
 obtain ⟨i,j,rfl,rfl,q⟩:=h
 obtain ⟨t,rfl⟩:=rx
 obtain ⟨t',rfl⟩:=ry
 exact rule i j t t' s _ _ ⟨.int (g i j),H,I.tok _,⟨_,rfl⟩,q⟩
theorem opB0 {f:Value→Value→Sem Value}{g:Int→Int→Bool}
 (rule:∀ (i j:Int) (t u:Tok) (s:Shared) (Q:Value→Shared→Prop) (E:Value→Shared→Prop),Q (.bool (g i j)) s→wpAny (model X.prog X.w) X.A (f (.int i t) (.int j u)) Q E s) :
 OpR X f (rI0 fun i j=>.bl (g i j)):=by
 intro pins s σ H x y v u Q I rx ry h
 obtain ⟨i,j,rfl,rfl,q⟩:=h
 obtain ⟨t,rfl⟩:=rx
 obtain ⟨t',rfl⟩:=ry
 exact rule i j t t' s _ _ ⟨.bl (g i j),H,I,rfl,q⟩
def CDiv (i j:Int):Prop:=0<j∧j<1073741824
def CMul (i j:Int):Prop:=(-(2 ^ 64)<i∧i<2 ^ 64)∨(-(2 ^ 64)<j∧j<2 ^ 64)
theorem CMul.ok {i j:Int}(h:CMul i j):IntMulOk i j:=by
 rcases h with ⟨h1,h2⟩ | ⟨h1,h2⟩
 · exact .of_left (intBits_le_64 h1 h2)
 · exact .of_right (intBits_le_64 h1 h2)
theorem bx9:OpR X (binaryOp .Add) (rI0 fun i j=>.int (i+j)):=opI0 fun _ _ _ _ _ _ _ q=>add_int q
theorem ap2:OpR X (binaryOp .Sub) (rI0 fun i j=>.int (i - j)):=opI0 fun _ _ _ _ _ _ _ q=>sub_int q
theorem am2:OpR X (binaryOp .FloorDiv) (rI CDiv fun i j=>.int (i / j)):=opI fun i j _ _ _ _ _ hc q=>by
 have h1:(0:Int)<j:=hc.1
 have h2:j<1073741824:=hc.2
 exact floordiv_int (by omega) (by rw [Int.fdiv_eq_ediv_of_nonneg i (by omega)]; exact q) (.inl (PyProof.noPylong_small (by omega)))
theorem aa4:OpR X (binaryOp .Mod) (rI (fun _ j=>0<j) fun i j=>.int (i % j)):=opI fun i j _ _ _ _ _ hc q=>by
 have h1:(0:Int)<j:=hc
 exact mod_int' (by omega) (by rw [Int.fmod_eq_emod_of_nonneg i (by omega)]; exact q)
theorem unI {f:Value→Sem Value}{g:Int→Int}
 (rule:∀ (i:Int) (t:Tok) (s:Shared) (Q:Value→Shared→Prop) (E:Value→Shared→Prop),Q (.int (g i) s.toks) { s with toks:=s.toks+1 }→wpAny (model X.prog X.w) X.A (f (.int i t)) Q E s) :
 UnR X f (rU fun i=>.int (g i)):=by
 intro pins s σ H x v Q I rx h
 obtain ⟨i,rfl,q⟩:=h
 obtain ⟨t,rfl⟩:=rx
 exact rule i t s _ _ ⟨.int (g i),H,I.tok _,⟨_,rfl⟩,q⟩
theorem bj1:UnR X (unaryOp .USub) (rU fun i=>.int (-i)):=unI fun _ _ _ _ _ q=>neg_int q
end
def scal:V→V→Bool
 | .non,.non=>true | .non,.int _=>true | .int _,.non=>true | .non,.bl _=>true | .bl _,.non=>true | .non,.str _=>true | .str _,.non=>true
 | .int _,.int _=>true | .bl _,.bl _=>true | .str _,.str _=>true | .byt _,.byt _=>true
 | .int _,.str _=>true | .str _,.int _=>true | .bl _,.str _=>true | .str _,.bl _=>true
 | _,_=>false
def rEq:R2:=fun x y H Q=>scal x y=true∧Q (.bl (decide (x=y))) H
theorem bn5 {i j:Int}:decide (V.int i=V.int j)=(i == j):=by
 rw [Bool.eq_iff_iff]
 simp
theorem by0 {i j:Bool}:decide (V.bl i=V.bl j)=(i == j):=by
 rw [Bool.eq_iff_iff]
 simp
theorem bn6 {i j:Str}:decide (V.str i=V.str j)=(i == j):=by
 rw [Bool.eq_iff_iff]
 simp
theorem bn7 {i j:Array UInt8}:decide (V.byt i=V.byt j)=(i.toList == j.toList):=by
 rw [Bool.eq_iff_iff]
 cases i
 cases j
 simp
section
variable {X:Cx}{a b c:Expr}{ta tb tc:TE}{pos:Pos}
theorem a58 {pins:List (Addr×Obj)}{σ:St} {H:Hp}{s:Shared}{Q:VK}{k k':Bool}(I:Inv X pins σ H s) (q:Q (.bl k) H) (e:k=k'):EP X pins σ Q (.bool k') s:=by
 subst e
 exact ⟨.bl k,H,I,rfl,q⟩
theorem a40:OpR X (compareOp .Eq) rEq:=by
 intro pins s σ H x y v u Q I rx ry h
 obtain ⟨hs,q⟩:=h
 cases x with
 | non =>
   cases rx
   cases y with
   | non=>cases ry; exact PySem.EqNone.eq_none_none (a58 I q (by simp))
   | bl j=>cases ry; exact PySem.EqNone.eq_none_bool (a58 I q (by simp))
   | int j=>obtain ⟨t',rfl⟩:=ry; exact PySem.EqNone.eq_none_int (a58 I q (by simp))
   | str j=>obtain ⟨t',rfl⟩:=ry; exact PySem.EqNone.eq_none_str (a58 I q (by simp))
   | _=>exact absurd (show false=true from hs) Bool.false_ne_true
 | bl i =>
   cases rx
   cases y with
   | non=>cases ry; exact PySem.EqNone.eq_bool_none (a58 I q (by simp))
   | bl j=>cases ry; exact eq_bool (a58 I q by0)
   | str j=>obtain ⟨t',rfl⟩:=ry; exact PySem.EqMixed.eq_bool_str (a58 I q (by simp))
   | _=>exact absurd (show false=true from hs) Bool.false_ne_true
 | int i =>
   obtain ⟨t,rfl⟩:=rx
   cases y with
   | non=>cases ry; exact PySem.EqNone.eq_int_none (a58 I q (by simp))
   | int j=>obtain ⟨t',rfl⟩:=ry; exact eq_int (a58 I q bn5)
   | str j=>obtain ⟨t',rfl⟩:=ry; exact PySem.EqMixed.eq_int_str (a58 I q (by simp))
   | _=>exact absurd (show false=true from hs) Bool.false_ne_true
 | str i =>
   obtain ⟨t,rfl⟩:=rx
   cases y with
   | non=>cases ry; exact PySem.EqNone.eq_str_none (a58 I q (by simp))
   | bl j=>cases ry; exact PySem.EqMixed.eq_str_bool (a58 I q (by simp))
   | int j=>obtain ⟨t',rfl⟩:=ry; exact PySem.EqMixed.eq_str_int (a58 I q (by simp))
   | str j=>obtain ⟨t',rfl⟩:=ry; exact eq_str (a58 I q bn6)
   | _=>exact absurd (show false=true from hs) Bool.false_ne_true
 | byt i =>
   obtain ⟨t,rfl⟩:=rx
   cases y with
   | byt j=>obtain ⟨t',rfl⟩:=ry; exact PySem.W.eq_bytes (a58 I q bn7)
   | _=>exact absurd (show false=true from hs) Bool.false_ne_true
 | _=>cases y <;> exact absurd (show false=true from hs) Bool.false_ne_true
theorem bc0:OpR X (compareOp .Lt) (rI0 fun i j=>.bl (decide (i<j))):=opB0 fun _ _ _ _ _ _ _ q=>lt_int q
theorem bc1:OpR X (compareOp .Gt) (rI0 fun i j=>.bl (decide (j<i))):=opB0 fun _ _ _ _ _ _ _ q=>gt_int q
theorem c90:OpR X (compareOp .GtE) (rI0 fun i j=>.bl (decide (j≤i))):=opB0 fun _ _ _ _ _ _ _ q=>ge_int q
theorem by1:OpR X (compareOp .Is) (fun x y H Q=>y=.non∧Q (.bl (decide (x=.non))) H):=by
 intro pins s σ H x y v u Q I rx ry h
 obtain ⟨rfl,q⟩:=h
 cases ry
 refine is_none_gen (a58 I q ?_)
 cases x <;> first
  | (cases rx; rfl)
  | (obtain ⟨t,rfl⟩:=rx; rfl)
theorem bn8:OpR X (compareOp .IsNot) (fun x y H Q=>y=.non∧Q (.bl (!decide (x=.non))) H):=by
 intro pins s σ H x y v u Q I rx ry h
 obtain ⟨rfl,q⟩:=h
 cases ry
 refine isnot_none_gen (a58 I q ?_)
 cases x <;> first
  | (cases rx; rfl)
  | (obtain ⟨t,rfl⟩:=rx; rfl)
theorem nomark (b:Expr) {op:CmpOp}(h:op≠.In:=by decide) (h2:op≠.NotIn:=by decide):behindInMarks op b=false:=by
 have e1:(op == CmpOp.In)=false:=by cases op <;> first | rfl | exact absurd rfl h
 have e2:(op == CmpOp.NotIn)=false:=by cases op <;> first | rfl | exact absurd rfl h2
 cases b <;> simp [behindInMarks,e1,e2]
theorem a69 {op:CmpOp}{r:R2}(ho:OpR X (compareOp op) r) (ha:PE X a ta) (hb:PE X b tb) (hm:behindInMarks op b=false):PE X (.Compare a [op] [b] pos) (tOp r ta tb):=by
 intro pins s σ H Q I h
 exact wpAny_Compare1 (binT ha hb I h fun v u s2 x y H2 I2 rx ry q=>ho pins s2 σ H2 x y v u Q I2 rx ry q) hm
def by2 (t:TE):TT:=fun σ H Q=>t σ H fun x H'=>∃ k,x=.bl k∧Q k H'
theorem a16 {op:CmpOp}{r:R2}(ho:OpR X (compareOp op) r) (ha:PE X a ta) (hb:PE X b tb) (hm:behindInMarks op b=false):PT X (.Compare a [op] [b] pos) (by2 (tOp r ta tb)):=by
 intro pins s σ H Q I h
 refine wpAny_isTrue_Compare1 (thn (ha pins s σ H _ I h) fun v s1 ⟨x,H1,I1,r1,q1⟩=>thn (hb pins s1 σ H1 _ I1 q1) fun u s2 ⟨y,H2,I2,r2,q2⟩ =>
  thn (ho pins s2 σ H2 x y v u _ I2 r1 r2 q2) fun c s3 ⟨z,H3,I3,r3,k,e,q3⟩=>?_) hm
 subst e
 cases r3
 exact wpAny_truthy_bool ⟨H3,I3,q3⟩
def TruV (K:PySem.W.Frag) (x:V) (H:Hp) (k:Bool):Prop :=
 match x with
 | .non=>k=false
 | .bl b=>k=b
 | .int i=>k=(i != 0)
 | .str y=>y.length≤sizeLine∧k=((y.length:Int) != 0)
 | .byt y=>y.size≤sizeLine∧k=((y.size:Int) != 0)
 | .ref p=>(∃ xs,SqL K H p xs∧k=!xs.isEmpty)∨(∃ xs,SqT K H p xs∧k=!xs.isEmpty)∨∃ kvs,H p=some (.dK kvs)∧k=!kvs.isEmpty
 | _=>False
theorem az7 {κ:Type} {kvs:List (κ×V)}{vs:List (κ×Value)}(r:KV kvs vs):(!vs.isEmpty)=!kvs.isEmpty:=by
 cases r <;> rfl
theorem al0 {xs:List V}{its:List Value}(r:Vals xs its):(!its.toArray.isEmpty)=!xs.isEmpty:=by
 cases r <;> simp
theorem ap3:(sizeLine:Nat)<2 ^ 63:=by rw [sizeLine_eq]; decide
theorem by3:TruR X (fun x H Q=>∃ k,TruV X.K x H k∧Q k H):=by
 intro pins s σ H x v Q I rx h
 obtain ⟨k,e,q⟩:=h
 have hl:=ap3
 have hs:sizeLine=16777216:=sizeLine_eq
 cases x with
 | non =>
   cases rx
   have e':k=false:=e
   subst e'
   exact truthy_none ⟨H,I,q⟩
 | bl b =>
   cases rx
   have e':k=b:=e
   subst e'
   exact wpAny_truthy_bool ⟨H,I,q⟩
 | int i =>
   obtain ⟨t,rfl⟩:=rx
   have e':k=(i != 0):=e
   subst e'
   exact PySem.P.truthy_int ⟨H,I,q⟩
 | str y =>
   obtain ⟨t,rfl⟩:=rx
   obtain ⟨hy,e'⟩:y.length≤sizeLine∧k=((y.length:Int) != 0):=e
   subst e'
   exact PySem.P.truthy_str (by omega) ⟨H,I.tok _,q⟩
 | byt y =>
   obtain ⟨t,rfl⟩:=rx
   obtain ⟨hy,e'⟩:y.size≤sizeLine∧k=((y.size:Int) != 0):=e
   subst e'
   exact PySem.W.truthy_bytes (by omega) ⟨H,I.tok _,q⟩
 | ref p =>
   cases rx
   have e':(∃ xs,SqL X.K H p xs∧k=!xs.isEmpty)∨(∃ xs,SqT X.K H p xs∧k=!xs.isEmpty)∨∃ kvs,H p=some (.dK kvs)∧k=!kvs.isEmpty:=e
   rcases e' with ⟨xs,hx,e'⟩ | ⟨xs,hx,e'⟩ | ⟨kvs,hx,e'⟩
   · subst e'
     obtain ⟨its,r,pl,hz⟩:=I.list hx
     have hlen:=r.length
     exact wpAny_truthy_list pl.isList (by simp only [List.size_toArray]; omega) ⟨H,I.tok _,by rw [al0 r]; exact q⟩
   · subst e'
     obtain ⟨its,r,pl,hz⟩:=I.tuple hx
     have hlen:=r.length
     exact truthy_tuple pl (by simp only [List.size_toArray]; omega) ⟨H,I.tok _,by rw [al0 r]; exact q⟩
   · subst e'
     obtain ⟨hz,hS,vs,r,m⟩:kvs.length≤sizeLine∧(p == sysModules)=false∧∃ vs,KV kvs vs∧s.heap.DictOf (at1 X.prog X.w) p vs:=I.hok p _ hx
     have hlen:kvs.length=vs.length:=Paired.length r
     exact wpAny_truthy_dict hS m (by omega) ⟨H,I.tok _,by rw [az7 r]; exact q⟩
 | _=>exact (show False from e).elim
theorem bc2 (ha:PE X a ta) (he:∀ whole,isTrue a X.env whole=(do let v←whole; standAt a.pos; holding [v] (truthy v))) :
 PT X a (fun σ H Q=>ta σ H fun x H'=>∃ k,TruV X.K x H' k∧Q k H'):=by
 intro pins s σ H Q I h
 exact isTrue_plain (thn (ha pins s σ H _ I h) (by rintro v s1 ⟨x,H1,I1,r1,q1⟩; exact by3 pins s1 σ H1 x v Q I1 r1 q1)) (he _)
theorem az8:OpR X (binaryOp .Add) (fun x y H Q=>∃ i j,x=.str i∧y=.str j∧i.length+j.length≤sizeLine∧Q (.str (i++j)) H):=by
 intro pins s σ H x y v u Q I rx ry h
 obtain ⟨i,j,rfl,rfl,hz,q⟩:=h
 obtain ⟨t,rfl⟩:=rx
 obtain ⟨t',rfl⟩:=ry
 exact add_str (fun t' tk=>⟨.str (i++j),H,I.tok _,⟨_,rfl⟩,q⟩) hz
theorem at3 {x:V}{us:List Value}(r:Vals [x] us):∃ u,us=[u]∧RelV x u:=by
 cases r with
 | cons r1 r2=>cases r2; exact ⟨_,rfl,r1⟩
theorem by4 {x y:V}{us:List Value}(r:Vals [x,y] us):∃ u w',us=[u,w']∧RelV x u∧RelV y w':=by
 cases r with
 | cons r1 r2 =>
   cases r2 with
   | cons r3 r4=>cases r4; exact ⟨_,_,rfl,r1,r3⟩
theorem b27:CallR X (.type "int") (fun xs H Q=>(∃ i,xs=[.int i]∧Q (.int i) H)∨∃ k,xs=[.bl k]∧Q (.int (if k then 1 else 0)) H):=by
 intro pins s σ H xs us Q I r h
 rcases h with ⟨i,rfl,q⟩ | ⟨k,rfl,q⟩
 · obtain ⟨u,rfl,t,rfl⟩:=at3 r
   exact call_int_int ⟨.int i,H,I,⟨_,rfl⟩,q⟩
 · obtain ⟨u,rfl,r1⟩:=at3 r
   cases r1
   exact call_int_bool ⟨.int (if k then 1 else 0),H,I.tok _,⟨_,rfl⟩,q⟩
def LenV (K:PySem.W.Frag) (x:V) (H:Hp) (n:Nat):Prop :=
 match x with
 | .str y=>y.length≤sizeLine∧n=y.length
 | .byt y=>y.size≤sizeLine∧n=y.size
 | .ref p=>(∃ xs,SqL K H p xs∧n=xs.length)∨∃ xs,SqT K H p xs∧n=xs.length
 | _=>False
theorem bc3:CallR X (.builtin "len") (fun xs H Q=>∃ x n,xs=[x]∧LenV X.K x H n∧Q (.int n) H):=by
 intro pins s σ H xs us Q I r h
 obtain ⟨x,n,rfl,e,q⟩:=h
 obtain ⟨u,rfl,rx⟩:=at3 r
 have hl:=ap3
 have hs:sizeLine=16777216:=sizeLine_eq
 cases x with
 | str y =>
   obtain ⟨t,rfl⟩:=rx
   obtain ⟨hy,e'⟩:y.length≤sizeLine∧n=y.length:=e
   subst e'
   exact len_str (by omega) ⟨.int _,H,I.tok _,⟨_,rfl⟩,q⟩
 | byt y =>
   obtain ⟨t,rfl⟩:=rx
   obtain ⟨hy,e'⟩:y.size≤sizeLine∧n=y.size:=e
   subst e'
   exact PySem.W.len_bytes (by omega) ⟨.int _,H,I.tok _,⟨_,rfl⟩,q⟩
 | ref p =>
   cases rx
   have e':(∃ xs,SqL X.K H p xs∧n=xs.length)∨∃ xs,SqT X.K H p xs∧n=xs.length:=e
   rcases e' with ⟨xs,hx,e'⟩ | ⟨xs,hx,e'⟩
   · subst e'
     obtain ⟨its,r',pl,hz⟩:=I.list hx
     have hlen:=r'.length
     exact Calls.call_len_list pl.isList (by simp only [List.size_toArray]; omega) ⟨.int xs.length,H,I.tok _,⟨_,by simp only [List.size_toArray]; rw [hlen]⟩,q⟩
   · subst e'
     obtain ⟨its,r',pl,hz⟩:=I.tuple hx
     have hlen:=r'.length
     exact len_tuple pl (by simp only [List.size_toArray]; omega) ⟨.int xs.length,H,I.tok _,⟨_,by simp only [List.size_toArray]; rw [hlen]⟩,q⟩
 | _=>exact (show False from e).elim
end
structure ObjM (h:Heap) (x dx C:Addr) (mA:Str→Option Value):Prop where
 obj:h.get? x=some (PySem.W.instObj C dx)
 ns:h.Ns1 dx mA
 ne:dx≠x
theorem b28 {h:Heap}{dx:Addr}{mA:Str→Option Value}(n:h.Ns1 dx mA):∃ od,h.get? dx=some od∧∀ name,PySem.W.lookIn name od=some (mA name):=by
 obtain ⟨o,es,ep,ho,hd,hk,_,hm⟩:=n
 refine ⟨o,ho,fun name=>?_⟩
 have e:=hm name
 unfold nsFind findBy at e
 rw [← Array.find?_toList] at e
 unfold PySem.W.lookIn
 rw [hd]
 dsimp only
 split
 · rename_i y q
   rw [q] at e
   exact congrArg some e
 · rename_i q
   rw [q] at e
   have a:es.toList.any (·.refKey)=false:=by
    rw [List.any_eq_false]
    intro y hy
    obtain ⟨z,t,hkey⟩:=hk y (Array.mem_toList_iff.mp hy)
    simp [DictEntry.refKey,hkey]
   have a':¬ es.toList.any (·.refKey)=true:=by rw [a]; exact Bool.false_ne_true
   rw [if_neg a']
   exact congrArg some e
theorem ObjM.look {h:Heap}{x dx C:Addr}{mA:Str→Option Value}(I:ObjM h x dx C mA):∃ od,PySem.W.InstAt h x (PySem.W.instObj C dx) C (some od)∧∀ name,PySem.W.lookIn name od=some (mA name) :=
 let ⟨od,ho,hl⟩:=b28 I.ns
 ⟨od,⟨I.obj,rfl,rfl,ho⟩,hl⟩
section
variable {prog:Program}{w:World}{A:Around}{E:Value→Shared→Prop}{s:Shared}{K:PySem.W.Frag}{x dx C f:Addr}{mA:Str→Option Value}{name:Str}{v:Value}
theorem bn9 {expr:Bool}{Q:Value→Shared→Prop}(X:K.In s.heap) (I:ObjM s.heap x dx C mA) (hg:PySem.W.plainGet K C name=true) (hh:PySem.W.hasDictIn K C=true)
 (ha:PySem.W.findIn K (.ref C) name=some none) (hv:mA name=some v) (hv':PySem.W.handedIn v=true) (h:Q v { s with toks:=s.toks+1 }) :
 wpAny (model prog w) A (getAttr (.ref x) name expr) Q E s:=by
 obtain ⟨od,J,hl⟩:=I.look
 exact PySem.W.get_value X J (PySem.W.plainGet_of hg).1 (PySem.W.findObj_own hh ha rfl (by rw [hl,hv])) hv' h
theorem bc4 {pl:Sem Bool}{Q:Value×List Value→Shared→Prop}(X:K.In s.heap) (I:ObjM s.heap x dx C mA) (hg:PySem.W.plainGet K C name=true)
 (hf:PySem.W.findIn K (.ref C) name=some (some (.ref f))) (ht:PySem.W.isFn K (.ref f)=true) (hv:mA name=none) (h:Q (.ref f,[.ref x]) s) :
 wpAny (model prog w) A (getMethod (.ref x) name pl) Q E s:=by
 obtain ⟨od,J,hl⟩:=I.look
 exact PySem.W.method_fn X J (PySem.W.plainGet_of hg).1 (PySem.W.plainGet_of hg).2 hf (beq_iff_eq.mp ht) (by show (PySem.W.lookIn name od).map (·.isSome)=some false; rw [hl,hv]; rfl) h
theorem bo0 {ns:List Str}{Q:Unit→Shared→Prop}(X:K.In s.heap) (I:ObjM s.heap x dx C mA)
 (hs:PySem.W.findIn K (.ref C) "__setattr__"=some (some (.builtin "object.__setattr__"))) (hp:PySem.W.plainOver K C=true) (ht:PySem.W.takerIn K C name=some none) (hh:PySem.W.hasDictIn K C=true)
 (hw:PySem.Within mA ns) (hsz:ns.length≤sizeLine)
 (h:∀ h',ObjM h' x dx C (fun y=>if y=name then some v else mA y)→Heap.SameBut dx s.heap h'→Q () { s with heap:=h',toks:=s.toks+2 }) :
 wpAny (model prog w) A (setAttr (.ref x) name v) Q E s:=by
 obtain ⟨od,J,hl⟩:=I.look
 refine PySem.W.set_plain X J hs (PySem.W.osa_open (s:={ s with toks:=s.toks+1 }) (r:=none) X J hp ht fun b=>?_)
 obtain ⟨cd,hc,hd'⟩:=PySem.W.any_some hh
 have hx:s.heap.get? x=some ⟨.ref C,some dx,.plain,#[]⟩:=I.obj
 refine wpAny_bind (wpAny_pure (wpAny_bind (wpAny_bind (wpAny_loadPart hx (wpAny_bind (PySem.W.Looks.here (s:={ s with toks:=s.toks+1 }) (PySem.W.looks_clsIn X hc) ?_))))))
 rw [hd']
 refine wpAny_pure (a:=some dx) (wpAny_bind (wpAny_pure (wpAny_bind ?_)))
 refine wpAny_nsSet1 (s:={ s with toks:=s.toks+1 }) I.ns fun h' hn2 hs2=>?_
 obtain ⟨oD,esD,epD,hoD,hdD,hcD⟩:=hn2.count (PySem.Within.cons name v hw)
 refine wpAny_bind (wpAny_lookBehind hoD (by rw [hdD]; exact pastItsLine_dict (Nat.le_trans hcD (by rw [List.length_cons]; omega))) ?_)
 exact wpAny_pure (h _ ⟨(hs2.2 _ (Ne.symm I.ne)).trans I.obj,hn2,I.ne⟩ hs2)
theorem bc5 {R:Result→Shared→Prop}{vs:List Value}{kw:List (Str×Value)}(X:K.In s.heap) (hm:PySem.W.makesIn K C=true)
 (hi:PySem.W.findIn K (.ref C) "__init__"=some (some (.ref f))) (hf:PySem.W.typeIn K (.ref f)=some (.type "function"))
 (h:codeAny (model prog w) (A.under (.builtin "type.__call__" ⟨.ref C::vs,kw⟩)) (.call (.ref f) ⟨.ref (s.heap.objs.size+1)::vs,kw⟩) (PySem.W.InitBack (s.heap.objs.size+1) R)
  { s with heap:=(s.heap.push PySem.W.emptyDict).push (PySem.W.instObj C s.heap.objs.size) }) :
 codeAny (model prog w) A (.call (.ref C) ⟨vs,kw⟩) R s:=by
 obtain ⟨hh,g,d,t,os⟩:=s
 exact PySem.W.make_core (PySem.W.makes_of X hm) (PySem.W.looks_findIn X hi) (fun self=>PySem.W.bind_fn X self hf) (.inl rfl) h
end
def putF (f:Str) (v:V):List (Str×V)→List (Str×V)
 | []=>[(f,v)]
 | (g,x)::r=>if g=f then (g,v)::r else (g,x)::putF f v r
theorem a30 (f g:Str) (v:V):∀ fs:List (Str×V),(putF f v fs).lookup g=if g=f then some v else fs.lookup g
 | []=>by
   show List.lookup g [(f,v)]=_
   by_cases h:g=f
   · have hb:(g == f)=true:=beq_iff_eq.mpr h
     simp only [List.lookup,hb,if_pos h]
   · have hb:(g == f)=false:=beq_eq_false_iff_ne.mpr h
     simp only [List.lookup,hb,if_neg h]
 | (k,x)::r=>by
   have ih:=a30 f g v r
   rw [show putF f v ((k,x)::r)=(if k=f then (k,v)::r else (k,x)::putF f v r) from rfl]
   by_cases hk:k=f
   · rw [if_pos hk]
     by_cases h:g=k
     · have hb:(g == k)=true:=beq_iff_eq.mpr h
       simp only [List.lookup,hb,if_pos (h.trans hk)]
     · have hb:(g == k)=false:=beq_eq_false_iff_ne.mpr h
       simp only [List.lookup,hb,if_neg (fun e:g=f=>h (e.trans hk.symm))]
   · rw [if_neg hk]
     by_cases h:g=k
     · have hb:(g == k)=true:=beq_iff_eq.mpr h
       simp only [List.lookup,hb,if_neg (fun e:g=f=>hk (h.symm.trans e))]
     · have hb:(g == k)=false:=beq_eq_false_iff_ne.mpr h
       simp only [List.lookup,hb]
       exact ih
theorem ag5 (f:Str) (v:V):∀ fs:List (Str×V),f∈(putF f v fs).map (·.1)∧∀ g,g∈fs.map (·.1)→g∈(putF f v fs).map (·.1)
 | []=>⟨by simp [putF],fun g h=>by simp at h⟩
 | (k,x)::r=>by
   obtain ⟨i1,i2⟩:=ag5 f v r
   rw [show putF f v ((k,x)::r)=(if k=f then (k,v)::r else (k,x)::putF f v r) from rfl]
   by_cases hk:k=f
   · rw [if_pos hk]
     subst hk
     exact ⟨by simp,fun g h=>by simpa using h⟩
   · rw [if_neg hk]
     refine ⟨?_,fun g h=>?_⟩
     · rw [List.map_cons]
       exact List.mem_cons_of_mem _ i1
     · rw [List.map_cons] at h ⊢
       rcases List.mem_cons.mp h with e | e
       · exact List.mem_cons.mpr (.inl e)
       · exact List.mem_cons_of_mem _ (i2 g e)
theorem a57 (f:Str) (v:V):∀ fs:List (Str×V),(putF f v fs).length≤fs.length+1
 | []=>by simp [putF]
 | (k,x)::r=>by
   have ih:=a57 f v r
   rw [show putF f v ((k,x)::r)=(if k=f then (k,v)::r else (k,x)::putF f v r) from rfl]
   by_cases hk:k=f
   · rw [if_pos hk,List.length_cons,List.length_cons]; omega
   · rw [if_neg hk,List.length_cons,List.length_cons]; omega
theorem RelO.some_of {v:V}{o:Option Value}(r:RelO (some v) o):∃ u,o=some u∧RelV v u:=by
 cases o with
 | none=>exact (show False from r).elim
 | some u=>exact ⟨u,rfl,r⟩
theorem RelO.none_of {o:Option Value}(r:RelO none o):o=none:=by
 cases o with
 | none=>rfl
 | some u=>exact (show False from r).elim
theorem b29 {v:V}{u:Value}(r:RelV v u):PySem.W.handedIn u=true:=by
 cases v with
 | non=>cases (show u=Value.none from r); rfl
 | bl b=>cases (show u=Value.bool b from r); rfl
 | int i=>obtain ⟨t,e⟩:=(show ∃ t,u=Value.int i t from r); cases e; rfl
 | str x=>obtain ⟨t,e⟩:=(show ∃ t,u=Value.str x t from r); cases e; rfl
 | byt b=>obtain ⟨t,e⟩:=(show ∃ t,u=Value.bytes b t from r); cases e; rfl
 | flt b=>obtain ⟨t,e⟩:=(show ∃ t,u=Value.float b t from r); cases e; rfl
 | ref a=>cases (show u=Value.ref a from r); rfl
 | ty n=>cases (show u=Value.type n from r); rfl
section
variable {P:Program}{w:World}{H H':Hp}{h h':Heap}{a C dx:Addr}{fs fs':List (Str×V)}
theorem at4 (hok:HOk P w H h) (e:H a=some (.ins C dx fs)):∃ mA,ObjM h a dx C mA∧(∀ f,RelO (fs.lookup f) (mA f))∧PySem.Within mA (fs.map (·.1))∧fs.length≤1000∧H dx=some (.own a):=by
 obtain ⟨d,z,ne,ob,mA,n,r,q⟩:=(show ObjOk P w H h a (.ins C dx fs) from hok a _ e)
 exact ⟨mA,⟨ob,n,ne⟩,r,q,z,d⟩
end
structure Cls (K:PySem.W.Frag) (C:Addr):Prop where
 pg:PySem.W.plainGet K C Str.empty=true
 hd:PySem.W.hasDictIn K C=true
 po:PySem.W.plainOver K C=true
 sa:PySem.W.findIn K (.ref C) "__setattr__"=some (some (.builtin "object.__setattr__"))
theorem Cls.get {K:PySem.W.Frag}{C:Addr}(c:Cls K C) (f:Str):PySem.W.plainGet K C f=true:=c.pg
def NoAttr (K:PySem.W.Frag) (C:Addr) (f:Str):Prop:=PySem.W.findIn K (.ref C) f=some none
theorem NoAttr.taker {K:PySem.W.Frag}{C:Addr}{f:Str}(n:NoAttr K C f):PySem.W.takerIn K C f=some none:=by
 unfold PySem.W.takerIn
 rw [show PySem.W.findIn K (.ref C) f=some none from n]
 rfl
structure Meth (K:PySem.W.Frag) (C:Addr) (m:Str) (f:Addr):Prop where
 at_:PySem.W.findIn K (.ref C) m=some (some (.ref f))
 fn:PySem.W.isFn K (.ref f)=true
 kp:PySem.W.keepIn K (.ref f)=true
section
variable {X:Cx}{pins:List (Addr×Obj)}{σ:St} {H:Hp}{s:Shared}{a C dx:Addr}{fs:List (Str×V)}{f:Str}{v:V}{A:Around}{E:Value→Shared→Prop}
theorem az9 {b:Bool}{Q:Value→Shared→Prop}(I:Inv X pins σ H s) (e:H a=some (.ins C dx fs)) (c:Cls X.K C) (n:NoAttr X.K C f) (l:fs.lookup f=some v)
 (h:∀ u s',Inv X pins σ H s'→RelV v u→Q u s'):wpAny (model X.prog X.w) A (getAttr (.ref a) f b) Q E s:=by
 obtain ⟨mA,O,r,_,_,_⟩:=at4 I.hok e
 obtain ⟨u,hu,ru⟩:=RelO.some_of (v:=v) (o:=mA f) (by rw [← l]; exact r f)
 exact bn9 I.kIn O (c.get f) c.hd n hu (b29 ru) (h u _ (I.tok _) ru)
theorem al1 {m:Str}{g:Addr}{pl:Sem Bool}{Q:Value×List Value→Shared→Prop}(I:Inv X pins σ H s) (e:H a=some (.ins C dx fs)) (c:Cls X.K C) (k:Meth X.K C m g) (l:fs.lookup m=none)
 (h:Q (.ref g,[.ref a]) s):wpAny (model X.prog X.w) A (getMethod (.ref a) m pl) Q E s:=by
 obtain ⟨mA,O,r,_,_,_⟩:=at4 I.hok e
 have hn:mA m=none:=RelO.none_of (by rw [← l]; exact r m)
 exact bc4 I.kIn O (c.get m) k.at_ k.fn hn h
theorem b00 {y:V}{u:Value}{Q:Unit→Shared→Prop}(I:Inv X pins σ H s) (e:H a=some (.ins C dx fs)) (c:Cls X.K C) (n:NoAttr X.K C f) (hl:fs.length<1000) (ry:RelV y u)
 (h:∀ s',Inv X pins σ (upd H a (.ins C dx (putF f y fs))) s'→Q () s'):wpAny (model X.prog X.w) A (setAttr (.ref a) f u) Q E s:=by
 obtain ⟨mA,O,r,wi,_,ho⟩:=at4 I.hok e
 have hz:(fs.map (·.1)).length≤sizeLine:=by rw [List.length_map,sizeLine_eq]; omega
 refine bo0 I.kIn O c.sa c.po n.taker c.hd wi hz fun h' O' sb=>h _ ?_
 have hd:∃ o,h'.get? dx=some o:=let ⟨o,_,_,e',_⟩:=O'.ns; ⟨o,e'⟩
 refine I.write (x:=a) (e:=dx) (by rw [e]; exact True.intro) (.inr ho) (fun b q hb z=>(sb.2 b hb).trans z) hd ?_
 refine ⟨by rw [a09 O.ne]; exact ho,?_,O.ne,O'.obj,_,O'.ns,fun g=>?_,fun g hg=>?_⟩
 · have:=a57 f y fs; omega
 · show RelO ((putF f y fs).lookup g) (if g=f then some u else mA g)
   rw [a30]
   by_cases q:g=f
   · rw [if_pos q,if_pos q]; exact ry
   · rw [if_neg q,if_neg q]; exact r g
 · by_cases q:g=f
   · rw [q]; exact (ag5 f y fs).1
   · refine (ag5 f y fs).2 g (wi g fun z=>hg ?_)
     show (if g=f then some u else mA g)=none
     rw [if_neg q]; exact z
theorem Inv.made (I:Inv X pins σ H s):Inv X pins σ (upd (upd H s.heap.objs.size (.own (s.heap.objs.size+1))) (s.heap.objs.size+1) (.ins C s.heap.objs.size []))
 { s with heap:=(s.heap.push PySem.W.emptyDict).push (PySem.W.instObj C s.heap.objs.size) }:=by
 have e1:(s.heap.push PySem.W.emptyDict).get? s.heap.objs.size=some PySem.W.emptyDict:=Heap.get?_push_size s.heap rfl
 have e2:((s.heap.push PySem.W.emptyDict).push (PySem.W.instObj C s.heap.objs.size)).get? (s.heap.objs.size+1)=some (PySem.W.instObj C s.heap.objs.size):=by
  have:=Heap.get?_push_size (s.heap.push PySem.W.emptyDict) (o:=PySem.W.instObj C s.heap.objs.size) rfl
  rwa [Heap.size_push] at this
 have e3:(s.heap.push PySem.W.emptyDict).Ns s.heap.objs.size (fun _=>none):=⟨PySem.W.emptyDict,#[],_,e1,rfl,(fun e he=>absurd he (by simp)),fun _=>rfl⟩
 have I1:=I.laid (a:=s.heap.objs.size) (o:=.own (s.heap.objs.size+1)) (h':=s.heap.push PySem.W.emptyDict) (t':=s.toks) (fun b u q=>Heap.get?_push_of_some _ q) (Nat.le_refl _) ⟨_,e1⟩
 refine I1.laid (a:=s.heap.objs.size+1) (o:=.ins C s.heap.objs.size []) (t':=s.toks) (fun b u q=>Heap.get?_push_of_some _ q) (Nat.le_of_eq (Heap.size_push _ _)) ?_
 have ne:s.heap.objs.size≠s.heap.objs.size+1:=Nat.ne_of_lt (Nat.lt_succ_self _)
 refine ⟨by rw [a09 ne,a17],Nat.zero_le _,ne,e2,fun _=>none,(Heap.Ns1.of_empty e3).at fun o q=>Heap.get?_push_of_some _ q,fun _=>True.intro,fun y hy=>absurd rfl hy⟩
theorem bo1 {prog:Program}{w:World}{env:Env}{e:Expr}{f:Str}{pos:Pos}{s:Shared}{Q:Value→Shared→Prop}(hb:attributeBase e f env (eval e env)=eval e env)
 (h:wpAny (model prog w) A (eval e env) (fun o s₁=>wpAny (model prog w) A (getAttr o f true) Q E s₁) E s):wpAny (model prog w) A (eval (.Attribute e f pos) env) Q E s :=
 Attribute_any_ h (by rw [arm_eval_Attribute,hb])
end
def tFld (K:PySem.W.Frag) (ta:TE) (f:Str):TE:=fun σ H Q=>ta σ H fun x H1=>∃ a C dx fs v,x=.ref a∧H1 a=some (.ins C dx fs)∧Cls K C∧NoAttr K C f∧fs.lookup f=some v∧Q v H1
def sFld (K:PySem.W.Frag) (ta tv:TE) (f:Str):TS:=fun D σ H=>tv σ H fun y H1=>ta σ H1 fun x H2=>∃ a C dx fs,x=.ref a∧H2 a=some (.ins C dx fs)∧Cls K C∧NoAttr K C f∧fs.length<1000 ∧
 D.nx σ (upd H2 a (.ins C dx (putF f y fs)))
section
variable {X:Cx}{o e value:Expr}{f:Str}{pos pos' tpos:Pos}{ta tv:TE}
theorem by5 (he:PE X e ta) (hb:attributeBase e f X.env (eval e X.env)=eval e X.env):PE X (.Attribute e f pos) (tFld X.K ta f):=by
 intro pins s σ H Q I h
 refine bo1 hb (thn (he pins s σ H _ I h) ?_)
 rintro u s1 ⟨x,H1,I1,rx,a,C,dx,fs,v,ex,ea,c,n,l,q⟩
 subst ex
 obtain rfl:u=Value.ref a:=rx
 exact az9 I1 ea c n l fun u' s2 I2 ru=>⟨v,H1,I2,ru,q⟩
theorem by6 (ha:PE X o ta) (hv:PE X value tv) (hs:swapsWith value (some (.Attribute o f pos')) pos.line X.env=pure false):PS X (.Assign [.Attribute o f pos'] value pos) (sFld X.K ta tv f):=by
 intro pins s σ H D I h
 refine plainObj_wpAny_Assign_Attribute (thn (hv pins s σ H _ I h) ?_) hs
 rintro u s1 ⟨y,H1,I1,ry,q⟩
 refine thn (ha pins s1 σ H1 _ I1 q) ?_
 rintro ov s2 ⟨x,H2,I2,rx,a,C,dx,fs,ex,ea,c,n,l,q2⟩
 subst ex
 obtain rfl:ov=Value.ref a:=rx
 exact b00 I2 ea c n l ry fun s3 I3=>⟨σ,_,I3,q2⟩
end
section
variable {X:Cx}{pins:List (Addr×Obj)}{σ:St} {H:Hp}{s:Shared}{A:Around}{E:Value→Shared→Prop}{Q:Value→Shared→Prop}{c:Value}{b:Bool}
end
structure Room (k:Nat) (A:Around):Prop where
 hd:A.handled=none
 dp:A.depth+3*k+5<recursionLimit
 un:A.units+16*k+200<cLine
theorem Room.mono {j k:Nat}{A:Around}(r:Room k A) (h:j≤k):Room j A:=⟨r.hd,by have:=r.dp; omega,by have:=r.un; omega⟩
theorem Room.deeper {k:Nat}{A:Around}(r:Room (k+1) A) (env:Env):Room k (A.deeper env) :=
 ⟨r.hd,by have:=r.dp; show A.depth+1+3*k+5<_; omega,by have:=r.un; show A.units+3+16*k+200<_; omega⟩
theorem b01 {A:Around}{C:Addr}{us:List Value}{kw:List (Str×Value)}:(A.under (.builtin "type.__call__" ⟨.ref C::us,kw⟩)).depth=A.depth+1:=by
 first | rfl | simp [Around.under,Code.weight,Code.isCreation,Code.isGuard,Code.isCaller,Code.frames,Code.isFrame,guardIds]
theorem b02 {A:Around}{C:Addr}{us:List Value}{kw:List (Str×Value)}:(A.under (.builtin "type.__call__" ⟨.ref C::us,kw⟩)).units=A.units+1:=by
 first | rfl | simp [Around.under,Code.cUnits,Code.frames,Code.isFrame]
theorem Room.make {k:Nat}{A:Around}(r:Room (k+1) A) (C:Addr) (us:List Value) (kw:List (Str×Value)):Room k (A.under (.builtin "type.__call__" ⟨.ref C::us,kw⟩)) :=
 ⟨r.hd,by have:=r.dp; rw [b01]; omega,by have:=r.un; rw [b02]; omega⟩
theorem Room.depth {k:Nat}{A:Around}(r:Room k A):A.depth<recursionLimit:=by have:=r.dp; omega
theorem Room.units {k:Nat}{A:Around}(r:Room k A):A.units+64<cLine:=by have:=r.un; omega
def tNil:TA:=fun _ H Q=>Q [] H
def tCons (ta:TE) (tr:TA):TA:=fun σ H Q=>ta σ H fun x H1=>tr σ H1 fun xs H2=>Q (x::xs) H2
section
variable {X:Cx}{e:Expr}{es:List Expr}{te:TE}{t:TA}{pos:Pos}
theorem a01:PA X [] tNil:=fun _ _ _ _ H Q I h=>Calls.spliced_nil ⟨[],H,I,.nil,h⟩
theorem a00 (ha:PE X e te) (hr:PA X es t) (hs:starEach (e::es) X.env=(false,eval e X.env)::starEach es X.env:=by rfl):PA X (e::es) (tCons te t):=by
 intro pos pins s σ H Q I h
 rw [hs]
 show wpAny _ _ (spliced ((false,eval e X.env)::backTo pos (starEach es X.env))) _ _ s
 refine Calls.spliced_cons (thn (ha pins s σ H _ I h) ?_)
 rintro u s1 ⟨x,H1,I1,r1,q1⟩
 exact thn (hr pos pins s1 σ H1 _ I1 q1) (by rintro us s2 ⟨xs,H2,I2,r2,q2⟩; exact ⟨x::xs,H2,I2,.cons r1 r2,q2⟩)
end
abbrev Sp:=List V→Hp→VK→XK→Prop
abbrev CXT:=List Env→Hp→Shared→XK→Value→Shared→Prop
structure Env0 (P:Program) (w:World) (K:PySem.W.Frag) (mg:Str→Option Value) (base:Heap) (A:Around) (outer:List Env) (s:Shared) (H:Hp):Prop where
 frames:A.frames=some outer
 mod:Mod K mg base
 bs:∀ b o,base.get? b=some o→s.heap.get? b=some o∧H b=none
 bsz:base.objs.size≤s.heap.objs.size
 funs:s.heap.FunFrames base outer
 frf:∀ b∈frs outer,H b=none
 hok:HOk P w H s.heap
 bare:AllBare s.gens
def CE (outer:List Env) (P:Program) (w:World) (H:Hp) (s:Shared) (Q:VK) (u:Value) (s':Shared):Prop :=
 ∃ v H',s'.os=s.os∧AllBare s'.gens∧Un (frs outer) [] H H' s.heap s'.heap∧HOk P w H' s'.heap∧RelV v u∧Q v H'
def CR (CX:CXT) (outer:List Env) (P:Program) (w:World) (H:Hp) (s:Shared) (Q:VK) (E:XK) (r:Result) (s':Shared):Prop :=
 match r with
 | .ok (.ret u)=>CE outer P w H s Q u s'
 | .ok _=>False
 | .error e=>CX outer H s E e s'
structure FnOk (P:Program) (w:World) (K:PySem.W.Frag) (mg:Str→Option Value) (base:Heap) (CX:CXT) (k:Nat) (f:Addr) (fd:FuncData) (ps:List Str) (sp:Sp):Prop where
 len:∀ vs H Q E,sp vs H Q E→vs.length=ps.length
 run:∀ (A:Around) (outer:List Env) (s:Shared) (H:Hp) (args:Args) (us:List Value) (vs:List V) (Q:VK) (E:XK),Room k A→Env0 P w K mg base A outer s H→BindsTo s fd args (ps.zip us)→Vals vs us→sp vs H Q E →
  codeAny (model P w) A (.call (.ref f) args) (CR CX outer P w H s Q E) s
theorem Env0.make {P:Program}{w:World}{K:PySem.W.Frag}{mg:Str→Option Value}{base:Heap}{A:Around}{outer:List Env}{s:Shared}{H:Hp}(e:Env0 P w K mg base A outer s H) (C:Addr) (us:List Value) (kw:List (Str×Value)) :
 Env0 P w K mg base (A.under (.builtin "type.__call__" ⟨.ref C::us,kw⟩)) outer s H:=⟨by first | exact e.frames | (simpa [Around.under,Code.envs,Code.isFrame,pushEnvs] using e.frames),e.mod,e.bs,e.bsz,e.funs,e.frf,e.hok,e.bare⟩
section
variable {X:Cx}{pins:List (Addr×Obj)}{σ:St} {H:Hp}{s s':Shared}
theorem Inv.env0 (I:Inv X pins σ H s):Env0 X.prog X.w X.K X.mg X.base X.A X.stack s H :=
 ⟨I.ok.frames,I.ok.mod,I.bs,Nat.le_trans I.ok.bsz I.sz,I.stack,I.stkFree,I.hok,I.bare⟩
theorem Inv.after {Q:VK}{u:Value}(I:Inv X pins σ H s) (h:CE X.stack X.prog X.w H s Q u s'):EP X pins σ Q u s':=by
 obtain ⟨v,H',os,bare,un,hok,r,q⟩:=h
 obtain ⟨hh,g,d,t,os'⟩:=s'
 obtain rfl:os'=s.os:=os
 exact ⟨v,H',I.call (h':=hh) (g':=g) (d':=d) (t':=t) (ch:=[]) un hok bare (fun b z=>absurd z (by simp)),r,q⟩
end
def by7 (sp:Sp) (dvs:List V) (E:XK) (t:TA):TE:=fun σ H Q=>t σ H fun vs H1=>sp (vs++dvs) H1 Q E
def bo2 (C:Addr) (m:Str) (sp:Sp) (dvs:List V) (E:XK) (ta:TE) (t:TA):TE:=fun σ H Q=>ta σ H fun x H1=>∃ a dx fs,x=.ref a∧H1 a=some (.ins C dx fs)∧fs.lookup m=none ∧
 t σ H1 fun vs H2=>sp (x::(vs++dvs)) H2 Q E
def by8 (C:Addr) (sp:Sp) (dvs:List V) (E:XK) (t:TA):TE:=fun σ H Q=>t σ H fun vs H1=>∀ x dx,H1 x=none→H1 dx=none→dx≠x →
 sp (.ref x::(vs++dvs)) (upd (upd H1 dx (.own x)) x (.ins C dx [])) (fun v H2=>v=.non∧Q (.ref x) H2) E
def Binds (K:PySem.W.Frag) (fd:FuncData) (ps:List Str) (ds:List Value):Prop :=
 ∀ (s:Shared) (us:List Value),K.In s.heap→(us++ds).length=ps.length→BindsTo s fd ⟨us,[]⟩ (ps.zip (us++ds))
theorem Binds.all {K:PySem.W.Frag}{fd:FuncData}{ps:List Str}(h:∀ us:List Value,us.length=ps.length→bindArgs fd ⟨us,[]⟩=pure (ps.zip us)):Binds K fd ps []:=fun s us _ hl=>by
 rw [List.append_nil] at hl ⊢
 exact .of_eq (h us hl)
def ab5 (CX:CXT) (X:Cx) (E:XK):Prop:=∀ (pins:List (Addr×Obj)) (σ:St) (H:Hp) (s:Shared) (e:Value) (s':Shared),Inv X pins σ H s→CX X.stack H s E e s'→X.xe e s'
section
variable {X:Cx}{CX:CXT}{k:Nat}{f C:Addr}{fd:FuncData}{ps:List Str}{sp:Sp}{dvs:List V}{ds:List Value}{E:XK}{x m:Str}{p pos apos:Pos}{e o:Expr}{es:List Expr}{ta:TE}{t:TA}
theorem b30 {pins:List (Addr×Obj)}{σ:St} {H:Hp}{s:Shared}{Q:VK}{us:List Value}{vs:List V}(F:FnOk X.prog X.w X.K X.mg X.base CX k f fd ps sp) (hr:Room k X.A) (hb:Binds X.K fd ps ds) (hd:Vals dvs ds) (hx:ab5 CX X E)
 (I:Inv X pins σ H s) (r:Vals vs us) (h:sp (vs++dvs) H Q E):wpAny (model X.prog X.w) X.A (call (.ref f) us) (EP X pins σ Q) X.xe s:=by
 have r2:Vals (vs++dvs) (us++ds):=r.append hd
 have hl:(us++ds).length=ps.length:=by rw [← r2.length]; exact F.len _ _ _ _ h
 refine wpAny_call (codeAny_mono (F.run X.A X.stack s H ⟨us,[]⟩ (us++ds) (vs++dvs) Q E hr I.env0 (hb s us I.kIn hl) r2 h) fun r s' hq=>?_)
 cases r with
 | error e=>exact hx pins σ H s e s' I hq
 | ok fl =>
   cases fl with
   | ret u=>exact I.after hq
   | next=>exact False.elim hq
   | brk=>exact False.elim hq
   | cont=>exact False.elim hq
theorem a18 (F:FnOk X.prog X.w X.K X.mg X.base CX k f fd ps sp) (hr:Room k X.A) (hg:Gl X x) (hm:X.mg x=some (.ref f)) (hk:PySem.W.keepIn X.K (.ref f)=true) (hb:Binds X.K fd ps ds) (hd:Vals dvs ds) (hx:ab5 CX X E)
 (ha:PA X (e::es) t) (hdb:(x == ("__debug__":Str))=false:=by decide) (he:starEach (e::es) X.env=(false,eval e X.env)::starEach es X.env:=by rfl) (hpl:(backTo pos (starEach es X.env)).any (·.1)=false:=by rfl) :
 PE X (.Call (.Name x p) (e::es) [] pos) (by7 sp dvs E t):=by
 intro pins s σ H Q I h
 refine wpAny_Call_Name_kw (ag3 I hg hm ?_ hdb)
 refine PySem.W.callWith_K (h₀:=X.base) I.ok.mod.kin hk (thn (ha pos pins s σ H _ I h) ?_) he hpl
 rintro us s1 ⟨vs,H1,I1,r,q⟩
 refine ⟨I1.kIn,?_⟩
 exact b30 F hr hb hd hx I1 r q
theorem a51 {pl:Sem Bool}(he:PE X o ta) (c:Cls X.K C) (hm:Meth X.K C m f) (F:FnOk X.prog X.w X.K X.mg X.base CX k f fd ps sp) (hr:Room k X.A) (hb:Binds X.K fd ps ds) (hd:Vals dvs ds) (hx:ab5 CX X E) (ha:PA X (e::es) t)
 (hst:starEach (e::es) X.env=(false,eval e X.env)::starEach es X.env:=by rfl) (hpl:(backTo pos (starEach es X.env)).any (·.1)=false:=by rfl)
 (ht:eval (.Call (.Attribute o m apos) (e::es) [] pos) X.env=(do
  let ov←eval o X.env
  standAt apos.atName
  let (f,first)←holding [ov] (getMethod ov m pl)
  callWith pos f first (backTo pos (starEach (e::es) X.env)) (backToKw pos (keywordEach [] X.env))):=by rfl) :
 PE X (.Call (.Attribute o m apos) (e::es) [] pos) (bo2 C m sp dvs E ta t):=by
 intro pins s σ H Q I h
 refine PySem.W.methodCall_KW (pl:=pl) (thn (he pins s σ H _ I h) ?_) ht
 rintro u s1 ⟨x,H1,I1,rx,a,dx,fs,ex,ea,l,q⟩
 subst ex
 obtain rfl:u=Value.ref a:=rx
 refine al1 I1 ea c hm l ?_
 refine PySem.W.callWith_K (first:=[.ref a]) (h₀:=X.base) I.ok.mod.kin hm.kp (thn (ha pos pins s1 σ H1 _ I1 q) ?_) hst hpl
 rintro us s2 ⟨vs,H2,I2,r,q2⟩
 refine ⟨I2.kIn,?_⟩
 exact b30 (us:=.ref a::us) (vs:=.ref a::vs) F hr hb hd hx I2 (.cons rfl r) q2
theorem aw4 {pl:Sem Bool}(he:PE X o ta) (c:Cls X.K C) (hm:Meth X.K C m f) (F:FnOk X.prog X.w X.K X.mg X.base CX k f fd ps sp) (hr:Room k X.A) (hb:Binds X.K fd ps ds) (hd:Vals dvs ds) (hx:ab5 CX X E)
 (ht:eval (.Call (.Attribute o m apos) [] [] pos) X.env=(do
  let ov←eval o X.env
  standAt apos.atName
  let (f,first)←holding [ov] (getMethod ov m pl)
  callWith pos f first (backTo pos (starEach [] X.env)) (backToKw pos (keywordEach [] X.env))):=by rfl) :
 PE X (.Call (.Attribute o m apos) [] [] pos) (bo2 C m sp dvs E ta tNil):=by
 intro pins s σ H Q I h
 refine PySem.W.methodCall_KW (pl:=pl) (thn (he pins s σ H _ I h) ?_) ht
 rintro u s1 ⟨x,H1,I1,rx,a,dx,fs,ex,ea,l,q⟩
 subst ex
 obtain rfl:u=Value.ref a:=rx
 refine al1 I1 ea c hm l ?_
 exact PySem.W.callWith_K0 (first:=[.ref a]) I1.kIn hm.kp (b30 (us:=[.ref a]) (vs:=[.ref a]) F hr hb hd hx I1 (.cons rfl .nil) q)
structure Mk (K:PySem.W.Frag) (C f:Addr):Prop where
 makes:PySem.W.makesIn K C=true
 init:PySem.W.findIn K (.ref C) "__init__"=some (some (.ref f))
 fn:PySem.W.isFn K (.ref f)=true
 kp:PySem.W.keepIn K (.ref C)=true
theorem bc6 {pins:List (Addr×Obj)}{σ:St} {H:Hp}{s:Shared}{Q:VK}{us:List Value}{vs:List V}(M:Mk X.K C f) (F:FnOk X.prog X.w X.K X.mg X.base CX k f fd ps sp) (hr:Room (k+1) X.A) (hb:Binds X.K fd ps ds) (hd:Vals dvs ds)
 (hx:ab5 CX X E) (I:Inv X pins σ H s) (r:Vals vs us)
 (h:∀ x dx,H x=none→H dx=none→dx≠x→sp (.ref x::(vs++dvs)) (upd (upd H dx (.own x)) x (.ins C dx [])) (fun v H2=>v=.non∧Q (.ref x) H2) E) :
 wpAny (model X.prog X.w) X.A (call (.ref C) us) (EP X pins σ Q) X.xe s:=by
 have hq:=h (s.heap.objs.size+1) s.heap.objs.size (I.hok.fresh (Nat.le_succ _)) (I.hok.fresh (Nat.le_refl _)) (Nat.ne_of_lt (Nat.lt_succ_self _))
 have I2:=Inv.made (C:=C) I
 have r2:Vals (V.ref (s.heap.objs.size+1)::(vs++dvs)) (Value.ref (s.heap.objs.size+1)::(us++ds)):=.cons rfl (r.append hd)
 have hl:(Value.ref (s.heap.objs.size+1)::us++ds).length=ps.length:=by
  have e:=r2.length
  rw [F.len _ _ _ _ hq] at e
  exact e.symm
 refine wpAny_call (bc5 (f:=f) I.kIn M.makes M.init (beq_iff_eq.mp M.fn) (codeAny_mono (F.run _ X.stack _ _ ⟨Value.ref (s.heap.objs.size+1)::us,[]⟩ (Value.ref (s.heap.objs.size+1)::(us++ds)) _ _ E (hr.make C us [])
  (I2.env0.make C us []) (hb _ (Value.ref (s.heap.objs.size+1)::us) I2.kIn hl) r2 hq) fun r s' hq'=>?_))
 cases r with
 | error e=>exact hx pins σ _ _ e s' I2 hq'
 | ok fl =>
   cases fl with
   | ret u =>
     obtain ⟨v,H',I3,rv,ev,q3⟩:=I2.after hq'
     subst ev
     exact ⟨rv,⟨V.ref (s.heap.objs.size+1),H',I3,rfl,q3⟩⟩
   | next=>exact False.elim hq'
   | brk=>exact False.elim hq'
   | cont=>exact False.elim hq'
theorem at5 (M:Mk X.K C f) (F:FnOk X.prog X.w X.K X.mg X.base CX k f fd ps sp) (hr:Room (k+1) X.A) (hg:Gl X x) (hm:X.mg x=some (.ref C)) (hb:Binds X.K fd ps ds) (hd:Vals dvs ds) (hx:ab5 CX X E)
 (ha:PA X (e::es) t) (hdb:(x == ("__debug__":Str))=false:=by decide) (he:starEach (e::es) X.env=(false,eval e X.env)::starEach es X.env:=by rfl) (hpl:(backTo pos (starEach es X.env)).any (·.1)=false:=by rfl) :
 PE X (.Call (.Name x p) (e::es) [] pos) (by8 C sp dvs E t):=by
 intro pins s σ H Q I h
 refine wpAny_Call_Name_kw (ag3 I hg hm ?_ hdb)
 refine PySem.W.callWith_K (h₀:=X.base) I.ok.mod.kin M.kp (thn (ha pos pins s σ H _ I h) ?_) he hpl
 rintro us s1 ⟨vs,H1,I1,r,q⟩
 refine ⟨I1.kIn,?_⟩
 exact bc6 M F hr hb hd hx I1 r q
end
section
variable {X:Cx}{CX:CXT}{k:Nat}{f C:Addr}{fd:FuncData}{ps ks:List Str}{sp:Sp}{E:XK}{x m:Str}{p pos apos kpos:Pos}{e o:Expr}{es:List Expr}{kws:List Keyword}{te ta:TE}{t tk:TA}{nm:Option Str}
variable {g:List Value→List Value→List Value}{gV:List V→List V→List V}
end
structure FnScope (N P:List Str) (sc:Scope):Prop where
 kind:sc.kind=.function
 co:sc.isCoroutine=false
 gen:sc.isGenerator=false
 nd:N.Nodup
 pre:N.take P.length=P
 par:∀ x∈P,sc.names.lookup x=some .local∨sc.names.lookup x=some .cell
 nofree:∀ y∈sc.names,y.2≠.free
theorem ap4 {kindOf:Str→Option NameKind}{x:Str}:∀ {binds:List (Str×Value)}{m:Str→Option Value},(∀ v,(x,v)∉binds)→bindL kindOf binds m x=m x
 | [],_,_=>rfl
 | (n,v)::r,m,h=>by
   unfold bindL
   rw [ap4 fun w hw=>h w (List.mem_cons_of_mem _ hw)]
   split
   · have:x≠n:=by rintro rfl; exact h v List.mem_cons_self
     simp [this]
   · rfl
theorem ap5 {kindOf:Str→Option NameKind}{x:Str}:∀ {binds:List (Str×Value)}{m:Str→Option Value},(∀ v,(x,v)∉binds)→bindC kindOf binds m x=m x
 | [],_,_=>rfl
 | (n,v)::r,m,h=>by
   unfold bindC
   rw [ap5 fun w hw=>h w (List.mem_cons_of_mem _ hw)]
   split
   · rfl
   · have:x≠n:=by rintro rfl; exact h v List.mem_cons_self
     simp [this]
theorem ap6 {kindOf:Str→Option NameKind}{x:Str}{v:Value}:∀ {P:List Str}{vs:List Value}{i:Nat}{m:Str→Option Value},P.Nodup→P[i]?=some x→vs[i]?=some v→kindOf x=some .local →
 bindL kindOf (P.zip vs) m x=some v
 | [],_,_,_,_,h,_,_=>by simp at h
 | _::_,[],_,_,_,_,h,_=>by simp at h
 | p::P,w::vs,0,m,nd,h1,h2,hk=>by
   simp at h1 h2; subst h1; subst h2
   show bindL kindOf ((p,w)::P.zip vs) m p=_
   unfold bindL
   rw [ap4 fun v hv=>(List.nodup_cons.mp nd).1 (List.of_mem_zip hv).1,if_pos hk]
   simp
 | p::P,w::vs,i+1,m,nd,h1,h2,hk=>by
   show bindL kindOf ((p,w)::P.zip vs) m x=_
   unfold bindL
   exact ap6 (i:=i) (List.nodup_cons.mp nd).2 (by simpa using h1) (by simpa using h2) hk
theorem ap7 {kindOf:Str→Option NameKind}{x:Str}{v:Value}:∀ {P:List Str}{vs:List Value}{i:Nat}{m:Str→Option Value},P.Nodup→P[i]?=some x→vs[i]?=some v→kindOf x≠some .local →
 bindC kindOf (P.zip vs) m x=some v
 | [],_,_,_,_,h,_,_=>by simp at h
 | _::_,[],_,_,_,_,h,_=>by simp at h
 | p::P,w::vs,0,m,nd,h1,h2,hk=>by
   simp at h1 h2; subst h1; subst h2
   show bindC kindOf ((p,w)::P.zip vs) m p=_
   unfold bindC
   rw [ap5 fun v hv=>(List.nodup_cons.mp nd).1 (List.of_mem_zip hv).1,if_neg hk]
   simp
 | p::P,w::vs,i+1,m,nd,h1,h2,hk=>by
   show bindC kindOf ((p,w)::P.zip vs) m x=_
   unfold bindC
   exact ap7 (i:=i) (List.nodup_cons.mp nd).2 (by simpa using h1) (by simpa using h2) hk
def start (N:List Str) (vs:List V):St:=vs.map some++List.replicate (N.length - vs.length) none
def cxOf (CX:CXT) (P:Program) (w:World) (K:PySem.W.Frag) (mg:Str→Option Value) (base:Heap) (N:List Str) (qual:Str) (scope:Scope) (f:Addr) (cd:Value) (A:Around) (outer:List Env) (s:Shared) (H:Hp) (E:XK):Cx where
 prog:=P
 w:=w
 K:=K
 mg:=mg
 base:=base
 A:=A.deeper (envOfC qual scope s.heap.objs.size f cd)
 N:=N
 s₀:=s
 H₀:=H
 env:=envOfC qual scope s.heap.objs.size f cd
 outer:=outer
 stack:=envOfC qual scope s.heap.objs.size f cd::outer
 ex:=[]
 calm:=true
 fn:=fun _=>true
 pn:=[]
 xe:=fun e s'=>wpAny (model P w) (A.deeper (envOfC qual scope s.heap.objs.size f cd)) (leaving (envOfC qual scope s.heap.objs.size f cd) e) (fun _ s''=>CX outer H s E e s'') (fun e' s''=>CX outer H s E e' s'') s'
theorem aw5 {sc:Scope}{n:Nat}{x:Str}(h:sc.names.lookup x=some .cell):∃ c,(cellsFrom n sc.names []).lookup x=some c:=by
 have q:=PySem.W.cellsFrom_some sc.names n [] (.inl h)
 exact Option.isSome_iff_exists.mp q
theorem b31 {CX:CXT}{P:Program}{w:World}{K:PySem.W.Frag}{mg:Str→Option Value}{base:Heap}{N ps:List Str}{qual:Str}{scope:Scope}{f:Addr}{cd:Value}{A:Around}{outer:List Env}{s s1:Shared}{H:Hp}{E:XK}{us:List Value}{vs:List V}
 (S:FnScope N ps scope) (hd:A.handled=none) (e0:Env0 P w K mg base A outer s H) (hl:vs.length=ps.length) (r:Vals vs us)
 (x:InCallC s s.heap.objs.size (bindL (envOfC qual scope s.heap.objs.size f cd).kindOf (ps.zip us) fun _=>none) (cellsFrom (s.heap.objs.size+1) scope.names []) (bindC (envOfC qual scope s.heap.objs.size f cd).kindOf (ps.zip us) fun _=>none) s1) :
 Inv (cxOf CX P w K mg base N qual scope f cd A outer s H E) [] (start N vs) H s1:=by
 have hpl:ps.length≤N.length:=by have:=congrArg List.length S.pre; rw [List.length_take] at this; omega
 obtain ⟨h1,tk,rfl,hk⟩:=x.done
 have noA:∀ b:Addr,b∉(cxOf CX P w K mg base N qual scope f cd A outer s H E).ex:=fun b z=>absurd (show b∈([]:List Addr) from z) (by simp)
 refine ⟨⟨e0.mod,S.kind,rfl,rfl,Nat.le_refl _,fun y z c h1 h2=>?_,fun y hy=>?_,fun y c _ h=>?_,fun _=>hd,Around.frames_deeper e0.frames,.inr ⟨rfl,rfl⟩,fun b z=>absurd z (noA b),e0.bs,e0.bsz,fun b _ _=>noA b,fun b z=>absurd z (noA b),e0.funs,e0.frf⟩,
  rfl,e0.bare,Un.kept hk,⟨_,x.toInCall.ns,fun i y v h1 h2 h3=>?_⟩,fun y c h=>⟨_,x.cell y c h⟩,e0.hok.fresh (Nat.le_refl _),fun y c h=>?_,fun p hp=>absurd (show p∈([]:List (Addr×Obj)) from hp) (by simp),e0.hok.kept hk,?_⟩
 · exact name_of_addr x.apart (PySem.mem_of_lookup h1) (PySem.mem_of_lookup h2)
 · have hy:scope.names.lookup y=some .cell∨scope.names.lookup y=some .free:=hy
   rcases hy with hy | hy
   · exact aw5 hy
   · exact absurd rfl (S.nofree _ (PySem.mem_of_lookup hy))
 · exact Nat.le_of_lt (x.above y c (PySem.mem_of_lookup h))
 · have hi:i<vs.length:=by
    unfold start at h2
    by_cases hi:i<vs.length
    · exact hi
    · rw [List.getElem?_append_right (by simpa using hi)] at h2
      rw [List.getElem?_replicate] at h2
      split at h2 <;> cases h2
   have ha:vs[i]?=some v:=by
    unfold start at h2
    rw [List.getElem?_append_left (by simpa using hi),List.getElem?_map] at h2
    cases e:vs[i]? with
    | none=>rw [e] at h2; cases h2
    | some a=>rw [e] at h2; cases h2; rfl
   obtain ⟨u,hu,rv⟩:=r.get ha
   have hp:ps[i]?=some y:=by
    rw [← S.pre,List.getElem?_take_of_lt (by omega)]; exact h1
   have ndP:ps.Nodup:=by rw [← S.pre]; exact S.nd.sublist (List.take_sublist _ _)
   refine ⟨u,rv,?_⟩
   rcases S.par y (List.mem_of_getElem? hp) with k | k
   · exact .inl ⟨k,ap6 ndP hp hu k⟩
   · obtain ⟨c,e⟩:=aw5 (n:=s.heap.objs.size+1) k
     refine .inr ⟨.inl k,c,e,?_⟩
     have q:=x.cell y c e
     rw [ap7 ndP hp hu (by show scope.names.lookup y≠_; rw [k]; decide)] at q
     exact q
 · exact e0.hok.fresh (Nat.le_of_lt (x.above y c (PySem.mem_of_lookup h)))
 · unfold start
   show _=N.length
   rw [List.length_append,List.length_map,List.length_replicate]
   omega
theorem by9 {CX:CXT}{P:Program}{w:World}{K:PySem.W.Frag}{mg:Str→Option Value}{base:Heap}{k:Nat}{f:Addr}{name qual:Str}{params:Arguments}{body:List Stmt}{scope:Scope}{dV kV doc pm cdv ct oc:Value}{an od:Option Addr}
 {osl:Array (Option Value)}{N ps:List Str}{sp:Sp}(lk:K.lookup f=some ⟨oc,od,.func (PySem.W.fnOf name qual params body scope dV kV doc pm an cdv ct),osl⟩) (hcd:PySem.W.codeIn K cdv qual=true) (S:FnScope N ps scope)
 (len:∀ vs H Q E,sp vs H Q E→vs.length=ps.length)
 (hbody:∀ (A:Around) (outer:List Env) (s:Shared) (H:Hp) (vs:List V) (Q:VK) (E:XK),Room k (A.deeper (envOfC qual scope s.heap.objs.size f cdv))→sp vs H Q E →
  ∃ t,PSs (cxOf CX P w K mg base N qual scope f cdv A outer s H E) body t∧t { nx:=fun _ H'=>Q .non H',rt:=Q } (start N vs) H) :
 FnOk P w K mg base CX (k+1) f (PySem.W.fnOf name qual params body scope dV kV doc pm an cdv ct) ps sp:=by
 refine ⟨len,fun A outer s H args us vs Q E hr e0 hb r hsp=>?_⟩
 have hl:=len _ _ _ _ hsp
 have KX:K.In s.heap:=e0.mod.kin.keeps fun b o e=>(e0.bs b o e).1
 have lim:s.heap.NoLimit:=e0.mod.nolimit.keeps fun b o e=>(e0.bs b o e).1
 have hkind:∀ y∈ps.zip us,scope.names.lookup y.1=some .local∨(scope.names.lookup y.1=some .cell∧((cellsFrom (s.heap.objs.size+1) scope.names []).lookup y.1).isSome=true):=fun ⟨n,v⟩ hy=>by
  rcases S.par n (List.of_mem_zip hy).1 with q | q
  · exact .inl q
  · exact .inr ⟨q,PySem.W.cellsFrom_some _ _ _ (.inl q)⟩
 refine codeAny_call_function hr.depth (KX _ _ lk) rfl S.co S.gen rfl (PySem.W.codeRec_of KX hcd) (hb _ _ _ _ ?_)
 refine wpAny_newFunctionEnv_cells S.kind hkind fun env he s1 x=>?_
 subst he
 refine ⟨lim.keeps x.toInCall.keep,codeAny_func ?_⟩
 obtain ⟨t,ht,hq⟩:=hbody A outer s H vs Q E (hr.deeper _) hsp
 have I:Inv (cxOf CX P w K mg base N qual scope f cdv A outer s H E) [] (start N vs) H s1:=b31 S hr.hd e0 hl r x
 refine wpAny_mono (ht [] s1 (start N vs) H _ I hq) (fun fl s' hs=>?_) fun e s' hs=>hs
 have fin:∀ {σ':St} {H':Hp}{v:V}{u:Value},Inv (cxOf CX P w K mg base N qual scope f cdv A outer s H E) [] σ' H' s'→RelV v u→Q v H'→CE outer P w H s Q u s' :=
  fun {σ' H' v u} J rv q=>⟨v,H',J.os,J.bare,J.base,J.hok,rv,q⟩
 cases fl with
 | ret u =>
   obtain ⟨v,σ',H',J,rv,q⟩:=hs
   exact fin J rv q
 | next =>
   obtain ⟨σ',H',J,q⟩:=hs
   exact fin (v:=V.non) (u:=Value.none) J rfl q
 | brk =>
   obtain ⟨_,_,_,q⟩:=hs
   exact False.elim q
 | cont =>
   obtain ⟨_,_,_,q⟩:=hs
   exact False.elim q
section
variable {X:Cx}{x:Str}{p pos:Pos}{e:Expr}{es:List Expr}{t:TA}{id T:String}{r:List V→Hp→VK→Prop}
def tCB (r:List V→Hp→VK→Prop) (t:TA):TE:=fun σ H Q=>t σ H fun vs H1=>r vs H1 Q
theorem a37 (hc:CallR X (.builtin id) r) (hg:Gl X x) (hm:X.mg x=none) (hv:bootBuiltins x=some (.builtin id)) (ha:PA X (e::es) t) (hn:x≠"__name__":=by decide) (hdb:(x == ("__debug__":Str))=false:=by decide)
 (he:starEach (e::es) X.env=(false,eval e X.env)::starEach es X.env:=by rfl) (hpl:(backTo pos (starEach es X.env)).any (·.1)=false:=by rfl):PE X (.Call (.Name x p) (e::es) [] pos) (tCB r t):=by
 intro pins s σ H Q I h
 refine wpAny_Call_Name_kw (ak9 I hg hm hv ?_ hn hdb)
 exact PyProof.Rows.callWith_builtin1 (thn (ha pos pins s σ H _ I h) (by rintro us s1 ⟨vs,H1,I1,r1,q1⟩; exact hc pins s1 σ H1 vs us Q I1 r1 q1)) he hpl
theorem a41 (hc:CallR X (.type T) r) (hg:Gl X x) (hm:X.mg x=none) (hv:bootBuiltins x=some (.type T)) (ha:PA X (e::es) t) (hn:x≠"__name__":=by decide) (hdb:(x == ("__debug__":Str))=false:=by decide)
 (he:starEach (e::es) X.env=(false,eval e X.env)::starEach es X.env:=by rfl) (hpl:(backTo pos (starEach es X.env)).any (·.1)=false:=by rfl):PE X (.Call (.Name x p) (e::es) [] pos) (tCB r t):=by
 intro pins s σ H Q I h
 refine wpAny_Call_Name_kw (ak9 I hg hm hv ?_ hn hdb)
 exact PyProof.Rows.callWith_type1 (thn (ha pos pins s σ H _ I h) (by rintro us s1 ⟨vs,H1,I1,r1,q1⟩; exact hc pins s1 σ H1 vs us Q I1 r1 q1)) he hpl
end
end L2
namespace HT
open PySem PyProof.Rows
section
open PySem.SeqAt
open PySem.AutoSeq1 (wpAny_loadPart')
open PySem.MeetsSeq PySem.MeetsSeq2 PySem.MeetsSeq3
end
section
variable {prog:Program}{w:World}{A:Around}{E:Value→Shared→Prop}{s:Shared}
def sIx (n d:Nat):Option Int→Nat
 | none=>d
 | some v=>if v<0 then (v+(n:Int)).toNat else min v.toNat n
theorem sIx_none (n d:Nat):sIx n d none=d:=rfl
theorem sIx_nat (n d k:Nat):sIx n d (some (k:Int))=min k n:=by
 show (if (k:Int)<0 then ((k:Int)+(n:Int)).toNat else min (k:Int).toNat n)=min k n
 rw [if_neg (by omega),Int.toNat_natCast]
theorem bz0 (n d:Nat) (hd:d≤n) (o:Option Int):sIx n d o≤n:=by
 cases o with
 | none=>exact hd
 | some v =>
   show (if v<0 then (v+(n:Int)).toNat else min v.toNat n)≤n
   by_cases hv:v<0
   · rw [if_pos hv]; omega
   · rw [if_neg hv]; exact Nat.min_le_right _ _
theorem b32 (v:Int) (n d:Nat):(if v<0 then max (v+(n:Int)) 0 else min v (n:Int))=((sIx n d (some v):Nat):Int):=by
 show (if v<0 then max (v+(n:Int)) 0 else min v (n:Int))=(((if v<0 then (v+(n:Int)).toNat else min v.toNat n):Nat):Int)
 by_cases hv:v<0
 · simp only [if_pos hv]; omega
 · simp only [if_neg hv]; omega
theorem b03 (lo hi:Option Int) (n:Nat):Builtin.Slice.sliceAdjust lo hi 1 (n:Int)=(((sIx n 0 lo:Nat):Int),((sIx n n hi:Nat):Int)):=by
 have h1:¬ ((1:Int)<0):=by omega
 unfold Builtin.Slice.sliceAdjust
 simp only [h1,if_false]
 refine Prod.ext ?_ ?_
 · cases lo with
   | none=>rfl
   | some v=>exact b32 v n 0
 · cases hi with
   | none=>rfl
   | some v=>exact b32 v n n
theorem b04 (i j:Nat):Builtin.Slice.slicePlaces (i:Int) (j:Int) 1=j - i:=by
 unfold Builtin.Slice.slicePlaces
 have h1:(1:Int) > 0:=by omega
 simp only [h1,if_true,Int.ediv_one]
 split <;> omega
theorem al2 {v:Value}{o:Option Int}{Q:Option Int→Shared→Prop}(p:IsPart v o) (h:Q o s):wpAny (model prog w) A (Builtin.Slice.slicePartIndex v) Q E s:=by
 cases p with
 | none=>exact slicePart_none h
 | int i t=>exact slicePart_int h
theorem sliceApplied_gen {sl:Addr}{vl vu:Value}{lo hi:Option Int}{n:Nat}{Q:Int×Int×Nat→Shared→Prop}(hs:s.heap.IsSliceOf sl vl vu .none) (pl:IsPart vl lo) (pu:IsPart vu hi)
 (h:Q (((sIx n 0 lo:Nat):Int),1,sIx n n hi - sIx n 0 lo) s):wpAny (model prog w) A (Builtin.Slice.sliceApplied (.ref sl) (pure (n:Int))) Q E s:=by
 obtain ⟨os,hos,hcs,hds⟩:=id hs
 unfold Builtin.Slice.sliceApplied Builtin.Slice.sliceFields
 refine wpAny_bind (wpAny_bind (wpAny_field hos hds (x:=vl) rfl (wpAny_bind (wpAny_field hos hds (x:=vu) rfl (wpAny_bind (wpAny_field hos hds (x:=.none) rfl (wpAny_pure ?_)))))))
 refine wpAny_bind (slicePart_none ?_)
 show wpAny _ _ (if ((1:Int) == 0)=true then _ else _) _ _ s
 rw [if_neg (by decide)]
 refine wpAny_bind (al2 pl (wpAny_bind (al2 pu (wpAny_bind (wpAny_pure ?_)))))
 show wpAny _ _ (match Builtin.Slice.sliceAdjust lo hi 1 (n:Int) with | (lo,hi)=>pure (lo,(1:Int),Builtin.Slice.slicePlaces lo hi 1)) _ _ s
 rw [b03 lo hi n]
 show wpAny _ _ (pure (((sIx n 0 lo:Nat):Int),(1:Int),Builtin.Slice.slicePlaces ((sIx n 0 lo:Nat):Int) ((sIx n n hi:Nat):Int) 1)) _ _ s
 rw [b04]
 exact wpAny_pure h
theorem bc7 (xs:Array Value) (i k:Nat):((List.range k).filterMap fun (m:Nat)=>xs[((i:Int)+(m:Int)*1).toNat]?).toArray=((xs.toList.drop i).take k).toArray:=by
 have e:(fun (m:Nat)=>xs[((i:Int)+(m:Int)*1).toNat]?)=fun m=>xs[i+m]?:=by
  funext m
  have:((i:Int)+(m:Int)*1).toNat=i+m:=by omega
  rw [this]
 rw [e]
 have:=pick_run xs i k
 rw [List.filterMap_map] at this
 have e2:((fun x=>xs[x]?)∘fun x=>i+x)=fun m=>xs[i+m]?:=rfl
 rw [e2] at this
 rw [this]
theorem getItem_tuple_cut {t sl:Addr}{items:Array Value}{vl vu:Value}{lo hi:Option Int}{Q:Value→Shared→Prop}(ht:IsTup s.heap t items) (hs:s.heap.IsSliceOf sl vl vu .none) (pl:IsPart vl lo) (pu:IsPart vu hi)
 (hw:¬ (sIx items.size 0 lo=0∧sIx items.size items.size hi=items.size))
 (h:Q (.ref s.heap.objs.size) { s with heap:=s.heap.push { cls:=.type "tuple",data:=.seq ((items.toList.drop (sIx items.size 0 lo)).take (sIx items.size items.size hi - sIx items.size 0 lo)).toArray } })
 (hsz:items.size≤sizeLine):wpAny (model prog w) A (getItem (.ref t) (.ref sl)) Q E s:=by
 have htake:sizeOk (.seq ((items.toList.drop (sIx items.size 0 lo)).take (sIx items.size items.size hi - sIx items.size 0 lo)).toArray):=by
  show ((items.toList.drop (sIx items.size 0 lo)).take (sIx items.size items.size hi - sIx items.size 0 lo)).toArray.size≤sizeLine
  rw [List.size_toArray,List.length_take,List.length_drop,Array.length_toList]
  omega
 have hj:sIx items.size items.size hi≤items.size:=bz0 _ _ (Nat.le_refl _) hi
 obtain ⟨os,hos,hcs,hds⟩:=id hs
 have hTs:s.TypeIs (.ref sl) "slice":=⟨os,hos,hcs⟩
 unfold getItem
 try with_reducible refine wpAny_holding ?_
 first | refine wpAny_bind (wpAny_pure ?_) | skip
 refine wpAny_bind (wpAny_sequenceKey ht.typeIs (by decide) ?_)
 refine wpAny_bind (wpAny_callSpecial?_slot (name:=Str.ofString "__getitem__") ht.typeIs PyProof.Rows.slot_tuple_getitem
  (wpAny_call_entry PyProof.Rows.slot_tuple_getitem ht.typeIs entry_tuple_getitem ?_ (args_tuple_getitem _ _)))
 show wpAny _ _ (Builtin.Tuple.tupleItemsOf (.ref t) >>= _) _ _ s
 refine wpAny_bind (tupleItemsOf_ ht ?_)
 refine wpAny_bind (wpAny_typeOf hTs ?_)
 rw [if_pos (by decide)]
 refine wpAny_bind (sliceApplied_gen hs pl pu ?_)
 have hno:¬ ((((sIx items.size 0 lo:Nat):Int) == 0 && (1:Int) == 1 && (sIx items.size items.size hi - sIx items.size 0 lo) == items.size)=true):=by
  intro q
  rw [Bool.and_eq_true,Bool.and_eq_true] at q
  have q1:((sIx items.size 0 lo:Nat):Int)=0:=eq_of_beq q.1.1
  have q2:sIx items.size items.size hi - sIx items.size 0 lo=items.size:=eq_of_beq q.2
  exact hw ⟨by omega,by omega⟩
 show wpAny _ _ (if (((sIx items.size 0 lo:Nat):Int) == 0 && (1:Int) == 1 && (sIx items.size items.size hi - sIx items.size 0 lo) == items.size)=true then _ else _) _ _ s
 rw [if_neg hno,bc7]
 first
  | exact wpAny_bind (m:=Builtin.Tuple.tupleExact _) (wpAny_newObj_type (wpAny_pure ⟨_,rfl,wpAny_pure h⟩) htake)
  | exact wpAny_bind (m:=Builtin.Tuple.tupleExact _) (wpAny_newObj_type (wpAny_bind (wpAny_pure (wpAny_pure ⟨_,rfl,wpAny_pure h⟩))) htake)
  | exact wpAny_bind (wpAny_bind (m:=Builtin.Tuple.tupleExact _) (wpAny_newObj_type (wpAny_pure (wpAny_pure ⟨_,rfl,wpAny_pure h⟩)) htake))
  | exact wpAny_bind (wpAny_bind (m:=Builtin.Tuple.tupleExact _) (wpAny_newObj_type (wpAny_pure ⟨_,rfl,wpAny_pure h⟩) htake))
end
end HT
namespace L2
open PySem PySem.Spec PyProof.Rows
abbrev TO:=St→Hp→(Option Int→Hp→Prop)→Prop
def PO (X:Cx) (e:Option Expr) (t:TO):Prop :=
 ∀ (pins:List (Addr×Obj)) (s:Shared) (σ:St) (H:Hp) (Q:Option Int→Hp→Prop),Inv X pins σ H s→t σ H Q →
  wpAny (model X.prog X.w) X.A (evalPart e X.env) (fun u s'=>∃ o H',Inv X pins σ H' s'∧IsPart u o∧Q o H') X.xe s
def b33:TO:=fun _ H Q=>Q none H
def bz1 (t:TE):TO:=fun σ H Q=>t σ H fun x H1=>∃ i,x=.int i∧Q (some i) H1
theorem b05 {ns:List Int}:∀ {us:List Value},Vals (ns.map V.int) us→IntsAre us ns:=by
 induction ns with
 | nil=>intro us r; rw [List.map_nil] at r; cases r; exact .nil
 | cons n ns ih =>
   intro us r
   rw [List.map_cons] at r
   cases r with
   | cons r1 r2 =>
     obtain ⟨t,e⟩:=r1
     subst e
     exact .cons n t (ih r2)
section
variable {X:Cx}{e:Expr}{te:TE}{lo hi:Option Expr}{tl th:TO}{pos p2:Pos}
theorem ag6:PO X none b33:=by
 intro pins s σ H Q I h
 rw [evalPart_none]
 exact wpAny_pure ⟨none,H,I,.none,h⟩
theorem ag7 (h:PE X e te):PO X (some e) (bz1 te):=by
 intro pins s σ H Q I hw
 rw [evalPart_some]
 refine thn (h pins s σ H _ I hw) ?_
 rintro u s1 ⟨x,H1,I1,r1,q1⟩
 obtain ⟨i,rfl,q⟩:=q1
 obtain ⟨t,rfl⟩:=r1
 exact ⟨some i,H1,I1,.int i t,q⟩
def SlR (X:Cx) (r:V→Option Int→Option Int→Hp→VK→Prop):Prop :=
 ∀ (pins:List (Addr×Obj)) (s:Shared) (σ:St) (H:Hp) (x:V) (v vl vu:Value) (lo hi:Option Int) (sl:Addr) (Q:VK),Inv X pins σ H s→RelV x v→s.heap.IsSliceOf sl vl vu .none→IsPart vl lo→IsPart vu hi→r x lo hi H Q →
  ∃ T id,typeLookup (.type T) "__getitem__"=pure (some (.builtin id))∧s.TypeIs v T∧wpAny (model X.prog X.w) X.A (getItem v (.ref sl)) (EP X pins σ Q) X.xe s
def tSl (r:V→Option Int→Option Int→Hp→VK→Prop) (te:TE) (tl th:TO):TE:=fun σ H Q=>te σ H fun x H1=>tl σ H1 fun l H2=>th σ H2 fun u H3=>r x l u H3 Q
theorem ad4 {r:V→Option Int→Option Int→Hp→VK→Prop}(hr:SlR X r) (he:PE X e te) (hl:PO X lo tl) (hu:PO X hi th):PE X (.Subscript e (.Slice lo hi none p2) pos) (tSl r te tl th):=by
 intro pins s σ H Q I h
 refine Subscript_ (thn (he pins s σ H _ I h) ?_)
 rintro v s1 ⟨x,H1,I1,r1,q1⟩
 refine wpAny_Slice (thn (hl pins s1 σ H1 _ I1 q1) ?_)
 rintro vl s2 ⟨l,H2,I2,pl,q2⟩
 refine thn (hu pins s2 σ H2 _ I2 q2) ?_
 rintro vu s3 ⟨u,H3,I3,pu,q3⟩
 rw [evalPart_none]
 refine wpAny_pure ?_
 have I4:Inv X pins σ H3 { s3 with heap:=s3.heap.push { cls:=.type "slice",data:=.fields #[vl,vu,.none] } }:=I3.kept (t':=s3.toks) fun b ob q=>Heap.get?_push_of_some _ q
 obtain ⟨T,id,hT,ht,hg⟩:=hr pins { s3 with heap:=s3.heap.push { cls:=.type "slice",data:=.fields #[vl,vu,.none] } } σ H3 x v vl vu l u s3.heap.objs.size Q I4 r1 (Heap.IsSliceOf.new ..) pl pu q3
 show wpAny (model X.prog X.w) X.A (subscriptTail e (.Slice lo hi none p2) v (.ref s3.heap.objs.size)) (EP X pins σ Q) X.xe { s3 with heap:=s3.heap.push { cls:=.type "slice",data:=.fields #[vl,vu,.none] } }
 exact tail_any (ops:=[.ref s3.heap.objs.size,v]) ht hT hg (by with_unfolding_all rfl)
def cutV (xs:List V) (lo hi:Option Int):List V:=(xs.drop (HT.sIx xs.length 0 lo)).take (HT.sIx xs.length xs.length hi - HT.sIx xs.length 0 lo)
theorem ag8 (xs:List V) (lo hi:Option Int):(cutV xs lo hi).length≤xs.length:=by
 unfold cutV
 rw [List.length_take,List.length_drop]
 omega
def rSlT (K:PySem.W.Frag):V→Option Int→Option Int→Hp→VK→Prop:=fun x lo hi H Q=>∃ a xs,x=.ref a∧SqT K H a xs ∧
 ¬ (HT.sIx xs.length 0 lo=0∧HT.sIx xs.length xs.length hi=xs.length)∧∀ p,H p=none→Q (.ref p) (upd H p (.tup (cutV xs lo hi)))
theorem bz2:SlR X (rSlT X.K):=by
 intro pins s σ H x v vl vu lo hi sl Q I rx hs pl pu h
 obtain ⟨a,xs,rfl,hx,hw,q⟩:=h
 cases rx
 obtain ⟨its,r,ht,hz⟩:=I.tuple hx
 have hlen:its.toArray.size=xs.length:=by rw [List.size_toArray]; exact r.length.symm
 refine ⟨"tuple",_,PyProof.Rows.slot_tuple_getitem.lookup,ht.typeIs,?_⟩
 refine HT.getItem_tuple_cut ht hs pl pu (by rw [hlen]; exact hw) ?_ (by rw [hlen]; exact hz)
 rw [hlen]
 refine ⟨.ref s.heap.objs.size,_,I.laid (t':=s.toks) (o:=.tup (cutV xs lo hi)) (fun b ob q=>Heap.get?_push_of_some _ q) (Nat.le_refl _) ?_,rfl,q _ (I.hok.fresh (Nat.le_refl _))⟩
 exact ⟨Nat.le_trans (ag8 xs lo hi) hz,_,(r.drop (HT.sIx xs.length 0 lo)).take (HT.sIx xs.length xs.length hi - HT.sIx xs.length 0 lo),IsTup.new _ _⟩
theorem Vals.nil_iff {xs:List V}{us:List Value}(r:Vals xs us):us=[]↔xs=[]:=by
 cases r with
 | nil=>simp
 | cons _ _=>simp
end
def ixN (n:Nat) (i:Int):Option Nat:=if 0≤i then (if i<n then some i.toNat else none) else if -(n:Int)≤i then some (i+n).toNat else none
def atI {α:Type}(xs:List α) (i:Int):Option α:=(ixN xs.length i).bind fun j=>xs[j]?
theorem b34 {n:Nat}{i:Int}{j:Nat}(h:ixN n i=some j):seqIndex? i n=some j∧j<n∧-(n:Int)≤i∧i<n:=by
 unfold ixN at h
 by_cases h0:0≤i
 · rw [if_pos h0] at h
   by_cases h1:i<n
   · rw [if_pos h1] at h
     have e:i.toNat=j:=Option.some.inj h
     exact ⟨by rw [seqIndex_of h0 h1,e],by omega,by omega,h1⟩
   · rw [if_neg h1] at h; cases h
 · rw [if_neg h0] at h
   by_cases h1:-(n:Int)≤i
   · rw [if_pos h1] at h
     have e:(i+n).toNat=j:=Option.some.inj h
     exact ⟨by rw [seqIndex_neg (by omega) h1,e],by omega,h1,by omega⟩
   · rw [if_neg h1] at h; cases h
theorem b35 {α:Type}{xs:List α}{i:Int}{v:α}(h:atI xs i=some v):∃ j,seqIndex? i xs.length=some j∧xs[j]?=some v∧j<xs.length∧-(xs.length:Int)≤i∧i<xs.length:=by
 unfold atI at h
 cases e:ixN xs.length i with
 | none=>rw [e] at h; cases h
 | some j =>
   rw [e] at h
   obtain ⟨h1,h2,h3,h4⟩:=b34 e
   exact ⟨j,h1,h,h2,h3,h4⟩
theorem a04 {α:Type}{xs:List α}{j:Nat}{v:α}(h:xs[j]?=some v):atI xs (j:Int)=some v:=by
 have hj:j<xs.length:=(List.getElem?_eq_some_iff.mp h).1
 have e:ixN xs.length (j:Int)=some j:=by
  unfold ixN
  rw [if_pos (by omega),if_pos (by omega)]; simp
 unfold atI; rw [e]; exact h
theorem bc8 {α:Type}(xs:List α) (v:α):atI (xs++[v]) (-1)=some v:=by
 have hl:(xs++[v]).length=xs.length+1:=by simp
 have e:ixN (xs++[v]).length (-1)=some xs.length:=by
  unfold ixN
  rw [hl,if_neg (by decide),if_pos (by omega)]
  congr 1
  omega
 unfold atI
 rw [e]
 show (xs++[v])[xs.length]?=some v
 simp
def bo3 (b:Expr):Prop:=∀ o i,subscripted b false o i=operate [o,i] (getItem o i)
def IxR (X:Cx) (r:R2):Prop :=
 ∀ (value slice:Expr) (pins:List (Addr×Obj)) (s:Shared) (σ:St) (H:Hp) (x y:V) (v u:Value) (Q:VK),Inv X pins σ H s→RelV x v→RelV y u→r x y H Q →
  subscripted slice false v u=operate [v,u] (getItem v u)→wpAny (model X.prog X.w) X.A (subscriptTail value slice v u) (EP X pins σ Q) X.xe s
def MtR (X:Cx) (id:String) (r:V→List V→Hp→VK→Prop):Prop :=
 ∀ (pins:List (Addr×Obj)) (s:Shared) (σ:St) (H:Hp) (x:V) (xs:List V) (v:Value) (us:List Value) (Q:VK),Inv X pins σ H s→RelV x v→Vals xs us→r x xs H Q →
  wpAny (model X.prog X.w) X.A (call (.builtin id) (v::us)) (EP X pins σ Q) X.xe s
section
variable {X:Cx}{a b:Expr}{ta tb:TE}{pos:Pos}
theorem a20 {r:R2}(hr:IxR X r) (ha:PE X a ta) (hb:PE X b tb) (hs:bo3 b):PE X (.Subscript a b pos) (tOp r ta tb):=by
 intro pins s σ H Q I h
 exact Subscript_ (binT ha hb I h fun v u s2 x y H2 I2 rx ry q=>hr a b pins s2 σ H2 x y v u Q I2 rx ry q (hs _ _))
def rIxL (K:PySem.W.Frag):R2:=fun x y H Q=>∃ p xs i v,x=.ref p∧y=.int i∧SqL K H p xs∧atI xs i=some v∧Q v H
def rIxT (K:PySem.W.Frag):R2:=fun x y H Q=>∃ p xs i v,x=.ref p∧y=.int i∧SqT K H p xs∧atI xs i=some v∧Q v H
theorem bo4:IxR X (rIxL X.K):=by
 intro value slice pins s σ H x y v u Q I rx ry h hs
 obtain ⟨p,xs,i,z,rfl,rfl,hq,he,q⟩:=h
 cases rx
 obtain ⟨t,rfl⟩:=ry
 obtain ⟨its,r,pl,hz⟩:=I.list hq
 obtain ⟨j,h1,h2,h3,h4,h5⟩:=b35 he
 obtain ⟨w,ew,rw'⟩:=r.get h2
 have hl:=r.length
 have hn:=ap3
 have fin:EP X pins σ Q w s:=⟨z,H,I,rw',q⟩
 by_cases h0:0≤i
 · have hj:i.toNat=j:=by
    rw [seqIndex_of h0 h5] at h1
    exact Option.some.inj h1
   exact item_listR pl.isList h0 (by omega) (by rw [hj]; simpa using ew) fin hs
 · have hj:(i+(its.toArray.size:Int)).toNat=j:=by
    rw [seqIndex_neg (by omega) h4] at h1
    rw [List.size_toArray,←hl]
    exact Option.some.inj h1
   exact subscriptTail_builtinR (x:=w) pl.isList.typeIs slot_list_getitem.lookup
    (wpAny_getItem_list_neg (Q:=fun r s'=>r=w∧EP X pins σ Q r s') pl.isList (by omega) (by rw [List.size_toArray] <;> omega) (by omega) (by rw [hj]; simpa using ew) ⟨rfl,fin⟩) hs
theorem bz3:IxR X (rIxT X.K):=by
 intro value slice pins s σ H x y v u Q I rx ry h hs
 obtain ⟨p,xs,i,z,rfl,rfl,hq,he,q⟩:=h
 cases rx
 obtain ⟨t,rfl⟩:=ry
 obtain ⟨its,r,pl,hz⟩:=I.tuple hq
 obtain ⟨j,h1,h2,h3,h4,h5⟩:=b35 he
 obtain ⟨w,ew,rw'⟩:=r.get h2
 have hl:=r.length
 have hn:=ap3
 have fin:EP X pins σ Q w s:=⟨z,H,I,rw',q⟩
 exact subscriptTail_builtinR (x:=w) pl.typeIs slot_tuple_getitem.lookup
  (getItem_tuple (j:=j) (Q:=fun r s'=>r=w∧EP X pins σ Q r s') pl (by omega) (by omega) (by rw [List.size_toArray,←hl]; exact h1) (by simpa using ew) ⟨rfl,fin⟩) hs
theorem b06 (its:List Value) (n j:Nat) (u:Value):Obj.mapSeq (·.setIfInBounds j u) { cls:=.type "list",data:=.seq its.toArray n }={ cls:=.type "list",data:=.seq (its.set j u).toArray n }:=by
 simp [Obj.mapSeq]
theorem Inv.lst {pins:List (Addr×Obj)}{σ:St} {H:Hp}{s:Shared}{p:Addr}{xs:List V}(I:Inv X pins σ H s) (h:H p=some (.lst xs)) :
 ∃ (its:List Value) (n:Nat),Vals xs its∧s.heap.get? p=some { cls:=.type "list",data:=.seq its.toArray n }∧xs.length≤sizeLine:=by
 obtain ⟨z,its,n,r,e⟩:=I.hok p _ h
 exact ⟨its,n,r,e,z⟩
theorem Inv.lstUpd {pins:List (Addr×Obj)}{σ:St} {H:Hp}{s:Shared}{p:Addr}{xs ys:List V}{its its':List Value}{n n':Nat}{f:Obj→Obj}(I:Inv X pins σ H s) (h:H p=some (.lst xs))
 (ho:s.heap.get? p=some { cls:=.type "list",data:=.seq its.toArray n }) (hf:f { cls:=.type "list",data:=.seq its.toArray n }={ cls:=.type "list",data:=.seq its'.toArray n' }) (r:Vals ys its') (hz:ys.length≤sizeLine) (t:Nat) :
 Inv X pins σ (upd H p (.lst ys)) { s with heap:=s.heap.update p f,toks:=t }:=by
 have e:(s.heap.update p f).get? p=some { cls:=.type "list",data:=.seq its'.toArray n' }:=by
  rw [Heap.get?_update_self f ho (by rw [hf] <;> rfl),hf]
 refine I.write (x:=p) (e:=p) (by rw [h]; trivial) (.inl rfl) (fun b u hb q=>(Heap.get?_update_other _ _ (Ne.symm hb)).trans q) ⟨_,e⟩ ?_
 exact ⟨hz,its',n',r,e⟩
def bz4:V→V→V→Hp→(Hp→Prop)→Prop:=fun o i v H Q=>∃ p xs k j,o=.ref p∧i=.int k∧H p=some (.lst xs)∧ixN xs.length k=some j∧Q (upd H p (.lst (xs.set j v)))
theorem am3:PSet X bz4:=by
 intro pins s σ H o i v ov iv u Q I ro ri rv h
 obtain ⟨p,xs,k,j,rfl,rfl,hp,hj,q⟩:=h
 cases ro
 obtain ⟨t,rfl⟩:=ri
 obtain ⟨its,n,r,ho,hz⟩:=I.lst hp
 obtain ⟨h1,h2,h3,h4⟩:=b34 hj
 have hl:=r.length
 have hn:=ap3
 have I':Inv X pins σ (upd H p (.lst (xs.set j v))) { s with heap:=s.heap.update p (Obj.mapSeq (·.setIfInBounds j u)) } :=
  I.lstUpd hp ho (b06 its n j u) (r.set rv j) (by rw [List.length_set]; exact hz) s.toks
 by_cases h0:0≤k
 · have hk:k.toNat=j:=by
    rw [seqIndex_of h0 h4] at h1
    exact Option.some.inj h1
   exact PySem.W.ki_setAt ho h0 (by omega) (by rw [List.size_toArray,←hl]; exact h4) (by rw [hk]; exact ⟨_,I',q⟩)
 · have hk:(k+(its.toArray.size:Int)).toNat=j:=by
    rw [seqIndex_neg (by omega) h3] at h1
    rw [List.size_toArray,←hl]
    exact Option.some.inj h1
   exact PySem.W.ki_setBack ho (by omega) (by rw [List.size_toArray,←hl]; exact h3) (by omega) (by rw [hk]; exact ⟨_,I',q⟩)
theorem ap8 (lo hi:Option Int) (n:Nat):(sliceBounds lo hi none n).1=((HT.sIx n 0 lo:Nat):Int)∧(sliceBounds lo hi none n).2.1=((HT.sIx n n hi:Nat):Int)∧(sliceBounds lo hi none n).2.2=1:=by
 refine ⟨?_,?_,rfl⟩
 · cases lo with
   | none=>simp [sliceBounds,HT.sIx]
   | some i =>
     simp only [sliceBounds,HT.sIx,Option.getD_none,show (1:Int) > 0 by decide,if_true]
     by_cases h:i<0
     · simp only [h,if_true] <;> omega
     · simp only [h,if_false] <;> omega
 · cases hi with
   | none=>simp [sliceBounds,HT.sIx]
   | some i =>
     simp only [sliceBounds,HT.sIx,Option.getD_none,show (1:Int) > 0 by decide,if_true]
     by_cases h:i<0
     · simp only [h,if_true] <;> omega
     · simp only [h,if_false] <;> omega
theorem am4 (its:List Value) (lo hi:Option Int):slicePick its.toArray lo hi none=((its.drop (HT.sIx its.length 0 lo)).take (HT.sIx its.length its.length hi - HT.sIx its.length 0 lo)).toArray:=by
 obtain ⟨h1,h2,h3⟩:=ap8 lo hi its.toArray.size
 unfold slicePick
 rw [h1,h2,h3]
 simp only [sliceRange_one,pick_run,List.size_toArray] <;> rfl
def rSlL (K:PySem.W.Frag):V→Option Int→Option Int→Hp→VK→Prop:=fun x lo hi H Q=>∃ a xs,x=.ref a∧SqL K H a xs∧∀ p,H p=none→Q (.ref p) (upd H p (.lst (cutV xs lo hi)))
theorem bo5:SlR X (rSlL X.K):=by
 intro pins s σ H x v vl vu lo hi sl Q I rx hs pl pu h
 obtain ⟨a,xs,rfl,hx,q⟩:=h
 cases rx
 obtain ⟨its,r,ht,hz⟩:=I.list hx
 have hlen:=r.length
 refine ⟨"list",_,slot_list_getitem.lookup,ht.isList.typeIs,?_⟩
 refine wpAny_getItem_list_slice ht.isList hs pl pu .none (by simp) ?_ (by rw [List.size_toArray] <;> omega)
 rw [am4,←hlen]
 refine ⟨.ref s.heap.objs.size,_,I.laid (t':=s.toks) (o:=.lst (cutV xs lo hi)) (fun b ob q=>Heap.get?_push_of_some _ q) (Nat.le_refl _) ?_,rfl,q _ (I.hok.fresh (Nat.le_refl _))⟩
 exact ⟨Nat.le_trans (ag8 xs lo hi) hz,_,0,(r.drop (HT.sIx xs.length 0 lo)).take (HT.sIx xs.length xs.length hi - HT.sIx xs.length 0 lo),Heap.get?_push_size _ rfl⟩
def ap9:V→Bool
 | .non=>true
 | .bl _=>true
 | .int _=>true
 | .str _=>true
 | _=>false
def eqV:V→V→Bool
 | .non,.non=>true
 | .bl a,.bl b=>a == b
 | .bl a,.int b=>(if a then 1 else 0) == b
 | .int a,.bl b=>a == (if b then 1 else 0)
 | .int a,.int b=>a == b
 | .str a,.str b=>a == b
 | _,_=>false
theorem bz5 {A:Around}{s:Shared}{y x:V}{u v:Value}(ry:RelV y u) (rx:RelV x v) (fy:ap9 y=true) (fx:ap9 x=true):SeqAt.EqAt A s u v (eqV y x):=by
 cases y with
 | non =>
   cases ry
   cases x with
   | non=>cases rx; exact SeqAt.EqAt.same _
   | bl b=>cases rx; exact SeqAt.EqAt.none_bool b
   | int b=>obtain ⟨t,rfl⟩:=rx; exact SeqAt.EqAt.none_int b t
   | str b=>obtain ⟨t,rfl⟩:=rx; exact SeqAt.EqAt.none_str b t
   | _=>exact absurd (show false=true from fx) Bool.false_ne_true
 | bl a =>
   cases ry
   cases x with
   | non=>cases rx; exact SeqAt.EqAt.bool_none a
   | bl b=>cases rx; exact SeqAt.EqAt.bool_bool a b
   | int b=>obtain ⟨t,rfl⟩:=rx; exact SeqAt.EqAt.bool_int a b t
   | str b=>obtain ⟨t,rfl⟩:=rx; exact SeqAt.EqAt.bool_str a b t
   | _=>exact absurd (show false=true from fx) Bool.false_ne_true
 | int a =>
   obtain ⟨t',rfl⟩:=ry
   cases x with
   | non=>cases rx; exact SeqAt.EqAt.int_none a t'
   | bl b=>cases rx; exact SeqAt.EqAt.int_bool a t' b
   | int b=>obtain ⟨t,rfl⟩:=rx; exact SeqAt.EqAt.int_int a t' b t
   | str b=>obtain ⟨t,rfl⟩:=rx; exact SeqAt.EqAt.int_str a t' b t
   | _=>exact absurd (show false=true from fx) Bool.false_ne_true
 | str a =>
   obtain ⟨t',rfl⟩:=ry
   cases x with
   | non=>cases rx; exact SeqAt.EqAt.str_none a t'
   | bl b=>cases rx; exact SeqAt.EqAt.str_bool a t' b
   | int b=>obtain ⟨t,rfl⟩:=rx; exact SeqAt.EqAt.str_int a t' b t
   | str b=>obtain ⟨t,rfl⟩:=rx; exact SeqAt.EqAt.str_str a t' b t
   | _=>exact absurd (show false=true from fx) Bool.false_ne_true
 | _=>exact absurd (show false=true from fy) Bool.false_ne_true
def eqU (x:V) (u:Value):Bool:=match u with
 | .none=>eqV .non x
 | .bool b=>eqV (.bl b) x
 | .int i _=>eqV (.int i) x
 | .str z _=>eqV (.str z) x
 | _=>false
theorem bz6 {x y:V}{u:Value}(r:RelV y u) (f:ap9 y=true):eqU x u=eqV y x:=by
 cases y with
 | non=>cases r; rfl
 | bl b=>cases r; rfl
 | int i=>obtain ⟨t,rfl⟩:=r; rfl
 | str z=>obtain ⟨t,rfl⟩:=r; rfl
 | _=>exact absurd (show false=true from f) Bool.false_ne_true
theorem aw6 {A:Around}{s:Shared}{x:V}{v:Value}(rx:RelV x v) (fx:ap9 x=true):∀ {xs:List V}{us:List Value},Vals xs us→xs.all ap9=true→∀ u∈us,SeqAt.EqAt A s u v (eqU x u)
 | _,_,.nil,_=>fun u hu=>by cases hu
 | y::xs,u::us,.cons r t,f=>fun u' hu=>by
   rw [List.all_cons,Bool.and_eq_true] at f
   rcases List.mem_cons.mp hu with rfl | hu
   · rw [bz6 r f.1]; exact bz5 r rx f.1 fx
   · exact aw6 rx fx t f.2 u' hu
theorem aq0:CallR X (.type "list") (fun xs H Q=>∃ p ys,xs=[.ref p]∧(SqL X.K H p ys∨SqT X.K H p ys)∧∀ l,H l=none→Q (.ref l) (upd H l (.lst ys))):=by
 intro pins s σ H xs us Q I r h
 obtain ⟨p,ys,rfl,hq,q⟩:=h
 obtain ⟨u,rfl,rx⟩:=at3 r
 cases rx
 have fin:∀ (its:List Value),Vals ys its→ys.length≤sizeLine→∀ (h':Heap) (c':Nat),(∀ b o',s.heap.get? b=some o'→h'.get? b=some o') →
  h'.get? s.heap.objs.size=some { cls:=.type "list",dict:=none,data:=.seq its.toArray c',slots:=#[] }→EP X pins σ Q (.ref s.heap.objs.size) { s with heap:=h' }:=fun its r' hz h' c' kp e =>
  ⟨.ref s.heap.objs.size,_,I.laid (t':=s.toks) kp (Nat.le_refl _) (show ObjOk X.prog X.w _ h' _ (.lst ys) from ⟨hz,its,c',r',e⟩),rfl,q _ (I.hok.fresh (Nat.le_refl _))⟩
 rcases hq with hq | hq
 · obtain ⟨its,r',pl,hz⟩:=I.list hq
   have hlen:=r'.length
   obtain ⟨o,ho,hc,n,hd⟩:=pl.isList
   exact call_list_seq p (.inl rfl) ho hc hd (fun h' c' kp e=>fin its r' hz h' c' kp e) (by simp only [List.size_toArray] <;> omega)
 · obtain ⟨its,r',pl,hz⟩:=I.tuple hq
   have hlen:=r'.length
   obtain ⟨o,ho,hc,n,hd⟩:=pl
   exact call_list_seq p (.inr rfl) ho hc hd (fun h' c' kp e=>fin its r' hz h' c' kp e) (by simp only [List.size_toArray] <;> omega)
theorem am5:CallR X (.type "tuple") (fun xs H Q=>∃ p ys,xs=[.ref p]∧((SqL X.K H p ys∧∀ l,H l=none→Q (.ref l) (upd H l (.tup ys)))∨(SqT X.K H p ys∧Q (.ref p) H))):=by
 intro pins s σ H xs us Q I r h
 obtain ⟨p,ys,rfl,h⟩:=h
 obtain ⟨u,rfl,rx⟩:=at3 r
 cases rx
 rcases h with ⟨hq,q⟩ | ⟨hq,q⟩
 · obtain ⟨its,r',pl,hz⟩:=I.list hq
   have hlen:=r'.length
   refine call_tuple_list pl.isList (fun h' kp=>?_) (by simp only [List.size_toArray] <;> omega)
   have I1:Inv X pins σ H { s with heap:=h' }:=I.kept (t':=s.toks) kp
   have I2:Inv X pins σ (upd H h'.objs.size (.tup ys)) { s with heap:=h'.push { cls:=.type "tuple",data:=.seq its.toArray } } :=
    I1.laid (t':=s.toks) (fun b o e=>Heap.get?_push_of_some _ e) (Nat.le_refl _) (show ObjOk X.prog X.w _ _ _ (.tup ys) from ⟨hz,its,r',IsTup.new _ _⟩)
   exact ⟨.ref h'.objs.size,_,I2,rfl,q _ (I1.hok.fresh (Nat.le_refl _))⟩
 · obtain ⟨its,r',pl,hz⟩:=I.tuple hq
   exact call_tuple_same pl ⟨.ref p,H,I,rfl,q⟩
def tyV (K:PySem.W.Frag) (T:String) (x:V) (H:Hp):Prop:=match x with
 | .str _=>T="str"
 | .int _=>T="int"
 | .ref p=>(T="list"∧∃ xs,SqL K H p xs)∨(T="tuple"∧∃ o,K.lookup p=some o∧o.cls=.type "tuple"∧o.dict=none) ∨
  (T="dict"∧((∃ kvs,H p=some (.dK kvs))∨∃ kvs,H p=some (.dT kvs)))∨(T="set"∧∃ S n,H p=some (.set S n))
 | _=>False
theorem bz7 {pins:List (Addr×Obj)}{σ:St} {H:Hp}{s:Shared}{T:String}{x:V}{v:Value}(I:Inv X pins σ H s) (r:RelV x v) (ty:tyV X.K T x H) :
 s.TypeIs v T∧∀ a,v=.ref a→∃ ob,s.heap.get? a=some ob∧ob.dict=none:=by
 cases x with
 | str z =>
   obtain ⟨t,rfl⟩:=r
   cases (show T="str" from ty)
   exact ⟨typeIs_str s z t,fun _ e=>nomatch e⟩
 | int i =>
   obtain ⟨t,rfl⟩:=r
   cases (show T="int" from ty)
   exact ⟨typeIs_int s i t,fun _ e=>nomatch e⟩
 | ref p =>
   cases r
   rcases ty with ⟨rfl,xs,hq⟩ | ⟨rfl,o,hk,hc,hd⟩ | ⟨rfl,hk⟩ | ⟨rfl,S,n,hk⟩
   · obtain ⟨its,_,pl,_⟩:=I.list hq
     refine ⟨pl.isList.typeIs,fun a e=>?_⟩
     cases e
     obtain ⟨o,n,e,c,hd,_⟩:=pl
     exact ⟨o,e,hd⟩
   · refine ⟨⟨o,I.kIn p o hk,hc⟩,fun a e=>?_⟩
     cases e
     exact ⟨o,I.kIn _ o hk,hd⟩
   · have z:∃ o,s.heap.get? p=some o∧o.ExactDict:=by
      rcases hk with ⟨kvs,hk⟩ | ⟨kvs,hk⟩
      · obtain ⟨_,_,_,_,o,_,_,e,ex,_⟩:=I.hok p _ hk
        exact ⟨o,e,ex⟩
      · obtain ⟨_,_,_,_,o,_,_,e,ex,_⟩:=I.hok p _ hk
        exact ⟨o,e,ex⟩
     obtain ⟨o,e,ex⟩:=z
     refine ⟨⟨o,e,ex.1⟩,fun a e2=>?_⟩
     cases e2
     exact ⟨o,e,ex.2.1⟩
   · obtain ⟨o,_,_,_,e,ex,_⟩:=I.hok p _ hk
     refine ⟨⟨o,e,ex.1⟩,fun a e2=>?_⟩
     cases e2
     exact ⟨o,e,ex.2.1⟩
 | _=>exact False.elim ty
def tBM (K:PySem.W.Frag) (T:String) (r:V→List V→Hp→VK→Prop) (to:TE) (t:TA):TE:=fun σ H Q=>to σ H fun x H1=>tyV K T x H1∧t σ H1 fun xs H2=>r x xs H2 Q
variable {o e:Expr}{es:List Expr}{to:TE}{t:TA}{name:Str}{apos cpos:Pos}{T id:String}{r:V→List V→Hp→VK→Prop}
theorem c91 (pa:PlainAttrs T) (slot:Slot T name id) (hty:typeOf (.builtin id)=pure (.type "method_descriptor")) (hm:MtR X id r) (ho:PE X o to) (ha:PA X (e::es) t)
 (hbase:attributeBase o name X.env (eval o X.env)=eval o X.env:=by rfl)
 (hfew:((backTo cpos (starEach (e::es) X.env)).all (fun x=>!x.1) && (backToKw cpos (keywordEach [] X.env)).all (fun x=>x.1.isSome)
  && decide ((e::es).length+([]:List Keyword).length+(if ([]:List Keyword).isEmpty then 0 else 1)<30))=true:=by rfl)
 (hline:(apos.endLine == cpos.line)=true:=by rfl) (hs:starEach (e::es) X.env=(false,eval e X.env)::starEach es X.env:=by rfl) (hplain:(backTo cpos (starEach es X.env)).any (·.1)=false:=by rfl) :
 PE X (.Call (.Attribute o name apos) (e::es) [] cpos) (tBM X.K T r to t):=by
 intro pins s σ H Q I h
 refine wpAny_Call_method_late hbase hfew hline rfl (thn (ho pins s σ H _ I h) ?_)
 rintro v s1 ⟨x,H1,I1,r1,ty,q1⟩
 obtain ⟨h1,h2⟩:=bz7 I1 r1 ty
 refine ⟨T,id,pa,slot,hty,h1,h2,?_⟩
 have hA:=ha cpos pins s1 σ H1 _ I1 q1
 rw [hs] at hA ⊢
 refine Calls.callWith_builtin (by show (false || (backTo cpos (starEach es X.env)).any (·.1))=false; rw [hplain] <;> rfl) (Calls.evalArgs_plain ?_)
 exact thn hA (by rintro us s2 ⟨vs,H2,I2,r2,q2⟩; exact hm pins s2 σ H2 x vs v us Q I2 r1 r2 q2)
/- xs.append(e),list.index on a module's tuple .. are MtR facts of 06m -/
end
def MtM (X:Cx) (id:String) (r:V→List V→Hp→VK→Prop):Prop :=
 ∀ (pins:List (Addr×Obj)) (s:Shared) (σ:St) (H:Hp) (x:V) (xs:List V) (v:Value) (us:List Value) (Q:VK),Inv X pins σ H s→RelV x v→Vals xs us→r x xs H Q →
  wpAny (model X.prog X.w) X.A (call (.builtin id) (v::us)) (EP X pins σ Q) X.xe s
theorem Vals.one:∀ {x:V}{us:List Value},Vals [x] us→∃ u,us=[u]∧RelV x u
 | _,_,.cons r .nil=>⟨_,rfl,r⟩
theorem Vals.rep {xs:List V}{us:List Value}(h:Vals xs us):∀ k:Nat,Vals (List.replicate k xs).flatten (List.replicate k us).flatten
 | 0=>.nil
 | k+1=>by
   rw [List.replicate_succ,List.replicate_succ,List.flatten_cons,List.flatten_cons]
   exact Vals.append h (Vals.rep h k)
theorem aq1 (its:List Value):∀ (k:Nat) (acc:List Value),
 List.foldl (fun x1 x2=>x1++x2) acc.toArray (List.replicate k its.toArray)=(acc++(List.replicate k its).flatten).toArray
 | 0,acc=>by simp
 | k+1,acc=>by
   have e:acc.toArray++its.toArray=(acc++its).toArray:=by simp
   have e2:(acc++its)++(List.replicate k its).flatten=acc++(List.replicate (k+1) its).flatten:=by
    rw [List.replicate_succ,List.flatten_cons,List.append_assoc]
   rw [← e2,←aq1 its k (acc++its),←e,List.replicate_succ,List.foldl_cons]
section
variable {X:Cx}{pins:List (Addr×Obj)}{σ:St} {H:Hp}{s:Shared}{l b:Addr}{xs ys zs:List V}
theorem Inv.lset {its its':List Value}{n:Nat}{f:Array Value→Array Value}{t':Nat}(I:Inv X pins σ H s) (hH:H l=some (.lst xs))
 (e:s.heap.get? l=some { cls:=.type "list",data:=.seq its.toArray n }) (hf:f its.toArray=its'.toArray) (hv:Vals ys its') (hz:ys.length≤sizeLine) :
 Inv X pins σ (upd H l (.lst ys)) { s with heap:=s.heap.update l (Obj.mapSeq f),toks:=t' }:=by
 have q:=PySem.IsL.update e f
 rw [hf] at q
 refine I.write (x:=l) (e:=l) (by rw [hH]; exact trivial) (.inl rfl) (fun b' u hb hu=>(Heap.get?_update_other s.heap (Obj.mapSeq f) (Ne.symm hb)).trans hu) ⟨_,q⟩ ?_
 exact ⟨hz,its',_,hv,q⟩
theorem Inv.lnew {its:List Value}{t':Nat}(I:Inv X pins σ H s) (hv:Vals ys its) (hz:ys.length≤sizeLine) :
 Inv X pins σ (upd H s.heap.objs.size (.lst ys)) { s with heap:=s.heap.push { cls:=.type "list",data:=.seq its.toArray },toks:=t' } :=
 I.laid (fun _ _ q=>Heap.get?_push_of_some _ q) (Nat.le_refl _) ⟨hz,its,0,hv,Heap.get?_push_size _ rfl⟩
theorem Inv.fresh (I:Inv X pins σ H s):H s.heap.objs.size=none:=I.hok.fresh (Nat.le_refl _)
theorem Inv.lstM (I:Inv X pins σ H s) (hH:H l=some (.lst xs)):xs.length≤sizeLine∧∃ (its:List Value) (n:Nat),Vals xs its∧xs.length=its.length∧s.heap.get? l=some { cls:=.type "list",data:=.seq its.toArray n }:=by
 obtain ⟨z,its,n,r,e⟩:=I.hok l _ hH
 exact ⟨z,its,n,r,r.length,e⟩
theorem aw7 {n:Nat}(h:n≤sizeLine):Builtin.List.listTooLong n=false:=by
 unfold Builtin.List.listTooLong
 exact decide_eq_false (by omega)
end
section
variable {X:Cx}
def b36:V→List V→Hp→VK→Prop:=fun x vs H Q=>∃ l xs y,x=.ref l∧vs=[y]∧H l=some (.lst xs)∧xs.length<sizeLine∧Q .non (upd H l (.lst (xs++[y])))
theorem a66:MtM X "list.append" b36:=by
 intro pins s σ H x vs v us Q I rx rv h
 obtain ⟨l,xs,y,rfl,rfl,hH,hz,q⟩:=h
 cases rx
 obtain ⟨u,rfl,ru⟩:=rv.one
 obtain ⟨z,its,n,r,hl,e⟩:=I.lstM hH
 refine call_meets F.slot_list_append ⟨_,e,rfl⟩ F.entry_list_append (F.args_list_append_2 _ _) (PySem.list_append l its.toArray n u (by rw [List.size_toArray]; omega)) ⟨e,?_⟩
 refine ⟨.non,_,I.lset (its':=its++[u]) hH e (by simp) (r.append (.cons ru .nil)) ?_,rfl,q⟩
 rw [List.length_append,List.length_singleton]
 omega
def b37:V→List V→Hp→VK→Prop:=fun x vs H Q=>∃ l b xs zs,x=.ref l∧vs=[.ref b]∧H l=some (.lst xs)∧H b=some (.lst zs)∧xs.length+zs.length≤sizeLine∧Q .non (upd H l (.lst (xs++zs)))
theorem aq2:MtM X "list.extend" b37:=by
 intro pins s σ H x vs v us Q I rx rv h
 obtain ⟨l,b,xs,zs,rfl,rfl,hH,hB,hz,q⟩:=h
 cases rx
 obtain ⟨u,rfl,ru⟩:=rv.one
 cases ru
 obtain ⟨z,its,n,r,hl,e⟩:=I.lstM hH
 obtain ⟨z2,its2,n2,r2,hl2,e2⟩:=I.lstM hB
 have hsz:its.toArray.size+its2.toArray.size≤sizeLine:=by rw [List.size_toArray,List.size_toArray]; omega
 have hlong:¬ (!its.toArray.isEmpty && Builtin.List.listTooLong (its.toArray.size+its2.toArray.size))=true:=by
  rw [aw7 hsz,Bool.and_false]
  exact Bool.false_ne_true
 refine call_meets F.slot_list_extend ⟨_,e,rfl⟩ F.entry_list_extend (F.args_list_extend_2 _ _)
  (AutoSeq1.list_extend_list_list_0 l its.toArray n b its2.toArray n2 hlong (by rw [List.size_toArray]; omega) (by omega)) ⟨e,e2,?_⟩
 refine ⟨.non,_,I.lset (its':=its++its2) hH e (by simp) (r.append r2) ?_,rfl,q⟩
 rw [List.length_append]
 omega
def rCat:R2:=fun x y H Q=>∃ l b xs zs,x=.ref l∧y=.ref b∧H l=some (.lst xs)∧H b=some (.lst zs)∧xs.length+zs.length≤sizeLine∧∀ p,H p=none→Q (.ref p) (upd H p (.lst (xs++zs)))
theorem bz8:OpR X (binaryOp .Add) rCat:=by
 intro pins s σ H x y v u Q I rx ry h
 obtain ⟨l,b,xs,zs,rfl,rfl,hH,hB,hz,q⟩:=h
 cases rx
 cases ry
 obtain ⟨z,its,n,r,hl,e⟩:=I.lstM hH
 obtain ⟨z2,its2,n2,r2,hl2,e2⟩:=I.lstM hB
 refine PySem.P.add_list e e2 ?_ (by rw [List.size_toArray,List.size_toArray]; omega)
 have ea:its.toArray++its2.toArray=(its++its2).toArray:=by simp
 rw [ea]
 exact ⟨.ref _,_,I.lnew (t':=s.toks) (r.append r2) (by rw [List.length_append]; omega),rfl,q _ I.fresh⟩
def rRep:R2:=fun x y H Q=>∃ l k xs,x=.ref l∧y=.int k∧H l=some (.lst xs)∧-(2 ^ 63)≤k∧k<2 ^ 63∧xs.length*k.toNat≤sizeLine ∧
 ∀ p,H p=none→Q (.ref p) (upd H p (.lst (List.replicate k.toNat xs).flatten))
theorem bo6 {α:Type}(xs:List α) (k:Nat):(List.replicate k xs).flatten.length=k*xs.length:=by
 induction k with
 | zero=>simp
 | succ k ih=>rw [List.replicate_succ,List.flatten_cons,List.length_append,ih,Nat.succ_mul,Nat.add_comm]
theorem bz9:OpR X (binaryOp .Mult) rRep:=by
 intro pins s σ H x y v u Q I rx ry h
 obtain ⟨l,k,xs,rfl,rfl,hH,h1,h2,hz,q⟩:=h
 cases rx
 obtain ⟨t,rfl⟩:=ry
 obtain ⟨z,its,n,r,hl,e⟩:=I.lstM hH
 have hlen:its.toArray.size*k.toNat≤sizeLine:=by rw [List.size_toArray,←hl]; exact hz
 have hcap:¬ its.toArray.size*k.toNat > (2 ^ 63 - 1) / 8:=by
  have:(sizeLine:Nat)≤(2 ^ 63 - 1) / 8:=by decide
  omega
 have hfit:¬ (!Builtin.List.listFitsIndex k)=true:=by
  rw [fitsIndex_both h1 h2]
  exact Bool.false_ne_true
 have hlong:¬ Builtin.List.listTooLong (its.toArray.size*k.toNat)=true:=by
  rw [aw7 hlen]
  exact Bool.false_ne_true
 have hnew:List.foldl (fun x1 x2=>x1++x2) #[] (List.replicate (if its.toArray.isEmpty=true then 0 else k.toNat) its.toArray)=(List.replicate k.toNat its).flatten.toArray:=by
  have f0:∀ m:Nat,List.foldl (fun x1 x2=>x1++x2) #[] (List.replicate m its.toArray)=(List.replicate m its).flatten.toArray:=fun m=>by
   have:=aq1 its m []
   rw [List.nil_append] at this
   exact this
  rw [f0]
  cases its with
  | nil=>simp
  | cons a r'=>rw [if_neg (by simp)]
 refine wpAny_binaryOp_repeat_ref (T:="list") (U:="int") (by decide) ⟨_,e,rfl⟩ (fun s'=>typeIs_int s' k t) noFill_list_mul F.fills_int_mul F.slot_int_rmul repeat_list F.slot_int_index.lookup
  (call_meets F.slot_int_rmul (typeIs_int s k t) F.entry_int_rmul (F.args_int_rmul_2 _ _) (int___rmul___int_list k t l its.toArray n)
   ⟨e,rfl,⟨_,e,rfl⟩,call_meets F.slot_list_mul ⟨_,e,rfl⟩ F.entry_list_mul (F.args_list_mul_2 _ _) (AutoListH.list___mul___list_int_3 l its.toArray n k t hfit hcap hlong) ⟨e,?_⟩⟩)
 rw [hnew]
 exact ⟨.ref _,_,I.lnew (t':=s.toks) (r.rep k.toNat) (by rw [bo6,Nat.mul_comm]; exact hz),rfl,q _ I.fresh⟩
end
section
variable {prog:Program}{w:World}{A:Around}{E:Value→Shared→Prop}{s:Shared}
set_option maxRecDepth 100000 in
end
section
variable {X:Cx}
end
end L2
namespace Att
open PySem PySem.W PySem.Calls PyProof.Rows
theorem ag9 {P:Params}{h:Heap}:∀ (ns:List Int) (vs:List Value),WellAll P h vs (ns.map WData.int)→IntsAre vs ns:=by
 intro ns
 induction ns with
 | nil =>
   intro vs w
   rw [List.map_nil] at w
   cases w
   exact .nil
 | cons n ns ih =>
   intro vs w
   rw [List.map_cons] at w
   cases w with
   | cons a b =>
     cases a
     exact .cons _ _ (ih _ b)
theorem b38 {l:OpenLaw}{n:Nat}(hn:l.most=some n) {P:Params}{h:Heap}{args:List WData}{vals:List Value}
 (hpre:l.row.toRowW.claim.pre args=true) (hwl:WellAll P h vals args) :
 ∃ a vs ns,vals=[Value.ref a]∧args=[WData.list (ns.map WData.int)]∧h.get? a=some { cls:=.type "list",data:=.seq vs.toArray }∧IntsAre vs ns∧ns.length≤n:=by
 have hsh:WShape.hasAll [] args [.list .int]=true:=(pre_splitW hpre).1
 have hc:l.pre.holds [] { args:=args }=true:=(pre_splitW hpre).2
 obtain ⟨d,r,rfl,h1,h2⟩:=hasAllW_cons hsh
 obtain rfl:=hasAllW_nil h2
 obtain ⟨xs,rfl,h3⟩:=hasW_list h1
 obtain ⟨ns,rfl⟩:=items_int h3
 have hlen:ns.length≤n:=by
  unfold OpenLaw.pre at hc
  have h4:(WTm.not (.lt (.lit (.int (n:Int))) (.len (.arg 0)))).holds [] { args:=[.list (ns.map .int)] }=true:=by
   have h4:=(holds_andW hc).1
   rw [hn] at h4
   exact h4
  have h5:=condW_of h4 (w_not (w_lt w_lit (w_len_list (w_arg rfl))))
  rw [List.length_map] at h5
  refine Nat.le_of_not_lt fun q=>?_
  have q':(n:Int)<((ns.length:Nat):Int):=by omega
  first
   | (rw [decide_eq_true q'] at h5; exact absurd h5 (by decide))
   | (simp at h5; omega)
 cases hwl with
 | cons w1 w2 =>
   cases w2
   cases w1 with
   | list ho hall=>exact ⟨_,_,ns,rfl,rfl,ho,ag9 ns _ hall,hlen⟩
theorem b39 (l:OpenLaw) (args:List WData):l.row.toRowW.claim.post args (.bool true) args=true :=
 postW_of (r:=l.row.toRowW) (X:=(true == true))
  (show WShape.has [] (.bool true) .bool=true by first | rfl | decide | simp [WShape.has,WShape.arms,WShape.armsAll])
  (show (WTm.eq .res (.lit (.bool true))).value [] { args:=args,res:=some (.bool true),after:=args }=some (.bool (true == true)) from w_eq_bool (w_res rfl) w_lit) rfl
theorem attach_call {l:OpenLaw}{n:Nat}{q:Program}{loose:List Str}{XP:(Str→Option Value)→Heap→Prop}{YP:World→Heap→Prop}{d:DefRec}
 (hn:l.most=some n) (hdf:d.params.defaults=[])
 (call:∀ (w:World) (s₀ s₁:Shared) (mg mb:Str→Option Value) (fa:Addr) (o:Obj) (pm cd doc:Value) (a:Addr) (vs:List Value) (ns:List Int),
  Ground q loose [] XP w s₀ mg mb s₁.heap→YP w s₁.heap →
  s₁.heap.get? fa=some o→o.data=.func (docDef d.name d.params d.body d.scope pm cd doc)→s₁.heap.CodeRec cd d.name→mg d.name=some (.ref fa) →
  s₁.heap.get? a=some { cls:=.type "list",data:=.seq vs.toArray }→IntsAre vs ns→ns.length≤n→s₁.gens=#[] →
  codeAny (model l.prog w) callerA (.call (.ref fa) ⟨[.ref a],[]⟩) (fun r s'=>r=.ok (.ret (.bool true))∧OldK s₁.heap s'.heap∧s'.os=s₁.os∧AllBare s'.gens) s₁) :
 WalkO q loose XP YP l.row.toRowW d [] (fun f vs=>PySem.call f vs):=by
 intro w s₀ s₁ mg mb G Y fa o pm cd doc dV kV ho hd hcd hD hmg hg args vals as hpre hlay hrd hwl hlo
 obtain rfl:dV=.none:=Dflts.none hD hdf
 obtain rfl:kV=.none:=Dflts.noKw hD
 obtain ⟨a,vs,ns,rfl,rfl,hobj,hints,hlen⟩:=b38 hn hpre hwl
 refine enter_call (codeAny_mono (call w s₀ s₁ mg mb fa o pm cd doc a vs ns G Y ho (fd_plain hd) hcd hmg hobj hints hlen hg) fun r s' hq=>?_)
 obtain ⟨rfl,h2,h3,h4⟩:=hq
 exact ⟨.inl ⟨.bool true,.bool true,[],rfl,fun _=>rfl,.bool true,b39 l _,fun _=>⟨List.Pairwise.nil,fun _ hm=>(nomatch hm)⟩⟩,h2,h3,h4⟩
section
variable {prog:Program}{w:World}{A:Around}{E:Value→Shared→Prop}{s:Shared}{K:Frag}
end
end Att
namespace L2
open PySem PySem.Spec PyProof.Rows
theorem aq3:∀ {vs:List Value}{ns:List Int},IntsAre vs ns→Vals (ns.map V.int) vs
 | _,_,.nil=>.nil
 | _,_,.cons n t h=>.cons ⟨t,rfl⟩ (aq3 h)
def Only (H:Hp):Prop:=∀ b,H b=none∨∃ o xs,H b=some (.frz o (.lst xs))
theorem bc9 {P:Program}{w:World}{K:PySem.W.Frag}{mg mb:Str→Option Value}{CX:CXT}{k:Nat}{fa a:Addr}{fd:FuncData}{x:Str}{sp:Sp}{s₁:Shared}{vs:List Value}{ns:List Int}
 (KX:K.In s₁.heap) (hns:s₁.heap.Ns mainGlobals mg) (hb:s₁.heap.Ns builtinsNs mb) (hbb:∀ x:Str,x≠"__name__"→mb x=bootBuiltins x) (hlim:s₁.heap.NoLimit) (hg:s₁.gens=#[])
 (ha:s₁.heap.get? a=some { cls:=.type "list",data:=.seq vs.toArray }) (hi:IntsAre vs ns) (hl:ns.length≤sizeLine) (hr:Room k callerA)
 (F:∀ base:Heap,K.In base→base.Ns mainGlobals mg→FnOk P w K mg base CX k fa fd [x] sp) (hbind:∀ (s:Shared) (u:Value),BindsTo s fd ⟨[u],[]⟩ [(x,u)])
 (hsp:∀ H:Hp,Only H→SqL K H a (ns.map V.int)→sp [.ref a] H (fun v _=>v=.bl true) fun _ _ _=>False)
 (hCX:∀ H e s',CX [] H s₁ (fun _ _ _=>False) e s'→False) :
 codeAny (model P w) callerA (.call (.ref fa) ⟨[.ref a],[]⟩) (fun r s'=>r=.ok (.ret (.bool true))∧OldK s₁.heap s'.heap∧s'.os=s₁.os∧AllBare s'.gens) s₁:=by
 have rv:=aq3 hi
 have lenV:=hi.length
 have core:∀ H:Hp,Only H→SqL K H a (ns.map V.int)→HOk P w H s₁.heap→(∀ b,H b≠none→b=a)→(H a≠none→K.lookup a=none) →
  codeAny (model P w) callerA (.call (.ref fa) ⟨[.ref a],[]⟩) (fun r s'=>r=.ok (.ret (.bool true))∧OldK s₁.heap s'.heap∧s'.os=s₁.os∧AllBare s'.gens) s₁:=by
  intro H hO hS hok hA hK
  have base_of:∀ {b:Addr}{o:Obj},s₁.heap.get? b=some o→H b=none→(hidT s₁.heap H).get? b=some o:=fun e n=>bb8 e n
  have noA:∀ {b:Addr}{o:Obj}{es:Array DictEntry}{ep:Nat},s₁.heap.get? b=some o→o.data=.dict es ep→H b=none:=fun {b o es ep} e d=>by
   cases q:H b with
   | none=>rfl
   | some u =>
     have e':b=a:=hA b (by rw [q]; simp)
     subst e'
     rw [ha] at e; cases e
     have d':Data.seq vs.toArray _=Data.dict es ep:=d
     cases d'
  have nsK:∀ {b:Addr}{m:Str→Option Value},s₁.heap.Ns b m→(hidT s₁.heap H).Ns b m:=fun {b m} ⟨o,es,ep,e,d,r⟩=>⟨o,es,ep,base_of e (noA e d),d,r⟩
  have hKb:K.In (hidT s₁.heap H):=fun b o e=>base_of (KX b o e) (by
   cases q:H b with
   | none=>rfl
   | some u =>
     have e':b=a:=hA b (by rw [q]; simp)
     subst e'
     rw [hK (by rw [q]; simp)] at e; cases e)
  have hM:Mod K mg (hidT s₁.heap H):=⟨hKb,nsK hns,⟨mb,nsK hb,hbb⟩,let ⟨mc,h1,h2⟩:=hlim; ⟨mc,nsK h1,h2⟩⟩
  have e0:Env0 P w K mg (hidT s₁.heap H) callerA [] s₁ H:=⟨rfl,hM,fun b o e=>bm7 e,Nat.le_of_eq (b19 _ _),trivial,fun b hb=>absurd (show b∈([]:List Addr) from hb) (by simp),hok,.of_eq hg⟩
  refine codeAny_mono ((F _ hKb (nsK hns)).run callerA [] s₁ H ⟨[.ref a],[]⟩ [.ref a] [.ref a] _ _ hr e0 (hbind s₁ (.ref a)) (.cons rfl .nil) (hsp H hO hS)) fun r s' h=>?_
  cases r with
  | error e=>exact (hCX H e s' h).elim
  | ok fl =>
    cases fl with
    | next=>exact False.elim h
    | brk=>exact False.elim h
    | cont=>exact False.elim h
    | ret u =>
      obtain ⟨v,H',os,bare,un,hok',r',q⟩:=h
      have q':v=.bl true:=q
      subst q'
      obtain rfl:u=Value.bool true:=r'
      refine ⟨rfl,OldK.of_keep fun b o e=>?_,os,bare⟩
      cases q:H b with
      | none=>exact un.keep b o e q (by intro z; exact absurd (show b∈([]:List Addr) from z) (by simp)) (by simp)
      | some u =>
        rcases hO b with z | ⟨ob,xs,z⟩
        · rw [q] at z; cases z
        · have z2:=un.frzs b ob _ z
          obtain ⟨e1,_⟩:=hok b _ z
          obtain ⟨e2,_⟩:=hok' b _ z2
          rw [e] at e1; cases e1
          exact e2
 cases hk:K.lookup a with
 | some o =>
   have e:=KX a o hk
   rw [ha] at e
   cases e
   refine core (fun _=>none) (fun _=>.inl rfl) (.inr ⟨_,vs.toArray,_,hk,rfl,rfl,rfl,by rw [List.size_toArray,lenV]; exact hl,by simpa using rv⟩) (fun b u z=>by have z':(none:Option HO)=some u:=z; cases z') (fun b z=>absurd rfl z) fun z=>absurd rfl z
 | none =>
   refine core (fun b=>if b=a then some (.frz { cls:=.type "list",data:=.seq vs.toArray } (.lst (ns.map V.int))) else none) (fun b=>?_) (.inl (.inr ⟨{ cls:=.type "list",data:=.seq vs.toArray },if_pos rfl⟩)) (fun b u z=>?_) (fun b z=>?_) fun _=>hk
   · by_cases hb:b=a
     · exact .inr ⟨_,_,if_pos hb⟩
     · exact .inl (if_neg hb)
   · by_cases hb:b=a
     · have z':=(if_pos hb).symm.trans z
       cases z'
       subst hb
       exact ⟨ha,by rw [List.length_map]; exact hl,vs,_,rv,ha⟩
     · have z':=(if_neg hb).symm.trans z
       cases z'
   · by_cases hb:b=a
     · exact hb
     · exact absurd (if_neg hb) z
theorem walk_of {l:PySem.W.OpenLaw}{n k:Nat}{q:Program}{loose:List Str}{XP:(Str→Option Value)→Heap→Prop}{YP:World→Heap→Prop}{d:DefRec}{K:Params→PySem.W.Frag}{CX:World→CXT}{sp:World→Sp}{x:Str}
 (hn:l.most=some n) (hn2:n≤sizeLine) (hdf:d.params.defaults=[]) (hr:Room k callerA)
 (hY:∀ (w:World) (h:Heap),YP w h→(K w.params).In h)
 (F:∀ (w:World) (mg:Str→Option Value) (fa:Addr) (h:Heap),(K w.params).In h→h.Ns mainGlobals mg→mg d.name=some (.ref fa) →
  ∃ fd:FuncData,(∀ (s:Shared) (u:Value),BindsTo s fd ⟨[u],[]⟩ [(x,u)]) ∧
   ∀ base:Heap,(K w.params).In base→base.Ns mainGlobals mg→FnOk l.prog w (K w.params) mg base (CX w) k fa fd [x] (sp w))
 (hsp:∀ (w:World) (H:Hp) (a:Addr) (ns:List Int),ns.length≤n→Only H→SqL (K w.params) H a (ns.map V.int)→sp w [.ref a] H (fun v _=>v=.bl true) fun _ _ _=>False)
 (hCX:∀ (w:World) (H:Hp) (s:Shared) (e:Value) (s':Shared),CX w [] H s (fun _ _ _=>False) e s'→False) :
 PySem.W.WalkO q loose XP YP l.row.toRowW d [] (fun f vs=>PySem.call f vs):=by
 refine Att.attach_call hn hdf fun w s₀ s₁ mg mb fa o pm cd doc a vs ns G Y ho hd hcd hmg hobj hints hlen hg=>?_
 have KX:=hY w _ Y
 obtain ⟨fd,hb,hF⟩:=F w mg fa _ KX G.T.g hmg
 exact bc9 KX G.T.g G.T.b G.T.builtins G.T.nolimit hg hobj hints (Nat.le_trans hlen hn2) hr hF hb (fun H hO hS=>hsp w H a ns hlen hO hS) fun H e s'=>hCX w H s₁ e s'
def a67 (s:Stmt) (j:Nat):Stmt:=match s with
 | .ClassDef _ _ _ body _ _ _ _ _ _ _=>body.getD j (.Pass ⟨0,0,0,0⟩)
 | _=>.Pass ⟨0,0,0,0⟩
def ac4 (s:Stmt):Arguments:=match s with
 | .FunctionDef _ a _ _ _ _ _ _ _ _=>a
 | _=>{ posonlyargs:=[],args:=[],vararg:=none,kwonlyargs:=[],kw_defaults:=[],kwarg:=none,defaults:=[] }
def a82 (s:Stmt):List Stmt:=match s with
 | .FunctionDef _ _ b _ _ _ _ _ _ _=>b
 | _=>[]
def a06 (s:Stmt):Scope:=match s with
 | .FunctionDef _ _ _ _ _ _ sc _ _ _=>sc
 | _=>{ kind:=.function,names:=[],isGenerator:=false,isCoroutine:=false }
abbrev CX0:CXT:=fun _ _ _ _ _ _=>False
abbrev E0:XK:=fun _ _ _=>False
theorem a28 {X:Cx}:ab5 CX0 X E0:=fun _ _ _ _ _ _ _ h=>h.elim
structure Fun (K:PySem.W.Frag) (x qual:Str) (st:Stmt) (f:Addr) (fd:FuncData):Prop where
 ex:∃ (oc:Value) (od:Option Addr) (kV doc pm:Value) (an:Option Addr) (cdv ct:Value) (osl:Array (Option Value)),
  fd=PySem.W.fnOf x qual (ac4 st) (a82 st) (a06 st) .none kV doc pm an cdv ct∧K.lookup f=some ⟨oc,od,.func fd,osl⟩∧PySem.W.codeIn K cdv qual=true
 kp:PySem.W.keepIn K (.ref f)=true
section
variable {P:Program}{w:World}{K:PySem.W.Frag}{mg:Str→Option Value}{base:Heap}
theorem Fun.ok {x qual:Str}{st:Stmt}{f:Addr}{fd:FuncData}{N ps:List Str}{k:Nat}{sp:Sp}(F:Fun K x qual st f fd) (S:FnScope N ps (a06 st)) (len:∀ vs H Q E,sp vs H Q E→vs.length=ps.length)
 (hbody:∀ (cdv:Value) (A:Around) (outer:List Env) (s:Shared) (H:Hp) (vs:List V) (Q:VK) (E:XK),Room k (A.deeper (envOfC qual (a06 st) s.heap.objs.size f cdv))→sp vs H Q E →
  ∃ t,PSs (cxOf CX0 P w K mg base N qual (a06 st) f cdv A outer s H E).nox (a82 st) t∧t { nx:=fun _ H'=>Q .non H',rt:=Q } (start N vs) H):FnOk P w K mg base CX0 (k+1) f fd ps sp:=by
 obtain ⟨oc,od,kV,doc,pm,an,cdv,ct,osl,rfl,lk,hcd⟩:=F.ex
 refine by9 lk hcd S len fun A outer s H vs Q E hr hsp=>?_
 obtain ⟨t,h,q⟩:=hbody cdv A outer s H vs Q E hr hsp
 exact ⟨t,h.nox,q⟩
theorem Fun.binds {x qual:Str}{st:Stmt}{f:Addr}{fd:FuncData}{ps:List Str}(F:Fun K x qual st f fd)
 (h:∀ (kV doc pm:Value) (an:Option Addr) (cdv ct:Value) (us:List Value),us.length=ps.length→bindArgs (PySem.W.fnOf x qual (ac4 st) (a82 st) (a06 st) .none kV doc pm an cdv ct) ⟨us,[]⟩=pure (ps.zip us)):Binds K fd ps []:=by
 obtain ⟨oc,od,kV,doc,pm,an,cdv,ct,osl,rfl,lk,hcd⟩:=F.ex
 exact .all (h kV doc pm an cdv ct)
theorem bj2 {x qual:Str}{st:Stmt}{f:Addr}{oc:Value}{od an:Option Addr}{osl:Array (Option Value)}{kV doc pm cdv ct:Value}(l:K.lookup f=some ⟨oc,od,.func (PySem.W.fnOf x qual (ac4 st) (a82 st) (a06 st) .none kV doc pm an cdv ct),osl⟩)
 (c:PySem.W.codeIn K cdv qual=true) (k:PySem.W.keepIn K (.ref f)=true):Fun K x qual st f (PySem.W.fnOf x qual (ac4 st) (a82 st) (a06 st) .none kV doc pm an cdv ct):=⟨⟨oc,od,kV,doc,pm,an,cdv,ct,osl,rfl,l,c⟩,k⟩
end
theorem small1000 {n:Nat}(h:n≤1000):n<sizeLine:=Nat.lt_of_le_of_lt h (by decide)
section
variable {X:Cx}
theorem pv (i:Nat) {x:Str}{pos:Pos}(hN:X.N[i]?=some x:=by rfl) (hv:Vis X.env.scope x:=by first | exact Or.inl rfl | exact Or.inr (Or.inl rfl) | exact Or.inr (Or.inr rfl)) (hd:(x == ("__debug__":Str))=false:=by decide)
 (hcd:(x == ("__classdict__":Str))=false:=by decide):PE X (.Name x pos) (tVar i):=bw7 hN hv hd hcd
end
theorem iteF {A B:Prop}(h:B):if false=true then A else B:=by
 rw [if_neg Bool.false_ne_true]
 exact h
theorem iteT {A B:Prop}(h:A):if true=true then A else B:=by
 rw [if_pos rfl]
 exact h
theorem ite2 {c A B:Prop} [Decidable c] (h1:c→A) (h2:¬ c→B):if c then A else B:=by
 by_cases h:c
 · rw [if_pos h]
   exact h1 h
 · rw [if_neg h]
   exact h2 h
def Same (H H':Hp):Prop:=∀ b o,H b=some o→H' b=some o
theorem Same.refl (H:Hp):Same H H:=fun _ _ h=>h
theorem Same.trans {H H1 H2:Hp}(a:Same H H1) (b:Same H1 H2):Same H H2:=fun c o h=>b c o (a c o h)
theorem Same.free {H H':Hp}(e:Same H H') {l:Addr}(h:H' l=Option.none):H l=Option.none:=by
 cases q:H l with
 | none=>rfl
 | some o =>
   rw [e l o q] at h
   cases h
theorem Same.seq {K:PySem.W.Frag}{H H':Hp}{a:Addr}{xs:List V}(e:Same H H') (h:SqL K H a xs):SqL K H' a xs:=by
 rcases h with (h | ⟨o,h⟩) | h
 · exact .inl (.inl (e _ _ h))
 · exact .inl (.inr ⟨o,e _ _ h⟩)
 · exact .inr h
end L2
namespace K52
open PySem L2
def top (i:Nat):Stmt:=PySem.Challenge.pw_callmill_k52_counters_and_too_many.main.body.getD i (.Pass ⟨0,0,0,0⟩)
def view:Program:={ PySem.Challenge.pw_callmill_k52_counters_and_too_many with main:={ PySem.Challenge.pw_callmill_k52_counters_and_too_many.main with body:=[top 1,top 3,top 4,top 5,top 6,top 7,top 9,top 11,top 12,top 13,top 15,top 16,top 17,top 18,top 19,top 20,top 21,top 22,top 23,top 24,top 25,top 26,top 28,top 29,top 30,top 32,top 33,top 34,top 35,top 36,top 37,top 38,top 40,top 41,top 42,top 43,top 44,top 45] } }
abbrev ac5:Stmt:=top 1
abbrev ah0:Stmt:=top 9
abbrev a70:Stmt:=top 11
abbrev b40:Stmt:=top 12
abbrev b41:Stmt:=top 13
abbrev ac6:Stmt:=top 19
abbrev a71:Stmt:=top 20
abbrev aa5:Stmt:=top 21
abbrev ah1:Stmt:=top 22
abbrev ah2:Stmt:=top 23
abbrev a94:Stmt:=top 24
abbrev ab6:Stmt:=top 25
abbrev aq4:Stmt:=top 26
abbrev ab2:Stmt:=top 28
abbrev aq5:Stmt:=top 29
abbrev a83:Stmt:=top 30
abbrev a68:Stmt:=a67 (top 33) 0
abbrev a46:Stmt:=top 34
abbrev a95:Stmt:=top 35
abbrev a84:Stmt:=top 36
abbrev a74:Stmt:=a67 (top 37) 0
abbrev ab7:Stmt:=a67 (top 37) 1
abbrev ad5:Stmt:=a67 (top 37) 2
abbrev ad6:Stmt:=a67 (top 37) 3
abbrev a59:Stmt:=a67 (top 37) 5
abbrev a96:Stmt:=a67 (top 37) 6
abbrev a97:Stmt:=a67 (top 37) 7
abbrev a60:Stmt:=a67 (top 37) 8
abbrev aa6:Stmt:=a67 (top 37) 9
abbrev a62:Stmt:=a67 (top 37) 10
abbrev ab8:Stmt:=top 38
abbrev ae7:Stmt:=top 40
abbrev al3:Stmt:=top 41
abbrev al4:Stmt:=top 42
abbrev ab9:Stmt:=top 43
abbrev ad7:Stmt:=top 44
abbrev bd0:Stmt:=top 45
def aq6 (K:PySem.W.Frag):Sp:=fun vs H Q _=>∃ (a:Addr) (ns:List Int),vs=[.ref a]∧SqL K H a (ns.map V.int)∧ns.length≤63∧∀ H',Q (.bl true) H'
set_option genInjectivity false in
structure Adr where
 {a_bodies_of:Addr}
 {fd_bodies_of:FuncData}
 {a_hand_text:Addr}
 {fd_hand_text:FuncData}
 {a_value_of_box:Addr}
 {fd_value_of_box:FuncData}
 {a_worth:Addr}
 {fd_worth:FuncData}
 {a_holds:Addr}
 {fd_holds:FuncData}
 {a_standings:Addr}
 {fd_standings:FuncData}
 {a_first_values:Addr}
 {fd_first_values:FuncData}
 {a_values_put:Addr}
 {fd_values_put:FuncData}
 {a_said_text:Addr}
 {fd_said_text:FuncData}
 {a_rested_on:Addr}
 {fd_rested_on:FuncData}
 {a_way_of_pattern:Addr}
 {fd_way_of_pattern:FuncData}
 {a_way_of_event:Addr}
 {fd_way_of_event:FuncData}
 {a_stepped:Addr}
 {fd_stepped:FuncData}
 {a_table_of:Addr}
 {fd_table_of:FuncData}
 {a_rows_at:Addr}
 {fd_rows_at:FuncData}
 {a_table_paper:Addr}
 {fd_table_paper:FuncData}
 {a_KeptBody___init__:Addr}
 {fd_KeptBody___init__:FuncData}
 {a_kept_bodies:Addr}
 {fd_kept_bodies:FuncData}
 {a_kept_statement:Addr}
 {fd_kept_statement:FuncData}
 {a_kept_wait:Addr}
 {fd_kept_wait:FuncData}
 {a_Teller___init__:Addr}
 {fd_Teller___init__:FuncData}
 {a_Teller_begin:Addr}
 {fd_Teller_begin:FuncData}
 {a_Teller_step:Addr}
 {fd_Teller_step:FuncData}
 {a_Teller_over:Addr}
 {fd_Teller_over:FuncData}
 {a_Teller_statement_at:Addr}
 {fd_Teller_statement_at:FuncData}
 {a_Teller_settled:Addr}
 {fd_Teller_settled:FuncData}
 {a_Teller_gone_on:Addr}
 {fd_Teller_gone_on:FuncData}
 {a_Teller_stack_behind:Addr}
 {fd_Teller_stack_behind:FuncData}
 {a_Teller_way_on:Addr}
 {fd_Teller_way_on:FuncData}
 {a_Teller_loop_around:Addr}
 {fd_Teller_loop_around:FuncData}
 {a_place_behind:Addr}
 {fd_place_behind:FuncData}
 {a__law_deck:Addr}
 {fd__law_deck:FuncData}
 {a__law_take:Addr}
 {fd__law_take:FuncData}
 {a__law_plus:Addr}
 {fd__law_plus:FuncData}
 {a__law_counters:Addr}
 {fd__law_counters:FuncData}
 {a__law_refused:Addr}
 {fd__law_refused:FuncData}
 {a_law:Addr}
 {fd_law:FuncData}
 {c_MillError:Addr}
 {c_NoScript:Addr}
 {c_TooMany:Addr}
 {c_NoForm:Addr}
 {c_NoneYet:Addr}
 {c_Machine:Addr}
 {c_KeptBody:Addr}
 {c_Teller:Addr}
 {u_QUIET:Value}
 {u_OTHER:Value}
 {u_MOST_STANDINGS:Value}
 {u_NONE:Value}
 {ad_QUIET:Addr}
 {ad_OTHER:Addr}
 {ad_NONE:Addr}
structure CIi (K:PySem.W.Frag) (x q:Str) (st:Stmt) (ps:List Str) (a:Addr) (fd:FuncData):Prop where
 F:Fun K x q st a fd
 b:Binds K fd ps []
structure CFi (K:PySem.W.Frag) (mg:Str→Option Value) (x:Str) (st:Stmt) (ps:List Str) (a:Addr) (fd:FuncData):Prop extends CIi K x x st ps a fd where
 m:mg x=some (.ref a)
structure CMi (K:PySem.W.Frag) (c:Addr) (x q:Str) (st:Stmt) (ps:List Str) (a:Addr) (fd:FuncData):Prop extends CIi K x q st ps a fd where
 M:Meth K c x a
structure Txt (K:PySem.W.Frag) (mg:Str→Option Value) (t:Adr):Prop where
 m_MillError:mg "MillError"=some (.ref t.c_MillError)
 m_NoScript:mg "NoScript"=some (.ref t.c_NoScript)
 m_TooMany:mg "TooMany"=some (.ref t.c_TooMany)
 m_NoForm:mg "NoForm"=some (.ref t.c_NoForm)
 m_NoneYet:mg "NoneYet"=some (.ref t.c_NoneYet)
 m_Machine:mg "Machine"=some (.ref t.c_Machine)
 m_KeptBody:mg "KeptBody"=some (.ref t.c_KeptBody)
 cl_KeptBody:Cls K t.c_KeptBody
 mk_KeptBody:Mk K t.c_KeptBody t.a_KeptBody___init__
 n_KeptBody_behind:NoAttr K t.c_KeptBody "behind"
 n_KeptBody_loops:NoAttr K t.c_KeptBody "loops"
 n_KeptBody_statements:NoAttr K t.c_KeptBody "statements"
 m_Teller:mg "Teller"=some (.ref t.c_Teller)
 cl_Teller:Cls K t.c_Teller
 mk_Teller:Mk K t.c_Teller t.a_Teller___init__
 n_Teller_bodies:NoAttr K t.c_Teller "bodies"
 n_Teller_boxes:NoAttr K t.c_Teller "boxes"
 f_bodies_of:CFi K mg "bodies_of" ac5 ["statement"] t.a_bodies_of t.fd_bodies_of
 f_hand_text:CFi K mg "hand_text" ah0 ["line","word"] t.a_hand_text t.fd_hand_text
 f_value_of_box:CFi K mg "value_of_box" a70 ["name","boxes","values"] t.a_value_of_box t.fd_value_of_box
 f_worth:CFi K mg "worth" b40 ["expression","boxes","values"] t.a_worth t.fd_worth
 f_holds:CFi K mg "holds" b41 ["condition","boxes","values"] t.a_holds t.fd_holds
 f_standings:CFi K mg "standings" ac6 ["machine","events"] t.a_standings t.fd_standings
 f_first_values:CFi K mg "first_values" a71 ["boxes"] t.a_first_values t.fd_first_values
 f_values_put:CFi K mg "values_put" aa5 ["boxes","values","name","expression"] t.a_values_put t.fd_values_put
 f_said_text:CFi K mg "said_text" ah1 ["thing"] t.a_said_text t.fd_said_text
 f_rested_on:CFi K mg "rested_on" ah2 ["standing"] t.a_rested_on t.fd_rested_on
 f_way_of_pattern:CFi K mg "way_of_pattern" a94 ["branches","pattern"] t.a_way_of_pattern t.fd_way_of_pattern
 f_way_of_event:CFi K mg "way_of_event" ab6 ["branches","event"] t.a_way_of_event t.fd_way_of_event
 f_stepped:CFi K mg "stepped" aq4 ["machine","wait","standing","event"] t.a_stepped t.fd_stepped
 f_table_of:CFi K mg "table_of" ab2 ["machine","events"] t.a_table_of t.fd_table_of
 f_rows_at:CFi K mg "rows_at" aq5 ["machine","standing","events","numbers"] t.a_rows_at t.fd_rows_at
 f_table_paper:CFi K mg "table_paper" a83 ["machine","events"] t.a_table_paper t.fd_table_paper
 f_KeptBody___init__:CIi K "__init__" "KeptBody.__init__" a68 ["self","loops","behind"] t.a_KeptBody___init__ t.fd_KeptBody___init__
 f_kept_bodies:CFi K mg "kept_bodies" a46 ["talks"] t.a_kept_bodies t.fd_kept_bodies
 f_kept_statement:CFi K mg "kept_statement" a95 ["statement","behind","number","names"] t.a_kept_statement t.fd_kept_statement
 f_kept_wait:CFi K mg "kept_wait" a84 ["statement","behind","number"] t.a_kept_wait t.fd_kept_wait
 f_Teller___init__:CIi K "__init__" "Teller.__init__" a74 ["self","script"] t.a_Teller___init__ t.fd_Teller___init__
 f_Teller_begin:CMi K t.c_Teller "begin" "Teller.begin" ab7 ["self"] t.a_Teller_begin t.fd_Teller_begin
 f_Teller_step:CMi K t.c_Teller "step" "Teller.step" ad5 ["self","standing","event"] t.a_Teller_step t.fd_Teller_step
 f_Teller_over:CMi K t.c_Teller "over" "Teller.over" ad6 ["self","standing"] t.a_Teller_over t.fd_Teller_over
 f_Teller_statement_at:CMi K t.c_Teller "statement_at" "Teller.statement_at" a59 ["self","place"] t.a_Teller_statement_at t.fd_Teller_statement_at
 f_Teller_settled:CMi K t.c_Teller "settled" "Teller.settled" a96 ["self","place"] t.a_Teller_settled t.fd_Teller_settled
 f_Teller_gone_on:CMi K t.c_Teller "gone_on" "Teller.gone_on" a97 ["self","place","stack","values"] t.a_Teller_gone_on t.fd_Teller_gone_on
 f_Teller_stack_behind:CMi K t.c_Teller "stack_behind" "Teller.stack_behind" a60 ["self","place","stack"] t.a_Teller_stack_behind t.fd_Teller_stack_behind
 f_Teller_way_on:CMi K t.c_Teller "way_on" "Teller.way_on" aa6 ["self","place","statement","values"] t.a_Teller_way_on t.fd_Teller_way_on
 f_Teller_loop_around:CMi K t.c_Teller "loop_around" "Teller.loop_around" a62 ["self","place"] t.a_Teller_loop_around t.fd_Teller_loop_around
 f_place_behind:CFi K mg "place_behind" ab8 ["place"] t.a_place_behind t.fd_place_behind
 f__law_deck:CFi K mg "_law_deck" ae7 ["script"] t.a__law_deck t.fd__law_deck
 f__law_take:CFi K mg "_law_take" al3 ["deck","many"] t.a__law_take t.fd__law_take
 f__law_plus:CFi K mg "_law_plus" al4 ["name"] t.a__law_plus t.fd__law_plus
 f__law_counters:CFi K mg "_law_counters" ab9 ["sizes","limits","word","lead"] t.a__law_counters t.fd__law_counters
 f__law_refused:CFi K mg "_law_refused" ad7 ["machine","events","paper"] t.a__law_refused t.fd__law_refused
 f_law:CFi K mg "law" bd0 ["script"] t.a_law t.fd_law
 z_ValueError:mg "ValueError"=none
 z_dict:mg "dict"=none
 z_enumerate:mg "enumerate"=none
 z_int:mg "int"=none
 z_isinstance:mg "isinstance"=none
 z_len:mg "len"=none
 z_list:mg "list"=none
 z_range:mg "range"=none
 z_sum:mg "sum"=none
 z_tuple:mg "tuple"=none
 z_zip:mg "zip"=none
 xe_TooMany:PySem.W.excIn K t.c_TooMany [.type "ValueError",.type "Exception",.type "BaseException",.type "object"] "ValueError.__new__"=true
 xm_TooMany_MillError:PySem.W.exmOne K (.ref t.c_TooMany) (.ref t.c_MillError)=some true
 xb_TooMany:(PySem.W.findIn K (.ref t.c_TooMany) "__getattribute__" == some (some (.builtin "BaseException.__getattribute__")) && PySem.W.findIn K (.ref t.c_TooMany) "__getattr__" == some none && PySem.W.findIn K (.ref t.c_TooMany) "__class__" == some (some (.builtin "object.__class__")) && PySem.W.specialIn K (.builtin "object.__class__") "__get__" == some (some (.builtin "getset_descriptor.__get__")) && PySem.W.takesIn K (.builtin "object.__class__") == some true && PySem.W.mroIn K t.c_TooMany (.type "object") == some true && PySem.W.mroIn K t.c_TooMany (.type "BaseException") == some true && (PySem.W.clsIn K t.c_TooMany).isSome)=true
 ik_TooMany_TooMany:PySem.W.kitOne K (.ref t.c_TooMany) (.ref t.c_TooMany)=some true
 ik_TooMany_NoForm:PySem.W.kitOne K (.ref t.c_TooMany) (.ref t.c_NoForm)=some false
 ik_TooMany_NoneYet:PySem.W.kitOne K (.ref t.c_TooMany) (.ref t.c_NoneYet)=some false
 ik_TooMany_NoScript:PySem.W.kitOne K (.ref t.c_TooMany) (.ref t.c_NoScript)=some false
 ik_TooMany_ValueError:PySem.W.kitOne K (.ref t.c_TooMany) (.type "ValueError")=some true
 m_QUIET:mg "QUIET"=some t.u_QUIET
 r_QUIET:RelV (.ref t.ad_QUIET) t.u_QUIET
 m_OTHER:mg "OTHER"=some t.u_OTHER
 r_OTHER:RelV (.ref t.ad_OTHER) t.u_OTHER
 m_MOST_STANDINGS:mg "MOST_STANDINGS"=some t.u_MOST_STANDINGS
 r_MOST_STANDINGS:RelV (.int 2000) t.u_MOST_STANDINGS
 m_NONE:mg "NONE"=some t.u_NONE
 r_NONE:RelV (.ref t.ad_NONE) t.u_NONE
 dd_QUIET:∃ od its nn sl,K.lookup t.ad_QUIET=some ⟨.type "tuple",od,.seq its nn,sl⟩∧its.size≤sizeLine∧Vals [.str "quiet"] its.toList
 dd_OTHER:∃ od its nn sl,K.lookup t.ad_OTHER=some ⟨.type "tuple",od,.seq its nn,sl⟩∧its.size≤sizeLine∧Vals [.str "other"] its.toList
 dd_NONE:∃ od its nn sl,K.lookup t.ad_NONE=some ⟨.type "tuple",od,.seq its nn,sl⟩∧its.size≤sizeLine∧Vals [.str "none"] its.toList
theorem ak0 {us:List Value}{n:Nat}(h:us.length=n+1):∃ u r,us=u::r:=by
 cases us with
 | nil=>cases h
 | cons u r=>exact ⟨u,r,rfl⟩
theorem c92 {us:List Value}(h:us.length=1):∃ u0,us=[u0]:=by
 obtain ⟨u0,us,rfl⟩:=ak0 h; replace h:=Nat.succ.inj h
 obtain rfl:=List.length_eq_zero_iff.mp h
 exact ⟨u0,rfl⟩
theorem c93 {us:List Value}(h:us.length=2):∃ u0 u1,us=[u0,u1]:=by
 obtain ⟨u0,us,rfl⟩:=ak0 h; replace h:=Nat.succ.inj h
 obtain ⟨u1,us,rfl⟩:=ak0 h; replace h:=Nat.succ.inj h
 obtain rfl:=List.length_eq_zero_iff.mp h
 exact ⟨u0,u1,rfl⟩
theorem c94 {us:List Value}(h:us.length=3):∃ u0 u1 u2,us=[u0,u1,u2]:=by
 obtain ⟨u0,us,rfl⟩:=ak0 h; replace h:=Nat.succ.inj h
 obtain ⟨u1,us,rfl⟩:=ak0 h; replace h:=Nat.succ.inj h
 obtain ⟨u2,us,rfl⟩:=ak0 h; replace h:=Nat.succ.inj h
 obtain rfl:=List.length_eq_zero_iff.mp h
 exact ⟨u0,u1,u2,rfl⟩
theorem c95 {us:List Value}(h:us.length=4):∃ u0 u1 u2 u3,us=[u0,u1,u2,u3]:=by
 obtain ⟨u0,us,rfl⟩:=ak0 h; replace h:=Nat.succ.inj h
 obtain ⟨u1,us,rfl⟩:=ak0 h; replace h:=Nat.succ.inj h
 obtain ⟨u2,us,rfl⟩:=ak0 h; replace h:=Nat.succ.inj h
 obtain ⟨u3,us,rfl⟩:=ak0 h; replace h:=Nat.succ.inj h
 obtain rfl:=List.length_eq_zero_iff.mp h
 exact ⟨u0,u1,u2,u3,rfl⟩
theorem bo7 {K:PySem.W.Frag}{x q:Str}{st:Stmt}{f:Addr}{ps:List Str}{oc:Value}{od an:Option Addr}{osl:Array (Option Value)}{kV doc pm cdv ct:Value}(l:K.lookup f=some ⟨oc,od,.func (PySem.W.fnOf x q (ac4 st) (a82 st) (a06 st) .none kV doc pm an cdv ct),osl⟩) (c:PySem.W.codeIn K cdv q=true) (k:PySem.W.keepIn K (.ref f)=true) (b:∀ (kV doc pm:Value) (an:Option Addr) (cdv ct:Value) (us:List Value),us.length=ps.length→bindArgs (PySem.W.fnOf x q (ac4 st) (a82 st) (a06 st) .none kV doc pm an cdv ct) ⟨us,[]⟩=pure (ps.zip us)):CIi K x q st ps f (PySem.W.fnOf x q (ac4 st) (a82 st) (a06 st) .none kV doc pm an cdv ct):=⟨bj2 l c k,(bj2 l c k).binds b⟩
theorem c96 {K:PySem.W.Frag}{mg:Str→Option Value}{h:Heap}{x:Str}{st:Stmt}{ps:List Str}{f:Addr}{fd:FuncData}(X:K.In h) (G:h.Ns mainGlobals mg) (a:PySem.W.nsIn K mainGlobals x=some (some (.ref f))) (i:CIi K x x st ps f fd):CFi K mg x st ps f fd:=⟨i,PySem.W.mg_of X G a⟩
def HF (P:Params) (K:PySem.W.Frag):Prop:=∃ t:Adr,∀ (mg:Str→Option Value) (h:Heap),K.In h→h.Ns mainGlobals mg→Txt K mg t
theorem walk2 {l:PySem.W.OpenLaw}{q:Program}{loose:List Str}{XP:(Str→Option Value)→Heap→Prop}{YP:World→Heap→Prop}{d:DefRec}{K:Params→PySem.W.Frag}(hn:l.most=some 63) (hdf:d.params.defaults=[]) (hd:d.name="law") (hl:l=PySem.Challenge.rw_callmill_k52_counters_and_too_many) (hY:∀ (w:World) (h:Heap),YP w h→(K w.params).In h) (hF:∀ P,HF P (K P)) (G:∀ K:Params→PySem.W.Frag,(∀ P,HF P (K P))→(∀ (w:World) (mg:Str→Option Value) (fa:Addr) (h:Heap),(K w.params).In h→h.Ns mainGlobals mg→mg "law"=some (.ref fa)→∃ fd:FuncData,(∀ (s:Shared) (u:Value),BindsTo s fd ⟨[u],[]⟩ [("script",u)])∧∀ base:Heap,(K w.params).In base→base.Ns mainGlobals mg→FnOk PySem.Challenge.rw_callmill_k52_counters_and_too_many.prog w (K w.params) mg base CX0 22 fa fd ["script"] (aq6 (K w.params)))):PySem.W.WalkO q loose XP YP l.row.toRowW d [] (fun f vs=>PySem.call f vs) :=
 L2.walk_of (n:=63) (k:=22) (x:="script") (CX:=fun _=>CX0) (sp:=fun w=>aq6 (K w.params)) hn (by decide) hdf ⟨rfl,by decide,by decide⟩ hY (by rw [hd,hl]; exact G K hF) (fun _ _ a ns hl _ hS=>⟨a,ns,rfl,hS,hl,fun _=>rfl⟩) fun _ _ _ _ _ z=>z
theorem c97 {K:PySem.W.Frag}{C:Addr}{x q:Str}{st:Stmt}{ps:List Str}{f:Addr}{fd:FuncData}(a:PySem.W.findIn K (.ref C) x=some (some (.ref f))) (i:PySem.W.isFn K (.ref f)=true) (h:CIi K x q st ps f fd):CMi K C x q st ps f fd:=⟨h,a,i,h.F.kp⟩
theorem c98 {K:PySem.W.Frag}{a:Addr}{vs:List V}{od:Option Addr}{its:Array Value}{nn:Nat}{sl:Array (Option Value)}(h1:K.lookup a=some ⟨.type "tuple",od,.seq its nn,sl⟩) (h2:its.size≤sizeLine) (h3:Vals vs its.toList):∃ od its nn sl,K.lookup a=some ⟨.type "tuple",od,.seq its nn,sl⟩∧its.size≤sizeLine∧Vals vs its.toList:=⟨_,_,_,_,h1,h2,h3⟩
theorem c99 {K:PySem.W.Frag}{a:Addr}{od:Option Addr}{cd:ClassData}{sl:Array (Option Value)}(h:K.lookup a=some ⟨.type "type",od,.cls cd,sl⟩):∃ od cd sl,K.lookup a=some ⟨.type "type",od,.cls cd,sl⟩:=⟨_,_,_,h⟩
section
open PySem PySem.W PyProof.Rows
local macro_rules | `(tactic| o_head $H) => `(tactic| refine holds_open (q := K52.view) (loose := []) (Xt := fun s => xlAt K52.view [] s && recOk (RowW.records _) s) (XP := XL K52.view []) (Yf := Hook.obs $H) (Ya := Hook.val $H) (YP := Hook.says $H) (N := 8000) ?hl (Hook.of $H) (Hook.keeps $H) (fun s e => xl_of s (Bool.and_eq_true_iff.mp e).1) XL.keeps (by rfl) (by rfl) (by rfl) (fun s e => recFacts_of (Bool.and_eq_true_iff.mp e).2) (by rfl) (by first | assumption | decide +kernel) (by decide +kernel) ⟨rfl, rfl, rfl, rfl, rfl, by decide +kernel⟩ ?hw ?hc)
local macro_rules | `(tactic| walk_at "bi") => `(tactic| (intro _ _ _ _ _ _ us hl; first | (obtain ⟨_, z⟩ := c92 hl; subst z; rfl) | (obtain ⟨_, _, z⟩ := c93 hl; subst z; rfl) | (obtain ⟨_, _, _, z⟩ := c94 hl; subst z; rfl) | (obtain ⟨_, _, _, _, z⟩ := c95 hl; subst z; rfl)))
local macro_rules | `(tactic| walk_at "fi") => `(tactic| first | (refine' c96 $(Lean.mkIdent `X) $(Lean.mkIdent `G) ?a (bo7 ?l ?c ?k (by walk_at "bi")); (case a => k_is); (case l => k_is); (case c => k_is); (case k => k_is)) | (refine' c97 ?a ?i (bo7 ?l ?c ?k (by walk_at "bi")); (case a => k_is); (case i => k_is); (case l => k_is); (case c => k_is); (case k => k_is)) | (refine' bo7 ?l ?c ?k (by walk_at "bi"); (case l => k_is); (case c => k_is); (case k => k_is)) | (refine' PySem.W.mg_of $(Lean.mkIdent `X) $(Lean.mkIdent `G) ?a; (case a => k_is)) | (refine' PySem.W.mg_none_of $(Lean.mkIdent `X) $(Lean.mkIdent `G) ?a; (case a => k_is)) | (unfold NoAttr; k_is) | k_is | (refine' Cls.mk ?a ?b ?c ?d; (case a => k_is); (case b => k_is); (case c => k_is); (case d => k_is)) | (refine' Mk.mk ?a ?b ?c ?d; (case a => k_is); (case b => k_is); (case c => k_is); (case d => k_is)) | exact ⟨_, rfl⟩ | (with_reducible exact rfl) | (refine' c98 ?a ?b ?c; (case a => k_is); (case b => exact Nat.le_of_lt (L2.small1000 (by decide))); (case c => repeat first | exact .nil | refine .cons (by first | exact rfl | exact ⟨_, rfl⟩) ?_)) | (refine' c99 ?a; (case a => k_is)) | (change PySem.W.excIn _ _ _ _ = true; kernel_rfl) | (change PySem.W.exmOne _ _ _ = some _; kernel_rfl) | (change (_ && _) = true; kernel_rfl) | (change PySem.W.kitOne _ _ _ = some _; kernel_rfl) | exact rfl)
def bt:List Obj→Nat→BT→BT
 | [],_,t=>t
 | o::l,i,t=>bt l (i+1) (t.ins i o)
noncomputable def T0 (P:Params):BT:=bt (boot_heap P).objs.toList 0 .nil
def runT (tb:String→Option Builtin) (p:Program) (w:World) (n₀:Nat) (ann:Option Value):Nat→SharedT→Thread→Option SharedT
 | 0,_,_=>none
 | n+1,s,t=>match through t with
   | true=>some s
   | false=>match stepOk n₀ ann t with
     | false=>none
     | true=>match stepT (denote tb) p w s t with
       | some (s',t')=>runT tb p w n₀ ann n s' t'
       | none=>none
theorem b42 {tb:String→Option Builtin}{p:Program}{w:World}{n₀:Nat}{ann:Option Value}:∀ {n:Nat}{s s':SharedT}{t:Thread},runT tb p w n₀ ann n s t=some s'→topRun tb p w n₀ ann n s.abs t=some s'.abs
 | 0,_,_,_,h=>by cases h
 | n+1,s,s',t,h=>by
   unfold runT at h
   unfold topRun
   cases he:through t with
   | true=>rw [he] at h; cases h; rfl
   | false =>
     rw [he] at h
     cases hk:stepOk n₀ ann t with
     | false=>rw [hk] at h; cases h
     | true =>
       rw [hk] at h
       cases hs:stepT (denote tb) p w s t with
       | none=>rw [hs] at h; cases h
       | some r=>obtain ⟨s₂,t₂⟩:=r; rw [hs] at h; rw [stepT_spec hs]; exact b42 h
theorem b43 {p q:Program}{loose:List Str}{Xt:Shared→Bool}{α:Type}{Yf:Shared→α}{Ya:World→α}{N:Nat}{g0:Bool}{m₀:Nat}{ann:Option Value}(e:opening p=plainProg p.main.scope.names) (hN:Nat.ble 600 N=true) (f:∀ s,fenceModules? p s=some s)
 (b:∀ P,boot_heap P=absHeap (T0 P) m₀ (boot_heap P).life) (z:∀ w:World,(boot_heap w.params).isNs mainGlobals=true∧(boot_heap w.params).objs.size=m₀∧(boot_heap w.params).nsMap mainGlobals "__annotations__"=ann)
 (h:∀ (w:World) (os:OsState),(runT treeTable p w m₀ ann N ⟨T0 w.params,m₀,(boot_heap w.params).life,Array.mk [],boot_drawn,boot_toks,os⟩ (topStub p)).map (fun s=>(staticsOk (importedModules p.main.body) (boot_heap w.params) s.abs.heap && namesBound p s.abs.heap && gensDone s.abs && laidKept (boot_heap w.params) s.abs.heap,openSeen q loose (importedModules p.main.body) Xt g0 s.abs,Yf s.abs))=some (true,openGood q loose,Ya w)):LeftO p q loose Xt Yf Ya N g0:=fun w=>by
 obtain ⟨⟨hp,g,d,k,os⟩,hs,hv⟩:=Option.map_eq_some_iff.mp (boot_open e hN f w)
 injection hv with v1 v2
 injection v2 with v2 v3
 injection v3 with v3 v4
 dsimp only at v1 v2 v3 v4
 subst v1 v2 v3 v4
 obtain ⟨z1,z2,z3⟩:=z w
 obtain ⟨s',h1,h2⟩:=Option.map_eq_some_iff.mp (h w os)
 obtain ⟨l1,l2,l3⟩:_∧_∧_:=by simpa only [Prod.mk.injEq] using h2
 have r:=b42 h1
 have r':topRun treeTable p w m₀ ann N ⟨boot_heap w.params,Array.mk [],boot_drawn,boot_toks,os⟩ (topStub p)=some s'.abs:=by
  rw [b w.params]
  exact r
 unfold openEnds
 rw [hs]
 show (topFrom treeTable p w N _).map _=_
 unfold topFrom
 dsimp only
 rw [z1,z2,z3,r']
 show (match staticsOk (importedModules p.main.body) (boot_heap w.params) s'.abs.heap && namesBound p s'.abs.heap && gensDone s'.abs && laidKept (boot_heap w.params) s'.abs.heap with | true=>some s'.abs | false=>none).map _=_
 rw [l1]
 exact congrArg some (Prod.ext l2 l3)
theorem c00 (P:Params):boot_heap P=absHeap (T0 P) 11 (boot_heap P).life:=by kernel_rfl
theorem c01 (w:World):(boot_heap w.params).isNs mainGlobals=true∧(boot_heap w.params).objs.size=11∧(boot_heap w.params).nsMap mainGlobals "__annotations__"=some (.ref 6):=⟨by kernel_rfl,by kernel_rfl,by kernel_rfl⟩
set_option maxRecDepth 100000 in
set_option maxHeartbeats 0 in
theorem head (G:∀ K:Params→PySem.W.Frag,(∀ P,HF P (K P))→(∀ (w:World) (mg:Str→Option Value) (fa:Addr) (h:Heap),(K w.params).In h→h.Ns mainGlobals mg→mg "law"=some (.ref fa)→∃ fd:FuncData,(∀ (s:Shared) (u:Value),BindsTo s fd ⟨[u],[]⟩ [("script",u)])∧∀ base:Heap,(K w.params).In base→base.Ns mainGlobals mg→FnOk PySem.Challenge.rw_callmill_k52_counters_and_too_many.prog w (K w.params) mg base CX0 22 fa fd ["script"] (aq6 (K w.params)))):PySem.Challenge.rw_callmill_k52_counters_and_too_many.Holds:=by
 w_on; o_law; k_head; (case hw=>w_witness2); (case hl=>exact b43 rfl rfl (fun _=>rfl) c00 c01 (by intro w os; kernel_rfl))
 k_fill
 refine K52.walk2 (l:=PySem.Challenge.rw_callmill_k52_counters_and_too_many) rfl rfl rfl rfl (fun w h Y=>PySem.W.kIn_of Y) ?facts G
 case facts =>
  intro P
  refine' ⟨Adr.mk,fun mg h X G=>?z⟩
  case z =>
   constructor
   all_goals (try dsimp only); walk_at "fi"
end
end K52
namespace L2
open PySem PySem.Spec PyProof.Rows
section
variable {κ:Type} [DecidableEq κ]
def valV (kvs:List (κ×V)) (k:κ):Option V:=(kvs.find? fun kv=>decide (kv.1=k)).map (·.2)
def putK (kvs:List (κ×V)) (k:κ) (v:V):List (κ×V) :=
 if (kvs.any fun kv=>decide (kv.1=k))=true then kvs.map (fun kv=>if kv.1=k then (kv.1,v) else kv) else kvs++[(k,v)]
theorem a52 {p:κ×V}{r:List (κ×V)}{k:κ}(e:p.1=k):valV (p::r) k=some p.2:=by simp [valV,List.find?_cons,e]
theorem a53 {p:κ×V}{r:List (κ×V)}{k:κ}(e:¬ p.1=k):valV (p::r) k=valV r k:=by simp [valV,List.find?_cons,e]
theorem af9 (k:κ):∀ kvs:List (κ×V),(kvs.any fun kv=>decide (kv.1=k))=(valV kvs k).isSome
 | []=>rfl
 | p::r=>by
   rw [List.any_cons]
   by_cases e:p.1=k
   · simp only [a52 e,decide_eq_true e,Bool.true_or,Option.isSome_some]
   · rw [a53 e,decide_eq_false e,Bool.false_or]; exact af9 k r
theorem aw8 (k j:κ) (y:V):∀ kvs:List (κ×V),valV (kvs.map fun kv=>if kv.1=k then (kv.1,y) else kv) j=(valV kvs j).map fun x=>if j=k then y else x
 | []=>rfl
 | p::r=>by
   have ih:=aw8 k j y r
   rw [List.map_cons]
   by_cases h:p.1=k
   · rw [if_pos h]
     by_cases e:p.1=j
     · rw [a52 (p:=(p.1,y)) e,a52 e,Option.map_some,if_pos (e.symm.trans h)]
     · rw [a53 (p:=(p.1,y)) e,a53 e,ih]
   · rw [if_neg h]
     by_cases e:p.1=j
     · rw [a52 (p:=p) e,a52 e,Option.map_some,if_neg (fun z=>h (e.trans z))]
     · rw [a53 (p:=p) e,a53 e,ih]
theorem aq7 (k j:κ) (y:V):∀ kvs:List (κ×V),valV kvs k=none→valV (kvs++[(k,y)]) j=if j=k then some y else valV kvs j
 | [],_=>by
   by_cases e:k=j
   · rw [if_pos e.symm]; exact a52 (p:=(k,y)) e
   · rw [if_neg (fun z=>e z.symm)]; exact a53 (p:=(k,y)) e
 | p::r,hn=>by
   rw [List.cons_append]
   have hk:¬ p.1=k:=fun z=>by rw [a52 z] at hn; cases hn
   rw [a53 hk] at hn
   have ih:=aq7 k j y r hn
   by_cases e:p.1=j
   · rw [a52 e,a52 e,if_neg (fun z=>hk (e.trans z))]
   · rw [a53 e,a53 e,ih]
theorem bd1 (kvs:List (κ×V)) (k j:κ) (y:V):valV (putK kvs k y) j=if j=k then some y else valV kvs j:=by
 unfold putK
 by_cases a:(kvs.any fun kv=>decide (kv.1=k))=true
 · rw [if_pos a,aw8]
   rw [af9] at a
   by_cases e:j=k
   · obtain ⟨x,hx⟩:=Option.isSome_iff_exists.mp a
     rw [if_pos e,e,hx,Option.map_some,if_pos rfl]
   · rw [if_neg e]
     cases valV kvs j with
     | none=>rfl
     | some x=>rw [Option.map_some,if_neg e]
 · rw [if_neg a]
   refine aq7 k j y kvs ?_
   rw [af9] at a
   cases q:valV kvs k with
   | none=>rfl
   | some x=>rw [q] at a; exact (a rfl).elim
theorem at6 (kvs:List (κ×V)) (k:κ) (v:V):(putK kvs k v).length≤kvs.length+1:=by
 unfold putK
 split
 · rw [List.length_map]; omega
 · rw [List.length_append,List.length_cons,List.length_nil]; omega
theorem bd2 {kvs:List (κ×V)}{k:κ}(v:V) (h:valV kvs k=none):putK kvs k v=kvs++[(k,v)]:=by
 unfold putK
 rw [af9,h]
 exact if_neg (by decide)
theorem RelO.isSome_eq {o:Option V}{u:Option Value}(r:RelO o u):o.isSome=u.isSome:=by
 cases o with
 | none=>cases u with
   | none=>rfl
   | some _=>exact (show False from r).elim
 | some _=>cases u with
   | none=>exact (show False from r).elim
   | some _=>rfl
end
section
variable {P:Program}{w:World}{H:Hp}{h:Heap}{a:Addr}
end
section
variable {X:Cx}{pins:List (Addr×Obj)}{σ:St} {H:Hp}{s:Shared}{a:Addr}{y v:V}{u r:Value}{o:Option V}{A:Around}{E:Value→Shared→Prop}
theorem Inv.big (I:Inv X pins σ H s):sysModules<s.heap.objs.size:=by
 have h:mainGlobals<s.heap.objs.size:=(I.mod.glob.keeps I.bk).lt
 exact Nat.lt_trans (by decide) h
theorem b44 {h':Heap}{t':Nat}{ob:HO}(I:Inv X pins σ H s) (mu:Mut (H a)) (hs:Heap.SameBut a s.heap h') (he:∃ q,h'.get? a=some q) (new:ObjOk X.prog X.w (upd H a ob) h' a ob) :
 Inv X pins σ (upd H a ob) { s with heap:=h',toks:=t' } :=
 I.write (x:=a) (e:=a) mu (.inl rfl) (fun b q hb z=>(hs.2 b hb).trans z) he new
end
section
variable {X:Cx}{pins:List (Addr×Obj)}{σ:St} {H:Hp}{s:Shared}{a:Addr}{kvs:List (Key×V)}{k:Key}{u:Value}{A:Around}{E:Value→Shared→Prop}
end
def NoSl (i:Expr):Prop:=∀ ov iv,subscripted i false ov iv=operate [ov,iv] (getItem ov iv)
theorem bo8 {prog:Program}{w:World}{A:Around}{E:Value→Shared→Prop}{s:Shared}{env:Env}{value slice:Expr}{pos:Pos}{T id:String}{Q:Value→Shared→Prop}
 (hl:typeLookup (.type T) "__getitem__"=pure (some (.builtin id))) (hs:NoSl slice)
 (h:wpAny (model prog w) A (eval value env) (fun o s₁=>wpAny (model prog w) A (eval slice env) (fun i s₂=>s₂.TypeIs o T∧wpAny (model prog w) A (getItem o i) Q E s₂) E s₁) E s) :
 wpAny (model prog w) A (eval (.Subscript value slice pos) env) Q E s:=by
 refine Subscript_ (wpAny_mono h (fun o s₁ h₁=>wpAny_mono h₁ (fun i s₂ h₂=>?_) fun _ _ x=>x) fun _ _ x=>x)
 obtain ⟨hT,h₂⟩:=h₂
 unfold subscriptTail
 refine wpAny_bind ?_
 rw [getitemInPython_of_ne hT.not_modules]
 refine wpAny_bind (wpAny_specialOf hT hl ?_)
 have fin:wpAny (model prog w) A (subscripted slice false o i) (fun r s₃=>wpAny (model prog w) A (letTemporaryGo value o r >>= fun _=>pure r) Q E s₃) E s₂:=by
  rw [hs o i]
  exact wpAny_operating (wpAny_mono h₂ (fun r s₃ h₃=>wpAny_bind (wpAny_letTemporaryGo (wpAny_pure h₃))) fun _ _ x=>x)
 first
  | exact wpAny_pure (wpAny_bind fin)
  | exact wpAny_bind (wpAny_pure (wpAny_bind fin))
  | exact wpAny_bind fin
section
variable {X:Cx}{o i e value:Expr}{pos pos' tpos:Pos}{td ty tv:TE}
end
section
variable {X:Cx}{pos:Pos}
end
section
variable {X:Cx}{pins:List (Addr×Obj)}{σ:St} {H:Hp}{s:Shared}{a:Addr}{y d:V}{u r:Value}{o:Option V}{A:Around}{E:Value→Shared→Prop}
end
section
variable {X:Cx}{o e f:Expr}{apos cpos:Pos}{td ty tx:TE}
end
section
variable {X:Cx}{pins:List (Addr×Obj)}{σ:St} {H:Hp}{s:Shared}{a:Addr}{kvs:List (Key×V)}{A:Around}{E:Value→Shared→Prop}
end
section
variable {X:Cx}{pins:List (Addr×Obj)}{σ:St} {H:Hp}{s:Shared}{a:Addr}{y:V}{u:Value}{A:Around}{E:Value→Shared→Prop}
end
section
variable {κ:Type} [DecidableEq κ]
theorem b45:∀ {l:List κ}{k:κ},l.Nodup→¬ k∈l→(l++[k]).Nodup
 | [],k,_,_=>by simp
 | a::r,k,h,hk=>by
   obtain ⟨h1,h2⟩:=List.nodup_cons.mp h
   show (a::(r++[k])).Nodup
   refine List.nodup_cons.mpr ⟨fun m=>?_,b45 h2 fun m=>hk (List.mem_cons.mpr (Or.inr m))⟩
   rcases List.mem_append.mp m with q | q
   · exact h1 q
   · exact hk (List.mem_cons.mpr (Or.inl (List.mem_singleton.mp q).symm))
end
def cxC (X:Cx) (N:List Str) (scope:Scope) (cl:List (Str×Addr)) (C:Addr) (s0:Shared) (H0:Hp) (ex:List Addr):Cx :=
 { X with N:=N,s₀:=s0,H₀:=H0,env:=compEnvC scope cl C X.env,outer:=X.stack,stack:=X.stack,ex:=ex,fn:=fun x=>scope.names.lookup x == some .cell,pn:=[],xe:=fun _ _=>False }
theorem al5 {env : Env} (has : ∀ x, (env.kindOf x = some .cell ∨ env.kindOf x = some .free) → ∃ c, env.cells.lookup x = some c) {scope : Scope}
    (hf : ∀ y ∈ scope.names, y.2 = .free → env.kindOf y.1 = some .cell ∨ env.kindOf y.1 = some .free) :
    ∃ cl, closureFor scope env = pure cl ∧ (∀ x c, cl.lookup x = some c → env.cells.lookup x = some c) ∧ (∀ y ∈ scope.names, y.2 = .free → ∃ c, cl.lookup y.1 = some c) := by
  have gen : ∀ (names : List (Str × NameKind)) (cs : List (Str × Addr)), (∀ y ∈ names, y.2 = .free → env.kindOf y.1 = some .cell ∨ env.kindOf y.1 = some .free) →
      (∀ x c, cs.lookup x = some c → env.cells.lookup x = some c) →
      ∃ cl, (forIn (m := Sem) names cs fun p r => do
          match p with
          | (name, kind) => if kind == .free then do let c ← cellOf env name; pure (ForInStep.yield ((name, c) :: r)) else pure (ForInStep.yield r)) = pure cl ∧
        (∀ x c, cl.lookup x = some c → env.cells.lookup x = some c) ∧ (∀ x c, cs.lookup x = some c → ∃ c, cl.lookup x = some c) ∧ (∀ y ∈ names, y.2 = .free → ∃ c, cl.lookup y.1 = some c) := by
    intro names
    induction names with
    | nil => intro cs _ h; exact ⟨cs, rfl, h, fun x c e => ⟨c, e⟩, fun y hy => nomatch hy⟩
    | cons p r ih =>
      intro cs hp h
      obtain ⟨n, k⟩ := p
      by_cases hk : k = .free
      · subst hk
        obtain ⟨c, hc⟩ := has n (hp (n, .free) List.mem_cons_self rfl)
        have h' : ∀ x d, ((n, c) :: cs).lookup x = some d → env.cells.lookup x = some d := by
          intro x d e
          rw [List.lookup_cons] at e
          cases hx : x == n with
          | true =>
            rw [hx] at e
            have : x = n := by simpa using hx
            cases e; rw [this]; exact hc
          | false => rw [hx] at e; exact h x d e
        obtain ⟨cl, e1, e2, e3, e4⟩ := ih ((n, c) :: cs) (fun y hy => hp y (List.mem_cons_of_mem _ hy)) h'
        have hn : ∃ d, cl.lookup n = some d := e3 n c (by simp [List.lookup_cons])
        refine ⟨cl, ?_, e2, fun x d e => ?_, fun y hy hyk => ?_⟩
        · rw [List.forIn_cons]
          have : cellOf env n = pure c := by unfold cellOf; rw [hc]
          simp only [beq_self_eq_true, if_true, this]
          exact e1
        · by_cases hx : x = n
          · subst hx; exact hn
          · exact e3 x d (by rw [List.lookup_cons]; have : (x == n) = false := by simpa using hx
                             rw [this]; exact e)
        · rcases List.mem_cons.mp hy with rfl | hy
          · exact hn
          · exact e4 y hy hyk
      · obtain ⟨cl, e1, e2, e3, e4⟩ := ih cs (fun y hy => hp y (List.mem_cons_of_mem _ hy)) h
        refine ⟨cl, ?_, e2, e3, fun y hy hyk => ?_⟩
        · rw [List.forIn_cons]
          have : (k == NameKind.free) = false := by simpa using hk
          simp only [this]
          exact e1
        · rcases List.mem_cons.mp hy with rfl | hy
          · exact absurd hyk hk
          · exact e4 y hy hyk
  obtain ⟨cl, e1, e2, _, e4⟩ := gen scope.names [] hf (fun x c e => nomatch e)
  refine ⟨cl, ?_, e2, e4⟩
  unfold closureFor
  simp only []
  exact congrArg (· >>= fun cs => pure cs) e1 |>.trans rfl
theorem aq8 {scope:Scope}{env:Env}{x:Str}{k:NameKind}(h:(relabel scope env).names.lookup x=some k) (hk:k=.cell∨k=.free):∃ y∈scope.names,y.1=x∧(y.2=.free∨y.2=.cell):=by
 have gen:∀ names:List (Str×NameKind),(names.map fun (n,k)=>if (k == NameKind.free && env.scope.kind == .function && env.kindOf n == some .cell) then (n,NameKind.cell) else (n,k)).lookup x=some k →
  ∃ y∈names,y.1=x∧(y.2=.free∨y.2=.cell):=by
  intro names
  induction names with
  | nil=>intro h; cases h
  | cons p r ih =>
    obtain ⟨n,j⟩:=p
    intro h
    rw [List.map_cons,List.lookup_cons] at h
    have e1:(if (j == NameKind.free && env.scope.kind == .function && env.kindOf n == some .cell)=true then (n,NameKind.cell) else (n,j)).1=n:=by split <;> rfl
    dsimp only at h
    rw [e1] at h
    cases hx:x == n with
    | false =>
      rw [hx] at h
      obtain ⟨y,hy,q⟩:=ih h
      exact ⟨y,List.mem_cons_of_mem _ hy,q⟩
    | true =>
      rw [hx] at h
      have ex:x=n:=by simpa using hx
      refine ⟨(n,j),List.mem_cons_self,ex.symm,?_⟩
      by_cases hc:(j == NameKind.free && env.scope.kind == .function && env.kindOf n == some .cell)=true
      · have:=(Bool.and_eq_true _ _).mp ((Bool.and_eq_true _ _).mp hc).1
        exact .inl (by simpa using this.1)
      · rw [if_neg hc] at h
        cases h
        exact hk.symm
 exact gen scope.names h
theorem a85:∀ (names:List (Str×NameKind)) (n:Nat) (a b:List (Str×Addr)),cellsFrom n names (a++b)=cellsFrom n names a++b
 | [],_,_,_=>rfl
 | (x,k)::r,n,a,b=>by
   unfold cellsFrom
   split
   · exact a85 r (n+1) ((x,n)::a) b
   · exact a85 r n a b
theorem a86:∀ (names:List (Str×NameKind)) (n:Nat) (a:List (Str×Addr)) (x:Str) (c:Addr),(x,c)∈cellsFrom n names a→(x,c)∈a∨(x,NameKind.cell)∈names
 | [],_,_,_,_,h=>.inl h
 | (y,k)::r,n,a,x,c,h=>by
   unfold cellsFrom at h
   split at h
   · next hk =>
     rcases a86 r (n+1) _ x c h with z | z
     · rcases List.mem_cons.mp z with e | z
       · cases e
         have:k=.cell:=by simpa using hk
         subst this
         exact .inr List.mem_cons_self
       · exact .inl z
     · exact .inr (List.mem_cons_of_mem _ z)
   · rcases a86 r n a x c h with z | z
     · exact .inl z
     · exact .inr (List.mem_cons_of_mem _ z)
theorem ad8 {α:Type}:∀ {l:List (Str×α)}{x:Str}{c:α},(x,c)∈l→∃ d,l.lookup x=some d
 | [],_,_,h=>nomatch h
 | (y,d)::l,x,c,h=>by
   rw [List.lookup_cons]
   cases hx:x == y with
   | true=>exact ⟨d,rfl⟩
   | false =>
     rcases List.mem_cons.mp h with e | h
     · cases e
       simp at hx
     · exact ad8 h
theorem ae8 {α:Type}{x:Str}:∀ {a b:List (Str×α)},(a++b).lookup x=(a.lookup x).or (b.lookup x)
 | [],_=>rfl
 | (y,d)::a,b=>by
   rw [List.cons_append,List.lookup_cons,List.lookup_cons]
   cases hx:x == y with
   | true=>rfl
   | false=>exact ae8 (a:=a) (b:=b)
theorem a87:∀ (names:List (Str×NameKind)) (n:Nat) (a:List (Str×Addr)) (p:Str×Addr),p∈a→p∈cellsFrom n names a
 | [],_,_,_,h=>h
 | (y,k)::r,n,a,p,h=>by
   unfold cellsFrom
   split
   · exact a87 r (n+1) _ p (List.mem_cons_of_mem _ h)
   · exact a87 r n a p h
theorem a88:∀ (names:List (Str×NameKind)) (n:Nat) (a:List (Str×Addr)) (x:Str),(x,NameKind.cell)∈names→∃ c,(x,c)∈cellsFrom n names a
 | (y,k)::r,n,a,x,h=>by
   unfold cellsFrom
   rcases List.mem_cons.mp h with e | h
   · cases e
     exact ⟨n,a87 r (n+1) _ _ List.mem_cons_self⟩
   · split
     · exact a88 r (n+1) _ x h
     · exact a88 r n a x h
structure CellsR (X:Cx) (scope:Scope) (Nf:List Str) (r:List (Str×Addr)) (C:Addr) (h1:Heap):Prop where
 sp:∀ x c,r.lookup x=some c→(C<c∧h1.IsCell c none)∨X.env.cells.lookup x=some c
 inj:∀ x y c,r.lookup x=some c→r.lookup y=some c→x=y
 has:∀ y∈scope.names,(y.2=.free∨y.2=.cell)→∃ c,r.lookup y.1=some c
 cab:∀ x c,scope.names.lookup x=some .cell→r.lookup x=some c→C<c
 cap:∀ x∈Nf,∀ c,r.lookup x=some c→X.env.cells.lookup x=some c
theorem bo9 {X:Cx}{scope:Scope}{Nf:List Str}{cl:List (Str×Addr)}{h:Heap}{C:Addr}(hC:h.objs.size=C+1) (hX:∀ x c,X.env.cells.lookup x=some c→c<C) (hinj:∀ x y c,X.env.cells.lookup x=some c→X.env.cells.lookup y=some c→x=y)
 (hcl:∀ x c,cl.lookup x=some c→X.env.cells.lookup x=some c) (hcf:∀ y∈scope.names,y.2=.free→∃ c,cl.lookup y.1=some c) (hnx:∀ x∈Nf,(x,NameKind.cell)∉scope.names) :
 CellsR X scope Nf (cellsFrom (C+1) scope.names cl) C (pushCells h scope.names):=by
 have e0:cellsFrom (C+1) scope.names cl=cellsFrom (C+1) scope.names []++cl:=a85 scope.names (C+1) [] cl
 have ok:=cellsFrom_ok scope.names h (C+1) [] ⟨fun _ _ hm=>(nomatch hm),List.Pairwise.nil⟩ (by rw [hC]; exact Nat.le_refl _)
 rw [hC] at ok
 have hmem:∀ x c,(x,c)∈cellsFrom (C+1) scope.names []→(x,NameKind.cell)∈scope.names:=fun x c h=>by
  rcases a86 _ _ _ x c h with z | z
  · exact nomatch z
  · exact z
 have ho:∀ x,(x,NameKind.cell)∈scope.names→∃ c,(cellsFrom (C+1) scope.names []).lookup x=some c:=fun x hx=>by
  obtain ⟨c,hc⟩:=a88 scope.names (C+1) [] x hx
  exact ad8 hc
 rw [e0]
 generalize cellsFrom (C+1) scope.names []=own at ok hmem e0 ho
 have spl:∀ x c,(own++cl).lookup x=some c→(own.lookup x=some c∧C<c)∨(own.lookup x=none∧cl.lookup x=some c):=fun x c e=>by
  rw [ae8] at e
  cases hx:own.lookup x with
  | none=>rw [hx] at e; exact .inr ⟨rfl,e⟩
  | some d =>
    rw [hx] at e
    cases e
    exact .inl ⟨rfl,(ok.empty x c (PySem.mem_of_lookup hx)).2⟩
 refine ⟨fun x c e=>?_,fun x y c e1 e2=>?_,fun y hy hk=>?_,fun x c hk e=>?_,fun x hx c e=>?_⟩
 · rcases spl x c e with ⟨e1,h1⟩ | ⟨_,e1⟩
   · exact .inl ⟨h1,(ok.empty x c (PySem.mem_of_lookup e1)).1⟩
   · exact .inr (hcl x c e1)
 · rcases spl x c e1 with ⟨a1,b1⟩ | ⟨_,a1⟩ <;> rcases spl y c e2 with ⟨a2,b2⟩ | ⟨_,a2⟩
   · exact name_of_addr ok.apart (PySem.mem_of_lookup a1) (PySem.mem_of_lookup a2)
   · exact absurd (hX y c (hcl y c a2)) (Nat.not_lt.mpr (Nat.le_of_lt b1))
   · exact absurd (hX x c (hcl x c a1)) (Nat.not_lt.mpr (Nat.le_of_lt b2))
   · exact hinj x y c (hcl x c a1) (hcl y c a2)
 · rw [ae8]
   cases hx:own.lookup y.1 with
   | some d=>exact ⟨d,rfl⟩
   | none =>
     rcases hk with hk | hk
     · exact hcf y hy hk
     · obtain ⟨c,hc⟩:=ho y.1 (by rw [← hk]; exact hy)
       rw [hx] at hc
       cases hc
 · obtain ⟨d,hd⟩:=ho x (PySem.mem_of_lookup hk)
   rcases spl x c e with ⟨_,h1⟩ | ⟨z,_⟩
   · exact h1
   · rw [hd] at z
     cases z
 · rcases spl x c e with ⟨h1,_⟩ | ⟨_,e1⟩
   · exact absurd (hmem x c (PySem.mem_of_lookup h1)) (hnx x hx)
   · exact hcl x c e1
section
variable {X:Cx}{pins:List (Addr×Obj)}{σ:St} {H:Hp}{s:Shared}{N:List Str}{scope:Scope}{cl:List (Str×Addr)}{C:Addr}{ex:List Addr}{Nf:List Str}{h1:Heap}
theorem c02 (I:Inv X pins σ H s) (hC:s.heap.objs.size≤C) (hkind:scope.kind=.function) (R:CellsR X scope Nf cl C h1)
 (hex:∀ b∈ex,FpOk X pins H b) (hexl:∀ b∈ex,b<s.heap.objs.size):(cxC X N scope cl C s H ex).Ok where
 mod:=I.ok.mod
 kind:=hkind
 glob:=I.ok.glob
 blt:=I.ok.blt
 above:=hC
 inj:=R.inj
 has:=fun x hx=>by
  have hx':∃ k,(relabel scope X.env).names.lookup x=some k∧(k=.cell∨k=.free):=by
   rcases hx with h | h
   · exact ⟨_,h,.inl rfl⟩
   · exact ⟨_,h,.inr rfl⟩
  obtain ⟨k,h,hk⟩:=hx'
  obtain ⟨y,hy,e1,e2⟩:=aq8 h hk
  rw [← e1]
  exact R.has y hy e2
 cab:=fun x c h e=>Nat.le_trans hC (Nat.le_of_lt (R.cab x c (by have h':(scope.names.lookup x == some NameKind.cell)=true:=h; simpa using h') e))
 hd:=I.ok.hd
 frames:=I.ok.frames
 stk:=.inl rfl
 exf:=fun b hb=>⟨Nat.ne_of_lt (Nat.lt_of_lt_of_le (hexl b hb) hC),fun x c e=>by
  rcases R.sp x c e with ⟨z,_⟩ | z
  · exact Nat.ne_of_gt (Nat.lt_trans (Nat.lt_of_lt_of_le (hexl b hb) hC) z)
  · exact (hex b hb).2.2.2.2.1 x c z⟩
 bs:=I.bs
 bsz:=Nat.le_trans I.ok.bsz I.sz
 noex:=fun b o e hb=>by
  rcases (hex b hb).2.2.2.1 with z | z
  · exact I.ok.noex b o e z
  · have h1:=Heap.lt_size e
    have h2:=I.ok.bsz
    exact absurd (Nat.lt_of_lt_of_le h1 (Nat.le_trans h2 z)) (Nat.lt_irrefl _)
 exfs:=fun b hb z=>by
  have h1:=I.stkSub b z
  rcases List.mem_cons.mp h1 with z | z
  · exact (hex b hb).2.1 z
  · exact (hex b hb).2.2.1 z
 funs:=I.stack
 frf:=I.stkFree
def capV (caps:List Nat) (σ:St):St:=caps.map fun j=>(σ[j]?).join
def cSt (n:Nat) (caps:List Nat) (σ:St):St:=List.replicate n none++capV caps σ
theorem bp0 {caps:List Nat}{Nt:List Str}{s1:Shared}{m:Str→Option Value}(I:Inv X pins σ H s) (ok:(cxC X (Nt++Nf) scope cl C s H ex).Ok)
 (R:CellsR X scope Nf cl C s1.heap)
 (hcap:caps.map (fun j=>X.N[j]?)=Nf.map some)
 (hvis:∀ x∈Nf,scope.names.lookup x=some .free) (hXv:∀ x∈Nf,X.env.kindOf x=some .cell∨X.env.kindOf x=some .free) (hcf:∀ x∈Nf,∃ c,cl.lookup x=some c)
 (hos:s1.os=s.os) (hgens:s1.gens=s.gens) (hk:∀ b o,s.heap.get? b=some o→s1.heap.get? b=some o) (hns:s1.heap.Ns C m) (hC:s.heap.objs.size≤C) :
 Inv (cxC X (Nt++Nf) scope cl C s H ex) [] (cSt Nt.length caps σ) H s1:=by
 have hlen:caps.length=Nf.length:=by
  have:=congrArg List.length hcap
  simpa using this
 refine ⟨ok,hos,by rw [hgens]; exact I.bare,Un.kept hk,⟨m,hns,fun i x v h1 h2 h3=>?_⟩,fun x c e=>?_,I.hok.fresh hC,fun x c e=>by
  rcases R.sp x c e with ⟨z,_⟩ | z
  · exact I.hok.fresh (Nat.le_trans hC (Nat.le_of_lt z))
  · exact I.freeC x c z,fun p hp=>absurd (show p∈([]:List (Addr×Obj)) from hp) (by simp),I.hok.kept hk,?_⟩
 · -- a captured name
   have hi:Nt.length≤i:=by
    refine Nat.le_of_not_lt fun q=>?_
    unfold cSt at h2
    rw [List.getElem?_append_left (by simpa using q),List.getElem?_replicate] at h2
    split at h2 <;> cases h2
   have h1':Nf[i - Nt.length]?=some x:=by
    have:(Nt++Nf)[i]?=some x:=h1
    rwa [List.getElem?_append_right hi] at this
   unfold cSt at h2
   rw [List.getElem?_append_right (by simpa using hi)] at h2
   have e0:i - (List.replicate Nt.length (none:Option V)).length=i - Nt.length:=by simp
   rw [e0] at h2
   generalize hj:i - Nt.length=j at h1' h2
   unfold capV at h2
   rw [List.getElem?_map] at h2
   cases hc:caps[j]? with
   | none=>rw [hc] at h2; cases h2
   | some jj =>
     rw [hc] at h2
     have h2':(σ[jj]?).join=some v:=Option.some.inj h2
     have h2'':σ[jj]?=some (some v):=by
      cases q:σ[jj]? with
      | none=>rw [q] at h2'; cases h2'
      | some z=>rw [q] at h2'; cases z with
        | none=>cases h2'
        | some z'=>cases h2'; rfl
     have hN:X.N[jj]?=some x:=by
      have q:=congrArg (fun l=>l[j]?) hcap
      simp only [List.getElem?_map,hc,h1',Option.map_some] at q
      exact Option.some.inj q
     have hx:x∈Nf:=List.mem_of_getElem? h1'
     have hXk:=hXv x hx
     obtain ⟨mX,_,hl⟩:=I.loc
     obtain ⟨u,ru,lk⟩:=hl jj x v hN h2'' (by
      rcases hXk with z | z
      · exact .inr (.inl z)
      · exact .inr (.inr z))
     refine ⟨u,ru,.inr ?_⟩
     rcases lk with ⟨z,_⟩ | ⟨_,c,hc1,hcell⟩
     · rcases hXk with y | y <;> (rw [z] at y; cases y)
     · obtain ⟨c',hc'⟩:=hcf x hx
       have e:=R.cap x hx c' hc'
       rw [hc1] at e; cases e
       refine ⟨?_,c,hc',?_⟩
       · rcases h3 with z | z | z
         · -- not a local of the block
           exfalso
           have hfree:=hvis x hx
           have z':(relabel scope X.env).names.lookup x=some .local:=z
           have gen:∀ names:List (Str×NameKind),names.lookup x=some .free→(names.map fun (n,k)=>if (k == NameKind.free && X.env.scope.kind == .function && X.env.kindOf n == some .cell) then (n,NameKind.cell) else (n,k)).lookup x≠some .local:=by
            intro names
            induction names with
            | nil=>intro h; cases h
            | cons p r ih =>
              obtain ⟨n,k⟩:=p
              intro h
              rw [List.map_cons,List.lookup_cons]
              rw [List.lookup_cons] at h
              have e1:(if (k == NameKind.free && X.env.scope.kind == .function && X.env.kindOf n == some .cell)=true then (n,NameKind.cell) else (n,k)).1=n:=by split <;> rfl
              dsimp only
              rw [e1]
              cases hx:x == n with
              | false=>rw [hx] at h; exact ih h
              | true =>
                rw [hx] at h
                cases h
                show some (if _ then (n,NameKind.cell) else (n,NameKind.free)).2≠some .local
                split <;> (intro q; cases q)
           exact gen scope.names hfree z'
         · exact .inl z
         · exact .inr z
       · obtain ⟨o,eo,d⟩:=hcell
         exact ⟨o,hk _ _ eo,d⟩
 · rcases R.sp x c e with ⟨_,z⟩ | z
   · exact ⟨none,z⟩
   · obtain ⟨v,q⟩:=I.cell x c z
     obtain ⟨o,eo,d⟩:=q
     exact ⟨v,o,hk _ _ eo,d⟩
 · show (cSt Nt.length caps σ).length=(Nt++Nf).length
   unfold cSt capV
   simp [hlen]
end
abbrev bj3 (ifs:List Expr) (env:Env):Sem Bool:=forIn ifs true fun c r=>if r=true then do let ok←isTrue c env (eval c env); pure (ForInStep.yield ok) else pure (ForInStep.yield r)
abbrev NoX:Value→Shared→Prop:=fun _ _=>False
theorem aq9 {P:Program}{w:World}{B:Around}{R:Result→Shared→Prop}{s:Shared}{y tg l:Expr}{cs:List Expr}{sc:Scope}{ps:Pos}{iv av:Value}{en:Env}(G:Nat→Shared→Prop)
 (one:∀ n s,G n s→wpAny (model P w) B (pyNext iv) (fun r s1=>match r with
  | none=>R (.ok .next) s1
  | some v=>wpAny (model P w) B (letOwnedTupleGo tg iv v) (fun _ s1=>wpAny (model P w) B (assign tg en v) (fun _ s2=>wpAny (model P w) B (bj3 cs en) (fun k s3 =>
   if k=true then wpAny (model P w) B (eval y en) (fun x s4=>wpAny (model P w) B (call (.builtin "list.append") [av,x]) (fun _ s5=>∃ m,m<n∧G m s5) NoX s4) NoX s3
   else ∃ m,m<n∧G m s3) NoX s2) NoX s1) NoX s1) NoX s) (n:Nat) (h:G n s) :
 codeAny (model P w) B (.compLoop (.ListComp y [⟨tg,l,cs,0⟩] sc ps) 0 iv av en) R s:=by
 refine codeAny_loop rfl G (fun n s hG=>?_) n h
 show wpAny _ B ((compTurn (.ListComp y [⟨tg,l,cs,0⟩] sc ps) 0 iv av en).onRaise (fun x=>do noteFrame x en; theTreesLotGoes x)) _ _ s
 refine wpAny_noted ?_
 rw [compTurn_list]
 refine wpAny_bind (wpAny_standAt (wpAny_bind (wpAny_mono (one n s hG) (fun r s1 h1=>?_) fun _ _ z=>z.elim)))
 cases r with
 | none=>exact wpAny_pure h1
 | some v =>
   refine wpAny_bind (wpAny_mono h1 (fun _ s1' h1'=>?_) fun _ _ z=>z.elim)
   refine wpAny_bind (wpAny_mono h1' (fun _ s2 h2=>wpAny_bind (wpAny_mono h2 (fun k s3 h3=>?_) fun _ _ z=>z.elim)) fun _ _ z=>z.elim)
   cases k with
   | false=>exact wpAny_pure ⟨rfl,h3⟩
   | true=>exact wpAny_bind (wpAny_bind (wpAny_mono h3 (fun x s4 h4=>wpAny_bind (wpAny_mono h4 (fun _ s5 h5=>wpAny_pure (wpAny_pure ⟨rfl,h5⟩)) fun _ _ z=>z.elim)) fun _ _ z=>z.elim))
def PTs (X:Cx) (ifs:List Expr) (t:TT):Prop :=
 ∀ (pins:List (Addr×Obj)) (s:Shared) (σ:St) (H:Hp) (Q:Bool→Hp→Prop),Inv X pins σ H s→t σ H Q →
  wpAny (model X.prog X.w) X.A (bj3 ifs X.env) (TP X pins σ Q) X.xe s
def tNoIf:TT:=fun _ H Q=>Q true H
theorem a44 {X:Cx}:PTs X [] tNoIf:=fun pins s σ H Q I h=>wpAny_tests_nil ⟨H,I,h⟩
section
variable {X:Cx}{pins:List (Addr×Obj)}{σ:St} {H:Hp}{s:Shared}
theorem Inv.adopt {D:Addr}{o:HO}(I:Inv X pins σ H s) (hD:H D=none) (h1:X.s₀.heap.objs.size≤D) (h2:D≠X.env.locals) (h3:∀ x c,X.env.cells.lookup x=some c→c≠D) (h4:∀ p∈X.pn++pins,p.1≠D)
 (new:ObjOk X.prog X.w (upd H D o) s.heap D o):Inv X pins σ (upd H D o) s:=by
 have old:∀ {b:Addr}{q:Obj},X.s₀.heap.get? b=some q→b≠D:=fun e=>Nat.ne_of_lt (Nat.lt_of_lt_of_le (Heap.lt_size e) h1)
 refine ⟨I.ok,I.os,I.bare,⟨I.base.keep,I.base.slot,fun b q e n hx=>by rw [a09 (old e)]; exact I.base.free b q e n hx,I.base.there,fun b xs e=>?_,fun b q u e=>?_,fun b ps e=>?_⟩,I.loc,I.cell,by rw [a09 (Ne.symm h2)]; exact I.free,fun x c e=>by rw [a09 (h3 x c e)]; exact I.freeC x c e,fun p hp=>?_,fun b u e=>?_,I.len⟩
 · have e':=I.base.tups b xs e
   rw [a09 (a27 e' hD)]; exact e'
 · have e':=I.base.frzs b q u e
   rw [a09 (a27 e' hD)]; exact e'
 · obtain ⟨more,e'⟩:=I.base.tbls b ps e
   exact ⟨more,by rw [a09 (a27 e' hD)]; exact e'⟩
 · obtain ⟨a1,a2,a3,a4,a5⟩:=I.pin p hp
   exact ⟨a1,by rw [a09 (h4 p hp)]; exact a2,a3,a4,a5⟩
 · by_cases hb:b=D
   · subst hb; rw [a17] at e; cases e; exact new
   · rw [a09 hb] at e
     exact (I.hok b u e).stay (fun c v _ q=>q) (fun c q=>by rw [a09 (a27 q hD)]; exact q) fun c xs q=>by rw [a09 (a27 q hD)]; exact q
def tLC (wi:TI) (g:TG) (tt:TT) (te:TE) (n:Nat) (caps:List Nat):TE:=fun σ H Q=>wi σ H fun J H1=>∃ W:Nat→Nat→List V→St→Hp→Prop,(∃ m,W 0 m [] (cSt n caps σ) H1)∧∀ i m acc σ' H',W i m acc σ' H' →
 (J.stop i H'∧∀ l,H' l=none→Q (.ref l) (upd H' l (.lst acc))) ∨
 (J.go i H'∧acc.length<sizeLine∧∃ N:List V→St→Hp→Prop,(∀ ac σ2 H2,N ac σ2 H2→∃ m',m'<m∧W (i+1) m' ac σ2 H2)∧∀ x H2,J.yld i H' x H2→g x σ' H2 fun σ3 H3=>tt σ3 H3 fun b H4=>if b=true then te σ3 H4 fun y H5=>N (acc++[y]) σ3 H5 else N acc σ3 H4)
structure CompOk (X:Cx) (scope:Scope) (Nt Nf:List Str) (caps:List Nat):Prop where
 kind:scope.kind=.function
 nx:∀ x∈Nf,(x,NameKind.cell)∉scope.names
 nm:∀ y∈scope.names,y.2=.local→scope.names.lookup y.1=some .local
 fr:∀ y∈scope.names,y.2=.free→X.env.kindOf y.1=some .cell∨X.env.kindOf y.1=some .free
 cap:caps.map (fun j=>X.N[j]?)=Nf.map some
 vis:∀ x∈Nf,scope.names.lookup x=some .free
theorem b07 {M:Model}{A:Around}{E:Value→Shared→Prop}{scope:Scope}{globals:Addr}{closure:List (Str×Addr)}{qual:Str}{func:Option Addr}{code:Value}{env:Env}{builtins:Addr}{Q:Env→Shared→Prop}
 (hQ:Q (newEnv scope s.heap.objs.size globals (cellsFrom (s.heap.objs.size+1) scope.names closure) qual func code (some env) builtins) { s with heap:=pushCells (s.heap.push { cls:=.type "dict",data:=.dict #[] }) scope.names }) :
 wpAny M A (newFunctionEnv scope globals closure [] qual func code (some env) builtins) Q E s:=by
 simp only [newFunctionEnv,Option.isSome_some,if_true]
 refine wpAny_bind (wpAny_alloc ?_)
 refine wpAny_bind (wpAny_layCells _ (fun name kind cells=>by cases hkc:kind == NameKind.cell <;> simp [hkc]) _ _ _ _ ?_)
 rw [show ({ s with heap:=s.heap.push { cls:=.type "dict",data:=.dict #[] } }:Shared).heap.objs.size=s.heap.objs.size+1 from Heap.size_push ..]
 rw [List.forIn_nil]
 exact wpAny_bind (wpAny_pure (wpAny_pure hQ))
theorem al6 {tg iter elt:Expr}{ifs:List Expr}{scope:Scope}{pos:Pos}{g:TG}{tt:TT}{te:TE}{Nt Nf:List Str}{caps:List Nat}{cl:List (Str×Addr)}{it:Addr}{fp:List Addr}{tn:Nat→Heap→Prop}{J:It}{Q:VK}{E:Value→Shared→Prop}
 {RR:Value→Addr→Result→Shared→Prop}
 (hc:X.calm=true) (S:CompOk X scope Nt Nf caps)
 (hg:∀ cl C s0 H0 ex,PG (cxC X (Nt++Nf) scope cl C s0 H0 ex) tg g)
 (ht:∀ cl C s0 H0 ex,PTs (cxC X (Nt++Nf) scope cl C s0 H0 ex) ifs tt)
 (he:∀ cl C s0 H0 ex,PE (cxC X (Nt++Nf) scope cl C s0 H0 ex) elt te)
 (hcl:∀ x c,cl.lookup x=some c→X.env.cells.lookup x=some c) (hcf:∀ y∈scope.names,y.2=.free→∃ c,cl.lookup y.1=some c)
 (I:Inv X pins σ H s) (T:Turn X.prog X.w X.K tg J fp it tn) (st:tn 0 s.heap) (hfp:∀ b∈fp,FpOk X pins H b)
 (hW:∃ W:Nat→Nat→List V→St→Hp→Prop,(∃ m,W 0 m [] (cSt Nt.length caps σ) H)∧∀ i m acc σ' H',W i m acc σ' H' →
  (J.stop i H'∧∀ l,H' l=none→Q (.ref l) (upd H' l (.lst acc))) ∨
  (J.go i H'∧acc.length<sizeLine∧∃ N:List V→St→Hp→Prop,(∀ ac σ2 H2,N ac σ2 H2→∃ m',m'<m∧W (i+1) m' ac σ2 H2)∧∀ x H2,J.yld i H' x H2→g x σ' H2 fun σ3 H3=>tt σ3 H3 fun b H4=>if b=true then te σ3 H4 fun y H5=>N (acc++[y]) σ3 H5 else N acc σ3 H4))
 (fin:∀ D C m s' H',Inv X pins σ H' s'→Q (.ref D) H'→s'.heap.Ns C m→H' C=none→C≠X.env.locals→X.s₀.heap.objs.size≤C→(∀ x c,X.env.cells.lookup x=some c→c≠C)→(∀ p∈X.pn++pins,p.1≠C)→RR (.ref D) C (.ok .next) s') :
 wpAny (model X.prog X.w) X.A (newList []) (fun acc s₃=>wpAny (model X.prog X.w) X.A (newFunctionEnv scope X.env.globals cl [] X.env.qual none .none (some X.env)) (fun cenv s₄ =>
  codeAny (model X.prog X.w) X.A (.compStart (.ListComp elt [⟨tg,iter,ifs,0⟩] scope pos) 0 (.ref it) acc { cenv with scope:=relabel scope X.env }) (RR acc cenv.locals) s₄) E s₃) E s:=by
 obtain ⟨W,⟨m0,w0⟩,turn⟩:=hW
 refine wpAny_newObj_type (b07 ?_)
 dsimp only
 generalize hH2:s.heap.push { cls:=.type "list",dict:=none,data:=.seq ([]:List Value).toArray }=P2
 have hCs:P2.objs.size=s.heap.objs.size+1:=by rw [← hH2,Heap.size_push]
 have hDC:s.heap.objs.size≠P2.objs.size:=by rw [hCs]; exact Nat.ne_of_lt (Nat.lt_succ_self _)
 have hCle:s.heap.objs.size≤P2.objs.size:=by rw [hCs]; exact Nat.le_succ _
 have below:∀ b,b<s.heap.objs.size→b≠P2.objs.size:=fun b hb=>by rw [hCs]; exact Nat.ne_of_lt (Nat.lt_succ_of_lt hb)
 have kp:=pushCells_keeps scope.names (P2.push { cls:=.type "dict",data:=.dict #[] })
 have hns₁:=(Heap.Ns.new P2 (.type "dict")).keeps kp
 have old:∀ b o,s.heap.get? b=some o→(pushCells (P2.push { cls:=.type "dict",data:=.dict #[] }) scope.names).get? b=some o:=fun b o e=>kp _ _ (Heap.get?_push_of_some _ (hH2 ▸ Heap.get?_push_of_some _ e))
 have hacc:(pushCells (P2.push { cls:=.type "dict",data:=.dict #[] }) scope.names).PlainList s.heap.objs.size #[]:=⟨_,kp _ _ (Heap.get?_push_of_some _ (hH2 ▸ Heap.get?_push_size _ rfl))⟩
 have R:=bo9 (X:=X) (scope:=scope) (Nf:=Nf) (cl:=cl) (h:=P2.push { cls:=.type "dict",data:=.dict #[] }) (C:=P2.objs.size) (Heap.size_push ..) (fun x c e=>by
  obtain ⟨v,q⟩:=I.cell x c e
  exact Nat.lt_of_lt_of_le q.lt hCle) I.ok.inj hcl hcf S.nx
 generalize cellsFrom (P2.objs.size+1) scope.names cl=r at R ⊢
 generalize pushCells (P2.push { cls:=.type "dict",data:=.dict #[] }) scope.names=h₁ at R hns₁ old hacc ⊢
 have fpl:∀ b∈fp,b<s.heap.objs.size:=fun b hb=>by
  obtain ⟨o,e,_⟩:=T.obj _ _ st b hb
  exact Heap.lt_size e
 have st₁:tn 0 h₁:=T.keep _ _ _ st fun b _ o e=>old b o e
 generalize hCe:P2.objs.size=C at hns₁ R hDC hCle below ⊢
 generalize hDe:s.heap.objs.size=D at hacc hDC hCle ⊢
 have hDl:X.env.locals<D:=by rw [← hDe]; exact I.lt
 have hDs:X.s₀.heap.objs.size≤D:=by rw [← hDe]; exact I.sz
 have hcD:∀ x c,X.env.cells.lookup x=some c→c<D:=fun x c e=>by
  obtain ⟨v,q⟩:=I.cell x c e
  rw [← hDe]; exact q.lt
 have hpD:∀ p∈X.pn++pins,p.1<D:=fun p hp=>by rw [← hDe]; exact Heap.lt_size (I.pin p hp).1
 let Y:Cx:=cxC X (Nt++Nf) scope r C s H fp
 have okY:Y.Ok:=c02 I (by rw [hDe]; exact hCle) S.kind R hfp fpl
 have hfsY:∀ b,b∈Y.fs→b<D:=fun b hb=>by
  rcases List.mem_cons.mp (I.stkSub b hb) with z | z
  · rw [z]; exact hDl
  · refine Nat.lt_of_lt_of_le ?_ hDs
    have:=(I.ok.funs.mem z)
    refine Nat.lt_of_not_le fun q=>?_
    exact absurd z (fun z=>by
     have:=I.nofs (a:=b)
     by_cases hb2:s.heap.objs.size≤b
     · exact this hb2 z
     · obtain ⟨_,o,e,_⟩:=I.ok.funs.mem z
       exact absurd (Heap.lt_size e) (Nat.not_lt.mpr q))
 have loop:∀ s₃:Shared,s₃={ s with heap:=h₁ } →
  codeAny (model X.prog X.w) X.A (.compLoop (.ListComp elt [⟨tg,iter,ifs,0⟩] scope pos) 0 (.ref it) (.ref D) Y.env) (RR (.ref D) C) s₃:=by
  rintro s₃ rfl
  have I0:Inv Y [] (cSt Nt.length caps σ) H { s with heap:=h₁ } :=
   bp0 I okY R S.cap S.vis (fun x hx=>S.fr (x,.free) (PySem.mem_of_lookup (S.vis x hx)) rfl) (fun x hx=>R.has (x,.free) (PySem.mem_of_lookup (S.vis x hx)) (.inl rfl)) rfl rfl old hns₁ (by rw [hDe]; exact hCle)
  have fpY:∀ {H':Hp},(∀ b∈fp,H' b=none)→∀ b∈fp,FpOk Y [] H' b:=fun hn b hb =>
   ⟨hn b hb,Nat.ne_of_lt (Nat.lt_of_lt_of_le (fpl b hb) (by rw [hDe]; exact hCle)),okY.exfs b hb,.inl hb,fun x c e=>by
    rcases R.sp x c e with ⟨z,_⟩ | z
    · exact Nat.ne_of_gt (Nat.lt_trans (Nat.lt_of_lt_of_le (fpl b hb) (by rw [hDe]; exact hCle)) z)
    · exact (hfp b hb).2.2.2.2.1 x c z,fun p hp=>absurd (show p∈([]:List (Addr×Obj)) from hp) (by simp)⟩
  have fpD:∀ b∈fp,b≠D:=fun b hb=>Nat.ne_of_lt (by rw [← hDe]; exact fpl b hb)
  refine aq9 (fun n s'=>∃ i acc its σ' H',Inv Y [] σ' H' s'∧tn i s'.heap∧(∀ b∈fp,H' b=none)∧s'.heap.PlainList D its∧H' D=none∧Vals acc its.toList∧acc.length≤sizeLine∧W i n acc σ' H') ?_ m0
   ⟨0,[],#[],cSt Nt.length caps σ,H,I0,st₁,fun b hb=>(hfp b hb).1,hacc,by rw [← hDe]; exact I.hok.fresh (Nat.le_refl _),.nil,Nat.zero_le _,w0⟩
  rintro n s3 ⟨i,acc,its,σ3,H3,I3,st3,fr3,⟨nd,e3⟩,hD3,rv3,hl3,w3⟩
  have cD:C≠D:=Ne.symm hDC
  have pinOk:∀ {H':Hp}{s':Shared}{o:Obj},s'.heap.get? D=some o→H' D=none→(∀ v,o.data≠.cell v)→s'.heap.get? D=some o∧H' D=none∧D≠Y.env.locals∧D∉Y.fs∧∀ v,o.data≠.cell v:=fun e n d =>
   ⟨e,n,hDC,fun z=>absurd (hfsY D z) (Nat.lt_irrefl _),d⟩
  have I3':Inv Y [(D,{ cls:=.type "list",data:=.seq its nd })] σ3 H3 s3:=I3.pins_of fun p hp=>by
   obtain rfl:p=(D,({ cls:=.type "list",data:=.seq its nd }:Obj)):=List.mem_singleton.mp hp
   exact pinOk e3 hD3 (fun v z=>by cases z)
  have fpY':∀ {H':Hp},(∀ b∈fp,H' b=none)→∀ b∈fp,FpOk Y [(D,{ cls:=.type "list",data:=.seq its nd })] H' b:=fun hn b hb=>by
   obtain ⟨a1,a2,a3,a4,a5,_⟩:=fpY hn b hb
   refine ⟨a1,a2,a3,a4,a5,fun p hp=>?_⟩
   obtain rfl:p=(D,({ cls:=.type "list",data:=.seq its nd }:Obj)):=List.mem_singleton.mp hp
   exact Ne.symm (fpD b hb)
  rcases turn i n acc σ3 H3 w3 with ⟨stop,qn⟩ | ⟨go,hlt,N,hN,step⟩
  · refine thn (T.done Y rfl rfl rfl hc i _ s3 σ3 H3 _ I3' (fpY' fr3) st3 stop) ?_
    rintro r s4 ⟨hr,I4⟩
    subst hr
    have e4:=(I4.pin (D,{ cls:=.type "list",data:=.seq its nd }) (List.mem_append_right _ List.mem_cons_self)).1
    have IX:Inv X pins σ H3 s4:=I.call' (ch:=fp) I4.os I4.base I4.hok I4.bare fun b hb=>by
     obtain ⟨_,a2,_,a4,a5,a6⟩:=hfp b hb
     exact ⟨a4,a2,a5,a6⟩
    have IA:=IX.adopt (o:=.lst acc) hD3 hDs (Nat.ne_of_gt hDl) (fun x c e=>Nat.ne_of_lt (hcD x c e)) (fun p hp=>Nat.ne_of_lt (hpD p hp)) ⟨hl3,its.toList,nd,rv3,e4⟩
    obtain ⟨m,nsC,_⟩:=I4.loc
    refine fin D C m s4 _ IA (qn D hD3) nsC (by rw [a09 cD]; exact I4.free) ?_ ?_ ?_ ?_
    · exact Nat.ne_of_gt (Nat.lt_of_lt_of_le hDl hCle)
    · exact Nat.le_trans hDs hCle
    · exact fun x c e=>Nat.ne_of_lt (Nat.lt_of_lt_of_le (hcD x c e) hCle)
    · exact fun p hp=>Nat.ne_of_lt (Nat.lt_of_lt_of_le (hpD p hp) hCle)
  · refine thn (T.item Y rfl rfl rfl hc i _ s3 σ3 H3 _ I3' (fpY' fr3) st3 go) ?_
    rintro r s4 ⟨u,hr,h4⟩
    subst hr
    refine thn h4 ?_
    rintro _ s5 ⟨x,H5,I5,r5,y5,st5,fr5⟩
    have I5':=I5.pinned (fpY' fr5) (T.obj _ _ st5)
    refine thn (hg r C s H fp _ s5 σ3 H5 x u _ I5' r5 (step x H5 y5)) ?_
    rintro _ s6 ⟨σ6,H6,I6,q6⟩
    refine thn (ht r C s H fp _ s6 σ6 H6 _ I6 q6) ?_
    rintro b s7 ⟨H7,I7,q7⟩
    have back:∀ {σ':St} {H':Hp}{s':Shared},Inv Y ([(D,{ cls:=.type "list",data:=.seq its nd })]++ag4 fp s5.heap) σ' H' s' →
     s'.heap.get? D=some { cls:=.type "list",data:=.seq its nd }∧H' D=none∧tn (i+1) s'.heap∧∀ b∈fp,H' b=none:=fun {σ' H' s'} J7=>by
     have hd:=J7.pin (D,{ cls:=.type "list",data:=.seq its nd }) (List.mem_append_right _ (List.mem_append_left _ List.mem_cons_self))
     refine ⟨hd.1,hd.2.1,T.keep _ _ _ st5 fun b hb o e=>(J7.pin (b,o) (List.mem_append_right _ (List.mem_append_right _ (ab1 hb e)))).1,fun b hb=>?_⟩
     obtain ⟨o,e,d⟩:=T.obj _ _ st5 b hb
     exact (J7.pin (b,o) (List.mem_append_right _ (List.mem_append_right _ (ab1 hb e)))).2.1
    cases b with
    | false =>
      rw [if_neg Bool.false_ne_true]
      rw [if_neg Bool.false_ne_true] at q7
      obtain ⟨m',hm,w7⟩:=hN _ _ _ q7
      obtain ⟨b1,b2,b3,b4⟩:=back I7
      exact ⟨m',hm,i+1,acc,its,σ6,H7,I7.pins_of (fun p hp=>nomatch hp),b3,b4,⟨nd,b1⟩,b2,rv3,hl3,w7⟩
    | true =>
      rw [if_pos rfl]
      rw [if_pos rfl] at q7
      refine thn (he r C s H fp _ s7 σ6 H7 _ I7 q7) ?_
      rintro u8 s8 ⟨y,H8,I8,r8,n8⟩
      obtain ⟨m',hm,w8⟩:=hN _ _ _ n8
      obtain ⟨b1,b2,b3,b4⟩:=back I8
      have hsz:its.size≤sizeLine:=by
       have h1:=rv3.length
       have h2:its.toList.length=its.size:=by simp
       omega
      refine wpAny_list_append_plain (hsz:=hsz) ⟨nd,b1⟩ fun h' pl' sb'=>?_
      have I8':Inv Y [] σ6 H8 s8:=I8.pins_of (fun p hp=>nomatch hp)
      refine ⟨m',hm,i+1,acc++[y],its.push u8,σ6,H8,I8'.turned (t':=s8.toks) (fun b o hb e=>(sb'.2 b hb).trans e) b2 hDC (.inr (by show s.heap.objs.size≤D; rw [hDe]; exact Nat.le_refl _)) (fun x c e=>by
       rcases R.sp x c e with ⟨z,_⟩ | z
       · exact Nat.ne_of_gt (Nat.lt_of_le_of_lt hCle z)
       · exact Nat.ne_of_lt (hcD x c z)) (fun p hp=>absurd (show p∈([]:List (Addr×Obj)) from hp) (by simp)),?_,b4,pl',b2,?_,?_,w8⟩
      · exact T.keep _ _ _ b3 fun b hb o e=>(sb'.2 b (fpD b hb)).trans e
      · rw [Array.toList_push]
        exact rv3.append (.cons r8 .nil)
      · rw [List.length_append,List.length_singleton]
        omega
 exact codeAny_compStart_list (loop _ rfl) (T.self _ _ _ _ _ st₁ (loop _ rfl))
theorem ah3 {tg iter elt:Expr}{ifs:List Expr}{scope:Scope}{pos:Pos}{wi:TI}{g:TG}{tt:TT}{te:TE}{Nt Nf:List Str}{caps:List Nat}(hc:X.calm=true) (S:CompOk X scope Nt Nf caps) (hi:PI X tg iter wi)
 (hg:∀ cl C s0 H0 ex,PG (cxC X (Nt++Nf) scope cl C s0 H0 ex) tg g)
 (ht:∀ cl C s0 H0 ex,PTs (cxC X (Nt++Nf) scope cl C s0 H0 ex) ifs tt)
 (he:∀ cl C s0 H0 ex,PE (cxC X (Nt++Nf) scope cl C s0 H0 ex) elt te)
 (hs:∀ x,foldedSetIterable iter X.env x=pure x:=by intro _; rfl):PE X (.ListComp elt [⟨tg,iter,ifs,0⟩] scope pos) (tLC wi g tt te Nt.length caps):=by
 intro pins s σ H Q I h
 obtain ⟨cl,hclos,hcl,hcf⟩:=al5 I.ok.has S.fr
 rw [eval_ListComp]
 refine wpAny_comprehension_free (use:=none) rfl hs hclos S.kind S.nm (thn (hi pins s σ H _ I h) fun v s1 h1=>thn h1 fun itv s2 h2=>?_)
 obtain ⟨it,fp,tn,J,H2,e,I2,T,st2,f2,hW⟩:=h2
 subst e
 refine al6 (RR:=fun acc C=>compPost (model X.prog X.w) X.A X.xe none (EP X pins σ Q) acc C) (Q:=Q) hc S hg ht he hcl hcf I2 T st2 f2 hW ?_
 intro D C m s' H' I' q nsC hCn hCl hCs hCc hCp
 exact ⟨m,nsC,fun h' sb=>⟨.ref D,H',I'.turned (t':=s'.toks) (fun b o hb e=>(sb.2 b hb).trans e) hCn hCl (.inr hCs) hCc hCp,rfl,q⟩⟩
theorem b08 {tg iter elt:Expr}{ifs:List Expr}{scope:Scope}{pos spos py:Pos}{y:Str}{i:Nat}{wi:TI}{g:TG}{tt:TT}{te:TE}{Nt Nf:List Str}{caps:List Nat}(hc:X.calm=true) (S:CompOk X scope Nt Nf caps) (hi:PI X tg iter wi)
 (hg:∀ cl C s0 H0 ex,PG (cxC X (Nt++Nf) scope cl C s0 H0 ex) tg g)
 (ht:∀ cl C s0 H0 ex,PTs (cxC X (Nt++Nf) scope cl C s0 H0 ex) ifs tt)
 (he:∀ cl C s0 H0 ex,PE (cxC X (Nt++Nf) scope cl C s0 H0 ex) elt te)
 (hN:X.N.Nodup) (hy:X.N[i]?=some y) (hx:Loc X.env.scope y)
 (hsw:swapsWith (.ListComp elt [⟨tg,iter,ifs,0⟩] scope pos) (some (.Name y py)) spos.line X.env=pure true)
 (hf:X.fn y=true∨X.env.scope.names.lookup y=some .local:=by first | exact .inl rfl | exact .inr rfl | assumption)
 (hs:∀ x,foldedSetIterable iter X.env x=pure x:=by intro _; rfl):PS X (.Assign [.Name y py] (.ListComp elt [⟨tg,iter,ifs,0⟩] scope pos) spos) (tAsg (tLC wi g tt te Nt.length caps) (ad2 i)):=by
 intro pins s σ H D I h
 obtain ⟨cl,hclos,hcl,hcf⟩:=al5 I.ok.has S.fr
 rw [exec_Assign_Name_used _ _ _ _ hsw]
 refine wpAny_bind (wpAny_standAt (wpAny_bind ?_))
 show wpAny _ X.A (do let _←comprehension (.ListComp elt [⟨tg,iter,ifs,0⟩] scope pos) scope X.env _ (newList []) false (eval iter X.env) (some (assign (.Name y py) X.env))) _ _ s
 refine wpAny_bind (wpAny_mono (wpAny_comprehension_free (use:=some (assign (.Name y py) X.env)) (Q:=fun _ s'=>SP X pins D .next s') rfl hs hclos S.kind S.nm
  (thn (hi pins s σ H _ I h) fun v s1 h1=>thn h1 fun itv s2 h2=>?_)) (fun _ s' hq=>wpAny_pure (wpAny_pure hq)) fun _ _ e=>e)
 obtain ⟨it,fp,tn,J,H2,e,I2,T,st2,f2,hW⟩:=h2
 subst e
 refine al6 (RR:=fun acc C=>compPost (model X.prog X.w) X.A X.xe (some (assign (.Name y py) X.env)) (fun _ s'=>SP X pins D .next s') acc C) (Q:=fun x H1=>ad2 i x σ H1 D.nx) hc S hg ht he hcl hcf I2 T st2 f2 hW ?_
 intro l C m s' H' I' q nsC hCn hCl hCs hCc hCp
 show wpAny _ X.A (assign (.Name y py) X.env (.ref l)) _ _ _
 refine wpAny_assign_Name (ao9 (v:=.ref l) I' hN hy hx rfl (?_) hf)
 rintro s'' I'' ⟨a,sb,ha⟩
 have haC:C≠a:=by
  rcases ha with z | z
  · rw [z]; exact hCl
  · exact fun e=>hCc y a z e.symm
 refine ⟨m,nsC.sameBut sb haC,fun h' sb'=>⟨_,H',I''.turned (t':=s''.toks) (fun b o hb e=>(sb'.2 b hb).trans e) hCn hCl (.inr hCs) hCc hCp,q⟩⟩
end
section
variable {X:Cx}{tg:Expr}
end
section
variable {X:Cx}
def a49 (ys:List Str):List V:=ys.map V.str
def CBig (i j:Int):Prop:=(i.natAbs<2 ^ 4096∧j.natAbs<2 ^ 4096)∨CMul i j
theorem b46 {i:Int}{n:Nat}(h:i.natAbs<2 ^ n):Builtin.Int.intBits i≤n:=by
 unfold Builtin.Int.intBits
 split
 · exact Nat.zero_le _
 · rename_i h0
   have h1:i.natAbs≠0:=by simpa using h0
   have:=(Nat.log2_lt h1).mpr h
   omega
theorem CBig.ok {i j:Int}(h:CBig i j):IntMulOk i j:=by
 rcases h with ⟨h1,h2⟩ | h
 · exact IntMulOk.of_bits (Nat.le_trans (b46 h1) (by decide)) (Nat.le_trans (b46 h2) (by decide))
 · exact h.ok
theorem c03:OpR X (binaryOp .Mult) (rI CBig fun i j=>.int (i*j)):=opI fun _ _ _ _ _ _ _ hc q=>mul_int q hc.ok
theorem b47:∀ {ys:List Str}{us:List Value},Vals (a49 ys) us→∀ (i:Nat) (h:i<us.length),∃ y t,ys[i]?=some y∧us[i]=.str y t
 | [],_,r,i,h=>by cases r; simp at h
 | y::ys,_,r,i,h=>by
   cases r with
   | cons r1 r2 =>
     cases i with
     | zero =>
       obtain ⟨t,rfl⟩:=r1
       exact ⟨y,t,rfl,rfl⟩
     | succ i=>exact b47 (ys:=ys) r2 i (by simpa using h)
end
section
variable {X:Cx}{e:Expr}{te:TE}{pos:Pos}
def tFmt (te:TE):TE:=fun σ H Q=>te σ H fun x H1=>(∃ z,x=.str z∧z.length≤sizeLine∧Q (.str z) H1)∨∃ i:Int,x=.int i∧i.natAbs.log2<1920∧Q (.str (toString i)) H1
theorem bj4 (he:PE X e te):PE X (.FormattedValue e (-1) none pos) (tFmt te):=by
 intro pins s σ H Q I h
 refine wpAny_FormattedValue_plain (thn (he pins s σ H _ I h) ?_)
 rintro v s1 ⟨x,H1,I1,r1,q1⟩
 rcases q1 with ⟨z,rfl,hz,q⟩ | ⟨i,rfl,hi,q⟩
 · obtain ⟨t,rfl⟩:=r1
   exact wpAny_formatField_str ⟨.str z,H1,I1,⟨_,rfl⟩,q⟩ ⟨.str z,H1,I1.tok _,⟨_,rfl⟩,q⟩ hz
 · obtain ⟨t,rfl⟩:=r1
   exact wpAny_formatField_int hi ⟨.str _,H1,I1.tok _,⟨_,rfl⟩,q⟩
inductive PEs (X:Cx):List Expr→List TE→Prop
 | nil:PEs X [] []
 | cons {e es t ts}:PE X e t→PEs X es ts→PEs X (e::es) (t::ts)
def b09:List TE→Str→TE
 | [],out=>fun _ H Q=>out.length≤sizeLine∧Q (.str out) H
 | t::r,out=>fun σ H Q=>t σ H fun x H1=>∃ y,x=.str y∧(out++y).length≤sizeLine∧b09 r (out++y) σ H1 Q
theorem ar0:∀ {es:List Expr}{ts:List TE},PEs X es ts→∀ (out:Str) (pins:List (Addr×Obj)) (s:Shared) (σ:St) (H:Hp) (Q:VK),Inv X pins σ H s→b09 ts out σ H Q →
 wpAny (model X.prog X.w) X.A (joinParts out (evalEach es X.env)) (EP X pins σ Q) X.xe s:=by
 intro es ts P
 induction P with
 | nil =>
   intro out pins s σ H Q I h
   exact joinParts_nil ⟨.str out,H,I.tok _,⟨_,rfl⟩,h.2⟩ h.1
 | cons p _ ih =>
   intro out pins s σ H Q I h
   refine joinParts_cons (thn (p pins s σ H _ I h) ?_)
   rintro v s1 ⟨x,H1,I1,r1,y,e,hz,q⟩
   subst e
   obtain ⟨t,rfl⟩:=r1
   exact ⟨hz,ih _ pins s1 σ H1 Q I1 q⟩
theorem bp1 {a b:Expr}{rest:List Expr}{ts:List TE}(h:PEs X (a::b::rest) ts):PE X (.JoinedStr (a::b::rest) pos) (b09 ts Str.empty):=by
 intro pins s σ H Q I hq
 exact JoinedStr_many (ar0 h Str.empty pins s σ H Q I hq)
end
abbrev New (H:Hp) (o:HO) (Q:VK):Prop:=∀ p H',H p=none→Same H H'→H' p=some o→Q (.ref p) H'
theorem Same.new {H:Hp}{p:Addr}{o:HO}(h:H p=none):Same H (upd H p o):=fun b u e=>by rw [a09 (a27 e h)]; exact e
theorem New.to {H:Hp}{Q:VK}{o:HO}(h:New H o Q):∀ p,H p=none→Q (.ref p) (upd H p o):=fun p hp=>h p _ hp (Same.new hp) a17
section
variable {X:Cx}{es:List Expr}{t:TA}{pos:Pos}
def c04 (t:TA):TE:=fun σ H Q=>t σ H fun xs H1=>xs.length≤sizeLine∧New H1 (.lst xs) Q
def c05 (t:TA):TE:=fun σ H Q=>t σ H fun xs H1=>xs.length≤sizeLine∧New H1 (.tup xs) Q
theorem a12 {x1}(h:PA X es t):PE X (.Tuple es x1 pos) (c05 t):=by
 intro pins s σ H Q I hq
 refine wpAny_Tuple_spliced (thn (h pos pins s σ H _ I hq) fun us s1 ⟨xs,H1,I1,r,z,q⟩=>⟨by rw [← r.length]; exact z,?_⟩)
 refine ⟨.ref s1.heap.objs.size,upd H1 s1.heap.objs.size (.tup xs),I1.laid (t':=s1.toks) (fun b u e=>Heap.get?_push_of_some _ e) (Nat.le_refl _) ?_,rfl,New.to q _ (I1.hok.fresh (Nat.le_refl _))⟩
 exact ⟨z,us,r,⟨_,Heap.get?_push_size _ rfl,rfl,_,rfl⟩⟩
theorem a22 (h:PA X es t):PE X (.List es pos) (c04 t):=by
 intro pins s σ H Q I hq
 refine wpAny_List_spliced (thn (h pos pins s σ H _ I hq) fun us s1 ⟨xs,H1,I1,r,z,q⟩=>⟨by rw [← r.length]; exact z,?_⟩)
 refine ⟨.ref s1.heap.objs.size,upd H1 s1.heap.objs.size (.lst xs),I1.laid (t':=s1.toks) (fun b u e=>Heap.get?_push_of_some _ e) (Nat.le_refl _) ?_,rfl,New.to q _ (I1.hok.fresh (Nat.le_refl _))⟩
 exact ⟨z,us,0,r,Heap.get?_push_size _ rfl⟩
def rSlN (K:PySem.W.Frag):V→Option Int→Option Int→Hp→VK→Prop:=fun x lo hi H Q=>∃ a xs,x=.ref a∧SqL K H a xs∧New H (.lst (cutV xs lo hi)) Q
theorem bd3:SlR X (rSlN X.K):=by
 intro pins s σ H x v vl vu lo hi sl Q I rx hs pl pu h
 obtain ⟨a,xs,e,h1,h2⟩:=h
 exact bo5 pins s σ H x v vl vu lo hi sl Q I rx hs pl pu ⟨a,xs,e,h1,New.to h2⟩
theorem b10:CallR X (.type "list") (fun xs H Q=>∃ p ys,xs=[.ref p]∧(SqL X.K H p ys∨SqT X.K H p ys)∧New H (.lst ys) Q):=by
 intro pins s σ H xs us Q I r h
 obtain ⟨p,ys,e,h1,h2⟩:=h
 exact aq0 pins s σ H xs us Q I r ⟨p,ys,e,h1,New.to h2⟩
theorem at7:CallR X (.type "tuple") (fun xs H Q=>∃ p ys,xs=[.ref p]∧SqL X.K H p ys∧New H (.tup ys) Q):=by
 intro pins s σ H xs us Q I r h
 obtain ⟨p,ys,e,h1,h2⟩:=h
 exact am5 pins s σ H xs us Q I r ⟨p,ys,e,.inl ⟨h1,New.to h2⟩⟩
end
def tTru (K:PySem.W.Frag) (ta:TE):TT:=fun σ H Q=>ta σ H fun x H'=>∃ k,TruV K x H' k∧Q k H'
def rLen (K:PySem.W.Frag):List V→Hp→VK→Prop:=fun xs H Q=>∃ x n,xs=[x]∧LenV K x H n∧Q (.int n) H
def bj5:List V→Hp→VK→Prop:=fun xs H Q=>(∃ i,xs=[.int i]∧Q (.int i) H)∨∃ k,xs=[.bl k]∧Q (.int (if k then 1 else 0)) H
def b48 (K:PySem.W.Frag):List V→Hp→VK→Prop:=fun xs H Q=>∃ p ys,xs=[.ref p]∧(SqL K H p ys∨SqT K H p ys)∧New H (.lst ys) Q
def at8 (K:PySem.W.Frag):List V→Hp→VK→Prop:=fun xs H Q=>∃ p ys,xs=[.ref p]∧SqL K H p ys∧New H (.tup ys) Q
section
variable {X:Cx}{a:Expr}{ta:TE}
theorem c06 (ha:PE X a ta) (he:∀ whole,isTrue a X.env whole=(do let v←whole; standAt a.pos; holding [v] (truthy v))):PT X a (tTru X.K ta):=bc2 ha he
theorem c07:CallR X (.builtin "len") (rLen X.K):=bc3
theorem bj6:CallR X (.type "int") bj5:=b27
theorem bp2:CallR X (.type "list") (b48 X.K):=b10
theorem bd4:CallR X (.type "tuple") (at8 X.K):=at7
end
def bp3:R2:=fun x y H Q=>match x,y with
 | .int i,.int j=>Q (.int (i+j)) H
 | .str i,.str j=>i.length+j.length≤sizeLine∧Q (.str (i++j)) H
 | .ref l,.ref b=>∃ xs zs,H l=some (.lst xs)∧H b=some (.lst zs)∧xs.length+zs.length≤sizeLine∧New H (.lst (xs++zs)) Q
 | _,_=>False
def bj7:R2:=fun x y H Q=>match x,y with
 | .int i,.int j=>CBig i j∧Q (.int (i*j)) H
 | .str z,.int n=>MulOk z n∧Q (.str (Txt.mul z n)) H
 | _,_=>False
def rStr:List V→Hp→VK→Prop:=fun xs H Q=>match xs with
 | [.int i]=>i.natAbs.log2<1920∧Q (.str (toString i)) H
 | [.str z]=>Q (.str z) H
 | _=>False
section
variable {X:Cx}
theorem a32:OpR X (binaryOp .Add) bp3:=by
 intro pins s σ H x y v u Q I rx ry h
 cases x with
 | int i=>cases y with
   | int j=>exact bx9 pins s σ H _ _ v u Q I rx ry ⟨i,j,rfl,rfl,h⟩
   | _=>exact (show False from h).elim
 | str i=>cases y with
   | str j=>exact az8 pins s σ H _ _ v u Q I rx ry ⟨i,j,rfl,rfl,h⟩
   | _=>exact (show False from h).elim
 | ref l=>cases y with
   | ref b =>
     obtain ⟨xs,zs,h1,h2,h3,h4⟩:=h
     exact bz8 pins s σ H _ _ v u Q I rx ry ⟨l,b,xs,zs,rfl,rfl,h1,h2,h3,New.to h4⟩
   | _=>exact (show False from h).elim
 | _=>exact (show False from h).elim
theorem a64:OpR X (binaryOp .Mult) bj7:=by
 intro pins s σ H x y v u Q I rx ry h
 cases x with
 | int i=>cases y with
   | int j=>exact c03 pins s σ H _ _ v u Q I rx ry ⟨i,j,rfl,rfl,h⟩
   | _=>exact (show False from h).elim
 | str z=>cases y with
   | int n =>
     obtain ⟨t,rfl⟩:=rx
     obtain ⟨t',rfl⟩:=ry
     exact SB.mul h.1 fun t2 k=>⟨.str _,H,I.tok _,⟨_,rfl⟩,h.2⟩
   | _=>exact (show False from h).elim
 | _=>exact (show False from h).elim
theorem bd5 {scope sc:Scope}{Nt Nf:List Str}{caps:List Nat}(hsc:X.env.scope=sc) (kind:scope.kind=.function) (nx:∀ x∈Nf,(x,NameKind.cell)∉scope.names) (nm:∀ y∈scope.names,y.2=.local→scope.names.lookup y.1=some .local)
 (fr:∀ y∈scope.names,y.2=.free→sc.names.lookup y.1=some .cell∨sc.names.lookup y.1=some .free) (cap:caps.map (fun j=>X.N[j]?)=Nf.map some) (vis:∀ x∈Nf,scope.names.lookup x=some .free):CompOk X scope Nt Nf caps :=
 ⟨kind,nx,nm,fun y hy h=>by show X.env.scope.names.lookup y.1=_∨X.env.scope.names.lookup y.1=_; rw [hsc]; exact fr y hy h,cap,vis⟩
theorem a45 {scope sc:Scope}{Nt Nf:List Str}{caps:List Nat}(hsc:X.env.scope=sc) (kind:scope.kind=.function) (nc:∀ y∈scope.names,y.2≠.cell) (nm:∀ y∈scope.names,y.2=.local→scope.names.lookup y.1=some .local)
 (fr:∀ y∈scope.names,y.2=.free→sc.names.lookup y.1=some .cell∨sc.names.lookup y.1=some .free) (cap:caps.map (fun j=>X.N[j]?)=Nf.map some) (vis:∀ x∈Nf,scope.names.lookup x=some .free):CompOk X scope Nt Nf caps :=
 bd5 hsc kind (fun x _ h=>nc (x,.cell) h rfl) nm fr cap vis
abbrev c08 (J:It) (te:TE) (tt:TT) (caps:List Nat) (σ:St) (H:Hp) (Q:VK):Prop:=∃ W:Nat→Nat→List V→St→Hp→Prop,(∃ m,W 0 m [] (cSt 1 caps σ) H)∧∀ i m acc σ' H',W i m acc σ' H' →
 (J.stop i H'∧∀ l,H' l=none→Q (.ref l) (upd H' l (.lst acc))) ∨
 (J.go i H'∧acc.length<sizeLine∧∃ N:List V→St→Hp→Prop,(∀ ac σ2 H2,N ac σ2 H2→∃ m',m'<m∧W (i+1) m' ac σ2 H2)∧∀ x H2,J.yld i H' x H2→ad2 0 x σ' H2 fun σ3 H3=>tt σ3 H3 fun b H4=>if b=true then te σ3 H4 fun y H5=>N (acc++[y]) σ3 H5 else N acc σ3 H4)
theorem c09 {J:It}{te:TE}{tt:TT}{caps:List Nat}{σ:St} {H:Hp}{Q:VK}(n:Nat) (hz:n≤sizeLine) (Pv:Nat→List V→Hp→Prop) (h0:Pv 0 [] H) (hl:∀ i acc H,Pv i acc H→acc.length≤i)
 (hgo:∀ i acc H,i<n→Pv i acc H→J.go i H) (hst:∀ acc H,Pv n acc H→J.stop n H)
 (hs:∀ i x acc H H2,i<n→Pv i acc H→J.yld i H x H2→tt (some x::capV caps σ) H2 fun b H4=>if b=true then te (some x::capV caps σ) H4 fun y H5=>Pv (i+1) (acc++[y]) H5 else Pv (i+1) acc H4)
 (hd:∀ acc H,Pv n acc H→New H (.lst acc) Q):c08 J te tt caps σ H Q:=by
 refine ⟨fun i m acc σ' H=>m=n - i∧i≤n∧(∃ v,σ'=v::capV caps σ)∧Pv i acc H,⟨n,by simp,Nat.zero_le _,⟨none,rfl⟩,h0⟩,?_⟩
 rintro i m acc σ' H' ⟨rfl,hi,⟨v,rfl⟩,p⟩
 by_cases hlt:i<n
 · refine .inr ⟨hgo i acc H' hlt p,?_,fun ac σ2 H2=>(∃ v,σ2=v::capV caps σ)∧Pv (i+1) ac H2,fun ac σ2 H2 ⟨e,p'⟩=>⟨n - (i+1),by omega,rfl,hlt,e,p'⟩,fun x H2 y=>?_⟩
   · have:=hl i acc H' p
     omega
   · have eN:∀ ac H5,((∃ u,some x::capV caps σ=u::capV caps σ)∧Pv (i+1) ac H5)=Pv (i+1) ac H5:=fun ac H5=>propext ⟨And.right,fun p=>⟨⟨_,rfl⟩,p⟩⟩
     show tt (some x::capV caps σ) H2 fun b H4=>if b=true then te (some x::capV caps σ) H4 fun y H5=>((∃ u,some x::capV caps σ=u::capV caps σ)∧Pv (i+1) (acc++[y]) H5) else ((∃ u,some x::capV caps σ=u::capV caps σ)∧Pv (i+1) acc H4)
     simp only [eN]
     exact hs i x acc H' H2 hlt p y
 · have e:i=n:=by omega
   subst e
   exact .inl ⟨hst acc H' p,New.to (hd acc H' p)⟩
theorem bp4 {K:PySem.W.Frag}{a:Addr}{xs:List V}{te:TE}{tt:TT}{caps:List Nat}{σ:St} {H:Hp}{Q:VK}(hz:xs.length≤sizeLine) (Pv:Nat→List V→Hp→Prop) (h0:Pv 0 [] H) (hl:∀ i acc H,Pv i acc H→acc.length≤i∧SqL K H a xs)
 (hs:∀ i x acc H,xs[i]?=some x→Pv i acc H→tt (some x::capV caps σ) H fun b H4=>if b=true then te (some x::capV caps σ) H4 fun y H5=>Pv (i+1) (acc++[y]) H5 else Pv (i+1) acc H4)
 (hd:∀ acc H,Pv xs.length acc H→New H (.lst acc) Q):c08 (Itl K a) te tt caps σ H Q:=by
 refine c09 xs.length hz Pv h0 (fun i acc H p=>(hl i acc H p).1) (fun i acc H hi p=>⟨xs,xs[i],(hl i acc H p).2,by simp [hi]⟩) (fun acc H p=>⟨xs,(hl _ acc H p).2,Nat.le_refl _⟩) ?_ hd
 rintro i x acc H1 H2 hi p ⟨rfl,y⟩
 exact hs i x acc _ (y xs (hl i acc _ p).2) p
end
end L2
namespace L2
open PySem
theorem ex_some_and {α:Type}{a:α}{p:α→Prop}:(∃ v,some (some a)=some (some v)∧p v)↔p a:=⟨fun ⟨_,e,h⟩=>by cases e; exact h,fun h=>⟨a,rfl,h⟩⟩
def bj8 (J:It) (g:TG) (tb:TS) (D:Ends) (σ:St) (H1:Hp):Prop:=∃ W:Nat→Nat→St→Hp→Prop,(∃ m,W 0 m σ H1)∧∀ i m σ H,W i m σ H →
 (J.stop i H∧D.nx σ H)∨(J.go i H∧∃ N:St→Hp→Prop,(∀ σ' H',N σ' H'→∃ m',m'<m∧W (i+1) m' σ' H')∧∀ x H',J.yld i H x H'→g x σ H' fun σ2 H2=>tb { D with nx:=N,ct:=N,bk:=D.nx } σ2 H2)
def ah4 (J:It) (g:TG) (tt:TT) (te:TE) (n:Nat) (caps:List Nat) (σ:St) (H:Hp) (Q:VK):Prop:=∃ W:Nat→Nat→List V→St→Hp→Prop,(∃ m,W 0 m [] (cSt n caps σ) H)∧∀ i m acc σ' H',W i m acc σ' H' →
 (J.stop i H'∧∀ l,H' l=none→Q (.ref l) (upd H' l (.lst acc))) ∨
 (J.go i H'∧acc.length<sizeLine∧∃ N:List V→St→Hp→Prop,(∀ ac σ2 H2,N ac σ2 H2→∃ m',m'<m∧W (i+1) m' ac σ2 H2)∧∀ x H2,J.yld i H' x H2→g x σ' H2 fun σ3 H3=>tt σ3 H3 fun b H4=>if b=true then te σ3 H4 fun y H5=>N (acc++[y]) σ3 H5 else N acc σ3 H4)
section
variable {K:PySem.W.Frag}{a:Addr}{xs:List V}{te:TE}{tt:TT}{caps:List Nat}{σ:St} {H:Hp}{Q:VK}{z:Str}{lo:Int}{n:Nat}
theorem a72 (hz:xs.length≤sizeLine) (Pv:Nat→List V→Hp→Prop) (h0:Pv 0 [] H) (hl:∀ i acc H,Pv i acc H→acc.length≤i∧SqL K H a xs)
 (hs:∀ i x acc H,xs[i]?=some x→Pv i acc H→tt (some x::capV caps σ) H fun b H4=>if b=true then te (some x::capV caps σ) H4 fun y H5=>Pv (i+1) (acc++[y]) H5 else Pv (i+1) acc H4)
 (hd:∀ acc H,Pv xs.length acc H→New H (.lst acc) Q):ah4 (Itl K a) (ad2 0) tt te 1 caps σ H Q:=bp4 hz Pv h0 hl hs hd
end
theorem cxOf_K {CX:CXT}{P:Program}{w:World}{K:PySem.W.Frag}{mg:Str→Option Value}{base:Heap}{N:List Str}{qual:Str}{scope:Scope}{f:Addr}{cd:Value}{A:Around}{outer:List Env}{s:Shared}{H:Hp}{E:XK} :
 (cxOf CX P w K mg base N qual scope f cd A outer s H E).K=K:=rfl
theorem cxC_K {X:Cx}{N:List Str}{scope:Scope}{cl:List (Str×Addr)}{C:Addr}{s0:Shared}{H0:Hp}{ex:List Addr}:(cxC X N scope cl C s0 H0 ex).K=X.K:=rfl
theorem Same.seqT {K:PySem.W.Frag}{H H':Hp}{a:Addr}{xs:List V}(e:Same H H') (h:SqT K H a xs):SqT K H' a xs:=by
 rcases h with (h | ⟨o,h⟩) | h
 · exact .inl (.inl (e _ _ h))
 · exact .inl (.inr ⟨o,e _ _ h⟩)
 · exact .inr h
section
variable {X:Cx}
theorem a23 (K:PySem.W.Frag) (hK:X.K=K:=by rfl):IxR X (rIxL K):=hK ▸ bo4
theorem a07 (K:PySem.W.Frag) (hK:X.K=K:=by rfl):IxR X (rIxT K):=hK ▸ bz3
theorem ag0 (K:PySem.W.Frag) (hK:X.K=K:=by rfl):SlR X (rSlN K):=hK ▸ bd3
theorem ac7 (K:PySem.W.Frag) (hK:X.K=K:=by rfl):CallR X (.builtin "len") (rLen K):=hK ▸ c07
theorem ag1 (K:PySem.W.Frag) (hK:X.K=K:=by rfl):CallR X (.type "list") (b48 K):=hK ▸ bp2
theorem ah5 (K:PySem.W.Frag) (hK:X.K=K:=by rfl):CallR X (.type "tuple") (at8 K):=hK ▸ bd4
theorem am6 (K:PySem.W.Frag) {a:Expr}{ta:TE}(ha:PE X a ta) (he:∀ whole,isTrue a X.env whole=(do let v←whole; standAt a.pos; holding [v] (truthy v))) (hK:X.K=K:=by rfl):PT X a (tTru K ta):=hK ▸ c06 ha he
theorem a39 (K:PySem.W.Frag) {tg l:Expr}{tl:TE}(hl:PE X l tl) (hK:X.K=K:=by rfl):PI X tg l (bn2 K tl):=hK ▸ bn3 hl
theorem bp5 (K:PySem.W.Frag) {tg l:Expr}{tl:TE}(hl:PE X l tl) (hK:X.K=K:=by rfl):PI X tg l (iTup K tl):=hK ▸ bx6 hl
theorem a89 (K:PySem.W.Frag) {pos:Pos}{es:List Expr}{k:Nat}{t:TGs}{n:Nat}(hc:X.calm=true) (h:PGs X es t) (hn:(assignEach es X.env).length=n:=by rfl) (hst:(assignEach es X.env).findIdx? (·.1)=none:=by rfl) (hK:X.K=K:=by rfl) :
 PG X (.Tuple es k pos) (gTup K n t):=hK ▸ bx5 hc h hn hst
theorem aa7 (K:PySem.W.Frag) {o e:Expr}{es:List Expr}{to:TE}{t:TA}{name:Str}{apos cpos:Pos}{T id:String}{r:V→List V→Hp→VK→Prop}(pa:PlainAttrs T) (slot:Slot T name id) (hty:typeOf (.builtin id)=pure (.type "method_descriptor")) (hm:MtR X id r) (ho:PE X o to) (ha:PA X (e::es) t)
 (hbase:attributeBase o name X.env (eval o X.env)=eval o X.env:=by rfl)
 (hfew:((backTo cpos (starEach (e::es) X.env)).all (fun x=>!x.1) && (backToKw cpos (keywordEach [] X.env)).all (fun x=>x.1.isSome) && decide ((e::es).length+([]:List Keyword).length+(if ([]:List Keyword).isEmpty then 0 else 1)<30))=true:=by rfl)
 (hline:(apos.endLine == cpos.line)=true:=by rfl) (hs:starEach (e::es) X.env=(false,eval e X.env)::starEach es X.env:=by rfl) (hplain:(backTo cpos (starEach es X.env)).any (·.1)=false:=by rfl) (hK:X.K=K:=by rfl) :
 PE X (.Call (.Attribute o name apos) (e::es) [] cpos) (tBM K T r to t):=hK ▸ c91 pa slot hty hm ho ha hbase hfew hline hs hplain
end
theorem ah6:bootBuiltins "len"=some (.builtin "len"):=by decide +kernel
theorem a54:bootBuiltins "isinstance"=some (.builtin "isinstance"):=by decide +kernel
theorem aw9:bootBuiltins "sum"=some (.builtin "sum"):=by decide +kernel
theorem bj9:bootBuiltins "int"=some (.type "int"):=by decide +kernel
theorem ah7:bootBuiltins "list"=some (.type "list"):=by decide +kernel
theorem am7:bootBuiltins "tuple"=some (.type "tuple"):=by decide +kernel
theorem bp6:bootBuiltins "dict"=some (.type "dict"):=by decide +kernel
theorem bd6:bootBuiltins "range"=some (.type "range"):=by decide +kernel
end L2
local macro_rules | `(tactic| walk_at "rd") => `(tactic| simp only [L2.tCB, L2.tCons, L2.tNil, L2.tVar, L2.rStr, L2.tNoIf, L2.capV, List.map_nil, List.getElem?_cons_zero, L2.ex_some_and, if_true])
namespace L2
open PySem
theorem le_line {n:Nat}(h:n≤1000000):n≤sizeLine:=Nat.le_trans h (by decide)
theorem b11 {ys:List Str}{i:Nat}{y:Str}(e:ys[i]?=some y):a49 (ys.take i)++[V.str y]=a49 (ys.take (i+1)):=by
 unfold a49
 rw [List.take_add_one,e]
 simp
theorem b49 {i:Int}(h:i.natAbs<2 ^ 64):i.natAbs.log2<1920:=by
 by_cases h0:i.natAbs=0
 · rw [h0]; decide
 · exact Nat.lt_of_lt_of_le ((Nat.log2_lt h0).mpr h) (by decide)
theorem c10 {x y:Str}(h:x.cps.toList=y.cps.toList):x=y:=by
 cases x; cases y
 simp at h
 simp [h]
theorem c11 (x y:Str):(x++y).cps.toList=x.cps.toList++y.cps.toList:=by
 show (x.cps++y.cps).toList=_
 simp
theorem bd7 (x:Str):Str.empty++x=x:=c10 (by rw [c11]; rfl)
theorem b50 {k:Int}(h0:0≤k) (h1:k<10):k=0∨k=1∨k=2∨k=3∨k=4∨k=5∨k=6∨k=7∨k=8∨k=9:=by
 obtain ⟨n,rfl⟩:=Int.eq_ofNat_of_zero_le h0
 exact (by decide:∀ n:Nat,n<10→(n:Int)=0∨(n:Int)=1∨(n:Int)=2∨(n:Int)=3∨(n:Int)=4∨(n:Int)=5∨(n:Int)=6∨(n:Int)=7∨(n:Int)=8∨(n:Int)=9) n (Int.ofNat_lt.mp h1)
theorem bp7 {k:Int}(h0:0≤k) (h1:k<10):(Str.ofString (toString k)).length=1:=by
 rcases b50 h0 h1 with rfl | rfl | rfl | rfl | rfl | rfl | rfl | rfl | rfl | rfl <;> decide +kernel
theorem bk0 {ns:List Int}{k:Nat}:cutV (ns.map V.int) none (some (k:Int))=(ns.take k).map V.int:=by
 unfold cutV
 rw [HT.sIx_none,HT.sIx_nat,List.drop_zero,Nat.sub_zero,List.length_map,List.map_take]
 by_cases h:k≤ns.length
 · rw [Nat.min_eq_left h]
 · rw [Nat.min_eq_right (by omega),List.take_of_length_le (by simp),List.take_of_length_le (by simp; omega)]
theorem nox_K {X:Cx}:X.nox.K=X.K:=rfl
theorem wish_K {X:Cx}{E:Value→Shared→Prop}:(X.wish E).K=X.K:=rfl
section
variable {σ:St} {H:Hp}{Q:VK}{D:Ends}{nn bb cc:St→Hp→Prop}{rr:VK}{t u:TS}{ta tb tc te:TE}{tA tB:TT}{g:TG}{QT:Bool→Hp→Prop}{QA:List V→Hp→Prop}{QS:St→Hp→Prop}
theorem ca0 (h:te σ H fun x H1=>g x σ H1 nn):tAsg te g ⟨nn,rr,bb,cc⟩ σ H:=h
theorem i_name {i:Nat}{v:V}(h:QS (σ.set i (some v)) H):ad2 i v σ H QS:=h
theorem i_var {i:Nat}{v:V}(e:σ[i]?=some (some v)) (h:Q v H):tVar i σ H Q:=⟨v,e,h⟩
theorem i_c {v:V}(h:Q v H):tC v σ H Q:=h
theorem i_op {r:R2}(h:ta σ H fun x H1=>tb σ H1 fun y H2=>r x y H2 Q):tOp r ta tb σ H Q:=h
theorem i_un {r:V→Hp→VK→Prop}(h:ta σ H fun x H1=>r x H1 Q):tUn r ta σ H Q:=h
theorem i_rU {f:Int→V}{i:Int}(h:Q (f i) H):rU f (.int i) H Q:=⟨i,rfl,h⟩
theorem i_rI {C:Int→Int→Prop}{f:Int→Int→V}{i j:Int}(c:C i j) (h:Q (f i j) H):rI C f (.int i) (.int j) H Q:=⟨i,j,rfl,rfl,c,h⟩
theorem ca1 {f:Int→Int→V}{i j:Int}(h:Q (f i j) H):rI0 f (.int i) (.int j) H Q:=⟨i,j,rfl,rfl,h⟩
theorem bp8 {i j:Int}(h:Q (.int (i+j)) H):bp3 (.int i) (.int j) H Q:=h
theorem b51 {l b:Addr}{xs zs:List V}(h1:H l=some (.lst xs)) (h2:H b=some (.lst zs)) (z:xs.length+zs.length≤sizeLine) (h:New H (.lst (xs++zs)) Q):bp3 (.ref l) (.ref b) H Q:=⟨xs,zs,h1,h2,z,h⟩
theorem a90 {i j:Int}(c:CBig i j) (h:Q (.int (i*j)) H):bj7 (.int i) (.int j) H Q:=⟨c,h⟩
theorem decI (i j:Int):decide (V.int i=V.int j)=decide (i=j):=by rw [Bool.eq_iff_iff]; simp
theorem decS (i j:Str):decide (V.str i=V.str j)=decide (i=j):=by rw [Bool.eq_iff_iff]; simp
theorem ca2 {i j:Int}(h:Q (.bl (decide (i=j))) H):rEq (.int i) (.int j) H Q:=⟨rfl,by rw [decI]; exact h⟩
theorem ca3 {i j:Str}(h:Q (.bl (decide (i=j))) H):rEq (.str i) (.str j) H Q:=⟨rfl,by rw [decS]; exact h⟩
theorem c12 (h:te σ H fun x H'=>∃ k,x=.bl k∧QT k H'):by2 te σ H QT:=h
theorem i_bl {k:Bool}{p:Bool→Prop}(h:p k):∃ j,V.bl k=V.bl j∧p j:=⟨k,rfl,h⟩
theorem ca4 (h:tA σ H fun b H1=>if b=true then t D σ H1 else u D σ H1):tIfS tA t u D σ H:=h
theorem i_if (h:tA σ H fun b H1=>if b=true then ta σ H1 Q else tb σ H1 Q):tIf tA ta tb σ H Q:=h
theorem ca5 (h:te σ H rr):tRet te ⟨nn,rr,bb,cc⟩ σ H:=h
theorem c13 (h:nn σ H):bx2 ⟨nn,rr,bb,cc⟩ σ H:=h
theorem c14 (h:te σ H fun _ H1=>nn σ H1):bx4 te ⟨nn,rr,bb,cc⟩ σ H:=h
theorem c15 (h:cc σ H):bx3 ⟨nn,rr,bb,cc⟩ σ H:=h
theorem c16 {tr:TA}(h:te σ H fun x H1=>tr σ H1 fun xs H2=>QA (x::xs) H2):tCons te tr σ H QA:=h
theorem ca6 (h:QA [] H):tNil σ H QA:=h
theorem i_cb {r:List V→Hp→VK→Prop}{ts:TA}(h:ts σ H fun vs H1=>r vs H1 Q):tCB r ts σ H Q:=h
theorem c17 {sp:Sp}{dvs:List V}{E:XK}{ts:TA}(h:ts σ H fun vs H1=>sp (vs++dvs) H1 Q E):by7 sp dvs E ts σ H Q:=h
theorem ca7 {ts:TA}(h:ts σ H fun xs H1=>xs.length≤sizeLine∧New H1 (.lst xs) Q):c04 ts σ H Q:=h
theorem ca8 {ts:TA}(h:ts σ H fun xs H1=>xs.length≤sizeLine∧New H1 (.tup xs) Q):c05 ts σ H Q:=h
theorem c18 {n:Nat}{P:Prop}(h:n≤sizeLine) (p:P):n≤sizeLine∧P:=⟨h,p⟩
theorem i_rgA {j:Int}{P:Prop}(h:-(2 ^ 62)≤j) (h':j<2 ^ 62) (p:P):-(2 ^ 62)≤j∧j<2 ^ 62∧P:=⟨h,h',p⟩
theorem c19 (h:QT true H):tNoIf σ H QT:=h
theorem ca9 (h:tA σ H fun c H1=>QT (!c) H1):tNot tA σ H QT:=h
theorem i_or (h:tA σ H fun c H1=>if c=true then QT true H1 else tB σ H1 QT):tOr tA tB σ H QT:=h
theorem c20 (h:ta σ H fun x H1=>∃ c,x=.bl c∧if c=true then tb σ H1 Q else Q (.bl false) H1):bx0 ta tb σ H Q:=h
theorem c21 (h:ta σ H fun x H1=>∃ c,x=.bl c∧Q (.bl (!c)) H1):bx1 ta σ H Q:=h
theorem cb0 {wi:TI}(h:wi σ H fun J H1=>bj8 J g t D σ H1):tFor wi g t D σ H:=h
theorem i_lc {wi:TI}{n:Nat}{caps:List Nat}(h:wi σ H fun J H1=>ah4 J g tA te n caps σ H1 Q):tLC wi g tA te n caps σ H Q:=h
theorem c22 {R:It→Hp→Prop}{ts:TA}(h:ts σ H fun vs H1=>∃ j:Int,vs=[.int j]∧-(2 ^ 62)≤j∧j<2 ^ 62∧R (Itr 0 j.toNat) H1):bx7 ts σ H R:=h
theorem bp9 {K:PySem.W.Frag}{R:It→Hp→Prop}(h:te σ H fun x H1=>∃ a,x=.ref a∧(∃ xs,SqL K H1 a xs)∧R (Itl K a) H1):bn2 K te σ H R:=h
theorem c23 {K:PySem.W.Frag}{R:It→Hp→Prop}(h:te σ H fun x H1=>∃ a,x=.ref a∧(∃ xs,SqT K H1 a xs)∧R (Itt K a) H1):iTup K te σ H R:=h
theorem cb1 {j:Int}{p:Int→Prop}(h:p j):∃ i:Int,[V.int j]=[V.int i]∧p i:=⟨j,rfl,h⟩
theorem cb2 {a:Addr}{p:Addr→Prop}(h:p a):∃ b,V.ref a=V.ref b∧p b:=⟨a,rfl,h⟩
theorem i_sx {z:Str}{p:Str→Prop}(h:p z):∃ b,V.str z=V.str b∧p b:=⟨z,rfl,h⟩
theorem i_bm {K:PySem.W.Frag}{T:String}{r:V→List V→Hp→VK→Prop}{to:TE}{ts:TA}(h:to σ H fun x H1=>tyV K T x H1∧ts σ H1 fun xs H2=>r x xs H2 Q):tBM K T r to ts σ H Q:=h
theorem a48 {K:PySem.W.Frag}{p:Addr}{xs:List V}{i:Int}{v:V}(h1:SqL K H p xs) (h2:atI xs i=some v) (h:Q v H):rIxL K (.ref p) (.int i) H Q:=⟨p,xs,i,v,rfl,rfl,h1,h2,h⟩
theorem a24 {K:PySem.W.Frag}{p:Addr}{xs:List V}{i:Int}{v:V}(h1:SqT K H p xs) (h2:atI xs i=some v) (h:Q v H):rIxT K (.ref p) (.int i) H Q:=⟨p,xs,i,v,rfl,rfl,h1,h2,h⟩
theorem i_sl {r:V→Option Int→Option Int→Hp→VK→Prop}{tl th:TO}(h:te σ H fun x H1=>tl σ H1 fun l H2=>th σ H2 fun u H3=>r x l u H3 Q):tSl r te tl th σ H Q:=h
theorem bd8 {QO:Option Int→Hp→Prop}(h:QO none H):b33 σ H QO:=h
theorem c24 {QO:Option Int→Hp→Prop}(h:te σ H fun x H1=>∃ i,x=.int i∧QO (some i) H1):bz1 te σ H QO:=h
theorem cb3 {i:Int}{p:Int→Prop}(h:p i):∃ j,V.int i=V.int j∧p j:=⟨i,rfl,h⟩
theorem bd9 {K:PySem.W.Frag}{a:Addr}{xs:List V}{lo hi:Option Int}(h1:SqL K H a xs) (h:New H (.lst (cutV xs lo hi)) Q):rSlN K (.ref a) lo hi H Q:=⟨a,xs,rfl,h1,h⟩
theorem c25 {A B:Prop}(h:A):if true=true then A else B:=iteT h
theorem c26 {A B:Prop}(h:B):if false=true then A else B:=iteF h
theorem c27 {A B:Prop}(h:B):if (!true)=true then A else B:=iteF h
theorem c28 {A B:Prop}(h:A):if (!false)=true then A else B:=iteT h
theorem a26 {c A B:Prop} [Decidable c] (hc:c) (h:A):if decide c=true then A else B:=by rw [decide_eq_true hc]; exact iteT h
theorem a25 {c A B:Prop} [Decidable c] (hc:¬ c) (h:B):if decide c=true then A else B:=by rw [decide_eq_false hc]; exact iteF h
theorem b52 {c A B:Prop} [Decidable c] (hc:¬ c) (h:A):if (!decide c)=true then A else B:=by rw [decide_eq_false hc]; exact iteT h
theorem b53 {c A B:Prop} [Decidable c] (hc:c) (h:B):if (!decide c)=true then A else B:=by rw [decide_eq_true hc]; exact iteF h
theorem c29 (h:QS σ H):gNil [] σ H QS:=⟨rfl,h⟩
theorem bq0 {gt:TG}{us:TGs}{v:V}{r:List V}(h:gt v σ H fun σ' H'=>us r σ' H' QS):ap0 gt us (v::r) σ H QS:=⟨v,r,rfl,h⟩
theorem cb4 {K:PySem.W.Frag}(h:te σ H fun x H'=>∃ k,TruV K x H' k∧QT k H'):tTru K te σ H QT:=h
theorem c30 {K:PySem.W.Frag}{k:Bool}{p:Bool→Prop}(h:p k):∃ j,TruV K (.bl k) H j∧p j:=⟨k,rfl,h⟩
theorem al7 {K:PySem.W.Frag}{p:Addr}{xs:List V}(h1:SqL K H p xs) (h:Q (.int xs.length) H):rLen K [V.ref p] H Q:=⟨_,_,rfl,.inl ⟨xs,h1,rfl⟩,h⟩
theorem c31 {K:PySem.W.Frag}{p:Addr}{xs:List V}(h1:SqT K H p xs) (h:Q (.int xs.length) H):rLen K [V.ref p] H Q:=⟨_,_,rfl,.inr ⟨xs,h1,rfl⟩,h⟩
theorem c32 {k:Bool}(h:Q (.int (if k then 1 else 0)) H):bj5 [V.bl k] H Q:=.inr ⟨k,rfl,h⟩
theorem am8 {K:PySem.W.Frag}{p:Addr}{ys:List V}(h1:SqL K H p ys) (h:New H (.lst ys) Q):b48 K [.ref p] H Q:=⟨p,ys,rfl,.inl h1,h⟩
theorem am9 {K:PySem.W.Frag}{p:Addr}{ys:List V}(h1:SqL K H p ys) (h:New H (.tup ys) Q):at8 K [.ref p] H Q:=⟨p,ys,rfl,h1,h⟩
end
end L2
namespace L2
open PySem PySem.Spec PyProof.Rows
def bk1 (K:PySem.W.Frag):V→List V→Hp→VK→Prop:=fun x vs H Q=>∃ l ys y j,x=.ref l∧vs=[.str y]∧SqL K H l (a49 ys)∧ys[j]?=some y∧(∀ m,m<j→ys[m]?≠some y)∧Q (.int (j:Nat)) H
section
variable {X:Cx}
theorem ar1 (K:PySem.W.Frag) (hK:X.K=K:=by rfl):MtR X "list.index" (bk1 K):=by
 subst hK
 intro pins s σ H x vs v us Q I rx rv h
 obtain ⟨l,ys,y,j,rfl,rfl,hq,hj,hno,q⟩:=h
 cases rx
 obtain ⟨u,rfl,ru⟩:=rv.one
 obtain ⟨its,r,pl,hz⟩:=I.list hq
 have hlen:ys.length=its.length:=by have:=r.length; simpa [a49] using this
 have hjl:j<its.length:=by have:=(List.getElem?_eq_some_iff.mp hj).1; omega
 obtain ⟨o,n,e,hc,hd,hs⟩:=pl
 obtain ⟨cls,dd,data,sl⟩:=o
 simp only at hc hd hs
 subst hc hs
 have fy:ap9 (.str y)=true:=rfl
 have fs:(a49 ys).all ap9=true:=by simp [a49,ap9]
 have at_:∀ (m:Nat) (hm:m<its.toArray.size),∃ z,ys[m]?=some z∧eqU (.str y) its.toArray[m]=(z == y):=fun m hm=>by
  obtain ⟨z,t,ez,eu⟩:=b47 r m (by simpa using hm)
  have g1:its.toArray[m]=.str z t:=by simpa using eu
  exact ⟨z,ez,by rw [g1]; rfl⟩
 have hl16:its.length≤sizeLine:=by have:=r.length; omega
 have hsm:((j:Nat):Int)<2 ^ 63 - 1:=by
  have:(sizeLine:Nat)+1<2 ^ 63:=by rw [sizeLine_eq]; decide
  omega
 refine call_meets F.slot_list_index ⟨_,e,rfl⟩ F.entry_list_index (F.args_list_index_2 _ _) (SeqAt.list_indexAt l its.toArray n dd sl u (eqU (.str y)) j (by simpa using hjl) hsm ?_ ?_) ⟨e,?_,⟨.int j,H,I.tok _,⟨_,rfl⟩,q⟩⟩
 · obtain ⟨z,ez,eq⟩:=at_ j (by simpa using hjl)
   rw [eq]
   rw [hj] at ez
   cases ez
   simp
 · intro m hm hmj
   obtain ⟨z,ez,eq⟩:=at_ m hm
   rw [eq]
   have:z≠y:=fun e=>hno m hmj (by rw [ez,e])
   simpa using this
 · intro w hw
   exact aw6 ru fy r fs w (by simpa using hw)
end
theorem an0 {K:PySem.W.Frag}{a:Addr}{xs:List V}{te:TE}{tt:TT}{caps:List Nat}{σ:St} {H:Hp}{Q:VK}(hz:xs.length≤sizeLine) (Pv:Nat→List V→Hp→Prop) (h0:Pv 0 [] H) (hl:∀ i acc H,Pv i acc H→acc.length≤i∧SqL K H a xs)
 (hs:∀ i x acc H,xs[i]?=some x→Pv i acc H→∃ p u v,x=.ref p∧SqT K H p [u,v]∧tt (some u::some v::capV caps σ) H fun b H4=>if b=true then te (some u::some v::capV caps σ) H4 fun y H5=>Pv (i+1) (acc++[y]) H5 else Pv (i+1) acc H4)
 (hd:∀ acc H,Pv xs.length acc H→New H (.lst acc) Q):ah4 (Itl K a) (gTup K 2 (ap0 (ad2 0) (ap0 (ad2 1) gNil))) tt te 2 caps σ H Q:=by
 refine ⟨fun i m acc σ' H=>m=xs.length - i∧i≤xs.length∧(∃ u v,σ'=u::v::capV caps σ)∧Pv i acc H,⟨xs.length,by simp,Nat.zero_le _,⟨none,none,rfl⟩,h0⟩,?_⟩
 rintro i m acc σ' H' ⟨rfl,hi,⟨u0,v0,rfl⟩,p⟩
 obtain ⟨hl1,hq⟩:=hl i acc H' p
 by_cases hlt:i<xs.length
 · refine .inr ⟨⟨xs,xs[i],hq,by simp [hlt]⟩,by omega,fun ac σ2 H2=>(∃ u v,σ2=u::v::capV caps σ)∧Pv (i+1) ac H2,fun ac σ2 H2 ⟨e,p'⟩=>⟨xs.length - (i+1),by omega,rfl,hlt,e,p'⟩,fun x H2 y=>?_⟩
   obtain ⟨e,y⟩:=y
   subst e
   obtain ⟨q,u,v,rfl,hT,hst⟩:=hs i x acc _ (y xs hq) p
   have eN:∀ ac H5,((∃ u1 v1,some u::some v::capV caps σ=u1::v1::capV caps σ)∧Pv (i+1) ac H5)=Pv (i+1) ac H5:=fun ac H5=>propext ⟨And.right,fun p=>⟨⟨_,_,rfl⟩,p⟩⟩
   refine ⟨q,[u,v],rfl,hT,rfl,u,[v],rfl,v,[],rfl,rfl,?_⟩
   show tt (some u::some v::capV caps σ) _ fun b H4=>if b=true then te (some u::some v::capV caps σ) H4 fun y H5=>((∃ u1 v1,some u::some v::capV caps σ=u1::v1::capV caps σ)∧Pv (i+1) (acc++[y]) H5) else ((∃ u1 v1,some u::some v::capV caps σ=u1::v1::capV caps σ)∧Pv (i+1) acc H4)
   simp only [eN]
   exact hst
 · have e:i=xs.length:=by omega
   subst e
   exact .inl ⟨⟨xs,hq,Nat.le_refl _⟩,New.to (hd acc H' p)⟩
section
variable {σ:St} {H:Hp}{Q:VK}
theorem b54 {K:PySem.W.Frag}{l:Addr}{ys:List Str}{y:Str}{j:Nat}(h1:SqL K H l (a49 ys)) (h2:ys[j]?=some y) (h3:∀ m,m<j→ys[m]?≠some y) (h:Q (.int (j:Nat)) H):bk1 K (.ref l) [.str y] H Q:=⟨l,ys,y,j,rfl,rfl,h1,h2,h3,h⟩
theorem a91 {l:Addr}{xs:List V}{y:V}(h1:H l=some (.lst xs)) (hz:xs.length<sizeLine) (h:Q .non (upd H l (.lst (xs++[y])))):b36 (.ref l) [y] H Q:=⟨l,xs,y,rfl,rfl,h1,hz,h⟩
theorem ah8 {K:PySem.W.Frag}{l:Addr}{xs:List V}{P:Prop}(h1:SqL K H l xs) (h:P):tyV K "list" (.ref l) H∧P:=⟨.inl ⟨rfl,xs,h1⟩,h⟩
end
def Tups (H H':Hp):Prop:=∀ b xs,H b=some (.tup xs)→H' b=some (.tup xs)
theorem Same.tups {H H':Hp}(s:Same H H'):Tups H H':=fun b xs h=>s b _ h
theorem Tups.upd {H:Hp}{l:Addr}{xs:List V}{o:HO}(h:H l=some (.lst xs)):Tups H (upd H l o):=fun b ys e=>by rw [a09 (aj8 e h (fun z=>nomatch z))]; exact e
theorem vac {P:Program}{w:World}{K:PySem.W.Frag}{mg:Str→Option Value}{base:Heap}{CX:CXT}{k:Nat}{f:Addr}{fd:FuncData}{ps:List Str}{sp:Sp}(h:∀ vs H Q E,¬ sp vs H Q E):FnOk P w K mg base CX k f fd ps sp :=
 ⟨fun vs H Q E q=>(h _ _ _ _ q).elim,fun A outer s H args us vs Q E _ _ _ _ q=>(h _ _ _ _ q).elim⟩
end L2
namespace L2
open PySem
theorem Same.updNew {H H1:Hp}{l:Addr}{o:HO}(s:Same H H1) (h:H l=none):Same H (upd H1 l o):=fun b u e=>by rw [a09 (a27 e h)]; exact s b u e
inductive Ex where
 | num (i:Int)
 | box (n:Str)
 | two (k:Bool) (a b:Ex)
def Ex.h:Ex→Nat
 | .num _=>0
 | .box _=>0
 | .two _ a b=>max a.h b.h+1
def Ex.ok (ns:List Str):Ex→Prop
 | .num i=>0≤i∧i<10
 | .box n=>n∈ns
 | .two _ a b=>a.ok ns∧b.ok ns
def bq1 (k:Bool):Str:=if k then "plus" else "less"
def Ex.At (H:Hp):Ex→V→Prop
 | .num i,v=>∃ a,v=.ref a∧H a=some (.tup [.str "number",.int i])
 | .box n,v=>∃ a,v=.ref a∧H a=some (.tup [.str "box",.str n])
 | .two k e f,v=>∃ a x y,v=.ref a∧H a=some (.tup [.str (bq1 k),x,y])∧e.At H x∧f.At H y
theorem Ex.At.mono {H H':Hp}(t:Tups H H'):∀ {e:Ex}{v:V},e.At H v→e.At H' v
 | .num _,_,⟨a,h1,h2⟩=>⟨a,h1,t _ _ h2⟩
 | .box _,_,⟨a,h1,h2⟩=>⟨a,h1,t _ _ h2⟩
 | .two _ e f,_,⟨a,x,y,h1,h2,h3,h4⟩=>⟨a,x,y,h1,t _ _ h2,Ex.At.mono t h3,Ex.At.mono t h4⟩
def bval:List Str→List Int→Str→Int
 | m::ns,v::vs,n=>if m=n then v else bval ns vs n
 | _,_,_=>0
def Ex.ev (ns:List Str) (vs:List Int):Ex→Int
 | .num i=>i
 | .box n=>bval ns vs n
 | .two k a b=>if k then a.ev ns vs+b.ev ns vs else a.ev ns vs - b.ev ns vs
theorem b55:∀ {ns:List Str}{vs:List Int}{n:Str},n∈ns→ns.length≤vs.length→∃ j:Nat,ns[j]?=some n∧(∀ m:Nat,m<j→ns[m]?≠some n)∧vs[j]?=some (bval ns vs n)
 | [],_,_,h,_=>nomatch h
 | m::ns,[],n,_,hl=>by simp at hl
 | m::ns,v::vs,n,h,hl=>by
   by_cases e:m=n
   · exact ⟨0,by simp [e],fun m h=>absurd h (Nat.not_lt_zero _),by simp [bval,e]⟩
   · have h':n∈ns:=by
      rcases List.mem_cons.mp h with z | z
      · exact absurd z.symm e
      · exact z
     obtain ⟨j,h1,h2,h3⟩:=b55 (vs:=vs) h' (by simpa using hl)
     refine ⟨j+1,by simpa using h1,fun k hk=>?_,by simpa [bval,e] using h3⟩
     cases k with
     | zero=>simpa using e
     | succ k=>simpa using h2 k (by omega)
inductive Boxes (H:Hp):List V→List Str→Prop
 | nil:Boxes H [] []
 | cons {p:Addr}{n:Str}{z:Int}{xs ns}:H p=some (.tup [.str n,.int z])→Boxes H xs ns→Boxes H (.ref p::xs) (n::ns)
theorem Boxes.mono {H H':Hp}(t:Tups H H') {xs:List V}{ns:List Str}(b:Boxes H xs ns):Boxes H' xs ns:=by
 induction b with
 | nil=>exact .nil
 | cons h _ ih=>exact .cons (t _ _ h) ih
theorem Boxes.len {H:Hp}{xs:List V}{ns:List Str}(b:Boxes H xs ns):xs.length=ns.length:=by
 induction b with
 | nil=>rfl
 | cons _ _ ih=>simp [ih]
theorem Boxes.get {H:Hp}:∀ {xs:List V}{ns:List Str},Boxes H xs ns→∀ (i:Nat) (x:V),xs[i]?=some x→∃ (p:Addr) (n:Str) (z:Int),x=.ref p∧ns[i]?=some n∧H p=some (.tup [.str n,.int z])
 | _,_,.nil,i,x,e=>by simp at e
 | _,_,.cons h r,0,x,e=>by simp at e; subst e; exact ⟨_,_,_,rfl,rfl,h⟩
 | _,_,.cons h r,i+1,x,e=>r.get i x (by simpa using e)
theorem bq2 {vs:List Int}{j:Nat}{v:Int}(h:vs[j]?=some v):atI (vs.map V.int) (j:Int)=some (.int v):=a04 (by rw [List.getElem?_map,h]; rfl)
end L2
namespace L2
open PySem PySem.Spec PyProof.Rows
inductive Cd where
 | cmp (k:Bool) (a b:Ex)
 | nt (c:Cd)
 | both (c d:Cd)
def Cd.h:Cd→Nat
 | .cmp _ _ _=>0
 | .nt c=>c.h+1
 | .both c d=>max c.h d.h+1
def Cd.ok (ns:List Str) (n:Nat):Cd→Prop
 | .cmp _ a b=>(a.ok ns∧a.h≤n)∧b.ok ns∧b.h≤n
 | .nt c=>c.ok ns n
 | .both c d=>c.ok ns n∧d.ok ns n
def bq3 (k:Bool):Str:=if k then "same" else "under"
def Cd.At (H:Hp):Cd→V→Prop
 | .cmp k e f,v=>∃ a x y,v=.ref a∧H a=some (.tup [.str (bq3 k),x,y])∧e.At H x∧f.At H y
 | .nt c,v=>∃ a x,v=.ref a∧H a=some (.tup [.str "not",x])∧c.At H x
 | .both c d,v=>∃ a x y,v=.ref a∧H a=some (.tup [.str "both",x,y])∧c.At H x∧d.At H y
theorem Cd.At.mono {H H':Hp}(t:Tups H H'):∀ {c:Cd}{v:V},c.At H v→c.At H' v
 | .cmp _ e f,_,⟨a,x,y,h1,h2,h3,h4⟩=>⟨a,x,y,h1,t _ _ h2,h3.mono t,h4.mono t⟩
 | .nt c,_,⟨a,x,h1,h2,h3⟩=>⟨a,x,h1,t _ _ h2,Cd.At.mono t h3⟩
 | .both c d,_,⟨a,x,y,h1,h2,h3,h4⟩=>⟨a,x,y,h1,t _ _ h2,Cd.At.mono t h3,Cd.At.mono t h4⟩
def Cd.ev (ns:List Str) (vs:List Int):Cd→Bool
 | .cmp k a b=>if k then decide (a.ev ns vs=b.ev ns vs) else decide (a.ev ns vs<b.ev ns vs)
 | .nt c=>!c.ev ns vs
 | .both c d=>c.ev ns vs && d.ev ns vs
end L2
namespace L2
open PySem
abbrev bl1:Str:=⟨#[32]⟩
end L2
namespace L2
open PySem PySem.Spec PyProof.Rows
end L2
namespace L2
open PySem
inductive Tr where
 | non
 | int (i:Int)
 | str (s:Str)
 | tup (xs:List Tr)
 | lst (xs:List Tr)
mutual
def Tr.At (H:Hp):Tr→V→List Addr→Prop
 | .non,v,fs=>v=.non∧fs=[]
 | .int i,v,fs=>v=.int i∧fs=[]
 | .str s,v,fs=>v=.str s∧fs=[]
 | .tup xs,v,fs=>∃ a vs,v=.ref a∧H a=some (.tup vs)∧Tr.Ats H xs vs fs
 | .lst xs,v,fs=>∃ a vs gs,v=.ref a∧H a=some (.lst vs)∧Tr.Ats H xs vs gs∧fs=a::gs
def Tr.Ats (H:Hp):List Tr→List V→List Addr→Prop
 | [],vs,fs=>vs=[]∧fs=[]
 | x::xs,vs,fs=>∃ v ws f g,vs=v::ws∧fs=f++g∧Tr.At H x v f∧Tr.Ats H xs ws g
end
def Keep (fs:List Addr) (H H':Hp):Prop:=Tups H H'∧∀ a∈fs,∀ xs,H a=some (.lst xs)→H' a=some (.lst xs)
theorem Same.keep {H H':Hp}(s:Same H H') (fs:List Addr):Keep fs H H':=⟨s.tups,fun a _ xs h=>s a _ h⟩
theorem Keep.upd {fs:List Addr}{H:Hp}{l:Addr}{xs:List V}{o:HO}(h:H l=some (.lst xs)) (n:l∉fs):Keep fs H (upd H l o):=⟨Tups.upd h,fun a m ys e=>by
 have hne:a≠l:=fun z=>n (z ▸ m)
 rw [a09 hne]
 exact e⟩
theorem Keep.sub {fs gs:List Addr}{H H':Hp}(k:Keep fs H H') (h:∀ a∈gs,a∈fs):Keep gs H H':=⟨k.1,fun a m=>k.2 a (h a m)⟩
mutual
theorem Tr.At.mono {H H':Hp}:∀ {x:Tr}{v:V}{fs:List Addr},x.At H v fs→Keep fs H H'→x.At H' v fs
 | .non,_,_,h,_=>by simpa only [Tr.At] using h
 | .int _,_,_,h,_=>by simpa only [Tr.At] using h
 | .str _,_,_,h,_=>by simpa only [Tr.At] using h
 | .tup xs,v,fs,h,k=>by
   simp only [Tr.At] at h ⊢
   obtain ⟨a,vs,e,g,r⟩:=h
   exact ⟨a,vs,e,k.1 _ _ g,Tr.Ats.mono r k⟩
 | .lst xs,v,fs,h,k=>by
   simp only [Tr.At] at h ⊢
   obtain ⟨a,vs,gs,e,g,r,rfl⟩:=h
   exact ⟨a,vs,gs,e,k.2 _ (by simp) _ g,Tr.Ats.mono r (k.sub fun b m=>by simp [m]),rfl⟩
theorem Tr.Ats.mono {H H':Hp}:∀ {xs:List Tr}{vs:List V}{fs:List Addr},Tr.Ats H xs vs fs→Keep fs H H'→Tr.Ats H' xs vs fs
 | [],_,_,h,_=>by simpa only [Tr.Ats] using h
 | x::xs,vs,fs,h,k=>by
   simp only [Tr.Ats] at h ⊢
   obtain ⟨v,ws,f,g,e,rfl,a,b⟩:=h
   exact ⟨v,ws,f,g,e,rfl,Tr.At.mono a (k.sub fun c m=>by simp [m]),Tr.Ats.mono b (k.sub fun c m=>by simp [m])⟩
end
theorem Tr.Ats.snoc {H:Hp}:∀ {xs:List Tr}{vs:List V}{fs gs:List Addr}{x:Tr}{v:V},Tr.Ats H xs vs fs→x.At H v gs→Tr.Ats H (xs++[x]) (vs++[v]) (fs++gs)
 | [],vs,fs,gs,x,v,h,a=>by
   simp only [Tr.Ats] at h
   obtain ⟨rfl,rfl⟩:=h
   simp only [List.nil_append,Tr.Ats]
   exact ⟨v,[],gs,[],rfl,by simp,a,rfl,rfl⟩
 | y::xs,vs,fs,gs,x,v,h,a=>by
   simp only [Tr.Ats] at h
   obtain ⟨w,ws,f,g,rfl,rfl,b,c⟩:=h
   simp only [List.cons_append,Tr.Ats]
   exact ⟨w,ws++[v],f,g++gs,rfl,by simp,b,c.snoc a⟩
theorem Tr.Ats.len {H:Hp}:∀ {xs:List Tr}{vs:List V}{fs:List Addr},Tr.Ats H xs vs fs→vs.length=xs.length
 | [],vs,fs,h=>by
   simp only [Tr.Ats] at h
   obtain ⟨rfl,rfl⟩:=h
   rfl
 | y::xs,vs,fs,h=>by
   simp only [Tr.Ats] at h
   obtain ⟨w,ws,f,g,rfl,rfl,b,c⟩:=h
   simp [c.len]
theorem Tr.Ats.get {H:Hp}:∀ {xs:List Tr}{vs:List V}{fs:List Addr},Tr.Ats H xs vs fs→∀ (i:Nat) (v:V),vs[i]?=some v→∃ x f,xs[i]?=some x∧x.At H v f∧∀ a∈f,a∈fs
 | [],vs,fs,h,i,v,e=>by
   simp only [Tr.Ats] at h
   obtain ⟨rfl,rfl⟩:=h
   simp at e
 | y::xs,vs,fs,h,i,v,e=>by
   simp only [Tr.Ats] at h
   obtain ⟨w,ws,f,g,rfl,rfl,b,c⟩:=h
   cases i with
   | zero =>
     simp at e
     subst e
     exact ⟨y,f,rfl,b,fun a m=>by simp [m]⟩
   | succ i =>
     obtain ⟨x,f',h1,h2,h3⟩:=c.get i v (by simpa using e)
     exact ⟨x,f',by simpa using h1,h2,fun a m=>by simp [h3 a m]⟩
end L2
namespace L2
open PySem PySem.Spec PyProof.Rows
mutual
def Tr.h:Tr→Nat
 | .non=>0
 | .int _=>0
 | .str _=>0
 | .tup xs=>Tr.hs xs+1
 | .lst xs=>Tr.hs xs+1
def Tr.hs:List Tr→Nat
 | []=>0
 | x::xs=>max x.h (Tr.hs xs)
end
theorem ax0 (n:Nat):((List.range n).all fun _=>true)=true:=by simp
theorem a33 (A:Around):A.in1.units=A.units+1:=rfl
section
variable {X:Cx}{pins:List (Addr×Obj)}{σ:St} {H:Hp}{s:Shared}
mutual
theorem Tr.eqAt (I:Inv X pins σ H s):∀ {t:Tr}{A:Around}{v w:V}{fs gs:List Addr}{u z:Value},t.At H v fs→t.At H w gs→RelV v u→RelV w z→A.units+t.h<cLine→SeqAt.EqAt A s u z true
 | .non,A,v,w,fs,gs,u,z,h1,h2,r1,r2,hu=>by
   simp only [Tr.At] at h1 h2
   obtain ⟨rfl,-⟩:=h1
   obtain ⟨rfl,-⟩:=h2
   cases r1
   cases r2
   exact SeqAt.EqAt.same _
 | .int i,A,v,w,fs,gs,u,z,h1,h2,r1,r2,hu=>by
   simp only [Tr.At] at h1 h2
   obtain ⟨rfl,-⟩:=h1
   obtain ⟨rfl,-⟩:=h2
   obtain ⟨t1,rfl⟩:=r1
   obtain ⟨t2,rfl⟩:=r2
   have:=SeqAt.EqAt.int_int (A:=A) (s:=s) i t1 i t2
   simpa using this
 | .str i,A,v,w,fs,gs,u,z,h1,h2,r1,r2,hu=>by
   simp only [Tr.At] at h1 h2
   obtain ⟨rfl,-⟩:=h1
   obtain ⟨rfl,-⟩:=h2
   obtain ⟨t1,rfl⟩:=r1
   obtain ⟨t2,rfl⟩:=r2
   have:=SeqAt.EqAt.str_str (A:=A) (s:=s) i t1 i t2
   simpa using this
 | .tup xs,A,v,w,fs,gs,u,z,h1,h2,r1,r2,hu=>by
   simp only [Tr.At] at h1 h2
   obtain ⟨a,vs,rfl,e1,c1⟩:=h1
   obtain ⟨b,ws,rfl,e2,c2⟩:=h2
   cases r1
   cases r2
   by_cases hab:a=b
   · subst hab
     exact SeqAt.EqAt.same _
   refine SeqAt.EqAt.of_refs hab ?_
   obtain ⟨is1,q1,p1,_⟩:=I.tuple (SqT.of e1)
   obtain ⟨is2,q2,p2,_⟩:=I.tuple (SqT.of e2)
   simp only [Tr.h] at hu
   have hl:is1.length=is2.length:=by rw [← q1.length,←q2.length,c1.len,c2.len]
   have:=SeqAt.RcAt.tuples (A:=A) (s:=s) (e:=fun _=>true) p1 p2 (by omega) (fun j h1 h2=>by
    have:=Tr.eqAts I (A:=A.in1) c1 c2 q1 q2 (by rw [a33]; omega) j (by simpa using h1) (by simpa using h2)
    simpa using this)
   simpa [hl,ax0] using this
 | .lst xs,A,v,w,fs,gs,u,z,h1,h2,r1,r2,hu=>by
   simp only [Tr.At] at h1 h2
   obtain ⟨a,vs,_,rfl,e1,c1,_⟩:=h1
   obtain ⟨b,ws,_,rfl,e2,c2,_⟩:=h2
   cases r1
   cases r2
   by_cases hab:a=b
   · subst hab
     exact SeqAt.EqAt.same _
   refine SeqAt.EqAt.of_refs hab ?_
   obtain ⟨is1,q1,p1,_⟩:=I.list (SqL.of e1)
   obtain ⟨is2,q2,p2,_⟩:=I.list (SqL.of e2)
   simp only [Tr.h] at hu
   have hl:is1.length=is2.length:=by rw [← q1.length,←q2.length,c1.len,c2.len]
   have:=SeqAt.RcAt.lists (A:=A) (s:=s) (e:=fun _=>true) p1.isList p2.isList (by simpa using hl) (by omega) (fun j h1 h2=>by
    have:=Tr.eqAts I (A:=A.in1) c1 c2 q1 q2 (by rw [a33]; omega) j (by simpa using h1) (by simpa using h2)
    simpa using this)
   simpa [ax0] using this
theorem Tr.eqAts (I:Inv X pins σ H s):∀ {ts:List Tr}{A:Around}{vs ws:List V}{fs gs:List Addr}{us zs:List Value},Tr.Ats H ts vs fs→Tr.Ats H ts ws gs→Vals vs us→Vals ws zs→A.units+Tr.hs ts<cLine →
 ∀ (j:Nat) (h1:j<us.length) (h2:j<zs.length),SeqAt.EqAt A s us[j] zs[j] true
 | [],A,vs,ws,fs,gs,us,zs,c1,c2,q1,q2,hu,j,h1,h2=>by
   simp only [Tr.Ats] at c1
   obtain ⟨rfl,-⟩:=c1
   cases q1
   exact absurd h1 (by simp)
 | t::ts,A,vs,ws,fs,gs,us,zs,c1,c2,q1,q2,hu,j,h1,h2=>by
   simp only [Tr.Ats] at c1 c2
   obtain ⟨v,vs,f,g,rfl,rfl,a1,b1⟩:=c1
   obtain ⟨w,ws,f',g',rfl,rfl,a2,b2⟩:=c2
   cases q1 with
   | cons r1 q1 =>
   cases q2 with
   | cons r2 q2 =>
   simp only [Tr.hs] at hu
   cases j with
   | zero=>exact Tr.eqAt I a1 a2 r1 r2 (by omega)
   | succ j=>exact Tr.eqAts I b1 b2 q1 q2 (by omega) j (by simpa using h1) (by simpa using h2)
end
end
section
variable {prog:Program}{w:World}{A:Around}{E:Value→Shared→Prop}
end
section
variable {X:Cx}{pos:Pos}
end
inductive Pt where
 | s (z:Str)
 | i (n:Int)
theorem ax1 {H:Hp}{Q:VK}{l b:Addr}{xs zs:List V}(h1:H l=some (.lst xs)) (h2:H b=some (.lst zs)) (hz:xs.length+zs.length≤sizeLine) (h:Q .non (upd H l (.lst (xs++zs)))):b37 (.ref l) [.ref b] H Q:=⟨l,b,xs,zs,rfl,rfl,h1,h2,hz,h⟩
theorem bq4 {out:Str}{σ:St} {H:Hp}{Q:VK}(hz:out.length≤sizeLine) (h:Q (.str out) H):b09 [] out σ H Q:=⟨hz,h⟩
theorem bq5 {t:TE}{r:List TE}{out:Str}{σ:St} {H:Hp}{Q:VK}(h:t σ H fun x H1=>∃ y,x=.str y∧(out++y).length≤sizeLine∧b09 r (out++y) σ H1 Q):b09 (t::r) out σ H Q:=h
theorem cb5 {te:TE}{σ:St} {H:Hp}{Q:VK}(h:te σ H fun x H1=>(∃ z,x=.str z∧z.length≤sizeLine∧Q (.str z) H1)∨∃ i:Int,x=.int i∧i.natAbs.log2<1920∧Q (.str (toString i)) H1):tFmt te σ H Q:=h
theorem cb6 {z:Str}{A:Str→Prop}{B:Int→Prop}(h:A z):(∃ y,V.str z=.str y∧A y)∨∃ i:Int,V.str z=.int i∧B i:=.inl ⟨z,rfl,h⟩
theorem cb7 {i:Int}{A:Str→Prop}{B:Int→Prop}(h:B i):(∃ y,V.int i=.str y∧A y)∨∃ j:Int,V.int i=.int j∧B j:=.inr ⟨i,rfl,h⟩
end L2
namespace L2
open PySem
def Pt.tr:Pt→Tr
 | .s z=>.str z
 | .i n=>.int n
def Ex.tr:Ex→Tr
 | .num i=>.tup [.str "number",.int i]
 | .box n=>.tup [.str "box",.str n]
 | .two k a b=>.tup [.str (bq1 k),a.tr,b.tr]
def Cd.tr:Cd→Tr
 | .cmp k a b=>.tup [.str (bq3 k),a.tr,b.tr]
 | .nt c=>.tup [.str "not",c.tr]
 | .both c d=>.tup [.str "both",c.tr,d.tr]
mutual
inductive Stm where
 | plain (ps:List Pt)
 | put (n:Str) (e:Ex)
 | loop (b:List Stm)
 | wait (n:Int) (bs:List Br)
 | test (c:Cd) (a b:List Stm)
inductive Br where
 | mk (p:List Pt) (b:List Stm)
end
mutual
def Stm.tr:Stm→Tr
 | .plain ps=>.tup (ps.map Pt.tr)
 | .put n e=>.tup [.str "put",.str n,e.tr]
 | .loop b=>.tup [.str "loop",.lst (Stm.trs b)]
 | .wait n bs=>.tup [.str "wait",.int n,.lst (Br.trs bs)]
 | .test c a b=>.tup [.str "test",c.tr,.lst (Stm.trs a),.lst (Stm.trs b)]
def Br.tr:Br→Tr
 | .mk p b=>.tup [.tup (p.map Pt.tr),.lst (Stm.trs b)]
def Stm.trs:List Stm→List Tr
 | []=>[]
 | s::r=>s.tr::Stm.trs r
def Br.trs:List Br→List Tr
 | []=>[]
 | s::r=>s.tr::Br.trs r
end
section
variable {H:Hp}{v:V}{fs:List Addr}
end
section
variable {H:Hp}{v:V}{fs:List Addr}
end
end L2
namespace L2
open PySem PySem.Spec PyProof.Rows
section
variable {X:Cx}
end
theorem ax2 {H:Hp}:∀ ns:List Int,Tr.Ats H (ns.map Tr.int) (ns.map V.int) []
 | []=>by simp [Tr.Ats]
 | n::ns=>by
   simp only [List.map_cons,Tr.Ats]
   exact ⟨_,_,[],[],rfl,rfl,by simp [Tr.At],ax2 ns⟩
end L2
namespace L2
def cb8 (ws:List (Option Nat)) (n:Nat):List Nat:=(List.range n).filter fun i=>decide (ws[i]?=some none)
def kept (ws:List (Option Nat)):List Nat:=cb8 ws ws.length
end L2
namespace L2
open PySem
section
variable {prog:Program}{w:World}{K:Type} [DecidableEq K] {knd:KeyKind prog w K}{A:Around}{E:Value→Shared→Prop}{s:Shared}
theorem ad9:plainId "dict.update.loop"=true:=by decide +kernel
theorem ar2:entryFor table "dict.update.loop"=some Builtin.«dict.update.loop»:=entryFor_of_fast (by kernel_rfl)
theorem b56:typeLookup (.type "list") "keys"=pure none:=am_miss_of_fast (by decide +kernel)
theorem getAttr?_miss_list {a:Addr}{o:Obj}{xs:Array Value}{k:Nat}{name:Str}{Q:Option Value→Shared→Prop}
 (hx:s.heap.get? a=some o) (hc:o.cls=.type "list") (hdat:o.data=.seq xs k) (hd:o.dict=none) (hmiss:typeLookup (.type "list") name=pure none) (hname:(["__module__","__name__","__qualname__","__doc__","__annotations__"]:List Str).contains name=false) (hA:A.handled=none)
 (h:∀ h' tk,(∀ b o,s.heap.get? b=some o→h'.get? b=some o)→Q none { s with heap:=h',toks:=tk }) (hsz:name.length+100≤sizeLine:=by size_fits) :
 wpAny (model prog w) A (getAttr? (.ref a) name) Q E s:=by
 obtain ⟨c,dct,dat,sl⟩:=o
 simp only at hc hdat hd
 subst hc hdat hd
 obtain ⟨hp,g,d,tk,os⟩:=s
 have hT:∀ tk',(⟨hp,g,d,tk',os⟩:Shared).TypeIs (.ref a) "list":=fun _=>⟨_,hx,rfl⟩
 have f1:=sub_AttributeError
 have f3:=F.slot_list_getattribute.lookup
 have f4:=F.slot_list_getattribute.bind (.ref a)
 have f5:=am_list_getattr_none
 unfold getAttr? getAttrBy? getAttrBy
 repeat (any_goals (first | assumption | exact hT _ | ((with_reducible show wpAny _ _ (call (Value.builtin "list.__getattribute__") _ _) _ _ _); refine call_meets F.slot_list_getattribute (hT _) am_entry_list_getattribute (F.args_list_getattribute_2 _ _) (meets_getattribute_miss_list a xs k sl name _ hmiss hname hsz) ⟨hx,hA,fun h' tk' e hx'=>?_⟩) | wp_step))
 obtain ⟨t',u',he⟩:=hx'.there
 show wpAny _ _ (getattributeRaised _ _ _ _ _ _ _) _ _ _
 unfold getattributeRaised
 repeat (any_goals (first | assumption | wp_step))
 exact h _ _ hx'.keeps
end
section
variable {prog:Program}{w:World}{K:Type} [DecidableEq K] {knd:KeyKind prog w K}{A:Around}{E:Value→Shared→Prop}{s:Shared}
end
end L2
namespace L2
open PySem PySem.Spec PyProof.Rows
section
variable {X:Cx}{pins:List (Addr×Obj)}{σ:St} {H:Hp}{s:Shared}
theorem Inv.turnedL {t':Nat}{h':Heap}{ch:List Addr}(I:Inv X pins σ H s) (k:∀ b o,b∉ch→s.heap.get? b=some o→h'.get? b=some o) (hf:∀ b∈ch,FpOk X pins H b):Inv X pins σ H { s with heap:=h',toks:=t' }:=by
 have nit:∀ b u,H b=some u→b∉ch:=fun b u e z=>by rw [(hf b z).1] at e; cases e
 refine I.step (g':=s.gens) (d':=s.drawn) (ch:=ch) (fun b hb=>⟨(hf b hb).2.2.2.1,(hf b hb).2.1,(hf b hb).2.2.2.2.1,(hf b hb).2.2.2.2.2⟩) (fun b o _ _ hc e _=>k b o hc e) (fun b o _ _ hc e _=>⟨o.slots,k b o hc e⟩) (fun _ _ _ _ n=>n)
  (fun b o hc e=>⟨o,k b o hc e⟩) (fun _ _ e=>e) (fun _ _ _ e=>e) (fun b ps e=>⟨#[],by rw [e]; simp⟩) (fun m hm=>?_) (fun b u e=>?_) I.bare
 · obtain ⟨o,es,ep,ho,r⟩:=hm
   exact ⟨o,es,ep,k _ o (fun z=>(hf _ z).2.1 rfl) ho,r⟩
 · refine (I.hok b u e).stay (fun c v hc q=>k c v ?_ q) (fun _ q=>q) fun _ _ q=>q
   rcases hc with z | z
   · rw [z]; exact nit b u e
   · exact nit c _ z
end
def Ite (K:PySem.W.Frag) (a:Addr):It :=
 ⟨fun i H=>∃ xs x,SqL K H a xs∧xs[i]?=some x,fun i H v H'=>∃ p y,v=.ref p∧H p=none∧Same H H'∧H' p=some (.tup [.int (i:Nat),y])∧∀ xs,SqL K H a xs→xs[i]?=some y,fun i H=>∃ xs,SqL K H a xs∧xs.length≤i⟩
theorem b57 {P:Program}{w:World}{K:PySem.W.Frag}{elts:List Expr}{x1:Nat}{pos:Pos}(a e it:Addr) (hne:e≠it) :
 Turn P w K (.Tuple elts x1 pos) (Ite K a) [e,it] e (fun i h=>(∃ old,IsEnum h e it (i:Nat) old)∧h.IsListIter it a i) where
 mem:=by simp
 obj:=fun i h st b hb=>by
  obtain ⟨⟨old,he⟩,o,e2,c,d⟩:=st
  rcases (by simpa using hb:b=e∨b=it) with rfl | rfl
  · exact ⟨_,he,fun v z=>by cases z⟩
  · exact ⟨o,e2,fun v z=>by rw [d] at z; cases z⟩
 keep:=fun i h h' st k=>⟨let ⟨old,he⟩:=st.1; ⟨old,k e (by simp) _ he⟩,st.2.at fun o x=>k it (by simp) o x⟩
 item:=by
  intro X hP hw hK hc i pins s σ H E I hf st hg
  subst hP hw hK
  obtain ⟨xs,x,hq,hx⟩:=hg
  obtain ⟨its,rv,p,hz⟩:=I.list hq
  obtain ⟨u,hu,ru⟩:=rv.get hx
  obtain ⟨⟨old,he⟩,hit⟩:=st
  have helt:e<s.heap.objs.size:=Heap.lt_size he
  have hilt:it<s.heap.objs.size:=by obtain ⟨_,q,_⟩:=hit; exact Heap.lt_size q
  refine wpAny_pyNext_enum_item he hit p.isList (x:=u) (by simpa using hu) hne fun h' ho hit' hT hsz hk=>?_
  have fr:H s.heap.objs.size=none:=I.hok.fresh (Nat.le_refl _)
  have I1:Inv X pins σ H { s with heap:=h',toks:=s.toks+1 }:=I.turnedL (ch:=[e,it]) (fun b o hb q=>hk b o (fun z=>hb (by simp [z])) (fun z=>hb (by simp [z])) q) hf
  have I2:Inv X pins σ (upd H s.heap.objs.size (.tup [.int (i:Nat),x])) { s with heap:=h',toks:=s.toks+1 }:=I1.adopt (o:=.tup [.int (i:Nat),x]) fr I.sz (Nat.ne_of_gt I.lt) (fun y c ec z=>by
   obtain ⟨v,q⟩:=I.cell y c ec
   exact absurd q.lt (by rw [z]; exact Nat.lt_irrefl _)) (fun q hq z=>absurd (Heap.lt_size (I.pin q hq).1) (by rw [z]; exact Nat.lt_irrefl _))
   ⟨le_line (by simp),[.int (i:Nat) s.toks,u],.cons ⟨_,rfl⟩ (.cons ru .nil),⟨_,hT,rfl,_,rfl⟩⟩
  have ne:∀ b∈[e,it],b≠s.heap.objs.size:=fun b hb=>by
   rcases (by simpa using hb:b=e∨b=it) with rfl | rfl
   · exact Nat.ne_of_lt helt
   · exact Nat.ne_of_lt hilt
  have hf2:∀ b∈[e,it],FpOk X pins (upd H s.heap.objs.size (.tup [.int (i:Nat),x])) b:=fun b hb=>⟨by rw [a09 (ne b hb)]; exact (hf b hb).1,(hf b hb).2⟩
  refine ⟨_,rfl,wpAny_letOwnedTupleGo_enum ho fun h2 he2 hs2=>⟨.ref s.heap.objs.size,_,I2.turnedL (t':=s.toks+1) (ch:=[e]) (fun b o hb q=>(hs2.2 b (fun z=>hb (by simp [z]))).trans q) (fun b hb=>hf2 b (by simp at hb; simp [hb])),rfl,⟨s.heap.objs.size,x,rfl,fr,Same.new fr,a17,fun ys hy=>by rw [I.list_inj hy hq]; exact hx⟩,⟨⟨_,by simpa using he2⟩,hit'.at fun o q=>(hs2.2 it (Ne.symm hne)).trans q⟩,fun b hb=>(hf2 b hb).1⟩⟩
 done:=by
  intro X hP hw hK hc i pins s σ H E I hf st hg
  subst hP hw hK
  obtain ⟨xs,hq,hx⟩:=hg
  obtain ⟨its,rv,p,hz⟩:=I.list hq
  obtain ⟨⟨old,he⟩,hit⟩:=st
  have hl:=rv.length
  exact wpAny_pyNext_enum_end (I.ok.hd hc) he hit p.isList (by simp; omega) fun h' eb=>⟨rfl,I.turnedL (t':=s.toks) (ch:=[it]) (fun b o hb q=>eb b o (fun z=>hb (by simp [z])) q) (fun b hb=>hf b (by simp at hb; simp [hb]))⟩
 self:=fun A i s Q E st h=>let ⟨old,he⟩:=st.1; wpAny_pyIter_enum he h
section
variable {X:Cx}{elts:List Expr}{x1:Nat}{tpos:Pos}
def c33 (K:PySem.W.Frag) (ta:TA):TI:=fun σ H R=>ta σ H fun vs H1=>∃ a,vs=[.ref a]∧(∃ xs,SqL K H1 a xs)∧R (Ite K a) H1
theorem an1 (K:PySem.W.Frag) {a:Expr}{ta:TA}{p pos:Pos}(hg:Gl X "enumerate") (hm:X.mg "enumerate"=none) (ha:PA X [a] ta) (hs:starEach [a] X.env=[(false,eval a X.env)]:=by rfl) (hK:X.K=K:=by rfl):PI X (.Tuple elts x1 tpos) (.Call (.Name "enumerate" p) [a] [] pos) (c33 K ta):=by
 subst hK
 intro pins s σ H R I h
 refine Call_ (ak9 I hg hm boot_enumerate (PyProof.Rows.callWith_type1 (thn (ha pos pins s σ H _ I h) ?_) hs rfl))
 rintro us s1 ⟨vs,H1,I1,r1,q1⟩
 obtain ⟨l,e,⟨xs,hq⟩,q⟩:=q1
 subst e
 obtain ⟨u,rfl,ru⟩:=at3 r1
 cases ru
 obtain ⟨its,rv,pl,hz⟩:=I1.list hq
 refine call_enumerate_list pl.isList fun h' he hit hsz hk=>?_
 refine wpAny_pyIter_enum he ?_
 refine ⟨s1.heap.objs.size+1,[s1.heap.objs.size+1,s1.heap.objs.size],_,_,H1,rfl,I1.kept (t':=s1.toks) hk,b57 l _ _ (Nat.succ_ne_self _),⟨⟨_,he⟩,hit⟩,fun b hb=>?_,q⟩
 have hb':s1.heap.objs.size≤b:=by
  rcases (by simpa using hb:b=s1.heap.objs.size+1∨b=s1.heap.objs.size) with rfl | rfl <;> omega
 exact I1.fpOk hb' (I1.hok.fresh hb')
theorem c34 {K:PySem.W.Frag}{σ:St} {H:Hp}{R:It→Hp→Prop}{ts:TA}(h:ts σ H fun vs H1=>∃ a,vs=[.ref a]∧(∃ xs,SqL K H1 a xs)∧R (Ite K a) H1):c33 K ts σ H R:=h
theorem c35 {a:Addr}{p:Addr→Prop}(h:p a):∃ b,[V.ref a]=[V.ref b]∧p b:=⟨a,rfl,h⟩
theorem at9 {K:PySem.W.Frag}{a:Addr}{xs:List V}{te:TE}{tt:TT}{caps:List Nat}{σ:St} {H:Hp}{Q:VK}(hz:xs.length≤sizeLine) (Pv:Nat→List V→Hp→Prop) (h0:Pv 0 [] H) (hl:∀ i acc H,Pv i acc H→acc.length≤i∧SqL K H a xs)
 (hs:∀ i x acc H H2,xs[i]?=some x→Pv i acc H→Same H H2→tt (some (.int (i:Nat))::some x::capV caps σ) H2 fun b H4=>if b=true then te (some (.int (i:Nat))::some x::capV caps σ) H4 fun y H5=>Pv (i+1) (acc++[y]) H5 else Pv (i+1) acc H4)
 (hd:∀ acc H,Pv xs.length acc H→New H (.lst acc) Q):ah4 (Ite K a) (gTup K 2 (ap0 (ad2 0) (ap0 (ad2 1) gNil))) tt te 2 caps σ H Q:=by
 refine ⟨fun i m acc σ' H=>m=xs.length - i∧i≤xs.length∧(∃ u v,σ'=u::v::capV caps σ)∧Pv i acc H,⟨xs.length,by simp,Nat.zero_le _,⟨none,none,rfl⟩,h0⟩,?_⟩
 rintro i m acc σ' H' ⟨rfl,hi,⟨u0,v0,rfl⟩,p⟩
 obtain ⟨hl1,hq⟩:=hl i acc H' p
 by_cases hlt:i<xs.length
 · refine .inr ⟨⟨xs,xs[i],hq,by simp [hlt]⟩,by omega,fun ac σ2 H2=>(∃ u v,σ2=u::v::capV caps σ)∧Pv (i+1) ac H2,fun ac σ2 H2 ⟨e,p'⟩=>⟨xs.length - (i+1),by omega,rfl,hlt,e,p'⟩,fun x H2 y=>?_⟩
   obtain ⟨q,z,rfl,hn,sm,hT,hy⟩:=y
   have hst:=hs i z acc H' H2 (hy xs hq) p sm
   have eN:∀ ac H5,((∃ u1 v1,some (V.int (i:Nat))::some z::capV caps σ=u1::v1::capV caps σ)∧Pv (i+1) ac H5)=Pv (i+1) ac H5:=fun ac H5=>propext ⟨And.right,fun p=>⟨⟨_,_,rfl⟩,p⟩⟩
   refine ⟨q,[.int (i:Nat),z],rfl,SqT.of hT,rfl,.int (i:Nat),[z],rfl,z,[],rfl,rfl,?_⟩
   show tt (some (.int (i:Nat))::some z::capV caps σ) _ fun b H4=>if b=true then te (some (.int (i:Nat))::some z::capV caps σ) H4 fun y H5=>((∃ u1 v1,some (V.int (i:Nat))::some z::capV caps σ=u1::v1::capV caps σ)∧Pv (i+1) (acc++[y]) H5) else ((∃ u1 v1,some (V.int (i:Nat))::some z::capV caps σ=u1::v1::capV caps σ)∧Pv (i+1) acc H4)
   simp only [eN]
   exact hst
 · have e:i=xs.length:=by omega
   subst e
   exact .inl ⟨⟨xs,hq,Nat.le_refl _⟩,New.to (hd acc H' p)⟩
end
section
variable {X:Cx}
theorem be0 (xs:List V) (y:V):cutV (xs++[y]) none (some (-1))=xs∧HT.sIx (xs++[y]).length (xs++[y]).length (some (-1))=xs.length:=by
 have e:HT.sIx (xs++[y]).length (xs++[y]).length (some (-1))=xs.length:=by
  unfold HT.sIx
  simp only []
  rw [if_pos (by decide),List.length_append]
  simp only [List.length_cons,List.length_nil]
  omega
 refine ⟨?_,e⟩
 unfold cutV
 rw [e,HT.sIx_none,List.drop_zero,Nat.sub_zero,List.take_left']
 rfl
def rIsN:R2:=fun x y H Q=>y=.non∧Q (.bl (decide (x=.non))) H
def c36:R2:=fun x y H Q=>y=.non∧Q (.bl (!decide (x=.non))) H
theorem ac8:OpR X (compareOp .Is) rIsN:=by1
theorem an2:OpR X (compareOp .IsNot) c36:=bn8
theorem cb9 {x:V}{H:Hp}{Q:VK}(h:Q (.bl (decide (x=.non))) H):rIsN x .non H Q:=⟨rfl,h⟩
theorem c37 {x:V}{H:Hp}{Q:VK}(h:Q (.bl (!decide (x=.non))) H):c36 x .non H Q:=⟨rfl,h⟩
theorem c38 {to ti:TE}{t:TSet}{v:V}{σ:St} {H:Hp}{Q:St→Hp→Prop}(h:to σ H fun o H1=>ti σ H1 fun i H2=>t o i v H2 fun H3=>Q σ H3):gSub to ti t v σ H Q:=h
theorem b58 {H:Hp}{Q:Hp→Prop}{p:Addr}{xs:List V}{k:Int}{j:Nat}{v:V}(h1:H p=some (.lst xs)) (h2:ixN xs.length k=some j) (h:Q (upd H p (.lst (xs.set j v)))):bz4 (.ref p) (.int k) v H Q:=⟨p,xs,k,j,rfl,rfl,h1,h2,h⟩
def c39 (t u:TS):TS:=fun D σ H=>∃ R:St→Hp→Prop,t { D with nx:=R } σ H∧∀ σ' H',R σ' H'→u D σ' H'
theorem a55 {st:Stmt}{rest:List Stmt}{t u:TS}(h1:PS X st t) (h2:PSs X rest u):PSs X (st::rest) (c39 t u):=by
 intro pins s σ H D I h
 obtain ⟨R,ha,hb⟩:=h
 refine wpAny_execs_cons (thn (h1 pins s σ H _ I ha) fun f s1 q=>?_)
 cases f with
 | next=>obtain ⟨σ1,H1,I1,q1⟩:=q; exact h2 pins s1 σ1 H1 D I1 (hb σ1 H1 q1)
 | brk=>exact q
 | cont=>exact q
 | ret v=>exact q
theorem ae0 {t u:TS}{nn bb cc:St→Hp→Prop}{rr:VK}{σ:St} {H:Hp}(R:St→Hp→Prop) (h1:t ⟨R,rr,bb,cc⟩ σ H) (h2:∀ σ' H',R σ' H'→u ⟨nn,rr,bb,cc⟩ σ' H'):c39 t u ⟨nn,rr,bb,cc⟩ σ H:=⟨R,h1,h2⟩
def c40 (t:TT):TT:=t
theorem au0 {e:Expr}{t:TT}(h:PT X e t):PT X e (c40 t):=h
theorem b59 {t:TT}{σ:St} {H:Hp}{QT:Bool→Hp→Prop}(c:Prop) [Decidable c] (h:∀ R:Bool→Hp→Prop,R (decide c) H→t σ H R) (h2:QT (decide c) H):c40 t σ H QT:=h QT h2
theorem rT {R:Bool→Hp→Prop}{H:Hp}{c:Prop} [Decidable c] (h:R (decide c) H) (hc:c):R true H:=by rw [decide_eq_true hc] at h; exact h
theorem rF {R:Bool→Hp→Prop}{H:Hp}{c:Prop} [Decidable c] (h:R (decide c) H) (hc:¬ c):R false H:=by rw [decide_eq_false hc] at h; exact h
theorem ah9 {c:TT}{tb:TS}{nn bb cc:St→Hp→Prop}{rr:VK}{σ:St} {H:Hp}(W:Nat→St→Hp→Prop) (m:Nat) (h0:W m σ H)
 (hs:∀ m σ H,W m σ H→c σ H fun b H1=>if b=true then ∃ N:St→Hp→Prop,(∀ σ' H',N σ' H'→∃ m',m'<m∧W m' σ' H')∧tb ⟨N,rr,nn,N⟩ σ H1 else nn σ H1):bj0 c tb ⟨nn,rr,bb,cc⟩ σ H:=⟨W,⟨m,h0⟩,hs⟩
end
end L2
namespace L2
open PySem
section
variable {H:Hp}{x:Tr}{xs:List Tr}{v:V}{vs ws:List V}
theorem ats_nil0:Tr.Ats H [] vs []↔vs=[]:=by simp [Tr.Ats]
theorem ats_cons0:Tr.Ats H (x::xs) vs []↔∃ v ws,vs=v::ws∧x.At H v []∧Tr.Ats H xs ws []:=by
 simp only [Tr.Ats]
 constructor
 · rintro ⟨v,ws,f,g,h1,h2,h3,h4⟩
   obtain ⟨rfl,rfl⟩:=List.append_eq_nil_iff.mp h2.symm
   exact ⟨v,ws,h1,h3,h4⟩
 · rintro ⟨v,ws,h1,h3,h4⟩
   exact ⟨v,ws,[],[],h1,rfl,h3,h4⟩
theorem at_tup0:(Tr.tup xs).At H v []↔∃ a vs,v=.ref a∧H a=some (.tup vs)∧Tr.Ats H xs vs []:=by simp only [Tr.At]
theorem at_int0 {i:Int}:(Tr.int i).At H v []↔v=.int i:=by simp [Tr.At]
theorem at_str0 {i:Str}:(Tr.str i).At H v []↔v=.str i:=by simp [Tr.At]
theorem Tr.At.same {H H':Hp}(h:x.At H v []) (s:Same H H'):x.At H' v []:=h.mono (s.keep _)
theorem Tr.Ats.same {H H':Hp}(h:Tr.Ats H xs vs []) (s:Same H H'):Tr.Ats H' xs vs []:=h.mono (s.keep _)
end
section
variable {H:Hp}{v:V}{a:Addr}
theorem au1 {x:Tr}{u:V}(e:H a=some (.tup [u])) (h:x.At H u []):(Tr.tup [x]).At H (.ref a) []:=at_tup0.mpr ⟨a,_,rfl,e,ats_cons0.mpr ⟨_,_,rfl,h,ats_nil0.mpr rfl⟩⟩
theorem a61 {x y:Tr}{u v:V}(e:H a=some (.tup [u,v])) (h:x.At H u []) (h2:y.At H v []):(Tr.tup [x,y]).At H (.ref a) []:=at_tup0.mpr ⟨a,_,rfl,e,ats_cons0.mpr ⟨_,_,rfl,h,ats_cons0.mpr ⟨_,_,rfl,h2,ats_nil0.mpr rfl⟩⟩⟩
theorem a98 {i:Int}:(Tr.int i).At H (.int i) []:=at_int0.mpr rfl
theorem a42 {i:Str}:(Tr.str i).At H (.str i) []:=at_str0.mpr rfl
end
def ai0 (l:List Nat):List V:=l.map fun k=>V.int (k:Nat)
theorem b60:∀ ps:List Pt,Tr.hs (ps.map Pt.tr)=0
 | []=>by simp [Tr.hs]
 | p::ps=>by
   have:p.tr.h=0:=by cases p <;> simp [Pt.tr,Tr.h]
   simp [Tr.hs,b60 ps,this]
end L2
namespace L2
open PySem PySem.Spec PyProof.Rows
section
variable {σ:St} {H:Hp}{Q:VK}{QT:Bool→Hp→Prop}{td ty tv te:TE}{nn bb cc:St→Hp→Prop}{rr:VK}
theorem i_tB (h:te σ H fun x H1=>∃ c,x=.bl c∧QT c H1):tB te σ H QT:=h
end
theorem ar3 {H:Hp}:∀ {e:Ex}{v:V},e.tr.At H v []→e.At H v
 | .num i,v,h=>by
   obtain ⟨a,vs,rfl,e,h⟩:=at_tup0.mp h
   obtain ⟨v1,w1,rfl,h1,h⟩:=ats_cons0.mp h
   obtain ⟨v2,w2,rfl,h2,h⟩:=ats_cons0.mp h
   obtain rfl:=ats_nil0.mp h
   obtain rfl:=at_str0.mp h1
   obtain rfl:=at_int0.mp h2
   exact ⟨a,rfl,e⟩
 | .box i,v,h=>by
   obtain ⟨a,vs,rfl,e,h⟩:=at_tup0.mp h
   obtain ⟨v1,w1,rfl,h1,h⟩:=ats_cons0.mp h
   obtain ⟨v2,w2,rfl,h2,h⟩:=ats_cons0.mp h
   obtain rfl:=ats_nil0.mp h
   obtain rfl:=at_str0.mp h1
   obtain rfl:=at_str0.mp h2
   exact ⟨a,rfl,e⟩
 | .two k x y,v,h=>by
   obtain ⟨a,vs,rfl,e,h⟩:=at_tup0.mp h
   obtain ⟨v1,w1,rfl,h1,h⟩:=ats_cons0.mp h
   obtain ⟨v2,w2,rfl,h2,h⟩:=ats_cons0.mp h
   obtain ⟨v3,w3,rfl,h3,h⟩:=ats_cons0.mp h
   obtain rfl:=ats_nil0.mp h
   obtain rfl:=at_str0.mp h1
   exact ⟨a,v2,v3,rfl,e,ar3 h2,ar3 h3⟩
theorem ax3 {H:Hp}:∀ {c:Cd}{v:V},c.tr.At H v []→c.At H v
 | .cmp k x y,v,h=>by
   obtain ⟨a,vs,rfl,e,h⟩:=at_tup0.mp h
   obtain ⟨v1,w1,rfl,h1,h⟩:=ats_cons0.mp h
   obtain ⟨v2,w2,rfl,h2,h⟩:=ats_cons0.mp h
   obtain ⟨v3,w3,rfl,h3,h⟩:=ats_cons0.mp h
   obtain rfl:=ats_nil0.mp h
   obtain rfl:=at_str0.mp h1
   exact ⟨a,v2,v3,rfl,e,ar3 h2,ar3 h3⟩
 | .nt c,v,h=>by
   obtain ⟨a,vs,rfl,e,h⟩:=at_tup0.mp h
   obtain ⟨v1,w1,rfl,h1,h⟩:=ats_cons0.mp h
   obtain ⟨v2,w2,rfl,h2,h⟩:=ats_cons0.mp h
   obtain rfl:=ats_nil0.mp h
   obtain rfl:=at_str0.mp h1
   exact ⟨a,v2,rfl,e,ax3 h2⟩
 | .both x y,v,h=>by
   obtain ⟨a,vs,rfl,e,h⟩:=at_tup0.mp h
   obtain ⟨v1,w1,rfl,h1,h⟩:=ats_cons0.mp h
   obtain ⟨v2,w2,rfl,h2,h⟩:=ats_cons0.mp h
   obtain ⟨v3,w3,rfl,h3,h⟩:=ats_cons0.mp h
   obtain rfl:=ats_nil0.mp h
   obtain rfl:=at_str0.mp h1
   exact ⟨a,v2,v3,rfl,e,ax3 h2,ax3 h3⟩
end L2
namespace L2
end L2
namespace L2
open PySem PySem.Spec PyProof.Rows
section
variable {X:Cx}{σ:St} {H:Hp}{Q:VK}{QT:Bool→Hp→Prop}{td ty tv te:TE}{nn bb cc:St→Hp→Prop}{rr:VK}
theorem bk2 {i:Nat}{a c:Int}{f:Int→Int→Int}(e:σ[i]?=some (some (.int a))) (h:nn (σ.set i (some (.int (f a c)))) H):tAug i (tC (.int c)) (ipI f) ⟨nn,rr,bb,cc⟩ σ H:=⟨_,e,a,c,rfl,rfl,h⟩
def cc0:R2:=fun x y H Q=>∃ l k xs,x=.ref l∧y=.int k∧H l=some (.lst xs)∧-(2 ^ 63)≤k∧k<2 ^ 63∧xs.length*k.toNat≤sizeLine∧New H (.lst (List.replicate k.toNat xs).flatten) Q
theorem ax4:OpR X (binaryOp .Mult) cc0:=by
 intro pins s σ H x y v u Q I rx ry h
 obtain ⟨l,k,xs,e1,e2,h1,h2,h3,h4,h5⟩:=h
 exact bz9 pins s σ H x y v u Q I rx ry ⟨l,k,xs,e1,e2,h1,h2,h3,h4,New.to h5⟩
end
section
variable {X:Cx}{elts:List Expr}{x1:Nat}{tpos:Pos}
theorem b61:bootBuiltins "zip"=some (.type "zip"):=by decide +kernel
end
def pl2 (k:Bool):Option Int→Option Int→Option Int
 | some x,some y=>some (if k then x+y else x - y)
 | _,_=>none
end L2
namespace L2
open PySem
end L2
namespace L2
open PySem PySem.Spec PyProof.Rows
noncomputable instance trDec:DecidableEq Tr:=fun _ _=>Classical.propDecidable _
def b62 (z:Int) (u:Value):Prop:=(∃ t,u=.int z t)∨∃ b:Bool,u=.bool b∧z=(if b=true then 1 else 0)
mutual
def Tr.In (h:Heap):Tr→Value→Prop
 | .non,u=>u=.none
 | .int z,u=>b62 z u
 | .str x,u=>∃ t,u=.str x t
 | .tup ts,u=>∃ a us,u=.ref a∧h.IsTuple a us∧Tr.Ins h ts us.toList
 | .lst _,_=>False
def Tr.Ins (h:Heap):List Tr→List Value→Prop
 | [],us=>us=[]
 | t::ts,us=>∃ u r,us=u::r∧Tr.In h t u∧Tr.Ins h ts r
end
theorem Tr.Ins.len {h:Heap}:∀ {ts:List Tr}{us:List Value},Tr.Ins h ts us→us.length=ts.length
 | [],us,e=>by simp only [Tr.Ins] at e; rw [e]; rfl
 | t::ts,us,e=>by
   simp only [Tr.Ins] at e
   obtain ⟨u,r,rfl,_,e⟩:=e
   simp [e.len]
theorem au2 {h:Heap}{a:Addr}{us vs:Array Value}(x:h.IsTuple a us) (y:h.IsTuple a vs):us=vs:=by
 obtain ⟨o,e,_,n,d⟩:=x
 obtain ⟨o',e',_,n',d'⟩:=y
 rw [e] at e'; cases e'
 rw [d] at d'
 injection d' with d1 _
mutual
theorem Tr.In.inj {h:Heap}:∀ {t r:Tr}{u:Value},Tr.In h t u→Tr.In h r u→t=r
 | .non,r,u,e,f=>by
   simp only [Tr.In] at e
   subst e
   cases r <;> simp [Tr.In,b62] at f ⊢
 | .int z,r,u,e,f=>by
   simp only [Tr.In] at e
   rcases e with ⟨t,rfl⟩ | ⟨b,rfl,rfl⟩
   · cases r <;> simp [Tr.In,b62] at f ⊢
     exact f
   · cases r <;> simp [Tr.In,b62] at f ⊢
     exact f.symm
 | .str x,r,u,e,f=>by
   simp only [Tr.In] at e
   obtain ⟨t,rfl⟩:=e
   cases r <;> simp [Tr.In,b62] at f ⊢
   exact f
 | .lst _,r,u,e,f=>e.elim
 | .tup ts,.tup rs,u,e,f=>by
   simp only [Tr.In] at e f
   obtain ⟨a,us,rfl,e2,e3⟩:=e
   obtain ⟨b,vs,hb,f2,f3⟩:=f
   cases hb
   cases au2 e2 f2
   rw [Tr.Ins.inj e3 f3]
 | .tup ts,.non,u,e,f=>by
   simp only [Tr.In] at e f
   obtain ⟨a,us,rfl,e2,e3⟩:=e
   cases f
 | .tup ts,.int _,u,e,f=>by
   simp only [Tr.In] at e f
   obtain ⟨a,us,rfl,e2,e3⟩:=e
   rcases f with ⟨_,f⟩ | ⟨_,f,_⟩ <;> cases f
 | .tup ts,.str _,u,e,f=>by
   simp only [Tr.In] at e f
   obtain ⟨a,us,rfl,e2,e3⟩:=e
   obtain ⟨_,f⟩:=f
   cases f
 | .tup ts,.lst _,u,e,f=>f.elim
theorem Tr.Ins.inj {h:Heap}:∀ {ts rs:List Tr}{us:List Value},Tr.Ins h ts us→Tr.Ins h rs us→ts=rs
 | [],rs,us,e,f=>by
   simp only [Tr.Ins] at e
   subst e
   cases rs with
   | nil=>rfl
   | cons r rs=>simp [Tr.Ins] at f
 | t::ts,rs,us,e,f=>by
   simp only [Tr.Ins] at e
   obtain ⟨u,r,rfl,e1,e2⟩:=e
   cases rs with
   | nil=>simp [Tr.Ins] at f
   | cons q qs =>
     simp only [Tr.Ins] at f
     obtain ⟨u',r',hh,f1,f2⟩:=f
     cases hh
     rw [e1.inj f1,Tr.Ins.inj e2 f2]
end
theorem ar4 {H:Hp}{ts:List Tr}{v:V}{h:(Tr.lst ts).At H v []}:False:=by
 simp only [Tr.At] at h
 obtain ⟨a,vs,_,rfl,e1,c1,e⟩:=h
 simp at e
section
variable {X:Cx}{pins:List (Addr×Obj)}{σ:St} {H:Hp}{s:Shared}
mutual
theorem Tr.At.isIn (I:Inv X pins σ H s):∀ {t:Tr}{v:V}{u:Value},t.At H v []→RelV v u→Tr.In s.heap t u
 | .non,v,u,h,r=>by
   obtain ⟨rfl,-⟩:=(by simpa only [Tr.At] using h)
   cases r
   exact rfl
 | .int z,v,u,h,r=>by
   obtain ⟨rfl,-⟩:=(by simpa only [Tr.At] using h)
   obtain ⟨t,rfl⟩:=r
   exact .inl ⟨t,rfl⟩
 | .str z,v,u,h,r=>by
   obtain ⟨rfl,-⟩:=(by simpa only [Tr.At] using h)
   obtain ⟨t,rfl⟩:=r
   exact ⟨t,rfl⟩
 | .lst _,v,u,h,r=>(ar4 (h:=h)).elim
 | .tup ts,v,u,h,r=>by
   simp only [Tr.At] at h
   obtain ⟨a,vs,rfl,e1,c1⟩:=h
   cases r
   obtain ⟨is1,q1,p1,_⟩:=I.tuple (SqT.of e1)
   simp only [Tr.In]
   exact ⟨a,is1.toArray,rfl,p1,by simpa using Tr.Ats.isIns I c1 q1⟩
theorem Tr.Ats.isIns (I:Inv X pins σ H s):∀ {ts:List Tr}{vs:List V}{us:List Value},Tr.Ats H ts vs []→Vals vs us→Tr.Ins s.heap ts us
 | [],vs,us,c,q=>by
   simp only [Tr.Ats] at c
   obtain ⟨rfl,-⟩:=c
   cases q
   exact rfl
 | t::ts,vs,us,c,q=>by
   simp only [Tr.Ats] at c
   obtain ⟨v,vs,f,g,rfl,e,a1,b1⟩:=c
   have hf:f=[]∧g=[]:=by simpa using e.symm
   obtain ⟨rfl,rfl⟩:=hf
   cases q with
   | cons r1 q1 =>
   simp only [Tr.Ins]
   exact ⟨_,_,rfl,a1.isIn I r1,b1.isIns I q1⟩
end
end
theorem b63 {n:Nat}{e:Nat→Bool}:(List.range n).all e=true↔∀ j,j<n→e j=true:=by simp [List.all_eq_true]
theorem bk3 {ts rs:List Tr}:((List.range (min ts.length rs.length)).all (fun j=>decide (ts.getD j .non=rs.getD j .non)) && ts.length == rs.length)=decide (ts=rs):=by
 rw [Bool.eq_iff_iff,Bool.and_eq_true,b63,decide_eq_true_iff,beq_iff_eq]
 constructor
 · rintro ⟨h1,h2⟩
   refine List.ext_getElem h2 fun j h3 h4=>?_
   have:=of_decide_eq_true (h1 j (by omega))
   simpa [h3,h4] using this
 · rintro rfl
   exact ⟨fun j _=>decide_eq_true rfl,rfl⟩
section
variable {s:Shared}
mutual
theorem Tr.In.eqAt:∀ {t r:Tr}{A:Around}{u z:Value},Tr.In s.heap t u→Tr.In s.heap r z→A.units+t.h+r.h<cLine→SeqAt.EqAt A s u z (decide (t=r))
 | .non,r,A,u,z,h1,h2,hu=>by
   simp only [Tr.In] at h1
   subst h1
   cases r with
   | non =>
     simp only [Tr.In] at h2
     subst h2
     rw [decide_eq_true rfl]
     exact SeqAt.EqAt.same _
   | int i =>
     rw [decide_eq_false (by simp)]
     rcases h2 with ⟨t2,rfl⟩ | ⟨b2,rfl,rfl⟩
     · exact SeqAt.EqAt.none_int _ _
     · exact SeqAt.EqAt.none_bool _
   | str i =>
     obtain ⟨t2,rfl⟩:=h2
     rw [decide_eq_false (by simp)]
     exact SeqAt.EqAt.none_str _ _
   | tup rs =>
     simp only [Tr.In] at h2
     obtain ⟨a,us,rfl,p,_⟩:=h2
     rw [decide_eq_false (by simp)]
     exact SeqAt.EqAt.none_tuple p (by omega)
   | lst rs=>exact h2.elim
 | .int i,r,A,u,z,h1,h2,hu=>by
   cases r with
   | non =>
     simp only [Tr.In] at h2
     subst h2
     rw [decide_eq_false (by simp)]
     rcases h1 with ⟨t1,rfl⟩ | ⟨b1,rfl,rfl⟩
     · exact SeqAt.EqAt.int_none _ _
     · exact SeqAt.EqAt.bool_none _
   | int j =>
     rw [show decide (Tr.int i=Tr.int j)=(i == j) from Bool.eq_iff_iff.mpr (by simp)]
     rcases h1 with ⟨t1,rfl⟩ | ⟨b1,rfl,rfl⟩
     · rcases h2 with ⟨t2,rfl⟩ | ⟨b2,rfl,rfl⟩
       · exact SeqAt.EqAt.int_int _ _ _ _
       · exact SeqAt.EqAt.int_bool _ _ _
     · rcases h2 with ⟨t2,rfl⟩ | ⟨b2,rfl,rfl⟩
       · exact SeqAt.EqAt.bool_int _ _ _
       · have:=SeqAt.EqAt.bool_bool (A:=A) (s:=s) b1 b2
         cases b1 <;> cases b2 <;> exact this
   | str j =>
     obtain ⟨t2,rfl⟩:=h2
     rw [decide_eq_false (by simp)]
     rcases h1 with ⟨t1,rfl⟩ | ⟨b1,rfl,rfl⟩
     · exact SeqAt.EqAt.int_str _ _ _ _
     · exact SeqAt.EqAt.bool_str _ _ _
   | tup rs =>
     simp only [Tr.In] at h2
     obtain ⟨a,us,rfl,p,_⟩:=h2
     rw [decide_eq_false (by simp)]
     rcases h1 with ⟨t1,rfl⟩ | ⟨b1,rfl,rfl⟩
     · exact SeqAt.EqAt.int_tuple _ _ p (by omega)
     · exact SeqAt.EqAt.bool_tuple _ p (by omega)
   | lst rs=>exact h2.elim
 | .str i,r,A,u,z,h1,h2,hu=>by
   obtain ⟨t1,rfl⟩:=h1
   cases r with
   | non =>
     simp only [Tr.In] at h2
     subst h2
     rw [decide_eq_false (by simp)]
     exact SeqAt.EqAt.str_none _ _
   | int j =>
     rw [decide_eq_false (by simp)]
     rcases h2 with ⟨t2,rfl⟩ | ⟨b2,rfl,rfl⟩
     · exact SeqAt.EqAt.str_int _ _ _ _
     · exact SeqAt.EqAt.str_bool _ _ _
   | str j =>
     obtain ⟨t2,rfl⟩:=h2
     have:=SeqAt.EqAt.str_str (A:=A) (s:=s) i t1 j t2
     rw [show (i == j)=decide (Tr.str i=Tr.str j) from Bool.eq_iff_iff.mpr (by simp)] at this
     exact this
   | tup rs =>
     simp only [Tr.In] at h2
     obtain ⟨a,us,rfl,p,_⟩:=h2
     rw [decide_eq_false (by simp)]
     exact SeqAt.EqAt.str_tuple _ _ p (by omega)
   | lst rs=>exact h2.elim
 | .lst _,r,A,u,z,h1,h2,hu=>h1.elim
 | .tup ts,r,A,u,z,h1,h2,hu=>by
   have h1':=h1
   simp only [Tr.In] at h1
   obtain ⟨a,us,rfl,p1,c1⟩:=h1
   cases r with
   | non =>
     simp only [Tr.In] at h2
     subst h2
     rw [decide_eq_false (by simp)]
     exact SeqAt.EqAt.tuple_none p1 (by omega)
   | int j =>
     rw [decide_eq_false (by simp)]
     rcases h2 with ⟨t2,rfl⟩ | ⟨b2,rfl,rfl⟩
     · exact SeqAt.EqAt.tuple_int _ _ p1 (by omega)
     · exact SeqAt.EqAt.tuple_bool _ p1 (by omega)
   | str j =>
     obtain ⟨t2,rfl⟩:=h2
     rw [decide_eq_false (by simp)]
     exact SeqAt.EqAt.tuple_str _ _ p1 (by omega)
   | lst rs=>exact h2.elim
   | tup rs =>
     have h2':=h2
     simp only [Tr.In] at h2
     obtain ⟨b,vs,rfl,p2,c2⟩:=h2
     by_cases hab:a=b
     · subst hab
       rw [decide_eq_true (h1'.inj h2')]
       exact SeqAt.EqAt.same _
     refine SeqAt.EqAt.of_refs hab ?_
     simp only [Tr.h] at hu
     have l1:=c1.len
     have l2:=c2.len
     simp only [Array.length_toList] at l1 l2
     have:=SeqAt.RcAt.tuples (A:=A) (s:=s) (e:=fun j=>decide (ts.getD j .non=rs.getD j .non)) p1 p2 (by omega) (fun j h1 h2=>by
      have:=Tr.Ins.eqAts (A:=A.in1) c1 c2 (by rw [a33]; omega) j (by simpa using h1) (by simpa using h2)
      simpa using this)
     rw [l1,l2,bk3] at this
     rw [show decide (Tr.tup ts=Tr.tup rs)=decide (ts=rs) from Bool.eq_iff_iff.mpr (by simp)]
     exact this
theorem Tr.Ins.eqAts:∀ {ts rs:List Tr}{A:Around}{us zs:List Value},Tr.Ins s.heap ts us→Tr.Ins s.heap rs zs→A.units+Tr.hs ts+Tr.hs rs<cLine →
 ∀ (j:Nat) (h1:j<us.length) (h2:j<zs.length),SeqAt.EqAt A s us[j] zs[j] (decide (ts.getD j .non=rs.getD j .non))
 | [],rs,A,us,zs,c1,c2,hu,j,h1,h2=>by
   simp only [Tr.Ins] at c1
   subst c1
   exact absurd h1 (by simp)
 | t::ts,[],A,us,zs,c1,c2,hu,j,h1,h2=>by
   simp only [Tr.Ins] at c2
   subst c2
   exact absurd h2 (by simp)
 | t::ts,r::rs,A,us,zs,c1,c2,hu,j,h1,h2=>by
   simp only [Tr.Ins] at c1 c2
   obtain ⟨u,us,rfl,a1,b1⟩:=c1
   obtain ⟨z,zs,rfl,a2,b2⟩:=c2
   simp only [Tr.hs] at hu
   cases j with
   | zero =>
     have:=a1.eqAt a2 (A:=A) (by omega)
     simpa using this
   | succ j =>
     have:=b1.eqAts b2 (A:=A) (by omega) j (by simpa using h1) (by simpa using h2)
     simpa using this
end
end
mutual
def Tr.hash (P:Params):Tr→Int
 | .non=>PySem.W.hashW P .none
 | .int z=>PySem.W.hashW P (.int z)
 | .str x=>PySem.W.hashW P (.str x)
 | .tup ts=>reduceHash (Builtin.Tuple.tupleHashOf (Tr.hashes P ts))
 | .lst _=>0
def Tr.hashes (P:Params):List Tr→List Int
 | []=>[]
 | t::ts=>Tr.hash P t::Tr.hashes P ts
end
section
variable {prog:Program}{w:World}{E:Value→Shared→Prop}
mutual
theorem Tr.In.pyHash:∀ {t:Tr}{A:Around}{s:Shared}{u:Value}{Q:Int→Shared→Prop},Tr.In s.heap t u→A.units+t.h<cLine→(∀ n,Q (t.hash w.params) { s with toks:=n })→wpAny (model prog w) A (pyHash u) Q E s
 | .non,A,s,u,Q,e,hu,h=>by
   simp only [Tr.In] at e
   subst e
   exact PySem.W.pyHash_laid .none _ A s Q rfl .none (by simp only [PySem.W.WData.depth]; omega) h
 | .int z,A,s,u,Q,e,hu,h=>by
   rcases e with ⟨t,rfl⟩ | ⟨b,rfl,rfl⟩
   · exact PySem.W.pyHash_laid (.int z) _ A s Q rfl (.int z t) (by simp only [PySem.W.WData.depth]; omega) h
   · refine PySem.W.pyHash_laid (.bool b) _ A s Q rfl (.bool b) (by simp only [PySem.W.WData.depth]; omega) fun tk=>?_
     have:=h tk
     cases b <;> exact this
 | .str z,A,s,u,Q,e,hu,h=>by
   obtain ⟨t,rfl⟩:=e
   exact PySem.W.pyHash_laid (.str z) _ A s Q rfl (.str z t) (by simp only [PySem.W.WData.depth]; omega) h
 | .lst _,A,s,u,Q,e,hu,h=>e.elim
 | .tup ts,A,s,u,Q,e,hu,h=>by
   simp only [Tr.In] at e
   obtain ⟨a,us,rfl,⟨o,p1,p2,n,p3⟩,c⟩:=e
   simp only [Tr.h] at hu
   refine PySem.W.pyHash_slot (T:="tuple") ⟨o,p1,p2⟩ F.slot_tuple_hash F.entry_tuple_hash (F.args_tuple_hash_1 _) (beq_builtin_none _) (.inr (by omega)) ?_
   show wpAny _ A.in1 (Builtin.Tuple.tupleItemsOf (.ref a) >>= _) _ _ s
   refine wpAny_bind (wpAny_tupleItemsOf p1 p3 (wpAny_bind ?_))
   rw [← Array.forIn_toList]
   refine Tr.Ins.pyHashes (b:=#[]) c (by rw [a33]; omega) fun tk b hb=>?_
   have hb':b.toList=Tr.hashes w.params ts:=by simpa using hb
   show wpAny _ A.in1 (retInt (Builtin.Tuple.tupleHashOf b.toList)) _ _ _
   rw [hb']
   exact wpAny_bind (wpAny_mkInt (wpAny_pure ⟨_,_,rfl,h (_)⟩))
theorem Tr.Ins.pyHashes:∀ {ts:List Tr}{A:Around}{s:Shared}{us:List Value}{b:Array Int}{Q:Array Int→Shared→Prop},Tr.Ins s.heap ts us→A.units+Tr.hs ts<cLine →
 (∀ n b',b'.toList=b.toList++Tr.hashes w.params ts→Q b' { s with toks:=n }) →
 wpAny (model prog w) A (forIn us b fun x r=>do let h←pyHash x; pure PUnit.unit; pure (ForInStep.yield (r.push h))) Q E s
 | [],A,s,us,b,Q,e,hu,h=>by
   simp only [Tr.Ins] at e
   subst e
   exact wpAny_pure (h s.toks b (by simp [Tr.hashes]))
 | t::ts,A,s,us,b,Q,e,hu,h=>by
   simp only [Tr.Ins] at e
   obtain ⟨u,us,rfl,a1,b1⟩:=e
   simp only [Tr.hs] at hu
   rw [List.forIn_cons]
   refine wpAny_bind (wpAny_bind (a1.pyHash (by omega) fun tk=>wpAny_bind (wpAny_pure (wpAny_pure ?_))))
   exact b1.pyHashes (s:={ s with toks:=tk }) (by omega) fun n b' hb=>h n b' (by simp [hb,Tr.hashes])
end
end
section
variable {prog:Program}{w:World}{E:Value→Shared→Prop}
mutual
theorem Tr.In.quiet:∀ {t:Tr}{A:Around}{s:Shared}{u:Value}{Q:Bool→Shared→Prop}{n:Nat},Tr.In s.heap t u→t.h≤n→Q true s→wpAny (model prog w) A (eqIsQuiet n u) Q E s
 | .non,A,s,u,Q,n,e,hn,h=>by
   simp only [Tr.In] at e
   subst e
   rw [eqIsQuiet_byValue n (v:=.none) rfl]
   exact wpAny_pure h
 | .int z,A,s,u,Q,n,e,hn,h=>by
   rcases e with ⟨t,rfl⟩ | ⟨b,rfl,rfl⟩
   · rw [eqIsQuiet_byValue n (v:=.int z t) rfl]
     exact wpAny_pure h
   · rw [eqIsQuiet_byValue n (v:=.bool b) rfl]
     exact wpAny_pure h
 | .str z,A,s,u,Q,n,e,hn,h=>by
   obtain ⟨t,rfl⟩:=e
   rw [eqIsQuiet_byValue n (v:=.str z t) rfl]
   exact wpAny_pure h
 | .lst _,A,s,u,Q,n,e,hn,h=>e.elim
 | .tup ts,A,s,u,Q,n,e,hn,h=>by
   simp only [Tr.In] at e
   obtain ⟨a,us,rfl,⟨o,p1,p2,m,p3⟩,c⟩:=e
   simp only [Tr.h] at hn
   obtain ⟨n,rfl⟩:∃ k,n=k+1:=⟨n - 1,by omega⟩
   have hT:s.TypeIs (.ref a) "tuple":=⟨o,p1,p2⟩
   unfold eqIsQuiet
   refine wpAny_bind (wpAny_specialOf hT (F.slot_tuple_eq.lookup) ?_)
   show wpAny _ A (isInstance (.ref a) (.type "tuple") >>= _) _ _ s
   refine wpAny_bind (wpAny_isInstance hT (isSubtype_tuple_tuple) ?_)
   simp only [Bool.false_eq_true,Bool.not_true,if_false]
   refine wpAny_bind (wpAny_seqItems p1 p3 (wpAny_bind ?_))
   show wpAny _ _ (forIn us _ _) _ _ s
   rw [← Array.forIn_toList]
   refine wpAny_forIn_list _ (fun rest r s'=>r.1=none∧s'=s∧∃ ts',Tr.Ins s.heap ts' rest∧∀ t∈ts',∃ k,∃ hk:k<ts.length,t=ts[k]) _ ?_ ?_ _ _ ⟨rfl,rfl,ts,c,fun t ht=>by
    obtain ⟨k,hk,e⟩:=List.mem_iff_getElem.mp ht
    exact ⟨k,hk,e.symm⟩⟩
   · rintro v rest r s' ⟨hr,rfl,ts',c',hm⟩
     cases ts' with
     | nil=>simp [Tr.Ins] at c'
     | cons t ts' =>
       simp only [Tr.Ins] at c'
       obtain ⟨u',r',hh,a1,b1⟩:=c'
       cases hh
       obtain ⟨k,hk,rfl⟩:=hm t List.mem_cons_self
       refine wpAny_bind (Tr.Ins.quietAt (n:=n) c k hk a1 (by omega) ?_)
       simp only [Bool.false_eq_true,Bool.not_true,if_false]
       exact wpAny_pure ⟨rfl,rfl,ts',b1,fun t' ht'=>hm t' (List.mem_cons_of_mem _ ht')⟩
   · rintro ⟨r1,r2⟩ s' ⟨hr,rfl,_⟩
     simp only at hr
     subst hr
     exact wpAny_pure h
theorem Tr.Ins.quietAt:∀ {ts:List Tr}{A:Around}{s:Shared}{us:List Value}{u:Value}{Q:Bool→Shared→Prop}{n:Nat},Tr.Ins s.heap ts us→∀ (k:Nat) (hk:k<ts.length),Tr.In s.heap ts[k] u→Tr.hs ts≤n→Q true s →
 wpAny (model prog w) A (eqIsQuiet n u) Q E s
 | [],A,s,us,u,Q,n,e,k,hk,a1,hn,h=>absurd hk (Nat.not_lt_zero _)
 | t::ts,A,s,us,u,Q,n,e,k,hk,a1,hn,h=>by
   simp only [Tr.Ins] at e
   obtain ⟨u',us,rfl,a2,b2⟩:=e
   simp only [Tr.hs] at hn
   cases k with
   | zero=>exact Tr.In.quiet (t:=t) a1 (by omega) h
   | succ k=>exact Tr.Ins.quietAt b2 k (by simpa using hk) a1 (by omega) h
end
end
structure Ents (P:Params) (h:Heap) (es:Array DictEntry) (ts:List Tr):Prop where
 len:es.size=ts.length
 at_:∀ (j:Nat) (e:DictEntry),es[j]?=some e→∃ t:Tr,ts[j]?=some t∧e.hash=t.hash P∧Tr.In h t e.key∧t.h≤8
 nd:ts.Nodup
theorem Ents.of {P:Params}{h:Heap}{es:Array DictEntry}{ts:List Tr}(x:Ents P h es ts) {j:Nat}{t:Tr}(e:ts[j]?=some t):∃ en,es[j]?=some en∧en.hash=t.hash P∧Tr.In h t en.key∧t.h≤8:=by
 have hj:j<es.size:=by rw [x.len]; exact (List.getElem?_eq_some_iff.mp e).1
 obtain ⟨t',e',h2⟩:=x.at_ j es[j] (Array.getElem?_eq_getElem hj)
 rw [e] at e'
 cases e'
 exact ⟨_,Array.getElem?_eq_getElem hj,h2⟩
theorem Ents.one {P:Params}{h:Heap}{es:Array DictEntry}{ts:List Tr}(x:Ents P h es ts) {i j:Nat}{t:Tr}(e:ts[i]?=some t) (f:ts[j]?=some t):i=j:=by
 obtain ⟨h1,e⟩:=List.getElem?_eq_some_iff.mp e
 obtain ⟨h2,f⟩:=List.getElem?_eq_some_iff.mp f
 have pw:=List.pairwise_iff_getElem.mp x.nd
 rcases Nat.lt_trichotomy i j with h | h | h
 · exact absurd (e.trans f.symm) (pw i j h1 h2 h)
 · exact h
 · exact absurd (f.trans e.symm) (pw j i h2 h1 h)
section
variable {prog:Program}{w:World}{E:Value→Shared→Prop}{A:Around}{s:Shared}{d:Addr}{o:Obj}{es:Array DictEntry}{ep:Nat}{ts:List Tr}{t:Tr}{u:Value}
theorem mem_places {f:Nat→Option Int}{n i:Nat}{h:Int}:i∈placesWithHash n f h↔i<n∧f i=some h:=by simp [placesWithHash,List.mem_filter]
theorem b64 {f:Nat→Option Int}{n:Nat}{h:Int}:(placesWithHash n f h).Nodup:=List.Pairwise.filter _ List.nodup_range
theorem b65 {Q:Option Nat→Shared→Prop}(ho:s.heap.get? d=some o) (hd:o.data=.dict es ep) (x:Ents w.params s.heap es ts) (hk:Tr.In s.heap t u) (h8:t.h≤8) (hu:A.units+16<cLine)
 (hnone:(∀ j:Nat,ts[j]?≠some t)→Q none s) (hsome:∀ j:Nat,ts[j]?=some t→Q (some j) s):wpAny (model prog w) A (dictFind d u (t.hash w.params)) Q E s:=by
 have hin:∀ j:Nat,ts[j]?=some t→j∈placesWithHash es.size (fun i=>es[i]?.map (·.hash)) (t.hash w.params):=fun j hj=>by
  obtain ⟨en,e1,e2,_⟩:=x.of hj
  exact mem_places.mpr ⟨(Array.getElem?_eq_some_iff.mp e1).1,by rw [e1]; exact congrArg some e2⟩
 have hex:∀ i∈placesWithHash es.size (fun i=>es[i]?.map (·.hash)) (t.hash w.params),∃ en t',es[i]?=some en∧ts[i]?=some t'∧en.hash=t.hash w.params∧Tr.In s.heap t' en.key∧t'.h≤8:=fun i hi=>by
  obtain ⟨hi,h2⟩:=mem_places.mp hi
  have e1:=Array.getElem?_eq_getElem hi
  obtain ⟨t',e2,e3,e4,e5⟩:=x.at_ i _ e1
  rw [e1] at h2
  exact ⟨_,t',e1,e2,Option.some.inj h2,e4,e5⟩
 have hnd:(placesWithHash es.size (fun i=>es[i]?.map (·.hash)) (t.hash w.params)).Nodup:=b64
 generalize hP:placesWithHash es.size (fun i=>es[i]?.map (·.hash)) (t.hash w.params)=ps at hin hex hnd
 have eqa:∀ {t':Tr}{z:Value},Tr.In s.heap t' z→t'.h≤8→SeqAt.EqAt A s z u (decide (t'=t)):=fun a b=>a.eqAt hk (by omega)
 have plain:wpAny (model prog w) A (dictWalkPlain d u (t.hash w.params) es ps) Q E s:=by
  unfold dictWalkPlain
  refine wpAny_bind ?_
  refine wpAny_forIn_list _ (fun rest b s'=>s'=s∧b=(none,())∧(∀ i∈rest,i∈ps)∧∀ j:Nat,ts[j]?=some t→j∈rest) _ ?_ ?_ _ _ ⟨rfl,rfl,fun _ z=>z,hin⟩
  · rintro i rest b s' ⟨rfl,rfl,hr,hj⟩
    obtain ⟨en,t',e1,e2,e3,e4,e5⟩:=hex i (hr i List.mem_cons_self)
    rw [e1]
    dsimp only
    rw [if_pos (by rw [e3]; exact beq_self_eq_true _)]
    refine wpAny_bind (wpAny_dictEpoch ho hd (wpAny_bind (eqa e4 e5 _ _ _ _ (wpAny_bind (wpAny_dictEpoch ho hd ?_)))))
    show wpAny _ A (if (ep != ep)=true then _ else _) _ E _
    rw [if_neg (by simp)]
    by_cases hkk:t'=t
    · subst hkk
      rw [decide_eq_true rfl]
      exact wpAny_bind (wpAny_rule (wpAny_pure (wpAny_pure (hsome i e2))))
    · rw [decide_eq_false hkk]
      refine wpAny_bind (wpAny_rule (wpAny_pure ⟨rfl,rfl,fun i hi=>hr i (List.mem_cons_of_mem _ hi),fun j h2=>?_⟩))
      rcases List.mem_cons.mp (hj j h2) with rfl | h3
      · rw [e2] at h2
        exact absurd (Option.some.inj h2) hkk
      · exact h3
  · rintro b s' ⟨rfl,rfl,_,hj⟩
    exact wpAny_pure (hnone fun j h2=>absurd (hj j h2) (by simp))
 have hany:∀ a,u=.ref a→¬ (es.any fun e=>e.key == u && e.hash != t.hash w.params)=true:=by
  rintro a rfl
  rw [← Array.any_toList,List.any_eq_true]
  rintro ⟨e,hin',hc⟩
  obtain ⟨j,hj,rfl⟩:=Array.mem_iff_getElem.mp (Array.mem_toList_iff.mp hin')
  obtain ⟨t',_,f2,f3,_⟩:=x.at_ j _ (Array.getElem?_eq_getElem hj)
  simp only [Bool.and_eq_true,beq_iff_eq,bne_iff_ne,ne_eq] at hc
  rw [hc.1] at f3
  exact hc.2 (by rw [f2,f3.inj hk])
 have hst:∀ v∈ps.filterMap (fun i=>es[i]?.map (·.key)),∃ t',Tr.In s.heap t' v∧t'.h≤8:=by
  intro v hv
  obtain ⟨i,hi,hv⟩:=List.mem_filterMap.mp hv
  obtain ⟨en,t',e1,_,_,e4,e5⟩:=hex i hi
  rw [e1] at hv
  cases hv
  exact ⟨t',e4,e5⟩
 have tell:∀ {Q:Bool→Shared→Prop},Q false s→wpAny (model prog w) A (tableMayTell u (ps.filterMap fun i=>es[i]?.map (·.key))) Q E s:=by
  intro Q q
  unfold tableMayTell
  split
  · exact wpAny_pure q
  · refine wpAny_bind (hk.quiet h8 ?_)
    simp only [Bool.false_eq_true,Bool.not_true,if_false]
    refine wpAny_bind (wpAny_forIn_list _ (fun rest r s'=>s'=s∧r=(none,())∧∀ v∈rest,∃ t',Tr.In s.heap t' v∧t'.h≤8) _ ?_ ?_ _ _ ⟨rfl,rfl,hst⟩)
    · rintro v rest r s' ⟨rfl,rfl,hr⟩
      obtain ⟨t',b1,b2⟩:=hr v List.mem_cons_self
      refine wpAny_bind (b1.quiet b2 ?_)
      simp only [Bool.false_eq_true,Bool.not_true,if_false]
      exact wpAny_pure ⟨rfl,rfl,fun z hz=>hr z (List.mem_cons_of_mem _ hz)⟩
    · rintro r s' ⟨rfl,rfl,_⟩
      exact wpAny_pure q
 unfold dictFind
 try (with_reducible refine wpAny_holding ?_)
 refine wpAny_bind (wpAny_dictEntries ho (hd) ?_)
 extract_lets places st hit0 jp3 jp2 jp1
 have hpl:places=ps:=hP
 have hS:ps.filterMap (fun i=>es[i]?.map (·.key))=st:=by rw [← hpl]
 rw [hS] at tell
 clear hst
 have h3:wpAny (model prog w) A (jp3 false) Q E s:=by
  dsimp only [jp3]
  rw [if_neg (by simp),hpl]
  refine wpAny_bind (wpAny_forIn_list _ (fun rest b s'=>s'=s∧rest.Nodup∧∃ hit:Option Nat,b=(none,hit)∧(∀ i∈rest,i∈ps) ∧
   ((hit=none∧∀ j:Nat,ts[j]?=some t→j∈rest)∨∃ j:Nat,hit=some j∧ts[j]?=some t∧j∉rest)) _ ?_ ?_ _ _ ⟨rfl,hnd,none,rfl,fun _ z=>z,.inl ⟨rfl,hin⟩⟩)
  · rintro i rest b s' ⟨rfl,hnd',hit,rfl,hr,hH⟩
    have hni:i∉rest:=(List.nodup_cons.mp hnd').1
    have hnr:rest.Nodup:=(List.nodup_cons.mp hnd').2
    have hr':∀ j∈rest,j∈ps:=fun j hj=>hr j (List.mem_cons_of_mem _ hj)
    obtain ⟨en,t',e1,e2,e3,e4,e5⟩:=hex i (hr i List.mem_cons_self)
    rw [e1]
    dsimp only
    rw [if_pos (by rw [e3]; exact beq_self_eq_true _)]
    refine wpAny_bind (wpAny_dictEpoch ho hd (wpAny_bind (eqa e4 e5 _ _ _ _ (wpAny_bind (wpAny_dictEpoch ho hd ?_)))))
    show wpAny _ A (if (ep != ep)=true then _ else _) _ E _
    rw [if_neg (by simp)]
    by_cases hkk:t'=t
    · subst hkk
      rw [decide_eq_true rfl]
      rcases hH with ⟨rfl,hj⟩ | ⟨j,rfl,hj,hjr⟩
      · rw [if_pos rfl]
        simp only [Bool.false_eq_true,Option.isSome_none,if_false]
        refine wpAny_bind ((wpAny_rule) ?_)
        split
        · exact wpAny_pure (wpAny_pure (hsome i e2))
        · exact wpAny_pure ⟨rfl,hnr,some i,rfl,hr',.inr ⟨i,rfl,e2,hni⟩⟩
      · exact absurd (x.one e2 hj ▸ List.mem_cons_self) hjr
    · rw [decide_eq_false hkk]
      rw [if_neg (by simp)]
      refine wpAny_bind ((wpAny_rule) ?_)
      rw [if_neg (by simp)]
      refine wpAny_pure ⟨rfl,hnr,hit,rfl,hr',?_⟩
      rcases hH with ⟨rfl,hj⟩ | ⟨j,rfl,hj,hjr⟩
      · refine .inl ⟨rfl,fun j h2=>?_⟩
        rcases List.mem_cons.mp (hj j h2) with rfl | h3
        · rw [e2] at h2
          exact absurd (Option.some.inj h2) hkk
        · exact h3
      · exact .inr ⟨j,rfl,hj,fun z=>hjr (List.mem_cons_of_mem _ z)⟩
  · rintro b s' ⟨rfl,_,hit,rfl,_,hH⟩
    rcases hH with ⟨rfl,hj⟩ | ⟨j,rfl,hj,_⟩
    · exact wpAny_pure (hnone fun j h2=>absurd (hj j h2) (by simp))
    · exact wpAny_pure (hsome j hj)
 clear_value jp3
 have h2:wpAny (model prog w) A (jp2 ()) Q E s:=by
  dsimp only [jp2]
  by_cases hone:(st == [u])=true
  · rw [if_pos hone]
    exact wpAny_bind (wpAny_pure h3)
  · rw [if_neg hone]
    exact wpAny_bind (tell h3)
 clear_value jp2
 have h1:wpAny (model prog w) A (jp1 ()) Q E s:=by
  dsimp only [jp1]
  by_cases hall:(u::st).all carriedByValue=true
  · rw [if_pos hall,hpl]
    exact plain
  rw [if_neg hall]
  split
  · rename_i a
    rw [if_neg (hany a rfl)]
    exact h2
  · exact h2
 clear_value jp1
 split
 · rename_i y tk
   by_cases hx:(es.all fun e=>isExactStrKey e.key)=true
   · rw [if_pos hx]
     have ht:t=.str y:=hk.inj (r:=.str y) ⟨tk,rfl⟩
     subst ht
     have hstr:∀ (j:Nat) (hj:j<es.size),es[j].key.isStr y=decide (ts[j]?=some (.str y)):=fun j hj=>by
      obtain ⟨t',f1,f2,f3,_⟩:=x.at_ j _ (Array.getElem?_eq_getElem hj)
      have hx':=Array.all_eq_true.mp hx j hj
      rw [f1]
      cases hq:es[j].key with
      | str z tz =>
        rw [hq] at f3
        obtain rfl:t'=.str z:=f3.inj (r:=.str z) ⟨tz,rfl⟩
        show (z == y)=_
        exact Bool.eq_iff_iff.mpr (by simp)
      | _=>rw [hq] at hx'; cases hx'
     unfold foundByValue
     cases hf:es.findIdx? (fun e=>e.key.isStr y) with
     | none =>
       refine wpAny_pure (hnone fun j hj=>?_)
       obtain ⟨en,g1,_⟩:=x.of hj
       obtain ⟨hl,_⟩:=Array.getElem?_eq_some_iff.mp g1
       have:=Array.findIdx?_eq_none_iff.mp hf es[j] (Array.getElem_mem hl)
       rw [hstr j hl,decide_eq_true hj] at this
       cases this
     | some i =>
       obtain ⟨hlt,hi,_⟩:=Array.findIdx?_eq_some_iff_getElem.mp hf
       rw [hstr i hlt] at hi
       have hi:=of_decide_eq_true hi
       obtain ⟨t',f1,f2,f3,f4⟩:=x.at_ i _ (Array.getElem?_eq_getElem hlt)
       rw [hi] at f1
       cases f1
       simp only [Array.getElem?_eq_getElem hlt]
       refine wpAny_bind (wpAny_dictEpoch ho hd (wpAny_bind (eqa f3 f4 _ _ _ _ (wpAny_bind (wpAny_dictEpoch ho hd ?_)))))
       show wpAny _ A (if (ep != ep)=true then _ else _) _ E _
       rw [if_neg (by simp),decide_eq_true rfl]
       exact wpAny_bind (wpAny_rule (wpAny_pure (hsome i hi)))
   · rw [if_neg hx]
     exact h1
 · exact h1
end
structure DtR (P:Params) (m:List (Tr×V×V)) (es:Array DictEntry):Prop where
 len:es.size=m.length
 at_:∀ (j:Nat) (x:Tr×V×V),m[j]?=some x→∃ e,es[j]?=some e∧e.hash=x.1.hash P∧RelV x.2.1 e.key∧RelV x.2.2 e.val
def DtP (P:Params) (a:Addr) (m:List (Tr×V×V)):Heap→Prop:=fun h=>m.length≤sizeLine∧(a == sysModules)=false∧∃ o es ep,h.get? a=some o∧o.ExactDict∧o.data=.dict es ep∧DtR P m es
abbrev DtO (P:Params) (a:Addr) (m:List (Tr×V×V)):HO:=.ext (DtP P a m)
theorem DtP.one {P:Params}{a:Addr}{m:List (Tr×V×V)}(h1 h2:Heap) (x:DtP P a m h1) (k:∀ o,h1.get? a=some o→h2.get? a=some o):DtP P a m h2:=by
 obtain ⟨z,y,o,es,ep,e,r⟩:=x
 exact ⟨z,y,o,es,ep,k _ e,r⟩
theorem ax5 {Pr:Program}{w:World}{H:Hp}{h:Heap}{P:Params}{a:Addr}{m:List (Tr×V×V)}(x:DtP P a m h):ObjOk Pr w H h a (DtO P a m):=by
 refine ⟨x,?_,DtP.one⟩
 obtain ⟨_,_,o,_,_,e,_⟩:=x
 exact ⟨o,e⟩
def DtE (P:Params) (H:Hp) (a:Addr) (m:List (Tr×V×V)):Prop:=∃ φ,H a=some (.ext φ)∧∀ h,φ h→DtP P a m h
theorem DtE.of {P:Params}{H:Hp}{a:Addr}{m:List (Tr×V×V)}(h:H a=some (DtO P a m)):DtE P H a m:=⟨_,h,fun _ x=>x⟩
theorem DtE.mut {P:Params}{H:Hp}{a:Addr}{m:List (Tr×V×V)}(h:DtE P H a m):Mut (H a):=by
 obtain ⟨φ,e,_⟩:=h
 rw [e]
 exact True.intro
def DtAt (P:Params) (H:Hp) (a:Addr) (kvs:List (Tr×V)):Prop:=∃ m:List (Tr×V×V),m.map (fun x=>(x.1,x.2.2))=kvs∧DtE P H a m∧(∀ x∈m,x.1.At H x.2.1 []∧x.1.h≤8)∧(m.map (·.1)).Nodup
noncomputable def putM (m:List (Tr×V×V)) (t:Tr) (y v:V):List (Tr×V×V):=if t∈m.map (·.1) then m.map (fun x=>if x.1=t then (x.1,x.2.1,v) else x) else m++[(t,y,v)]
theorem be1 (m:List (Tr×V×V)) (t:Tr) (y v:V):(putM m t y v).map (fun x=>(x.1,x.2.2))=putK (m.map fun x=>(x.1,x.2.2)) t v:=by
 have hany:((m.map fun x=>(x.1,x.2.2)).any fun kv=>decide (kv.1=t))=decide (t∈m.map (·.1)):=by
  rw [Bool.eq_iff_iff,List.any_eq_true,decide_eq_true_iff,List.mem_map]
  constructor
  · rintro ⟨p,hp,e⟩
    obtain ⟨x,hx,rfl⟩:=List.mem_map.mp hp
    exact ⟨x,hx,of_decide_eq_true e⟩
  · rintro ⟨x,hx,e⟩
    exact ⟨_,List.mem_map_of_mem hx,decide_eq_true e⟩
 unfold putM putK
 rw [hany]
 by_cases h:t∈m.map (·.1)
 · rw [if_pos h,if_pos (decide_eq_true h),List.map_map,List.map_map]
   refine List.map_congr_left fun x _=>?_
   simp only [Function.comp]
   split <;> rfl
 · rw [if_neg h,if_neg (by rw [decide_eq_false h]; exact Bool.false_ne_true),List.map_append]
   rfl
theorem bq6 {m:List (Tr×V×V)}(t:Tr) (y v:V) (h:(m.map (·.1)).Nodup):((putM m t y v).map (·.1)).Nodup:=by
 unfold putM
 by_cases ht:t∈m.map (·.1)
 · rw [if_pos ht,List.map_map]
   rw [show m.map ((·.1)∘fun x=>if x.1=t then (x.1,x.2.1,v) else x)=m.map (·.1) from List.map_congr_left fun x _=>by simp only [Function.comp]; split <;> rfl]
   exact h
 · rw [if_neg ht,List.map_append]
   exact b45 h ht
theorem be2 {m:List (Tr×V×V)}{t:Tr}{y v:V}{p:Tr→V→Prop}(h:∀ x∈m,p x.1 x.2.1) (hy:p t y):∀ x∈putM m t y v,p x.1 x.2.1:=by
 intro x hx
 unfold putM at hx
 by_cases ht:t∈m.map (·.1)
 · rw [if_pos ht] at hx
   obtain ⟨z,hz,rfl⟩:=List.mem_map.mp hx
   split <;> exact h z hz
 · rw [if_neg ht] at hx
   rcases List.mem_append.mp hx with hx | hx
   · exact h x hx
   · rw [List.mem_singleton.mp hx]; exact hy
theorem be3 (m:List (Tr×V×V)) (t:Tr) (y v:V):(putM m t y v).length≤m.length+1:=by
 unfold putM
 split <;> simp
theorem au3 {P:Params}{H H':Hp}{a:Addr}{kvs:List (Tr×V)}(x:DtAt P H a kvs) (s:Same H H'):DtAt P H' a kvs:=by
 obtain ⟨m,e1,⟨φ,e2,hφ⟩,e3,e4⟩:=x
 exact ⟨m,e1,⟨φ,s _ _ e2,hφ⟩,fun x hx=>⟨(e3 x hx).1.mono (s.keep _),(e3 x hx).2⟩,e4⟩
def TK (H:Hp) (t:Tr) (y:V):Prop:=t.At H y []∧t.h≤8
theorem be4 {m:List (Tr×V×V)}(hn:(m.map (·.1)).Nodup) {j:Nat}{x:Tr×V×V}(e:m[j]?=some x):valV (m.map fun x=>(x.1,x.2.2)) x.1=some x.2.2:=by
 induction m generalizing j with
 | nil=>simp at e
 | cons z m ih =>
   rw [List.map_cons,List.nodup_cons] at hn
   cases j with
   | zero =>
     obtain rfl:z=x:=by simpa using e
     exact a52 rfl
   | succ j =>
     have e':m[j]?=some x:=by simpa using e
     rw [List.map_cons,a53 (fun q=>hn.1 (by
      show z.1∈_
      rw [show z.1=x.1 from q]
      exact List.mem_map_of_mem (List.mem_of_getElem? e')))]
     exact ih hn.2 e'
theorem ar5 {m:List (Tr×V×V)}{t:Tr}(h:∀ j:Nat,(m.map (·.1))[j]?≠some t):valV (m.map fun x=>(x.1,x.2.2)) t=none∧t∉m.map (·.1):=by
 have hn:t∉m.map (·.1):=fun z=>by
  obtain ⟨j,hj,e⟩:=List.mem_iff_getElem.mp z
  exact h j (by rw [List.getElem?_eq_getElem hj,e])
 refine ⟨?_,hn⟩
 unfold valV
 rw [List.find?_eq_none.mpr]
 · rfl
 · intro p hp
   obtain ⟨x,hx,rfl⟩:=List.mem_map.mp hp
   simp only [decide_eq_true_iff]
   exact fun z=>hn (z ▸ List.mem_map_of_mem hx)
section
variable {X:Cx}{pins:List (Addr×Obj)}{σ:St} {H:Hp}{s:Shared}{a:Addr}{t:Tr}{y v:V}{u r:Value}{A:Around}{E:Value→Shared→Prop}{kvs:List (Tr×V)}{m:List (Tr×V×V)}
theorem au4 (I:Inv X pins σ H s) (e2:DtE X.w.params H a m) (e3:∀ x∈m,x.1.At H x.2.1 []∧x.1.h≤8) (e4:(m.map (·.1)).Nodup) :
 ∃ o es ep,s.heap.get? a=some o∧o.ExactDict∧o.data=.dict es ep∧DtR X.w.params m es∧Ents X.w.params s.heap es (m.map (·.1))∧m.length≤sizeLine∧(a == sysModules)=false:=by
 obtain ⟨φ,e2,hφ⟩:=e2
 obtain ⟨z1,z2,o,es,ep,q1,q2,q3,q4⟩:=hφ _ (I.hok a _ e2).1
 refine ⟨o,es,ep,q1,q2,q3,q4,⟨by rw [q4.len,List.length_map],fun j e he=>?_,e4⟩,z1,z2⟩
 have hj:j<m.length:=by rw [← q4.len]; exact (Array.getElem?_eq_some_iff.mp he).1
 obtain ⟨e',f1,f2,f3,f4⟩:=q4.at_ j m[j] (List.getElem?_eq_getElem hj)
 rw [he] at f1
 cases f1
 have:=e3 m[j] (List.getElem_mem hj)
 exact ⟨m[j].1,by rw [List.getElem?_map,List.getElem?_eq_getElem hj]; rfl,f2,this.1.isIn I f3,this.2⟩
theorem bk4 {Q:Option Value→Shared→Prop}(hu:A.units+16<cLine) (I:Inv X pins σ H s) (g:DtAt X.w.params H a kvs) (hk:TK H t y) (ry:RelV y u) (h:∀ o s',Inv X pins σ H s'→RelO (valV kvs t) o→Q o s') :
 wpAny (model X.prog X.w) A (dictGet a u) Q E s:=by
 obtain ⟨m,rfl,e2,e3,e4⟩:=g
 obtain ⟨o,es,ep,q1,q2,q3,q4,q5,_⟩:=au4 I e2 e3 e4
 have hin:=hk.1.isIn I ry
 unfold dictGet
 try (with_reducible refine wpAny_holding ?_)
 refine wpAny_bind (hin.pyHash (by have:=hk.2; omega) fun n=>wpAny_bind (b65 (s:={ s with toks:=n }) q1 q3 q5 hin hk.2 hu (fun hn=>?_) fun j hj=>?_))
 · refine wpAny_pure (h _ _ (I.tok _) ?_)
   rw [(ar5 hn).1]
   exact True.intro
 · rw [List.getElem?_map] at hj
   obtain ⟨x,hx,rfl⟩:=Option.map_eq_some_iff.mp hj
   obtain ⟨en,f1,f2,f3,f4⟩:=q4.at_ j x hx
   refine wpAny_bind (wpAny_dictEntries (s:={ s with toks:=n }) q1 q3 ?_)
   rw [f1]
   refine wpAny_pure (h _ _ (I.tok _) ?_)
   rw [be4 e4 hx]
   exact f4
theorem be5 {P:Params}{es:Array DictEntry}{e:DictEntry}(x:DtR P m es) (h1:e.hash=t.hash P) (h2:RelV y e.key) (h3:RelV v e.val):DtR P (m++[(t,y,v)]) (es.push e):=by
 refine ⟨by simp [x.len],fun j z hz=>?_⟩
 by_cases hj:j<m.length
 · rw [List.getElem?_append_left hj] at hz
   obtain ⟨e',f1,f2⟩:=x.at_ j z hz
   exact ⟨e',by rw [Array.getElem?_push,if_neg (by rw [x.len]; omega)]; exact f1,f2⟩
 · rw [List.getElem?_append_right (by omega)] at hz
   have hj2:j - m.length=0:=by
    refine Nat.eq_zero_of_not_pos fun z=>?_
    rw [List.getElem?_eq_none (by simp; omega)] at hz
    cases hz
   rw [hj2] at hz
   cases hz
   exact ⟨e,by rw [Array.getElem?_push,if_pos (by rw [x.len]; omega)],h1,h2,h3⟩
theorem bq7 {P:Params}{es:Array DictEntry}{j:Nat}{x:Tr×V×V}(R:DtR P m es) (hn:(m.map (·.1)).Nodup) (hx:m[j]?=some x) (h3:RelV v r) :
 DtR P (m.map fun z=>if z.1=x.1 then (z.1,z.2.1,v) else z) (es.modify j fun e=>{ e with val:=r }):=by
 refine ⟨by simp [R.len],fun i z hz=>?_⟩
 rw [List.getElem?_map] at hz
 obtain ⟨z0,hz0,rfl⟩:=Option.map_eq_some_iff.mp hz
 obtain ⟨e',f1,f2,f3,f4⟩:=R.at_ i z0 hz0
 have hi:i<es.size:=(Array.getElem?_eq_some_iff.mp f1).1
 rw [Array.getElem?_modify,f1]
 by_cases hij:j=i
 · subst hij
   rw [hz0] at hx
   cases hx
   rw [if_pos rfl,if_pos rfl]
   exact ⟨_,rfl,f2,f3,h3⟩
 · rw [if_neg hij,if_neg]
   · exact ⟨_,rfl,f2,f3,f4⟩
   · intro e
     have pw:=List.pairwise_iff_getElem.mp hn
     obtain ⟨l1,g1⟩:=List.getElem?_eq_some_iff.mp hx
     obtain ⟨l2,g2⟩:=List.getElem?_eq_some_iff.mp hz0
     rcases Nat.lt_trichotomy j i with h | h | h
     · exact pw j i (by simpa using l1) (by simpa using l2) h (by simp [g1,g2,e])
     · exact hij h
     · exact pw i j (by simpa using l2) (by simpa using l1) h (by simp [g1,g2,e])
theorem b66 {Q:Unit→Shared→Prop}(hu:A.units+16<cLine) (I:Inv X pins σ H s) (e2:DtE X.w.params H a m) (e3:∀ x∈m,x.1.At H x.2.1 []∧x.1.h≤8) (e4:(m.map (·.1)).Nodup) (hz:m.length<sizeLine)
 (hk:TK H t y) (ry:RelV y u) (rv:RelV v r) (h:∀ s',Inv X pins σ (upd H a (DtO X.w.params a (putM m t y v))) s'→Q () s') :
 wpAny (model X.prog X.w) A (dictSet a u r) Q E s:=by
 obtain ⟨o,es,ep,q1,q2,q3,q4,q5,z1,z2⟩:=au4 I e2 e3 e4
 have hin:=hk.1.isIn I ry
 have hl:(putM m t y v).length≤sizeLine:=by have:=be3 m t y v; omega
 unfold dictSet
 try (with_reducible refine wpAny_holding ?_)
 refine wpAny_bind (hin.pyHash (by have:=hk.2; omega) fun n=>?_)
 unfold dictSetHashed
 try (with_reducible refine wpAny_holding ?_)
 refine wpAny_bind (b65 (s:={ s with toks:=n }) q1 q3 q5 hin hk.2 hu (fun hn=>?_) fun j hj=>?_)
 · refine wpAny_bind (wpAny_rule (wpAny_updateDictKeys (s:={ s with toks:=n }) q1 q3 (h _ (b44 (I.tok n) e2.mut (Heap.SameBut.update ..) ?_ (ax5 ⟨hl,z2,_,_,ep+1,Heap.get?_update_self _ q1 (Obj.isFreed_of_dict (Obj.data_mapDictKeys q3 _)),q2.mapDictKeys _,Obj.data_mapDictKeys q3 _,?_⟩))) (by rw [q4.len]; omega)))
   · exact ⟨_,Heap.get?_update_self _ q1 (Obj.isFreed_of_dict (Obj.data_mapDictKeys q3 _))⟩
   · unfold putM
     rw [if_neg (ar5 hn).2]
     exact be5 q4 rfl ry rv
 · rw [List.getElem?_map] at hj
   obtain ⟨x,hx,rfl⟩:=Option.map_eq_some_iff.mp hj
   refine wpAny_bind (wpAny_rule (wpAny_bind (wpAny_updateDict (s:={ s with toks:=n }) q1 q3 (wpAny_point (h _ (b44 (I.tok n) e2.mut (Heap.SameBut.update ..) ?_ (ax5 ⟨hl,z2,_,_,ep,Heap.get?_update_self _ q1 (Obj.isFreed_of_dict (Obj.data_mapDict q3 _)),q2.mapDict _,Obj.data_mapDict q3 _,?_⟩)))))))
   · exact ⟨_,Heap.get?_update_self _ q1 (Obj.isFreed_of_dict (Obj.data_mapDict q3 _))⟩
   · unfold putM
     rw [if_pos (List.mem_map_of_mem (List.mem_of_getElem? hx))]
     exact bq7 q4 e4 hx rv
end
def RawD (h:Heap) (d:Addr) (es:Array DictEntry) (ep:Nat):Prop:=∃ o,h.get? d=some o∧o.ExactDict∧o.data=.dict es ep
theorem RawD.ty {s:Shared}{d:Addr}{es:Array DictEntry}{ep:Nat}(x:RawD s.heap d es ep):s.TypeIs (.ref d) "dict":=let ⟨o,e,c,_⟩:=x; ⟨o,e,c.1⟩
section
variable {prog:Program}{w:World}{A:Around}{E:Value→Shared→Prop}{s:Shared}{d it:Addr}{es:Array DictEntry}{ep i:Nat}
end
theorem b67:∀ {xs:List V}{us:List Value},xs.length=us.length→(∀ (j:Nat) x u,xs[j]?=some x→us[j]?=some u→RelV x u)→Vals xs us
 | [],[],_,_=>.nil
 | x::xs,u::us,hl,h=>.cons (h 0 x u rfl rfl) (b67 (by simpa using hl) fun j y z hy hz=>h (j+1) y z (by simpa using hy) (by simpa using hz))
 | [],_::_,hl,_=>by simp at hl
 | _::_,[],hl,_=>by simp at hl
section
variable {X:Cx}{pins:List (Addr×Obj)}{σ:St} {H:Hp}{s:Shared}{a:Addr}{t:Tr}{y v z:V}{u r:Value}{A:Around}{E:Value→Shared→Prop}{kvs:List (Tr×V)}{m:List (Tr×V×V)}
theorem ax6 (I:Inv X pins σ H s) (g:DtAt X.w.params H a kvs):∃ es ep,RawD s.heap a es ep∧(a == sysModules)=false∧es.size=kvs.length∧kvs.length≤sizeLine:=by
 obtain ⟨m,rfl,e2,e3,e4⟩:=g
 obtain ⟨o,es,ep,q1,q2,q3,q4,q5,z1,z2⟩:=au4 I e2 e3 e4
 exact ⟨es,ep,⟨o,q1,q2,q3⟩,z2,by rw [q4.len,List.length_map],by rw [List.length_map]; exact z1⟩
theorem b12 {Q:Value→Shared→Prop}(hu:A.units+20<cLine) (I:Inv X pins σ H s) (g:DtAt X.w.params H a kvs) (hk:TK H t y) (ry:RelV y u) (hv:valV kvs t=some v) (h:∀ w' s',Inv X pins σ H s'→RelV v w'→Q w' s') :
 wpAny (model X.prog X.w) A (getItem (.ref a) u) Q E s:=by
 obtain ⟨_,_,x,_,_,_⟩:=ax6 I g
 have T:=x.ty
 unfold getItem
 try (with_reducible refine wpAny_holding ?_)
 refine wpAny_bind (wpAny_sequenceKey T (by decide) (wpAny_bind (wpAny_callSpecial?_slot (name:=Str.ofString "__getitem__") T slot_dict_getitem (wpAny_call_entry slot_dict_getitem T entry_dict_getitem ?_ (args_dict_getitem _ _)))))
 show wpAny _ A.in1 (dictGet a u >>= _) _ _ s
 refine wpAny_bind (bk4 (by rw [a33]; omega) I g hk ry fun o s' I' ro=>?_)
 rw [hv] at ro
 obtain ⟨w',rfl,rw'⟩:=ro.some_of
 exact wpAny_pure ⟨w',rfl,wpAny_pure (h w' s' I' rw')⟩
theorem au5 {Q:Bool→Shared→Prop}(hu:A.units+20<cLine) (I:Inv X pins σ H s) (g:DtAt X.w.params H a kvs) (hk:TK H t y) (ry:RelV y u) (h:∀ s',Inv X pins σ H s'→Q (valV kvs t).isSome s') :
 wpAny (model X.prog X.w) A (contains (.ref a) u) Q E s:=by
 obtain ⟨_,_,x,lo,_,_⟩:=ax6 I g
 have T:=x.ty
 unfold contains
 try (with_reducible refine wpAny_holding ?_)
 refine wpAny_bind (wpAny_specialOf T slot_dict_contains.lookup ?_)
 show wpAny _ A (if (some (Value.builtin "dict.__contains__") == some Value.none)=true then _ else _) _ E s
 rw [if_neg (by rw [beq_builtin_none]; simp)]
 refine wpAny_bind (wpAny_callSpecialUnlessNone?_slot (name:=Str.ofString "__contains__") T slot_dict_contains (wpAny_call_entry slot_dict_contains T entry_dict_contains ?_ (args_dict_contains _ _)))
 show wpAny _ A.in1 (dictGet a u >>= _) _ _ s
 refine wpAny_bind (bk4 (by rw [a33]; omega) I g hk ry fun o s' I' ro=>?_)
 have h:=h s' I'
 rw [ro.isSome_eq] at h
 cases o with
 | some w'=>exact (show wpAny _ _ (ret (.bool true)) _ _ _ from wpAny_pure ⟨_,rfl,wpAny_truthy_bool h⟩)
 | none=>exact (show wpAny _ _ (Builtin.Dict.pendingKey? a u >>= _) _ _ _ from wpAny_bind (wpAny_pendingKey_other lo (wpAny_pure ⟨_,rfl,wpAny_truthy_bool h⟩)))
theorem cc1 {Q:Value→Shared→Prop}(hu:A.units+20<cLine) (I:Inv X pins σ H s) (g:DtAt X.w.params H a kvs) (hk:TK H t y) (ry:RelV y u) (h:∀ s',Inv X pins σ H s'→Q (.bool (valV kvs t).isSome) s') :
 wpAny (model X.prog X.w) A (compareOp .In u (.ref a)) Q E s :=
 (show wpAny _ _ (do return .bool (← contains (.ref a) u)) Q E s from wpAny_bind (au5 hu I g hk ry fun s' I'=>wpAny_pure (h s' I')))
theorem b13 {Q:Unit→Shared→Prop}(hu:A.units+20<cLine) (I:Inv X pins σ H s) (e2:DtE X.w.params H a m) (e3:∀ x∈m,x.1.At H x.2.1 []∧x.1.h≤8) (e4:(m.map (·.1)).Nodup) (hz:m.length<sizeLine)
 (hk:TK H t y) (ry:RelV y u) (rv:RelV v r) (h:∀ s',Inv X pins σ (upd H a (DtO X.w.params a (putM m t y v))) s'→Q () s'):wpAny (model X.prog X.w) A (setItem (.ref a) u r) Q E s:=by
 obtain ⟨_,_,x,lo,_,_⟩:=ax6 I ⟨m,rfl,e2,e3,e4⟩
 have T:=x.ty
 unfold setItem
 try (with_reducible refine wpAny_holding ?_)
 refine wpAny_bind (wpAny_sequenceKey T (by decide) (wpAny_bind (wpAny_callSpecial?_slot (name:=Str.ofString "__setitem__") T slot_dict_setitem (wpAny_call_entry slot_dict_setitem T entry_dict_setitem ?_ (args_dict_setitem _ _ _)))))
 show wpAny _ A.in1 (Builtin.Dict.notOrdered "__setitem__" ⟨[.ref a,u,r],[]⟩ >>= _) _ _ s
 refine wpAny_bind (wpAny_notOrdered_dict T ?_)
 show wpAny _ A.in1 (dictSet a u r >>= _) _ _ s
 exact wpAny_bind (b66 (by rw [a33]; omega) I e2 e3 e4 hz hk ry rv fun s' I'=>wpAny_pure ⟨.none,rfl,wpAny_pure (h s' I')⟩)
end
theorem ar6 {H:Hp}{a:Addr}{φ:Heap→Prop} {o:HO}(h:H a=some (.ext φ)):Tups H (upd H a o):=fun b ys e=>by rw [a09 (aj8 e h (fun z=>nomatch z))]; exact e
theorem ac9 {H H':Hp}{t:Tr}{v:V}(h:t.At H v []) (k:Tups H H'):t.At H' v []:=h.mono ⟨k,fun _ m=>absurd m (by simp)⟩
theorem TK.mono {H H':Hp}{t:Tr}{v:V}(h:TK H t v) (k:Tups H H'):TK H' t v:=⟨ac9 h.1 k,h.2⟩
theorem DtAt.ext {P:Params}{H:Hp}{a:Addr}{kvs:List (Tr×V)}(g:DtAt P H a kvs):∃ φ,H a=some (.ext φ):=let ⟨_,_,⟨φ,e,_⟩,_⟩:=g; ⟨φ,e⟩
theorem DtAt.mono {P:Params}{H H':Hp}{a:Addr}{kvs:List (Tr×V)}(g:DtAt P H a kvs) (k:Tups H H') (e:H' a=H a):DtAt P H' a kvs:=by
 obtain ⟨m,e1,⟨φ,e2,hφ⟩,e3,e4⟩:=g
 exact ⟨m,e1,⟨φ,e.trans e2,hφ⟩,fun x hx=>⟨ac9 (e3 x hx).1 k,(e3 x hx).2⟩,e4⟩
theorem au6 {P:Params}{H:Hp}{a:Addr}{m:List (Tr×V×V)}{t:Tr}{y v:V}(e2:DtE P H a m) (e3:∀ x∈m,x.1.At H x.2.1 []∧x.1.h≤8) (e4:(m.map (·.1)).Nodup) (hk:TK H t y) :
 DtAt P (upd H a (DtO P a (putM m t y v))) a (putK (m.map fun x=>(x.1,x.2.2)) t v):=by
 obtain ⟨φ,e2,hφ⟩:=e2
 refine ⟨_,be1 m t y v,.of a17,?_,bq6 t y v e4⟩
 exact be2 (p:=fun t y=>t.At (upd H a (DtO P a (putM m _ _ _))) y []∧t.h≤8) (fun x hx=>⟨ac9 (e3 x hx).1 (ar6 e2),(e3 x hx).2⟩) ⟨ac9 hk.1 (ar6 e2),hk.2⟩
def c41 (P:Params) (td ty:TE):TE:=fun σ H Q=>td σ H fun x H1=>ty σ H1 fun y H2=>∃ a kvs t v,x=.ref a∧DtAt P H2 a kvs∧TK H2 t y∧valV kvs t=some v∧Q v H2
def tTIn (P:Params) (ty td:TE):TE:=fun σ H Q=>ty σ H fun y H1=>td σ H1 fun x H2=>∃ a kvs t,x=.ref a∧DtAt P H2 a kvs∧TK H2 t y∧Q (.bl (valV kvs t).isSome) H2
def c42 (P:Params) (td ty tv:TE):TS:=fun D σ H=>tv σ H fun v H1=>td σ H1 fun x H2=>ty σ H2 fun y H3=>∃ a kvs t,x=.ref a∧DtAt P H3 a kvs∧TK H3 t y∧kvs.length<sizeLine∧∀ o,DtAt P (upd H3 a o) a (putK kvs t v)→D.nx σ (upd H3 a o)
section
variable {X:Cx}{o i e f value:Expr}{pos pos' apos cpos:Pos}{td ty tv tx:TE}{P:Params}
theorem b68 (h:Heap) (P:Params) (hb:sysModules<h.objs.size):DtP P h.objs.size [] (h.push { cls:=.type "dict",data:=.dict #[] }) :=
 ⟨Nat.zero_le _,beq_eq_false_iff_ne.mpr (Ne.symm (Nat.ne_of_lt hb)),_,#[],0,Heap.get?_push_size _ rfl,⟨rfl,rfl,rfl⟩,rfl,rfl,fun j x hx=>by simp at hx⟩
theorem bq8 (hP:X.w.params=P) (hu:X.A.units+64<cLine) (ho:PE X o td) (hi:PE X i ty) (hs:NoSl i):PE X (.Subscript o i pos) (c41 P td ty):=by
 subst hP
 intro pins s σ H Q I h
 refine bo8 PySem.F.slot_dict_getitem.lookup hs (thn (ho pins s σ H _ I h) ?_)
 rintro u s1 ⟨x,H1,I1,rx,q1⟩
 refine thn (hi pins s1 σ H1 _ I1 q1) ?_
 rintro iv s2 ⟨y,H2,I2,ry,a,kvs,t,v,ex,g,hk,hv,q2⟩
 subst ex
 obtain rfl:u=Value.ref a:=rx
 obtain ⟨_,_,x,_⟩:=ax6 I2 g
 exact ⟨x.ty,b12 (by omega) I2 g hk ry hv fun w' s3 I3 rw'=>⟨v,H2,I3,rw',q2⟩⟩
theorem c43 (hP:X.w.params=P) (hu:X.A.units+64<cLine) (hi:PE X i ty) (ho:PE X o td):PC X .In i o (tTIn P ty td):=by
 subst hP
 intro pins s σ H Q I h
 refine thn (hi pins s σ H _ I h) ?_
 rintro iv s1 ⟨y,H1,I1,ry,q1⟩
 refine thn (ho pins s1 σ H1 _ I1 q1) ?_
 rintro u s2 ⟨x,H2,I2,rx,a,kvs,t,ex,g,hk,q2⟩
 subst ex
 obtain rfl:u=Value.ref a:=rx
 exact cc1 (by omega) I2 g hk ry fun s3 I3=>⟨.bl _,H2,I3,rfl,q2⟩
theorem bq9 (hP:X.w.params=P) (hu:X.A.units+64<cLine) (ho:PE X o td) (hi:PE X i ty) (hv:PE X value tv) (hs:swapsWith value (some (.Subscript o i pos')) pos.line X.env=pure false) :
 PS X (.Assign [.Subscript o i pos'] value pos) (c42 P td ty tv):=by
 subst hP
 intro pins s σ H D I h
 refine wpAny_Assign_Subscript (thn (hv pins s σ H _ I h) ?_) hs
 rintro r s1 ⟨v,H1,I1,rv,q1⟩
 refine thn (ho pins s1 σ H1 _ I1 q1) ?_
 rintro u s2 ⟨x,H2,I2,rx,q2⟩
 refine thn (hi pins s2 σ H2 _ I2 q2) ?_
 rintro iv s3 ⟨y,H3,I3,ry,a,kvs,t,ex,g,hk,hz,q3⟩
 subst ex
 obtain rfl:u=Value.ref a:=rx
 obtain ⟨m,rfl,e2,e3,e4⟩:=g
 rw [List.length_map] at hz
 exact b13 (by omega) I3 e2 e3 e4 hz hk ry rv fun s4 I4=>⟨σ,_,I4,q3 _ (au6 e2 e3 e4 hk)⟩
end
def rSum (K:PySem.W.Frag):List V→Hp→VK→Prop:=fun xs H Q=>∃ (a:Addr) (ns:List Int),xs=[.ref a]∧SqL K H a (ns.map V.int)∧Q (.int ns.sum) H
section
variable {X:Cx}
theorem Tr.In.rcAt {s:Shared}{t r:Tr}{A:Around}{u z:Value}(h1:Tr.In s.heap t u) (h2:Tr.In s.heap r z) (hu:A.units+t.h+r.h+2<cLine):SeqAt.RcAt A s u z (decide (t=r)):=by
 cases t with
 | lst _=>exact h1.elim
 | non =>
   simp only [Tr.In] at h1
   subst h1
   cases r with
   | lst _=>exact h2.elim
   | non=>simp only [Tr.In] at h2; subst h2; rw [decide_eq_true rfl]; exact SeqAt.RcAt.none_none
   | int j =>
     rw [decide_eq_false (by simp)]
     rcases h2 with ⟨t2,rfl⟩ | ⟨b2,rfl,rfl⟩
     · exact SeqAt.RcAt.none_int _ _
     · exact SeqAt.RcAt.none_bool _
   | str j=>obtain ⟨t2,rfl⟩:=h2; rw [decide_eq_false (by simp)]; exact SeqAt.RcAt.none_str _ _
   | tup rs=>simp only [Tr.In] at h2; obtain ⟨b,vs,rfl,p,_⟩:=h2; rw [decide_eq_false (by simp)]; exact SeqAt.RcAt.none_tuple p (by omega)
 | int i =>
   cases r with
   | lst _=>exact h2.elim
   | non =>
     simp only [Tr.In] at h2
     subst h2
     rw [decide_eq_false (by simp)]
     rcases h1 with ⟨t1,rfl⟩ | ⟨b1,rfl,rfl⟩
     · exact SeqAt.RcAt.int_none _ _
     · exact SeqAt.RcAt.bool_none _
   | int j =>
     rw [show decide (Tr.int i=Tr.int j)=(i == j) from Bool.eq_iff_iff.mpr (by simp)]
     rcases h1 with ⟨t1,rfl⟩ | ⟨b1,rfl,rfl⟩
     · rcases h2 with ⟨t2,rfl⟩ | ⟨b2,rfl,rfl⟩
       · exact SeqAt.RcAt.int_int _ _ _ _
       · exact SeqAt.RcAt.int_bool _ _ _
     · rcases h2 with ⟨t2,rfl⟩ | ⟨b2,rfl,rfl⟩
       · exact SeqAt.RcAt.bool_int _ _ _
       · have:=SeqAt.RcAt.bool_bool (A:=A) (s:=s) b1 b2
         cases b1 <;> cases b2 <;> exact this
   | str j =>
     obtain ⟨t2,rfl⟩:=h2
     rw [decide_eq_false (by simp)]
     rcases h1 with ⟨t1,rfl⟩ | ⟨b1,rfl,rfl⟩
     · exact SeqAt.RcAt.int_str _ _ _ _
     · exact SeqAt.RcAt.bool_str _ _ _
   | tup rs =>
     simp only [Tr.In] at h2
     obtain ⟨b,vs,rfl,p,_⟩:=h2
     rw [decide_eq_false (by simp)]
     rcases h1 with ⟨t1,rfl⟩ | ⟨b1,rfl,rfl⟩
     · exact SeqAt.RcAt.int_tuple _ _ p (by omega)
     · exact SeqAt.RcAt.bool_tuple _ p (by omega)
 | str i =>
   obtain ⟨t1,rfl⟩:=h1
   cases r with
   | lst _=>exact h2.elim
   | non=>simp only [Tr.In] at h2; subst h2; rw [decide_eq_false (by simp)]; exact SeqAt.RcAt.str_none _ _
   | int j =>
     rw [decide_eq_false (by simp)]
     rcases h2 with ⟨t2,rfl⟩ | ⟨b2,rfl,rfl⟩
     · exact SeqAt.RcAt.str_int _ _ _ _
     · exact SeqAt.RcAt.str_bool _ _ _
   | str j =>
     obtain ⟨t2,rfl⟩:=h2
     have:=SeqAt.RcAt.str_str (A:=A) (s:=s) i t1 j t2
     rw [show (i == j)=decide (Tr.str i=Tr.str j) from Bool.eq_iff_iff.mpr (by simp)] at this
     exact this
   | tup rs=>simp only [Tr.In] at h2; obtain ⟨b,vs,rfl,p,_⟩:=h2; rw [decide_eq_false (by simp)]; exact SeqAt.RcAt.str_tuple _ _ p (by omega)
 | tup ts =>
   simp only [Tr.In] at h1
   obtain ⟨a,us,rfl,p1,c1⟩:=h1
   cases r with
   | lst _=>exact h2.elim
   | non=>simp only [Tr.In] at h2; subst h2; rw [decide_eq_false (by simp)]; exact SeqAt.RcAt.tuple_none p1 (by omega)
   | int j =>
     rw [decide_eq_false (by simp)]
     rcases h2 with ⟨t2,rfl⟩ | ⟨b2,rfl,rfl⟩
     · exact SeqAt.RcAt.tuple_int _ _ p1 (by omega)
     · exact SeqAt.RcAt.tuple_bool _ p1 (by omega)
   | str j=>obtain ⟨t2,rfl⟩:=h2; rw [decide_eq_false (by simp)]; exact SeqAt.RcAt.tuple_str _ _ p1 (by omega)
   | tup rs =>
     simp only [Tr.In] at h2
     obtain ⟨b,vs,rfl,p2,c2⟩:=h2
     simp only [Tr.h] at hu
     have l1:=c1.len
     have l2:=c2.len
     simp only [Array.length_toList] at l1 l2
     have:=SeqAt.RcAt.tuples (A:=A) (s:=s) (e:=fun j=>decide (ts.getD j .non=rs.getD j .non)) p1 p2 (by omega) (fun j h1 h2=>by
      have:=Tr.Ins.eqAts (A:=A.in1) c1 c2 (by rw [a33]; omega) j (by simpa using h1) (by simpa using h2)
      simpa using this)
     rw [l1,l2,bk3] at this
     rw [show decide (Tr.tup ts=Tr.tup rs)=decide (ts=rs) from Bool.eq_iff_iff.mpr (by simp)]
     exact this
theorem c44 (hc:X.calm=true):CallR X (.builtin "sum") (rSum X.K):=by
 intro pins s σ H xs us Q I r h
 obtain ⟨a,ns,rfl,hS,q⟩:=h
 cases r with
 | cons r1 r2 =>
 cases r2
 cases r1
 obtain ⟨its,v1,p1,_⟩:=I.list hS
 have hi:=b05 v1
 obtain ⟨ys,e⟩:=hi.allInts.items
 have hn:=nums_intItems (xs:=ys)
 rw [← e,show its.toArray.toList=its from rfl,hi.numsOf] at hn
 refine sum_intListG (xs:=ys) (I.ok.hd hc) (e ▸ p1.isList) fun h' tk t' hk=>⟨.int ns.sum,H,I.kept hk,⟨t',?_⟩,q⟩
 rw [preSum_eq,List.take_of_length_le (by simp),hn]
end
section
variable {P:Params}{σ:St} {H:Hp}{Q:VK}{td ty tx tv:TE}{nn bb cc:St→Hp→Prop}{rr:VK}
theorem c45 (h:td σ H fun x H1=>ty σ H1 fun y H2=>∃ a kvs t v,x=.ref a∧DtAt P H2 a kvs∧TK H2 t y∧valV kvs t=some v∧Q v H2):c41 P td ty σ H Q:=h
theorem cc2 (h:ty σ H fun y H1=>td σ H1 fun x H2=>∃ a kvs t,x=.ref a∧DtAt P H2 a kvs∧TK H2 t y∧Q (.bl (valV kvs t).isSome) H2):tTIn P ty td σ H Q:=h
theorem c46 (h:tv σ H fun v H1=>td σ H1 fun x H2=>ty σ H2 fun y H3=>∃ a kvs t,x=.ref a∧DtAt P H3 a kvs∧TK H3 t y∧kvs.length<sizeLine∧∀ o,DtAt P (upd H3 a o) a (putK kvs t v)→nn σ (upd H3 a o)):c42 P td ty tv ⟨nn,rr,bb,cc⟩ σ H:=h
end
def bk5 (K:PySem.W.Frag):R2:=fun x y H Q=>∃ a b xs,x=.ref a∧y=.ref b∧SqL K H a xs∧SqL K H b []∧Q (.bl xs.isEmpty) H
section
variable {X:Cx}
theorem b69 (K:PySem.W.Frag) (hu:X.A.units+64<cLine) (hK:X.K=K:=by rfl):OpR X (compareOp .Eq) (bk5 K):=by
 subst hK
 intro pins s σ H x y v u Q I rx ry h
 obtain ⟨a,b,xs,rfl,rfl,h1,h2,q⟩:=h
 cases rx
 cases ry
 obtain ⟨is1,q1,p1,_⟩:=I.list h1
 obtain ⟨is2,q2,p2,_⟩:=I.list h2
 cases q2
 cases q1 with
 | nil =>
   have:=SeqAt.RcAt.lists (A:=X.A) (s:=s) (e:=fun _=>true) p1.isList p2.isList rfl (by omega) (fun j h1 _=>absurd h1 (by simp))
   exact this X.prog X.w X.xe (EP X pins σ Q) ⟨.bl true,H,I,rfl,q⟩
 | cons r1 r2 =>
   have:=SeqAt.RcAt.lists_lengths (A:=X.A) (s:=s) p1.isList p2.isList (by simp) (by omega)
   exact this X.prog X.w X.xe (EP X pins σ Q) ⟨.bl false,H,I,rfl,q⟩
theorem an3 (K:PySem.W.Frag) (h:X.calm=true:=by rfl) (hK:X.K=K:=by rfl):CallR X (.builtin "sum") (rSum K):=hK ▸ c44 h
end
section
variable {K:PySem.W.Frag}{H:Hp}{Q:VK}
theorem br0 {a b:Addr}{xs:List V}(h1:SqL K H a xs) (h2:SqL K H b []) (h:Q (.bl xs.isEmpty) H):bk5 K (.ref a) (.ref b) H Q:=⟨a,b,xs,rfl,rfl,h1,h2,h⟩
theorem be6 {a:Addr}{ns:List Int}(h1:SqL K H a (ns.map V.int)) (h:Q (.int ns.sum) H):rSum K [.ref a] H Q:=⟨a,ns,rfl,h1,h⟩
end
def Off (d l:Addr) (H H':Hp):Prop:=∀ b o,b≠d→b≠l→H b=some o→H' b=some o
structure Deck (H:Hp) (d l:Addr) (n:Nat):Prop where
 ex:∃ (ms:List Int) (z:Int),H d=some (.lst [.ref l,.int (n:Nat),.int z])∧H l=some (.lst (ms.map V.int))∧ms.length≤100
theorem Deck.ne {H:Hp}{d l:Addr}{n:Nat}(k:Deck H d l n):d≠l:=by
 obtain ⟨ms,z,h1,h2,_⟩:=k.ex
 rintro rfl
 rw [h1] at h2
 injection h2 with h2
 injection h2 with h2
 cases ms with
 | nil=>simp at h2
 | cons m ms=>simp at h2
theorem Off.trans {d l:Addr}{H H1 H2:Hp}(a:Off d l H H1) (b:Off d l H1 H2):Off d l H H2:=fun c o h1 h2 e=>b c o h1 h2 (a c o h1 h2 e)
theorem Same.off {d l:Addr}{H H':Hp}(s:Same H H'):Off d l H H':=fun b o _ _ e=>s b o e
theorem Off.tups {d l:Addr}{H H':Hp}{n:Nat}(f:Off d l H H') (k:Deck H d l n):Tups H H':=fun b ys e=>by
 obtain ⟨ms,z,h1,h2,_⟩:=k.ex
 exact f b _ (aj8 e h1 (fun z=>nomatch z)) (aj8 e h2 (fun z=>nomatch z)) e
theorem Deck.same {H H':Hp}{d l:Addr}{n:Nat}(k:Deck H d l n) (s:Same H H'):Deck H' d l n:=by
 obtain ⟨ms,z,h1,h2,h3⟩:=k.ex
 exact ⟨ms,z,s _ _ h1,s _ _ h2,h3⟩
theorem Deck.new {H:Hp}{d l p:Addr}{n:Nat}(k:Deck H d l n) (h:H p=none):p≠d∧p≠l:=by
 obtain ⟨ms,z,h1,h2,_⟩:=k.ex
 exact ⟨(a27 h1 h).symm,(a27 h2 h).symm⟩
section
variable {X:Cx}{o e value:Expr}{f:Str}{pos pos':Pos}{ta tv:TE}
theorem a47 (K:PySem.W.Frag) (he:PE X e ta) (hb:attributeBase e f X.env (eval e X.env)=eval e X.env) (hK:X.K=K:=by rfl):PE X (.Attribute e f pos) (tFld K ta f):=hK ▸ by5 he hb
theorem ai1 (K:PySem.W.Frag) (ha:PE X o ta) (hv:PE X value tv) (hs:swapsWith value (some (.Attribute o f pos')) pos.line X.env=pure false) (hK:X.K=K:=by rfl):PS X (.Assign [.Attribute o f pos'] value pos) (sFld K ta tv f):=hK ▸ by6 ha hv hs
end
section
variable {K:PySem.W.Frag}{σ:St} {H:Hp}{Q:VK}{ta tv:TE}{t:TA}{f m:Str}{C:Addr}{sp:Sp}{dvs:List V}{E:XK}{nn bb cc:St→Hp→Prop}{rr:VK}
theorem cc3 (h:ta σ H fun x H1=>∃ a C dx fs v,x=.ref a∧H1 a=some (.ins C dx fs)∧Cls K C∧NoAttr K C f∧fs.lookup f=some v∧Q v H1):tFld K ta f σ H Q:=h
theorem c47 (h:tv σ H fun y H1=>ta σ H1 fun x H2=>∃ a C dx fs,x=.ref a∧H2 a=some (.ins C dx fs)∧Cls K C∧NoAttr K C f∧fs.length<1000∧nn σ (upd H2 a (.ins C dx (putF f y fs)))):sFld K ta tv f ⟨nn,rr,bb,cc⟩ σ H:=h
theorem c48 (h:ta σ H fun x H1=>∃ a dx fs,x=.ref a∧H1 a=some (.ins C dx fs)∧fs.lookup m=none∧t σ H1 fun vs H2=>sp (x::(vs++dvs)) H2 Q E):bo2 C m sp dvs E ta t σ H Q:=h
theorem c49 (h:t σ H fun vs H1=>∀ x dx,H1 x=none→H1 dx=none→dx≠x→sp (.ref x::(vs++dvs)) (upd (upd H1 dx (.own x)) x (.ins C dx [])) (fun v H2=>v=.non∧Q (.ref x) H2) E):by8 C sp dvs E t σ H Q:=h
end
theorem b70 {H:Hp}{a C dx:Addr}{fs:List (Str×V)}{o:HO}(h:H a=some (.ins C dx fs)):Tups H (upd H a o):=fun b ys e=>by rw [a09 (aj8 e h (fun z=>nomatch z))]; exact e
inductive Tw where
 | sc (v:V)
 | tup (xs:List Tw)
 | lst (xs:List Tw)
def Scal:V→Prop
 | .non | .int _ | .str _ | .bl _=>True
 | _=>False
mutual
def Tw.At (H:Hp):Tw→V→List Addr→Prop
 | .sc x,v,fs=>v=x∧Scal x∧fs=[]
 | .tup xs,v,fs=>∃ a vs,v=.ref a∧H a=some (.tup vs)∧Tw.Ats H xs vs fs
 | .lst xs,v,fs=>∃ a vs gs,v=.ref a∧H a=some (.lst vs)∧Tw.Ats H xs vs gs∧fs=a::gs
def Tw.Ats (H:Hp):List Tw→List V→List Addr→Prop
 | [],vs,fs=>vs=[]∧fs=[]
 | x::xs,vs,fs=>∃ v ws f g,vs=v::ws∧fs=f++g∧Tw.At H x v f∧Tw.Ats H xs ws g
end
mutual
theorem Tw.At.mono {H H':Hp}:∀ {x:Tw}{v:V}{fs:List Addr},x.At H v fs→Keep fs H H'→x.At H' v fs
 | .sc _,_,_,h,_=>by simpa only [Tw.At] using h
 | .tup xs,v,fs,h,k=>by
   simp only [Tw.At] at h ⊢
   obtain ⟨a,vs,e,g,r⟩:=h
   exact ⟨a,vs,e,k.1 _ _ g,Tw.Ats.mono r k⟩
 | .lst xs,v,fs,h,k=>by
   simp only [Tw.At] at h ⊢
   obtain ⟨a,vs,gs,e,g,r,rfl⟩:=h
   exact ⟨a,vs,gs,e,k.2 _ (by simp) _ g,Tw.Ats.mono r (k.sub fun b m=>by simp [m]),rfl⟩
theorem Tw.Ats.mono {H H':Hp}:∀ {xs:List Tw}{vs:List V}{fs:List Addr},Tw.Ats H xs vs fs→Keep fs H H'→Tw.Ats H' xs vs fs
 | [],_,_,h,_=>by simpa only [Tw.Ats] using h
 | x::xs,vs,fs,h,k=>by
   simp only [Tw.Ats] at h ⊢
   obtain ⟨v,ws,f,g,e,rfl,a,b⟩:=h
   exact ⟨v,ws,f,g,e,rfl,Tw.At.mono a (k.sub fun c m=>by simp [m]),Tw.Ats.mono b (k.sub fun c m=>by simp [m])⟩
end
theorem Tw.Ats.same {H H':Hp}{xs:List Tw}{vs:List V}{fs:List Addr}(h:Tw.Ats H xs vs fs) (s:Same H H'):Tw.Ats H' xs vs fs:=h.mono (s.keep _)
theorem Tw.Ats.len {H:Hp}:∀ {xs:List Tw}{vs:List V}{fs:List Addr},Tw.Ats H xs vs fs→vs.length=xs.length
 | [],vs,fs,h=>by simp only [Tw.Ats] at h; rw [h.1]; rfl
 | x::xs,vs,fs,h=>by
   simp only [Tw.Ats] at h
   obtain ⟨v,ws,f,g,rfl,rfl,_,b⟩:=h
   simp [b.len]
theorem Tw.Ats.snoc {H:Hp}:∀ {xs:List Tw}{vs:List V}{fs gs:List Addr}{x:Tw}{v:V},Tw.Ats H xs vs fs→x.At H v gs→Tw.Ats H (xs++[x]) (vs++[v]) (fs++gs)
 | [],vs,fs,gs,x,v,h,a=>by
   simp only [Tw.Ats] at h
   obtain ⟨rfl,rfl⟩:=h
   simp only [List.nil_append,Tw.Ats]
   exact ⟨v,[],gs,[],rfl,by simp,a,rfl,rfl⟩
 | y::ys,vs,fs,gs,x,v,h,a=>by
   simp only [Tw.Ats,List.cons_append] at h ⊢
   obtain ⟨w,ws,f,g,rfl,rfl,b,c⟩:=h
   exact ⟨w,ws++[v],f,g++gs,rfl,by simp,b,c.snoc a⟩
mutual
def Tw.h:Tw→Nat
 | .sc _=>0
 | .tup xs=>Tw.hs xs+1
 | .lst xs=>Tw.hs xs+1
def Tw.hs:List Tw→Nat
 | []=>0
 | x::xs=>max x.h (Tw.hs xs)
end
theorem br1 {A:Around}{s:Shared}{x:V}{u z:Value}(h:Scal x) (r1:RelV x u) (r2:RelV x z):SeqAt.EqAt A s u z true:=by
 cases x with
 | non=>cases r1; cases r2; exact SeqAt.EqAt.same _
 | int i =>
   obtain ⟨t1,rfl⟩:=r1
   obtain ⟨t2,rfl⟩:=r2
   have:=SeqAt.EqAt.int_int (A:=A) (s:=s) i t1 i t2
   simpa using this
 | str i =>
   obtain ⟨t1,rfl⟩:=r1
   obtain ⟨t2,rfl⟩:=r2
   have:=SeqAt.EqAt.str_str (A:=A) (s:=s) i t1 i t2
   simpa using this
 | bl b =>
   cases (show u=Value.bool b from r1)
   cases (show z=Value.bool b from r2)
   exact SeqAt.EqAt.same _
 | _=>exact h.elim
section
variable {X:Cx}{pins:List (Addr×Obj)}{σ:St} {H:Hp}{s:Shared}
mutual
theorem Tw.eqAt (I:Inv X pins σ H s):∀ {t:Tw}{A:Around}{v w:V}{fs gs:List Addr}{u z:Value},t.At H v fs→t.At H w gs→RelV v u→RelV w z→A.units+t.h<cLine→SeqAt.EqAt A s u z true
 | .sc x,A,v,w,fs,gs,u,z,h1,h2,r1,r2,hu=>by
   simp only [Tw.At] at h1 h2
   obtain ⟨rfl,sc,-⟩:=h1
   obtain ⟨rfl,-,-⟩:=h2
   exact br1 sc r1 r2
 | .tup xs,A,v,w,fs,gs,u,z,h1,h2,r1,r2,hu=>by
   simp only [Tw.At] at h1 h2
   obtain ⟨a,vs,rfl,e1,c1⟩:=h1
   obtain ⟨b,ws,rfl,e2,c2⟩:=h2
   cases r1
   cases r2
   by_cases hab:a=b
   · subst hab
     exact SeqAt.EqAt.same _
   refine SeqAt.EqAt.of_refs hab ?_
   obtain ⟨is1,q1,p1,_⟩:=I.tuple (SqT.of e1)
   obtain ⟨is2,q2,p2,_⟩:=I.tuple (SqT.of e2)
   simp only [Tw.h] at hu
   have hl:is1.length=is2.length:=by rw [← q1.length,←q2.length,c1.len,c2.len]
   have:=SeqAt.RcAt.tuples (A:=A) (s:=s) (e:=fun _=>true) p1 p2 (by omega) (fun j h1 h2=>by
    have:=Tw.eqAts I (A:=A.in1) c1 c2 q1 q2 (by rw [a33]; omega) j (by simpa using h1) (by simpa using h2)
    simpa using this)
   simpa [hl,ax0] using this
 | .lst xs,A,v,w,fs,gs,u,z,h1,h2,r1,r2,hu=>by
   simp only [Tw.At] at h1 h2
   obtain ⟨a,vs,_,rfl,e1,c1,_⟩:=h1
   obtain ⟨b,ws,_,rfl,e2,c2,_⟩:=h2
   cases r1
   cases r2
   by_cases hab:a=b
   · subst hab
     exact SeqAt.EqAt.same _
   refine SeqAt.EqAt.of_refs hab ?_
   obtain ⟨is1,q1,p1,_⟩:=I.list (SqL.of e1)
   obtain ⟨is2,q2,p2,_⟩:=I.list (SqL.of e2)
   simp only [Tw.h] at hu
   have hl:is1.length=is2.length:=by rw [← q1.length,←q2.length,c1.len,c2.len]
   have:=SeqAt.RcAt.lists (A:=A) (s:=s) (e:=fun _=>true) p1.isList p2.isList (by simpa using hl) (by omega) (fun j h1 h2=>by
    have:=Tw.eqAts I (A:=A.in1) c1 c2 q1 q2 (by rw [a33]; omega) j (by simpa using h1) (by simpa using h2)
    simpa using this)
   simpa [ax0] using this
theorem Tw.eqAts (I:Inv X pins σ H s):∀ {ts:List Tw}{A:Around}{vs ws:List V}{fs gs:List Addr}{us zs:List Value},Tw.Ats H ts vs fs→Tw.Ats H ts ws gs→Vals vs us→Vals ws zs→A.units+Tw.hs ts<cLine →
 ∀ (j:Nat) (h1:j<us.length) (h2:j<zs.length),SeqAt.EqAt A s us[j] zs[j] true
 | [],A,vs,ws,fs,gs,us,zs,c1,c2,q1,q2,hu,j,h1,h2=>by
   simp only [Tw.Ats] at c1
   obtain ⟨rfl,-⟩:=c1
   cases q1
   exact absurd h1 (by simp)
 | t::ts,A,vs,ws,fs,gs,us,zs,c1,c2,q1,q2,hu,j,h1,h2=>by
   simp only [Tw.Ats] at c1 c2
   obtain ⟨v,vs,f,g,rfl,rfl,a1,b1⟩:=c1
   obtain ⟨w,ws,f',g',rfl,rfl,a2,b2⟩:=c2
   cases q1 with
   | cons r1 q1 =>
   cases q2 with
   | cons r2 q2 =>
   simp only [Tw.hs] at hu
   cases j with
   | zero=>exact Tw.eqAt I a1 a2 r1 r2 (by omega)
   | succ j=>exact Tw.eqAts I b1 b2 q1 q2 (by omega) j (by simpa using h1) (by simpa using h2)
end
def rNeW:R2:=fun x y H Q=>∃ t fs gs,(Tw.tup t).At H x fs∧(Tw.tup t).At H y gs∧Tw.hs t≤50∧Q (.bl false) H
theorem cc4 (I:Inv X pins σ H s) {A:Around}{t:List Tw}{x y:V}{v u:Value}{fs gs:List Addr}(rx:RelV x v) (ry:RelV y u) (h1:(Tw.tup t).At H x fs) (h2:(Tw.tup t).At H y gs) (hu:A.units+Tw.hs t+4<cLine):SeqAt.RcAt A s v u true∧SeqAt.RcNeAt A s v u false:=by
 simp only [Tw.At] at h1 h2
 obtain ⟨a,vs,rfl,e1,c1⟩:=h1
 obtain ⟨b,ws,rfl,e2,c2⟩:=h2
 cases rx
 cases ry
 obtain ⟨is1,q1,p1,_⟩:=I.tuple (SqT.of e1)
 obtain ⟨is2,q2,p2,_⟩:=I.tuple (SqT.of e2)
 have hl:is1.length=is2.length:=by rw [← q1.length,←q2.length,c1.len,c2.len]
 have hh:∀ (j:Nat) (h1:j<is1.toArray.size) (h2:j<is2.toArray.size),SeqAt.EqAt A.in1 s is1.toArray[j] is2.toArray[j] ((fun _=>true) j):=fun j h1 h2=>by
  have:=Tw.eqAts I (A:=A.in1) c1 c2 q1 q2 (by rw [a33]; omega) j (by simpa using h1) (by simpa using h2)
  simpa using this
 have k1:=SeqAt.RcAt.tuples (A:=A) (s:=s) (e:=fun _=>true) p1 p2 (by omega) hh
 have k2:=SeqAt.RcNeAt.tuples (A:=A) (s:=s) (e:=fun _=>true) p1 p2 (by omega) hh
 rw [show ((List.range (min is1.toArray.size is2.toArray.size)).all (fun _=>true) && is1.toArray.size == is2.toArray.size)=true by simp [hl]] at k1 k2
 exact ⟨k1,k2⟩
theorem br2 (hu:X.A.units+64<cLine):OpR X (compareOp .NotEq) rNeW:=by
 intro pins s σ H x y v u Q I rx ry h
 obtain ⟨t,fs,gs,h1,h2,hh,q⟩:=h
 exact (cc4 I rx ry h1 h2 (A:=X.A) (by omega)).2 X.prog X.w X.xe (EP X pins σ Q) ⟨.bl false,H,I,rfl,q⟩
theorem cc5 {H:Hp}{Q:VK}{x y:V}{t:List Tw}{fs gs:List Addr}(h1:(Tw.tup t).At H x fs) (h2:(Tw.tup t).At H y gs) (hh:Tw.hs t≤50) (h:Q (.bl false) H):rNeW x y H Q:=⟨t,fs,gs,h1,h2,hh,h⟩
end
def br3:List V→Hp→VK→Prop:=fun xs H Q=>∃ n:Nat,xs=[.int (n:Nat)]∧n≤1000000∧New H (.rng 0 (n:Nat)) Q
def bk6:List V→Hp→VK→Prop:=fun xs H Q=>∃ (a:Addr) (n:Nat),xs=[.ref a]∧H a=some (.rng 0 (n:Nat))∧n≤1000000∧New H (.lst (ai0 (List.range n))) Q
section
variable {X:Cx}
theorem b71:CallR X (.type "range") br3:=by
 intro pins s σ H xs us Q I r h
 obtain ⟨n,rfl,hn,q⟩:=h
 cases r with
 | cons r1 r2 =>
 cases r2
 obtain ⟨t,rfl⟩:=r1
 refine call_range_1 ⟨.ref s.heap.objs.size,upd H s.heap.objs.size (.rng 0 (n:Nat)),I.laid (fun b o e=>Heap.get?_push_of_some _ e) (Nat.le_refl _) ⟨_,_,_,Heap.get?_push_size _ rfl⟩,rfl,New.to q _ I.fresh⟩
theorem be7 (hc:X.calm=true):CallR X (.type "list") bk6:=by
 intro pins s σ H xs us Q I r h
 obtain ⟨a,n,rfl,e,hn,q⟩:=h
 cases r with
 | cons r1 r2 =>
 cases r2
 cases r1
 obtain ⟨t,u,v,hg⟩:=I.hok a _ e
 refine call_list_range (n:=n) (I.ok.hd hc) hg (small_one (by omega) (by omega) (by omega) (by omega)) (by rw [rangeSize_one]; split <;> omega) (by omega) fun h' tk acc c hk hS hacc=>⟨.ref s.heap.objs.size,_,I.laid (a:=s.heap.objs.size) (t':=tk) hk (Nat.le_refl _) ?_,rfl,New.to q _ I.fresh⟩
 refine ⟨le_line (by simp [ai0]; omega),acc.toList,c,?_,by simpa using hS⟩
 refine b67 (by simp [ai0,hacc.1]) fun j x1 x2 hx1 hx2=>?_
 have hj:j<n:=by
  have:=(List.getElem?_eq_some_iff.mp hx1).1
  simpa [ai0] using this
 obtain ⟨t2,rfl⟩:=hacc.2 j x2 (by rw [← Array.getElem?_toList]; exact hx2)
 have:x1=.int (j:Nat):=by simpa [ai0,hj] using hx1.symm
 subst this
 exact ⟨t2,by simp⟩
end
theorem be8 {K:PySem.W.Frag}{a:Addr}{xs:List V}{g:TG}{tb:TS}{D:Ends}{σ:St} {H:Hp}(Pv:Nat→St→Hp→Prop) (h0:Pv 0 σ H) (hl:∀ i σ H,i≤xs.length→Pv i σ H→SqL K H a xs)
 (hs:∀ i x σ H q H2,xs[i]?=some x→Pv i σ H→Same H H2→H2 q=some (.tup [.int (i:Nat),x])→g (.ref q) σ H2 fun σ1 H1=>tb { D with nx:=Pv (i+1),ct:=Pv (i+1),bk:=D.nx } σ1 H1)
 (hd:∀ σ H,Pv xs.length σ H→D.nx σ H):bj8 (Ite K a) g tb D σ H:=by
 refine ⟨fun i m σ H=>m=xs.length - i∧i≤xs.length∧Pv i σ H,⟨xs.length,by simp,Nat.zero_le _,h0⟩,?_⟩
 rintro i m σ' H' ⟨rfl,hi,p⟩
 have hq:=hl i σ' H' hi p
 by_cases hlt:i<xs.length
 · refine .inr ⟨⟨xs,xs[i],hq,by simp [hlt]⟩,Pv (i+1),fun σ2 H2 p'=>⟨xs.length - (i+1),by omega,rfl,hlt,p'⟩,fun v H2 y=>?_⟩
   obtain ⟨q,x,rfl,hn,sm,hT,hx⟩:=y
   exact hs i x σ' H' q H2 (hx xs hq) p sm hT
 · have e:i=xs.length:=by omega
   subst e
   exact .inl ⟨⟨xs,hq,Nat.le_refl _⟩,hd σ' H' p⟩
section
variable {K:PySem.W.Frag}{H:Hp}{Q:VK}
theorem br4 {a:Addr}{n:Nat}(e:H a=some (.rng 0 (n:Nat))) (hn:n≤1000000) (h:New H (.lst (ai0 (List.range n))) Q):bk6 [.ref a] H Q:=⟨a,n,rfl,e,hn,h⟩
end
section
variable {X:Cx}{tg:Expr}
end
section
variable {σ:St} {H:Hp}{R:It→Hp→Prop}{ts:TA}
end
section
variable {X:Cx}
end
section
variable {K:PySem.W.Frag}{H:Hp}{Q:VK}
end
section
variable {X:Cx}{e st:Expr}{te ts:TE}{p2 pos:Pos}
end
structure ItS (prog:Program) (w:World) (it l:Addr) (xs:Array Value) (st:Nat→Heap→Prop):Prop where
 keep:∀ {k:Nat}{h h':Heap},st k h→(∀ c o,c=it∨c=l→h.get? c=some o→h'.get? c=some o)→st k h'
 item:∀ {A:Around}{E:Value→Shared→Prop}{s:Shared}{k:Nat}{x:Value}{Q:Value→Shared→Prop},st k s.heap→xs[k]?=some x→(∀ h':Heap,st (k+1) h'→Heap.SameBut it s.heap h'→Q x { s with heap:=h' })→wpAny (model prog w) A (Builtin.SmallTypes.nextOf (.ref it)) Q E s
 done:∀ {A:Around}{E:Value→Shared→Prop}{s:Shared}{k:Nat}{Q:Value→Shared→Prop},A.handled=none→st k s.heap→xs[k]?=none→(∀ (h':Heap) (e:Addr),Heap.ExtBut it s.heap h'→(∃ o,h'.get? e=some o∧o.cls=.type "StopIteration")→E (.ref e) { s with heap:=h' })→wpAny (model prog w) A (Builtin.SmallTypes.nextOf (.ref it)) Q E s
theorem ax7 {prog:Program}{w:World}{it l:Addr}{xs:Array Value}(hn:l≠it):ItS prog w it l xs (fun k h=>h.IsListIter it l k∧h.IsList l xs) where
 keep:=fun ⟨h1,h2⟩ k=>⟨h1.at fun o e=>k it o (.inl rfl) e,by obtain ⟨o,e,r⟩:=h2; exact ⟨o,k l o (.inr rfl) e,r⟩⟩
 item:=fun ⟨h1,h2⟩ e q=>wpAny_nextOf_list_item h1 h2 e fun h' a b=>q h' ⟨a,h2.extBut b.extBut hn⟩ b
 done:=fun hA ⟨h1,h2⟩ e q=>wpAny_nextOf_list_end hA h1 h2 e q
theorem a08 {a b:Addr}{h h':Heap}{o:Obj}(s:Heap.SameBut a h h') (hn:b≠a) (e:h.get? b=some o):h'.get? b=some o:=(s.2 b hn).trans e
section
variable {prog:Program}{w:World}{z TI TO i1 i2 i3 l1 l2 l3:Addr}{xs ys us:Array Value}{st1 st2 st3:Nat→Heap→Prop}
end
structure SrcO (l:Addr) (o:Obj) (P:Heap→Prop):Prop where
 push:∀ {h:Heap}{o':Obj},P h→P (h.push o')
 iter:∀ {prog:Program}{w:World}{A:Around}{E:Value→Shared→Prop}{s:Shared}{Q:Value→Shared→Prop},P s.heap→Q (.ref s.heap.objs.size) { s with heap:=s.heap.push o }→wpAny (model prog w) A (pyIter (.ref l)) Q E s
theorem be9 (l:Addr) (xs:Array Value):SrcO l { cls:=.type "list_iterator",data:=.fields #[.ref l,.int 0 0] } (fun h=>h.IsList l xs) where
 push:=fun h=>h.push _
 iter:=fun p q=>wpAny_pyIter_list p q
section
variable {X:Cx}{elts:List Expr}{x1:Nat}{tpos:Pos}
end
def bk7 (P:Params) (tk tv:TE):TE:=fun σ H Q=>∀ p o,H p=none→tk σ (upd H p o) fun y H1=>tv σ H1 fun v H2=>H2 p=some o∧∃ t,TK H2 t y∧∀ o2,DtAt P (upd H2 p o2) p [(t,v)]→Q (.ref p) (upd H2 p o2)
section
variable {X:Cx}{k v:Expr}{pos:Pos}{tk tv:TE}{P:Params}
theorem bf0 (hP:X.w.params=P) (hu:X.A.units+64<cLine) (hk:PE X k tk) (hv:PE X v tv):PE X (.Dict [some k] [v] pos) (bk7 P tk tv):=by
 subst hP
 intro pins s σ H Q I h
 have hn:=I.hok.fresh (Nat.le_refl s.heap.objs.size)
 have I1:=I.laid (a:=s.heap.objs.size) (o:=DtO X.w.params s.heap.objs.size []) (h':=s.heap.push { cls:=.type "dict",data:=.dict #[] }) (t':=s.toks) (fun _ _ q=>Heap.get?_push_of_some _ q) (Nat.le_refl _) (ax5 (b68 s.heap X.w.params I.big))
 refine wpAny_Dict_any rfl rfl (by simp) (by simp) (pairTrees_cons_walk (thn (hk pins _ σ _ _ I1 (h _ _ hn)) ?_))
 rintro u s1 ⟨y,H1,I1',ry,q1⟩
 refine thn (hv pins s1 σ H1 _ I1' q1) ?_
 rintro w2 s2 ⟨vv,H2,I2,rv,e,t,ht,q2⟩
 refine pairTrees_nil_walk ?_
 unfold storeAll
 rw [List.forIn_cons]
 refine wpAny_bind (wpAny_bind (b66 (m:=[]) (by omega) I2 (.of e) (fun x hx=>absurd hx (by simp)) (by simp) (by simp [sizeLine_eq]) ht ry rv fun s' I'=>wpAny_pure ?_))
 dsimp only
 rw [List.forIn_nil]
 refine wpAny_pure ⟨.ref _,_,I',rfl,q2 _ ?_⟩
 exact au6 (m:=[]) (.of e) (fun x hx=>absurd hx (by simp)) (by simp) ht
end
theorem br5 {P:Params}{σ:St} {H:Hp}{Q:VK}{tk tv:TE}(h:∀ p o,H p=none→tk σ (upd H p o) fun y H1=>tv σ H1 fun v H2=>H2 p=some o∧∃ t,TK H2 t y∧∀ o2,DtAt P (upd H2 p o2) p [(t,v)]→Q (.ref p) (upd H2 p o2)):bk7 P tk tv σ H Q:=h
def Each {α β:Type}(R:α→β→Prop) (vs:List α) (xs:List β):Prop:=vs.length=xs.length∧∀ (j:Nat) (v:α) (x:β),vs[j]?=some v→xs[j]?=some x→R v x
section
variable {α β:Type}{R:α→β→Prop}{vs:List α}{xs:List β}
theorem Each.nil:Each R ([]:List α) ([]:List β):=⟨rfl,fun j v x h=>by simp at h⟩
theorem Each.mono {R':α→β→Prop}(h:Each R vs xs) (k:∀ v x,R v x→R' v x):Each R' vs xs:=⟨h.1,fun j v x h1 h2=>k v x (h.2 j v x h1 h2)⟩
theorem Each.append {ws:List α}{ys:List β}(h:Each R vs xs) (k:Each R ws ys):Each R (vs++ws) (xs++ys):=by
 refine ⟨by simp [h.1,k.1],fun j v x h1 h2=>?_⟩
 by_cases hj:j<vs.length
 · rw [List.getElem?_append_left hj] at h1
   rw [List.getElem?_append_left (by rw [← h.1]; exact hj)] at h2
   exact h.2 j v x h1 h2
 · rw [List.getElem?_append_right (by omega)] at h1
   rw [List.getElem?_append_right (by rw [← h.1]; omega),←h.1] at h2
   exact k.2 _ v x h1 h2
theorem Each.snoc {v:α}{x:β}(h:Each R vs xs) (k:R v x):Each R (vs++[v]) (xs++[x]):=h.append ⟨rfl,fun j w y h1 h2=>by
 cases j with
 | zero=>cases h1; cases h2; exact k
 | succ j=>simp at h1⟩
theorem Each.get {j:Nat}{x:β}(h:Each R vs xs) (k:xs[j]?=some x):∃ v,vs[j]?=some v∧R v x:=by
 have hj:j<vs.length:=by rw [h.1]; exact (List.getElem?_eq_some_iff.mp k).1
 exact ⟨vs[j],List.getElem?_eq_getElem hj,h.2 j _ x (List.getElem?_eq_getElem hj) k⟩
end
abbrev RRow:=List Str×Nat
abbrev cc6:=Bool×List RRow
section
variable {f:Nat→Option Nat}{rep rk:Nat→Nat}
end
def hF (d:Addr):List (Str×V):=putF "heads" (.ref d) []
abbrev Pr:=Nat×Nat
def c50:R2:=fun x y H Q=>∃ a b xs ys,x=.ref a∧y=.ref b∧H a=some (.tup xs)∧H b=some (.tup ys)∧xs.length+ys.length≤sizeLine∧∀ c H',Same H H'→H' c=some (.tup (xs++ys))→Q (.ref c) H'
section
variable {X:Cx}
theorem bf1:OpR X (binaryOp .Add) c50:=by
 intro pins s σ H x y v u Q I rx ry h
 obtain ⟨a,b,xs,ys,rfl,rfl,ha,hb,hz,q⟩:=h
 cases rx
 cases ry
 obtain ⟨its,r1,p1,_⟩:=I.tuple (SqT.of ha)
 obtain ⟨its2,r2,p2,_⟩:=I.tuple (SqT.of hb)
 obtain ⟨⟨cls,dd,data,sl⟩,ho,hc,n,hd⟩:=id p1
 obtain ⟨⟨cls2,dd2,data2,sl2⟩,ho2,hc2,n2,hd2⟩:=id p2
 simp only at hc hd hc2 hd2
 subst hc hd hc2 hd2
 have e:its.toArray++its2.toArray=(its++its2).toArray:=by simp
 by_cases hv:its=[]
 · refine concat_meets ⟨_,ho,rfl⟩ ⟨_,ho2,rfl⟩ noFill_tuple_add seq_tuple_add PySem.F.slot_tuple_add PySem.F.entry_tuple_add (PySem.F.args_tuple_add_2 _ _)
    (tuple_addW0 a b its.toArray its2.toArray n n2 dd dd2 sl sl2 (by simp [hv])) ⟨ho,ho2,⟨.ref b,H,I,rfl,q b H (Same.refl _) ?_⟩⟩
   rw [r1.nil_iff.mp hv,List.nil_append]
   exact hb
 · by_cases hw:its2=[]
   · refine concat_meets ⟨_,ho,rfl⟩ ⟨_,ho2,rfl⟩ noFill_tuple_add seq_tuple_add PySem.F.slot_tuple_add PySem.F.entry_tuple_add (PySem.F.args_tuple_add_2 _ _)
      (tuple_addW1 a b its.toArray its2.toArray n n2 dd dd2 sl sl2 (by simpa using hv) (by simp [hw])) ⟨ho,ho2,⟨.ref a,H,I,rfl,q a H (Same.refl _) ?_⟩⟩
     rw [r2.nil_iff.mp hw,List.append_nil]
     exact ha
   · refine concat_meets ⟨_,ho,rfl⟩ ⟨_,ho2,rfl⟩ noFill_tuple_add seq_tuple_add PySem.F.slot_tuple_add PySem.F.entry_tuple_add (PySem.F.args_tuple_add_2 _ _)
      (tuple_addW2 a b its.toArray its2.toArray n n2 dd dd2 sl sl2 (by simpa using hv) (by simpa using hw) (by rw [List.size_toArray,List.size_toArray,←r1.length,←r2.length]; exact hz)) ⟨ho,ho2,?_⟩
     rw [e]
     have fr:=I.hok.fresh (Nat.le_refl s.heap.objs.size)
     refine ⟨.ref s.heap.objs.size,_,I.laid (t':=s.toks) (o:=.tup (xs++ys)) (fun b ob q=>Heap.get?_push_of_some _ q) (Nat.le_refl _) ?_,rfl,q _ _ (Same.new fr) a17⟩
     exact ⟨by rw [List.length_append]; exact hz,_,r1.append r2,IsTup.new _ _⟩
theorem ae9 {prog:Program}{w:World}{A:Around}{E:Value→Shared→Prop}{s:Shared}{t sl:Addr}{items:Array Value}{vl vu:Value}{lo hi:Option Int}{Q:Value→Shared→Prop}(ht:IsTup s.heap t items) (hs:s.heap.IsSliceOf sl vl vu .none) (pl:IsPart vl lo) (pu:IsPart vu hi)
 (hw:HT.sIx items.size 0 lo=0∧HT.sIx items.size items.size hi=items.size) (h:Q (.ref t) s):wpAny (model prog w) A (getItem (.ref t) (.ref sl)) Q E s:=by
 obtain ⟨os,hos,hcs,hds⟩:=id hs
 have hTs:s.TypeIs (.ref sl) "slice":=⟨os,hos,hcs⟩
 unfold getItem
 try with_reducible refine wpAny_holding ?_
 first | refine wpAny_bind (wpAny_pure ?_) | skip
 refine wpAny_bind (wpAny_sequenceKey ht.typeIs (by decide) ?_)
 refine wpAny_bind (wpAny_callSpecial?_slot (name:=Str.ofString "__getitem__") ht.typeIs PyProof.Rows.slot_tuple_getitem
  (wpAny_call_entry PyProof.Rows.slot_tuple_getitem ht.typeIs PyProof.Rows.entry_tuple_getitem ?_ (PyProof.Rows.args_tuple_getitem _ _)))
 show wpAny _ _ (Builtin.Tuple.tupleItemsOf (.ref t) >>= _) _ _ s
 refine wpAny_bind (PyProof.Rows.tupleItemsOf_ ht ?_)
 refine wpAny_bind (wpAny_typeOf hTs ?_)
 rw [if_pos (by decide)]
 refine wpAny_bind (HT.sliceApplied_gen hs pl pu ?_)
 have hyes:(((HT.sIx items.size 0 lo:Nat):Int) == 0 && (1:Int) == 1 && (HT.sIx items.size items.size hi - HT.sIx items.size 0 lo) == items.size)=true:=by
  rw [hw.1,hw.2]
  simp
 show wpAny _ _ (if (((HT.sIx items.size 0 lo:Nat):Int) == 0 && (1:Int) == 1 && (HT.sIx items.size items.size hi - HT.sIx items.size 0 lo) == items.size)=true then _ else _) _ _ s
 rw [if_pos hyes]
 refine wpAny_bind ?_
 unfold Builtin.Tuple.tupleIsExact
 refine wpAny_bind (wpAny_typeOf ht.typeIs (wpAny_pure ?_))
 rw [if_pos (by decide)]
 exact wpAny_bind (wpAny_rule (wpAny_pure ⟨_,rfl,wpAny_pure h⟩))
def rSlU:V→Option Int→Option Int→Hp→VK→Prop:=fun x lo hi H Q=>∃ a xs,x=.ref a∧H a=some (.tup xs)∧∀ c H',Same H H'→H' c=some (.tup (cutV xs lo hi))→Q (.ref c) H'
theorem bf2:SlR X rSlU:=by
 intro pins s σ H x v vl vu lo hi sl Q I rx hs pl pu h
 obtain ⟨a,xs,rfl,hx,q⟩:=h
 by_cases hw:HT.sIx xs.length 0 lo=0∧HT.sIx xs.length xs.length hi=xs.length
 · cases rx
   obtain ⟨its,r,ht,hz⟩:=I.tuple (SqT.of hx)
   have hlen:its.toArray.size=xs.length:=by rw [List.size_toArray]; exact r.length.symm
   refine ⟨"tuple",_,PyProof.Rows.slot_tuple_getitem.lookup,ht.typeIs,?_⟩
   refine ae9 ht hs pl pu (by rw [hlen]; exact hw) ⟨.ref a,H,I,rfl,q a H (Same.refl _) ?_⟩
   have e:cutV xs lo hi=xs:=by
    unfold cutV
    rw [hw.1,hw.2,List.drop_zero,Nat.sub_zero,List.take_length]
   rw [e]
   exact hx
 · exact bz2 pins s σ H (.ref a) v vl vu lo hi sl Q I rx hs pl pu ⟨a,xs,rfl,SqT.of hx,hw,fun p hp=>q p _ (Same.new hp) a17⟩
end
section
variable {H:Hp}{Q:VK}
theorem c51 {a b:Addr}{xs ys:List V}(h1:H a=some (.tup xs)) (h2:H b=some (.tup ys)) (hz:xs.length+ys.length≤sizeLine) (h:∀ c H',Same H H'→H' c=some (.tup (xs++ys))→Q (.ref c) H'):c50 (.ref a) (.ref b) H Q:=⟨a,b,xs,ys,rfl,rfl,h1,h2,hz,h⟩
theorem cc7 {a:Addr}{xs:List V}{lo hi:Option Int}(h1:H a=some (.tup xs)) (h:∀ c H',Same H H'→H' c=some (.tup (cutV xs lo hi))→Q (.ref c) H'):rSlU (.ref a) lo hi H Q:=⟨a,xs,rfl,h1,h⟩
end
def TupK (K:PySem.W.Frag) (a:Addr) (xs:List V):Prop:=∃ (o:Obj) (its:Array Value) (n:Nat),K.lookup a=some o∧o.cls=.type "tuple"∧o.data=.seq its n∧its.size≤sizeLine∧Vals xs its.toList
theorem TupK.sq {K:PySem.W.Frag}{a:Addr}{xs:List V}(h:TupK K a xs) (H:Hp):SqT K H a xs:=.inr h
mutual
def Tr.AtK (K:PySem.W.Frag) (H:Hp):Tr→V→Prop
 | .non,v=>v=.non
 | .int i,v=>v=.int i
 | .str s,v=>v=.str s
 | .tup xs,v=>∃ a vs,v=.ref a∧(H a=some (.tup vs)∨TupK K a vs)∧Tr.AtsK K H xs vs
 | .lst _,_=>False
def Tr.AtsK (K:PySem.W.Frag) (H:Hp):List Tr→List V→Prop
 | [],vs=>vs=[]
 | x::xs,vs=>∃ v ws,vs=v::ws∧Tr.AtK K H x v∧Tr.AtsK K H xs ws
end
mutual
theorem Tr.AtK.mono {K:PySem.W.Frag}{H H':Hp}:∀ {x:Tr}{v:V},x.AtK K H v→Tups H H'→x.AtK K H' v
 | .non,_,h,_=>by simpa only [Tr.AtK] using h
 | .int _,_,h,_=>by simpa only [Tr.AtK] using h
 | .str _,_,h,_=>by simpa only [Tr.AtK] using h
 | .tup xs,v,h,k=>by
   simp only [Tr.AtK] at h ⊢
   obtain ⟨a,vs,e,g,r⟩:=h
   exact ⟨a,vs,e,g.imp (fun z=>k _ _ z) id,Tr.AtsK.mono r k⟩
 | .lst xs,v,h,k=>by simp only [Tr.AtK] at h
theorem Tr.AtsK.mono {K:PySem.W.Frag}{H H':Hp}:∀ {xs:List Tr}{vs:List V},Tr.AtsK K H xs vs→Tups H H'→Tr.AtsK K H' xs vs
 | [],_,h,_=>by simpa only [Tr.AtsK] using h
 | x::xs,vs,h,k=>by
   simp only [Tr.AtsK] at h ⊢
   obtain ⟨v,ws,e,a,b⟩:=h
   exact ⟨v,ws,e,Tr.AtK.mono a k,Tr.AtsK.mono b k⟩
end
mutual
theorem Tr.At.toK (K:PySem.W.Frag) {H:Hp}:∀ {x:Tr}{v:V},x.At H v []→x.AtK K H v
 | .non,_,h=>by simp only [Tr.At] at h; simp only [Tr.AtK]; exact h.1
 | .int _,_,h=>by simp only [Tr.At] at h; simp only [Tr.AtK]; exact h.1
 | .str _,_,h=>by simp only [Tr.At] at h; simp only [Tr.AtK]; exact h.1
 | .tup xs,v,h=>by
   simp only [Tr.At] at h
   simp only [Tr.AtK]
   obtain ⟨a,vs,e,g,r⟩:=h
   exact ⟨a,vs,e,.inl g,Tr.Ats.toK K r⟩
 | .lst xs,v,h=>(ar4 (h:=h)).elim
theorem Tr.Ats.toK (K:PySem.W.Frag) {H:Hp}:∀ {xs:List Tr}{vs:List V},Tr.Ats H xs vs []→Tr.AtsK K H xs vs
 | [],_,h=>by simp only [Tr.Ats] at h; simp only [Tr.AtsK]; exact h.1
 | x::xs,vs,h=>by
   simp only [Tr.Ats] at h
   simp only [Tr.AtsK]
   obtain ⟨v,ws,f,g,e,e2,a,b⟩:=h
   have hf:f=[]∧g=[]:=by simpa using e2.symm
   obtain ⟨rfl,rfl⟩:=hf
   exact ⟨v,ws,e,Tr.At.toK K a,Tr.Ats.toK K b⟩
end
section
variable {X:Cx}{pins:List (Addr×Obj)}{σ:St} {H:Hp}{s:Shared}
mutual
theorem Tr.AtK.isIn (I:Inv X pins σ H s):∀ {t:Tr}{v:V}{u:Value},t.AtK X.K H v→RelV v u→Tr.In s.heap t u
 | .non,v,u,h,r=>by
   simp only [Tr.AtK] at h
   subst h
   cases r
   exact rfl
 | .int z,v,u,h,r=>by
   simp only [Tr.AtK] at h
   subst h
   obtain ⟨t,rfl⟩:=r
   exact .inl ⟨t,rfl⟩
 | .str z,v,u,h,r=>by
   simp only [Tr.AtK] at h
   subst h
   obtain ⟨t,rfl⟩:=r
   exact ⟨t,rfl⟩
 | .lst _,v,u,h,r=>by simp only [Tr.AtK] at h
 | .tup ts,v,u,h,r=>by
   simp only [Tr.AtK] at h
   obtain ⟨a,vs,rfl,e1,c1⟩:=h
   cases r
   obtain ⟨is1,q1,p1,_⟩:=I.tuple (show SqT X.K H a vs from e1.elim SqT.of (fun z=>z.sq H))
   simp only [Tr.In]
   exact ⟨a,is1.toArray,rfl,p1,by simpa using Tr.AtsK.isIns I c1 q1⟩
theorem Tr.AtsK.isIns (I:Inv X pins σ H s):∀ {ts:List Tr}{vs:List V}{us:List Value},Tr.AtsK X.K H ts vs→Vals vs us→Tr.Ins s.heap ts us
 | [],vs,us,c,q=>by
   simp only [Tr.AtsK] at c
   subst c
   cases q
   exact rfl
 | t::ts,vs,us,c,q=>by
   simp only [Tr.AtsK] at c
   obtain ⟨v,vs,rfl,a1,b1⟩:=c
   cases q with
   | cons r1 r2 =>
     simp only [Tr.Ins]
     exact ⟨_,_,rfl,Tr.AtK.isIn I a1 r1,Tr.AtsK.isIns I b1 r2⟩
end
end
def c52 (K:PySem.W.Frag):R2:=fun x y H Q=>∃ (t r:Tr),t.AtK K H x∧r.AtK K H y∧t.h≤20∧r.h≤20∧Q (.bl (decide (t=r))) H
section
variable {X:Cx}{pins:List (Addr×Obj)}{σ:St} {H:Hp}{s:Shared}{a:Addr}{t:Tr}{y v z:V}{u r:Value}{A:Around}{E:Value→Shared→Prop}{kvs:List (Tr×V)}{m:List (Tr×V×V)}
end
section
variable {X:Cx}{o i e f value:Expr}{pos pos' apos cpos:Pos}{td ty tv tx:TE}{P:Params}
theorem ax8 (K:PySem.W.Frag) (hu:X.A.units+64<cLine) (hK:X.K=K:=by rfl):OpR X (compareOp .Eq) (c52 K):=by
 subst hK
 intro pins s σ H x y v u Q I rx ry h
 obtain ⟨t,r,h1,h2,l1,l2,q⟩:=h
 exact (h1.isIn I rx).rcAt (h2.isIn I ry) (A:=X.A) (by omega) X.prog X.w X.xe (EP X pins σ Q) ⟨.bl _,H,I,rfl,q⟩
end
section
variable {K:PySem.W.Frag}{P:Params}{σ:St} {H:Hp}{Q:VK}{td ty tx tv:TE}
theorem bk8 {x y:V}{t r:Tr}(h1:t.AtK K H x) (h2:r.AtK K H y) (l1:t.h≤20) (l2:r.h≤20) (h:Q (.bl (decide (t=r))) H):c52 K x y H Q:=⟨t,r,h1,h2,l1,l2,h⟩
end
section
variable {prog:Program}{w:World}{A:Around}{E:Value→Shared→Prop}{s:Shared}
theorem af0 {it l:Addr}{i:Nat}{items}{x:Value}{Q:Value→Shared→Prop}(hit:s.heap.IsTupleIter it l i)
 (hl:s.heap.IsTuple l items) (hx:items[i]?=some x)
 (hQ:∀ h',h'.IsTupleIter it l (i+1)→Heap.SameBut it s.heap h'→Q x { s with heap:=h' }) :
 wpAny (model prog w) A (Builtin.SmallTypes.nextOf (.ref it)) Q E s:=by
 obtain ⟨o,ho,hc,hd⟩:=id hit
 obtain ⟨ol,hol,_,nl,hdl⟩:=hl
 unfold Builtin.SmallTypes.nextOf
 refine wpAny_bind (wpAny_callSpecial?_slot (name:=Str.ofString "__next__") hit.typeIs F.slot_tuple_iterator_next
  (wpAny_call_entry F.slot_tuple_iterator_next hit.typeIs F.entry_tuple_iterator_next ?_ (F.args_tuple_iterator_next_1 _)))
 show wpAny _ _ (field (.ref it) 0 >>= _) _ _ s
 refine wpAny_bind (wpAny_field ho hd (x:=.ref l) rfl ?_)
 show wpAny _ _ (if (Value.ref l == Value.none)=true then _ else _) _ _ s
 rw [if_neg (show ¬ ((Value.ref l == Value.none)=true) from Bool.false_ne_true)]
 show wpAny _ _ (field (.ref it) 1 >>= _) _ _ s
 refine wpAny_bind (wpAny_field ho hd (x:=.int i 0) rfl ?_)
 show wpAny _ _ (seqItems? (.ref l) >>= _) _ _ s
 refine wpAny_bind (wpAny_seqItems hol hdl ?_)
 simp only [Int.toNat_natCast,hx]
 refine wpAny_bind (wpAny_setField ho hd (by simp) (wpAny_pure ⟨x,rfl,wpAny_pure (hQ _ ?_ (Heap.SameBut.update ..))⟩))
 exact ⟨_,Heap.get?_update_self _ ho (Obj.isFreed_of_fields (Obj.data_mapFields hd _)),(Obj.cls_mapFields ..).trans hc,by
  rw [Obj.data_mapFields hd]; simp [rawInt]⟩
theorem af5 {it l:Addr}{i:Nat}{items}{Q:Value→Shared→Prop}(hh:A.handled=none)
 (hit:s.heap.IsTupleIter it l i) (hl:s.heap.IsTuple l items) (hx:items[i]?=none)
 (hE:∀ h' e,Heap.ExtBut it s.heap h'→(∃ o,h'.get? e=some o∧o.cls=.type "StopIteration")→E (.ref e) { s with heap:=h' }) :
 wpAny (model prog w) A (Builtin.SmallTypes.nextOf (.ref it)) Q E s:=by
 obtain ⟨o,ho,hc,hd⟩:=id hit
 obtain ⟨ol,hol,_,nl,hdl⟩:=hl
 unfold Builtin.SmallTypes.nextOf
 refine wpAny_bind (wpAny_callSpecial?_slot (name:=Str.ofString "__next__") hit.typeIs F.slot_tuple_iterator_next
  (wpAny_call_entry F.slot_tuple_iterator_next hit.typeIs F.entry_tuple_iterator_next ?_ (F.args_tuple_iterator_next_1 _)))
 show wpAny _ _ (field (.ref it) 0 >>= _) _ _ s
 refine wpAny_bind (wpAny_field ho hd (x:=.ref l) rfl ?_)
 show wpAny _ _ (if (Value.ref l == Value.none)=true then _ else _) _ _ s
 rw [if_neg (show ¬ ((Value.ref l == Value.none)=true) from Bool.false_ne_true)]
 show wpAny _ _ (field (.ref it) 1 >>= _) _ _ s
 refine wpAny_bind (wpAny_field ho hd (x:=.int i 0) rfl ?_)
 show wpAny _ _ (seqItems? (.ref l) >>= _) _ _ s
 refine wpAny_bind (wpAny_seqItems hol hdl ?_)
 simp only [Int.toNat_natCast,hx]
 refine wpAny_bind (wpAny_rule (wpAny_bind (wpAny_setField ho hd (by simp) ?_)))
 show wpAny _ _ (newExc (.type "StopIteration") [] >>= _) _ _ _
 refine wpAny_bind ?_
 simp only [newExc,newTuple]
 refine wpAny_bind (wpAny_newObj_type ?_ (by size_fits))
 refine wpAny_bind (m:=firstArgMember _ _) (wpAny_of_eq (a:=Value.none) (by first | rfl | (simp only [firstArgMember]; rfl)) ?_)
 refine wpAny_newObj_type ?_ (by size_fits)
 simp only [raiseNew]
 refine wpAny_bind (wpAny_handled ?_)
 first | rw [show A.in1.handled=none from hh] | rw [hh]
 refine wpAny_bind (wpAny_pure (wpAny_throw ?_))
 exact hE _ _ (((Heap.SameBut.update ..).extBut.push _).push _) ⟨_,Heap.get?_push_size _ rfl,rfl⟩
end
theorem al8 {h h':Heap}{a t:Addr}{i:Nat}(x:h.IsTupleIter a t i) (k:∀ o,h.get? a=some o→h'.get? a=some o):h'.IsTupleIter a t i:=let ⟨o,ho,r⟩:=x; ⟨o,k o ho,r⟩
theorem ar7 {prog:Program}{w:World}{it l:Addr}{xs:Array Value}(hn:l≠it):ItS prog w it l xs (fun k h=>h.IsTupleIter it l k∧h.IsTuple l xs) where
 keep:=fun ⟨h1,h2⟩ k=>⟨al8 h1 fun o e=>k it o (.inl rfl) e,by obtain ⟨o,e,r⟩:=h2; exact ⟨o,k l o (.inr rfl) e,r⟩⟩
 item:=fun ⟨h1,h2⟩ e q=>af0 h1 h2 e fun h' a b=>q h' ⟨a,h2.extBut b.extBut hn⟩ b
 done:=fun hA ⟨h1,h2⟩ e q=>af5 hA h1 h2 e q
theorem b72 (l:Addr) (xs:Array Value):SrcO l { cls:=.type "tuple_iterator",data:=.fields #[.ref l,.int 0 0] } (fun h=>h.IsTuple l xs) where
 push:=fun h=>h.push _
 iter:=fun p q=>wpAny_pyIter_tuple p q
section
variable {X:Cx}{elts:List Expr}{x1:Nat}{tpos:Pos}
end
theorem Each.take {α β:Type}{R:α→β→Prop}{vs:List α}{xs:List β}(h:Each R vs xs) (n:Nat):Each R (vs.take n) (xs.take n):=by
 refine ⟨by simp [h.1],fun j v x h1 h2=>?_⟩
 by_cases hj:j<n
 · rw [List.getElem?_take,if_pos hj] at h1 h2
   exact h.2 j v x h1 h2
 · rw [List.getElem?_take,if_neg hj] at h1
   cases h1
def cc8:R2:=fun x y H Q=>∃ t fs gs,(Tr.lst t).At H x fs∧(Tr.lst t).At H y gs∧Tr.hs t≤60∧Q (.bl true) H
theorem bf3 {X:Cx}(hu:X.A.units+64<cLine):OpR X (compareOp .Eq) cc8:=by
 intro pins s σ H x y v u Q I rx ry h
 obtain ⟨t,fs,gs,h1,h2,hh,q⟩:=h
 simp only [Tr.At] at h1 h2
 obtain ⟨a,vs,_,rfl,e1,c1,_⟩:=h1
 obtain ⟨b,ws,_,rfl,e2,c2,_⟩:=h2
 cases rx
 cases ry
 obtain ⟨is1,q1,p1,_⟩:=I.list (SqL.of e1)
 obtain ⟨is2,q2,p2,_⟩:=I.list (SqL.of e2)
 have hl:is1.length=is2.length:=by rw [← q1.length,←q2.length,c1.len,c2.len]
 have:=SeqAt.RcAt.lists (A:=X.A) (s:=s) (e:=fun _=>true) p1.isList p2.isList (by simpa using hl) (by omega) (fun j h1 h2=>by
  have:=Tr.eqAts I (A:=X.A.in1) c1 c2 q1 q2 (by rw [a33]; omega) j (by simpa using h1) (by simpa using h2)
  simpa using this) X.prog X.w X.xe (EP X pins σ Q)
 refine this ⟨.bl true,H,I,?_,q⟩
 rw [show ((List.range is1.toArray.size).all fun _=>true)=true by simp]
 rfl
section
variable {prog:Program}{w:World}{A:Around}{E:Value→Shared→Prop}{s:Shared}{d:Addr}{es:Array DictEntry}{ep:Nat}
end
section
variable {prog:Program}{w:World}{A:Around}{E:Value→Shared→Prop}{s:Shared}{d it:Addr}{es:Array DictEntry}{ep i:Nat}
end
section
variable {X:Cx}{P:Params}{o:Expr}{td:TE}{apos cpos:Pos}
end
section
variable {prog:Program}{w:World}{A:Around}{E:Value→Shared→Prop}{s:Shared}{d v:Addr}{es:Array DictEntry}{ep:Nat}
end
section
variable {X:Cx}{P:Params}
end
open AutoSeq1 (wpAny_loadPart')
section
variable {X:Cx}{elts:List Expr}{x1:Nat}{tpos:Pos}
end
section
variable {prog:Program}{w:World}
variable {A:Around}{E:Value→Shared→Prop}{s:Shared}
end
section
variable {prog:Program}{w:World}{A:Around}{R:Result→Shared→Prop}{I:Addr}{fp wr:List Addr}{G:Array GenState→Array GenState→Prop}{n:Nat}{P:Nat→Value→Prop}{St:Nat→Shared→Prop}
end
section
variable {prog:Program}{w:World}{A:Around}{E:Value→Shared→Prop}{s:Shared}
end
section
variable {M:Model}{A:Around}{E:Value→Shared→Prop}{s:Shared}
end
section
variable {prog:Program}{w:World}{A:Around}{E:Value→Shared→Prop}{s:Shared}{S it:Addr}{o:Obj}{es:Array (Int×Value)}{ep:Nat}{t:SetTable}
end
section
variable {prog:Program}{w:World}{A:Around}{E:Value→Shared→Prop}{s:Shared}{S it tp:Addr}{o:Obj}{es:Array (Int×Value)}{ep i:Nat}{t:SetTable}{first:Value}
end
section
variable {prog:Program}{w:World}{A:Around}{E:Value→Shared→Prop}{s:Shared}{S it tp:Addr}{o:Obj}{es:Array (Int×Value)}{ep i:Nat}{t:SetTable}{first:Value}
end
section
variable {prog:Program}{w:World}{A:Around}{E:Value→Shared→Prop}{s:Shared}{S it tp:Addr}{o:Obj}{es:Array (Int×Value)}{ep i:Nat}{t:SetTable}{first:Value}
end
section
variable {prog:Program}{w:World}{A:Around}{E:Value→Shared→Prop}{s:Shared}{S:Addr}{es:Array (Int×Value)}
end
section
variable {prog:Program}{w:World}{A:Around}{E:Value→Shared→Prop}{s:Shared}{S:Addr}{es:Array (Int×Value)}
end
section
variable {X:Cx}{P:Program}{w:World}
end
section
variable {X:Cx}
end
section
variable {rs:List cc6}{many:Nat}{p:Pr}
variable {N k:Nat}{dv:Pr→Option Nat}
end
section
variable {prog:Program}{w:World}{A:Around}{E:Value→Shared→Prop}{s:Shared}
end
section
variable {X:Cx}{P:Params}
end
section
variable {prog:Program}{w:World}{A:Around}{R:Result→Shared→Prop}{J:Addr}{fp wr:List Addr}{n:Nat}{P:Nat→Value→Prop}{St:Nat→Heap→Prop}
end
section
variable {prog:Program}{w:World}{A:Around}{E:Value→Shared→Prop}{s:Shared}
end
section
variable {X:Cx}{e d:Expr}{t tk:TA}{p kp pos:Pos}
end
section
variable {X:Cx}
end
mutual
def toW:Tr→Tw
 | .non=>.sc .non
 | .int i=>.sc (.int i)
 | .str s=>.sc (.str s)
 | .tup ts=>.tup (toWs ts)
 | .lst ts=>.lst (toWs ts)
def toWs:List Tr→List Tw
 | []=>[]
 | t::ts=>toW t::toWs ts
end
mutual
theorem c53 {H:Hp}:∀ {t:Tr}{v:V}{fs:List Addr},t.At H v fs→(toW t).At H v fs
 | .non,v,fs,h=>by
   simp only [Tr.At] at h
   simp only [toW,Tw.At]
   exact ⟨h.1,True.intro,h.2⟩
 | .int i,v,fs,h=>by
   simp only [Tr.At] at h
   simp only [toW,Tw.At]
   exact ⟨h.1,True.intro,h.2⟩
 | .str s,v,fs,h=>by
   simp only [Tr.At] at h
   simp only [toW,Tw.At]
   exact ⟨h.1,True.intro,h.2⟩
 | .tup ts,v,fs,h=>by
   simp only [Tr.At] at h
   simp only [toW,Tw.At]
   obtain ⟨a,vs,e,g,r⟩:=h
   exact ⟨a,vs,e,g,an4 r⟩
 | .lst ts,v,fs,h=>by
   simp only [Tr.At] at h
   simp only [toW,Tw.At]
   obtain ⟨a,vs,gs,e,g,r,f⟩:=h
   exact ⟨a,vs,gs,e,g,an4 r,f⟩
theorem an4 {H:Hp}:∀ {ts:List Tr}{vs:List V}{fs:List Addr},Tr.Ats H ts vs fs→Tw.Ats H (toWs ts) vs fs
 | [],vs,fs,h=>by
   simp only [Tr.Ats] at h
   simp only [toWs,Tw.Ats]
   exact h
 | t::ts,vs,fs,h=>by
   simp only [Tr.Ats] at h
   simp only [toWs,Tw.Ats]
   obtain ⟨v,ws,f,g,e1,e2,a,b⟩:=h
   exact ⟨v,ws,f,g,e1,e2,c53 a,an4 b⟩
end
mutual
theorem cc9:∀ t:Tr,(toW t).h=t.h
 | .non=>by simp [toW,Tw.h,Tr.h]
 | .int _=>by simp [toW,Tw.h,Tr.h]
 | .str _=>by simp [toW,Tw.h,Tr.h]
 | .tup ts=>by simp [toW,Tw.h,Tr.h,ax9 ts]
 | .lst ts=>by simp [toW,Tw.h,Tr.h,ax9 ts]
theorem ax9:∀ ts:List Tr,Tw.hs (toWs ts)=Tr.hs ts
 | []=>by simp [toWs,Tw.hs,Tr.hs]
 | t::ts=>by simp [toWs,Tw.hs,Tr.hs,cc9 t,ax9 ts]
end
structure Cov (fs:List Addr) (H H':Hp) (h h' B:Heap):Prop where
 old:∀ b o,h.get? b=some o→H b=none→b∉fs→B.get? b=some o
 ther:∀ b o,h.get? b=some o→b∉fs→∃ o',B.get? b=some o'
 abs:∀ b o,H' b≠none→h'.get? b=some o→B.get? b=some o
def CXE (P:Program) (w:World) (C:Addr):CXT:=fun outer H s E e s'=>∃ (a tt:Addr) (H':Hp) (B:Heap) (vs:List Value),e=.ref a∧s'.os=s.os∧AllBare s'.gens∧Un (frs outer) [] H H' s.heap s'.heap∧HOk P w H' s'.heap ∧
 Cov (frs outer) H H' s.heap s'.heap B∧Heap.FlyingW B outer a (.ref C) (.ref tt) s'.heap∧s'.heap.TupAt tt vs∧E (.ref C) none H'
theorem ObjOk.ther {P:Program}{w:World}{H:Hp}{h:Heap}{a:Addr}{o:HO}(x:ObjOk P w H h a o):∃ u,h.get? a=some u:=by
 cases o with
 | lst xs=>obtain ⟨_,_,_,_,e⟩:=x; exact ⟨_,e⟩
 | tup xs=>obtain ⟨_,_,_,ob,e,_⟩:=x; exact ⟨_,e⟩
 | dK kvs=>obtain ⟨_,_,_,_,o,_,_,e,_⟩:=x; exact ⟨_,e⟩
 | dT kvs=>obtain ⟨_,_,_,_,o,_,_,e,_⟩:=x; exact ⟨_,e⟩
 | set S n=>obtain ⟨o,_,_,_,e,_⟩:=x; exact ⟨_,e⟩
 | ins C dx fs=>obtain ⟨_,_,_,e,_⟩:=x; exact ⟨_,e⟩
 | own y=>obtain ⟨_,e⟩:=x; exact ⟨_,e⟩
 | xd fs=>obtain ⟨_,⟨_,_,_,e,_⟩,_⟩:=x; exact ⟨_,e⟩
 | rng lo hi=>obtain ⟨_,_,_,e⟩:=x; exact ⟨_,e⟩
 | frz ob u=>obtain ⟨e,_⟩:=x; exact ⟨_,e⟩
 | tbl ps=>exact ⟨_,(show h.get? a=some _ from x)⟩
 | met f y=>exact ⟨_,(show h.get? a=some _ from x)⟩
 | ext φ=>obtain ⟨_,⟨_,e⟩,_⟩:=x; exact ⟨_,e⟩
theorem ay0 {P:Program}{w:World}{fs:List Addr}{H H':Hp}{h h1 h2 B:Heap}(u:Un fs [] H H' h h1) (ok:HOk P w H' h1) (c:Cov fs H H' h h1 B) (st:B.StaysIn h2) (up:h1.UpToSlots h2)
 (fr:∀ b∈fs,H b=none∧∀ o,h1.get? b=some o→∀ vs,o.data≠.fields vs) (fr2:∀ b∈fs,H' b=none):Un fs [] H H' h h2∧HOk P w H' h2∧Cov fs H H' h h2 B:=by
 have slot:∀ b o,h.get? b=some o→H b=none→b∈fs→∃ sl,h2.get? b=some { o with slots:=sl }:=fun b o e n hb=>by
  obtain ⟨sl,e1⟩:=u.slot b o e n hb (by simp)
  obtain ⟨sl2,e2⟩:=up b _ e1 ((fr b hb).2 _ e1)
  exact ⟨sl2,e2⟩
 have ab:∀ b o,H' b≠none→h1.get? b=some o→h2.get? b=some o:=fun b o n e=>st b o (c.abs b o n e)
 refine ⟨⟨fun b o e n hb _=>st b o (c.old b o e n hb),fun b o e n hb _=>slot b o e n hb,u.free,fun b o e _=>?_,u.tups,u.frzs,u.tbls⟩,fun a o e=>?_,⟨c.old,c.ther,fun b o n e=>?_⟩⟩
 · by_cases hb:b∈fs
   · obtain ⟨sl,e2⟩:=slot b o e (fr b hb).1 hb
     exact ⟨_,e2⟩
   · obtain ⟨o',e'⟩:=c.ther b o e hb
     exact ⟨o',st b o' e'⟩
 · refine (ok a o e).stay (fun b v hb ev=>?_) (fun _ z=>z) (fun _ _ z=>z)
   rcases hb with rfl | hb
   · exact ab _ _ (by rw [e]; simp) ev
   · exact ab _ _ (by rw [hb]; simp) ev
 · obtain ⟨o',e'⟩:∃ o',h1.get? b=some o':=by
    cases eH:H' b with
    | none=>exact absurd eH n
    | some ho=>exact (ok b ho eH).ther
   have:=ab b o' n e'
   rw [e] at this
   cases this
   exact c.abs b o n e'
theorem bf4 {P:Program}{w:World}{K:PySem.W.Frag}{mg:Str→Option Value}{base:Heap}{N:List Str}{qual:Str}{scope:Scope}{f C:Addr}{cd:Value}{A:Around}{outer:List Env}{s:Shared}{H H1:Hp}{E:XK}{pins:List (Addr×Obj)}{σ:St} {s1:Shared}{h':Heap}{e:Addr}{vs:List Value}
 (I:Inv (cxOf (CXE P w C) P w K mg base N qual scope f cd A outer s H E) pins σ H1 s1) (hx:Heap.MadeExcOf s1.heap h' e (.ref C) vs) (q:E (.ref C) none H1) :
 (cxOf (CXE P w C) P w K mg base N qual scope f cd A outer s H E).xe (.ref e) { s1 with heap:=h' }:=by
 have hstk:=I.stack
 have hfree:=I.stkFree
 have hfrm:=I.ok.frames
 have habv:=I.ok.above
 have hun:=I.base
 have hok:=I.hok
 have hos:=I.os
 have hbare:=I.bare
 have hfun:=I.ok.funs
 have hfrf:=I.ok.frf
 dsimp only [cxOf,Cx.fs] at hstk hfree hfrm habv hun hok hos hfun hfrf ⊢
 have hin:∀ env∈(envOfC qual scope s.heap.objs.size f cd::outer),∀ b,env.frame=some b→b∈frs (envOfC qual scope s.heap.objs.size f cd::outer):=fun env he b hb=>List.mem_filterMap.mpr ⟨env,he,hb⟩
 refine wpAny_leaves_madeW (base:=PySem.W.hideAll s1.heap (frs (envOfC qual scope s.heap.objs.size f cd::outer))) (h:=s1.heap) hfrm rfl (fun b o q=>PySem.W.of_hideAll _ q) (PySem.W.funFrames_hide hstk hin) hx fun h2 t x1 x2 x3 x4=>?_
 have hmem:∀ b,b∈frs outer→b∈frs (envOfC qual scope s.heap.objs.size f cd::outer):=fun b hb=>by
  obtain ⟨env,he,hf⟩:=List.mem_filterMap.mp hb
  exact hin env (List.mem_cons_of_mem _ he) b hf
 have notin:∀ b o,s.heap.get? b=some o→b∉frs outer→b∉frs (envOfC qual scope s.heap.objs.size f cd::outer):=fun b o e hb hm=>by
  obtain ⟨env,he,hf⟩:=List.mem_filterMap.mp hm
  rcases List.mem_cons.mp he with rfl | he
  · have z:s.heap.objs.size=b:=Option.some.inj hf
    rw [← z] at e
    exact absurd (Heap.lt_size e) (Nat.lt_irrefl _)
  · exact hb (List.mem_filterMap.mpr ⟨env,he,hf⟩)
 have cov:Cov (frs outer) H H1 s.heap s1.heap (PySem.W.hideAll s1.heap (frs (envOfC qual scope s.heap.objs.size f cd::outer))) :=
  ⟨fun b o e n hb=>PySem.W.hideAll_get _ (hun.keep b o e n hb (by simp)) (notin b o e hb),fun b o e hb=>by
   obtain ⟨o',e'⟩:=hun.there b o e (by simp)
   exact ⟨o',PySem.W.hideAll_get _ e' (notin b o e hb)⟩,fun b o n e=>PySem.W.hideAll_get _ e fun hm=>n (hfree b hm)⟩
 obtain ⟨u2,ok2,c2⟩:=ay0 hun hok cov x1.1 ((Heap.UpToSlots.of_keeps hx.keeps).trans x4) (fun b hb=>⟨hfrf b hb,fun o e=>by
  obtain ⟨_,o',e',hd⟩:=hstk.mem (hmem b hb)
  rw [e] at e'
  cases e'
  exact hd⟩) fun b hb=>hfree b (hmem b hb)
 exact ⟨e,t,H1,_,vs,rfl,hos,hbare,u2,ok2,c2,x1,x2,q⟩
theorem bk9 {K:PySem.W.Frag}{h₀:Heap}{mg:Str→Option Value}{x:Str}{C:Addr}{bmB:List Value}{newId:String}(X:K.In h₀) (hm:mg x=some (.ref C)) (q:PySem.W.excIn K C bmB newId=true):OwnCls x C bmB newId mg h₀:=by
 refine ⟨hm,?_⟩
 unfold PySem.W.excIn at q
 split at q
 · rename_i dd cd sl ho
   split at q
   · rename_i C' bm k0 k1 k2 k3 n k5 hm hs
     simp only [Bool.and_eq_true,beq_iff_eq,Bool.not_eq_true'] at q
     obtain ⟨⟨⟨⟨⟨rfl,rfl⟩,hdel⟩,ht⟩,hok⟩,hni⟩:=q
     obtain ⟨nm,bs,mro,ns,qn,hd,sn,sub,ab,col,del⟩:=cd
     dsimp only at hm hdel hok hni
     subst hm hdel
     have hsl:sl=#[k0,k1,k2,k3,some (.builtin n),k5]:=by
      obtain ⟨l⟩:=sl
      simp only at hs
      rw [hs]
     subst hsl
     exact ⟨bm,ns,nm,qn,bs,hd,sn,sub,ab,col,dd,k0,k1,k2,k3,k5,_,X _ _ ho,.of_isNs (PySem.W.isNs_of_in X hok),PySem.W.nsMap_none_of_in X hok hni,PySem.W.tail_of_in X ht⟩
   · cases q
 · cases q
def bl0 (C:Addr) (E:XK) (t:TA):TS:=fun _ σ H=>t σ H fun vs H1=>vs.length≤sizeLine∧E (.ref C) none H1
theorem bf5 {P:Program}{w:World}{K:PySem.W.Frag}{mg:Str→Option Value}{base:Heap}{N:List Str}{qual:Str}{scope:Scope}{f C:Addr}{cd:Value}{A:Around}{outer:List Env}{s:Shared}{H:Hp}{E:XK}{x:Str}{np cpos pos:Pos}{e₀:Expr}{rest:List Expr}{t:TA}{B Bn newId nid initId inN:String}{bm bmN:List Value}
 (Fn:ExcBaseFacts Bn newId inN bmN) (hBn:bm.contains (.type Bn)=true) (FB:ExcBaseFacts B nid initId bm) (q:PySem.W.excIn K C bm newId=true) (hm:mg x=some (.ref C))
 (hg:Gl (cxOf (CXE P w C) P w K mg base N qual scope f cd A outer s H E) x) (ha:PA (cxOf (CXE P w C) P w K mg base N qual scope f cd A outer s H E) (e₀::rest) t)
 (he:starEach (e₀::rest) (envOfC qual scope s.heap.objs.size f cd)=(false,eval e₀ (envOfC qual scope s.heap.objs.size f cd))::starEach rest (envOfC qual scope s.heap.objs.size f cd):=by rfl)
 (hplain:(backTo cpos (starEach rest (envOfC qual scope s.heap.objs.size f cd))).any (·.1)=false:=by rfl) (hd:(x == ("__debug__":Str))=false:=by decide) :
 PS (cxOf (CXE P w C) P w K mg base N qual scope f cd A outer s H E) (.Raise (some (.Call (.Name x np) (e₀::rest) [] cpos)) none pos) (bl0 C E t):=by
 intro pins s1 σ H1 D I h
 have O:OwnCls x C bm newId mg s1.heap:=bk9 I.kIn hm q
 have hbs:=I.bk
 obtain ⟨tl,NN,nm,qq,bs,hdct,sn,sub,ab,col,dd,k0,k1,k2,k3,k5,mN,hC,hN,hni,T⟩:=(bk9 (h₀:=base) I.ok.mod.kin hm q:OwnCls x C bm newId mg base).obj
 refine wpAny_Raise_call_subU (C:=C) (nm:=nm) (q:=qq) (N:=NN) (bs:=bs) (bm:=tl) (hdct:=hdct) (sn:=sn) (sub:=sub) (ab:=ab) (col:=col) (dd:=dd) (k0:=k0) (k1:=k1) (k2:=k2) (k3:=k3) (k5:=k5)
  Fn hBn FB (mN:=mN) (T.hasType FB.hasBase) (I.ok.hd rfl) (by show (backTo cpos (starEach (e₀::rest) (envOfC qual scope s.heap.objs.size f cd))).any (·.1)=false; rw [he]; show (false || (backTo cpos (starEach rest (envOfC qual scope s.heap.objs.size f cd))).any (·.1))=false; rw [hplain]; rfl) hni (ag3 I hg hm ⟨rfl,?_⟩ hd)
 have hh:=ha cpos pins s1 σ H1 _ I h
 change wpAny _ _ (evalArgs _ true (backTo cpos (starEach (e₀::rest) (envOfC qual scope s.heap.objs.size f cd))) []) _ _ _
 change wpAny _ _ (spliced (backTo cpos (starEach (e₀::rest) (envOfC qual scope s.heap.objs.size f cd)))) _ _ _ at hh
 rw [he] at hh ⊢
 refine Calls.evalArgs_plain (wpAny_mono hh (fun vs s₂ h₂=>?_) fun _ _ y=>y)
 obtain ⟨us,H2,I2,r,hl,hE⟩:=h₂
 have kp:∀ b o,base.get? b=some o→s₂.heap.get? b=some o:=I2.bk
 exact ⟨rfl,by rw [← r.length]; exact hl,kp _ _ hC,hN.keeps kp,T.keeps kp,fun h' e hx=>bf4 I2 hx hE⟩
section
variable {P:Program}{w:World}{K:PySem.W.Frag}{mg:Str→Option Value}{base:Heap}
theorem Fun.okE {x qual:Str}{st:Stmt}{f C:Addr}{fd:FuncData}{N ps:List Str}{k:Nat}{sp:Sp}(F:Fun K x qual st f fd) (S:FnScope N ps (a06 st)) (len:∀ vs H Q E,sp vs H Q E→vs.length=ps.length)
 (hbody:∀ (cdv:Value) (A:Around) (outer:List Env) (s:Shared) (H:Hp) (vs:List V) (Q:VK) (E:XK),Room k (A.deeper (envOfC qual (a06 st) s.heap.objs.size f cdv))→sp vs H Q E →
  ∃ t,PSs (cxOf (CXE P w C) P w K mg base N qual (a06 st) f cdv A outer s H E) (a82 st) t∧t { nx:=fun _ H'=>Q .non H',rt:=Q } (start N vs) H):FnOk P w K mg base (CXE P w C) (k+1) f fd ps sp:=by
 obtain ⟨oc,od,kV,doc,pm,an,cdv,ct,osl,rfl,lk,hcd⟩:=F.ex
 exact by9 lk hcd S len fun A outer s H vs Q E hr hsp=>hbody cdv A outer s H vs Q E hr hsp
end
theorem Inv.re {X:Cx}{pins:List (Addr×Obj)}{σ:St} {H:Hp}{s:Shared}(I:Inv X pins σ H s) {pn pins':List (Addr×Obj)}{xe:Value→Shared→Prop}{A:Around}{calm:Bool}(hA:calm=true→A.handled=none) (hf:A.frames=some X.stack) (hp:∀ p∈pn++pins',p∈X.pn++pins) :
 Inv { X with pn:=pn,xe:=xe,A:=A,calm:=calm } pins' σ H s :=
 ⟨⟨I.ok.mod,I.ok.kind,I.ok.glob,I.ok.blt,I.ok.above,I.ok.inj,I.ok.has,I.ok.cab,hA,hf,I.ok.stk,I.ok.exf,I.ok.bs,I.ok.bsz,I.ok.noex,I.ok.exfs,I.ok.funs,I.ok.frf⟩,I.os,I.bare,I.base,I.loc,I.cell,I.free,I.freeC,fun p h=>I.pin p (hp p h),I.hok,I.len⟩
theorem SP.re {X:Cx}{pins:List (Addr×Obj)}{D:Ends}{f:Flow}{s:Shared}{pn pins':List (Addr×Obj)}{xe:Value→Shared→Prop}{A:Around}{calm:Bool}(hA:calm=true→A.handled=none) (hf:A.frames=some X.stack) (hp:∀ p∈pn++pins',p∈X.pn++pins) (h:SP X pins D f s):SP { X with pn:=pn,xe:=xe,A:=A,calm:=calm } pins' D f s:=by
 cases f with
 | next=>obtain ⟨σ',H',I,q⟩:=h; exact ⟨σ',H',I.re hA hf hp,q⟩
 | brk=>obtain ⟨σ',H',I,q⟩:=h; exact ⟨σ',H',I.re hA hf hp,q⟩
 | cont=>obtain ⟨σ',H',I,q⟩:=h; exact ⟨σ',H',I.re hA hf hp,q⟩
 | ret u=>obtain ⟨v,σ',H',I,r,q⟩:=h; exact ⟨v,σ',H',I.re hA hf hp,r,q⟩
section
variable {σ:St} {H:Hp}{D:Ends}{C:Addr}{E:XK}{t:TA}{n:Nat}{tb:XK→TS}{ts:TS}
theorem br6 (h:t σ H fun vs H1=>vs.length≤sizeLine∧E (.ref C) none H1):bl0 C E t D σ H:=h
end
section
variable {X:Cx}{k k':Nat}{f f' C C':Addr}{fd fd':FuncData}{ps ps':List Str}{sp sp':Sp}{m:Str}{pos apos:Pos}{e o:Expr}{es:List Expr}{ta:TE}{t:TA}
end
section
variable {σ:St} {H:Hp}{Q:VK}{ta:TE}{t:TA}{m:Str}{C1 C2:Addr}{sp1 sp2:Sp}
end
section
variable {X:Cx}{tg:Expr}
end
section
variable {σ:St} {H:Hp}{R:It→Hp→Prop}{ts:TA}
end
end L2
namespace L2
end L2
namespace L2
open PySem PySem.Spec PyProof.Rows
@[reducible] def a75 (h:Heap) (T:Addr) (a b:Value):Prop:=h.get? T=some { cls:=.type "tuple",data:=.seq #[a,b] }
theorem a92 {prog:Program}{w:World}{A:Around}{E:Value→Shared→Prop}{s:Shared}{T:Addr}{a b x:Value}{k:Nat}{Q:Unit→Shared→Prop}(h:a75 s.heap T a b)
 (q:∀ h':Heap,h'.get? T=some { cls:=.type "tuple",data:=.seq (#[a,b].setIfInBounds k x) }→Heap.SameBut T s.heap h'→Q () { s with heap:=h' }):wpAny (model prog w) A (updateSeq T fun v=>v.setIfInBounds k x) Q E s:=by
 refine wpAny_updateSeq h rfl (q _ ?_ (Heap.SameBut.update _ _ _)) (by simp [sizeLine_eq]) (by simp [sizeLine_eq])
 rw [Heap.get?_update_self _ h rfl]
 simp [Obj.mapSeq]
structure Apt2 (z TI TO i1 i2 l1 l2:Addr):Prop where
 nd:[z,TI,TO,i1,i2].Nodup
 ls:∀ l∈[l1,l2],l∉[z,TO,i1,i2]
section
variable {prog:Program}{w:World}{z TI TO i1 i2 l1 l2:Addr}{xs ys:Array Value}{st1 st2:Nat→Heap→Prop}
theorem Apt2.all (D:[z,TI,TO,i1,i2].Nodup):z≠TI∧z≠TO∧z≠i1∧z≠i2∧TI≠TO∧TI≠i1∧TI≠i2∧TO≠i1∧TO≠i2∧i1≠i2:=by
 simp only [List.nodup_cons,List.mem_cons,List.not_mem_nil,or_false,not_or,List.nodup_nil,and_true] at D
 obtain ⟨⟨a1,a2,a3,a4⟩,⟨a6,a7,a8⟩,⟨a10,a11⟩,a13,_⟩:=D
 exact ⟨a1,a2,a3,a4,a6,a7,a8,a10,a11,a13⟩
theorem ItS.mv {it l p:Addr}{X:Array Value}{st:Nat→Heap→Prop}{j:Nat}{h h':Heap}(J:ItS prog w it l X st) (hs:st j h) (b:Heap.SameBut p h h') (x1:it≠p) (x2:l≠p):st j h':=J.keep hs fun c o hc e=>by
 rcases hc with rfl | rfl
 · exact a08 b x1 e
 · exact a08 b x2 e
theorem b73 {A:Around}{E:Value→Shared→Prop}{s:Shared}{k:Nat}{x y a b:Value}{Q:Value→Shared→Prop}
 (D:Apt2 z TI TO i1 i2 l1 l2) (J1:ItS prog w i1 l1 xs st1) (J2:ItS prog w i2 l2 ys st2) (hz:IsZip s.heap z TI TO .none) (hTI:a75 s.heap TI (.ref i1) (.ref i2)) (hTO:a75 s.heap TO a b)
 (h1:st1 k s.heap) (h2:st2 k s.heap) (e1:xs[k]?=some x) (e2:ys[k]?=some y)
 (q:∀ h':Heap,IsZip h' z TI TO (rawInt s.heap.objs.size)→a75 h' TO x y→st1 (k+1) h'→st2 (k+1) h'→a75 h' s.heap.objs.size x y→h'.objs.size=s.heap.objs.size+1→(∀ (c:Addr) (o:Obj),c∉[z,TO,i1,i2]→s.heap.get? c=some o→h'.get? c=some o)→Q (.ref s.heap.objs.size) { s with heap:=h' }) :
 wpAny (model prog w) A (Builtin.«zip.__next__» { pos:=[.ref z] }) (fun fin s'=>∃ v,fin=Fin.done (Flow.ret v)∧Q v s') E s:=by
 obtain ⟨D,D2⟩:=D
 unfold Builtin.«zip.__next__»
 refine wpAny_bind (wpAny_pure ?_)
 refine wpAny_bind (wpAny_field (x:=.bool false) hz rfl rfl ?_)
 refine wpAny_bind (wpAny_field (x:=.ref TI) hz rfl rfl ?_)
 refine wpAny_bind (wpAny_seqItems hTI rfl ?_)
 dsimp only
 rw [if_neg (show ¬ (#[Value.ref i1,Value.ref i2].isEmpty=true) by simp)]
 refine wpAny_bind (wpAny_bind (wpAny_field (x:=.none) hz rfl rfl (wpAny_pure ?_)))
 rw [if_pos rfl]
 refine wpAny_bind (wpAny_rule ?_)
 refine wpAny_bind (wpAny_field (x:=.ref TO) hz rfl rfl ?_)
 dsimp only
 refine wpAny_bind (wpAny_setField_rec hz (by simp) fun g1 z1 b1=>?_)
 refine wpAny_bind ?_
 obtain ⟨n1,n2,n3,n4,n6,n7,n8,n10,n11,n13⟩:=Apt2.all D
 obtain ⟨m1,m2,m3,m4⟩:l1≠z∧l1≠TO∧l1≠i1∧l1≠i2:=by simpa using D2 l1 (by simp)
 obtain ⟨m6,m7,m8,m9⟩:l2≠z∧l2≠TO∧l2≠i1∧l2≠i2:=by simpa using D2 l2 (by simp)
 show wpAny (model prog w) A (forIn [(Value.ref i1,0),(Value.ref i2,1)] (none,()) _) _ E _
 rw [List.forIn_cons]
 refine wpAny_bind (wpAny_bind (wpAny_onRaise ?_))
 refine wpAny_bind (m:=Builtin.SmallTypes.nextOf (.ref i1)) (f:=fun v=>pure (some v)) ?_
 refine J1.item (J1.mv h1 b1 n3.symm m1) e1 fun g2 z2 b2=>wpAny_pure ?_
 dsimp only
 refine wpAny_bind (wpAny_seqItems (items:=#[a,b]) (a08 b2 n10 (a08 b1 n2.symm hTO)) rfl ?_)
 dsimp only
 refine wpAny_bind (a92 (a08 b2 n10 (a08 b1 n2.symm hTO)) fun g3 t3 b3=>?_)
 refine wpAny_bind (wpAny_letGo (wpAny_pure ?_))
 dsimp only
 rw [List.forIn_cons]
 refine wpAny_bind (wpAny_bind (wpAny_onRaise ?_))
 refine wpAny_bind (m:=Builtin.SmallTypes.nextOf (.ref i2)) (f:=fun v=>pure (some v)) ?_
 refine J2.item (J2.mv (J2.mv (J2.mv h2 b1 n4.symm m6) b2 n13.symm m8) b3 n11.symm m7) e2 fun g4 z4 b4=>wpAny_pure ?_
 dsimp only
 have t4:a75 g4 TO x b:=a08 b4 n11 (by rw [t3]; rfl)
 refine wpAny_bind (wpAny_seqItems (items:=#[x,b]) t4 rfl ?_)
 dsimp only
 refine wpAny_bind (a92 t4 fun g5 t5 b5=>?_)
 refine wpAny_bind (wpAny_letGo (wpAny_pure ?_))
 dsimp only
 rw [List.forIn_nil]
 refine wpAny_pure ?_
 dsimp only
 have t5':a75 g5 TO x y:=by rw [a75,t5]; rfl
 refine wpAny_bind (wpAny_seqItems (items:=#[x,y]) t5' rfl ?_)
 dsimp only
 refine wpAny_bind (wpAny_newTuple ?_ (by simp [sizeLine_eq]))
 have sz:g5.objs.size=s.heap.objs.size:=by rw [b5.1,b4.1,b3.1,b2.1,b1.1]
 have zz:g5.get? z=some { cls:=.type "zip",data:=.fields #[.ellipsis,.bool false,.bool false,.ref TI,.ref TO] }:=a08 b5 n2 (a08 b4 n4 (a08 b3 n2 (a08 b2 n3 z1)))
 refine wpAny_bind (wpAny_bind ?_)
 refine wpAny_setField_rec (Heap.get?_push_of_some _ zz) (by simp) fun g8 z8 b8=>?_
 refine wpAny_setField_rec z8 (by simp) fun g9 z9 b9=>?_
 refine wpAny_pure ⟨_,rfl,?_⟩
 have lt:∀ {c:Addr}{o:Obj},g5.get? c=some o→c≠g5.objs.size:=fun e=>Nat.ne_of_lt (Heap.lt_size e)
 have mvp:∀ {it l:Addr}{X:Array Value}{st:Nat→Heap→Prop}{j:Nat},ItS prog w it l X st→st j g5→it≠z→l≠z→st j g9:=fun J hs x1 x2=>J.keep hs fun c o hc e=>by
  rcases hc with rfl | rfl
  · exact a08 b9 x1 (a08 b8 x1 (Heap.get?_push_of_some _ e))
  · exact a08 b9 x2 (a08 b8 x2 (Heap.get?_push_of_some _ e))
 have zne:g5.objs.size≠z:=(lt zz).symm
 rw [sz]
 refine q g9 ?_ ?_ (mvp J1 ?_ n3.symm m1) (mvp J2 ?_ n4.symm m6) ?_ ?_ ?_
 · rw [IsZip,z9]
   simp [sz]
 · exact a08 b9 n2.symm (a08 b8 n2.symm (Heap.get?_push_of_some _ t5'))
 · exact J1.mv (J1.mv (J1.mv z2 b3 n10.symm m2) b4 n13 m4) b5 n10.symm m2
 · exact J2.mv z4 b5 n11.symm m7
 · have:=a08 b9 zne (a08 b8 zne (Heap.get?_push_size g5 rfl))
   rw [← sz]
   exact this
 · rw [b9.1,b8.1,Heap.size_push,sz]
 · intro c o hc e
   simp only [List.mem_cons,List.not_mem_nil,or_false,not_or] at hc
   obtain ⟨c1,c2,c3,c4⟩:=hc
   exact a08 b9 c1 (a08 b8 c1 (Heap.get?_push_of_some _ (a08 b5 c2 (a08 b4 c4 (a08 b3 c2 (a08 b2 c3 (a08 b1 c1 e)))))))
theorem bf6 {A:Around}{E:Value→Shared→Prop}{s:Shared}{k:Nat}{a b:Value}{Q:PySem.Fin→Shared→Prop}(hA:A.handled=none)
 (D:Apt2 z TI TO i1 i2 l1 l2) (J1:ItS prog w i1 l1 xs st1) (J2:ItS prog w i2 l2 ys st2) (hz:IsZip s.heap z TI TO .none) (hTI:a75 s.heap TI (.ref i1) (.ref i2)) (hTO:a75 s.heap TO a b)
 (h1:st1 k s.heap) (h2:st2 k s.heap) (e:xs[k]?=none∨ys[k]?=none)
 (q:∀ (h':Heap) (ex:Addr),(∀ (c:Addr) (o:Obj),c∉[z,TO,i1,i2]→s.heap.get? c=some o→h'.get? c=some o)→(∃ o,h'.get? ex=some o∧o.cls=.type "StopIteration")→E (.ref ex) { s with heap:=h' }) :
 wpAny (model prog w) A (Builtin.«zip.__next__» { pos:=[.ref z] }) Q E s:=by
 obtain ⟨D,D2⟩:=D
 unfold Builtin.«zip.__next__»
 refine wpAny_bind (wpAny_pure ?_)
 refine wpAny_bind (wpAny_field (x:=.bool false) hz rfl rfl ?_)
 refine wpAny_bind (wpAny_field (x:=.ref TI) hz rfl rfl ?_)
 refine wpAny_bind (wpAny_seqItems hTI rfl ?_)
 dsimp only
 rw [if_neg (show ¬ (#[Value.ref i1,Value.ref i2].isEmpty=true) by simp)]
 refine wpAny_bind (wpAny_bind (wpAny_field (x:=.none) hz rfl rfl (wpAny_pure ?_)))
 rw [if_pos rfl]
 refine wpAny_bind (wpAny_rule ?_)
 refine wpAny_bind (wpAny_field (x:=.ref TO) hz rfl rfl ?_)
 dsimp only
 refine wpAny_bind (wpAny_setField_rec hz (by simp) fun g1 z1 b1=>?_)
 refine wpAny_bind ?_
 obtain ⟨n1,n2,n3,n4,n6,n7,n8,n10,n11,n13⟩:=Apt2.all D
 obtain ⟨m1,m2,m3,m4⟩:l1≠z∧l1≠TO∧l1≠i1∧l1≠i2:=by simpa using D2 l1 (by simp)
 obtain ⟨m6,m7,m8,m9⟩:l2≠z∧l2≠TO∧l2≠i1∧l2≠i2:=by simpa using D2 l2 (by simp)
 have fin:∀ {it l p:Addr}{X:Array Value}{st:Nat→Heap→Prop}{g:Heap}{Q':Option Value→Shared→Prop},it∈[i1,i2]→ItS prog w it l X st→st k g→X[k]?=none→(∀ (c:Addr) (o:Obj),c∉[z,TO,i1,i2]→s.heap.get? c=some o→g.get? c=some o)→g.get? z=some { cls:=.type "zip",data:=.fields #[.ellipsis,.bool false,.bool false,.ref TI,.ref TO] }→z≠it →
  wpAny (model prog w) A (Builtin.SmallTypes.nextOf (.ref it) >>= fun v=>pure (some v)) Q' (fun e s'=>wpAny (model prog w) A (setField (.ref z) 0 .none) (fun _ s''=>E e s'') E s') { s with heap:=g }:=fun {it l p X st g Q'} hit J hs hx hk hzz hne=>by
  refine wpAny_bind (J.done hA hs hx fun g' ex b' hex=>?_)
  refine wpAny_setField_rec (b' _ _ hne hzz) (by simp) fun g'' z'' b''=>q g'' ex (fun c o hc e=>?_) ?_
  · have hc':=hc
    simp only [List.mem_cons,List.not_mem_nil,or_false,not_or] at hc
    refine a08 b'' hc.1 (b' c o (fun hq=>?_) (hk c o hc' e))
    subst hq
    simp only [List.mem_cons,List.not_mem_nil,or_false] at hit
    rcases hit with h | h
    · exact hc.2.2.1 h
    · exact hc.2.2.2 h
  · obtain ⟨o,e1,e2⟩:=hex
    by_cases hq:ex=z
    · subst hq
      rw [b' _ _ hne hzz] at e1
      cases e1
      simp at e2
    · exact ⟨o,a08 b'' hq e1,e2⟩
 show wpAny (model prog w) A (forIn [(Value.ref i1,0),(Value.ref i2,1)] (none,()) _) _ E _
 rw [List.forIn_cons]
 refine wpAny_bind (wpAny_bind (wpAny_onRaise ?_))
 have k1:∀ (c:Addr) (o:Obj),c∉[z,TO,i1,i2]→s.heap.get? c=some o→g1.get? c=some o:=fun c o hc e=>by
  simp only [List.mem_cons,List.not_mem_nil,or_false,not_or] at hc
  exact a08 b1 hc.1 e
 cases hx1:xs[k]? with
 | none=>exact fin (p:=z) (by simp) J1 (J1.mv h1 b1 n3.symm m1) hx1 k1 z1 n3
 | some x =>
   refine wpAny_bind (m:=Builtin.SmallTypes.nextOf (.ref i1)) (f:=fun v=>pure (some v)) ?_
   refine J1.item (J1.mv h1 b1 n3.symm m1) hx1 fun g2 z2 b2=>wpAny_pure ?_
   dsimp only
   refine wpAny_bind (wpAny_seqItems (items:=#[a,b]) (a08 b2 n10 (a08 b1 n2.symm hTO)) rfl ?_)
   dsimp only
   refine wpAny_bind (a92 (a08 b2 n10 (a08 b1 n2.symm hTO)) fun g3 t3 b3=>?_)
   refine wpAny_bind (wpAny_letGo (wpAny_pure ?_))
   dsimp only
   rw [List.forIn_cons]
   refine wpAny_bind (wpAny_bind (wpAny_onRaise ?_))
   have k3:∀ (c:Addr) (o:Obj),c∉[z,TO,i1,i2]→s.heap.get? c=some o→g3.get? c=some o:=fun c o hc e=>by
    have hc':=hc
    simp only [List.mem_cons,List.not_mem_nil,or_false,not_or] at hc
    exact a08 b3 hc.2.1 (a08 b2 hc.2.2.1 (k1 c o hc' e))
   have zz3:=a08 b3 n2 (a08 b2 n3 z1)
   have hx2:ys[k]?=none:=by
    rcases e with e | e
    · rw [hx1] at e; cases e
    · exact e
   exact fin (p:=z) (by simp) J2 (J2.mv (J2.mv (J2.mv h2 b1 n4.symm m6) b2 n13.symm m8) b3 n11.symm m7) hx2 k3 zz3 n4
theorem af6 {A:Around}{E:Value→Shared→Prop}{s:Shared}{k:Nat}{x y a b:Value}{Q:Option Value→Shared→Prop}
 (D:Apt2 z TI TO i1 i2 l1 l2) (J1:ItS prog w i1 l1 xs st1) (J2:ItS prog w i2 l2 ys st2) (hz:IsZip s.heap z TI TO .none) (hTI:a75 s.heap TI (.ref i1) (.ref i2)) (hTO:a75 s.heap TO a b)
 (h1:st1 k s.heap) (h2:st2 k s.heap) (e1:xs[k]?=some x) (e2:ys[k]?=some y)
 (q:∀ h':Heap,IsZip h' z TI TO (rawInt s.heap.objs.size)→a75 h' TO x y→st1 (k+1) h'→st2 (k+1) h'→a75 h' s.heap.objs.size x y→h'.objs.size=s.heap.objs.size+1→(∀ (c:Addr) (o:Obj),c∉[z,TO,i1,i2]→s.heap.get? c=some o→h'.get? c=some o)→Q (some (.ref s.heap.objs.size)) { s with heap:=h' }) :
 wpAny (model prog w) A (pyNext (.ref z)) Q E s:=by
 unfold pyNext
 refine wpAny_bind (wpAny_attempt (wpAny_callSpecial?_slot (T:="zip") ⟨_,hz,rfl⟩ F.slot_zip_next (wpAny_call_entry F.slot_zip_next ⟨_,hz,rfl⟩ F.entry_zip_next ?_ (F.args_zip_next_1 _))))
 exact b73 D J1 J2 hz hTI hTO h1 h2 e1 e2 fun h' a1 a2 a3 a4 a6 a7 a8=>wpAny_pure (q h' a1 a2 a3 a4 a6 a7 a8)
theorem ai2 {A:Around}{E:Value→Shared→Prop}{s:Shared}{k:Nat}{a b:Value}{Q:Option Value→Shared→Prop}(hA:A.handled=none)
 (D:Apt2 z TI TO i1 i2 l1 l2) (J1:ItS prog w i1 l1 xs st1) (J2:ItS prog w i2 l2 ys st2) (hz:IsZip s.heap z TI TO .none) (hTI:a75 s.heap TI (.ref i1) (.ref i2)) (hTO:a75 s.heap TO a b)
 (h1:st1 k s.heap) (h2:st2 k s.heap) (e:xs[k]?=none∨ys[k]?=none)
 (q:∀ h':Heap,(∀ (c:Addr) (o:Obj),c∉[z,TO,i1,i2]→s.heap.get? c=some o→h'.get? c=some o)→Q none { s with heap:=h' }):wpAny (model prog w) A (pyNext (.ref z)) Q E s:=by
 unfold pyNext
 refine wpAny_bind (wpAny_attempt (wpAny_callSpecial?_slot (T:="zip") ⟨_,hz,rfl⟩ F.slot_zip_next (wpAny_call_entry F.slot_zip_next ⟨_,hz,rfl⟩ F.entry_zip_next ?_ (F.args_zip_next_1 _))))
 refine bf6 (by exact hA) D J1 J2 hz hTI hTO h1 h2 e ?_
 rintro h' ex hk ⟨o,x1,x2⟩
 refine wpAny_bind (wpAny_isInstance (T:="StopIteration") ⟨o,x1,x2⟩ isSubtype_stop ?_)
 rw [if_pos rfl]
 exact wpAny_pure (q h' hk)
end
@[reducible] def z2H (h:Heap) (o1 o2:Obj):Heap:=((((h.push o1).push o2).push { cls:=.type "tuple",data:=.seq #[.ref h.objs.size,.ref (h.objs.size+1)] }).push { cls:=.type "tuple",data:=.seq #[.none,.none] }).push { cls:=.type "zip",data:=.fields #[.none,.bool false,.bool false,.ref (h.objs.size+2),.ref (h.objs.size+3)] }
theorem b14 {l1 l2:Addr}{o1 o2:Obj}{P1 P2:Heap→Prop}(S1:SrcO l1 o1 P1) (S2:SrcO l2 o2 P2):Meets (Builtin.«zip.__new__» { pos:=[.type "zip",.ref l1,.ref l2] }) fun _ R s=>P1 s.heap∧P2 s.heap∧R (.ok (.ret (.ref (s.heap.objs.size+4)))) { s with heap:=z2H s.heap o1 o2 }:=by
 refine Meets.of_wp ?_
 rintro prog w A R s ⟨p1,p2,r⟩
 unfold Builtin.«zip.__new__»
 refine wpAny_bind ?_
 unfold Builtin.SmallTypes.newClass
 dsimp only
 refine wpAny_bind (wpAny_pure ?_)
 rw [if_neg (by decide)]
 refine wpAny_bind ?_
 rw [sub_zip]
 refine wpAny_pure ?_
 rw [if_neg (by decide)]
 refine wpAny_pure ?_
 dsimp only
 rw [if_neg (by decide)]
 refine wpAny_bind ?_
 unfold Builtin.SmallTypes.iterAll
 refine wpAny_bind ?_
 rw [List.forIn_cons]
 refine wpAny_bind (wpAny_bind (wpAny_holding (S1.iter p1 (wpAny_pure ?_))))
 dsimp only
 rw [List.forIn_cons]
 refine wpAny_bind (wpAny_bind (wpAny_holding (S2.iter (S2.push p2) (wpAny_pure ?_))))
 dsimp only
 rw [List.forIn_nil]
 refine wpAny_pure (wpAny_pure ?_)
 refine wpAny_bind (wpAny_newTuple ?_ (by simp [sizeLine_eq]))
 refine wpAny_bind (wpAny_newTuple ?_ (by simp [sizeLine_eq]))
 refine wpAny_bind ?_
 refine wpAny_bind (wpAny_alloc' ?_)
 refine wpAny_pure ?_
 refine wpAny_pure ⟨_,rfl,?_⟩
 simp only [Heap.size_push]
 exact r
theorem ai3 (a b:Value):checkTypeCall "zip" { pos:=[a,b] }=pure ():=by
 with_unfolding_all rfl
theorem ak1 (a b:Value):checkBuiltinCall "zip.__new__" { pos:=[.type "zip",a,b] }=pure ():=by
 with_unfolding_all rfl
theorem ar8 (a b c:Value):argsOk "object.__init__" { pos:=[a,b,c] }:=by
 with_unfolding_all rfl
theorem au7 {prog:Program}{w:World}{A:Around}{E:Value→Shared→Prop}{s:Shared}{l1 l2:Addr}{xs ys:Array Value}{Q:Value→Shared→Prop}(p1:s.heap.IsList l1 xs) (p2:s.heap.IsTuple l2 ys)
 (q:∀ h':Heap,IsZip h' (s.heap.objs.size+4) (s.heap.objs.size+2) (s.heap.objs.size+3) .none→a75 h' (s.heap.objs.size+2) (.ref s.heap.objs.size) (.ref (s.heap.objs.size+1))→a75 h' (s.heap.objs.size+3) .none .none →
  h'.IsListIter s.heap.objs.size l1 0→h'.IsTupleIter (s.heap.objs.size+1) l2 0→(∀ (c:Addr) (o:Obj),s.heap.get? c=some o→h'.get? c=some o)→Q (.ref (s.heap.objs.size+4)) { s with heap:=h' }) :
 wpAny (model prog w) A (call (.type "zip") [.ref l1,.ref l2]) Q E s:=by
 refine callType_new F.called_zip (by decide) (ai3 _ _) (ak1 _ _) (fun obj=>ar8 _ _ _) F.entry_zip_new (b14 (be9 l1 xs) (b72 l2 ys)) ⟨p1,p2,?_⟩
 have e4:(z2H s.heap { cls:=.type "list_iterator",data:=.fields #[.ref l1,.int 0 0] } { cls:=.type "tuple_iterator",data:=.fields #[.ref l2,.int 0 0] }).get? (s.heap.objs.size+4)=some { cls:=.type "zip",data:=.fields #[.none,.bool false,.bool false,.ref (s.heap.objs.size+2),.ref (s.heap.objs.size+3)] }:=by
  have:=Heap.get?_push_size ((((s.heap.push { cls:=.type "list_iterator",data:=.fields #[.ref l1,.int 0 0] }).push { cls:=.type "tuple_iterator",data:=.fields #[.ref l2,.int 0 0] }).push { cls:=.type "tuple",data:=.seq #[.ref s.heap.objs.size,.ref (s.heap.objs.size+1)] }).push { cls:=.type "tuple",data:=.seq #[.none,.none] }) (o:={ cls:=.type "zip",data:=.fields #[.none,.bool false,.bool false,.ref (s.heap.objs.size+2),.ref (s.heap.objs.size+3)] }) rfl
  simp only [Heap.size_push] at this
  exact this
 refine ⟨⟨_,e4,rfl⟩,q _ e4 ?_ ?_ ?_ ?_ ?_⟩
 · have:=Heap.get?_push_size ((s.heap.push { cls:=.type "list_iterator",data:=.fields #[.ref l1,.int 0 0] }).push { cls:=.type "tuple_iterator",data:=.fields #[.ref l2,.int 0 0] }) (o:={ cls:=.type "tuple",data:=.seq #[.ref s.heap.objs.size,.ref (s.heap.objs.size+1)] }) rfl
   simp only [Heap.size_push] at this
   exact Heap.get?_push_of_some _ (Heap.get?_push_of_some _ this)
 · have:=Heap.get?_push_size (((s.heap.push { cls:=.type "list_iterator",data:=.fields #[.ref l1,.int 0 0] }).push { cls:=.type "tuple_iterator",data:=.fields #[.ref l2,.int 0 0] }).push { cls:=.type "tuple",data:=.seq #[.ref s.heap.objs.size,.ref (s.heap.objs.size+1)] }) (o:={ cls:=.type "tuple",data:=.seq #[.none,.none] }) rfl
   simp only [Heap.size_push] at this
   exact Heap.get?_push_of_some _ this
 · refine ⟨_,Heap.get?_push_of_some _ (Heap.get?_push_of_some _ (Heap.get?_push_of_some _ (Heap.get?_push_of_some _ (Heap.get?_push_size s.heap rfl)))),rfl,rfl⟩
 · have:=Heap.get?_push_size (s.heap.push { cls:=.type "list_iterator",data:=.fields #[.ref l1,.int 0 0] }) (o:={ cls:=.type "tuple_iterator",data:=.fields #[.ref l2,.int 0 0] }) rfl
   simp only [Heap.size_push] at this
   exact ⟨_,Heap.get?_push_of_some _ (Heap.get?_push_of_some _ (Heap.get?_push_of_some _ this)),rfl,rfl⟩
 · intro c o e
   exact Heap.get?_push_of_some _ (Heap.get?_push_of_some _ (Heap.get?_push_of_some _ (Heap.get?_push_of_some _ (Heap.get?_push_of_some _ e))))
def bf7 (K:PySem.W.Frag) (a b:Addr):It :=
 ⟨fun i H=>∃ xs ys x y,SqL K H a xs∧SqT K H b ys∧xs[i]?=some x∧ys[i]?=some y,
  fun i H v H'=>∃ p x y,v=.ref p∧H p=none∧Same H H'∧H' p=some (.tup [x,y])∧(∀ xs,SqL K H a xs→xs[i]?=some x)∧(∀ ys,SqT K H b ys→ys[i]?=some y),
  fun i H=>∃ xs ys,SqL K H a xs∧SqT K H b ys∧(xs.length≤i∨ys.length≤i)⟩
theorem b15 {P:Program}{w:World}{K:PySem.W.Frag}{elts:List Expr}{x1:Nat}{pos:Pos}(a b z TI TO i1 i2:Addr) (D:Apt2 z TI TO i1 i2 a b) (E1:a≠i1) (E2:b≠i2) :
 Turn P w K (.Tuple elts x1 pos) (bf7 K a b) [z,TI,TO,i1,i2] z (fun i h=>IsZip h z TI TO .none∧a75 h TI (.ref i1) (.ref i2)∧(∃ a b,a75 h TO a b)∧h.IsListIter i1 a i∧h.IsTupleIter i2 b i) where
 mem:=by simp
 obj:=fun i h st d hd=>by
  obtain ⟨hz,hTI,⟨a,b,hTO⟩,⟨o1,h1,_,d1⟩,⟨o2,h2,_,d2⟩⟩:=st
  rcases (by simpa using hd:d=z∨d=TI∨d=TO∨d=i1∨d=i2) with rfl | rfl | rfl | rfl | rfl
  · exact ⟨_,hz,fun v q=>by cases q⟩
  · exact ⟨_,hTI,fun v q=>by cases q⟩
  · exact ⟨_,hTO,fun v q=>by cases q⟩
  · exact ⟨_,h1,fun v q=>by rw [d1] at q; cases q⟩
  · exact ⟨_,h2,fun v q=>by rw [d2] at q; cases q⟩
 keep:=fun i h h' st k=>by
  obtain ⟨hz,hTI,⟨a,b,hTO⟩,h1,h2⟩:=st
  exact ⟨k z (by simp) _ hz,k TI (by simp) _ hTI,⟨a,b,k TO (by simp) _ hTO⟩,h1.at fun o x=>k i1 (by simp) o x,al8 h2 fun o x=>k i2 (by simp) o x⟩
 item:=by
  intro X hP hw hK hc i pins s σ H E I hf st hg
  subst hP hw hK
  obtain ⟨xs,ys,x,y,hqa,hqb,hx,hy⟩:=hg
  obtain ⟨it1,rv1,p1,hz1⟩:=I.list hqa
  obtain ⟨it2,rv2,p2,hz2⟩:=I.tuple hqb
  obtain ⟨u1,hu1,ru1⟩:=rv1.get hx
  obtain ⟨u2,hu2,ru2⟩:=rv2.get hy
  obtain ⟨hz,hTI,⟨a',b',hTO⟩,h1,h2⟩:=st
  have fr:H s.heap.objs.size=none:=I.hok.fresh (Nat.le_refl _)
  have lt:∀ d∈[z,TI,TO,i1,i2],d<s.heap.objs.size:=fun d hd=>by
   obtain ⟨o1,e1,_⟩:=h1
   obtain ⟨o2,e2,_⟩:=h2
   rcases (by simpa using hd:d=z∨d=TI∨d=TO∨d=i1∨d=i2) with rfl | rfl | rfl | rfl | rfl
   · exact Heap.lt_size hz
   · exact Heap.lt_size hTI
   · exact Heap.lt_size hTO
   · exact Heap.lt_size e1
   · exact Heap.lt_size e2
  refine af6 (k:=i) D (ax7 (xs:=it1.toArray) E1) (ar7 (xs:=it2.toArray) E2) hz hTI hTO ⟨h1,p1.isList⟩ ⟨h2,p2⟩ (x:=u1) (y:=u2) (by simpa using hu1) (by simpa using hu2) fun h' a1 a2 a3 a4 a6 a7 hk=>?_
  have I1:Inv X pins σ H { s with heap:=h' }:=I.turnedL (t':=s.toks) (ch:=[z,TI,TO,i1,i2]) (fun d o hd q=>hk d o (fun e=>hd (by simp at e ⊢; rcases e with e | e | e | e <;> simp [e])) q) hf
  have I2:Inv X pins σ (upd H s.heap.objs.size (.tup [x,y])) { s with heap:=h' }:=I1.adopt (o:=.tup [x,y]) fr I.sz (Nat.ne_of_gt I.lt) (fun n c ec e=>by
   obtain ⟨v,q⟩:=I.cell n c ec
   exact absurd q.lt (by rw [e]; exact Nat.lt_irrefl _)) (fun q hq e=>absurd (Heap.lt_size (I.pin q hq).1) (by rw [e]; exact Nat.lt_irrefl _))
   ⟨le_line (by simp),[u1,u2],.cons ru1 (.cons ru2 .nil),⟨_,a6,rfl,_,rfl⟩⟩
  have hf2:∀ d∈[z,TI,TO,i1,i2],FpOk X pins (upd H s.heap.objs.size (.tup [x,y])) d:=fun d hd=>⟨by rw [a09 (Nat.ne_of_lt (lt d hd))]; exact (hf d hd).1,(hf d hd).2⟩
  obtain ⟨nd,_⟩:=D
  obtain ⟨n1,n2,n3,n4,n6,n7,n8,n10,n11,n13⟩:=Apt2.all nd
  refine ⟨_,rfl,wpAny_letOwnedTupleGo_zip a1 fun h2' hz' hs'=>⟨.ref s.heap.objs.size,_,I2.turnedL (t':=s.toks) (ch:=[z]) (fun d o hd q=>(hs'.2 d (fun e=>hd (by simp [e]))).trans q) (fun d hd=>hf2 d (by simp at hd; simp [hd])),rfl,⟨s.heap.objs.size,x,y,rfl,fr,Same.new fr,a17,fun q hq=>by rw [I.list_inj hq hqa]; exact hx,fun q hq=>by rw [I.tuple_inj hq hqb]; exact hy⟩,⟨hz',a08 hs' (Ne.symm n1) (hk _ _ (by simp [Ne.symm n1,n6,n7,n8]) hTI),⟨_,_,a08 hs' (Ne.symm n2) a2⟩,a3.1.extBut hs'.extBut (Ne.symm n3),a4.1.extBut hs'.extBut (Ne.symm n4)⟩,fun d hd=>(hf2 d hd).1⟩⟩
 done:=by
  intro X hP hw hK hc i pins s σ H E I hf st hg
  subst hP hw hK
  obtain ⟨xs,ys,hqa,hqb,hx⟩:=hg
  obtain ⟨it1,rv1,p1,hz1⟩:=I.list hqa
  obtain ⟨it2,rv2,p2,hz2⟩:=I.tuple hqb
  obtain ⟨hz,hTI,⟨a',b',hTO⟩,h1,h2⟩:=st
  have l1:=rv1.length
  have l2:=rv2.length
  refine ai2 (k:=i) (I.ok.hd hc) D (ax7 (xs:=it1.toArray) E1) (ar7 (xs:=it2.toArray) E2) hz hTI hTO ⟨h1,p1.isList⟩ ⟨h2,p2⟩ ?_ fun h' hk=>⟨rfl,I.turnedL (t':=s.toks) (ch:=[z,TI,TO,i1,i2]) (fun d o hd q=>hk d o (fun e=>hd (by simp at e ⊢; rcases e with e | e | e | e <;> simp [e])) q) hf⟩
  rcases hx with e | e
  · exact .inl (by simp; omega)
  · exact .inr (by simp; omega)
 self:=fun A i s Q E st h=>wpAny_pyIter_zip st.1 h
section
variable {X:Cx}{elts:List Expr}{x1:Nat}{tpos:Pos}
def bl3 (K:PySem.W.Frag) (ta:TA):TI:=fun σ H R=>ta σ H fun vs H1=>∃ a b,vs=[.ref a,.ref b]∧(∃ xs,SqL K H1 a xs)∧(∃ ys,SqT K H1 b ys)∧R (bf7 K a b) H1
theorem bf8 (K:PySem.W.Frag) {a b:Expr}{ta:TA}{p pos:Pos}(hg:Gl X "zip") (hm:X.mg "zip"=none) (ha:PA X [a,b] ta) (hs:starEach [a,b] X.env=[(false,eval a X.env),(false,eval b X.env)]:=by rfl) (hs2:starEach [b] X.env=[(false,eval b X.env)]:=by rfl) (hK:X.K=K:=by rfl) :
 PI X (.Tuple elts x1 tpos) (.Call (.Name "zip" p) [a,b] [] pos) (bl3 K ta):=by
 subst hK
 intro pins s σ H R I h
 refine Call_ (ak9 I hg hm b61 (PyProof.Rows.callWith_type1 (thn (ha pos pins s σ H _ I h) fun us s1 ⟨vs,H1,I1,r1,q1⟩=>?_) (by rw [hs,hs2]) (by rw [hs2]; rfl)))
 obtain ⟨l1,l2,e,⟨xs,hq1⟩,⟨ys,hq2⟩,q⟩:=q1
 subst e
 obtain ⟨u1,u2,rfl,r2,r3⟩:=by4 r1
 cases r2
 cases r3
 obtain ⟨it1,rv1,p1,hz1⟩:=I1.list hq1
 obtain ⟨it2,rv2,p2,hz2⟩:=I1.tuple hq2
 have a1:l1<s1.heap.objs.size:=by obtain ⟨_,e,_⟩:=p1.isList; exact Heap.lt_size e
 have a2:l2<s1.heap.objs.size:=by obtain ⟨_,e,_⟩:=p2; exact Heap.lt_size e
 refine au7 p1.isList p2 fun h' b1 b2 b3 b4 b5 hk=>?_
 refine wpAny_pyIter_zip b1 ?_
 have fp:∀ d,s1.heap.objs.size≤d→FpOk X pins H1 d:=fun d hd=>I1.fpOk hd (I1.hok.fresh hd)
 generalize s1.heap.objs.size=m at a1 a2 b1 b2 b3 b4 b5 fp ⊢
 have hA1:l1<m:=a1
 have hA2:l2<m:=a2
 have ne:∀ {l k:Addr},l<m→l≠m+k:=fun {l k} h=>Nat.ne_of_lt (Nat.lt_of_lt_of_le h (Nat.le_add_right _ _))
 have D:Apt2 (m+4) (m+2) (m+3) m (m+1) l1 l2:=by
  constructor
  · simp
  · intro l hl
    have hlm:l<m:=by
     simp only [List.mem_cons,List.not_mem_nil,or_false] at hl
     rcases hl with rfl | rfl
     · exact hA1
     · exact hA2
    simp only [List.mem_cons,List.not_mem_nil,or_false,not_or]
    exact ⟨ne hlm,ne hlm,Nat.ne_of_lt hlm,ne hlm⟩
 refine ⟨m+4,[m+4,m+2,m+3,m,m+1],_,_,H1,rfl,I1.kept (t':=s1.toks) hk,b15 l1 l2 _ _ _ _ _ D (Nat.ne_of_lt hA1) (ne hA2),⟨b1,b2,⟨_,_,b3⟩,b4,b5⟩,fun d hd=>fp d ?_,q⟩
 simp only [List.mem_cons,List.not_mem_nil,or_false] at hd
 rcases hd with rfl | rfl | rfl | rfl | rfl
 · exact Nat.le_add_right _ _
 · exact Nat.le_add_right _ _
 · exact Nat.le_add_right _ _
 · exact Nat.le_refl _
 · exact Nat.le_add_right _ _
end
theorem br7 {K:PySem.W.Frag}{σ:St} {H:Hp}{R:It→Hp→Prop}{ts:TA}(h:ts σ H fun vs H1=>∃ a b,vs=[.ref a,.ref b]∧(∃ xs,SqL K H1 a xs)∧(∃ ys,SqT K H1 b ys)∧R (bf7 K a b) H1):bl3 K ts σ H R:=h
theorem bf9 {K:PySem.W.Frag}{a b:Addr}{xs ys:List V}{te:TE}{tt:TT}{caps:List Nat}{σ:St} {H:Hp}{Q:VK}(hl2:xs.length=ys.length) (hz:xs.length≤sizeLine) (Pv:Nat→List V→Hp→Prop) (h0:Pv 0 [] H) (hl:∀ i acc H,Pv i acc H→acc.length≤i∧SqL K H a xs∧SqT K H b ys)
 (hs:∀ i x z acc H H2,xs[i]?=some x→ys[i]?=some z→Pv i acc H→Same H H2→tt (some x::some z::capV caps σ) H2 fun b H4=>if b=true then te (some x::some z::capV caps σ) H4 fun y H5=>Pv (i+1) (acc++[y]) H5 else Pv (i+1) acc H4)
 (hd:∀ acc H,Pv xs.length acc H→New H (.lst acc) Q):ah4 (bf7 K a b) (gTup K 2 (ap0 (ad2 0) (ap0 (ad2 1) gNil))) tt te 2 caps σ H Q:=by
 refine ⟨fun i m acc σ' H=>m=xs.length - i∧i≤xs.length∧(∃ u v,σ'=u::v::capV caps σ)∧Pv i acc H,⟨xs.length,by simp,Nat.zero_le _,⟨none,none,rfl⟩,h0⟩,?_⟩
 rintro i m acc σ' H' ⟨rfl,hi,⟨u0,v0,rfl⟩,p⟩
 obtain ⟨hl1,hq,hq2⟩:=hl i acc H' p
 by_cases hlt:i<xs.length
 · have hlt2:i<ys.length:=by omega
   refine .inr ⟨⟨xs,ys,xs[i],ys[i],hq,hq2,by simp [hlt],by simp [hlt2]⟩,by omega,fun ac σ2 H2=>(∃ u v,σ2=u::v::capV caps σ)∧Pv (i+1) ac H2,fun ac σ2 H2 ⟨e,p'⟩=>⟨xs.length - (i+1),by omega,rfl,hlt,e,p'⟩,fun x H2 y=>?_⟩
   obtain ⟨q,x,z,rfl,hn,sm,hT,hx,hy⟩:=y
   have hst:=hs i x z acc H' H2 (hx xs hq) (hy ys hq2) p sm
   have eN:∀ ac H5,((∃ u1 v1,some x::some z::capV caps σ=u1::v1::capV caps σ)∧Pv (i+1) ac H5)=Pv (i+1) ac H5:=fun ac H5=>propext ⟨And.right,fun p=>⟨⟨_,_,rfl⟩,p⟩⟩
   refine ⟨q,[x,z],rfl,SqT.of hT,rfl,x,[z],rfl,z,[],rfl,rfl,?_⟩
   show tt (some x::some z::capV caps σ) _ fun b H4=>if b=true then te (some x::some z::capV caps σ) H4 fun y H5=>((∃ u1 v1,some x::some z::capV caps σ=u1::v1::capV caps σ)∧Pv (i+1) (acc++[y]) H5) else ((∃ u1 v1,some x::some z::capV caps σ=u1::v1::capV caps σ)∧Pv (i+1) acc H4)
   simp only [eN]
   exact hst
 · have e:i=xs.length:=by omega
   subst e
   exact .inl ⟨⟨xs,ys,hq,hq2,.inl (Nat.le_refl _)⟩,New.to (hd acc H' p)⟩
section
variable {X:Cx}
end
theorem b74 {P:Program}{w:World}{K:PySem.W.Frag}{mg:Str→Option Value}{base:Heap}{N:List Str}{qual:Str}{scope:Scope}{f C:Addr}{cd:Value}{A:Around}{outer:List Env}{s:Shared}{H:Hp}{E:XK} :
 ab5 (CXE P w C) (cxOf (CXE P w C) P w K mg base N qual scope f cd A outer s H E) E:=by
 intro pins σ H0 s0 e s' I hc
 obtain ⟨a,tt,H',B,vs,rfl,os,bare,un,ok,cov,fl,tup,q⟩:=hc
 have I1:Inv (cxOf (CXE P w C) P w K mg base N qual scope f cd A outer s H E) pins σ H' s':=I.call' (ch:=[]) os un ok bare (fun b z=>absurd z (by simp))
 have hstk:=I1.stack
 have hfree:=I1.stkFree
 have hfrm:=I1.ok.frames
 have hun0:=I.base
 have hun:=I1.base
 have hok:=I1.hok
 have hos:=I1.os
 have hbare:=I1.bare
 have hfrf:=I1.ok.frf
 dsimp only [cxOf,Cx.fs] at hstk hfree hfrm hun hun0 hok hos hfrf un cov fl ⊢
 have hin:∀ env∈(envOfC qual scope s.heap.objs.size f cd::outer),∀ b,env.frame=some b→b∈frs (envOfC qual scope s.heap.objs.size f cd::outer):=fun env he b hb=>List.mem_filterMap.mpr ⟨env,he,hb⟩
 have hmem:∀ b,b∈frs outer→b∈frs (envOfC qual scope s.heap.objs.size f cd::outer):=fun b hb=>by
  obtain ⟨env,he,hf⟩:=List.mem_filterMap.mp hb
  exact hin env (List.mem_cons_of_mem _ he) b hf
 have notin:∀ b o,s.heap.get? b=some o→b∉frs outer→b∉frs (envOfC qual scope s.heap.objs.size f cd::outer):=fun b o e hb hm=>by
  obtain ⟨env,he,hf⟩:=List.mem_filterMap.mp hm
  rcases List.mem_cons.mp he with rfl | he
  · have z:s.heap.objs.size=b:=Option.some.inj hf
    rw [← z] at e
    exact absurd (Heap.lt_size e) (Nat.lt_irrefl _)
  · exact hb (List.mem_filterMap.mpr ⟨env,he,hf⟩)
 refine wpAny_leaves_onW hfrm rfl fl fun h2 fl2 up=>?_
 have cov2:Cov (frs outer) H H' s.heap s'.heap B :=
  ⟨fun b o e n hb=>cov.old b o (hun0.keep b o e n hb (by simp)) (hun0.free b o e n (by simp)) (notin b o e hb),fun b o e hb=>by
   obtain ⟨o',e'⟩:=hun0.there b o e (by simp)
   exact cov.ther b o' e' (notin b o e hb),cov.abs⟩
 obtain ⟨u2,ok2,c2⟩:=ay0 hun hok cov2 fl2.1 up (fun b hb=>⟨hfrf b hb,fun o e=>by
  obtain ⟨_,o',e',hd⟩:=hstk.mem (hmem b hb)
  rw [e] at e'
  cases e'
  exact hd⟩) fun b hb=>hfree b (hmem b hb)
 exact ⟨a,tt,H',B,vs,rfl,hos,hbare,u2,ok2,c2,fl2,tup.of_slots up,q⟩
section
variable {X:Cx}
end
inductive PrT (H:Hp):List V→List (Tr×V)→Prop
 | nil:PrT H [] []
 | cons {p:Addr}{t:Tr}{y v:V}{vs:List V}{kvs:List (Tr×V)}:H p=some (.tup [y,v])→TK H t y→PrT H vs kvs→PrT H (.ref p::vs) ((t,v)::kvs)
theorem PrT.mono {H H':Hp}(k:Tups H H') {vs:List V}{kvs:List (Tr×V)}(h:PrT H vs kvs):PrT H' vs kvs:=by
 induction h with
 | nil=>exact .nil
 | cons e a _ ih=>exact .cons (k _ _ e) (a.mono k) ih
theorem PrT.snoc {H:Hp}{vs:List V}{kvs:List (Tr×V)}{p:Addr}{t:Tr}{y v:V}(h:PrT H vs kvs) (e:H p=some (.tup [y,v])) (a:TK H t y):PrT H (vs++[.ref p]) (kvs++[(t,v)]):=by
 induction h with
 | nil=>exact .cons e a .nil
 | cons e' a' _ ih=>exact .cons e' a' ih
theorem PrT.len {H:Hp}{vs:List V}{kvs:List (Tr×V)}(h:PrT H vs kvs):kvs.length=vs.length:=by
 induction h with
 | nil=>rfl
 | cons _ _ _ ih=>simp [ih]
theorem PrT.at_ {H:Hp}{vs:List V}{kvs:List (Tr×V)}(h:PrT H vs kvs):∀ (j:Nat) (x:V),vs[j]?=some x→∃ p t y v,x=.ref p∧H p=some (.tup [y,v])∧TK H t y∧kvs[j]?=some (t,v):=by
 induction h with
 | nil=>intro j x e; simp at e
 | cons e a _ ih =>
   intro j x ej
   cases j with
   | zero=>simp at ej; exact ⟨_,_,_,_,ej.symm,e,a,rfl⟩
   | succ j=>exact ih j x (by simpa using ej)
noncomputable def ae1 (kvs:List (Tr×V)) (ps:List (Tr×V)):List (Tr×V):=ps.foldl (fun k x=>putK k x.1 x.2) kvs
def b75 (P:Params) (K:PySem.W.Frag):List V→Hp→VK→Prop:=fun xs H Q=>∃ l vs kvs,xs=[.ref l]∧SqL K H l vs∧PrT H vs kvs∧∀ p o,H p=none→DtAt P (upd H p o) p (ae1 [] kvs)→Q (.ref p) (upd H p o)
section
variable {X:Cx}{P:Params}
theorem bg0 {H:Hp}{a:Addr}{o o':HO}:upd (upd H a o) a o'=upd H a o':=by
 funext b
 by_cases h:b=a
 · subst h; rw [a17,a17]
 · rw [a09 h,a09 h,a09 h]
theorem cd0 {A:Around}{R:Result→Shared→Prop}{pins:List (Addr×Obj)}{σ:St} {H:Hp}{d it l:Addr}{vs:List V}{ps:List (Tr×V)}{res:Value}(hu:A.units+20<cLine) (hA:A.handled=none) (hq:SqL X.K H l vs) (hp:PrT H vs ps) (hdH:H d=none) (hdi:d≠it) (fi:FpOk X pins H it) :
 ∀ (n i:Nat) (s:Shared) (kvs:List (Tr×V)) (o:HO),vs.length - i=n→i≤vs.length→s.heap.IsListIter it l i→Inv X pins σ (upd H d o) s→DtAt X.w.params (upd H d o) d kvs→kvs.length+n≤sizeLine →
 (∀ o' s',Inv X pins σ (upd H d o') s'→DtAt X.w.params (upd H d o') d (ae1 kvs (ps.drop i))→R (.ok (.ret res)) s') →
 codeAny (model X.prog X.w) A (.builtin "dict.update.loop" ⟨[.ref d,.ref it,rawInt i,res],[]⟩) R s:=by
 have sd:∀ o,Same H (upd H d o):=fun o=>Same.new hdH
 have fi':∀ o,FpOk X pins (upd H d o) it:=fun o=>⟨by rw [a09 (Ne.symm hdi)]; exact fi.1,fi.2⟩
 intro n
 induction n with
 | zero =>
   intro i s kvs o hn hi hit I g hz hR
   have e:i=vs.length:=by omega
   subst e
   obtain ⟨its,rv,⟨ol,nl,e1,e2,e3,e4⟩,_⟩:=I.list ((sd o).seq hq)
   have hl:s.heap.IsList l its.toArray:=⟨ol,e1,e2,nl,e4⟩
   have hlen:=rv.length
   refine codeAny_builtin ar2 ?_
   rw [Around.under_plainId ad9 _]
   show wpAny _ A.in1 (pyNext (.ref it) >>= _) _ _ s
   refine wpAny_bind (wpAny_pyNext_list_end (by exact hA) hit hl (Array.getElem?_eq_none (by simp; omega)) fun h' hx=>?_)
   show wpAny _ _ (Builtin.Dict.addKeywords d [] >>= _) _ _ _
   refine wpAny_bind (wpAny_pure (wpAny_pure ?_))
   refine hR o _ (I.turnedL (t':=s.toks) (ch:=[it]) (fun b q hb e=>hx b q (fun z=>hb (by simp [z])) e) (fun b hb=>by rw [List.mem_singleton.mp hb]; exact fi' o)) ?_
   rw [List.drop_of_length_le (Nat.le_of_eq hp.len)]
   exact g
 | succ n ih =>
   intro i s kvs o hn hi hit I g hz hR
   have hlt:i<vs.length:=by omega
   obtain ⟨its,rv,⟨ol,nl,e1,e2,e3,e4⟩,_⟩:=I.list ((sd o).seq hq)
   have hl:s.heap.IsList l its.toArray:=⟨ol,e1,e2,nl,e4⟩
   have hlen:=rv.length
   obtain ⟨T,t,y,v,ex,eT,hk,hv⟩:=hp.at_ i vs[i] (List.getElem?_eq_getElem hlt)
   have hir:i<its.length:=by omega
   have rT:its[i]=Value.ref T:=by
    obtain ⟨u0,h0,ru⟩:=rv.get (List.getElem?_eq_getElem hlt)
    rw [List.getElem?_eq_getElem hir] at h0
    cases h0
    rw [ex] at ru
    exact ru
   refine codeAny_builtin ar2 ?_
   rw [Around.under_plainId ad9 _]
   show wpAny _ A.in1 (pyNext (.ref it) >>= _) _ _ s
   refine wpAny_bind (wpAny_pyNext_list_item hit hl (x:=its[i]) (by simp [hir]) fun h1 hit1 hs1=>?_)
   rw [rT]
   have I1:Inv X pins σ (upd H d o) { s with heap:=h1 }:=I.turnedL (t':=s.toks) (ch:=[it]) (fun b q hb e=>(hs1.2 b (fun z=>hb (by simp [z]))).trans e) (fun b hb=>by rw [List.mem_singleton.mp hb]; exact fi' o)
   obtain ⟨its2,q1,⟨oT,hoT,cT,nT,dT⟩,_⟩:=I1.tuple (SqT.of (sd o _ _ eT))
   obtain ⟨u1,u2,rfl,ra,rb⟩:=by4 q1
   have tT:({ s with heap:=h1 }:Shared).TypeIs (.ref T) "tuple":=⟨oT,hoT,cT⟩
   show wpAny _ _ (holding [Value.ref T] _ >>= _) _ _ _
   refine wpAny_bind (wpAny_holding ?_)
   refine wpAny_bind (wpAny_tryCatch ?_)
   unfold Builtin.Dict.pairItems
   refine wpAny_bind (wpAny_typeOf tT ?_)
   rw [if_pos (by decide)]
   refine wpAny_bind (wpAny_seqItems hoT dT (wpAny_pure ?_))
   show wpAny _ _ (holding [u1,u2] (dictSet d u1 u2)) _ _ _
   refine wpAny_holding ?_
   obtain ⟨oi,hoi,hoi2⟩:=id hit1
   have I2:Inv X (pins++ag4 [it] h1) σ (upd H d o) { s with heap:=h1 }:=I1.pinned (fun b hb=>by rw [List.mem_singleton.mp hb]; exact fi' o) (fun b hb=>by rw [List.mem_singleton.mp hb]; exact ⟨oi,hoi,fun v z=>by have:=hoi2.2; rw [z] at this; cases this⟩)
   obtain ⟨m,em,g2,g3,g4⟩:=g
   have ml:m.length=kvs.length:=by rw [← em,List.length_map]
   refine b66 (by rw [a33]; omega) I2 g2 g3 g4 (by omega) (hk.mono (sd o).tups) ra rb fun s2 I3=>?_
   refine wpAny_pure ⟨plainId_quiet ad9 _,?_⟩
   have pit:s2.heap.get? it=some oi:=(I3.pin (it,oi) (List.mem_append_right _ (List.mem_append_right _ (by simp [ag4,hoi])))).1
   have I4:=I3.unpinned
   have dp:DtAt X.w.params (upd (upd H d o) d (DtO X.w.params d (putM m t y v))) d (putK kvs t v):=em ▸ au6 g2 g3 g4 (hk.mono (sd o).tups)
   rw [bg0] at I4 dp
   have hl2:=at6 kvs t v
   refine ih (i+1) s2 (putK kvs t v) _ (by omega) (by omega) ⟨oi,pit,hoi2⟩ I4 dp (by omega) fun o' s' I' g'=>hR o' s' I' ?_
   have hdr:ps.drop i=(t,v)::ps.drop (i+1):=by
    obtain ⟨hj,ej⟩:=List.getElem?_eq_some_iff.mp hv
    rw [List.drop_eq_getElem_cons hj,ej]
   rw [hdr]
   exact g'
theorem b76 (K:PySem.W.Frag) (hP:X.w.params=P) (hu:X.A.units+64<cLine) (hh:X.calm=true:=by rfl) (hK:X.K=K:=by rfl):CallR X (.type "dict") (b75 P K):=by
 subst hK hP
 intro pins s σ H xs us Q I r h
 obtain ⟨l,vs,kvs,rfl,hq,hp,q⟩:=h
 obtain ⟨u,rfl,ru⟩:=at3 r
 cases ru
 obtain ⟨its,rv,⟨o,n,ho,hc,hd,hdat⟩,hz⟩:=I.list hq
 have hA:X.A.handled=none:=I.ok.hd hh
 have hlen:=rv.length
 refine callType_codes (Q₁:=fun obj s₁=>obj=.ref s.heap.objs.size∧s₁={ s with heap:=s.heap.push { cls:=.type "dict",data:=.dict #[] } }) F.kt_called_dict (F.kt_typeCall_dict_1 _) F.entry_dict_init (kt_code_dict_new _ ⟨rfl,rfl⟩) ?_
 rintro obj s₁ ⟨rfl,rfl⟩
 have hf:=I.hok.fresh (Nat.le_refl s.heap.objs.size)
 have I1:Inv X pins σ (upd H s.heap.objs.size (DtO X.w.params s.heap.objs.size [])) { s with heap:=s.heap.push { cls:=.type "dict",data:=.dict #[] } }:=I.laid (a:=s.heap.objs.size) (o:=DtO X.w.params s.heap.objs.size []) (t':=s.toks) (fun _ _ q=>Heap.get?_push_of_some _ q) (Nat.le_refl _) (ax5 (b68 s.heap X.w.params I.big))
 have tyn:({ s with heap:=s.heap.push { cls:=.type "dict",data:=.dict #[] } }:Shared).TypeIs (.ref s.heap.objs.size) "dict":=⟨_,Heap.get?_push_size _ rfl,rfl⟩
 have ho':(s.heap.push { cls:=.type "dict",data:=.dict #[] }).get? l=some o:=Heap.get?_push_of_some _ ho
 refine ⟨tyn,F.args_dict_init_2 _ _,?_⟩
 unfold Builtin.«dict.__init__»
 refine wpAny_bind ?_
 unfold Builtin.Dict.selfAndRest
 refine wpAny_bind (wpAny_notOrdered_dict tyn ?_)
 show wpAny _ _ (pure (s.heap.objs.size,[Value.ref l])) _ _ _
 refine wpAny_pure ?_
 show wpAny _ _ (Builtin.Dict.updateFrom "dict.__init__" s.heap.objs.size (.ref l) [] .none) _ _ _
 unfold Builtin.Dict.updateFrom
 refine wpAny_bind (wpAny_typeOf (T:="list") ⟨o,ho',hc⟩ ?_)
 rw [if_pos (by decide)]
 refine wpAny_bind (getAttr?_miss_list ho' hc hdat hd b56 (by decide) (by exact hA) fun h1 tk1 k1=>?_)
 show wpAny _ _ (rule _ >>= _) _ _ _
 refine wpAny_bind (wpAny_rule ?_)
 have I2:Inv X pins σ (upd H s.heap.objs.size (DtO X.w.params s.heap.objs.size [])) { s with heap:=h1,toks:=tk1 }:=I1.kept (t':=tk1) k1
 have hl1:h1.IsList l its.toArray:=⟨o,k1 _ _ ho',hc,n,hdat⟩
 refine wpAny_bind (wpAny_pyIter_list hl1 (wpAny_pure ⟨plainId_quiet ad9 _,?_⟩))
 have hds:s.heap.objs.size<h1.objs.size:=Heap.lt_size (k1 _ _ (Heap.get?_push_size _ rfl))
 have fi:FpOk X pins H h1.objs.size:=by
  have:=I2.fpOk (b:=h1.objs.size) (H':=H) (Nat.le_refl _) ?_
  · exact this
  · have:=I2.hok.fresh (Nat.le_refl h1.objs.size)
    rw [a09 (Nat.ne_of_gt hds)] at this
    exact this
 refine cd0 (H:=H) (l:=l) (vs:=vs) (ps:=kvs) (d:=s.heap.objs.size) (it:=h1.objs.size) (by rw [a33]; omega) (by exact hA) hq hp hf (Nat.ne_of_lt hds) fi vs.length 0 _ [] (DtO X.w.params s.heap.objs.size []) (by omega) (Nat.zero_le _) ⟨_,Heap.get?_push_size _ rfl,rfl,rfl⟩ (I2.kept (t':=_) fun b u e=>Heap.get?_push_of_some _ e) ⟨[],rfl,.of a17,fun x hx=>absurd hx (by simp),List.nodup_nil⟩ (by simp; omega) fun o' s' I' g'=>?_
 exact ⟨rfl,.ref s.heap.objs.size,_,I',rfl,q _ _ hf g'⟩
theorem bg1 {K:PySem.W.Frag}{H:Hp}{Q:VK}{l:Addr}{vs:List V}{kvs:List (Tr×V)}(h1:SqL K H l vs) (h2:PrT H vs kvs) (h:∀ p o,H p=none→DtAt P (upd H p o) p (ae1 [] kvs)→Q (.ref p) (upd H p o)):b75 P K [.ref l] H Q:=⟨l,vs,kvs,rfl,h1,h2,h⟩
end
section
variable {prog:Program}{w:World}
variable {A:Around}{E:Value→Shared→Prop}{s:Shared}
end
section
variable {prog:Program}{w:World}{A:Around}{R:Result→Shared→Prop}{I:Addr}{fp wr:List Addr}{G:Array GenState→Array GenState→Prop}{n:Nat}{P:Nat→Value→Prop}{St:Nat→Shared→Prop}
end
section
variable {prog:Program}{w:World}{A:Around}{E:Value→Shared→Prop}{s:Shared}
end
section
variable {prog:Program}{w:World}{A:Around}{E:Value→Shared→Prop}{s:Shared}{S it tp:Addr}{o:Obj}{es:Array (Int×Value)}{ep i:Nat}{t:SetTable}{first:Value}
end
section
variable {prog:Program}{w:World}{A:Around}{E:Value→Shared→Prop}{s:Shared}{S:Addr}{es:Array (Int×Value)}
end
section
variable {prog:Program}{w:World}{A:Around}{E:Value→Shared→Prop}{s:Shared}{S:Addr}{es:Array (Int×Value)}
end
section
variable {X:Cx}{P:Program}{w:World}
end
section
variable {X:Cx}
end
def PAt (H:Hp) (v:V) (p:List Pt):Prop:=(Tr.tup (p.map Pt.tr)).At H v []
def SAt (H:Hp) (v:V) (s:Stm):Prop:=∃ fs,s.tr.At H v fs
def BAt (H:Hp) (v:V) (b:List Stm):Prop:=∃ fs,(Tr.lst (Stm.trs b)).At H v fs
theorem PAt.same {H H':Hp}{v:V}{p:List Pt}(h:PAt H v p) (s:Same H H'):PAt H' v p:=ac9 h s.tups
theorem SAt.same {H H':Hp}{v:V}{x:Stm}(h:SAt H v x) (s:Same H H'):SAt H' v x:=by
 obtain ⟨fs,h⟩:=h
 exact ⟨fs,h.mono (s.keep _)⟩
theorem BAt.same {H H':Hp}{v:V}{b:List Stm}(h:BAt H v b) (s:Same H H'):BAt H' v b:=by
 obtain ⟨fs,h⟩:=h
 exact ⟨fs,h.mono (s.keep _)⟩
theorem an5 {H:Hp}{α:Type}{f:α→Tr}{R:V→α→Prop}(hR:∀ v x fs,(f x).At H v fs→R v x):∀ {xs:List α}{ts:List Tr}{vs:List V}{fs:List Addr},ts=xs.map f→Tr.Ats H ts vs fs→Each R vs xs
 | [],_,vs,fs,rfl,h=>by
   simp only [List.map_nil,Tr.Ats] at h
   rw [h.1]
   exact Each.nil
 | x::xs,_,vs,fs,rfl,h=>by
   simp only [List.map_cons,Tr.Ats] at h
   obtain ⟨v,ws,f1,g1,rfl,_,h1,h2⟩:=h
   have:=an5 hR (xs:=xs) rfl h2
   refine ⟨by simp [this.1],fun j a b e1 e2=>?_⟩
   cases j with
   | zero =>
     simp at e1 e2
     subst e1 e2
     exact hR _ _ _ h1
   | succ j=>exact this.2 j a b (by simpa using e1) (by simpa using e2)
theorem an6 {H:Hp}{α:Type}{f:α→Tr}{R:V→α→Prop}(hR:∀ v x,R v x→∃ fs,(f x).At H v fs):∀ {xs:List α}{vs:List V},Each R vs xs→∃ fs,Tr.Ats H (xs.map f) vs fs
 | [],[],_=>⟨[],by simp [Tr.Ats]⟩
 | x::xs,v::vs,h=>by
   obtain ⟨f1,h1⟩:=hR v x (h.2 0 v x rfl rfl)
   obtain ⟨f2,h2⟩:=an6 hR (xs:=xs) (vs:=vs) ⟨by simpa using h.1,fun j a b e1 e2=>h.2 (j+1) a b (by simpa using e1) (by simpa using e2)⟩
   refine ⟨f1++f2,?_⟩
   simp only [List.map_cons,Tr.Ats]
   exact ⟨v,vs,f1,f2,rfl,rfl,h1,h2⟩
 | [],v::vs,h=>absurd h.1 (by simp)
 | x::xs,[],h=>absurd h.1 (by simp)
theorem au8:∀ b:List Stm,Stm.trs b=b.map Stm.tr
 | []=>rfl
 | s::r=>by rw [Stm.trs,au8 r]; rfl
theorem au9:∀ b:List Br,Br.trs b=b.map Br.tr
 | []=>rfl
 | s::r=>by rw [Br.trs,au9 r]; rfl
theorem bat_iff {H:Hp}{v:V}{b:List Stm}:BAt H v b↔∃ l us,v=.ref l∧H l=some (.lst us)∧Each (SAt H) us b:=by
 constructor
 · rintro ⟨fs,h⟩
   simp only [Tr.At] at h
   obtain ⟨l,us,gs,rfl,e,h,_⟩:=h
   exact ⟨l,us,rfl,e,an5 (f:=Stm.tr) (fun v x fs h=>⟨fs,h⟩) (au8 b) h⟩
 · rintro ⟨l,us,rfl,e,h⟩
   obtain ⟨fs,h⟩:=an6 (f:=Stm.tr) (fun v x h=>h) h
   refine ⟨l::fs,?_⟩
   simp only [Tr.At]
   exact ⟨l,us,fs,rfl,e,by rw [au8]; exact h,rfl⟩
def BrAt (H:Hp) (v:V) (x:Br):Prop:=match x with | .mk p b=>∃ q pv bv,v=.ref q∧H q=some (.tup [pv,bv])∧PAt H pv p∧BAt H bv b
theorem ay1 {H:Hp}:∀ {p:List Pt}{vs:List V}{fs:List Addr},Tr.Ats H (p.map Pt.tr) vs fs→fs=[]
 | [],vs,fs,h=>by
   simp only [List.map_nil,Tr.Ats] at h
   exact h.2
 | x::p,vs,fs,h=>by
   simp only [List.map_cons,Tr.Ats] at h
   obtain ⟨v,ws,f,g,_,rfl,h1,h2⟩:=h
   rw [ay1 h2]
   cases x with
   | s z=>simp only [Pt.tr,Tr.At] at h1; simp [h1.2]
   | i z=>simp only [Pt.tr,Tr.At] at h1; simp [h1.2]
theorem c54 {H:Hp}{v:V}{x:Br}{fs:List Addr}(h:x.tr.At H v fs):BrAt H v x:=by
 cases x with
 | mk p b =>
   simp only [Br.tr,Tr.At,Tr.Ats] at h
   obtain ⟨q,vs,rfl,e,v1,w1,f1,g1,rfl,rfl,⟨a,us,rfl,e1,h1⟩,v2,w2,f2,g2,rfl,rfl,⟨l,ws,gs,rfl,e2,h2,rfl⟩,rfl,rfl⟩:=h
   have:=ay1 h1
   subst this
   refine ⟨q,_,_,rfl,e,?_,⟨l::gs,?_⟩⟩
   · unfold PAt
     simp only [Tr.At]
     exact ⟨a,us,rfl,e1,h1⟩
   · simp only [Tr.At]
     exact ⟨l,ws,gs,rfl,e2,h2,rfl⟩
theorem cd2 {H:Hp}{v:V}{x:Br}(h:BrAt H v x):∃ fs,x.tr.At H v fs:=by
 cases x with
 | mk p b =>
   obtain ⟨q,pv,bv,rfl,e,h1,⟨fs,h2⟩⟩:=h
   refine ⟨[]++(fs++[]),?_⟩
   simp only [Br.tr,Tr.At,Tr.Ats] at h2 ⊢
   exact ⟨q,_,rfl,e,pv,_,[],_,rfl,rfl,by unfold PAt at h1; simp only [Tr.At] at h1; exact h1,bv,_,fs,[],rfl,rfl,h2,rfl,rfl⟩
theorem sat_loop {H:Hp}{v:V}{b:List Stm}:SAt H v (.loop b)↔∃ a u,v=.ref a∧H a=some (.tup [.str "loop",u])∧BAt H u b:=by
 constructor
 · rintro ⟨fs,h⟩
   simp only [Stm.tr,Tr.At,Tr.Ats] at h
   obtain ⟨a,vs,rfl,e,v1,w1,f1,g1,rfl,rfl,⟨rfl,rfl⟩,v2,w2,f2,g2,rfl,rfl,h2,rfl,rfl⟩:=h
   exact ⟨a,v2,rfl,e,f2,by simp only [Tr.At]; exact h2⟩
 · rintro ⟨a,u,rfl,e,fs,h⟩
   refine ⟨[]++(fs++[]),?_⟩
   simp only [Stm.tr,Tr.At,Tr.Ats] at h ⊢
   exact ⟨a,_,rfl,e,_,_,[],_,rfl,rfl,⟨rfl,rfl⟩,u,_,fs,[],rfl,rfl,h,rfl,rfl⟩
theorem sat_wait {H:Hp}{v:V}{n:Int}{bs:List Br}:SAt H v (.wait n bs)↔∃ a l ws,v=.ref a∧H a=some (.tup [.str "wait",.int n,.ref l])∧H l=some (.lst ws)∧Each (BrAt H) ws bs:=by
 constructor
 · rintro ⟨fs,h⟩
   simp only [Stm.tr,Tr.At,Tr.Ats] at h
   obtain ⟨a,vs,rfl,e,v1,w1,f1,g1,rfl,rfl,⟨rfl,rfl⟩,v2,w2,f2,g2,rfl,rfl,⟨rfl,rfl⟩,v3,w3,f3,g3,rfl,rfl,⟨l,ws,gs,rfl,e2,h2,_⟩,rfl,rfl⟩:=h
   exact ⟨a,l,ws,rfl,e,e2,an5 (f:=Br.tr) (fun v x fs h=>c54 h) (au9 bs) h2⟩
 · rintro ⟨a,l,ws,rfl,e,e2,h⟩
   obtain ⟨gs,h⟩:=an6 (f:=Br.tr) (fun v x h=>cd2 h) h
   refine ⟨[]++([]++((l::gs)++[])),?_⟩
   simp only [Stm.tr,Tr.At,Tr.Ats]
   exact ⟨a,_,rfl,e,_,_,[],_,rfl,rfl,⟨rfl,rfl⟩,_,_,[],_,rfl,rfl,⟨rfl,rfl⟩,_,_,l::gs,[],rfl,rfl,⟨l,ws,gs,rfl,e2,by rw [au9]; exact h,rfl⟩,rfl,rfl⟩
theorem ay2 {H:Hp}{v:V}{c:Cd}{x y:List Stm}(h:SAt H v (.test c x y)):∃ a u1 u2 u3,v=.ref a∧H a=some (.tup [.str "test",u1,u2,u3])∧BAt H u2 x∧BAt H u3 y:=by
 obtain ⟨fs,h⟩:=h
 simp only [Stm.tr,Tr.At,Tr.Ats] at h
 obtain ⟨a,vs,rfl,e,v1,w1,f1,g1,rfl,rfl,⟨rfl,rfl⟩,v2,w2,f2,g2,rfl,rfl,_,v3,w3,f3,g3,rfl,rfl,h3,v4,w4,f4,g4,rfl,rfl,h4,rfl,rfl⟩:=h
 exact ⟨a,v2,v3,v4,rfl,e,⟨f3,by simp only [Tr.At]; exact h3⟩,f4,by simp only [Tr.At]; exact h4⟩
theorem b77 {H:Hp}{v:V}{k:Str}{r:List Pt}(h:SAt H v (.plain (.s k::r))):∃ a us,v=.ref a∧H a=some (.tup (.str k::us)):=by
 obtain ⟨fs,h⟩:=h
 simp only [Stm.tr,List.map_cons,Tr.At,Tr.Ats,Pt.tr] at h
 obtain ⟨a,vs,rfl,e,v1,w1,f1,g1,rfl,_,⟨rfl,_⟩,_⟩:=h
 exact ⟨a,w1,rfl,e⟩
def a43:Stm→List (List Stm)
 | .loop b=>[b]
 | .wait _ bs=>bs.map fun | .mk _ b=>b
 | .test _ a b=>[a,b]
 | _=>[]
section
variable {X:Cx}
end
section
variable {σ:St} {H:Hp}{nn bb cc:St→Hp→Prop}{rr:VK}{t u:TS}
theorem bl4 (h:∀ N:St→Hp→Prop,(∀ σ H,u ⟨nn,rr,bb,cc⟩ σ H→N σ H)→t ⟨N,rr,bb,cc⟩ σ H):tSeq t u ⟨nn,rr,bb,cc⟩ σ H:=h _ fun _ _ x=>x
theorem bl5 {P N:St→Hp→Prop}(e:∀ σ H,P σ H→N σ H) (h:P σ H):N σ H:=e σ H h
end
abbrev Pl:=Nat×Nat
inductive KS where
 | say (w:Str)
 | hand (l:Int) (w:Str)
 | put (n:Str) (e:Ex)
 | test (c:Cd) (a b:Nat)
 | loop (n:Nat)
 | call (n:Nat)
 | wait (l:Int) (br:List (List Pt×Pl)) (w:Pl)
 | again
 | leave
 | back
 | stop
def plT (p:Pl):Tr:=.tup [.int (p.1:Nat),.int (p.2:Nat)]
def brK (b:List Pt×Pl):Tr:=.tup [.tup (b.1.map Pt.tr),plT b.2]
def KS.word:KS→Str
 | .say _=>"say"
 | .hand _ _=>"hand"
 | .put _ _=>"put"
 | .test _ _ _=>"test"
 | .loop _=>"loop"
 | .call _=>"call"
 | .wait _ _ _=>"wait"
 | .again=>"again"
 | .leave=>"leave"
 | .back=>"back"
 | .stop=>"stop"
def KS.its:KS→List Tr
 | .say w=>[.str w]
 | .hand l w=>[.int l,.str w]
 | .put n e=>[.str n,e.tr]
 | .test c a b=>[c.tr,.int (a:Nat),.int (b:Nat)]
 | .loop n=>[.int (n:Nat)]
 | .call n=>[.int (n:Nat)]
 | .wait l br w=>[.int l,.tup (br.map brK),plT w]
 | _=>[]
def KS.tr (s:KS):Tr:=.tup (.str s.word::s.its)
structure KB where
 lp:Bool
 bh:Option Pl
 st:List KS
def Pl.At (H:Hp) (v:V) (p:Pl):Prop:=∃ a,v=.ref a∧H a=some (.tup [.int (p.1:Nat),.int (p.2:Nat)])
def PlO (H:Hp) (v:V):Option Pl→Prop
 | none=>v=.non
 | some p=>Pl.At H v p
theorem Pl.At.same {H H':Hp}{v:V}{p:Pl}(h:Pl.At H v p) (s:Same H H'):Pl.At H' v p:=by
 obtain ⟨a,e,h⟩:=h
 exact ⟨a,e,s _ _ h⟩
theorem PlO.same {H H':Hp}{v:V}{p:Option Pl}(h:PlO H v p) (s:Same H H'):PlO H' v p:=by
 cases p with
 | none=>exact h
 | some p=>exact Pl.At.same h s
theorem pl_tr {H:Hp}{v:V}{p:Pl}:(plT p).At H v []↔Pl.At H v p:=by
 constructor
 · intro h
   obtain ⟨a,vs,rfl,e,h⟩:=at_tup0.mp h
   obtain ⟨v1,w1,rfl,h1,h⟩:=ats_cons0.mp h
   obtain ⟨v2,w2,rfl,h2,h⟩:=ats_cons0.mp h
   obtain rfl:=ats_nil0.mp h
   obtain rfl:=at_int0.mp h1
   obtain rfl:=at_int0.mp h2
   exact ⟨a,rfl,e⟩
 · rintro ⟨a,rfl,e⟩
   exact a61 e a98 a98
theorem KS.word_at {H:Hp}{v:V}{s:KS}(h:s.tr.At H v []):∃ a us,v=.ref a∧H a=some (.tup (.str s.word::us))∧Tr.Ats H s.its us []:=by
 obtain ⟨a,vs,rfl,e,h⟩:=at_tup0.mp h
 obtain ⟨v1,w1,hz,h1,h2⟩:=ats_cons0.mp h
 obtain rfl:=at_str0.mp h1
 exact ⟨a,w1,rfl,by rw [e,hz],h2⟩
def kbS (x y z:V):List (Str×V):=putF "statements" z (putF "behind" y (putF "loops" x []))
theorem ai4 (x y z:V):(kbS x y z).lookup ("loops":Str)=some x:=by
 unfold kbS
 rw [a30,if_neg (by decide +kernel),a30,if_neg (by decide +kernel),a30,if_pos rfl]
theorem af1 (x y z:V):(kbS x y z).lookup ("behind":Str)=some y:=by
 unfold kbS
 rw [a30,if_neg (by decide +kernel),a30,if_pos rfl]
theorem a73 (x y z:V):(kbS x y z).lookup ("statements":Str)=some z:=by
 unfold kbS
 rw [a30,if_pos rfl]
def KbAt (C:Addr) (H:Hp) (v:V) (b:KB):Prop:=∃ p dx bv l us,v=.ref p∧H p=some (.ins C dx (kbS (.bl b.lp) bv (.ref l)))∧PlO H bv b.bh∧H l=some (.lst us)∧Tr.Ats H (b.st.map KS.tr) us []
theorem KbAt.same {C:Addr}{H H':Hp}{v:V}{b:KB}(h:KbAt C H v b) (s:Same H H'):KbAt C H' v b:=by
 obtain ⟨p,dx,bv,l,us,h1,h2,h3,h4,h5⟩:=h
 exact ⟨p,dx,bv,l,us,h1,s _ _ h2,h3.same s,s _ _ h4,h5.same s⟩
def BxAt (H:Hp) (v:V) (b:Str×Int):Prop:=∃ p,v=.ref p∧H p=some (.tup [.str b.1,.int b.2])
theorem BxAt.same {H H':Hp}{v:V}{b:Str×Int}(h:BxAt H v b) (s:Same H H'):BxAt H' v b:=by
 obtain ⟨p,h1,h2⟩:=h
 exact ⟨p,h1,s _ _ h2⟩
theorem an7 {H:Hp}:∀ {vs:List V}{bs:List (Str×Int)},Each (BxAt H) vs bs→Boxes H vs (bs.map (·.1))
 | [],[],_=>.nil
 | v::vs,b::bs,h=>by
   obtain ⟨p,rfl,e⟩:=h.2 0 v b rfl rfl
   exact .cons e (an7 (vs:=vs) (bs:=bs) ⟨by simpa using h.1,fun j a b e1 e2=>h.2 (j+1) a b (by simpa using e1) (by simpa using e2)⟩)
 | [],b::bs,h=>absurd h.1 (by simp)
 | v::vs,[],h=>absurd h.1 (by simp)
def teS (x y:V):List (Str×V):=putF "bodies" y (putF "boxes" x [])
theorem ai5 (x y:V):(teS x y).lookup ("boxes":Str)=some x:=by
 unfold teS
 rw [a30,if_neg (by decide +kernel),a30,if_pos rfl]
theorem a76 (x y:V):(teS x y).lookup ("bodies":Str)=some y:=by
 unfold teS
 rw [a30,if_pos rfl]
theorem a63 {m:Str}(x y:V) (h1:m≠"bodies") (h2:m≠"boxes"):(teS x y).lookup m=none:=by
 unfold teS
 rw [a30,if_neg h1,a30,if_neg h2]
 rfl
structure TeAt (C CK:Addr) (H:Hp) (p:Addr) (bs:List (Str×Int)) (kb:List KB):Prop where
 ex:∃ dx bl kl bvs kvs,H p=some (.ins C dx (teS (.ref bl) (.ref kl)))∧H bl=some (.lst bvs)∧Each (BxAt H) bvs bs∧H kl=some (.lst kvs)∧Each (KbAt CK H) kvs kb
theorem TeAt.same {C CK:Addr}{H H':Hp}{p:Addr}{bs:List (Str×Int)}{kb:List KB}(h:TeAt C CK H p bs kb) (s:Same H H'):TeAt C CK H' p bs kb:=by
 obtain ⟨dx,bl,kl,bvs,kvs,h1,h2,h3,h4,h5⟩:=h.ex
 exact ⟨dx,bl,kl,bvs,kvs,s _ _ h1,s _ _ h2,h3.mono fun _ _ z=>z.same s,s _ _ h4,h5.mono fun _ _ z=>z.same s⟩
abbrev Std:=Pl×List Pl×List Int×Int
def stAt (kb:List KB) (p:Pl):Option KS:=match kb[p.1]? with
 | none=>none
 | some b=>b.st[p.2]?
def setF (kb:List KB):Nat→Option Pl→Option (Option Pl)
 | 0,_=>none
 | _+1,none=>some none
 | n+1,some p=>match kb[p.1]? with
   | none=>none
   | some b=>if p.2<b.st.length then some (some p) else setF kb n (if b.lp then some (p.1,0) else b.bh)
def lpF (kb:List KB):Nat→Nat→Option Nat
 | 0,_=>none
 | n+1,i=>match kb[i]? with
   | none=>none
   | some b=>if b.lp then some i else match b.bh with
     | none=>none
     | some p=>lpF kb n p.1
def sayS (l:Int) (w:Str):Str:=Str.ofString (toString l)++":"++w
def KS.sd:KS→List Str
 | .say w=>[w]
 | .hand l w=>[sayS l w]
 | _=>[]
def vput (bs:List (Str×Int)) (vs:List Int) (n:Str) (k:Int):List Int:=List.zipWith (fun b v=>if b.1=n then k % b.2 else v) bs vs
def KS.vals (bs:List (Str×Int)) (vs:List Int):KS→List Int
 | .put n e=>vput bs vs n (e.ev (bs.map (·.1)) vs)
 | _=>vs
def tfu (kb:List KB):Nat:=kb.length+2
def stkF (kb:List KB) (p:Pl) (stk:List Pl):KS→Option (List Pl)
 | .call _=>(setF kb (tfu kb) (some (p.1,p.2+1))).map fun
   | none=>stk
   | some q=>stk++[q]
 | _=>some stk
def wayF (kb:List KB) (ns:List Str) (p:Pl) (vs:List Int):KS→Option (Option Pl)
 | .back=>some none
 | .test c a b=>some (some (if c.ev ns vs then a else b,0))
 | .loop n=>some (some (n,0))
 | .call n=>some (some (n,0))
 | .again=>(lpF kb (tfu kb) p.1).map fun i=>some (i,0)
 | .leave=>match lpF kb (tfu kb) p.1 with
   | none=>none
   | some i=>(kb[i]?).map (·.bh)
 | _=>some (some (p.1,p.2+1))
def popP:Option Pl→List Pl→Option (Pl×List Pl)
 | some p,stk=>some (p,stk)
 | none,stk=>match stk.getLast? with
   | none=>none
   | some p=>some (p,stk.dropLast)
inductive StO where
 | done (r:Option Std)
 | go (sd:List Str) (o:Option Pl) (stk:List Pl) (vs:List Int)
def onK (kb:List KB) (bs:List (Str×Int)) (p:Pl) (stk:List Pl) (vs:List Int) (s:KS):Option StO:=match s with
 | .wait l _ _=>some (.done (some (p,stk,vs,l)))
 | .stop=>some (.done none)
 | s=>match stkF kb p stk s,wayF kb (bs.map (·.1)) p (s.vals bs vs) s with
   | some stk2,some w=>(setF kb (tfu kb) w).map fun o=>.go s.sd o stk2 (s.vals bs vs)
   | _,_=>none
def goF (kb:List KB) (bs:List (Str×Int)):Nat→Option Pl→List Pl→List Int→Option (List Str×Option Std)
 | 0,_,_,_=>none
 | n+1,o,stk,vs=>match popP o stk with
   | none=>some ([],none)
   | some (p,stk1)=>match stAt kb p with
     | none=>none
     | some s=>match onK kb bs p stk1 vs s with
       | none=>none
       | some (.done r)=>some ([],r)
       | some (.go sd o2 stk2 vs2)=>(goF kb bs n o2 stk2 vs2).map fun r=>(sd++r.1,r.2)
def tgoF (kb:List KB) (bs:List (Str×Int)) (n:Nat) (o:Option Pl) (stk:List Pl) (vs:List Int):Option (List Str×Option Std):=match setF kb (tfu kb) o with
 | none=>none
 | some o=>goF kb bs n o stk vs
def KS.ok (ns:List Str):KS→Prop
 | .say w=>w.length≤100
 | .hand l w=>0≤l∧l<10∧w.length≤100
 | .put _ e=>e.ok ns∧e.h<8
 | .test c _ _=>c.ok ns 5∧c.h<4
 | .wait l br _=>0≤l∧br.length≤1000
 | _=>True
structure KOk (bs:List (Str×Int)) (kb:List KB):Prop where
 ok:∀ b∈kb,∀ s∈b.st,s.ok (bs.map (·.1))
 bz:∀ b∈bs,0<b.2∧b.2<1000
 bl:bs.length≤100
 kl:kb.length≤100000
 sl:∀ b∈kb,b.st.length≤100000
theorem KOk.at {bs:List (Str×Int)}{kb:List KB}(h:KOk bs kb) {p:Pl}{s:KS}(e:stAt kb p=some s):s.ok (bs.map (·.1)):=by
 unfold stAt at e
 split at e
 · cases e
 · rename_i b hb
   exact h.ok b (List.mem_of_getElem? hb) s (List.mem_of_getElem? e)
def StkAt (H:Hp) (a:Addr) (stk:List Pl):Prop:=∃ us,H a=some (.tup us)∧Each (Pl.At H) us stk
theorem StkAt.same {H H':Hp}{a:Addr}{stk:List Pl}(h:StkAt H a stk) (s:Same H H'):StkAt H' a stk:=by
 obtain ⟨us,h1,h2⟩:=h
 exact ⟨us,s _ _ h1,h2.mono fun _ _ z=>z.same s⟩
def StdAt (H:Hp) (v:V):Option Std→Prop
 | none=>v=.non
 | some (p,stk,vs,l)=>∃ q pv ps pa,v=.ref q∧H q=some (.tup [pv,.ref ps,.ref pa,.int l])∧Pl.At H pv p∧StkAt H ps stk∧H pa=some (.tup (vs.map V.int))
theorem StdAt.same {H H':Hp}{v:V}{r:Option Std}(h:StdAt H v r) (s:Same H H'):StdAt H' v r:=by
 cases r with
 | none=>exact h
 | some x =>
   obtain ⟨p,stk,vs,l⟩:=x
   obtain ⟨q,pv,ps,pa,h1,h2,h3,h4,h5⟩:=h
   exact ⟨q,pv,ps,pa,h1,s _ _ h2,h3.same s,h4.same s,s _ _ h5⟩
mutual
def Tr.nl:Tr→Bool
 | .tup xs=>Tr.nls xs
 | .lst _=>false
 | _=>true
def Tr.nls:List Tr→Bool
 | []=>true
 | x::xs=>x.nl && Tr.nls xs
end
mutual
theorem bg2 {H:Hp}:∀ {x:Tr}{v:V}{fs:List Addr},x.nl=true→x.At H v fs→fs=[]
 | .non,_,_,_,h=>by simp only [Tr.At] at h; exact h.2
 | .int _,_,_,_,h=>by simp only [Tr.At] at h; exact h.2
 | .str _,_,_,_,h=>by simp only [Tr.At] at h; exact h.2
 | .tup xs,_,_,n,h=>by
   simp only [Tr.At] at h
   obtain ⟨a,vs,_,_,h⟩:=h
   exact bl6 (by simpa only [Tr.nl] using n) h
 | .lst _,_,_,n,_=>by simp [Tr.nl] at n
theorem bl6 {H:Hp}:∀ {xs:List Tr}{vs:List V}{fs:List Addr},Tr.nls xs=true→Tr.Ats H xs vs fs→fs=[]
 | [],_,_,_,h=>by simp only [Tr.Ats] at h; exact h.2
 | x::xs,_,_,n,h=>by
   simp only [Tr.nls,Bool.and_eq_true] at n
   simp only [Tr.Ats] at h
   obtain ⟨v,ws,f,g,_,rfl,h1,h2⟩:=h
   rw [bg2 n.1 h1,bl6 n.2 h2]
   rfl
end
theorem b78:∀ e:Ex,e.tr.nl=true
 | .num _=>rfl
 | .box _=>rfl
 | .two k a b=>by simp only [Ex.tr,Tr.nl,Tr.nls,b78 a,b78 b]; rfl
theorem bg3:∀ c:Cd,c.tr.nl=true
 | .cmp k a b=>by simp only [Cd.tr,Tr.nl,Tr.nls,b78 a,b78 b]; rfl
 | .nt c=>by simp only [Cd.tr,Tr.nl,Tr.nls,bg3 c]; rfl
 | .both c d=>by simp only [Cd.tr,Tr.nl,Tr.nls,bg3 c,bg3 d]; rfl
theorem bl7:∀ ps:List Pt,Tr.nls (ps.map Pt.tr)=true
 | []=>rfl
 | p::ps=>by
   simp only [List.map_cons,Tr.nls,bl7 ps,Bool.and_true]
   cases p <;> rfl
def Stm.isL:Stm→Bool
 | .loop _=>true
 | _=>false
def Br.pat:Br→List Pt
 | .mk p _=>p
def patB (p:List Pt):Tr:=.tup (p.map Pt.tr)
noncomputable def fndT (br:List (List Pt×Pl)) (e:Tr):Option Pl:=(br.find? fun b=>decide (patB b.1=e)).map (·.2)
def brsK (m:Nat) (bs:List Br):List (List Pt×Pl):=bs.mapIdx fun i b=>(b.pat,(m+i,0))
def plK (tn:List Str):List Pt→KS
 | [.s k,.s w]=>if k=Str.ofString "say" then .say w else .call (tn.idxOf w)
 | [.s _,.i l,.s w]=>.hand l w
 | [.s k]=>if k=Str.ofString "again" then .again else if k=Str.ofString "leave" then .leave else if k=Str.ofString "back" then .back else .stop
 | _=>.stop
noncomputable def a77 (tn:List Str) (bh:Pl) (m:Nat):Stm→KS
 | .plain ps=>plK tn ps
 | .put n e=>.put n e
 | .loop _=>.loop m
 | .test c _ _=>.test c m (m+1)
 | .wait l bs=>.wait l (brsK m bs) ((fndT (brsK m bs) (.tup [.str "none"])).getD bh)
def Stm.kd (tn:List Str):Stm→Prop
 | .plain ps=>(∃ w,ps=[.s "say",.s w])∨(∃ l w,ps=[.s "hand",.i l,.s w])∨(∃ w,ps=[.s "call",.s w]∧w∈tn)∨ps=[.s "again"]∨ps=[.s "leave"]∨ps=[.s "back"]∨ps=[.s "stop"]
 | .wait _ bs=>bs.length≤1000
 | _=>True
theorem bg4 {tn:List Str}{ps:List Pt}(h:Stm.kd tn (.plain ps)):∃ k r,ps=.s k::r∧k≠Str.ofString "test"∧k≠Str.ofString "wait"∧k≠Str.ofString "loop":=by
 rcases h with ⟨w,rfl⟩ | ⟨l,w,rfl⟩ | ⟨w,rfl,_⟩ | rfl | rfl | rfl | rfl <;> exact ⟨_,_,rfl,by decide +kernel,by decide +kernel,by decide +kernel⟩
theorem c55 {tn:List Str}{s:Stm}(h:s.kd tn):(a43 s).length≤1000:=by
 cases s with
 | wait n bs=>simp only [a43,List.length_map]; exact h
 | _=>simp [a43]
theorem cd3 {tn:List Str}{w:Str}(h:w∈tn):tn[tn.idxOf w]?=some w∧∀ m,m<tn.idxOf w→tn[m]?≠some w:=by
 have hl:=List.idxOf_lt_length_of_mem h
 refine ⟨by rw [List.getElem?_eq_getElem hl]; simp,fun m hm he=>?_⟩
 have h1:=List.not_of_lt_findIdx (p:=fun x=>x == w) (xs:=tn) (i:=m) (by simpa [List.idxOf] using hm)
 obtain ⟨h2,h3⟩:=List.getElem?_eq_some_iff.mp he
 rw [h3] at h1
 simp at h1
theorem b79 {H:Hp}{v:V}{n:Str}{e:Ex}(h:SAt H v (.put n e)):(KS.put n e).tr.At H v []:=by
 obtain ⟨fs,h⟩:=h
 have:fs=[]:=bg2 (by simp only [Stm.tr,Tr.nl,Tr.nls,b78]; rfl) h
 subst this
 exact h
theorem bl8 {H:Hp}{v:V}{ps:List Pt}(h:SAt H v (.plain ps)):(Tr.tup (ps.map Pt.tr)).At H v []:=by
 obtain ⟨fs,h⟩:=h
 have:fs=[]:=bg2 (by simp only [Stm.tr,Tr.nl,bl7]) h
 subst this
 exact h
theorem b80 {H:Hp}{v:V}{c:Cd}{x y:List Stm}(h:SAt H v (.test c x y)):∃ a u1 u2 u3,v=.ref a∧H a=some (.tup [.str "test",u1,u2,u3])∧BAt H u2 x∧BAt H u3 y∧c.tr.At H u1 []:=by
 obtain ⟨fs,h⟩:=h
 simp only [Stm.tr,Tr.At,Tr.Ats] at h
 obtain ⟨a,vs,rfl,e,v1,w1,f1,g1,rfl,rfl,⟨rfl,rfl⟩,v2,w2,f2,g2,rfl,rfl,h2,v3,w3,f3,g3,rfl,rfl,h3,v4,w4,f4,g4,rfl,rfl,h4,rfl,rfl⟩:=h
 obtain rfl:=bg2 (bg3 c) h2
 exact ⟨a,v2,v3,v4,rfl,e,⟨f3,by simp only [Tr.At]; exact h3⟩,⟨f4,by simp only [Tr.At]; exact h4⟩,h2⟩
def Stm.wd:Stm→Str
 | .plain (.s k::_)=>k
 | .plain _=>"stop"
 | .put _ _=>"put"
 | .loop _=>"loop"
 | .wait _ _=>"wait"
 | .test _ _ _=>"test"
theorem b81 {H:Hp}{v:V}{s:Stm}{tn:List Str}(h:SAt H v s) (hk:s.kd tn):∃ a us,v=.ref a∧H a=some (.tup (.str s.wd::us)):=by
 cases s with
 | plain ps =>
   obtain ⟨k,r,rfl,_⟩:=bg4 hk
   obtain ⟨a,us,h1,h2⟩:=b77 h
   exact ⟨a,us,h1,h2⟩
 | put n e =>
   obtain ⟨a,us,h1,h2,_⟩:=KS.word_at (b79 h)
   exact ⟨a,us,h1,h2⟩
 | loop b =>
   obtain ⟨a,u,h1,h2,_⟩:=sat_loop.mp h
   exact ⟨a,_,h1,h2⟩
 | wait n bs =>
   obtain ⟨a,l,ws,h1,h2,_⟩:=sat_wait.mp h
   exact ⟨a,_,h1,h2⟩
 | test c x y =>
   obtain ⟨a,u1,u2,u3,h1,h2,_⟩:=ay2 h
   exact ⟨a,_,h1,h2⟩
theorem b82 {s:Stm}{tn:List Str}(hk:s.kd tn) (h:s.wd=Str.ofString "test"):∃ c x y,s=.test c x y:=by
 cases s with
 | test c x y=>exact ⟨c,x,y,rfl⟩
 | plain ps=>obtain ⟨k,r,rfl,h1,h2,h3⟩:=bg4 hk; exact absurd h h1
 | _=>simp only [Stm.wd] at h; exact absurd h (by decide +kernel)
theorem b83 {s:Stm}{tn:List Str}(hk:s.kd tn) (h:s.wd=Str.ofString "wait"):∃ c x,s=.wait c x:=by
 cases s with
 | wait c x=>exact ⟨c,x,rfl⟩
 | plain ps=>obtain ⟨k,r,rfl,h1,h2,h3⟩:=bg4 hk; exact absurd h h2
 | _=>simp only [Stm.wd] at h; exact absurd h (by decide +kernel)
theorem av0 {s:Stm}{tn:List Str}(hk:s.kd tn) (h:s.wd=Str.ofString "loop"):∃ c,s=.loop c:=by
 cases s with
 | loop c=>exact ⟨c,rfl⟩
 | plain ps=>obtain ⟨k,r,rfl,h1,h2,h3⟩:=bg4 hk; exact absurd h h3
 | _=>simp only [Stm.wd] at h; exact absurd h (by decide +kernel)
theorem c56 {s:Stm}{tn:List Str}(hk:s.kd tn):s.isL=decide (s.wd=Str.ofString "loop"):=by
 by_cases h:s.wd=Str.ofString "loop"
 · obtain ⟨c,rfl⟩:=av0 hk h
   rw [decide_eq_true h]
   rfl
 · rw [decide_eq_false h]
   cases s <;> first | rfl | exact absurd rfl h
theorem br8 {s:Stm}(h1:s.wd≠Str.ofString "test") (h2:s.wd≠Str.ofString "wait") (h3:s.wd≠Str.ofString "loop"):a43 s=[]:=by
 cases s <;> first | rfl | exact absurd rfl h1 | exact absurd rfl h2 | exact absurd rfl h3
abbrev QE:=List Stm×Bool×Option Pl
def newQ (num:Nat):Nat→List Stm→List QE
 | _,[]=>[]
 | i,s::r=>(a43 s).map (fun b=>(b,s.isL,some (num,i+1)))++newQ num (i+1) r
noncomputable def a99 (tn:List Str) (num:Nat):Nat→Nat→List Stm→List KS
 | _,_,[]=>[]
 | i,m,s::r=>a77 tn (num,i+1) m s::a99 tn num (i+1) (m+(a43 s).length) r
theorem ar9 (num:Nat) (s:Stm):∀ (a:List Stm) (i:Nat),newQ num i (a++[s])=newQ num i a++(a43 s).map (fun b=>(b,s.isL,some (num,i+a.length+1)))
 | [],i=>by simp [newQ]
 | x::a,i=>by
   simp only [List.cons_append,newQ,ar9 num s a (i+1),List.append_assoc,List.length_cons]
   rw [show i+1+a.length+1=i+(a.length+1)+1 by omega]
theorem al9 (tn:List Str) (num:Nat) (s:Stm):∀ (a:List Stm) (i m:Nat),a99 tn num i m (a++[s])=a99 tn num i m a++[a77 tn (num,i+a.length+1) (m+(newQ num i a).length) s]
 | [],i,m=>by simp [a99,newQ]
 | x::a,i,m=>by
   simp only [List.cons_append,a99,al9 tn num s a (i+1),List.length_cons,newQ,List.length_append,List.length_map]
   rw [show i+1+a.length+1=i+(a.length+1)+1 by omega,Nat.add_assoc m]
theorem as0 (tn:List Str) (num:Nat):∀ (a:List Stm) (i m:Nat),(a99 tn num i m a).length=a.length
 | [],_,_=>rfl
 | x::a,i,m=>by simp only [a99,List.length_cons,as0 tn num a]
def Qn (q0:List QE):Nat→List QE
 | 0=>q0
 | n+1=>Qn q0 n++match (Qn q0 n)[n]? with
   | none=>[]
   | some q=>newQ n 0 q.1
theorem b84 (q0:List QE) (n:Nat):∀ k,∃ r,Qn q0 (n+k)=Qn q0 n++r
 | 0=>⟨[],by simp⟩
 | k+1=>by
   obtain ⟨r,h⟩:=b84 q0 n k
   exact ⟨_,by show Qn q0 (n+k)++_=_; rw [h,List.append_assoc]⟩
theorem br9 {q0:List QE}{n m:Nat}(h:n≤m):(Qn q0 n).length≤(Qn q0 m).length:=by
 obtain ⟨k,rfl⟩:=Nat.exists_eq_add_of_le h
 obtain ⟨r,e⟩:=b84 q0 n k
 rw [e,List.length_append]
 omega
theorem c57 {q0:List QE}{n m i:Nat}{q:QE}(h:n≤m) (e:(Qn q0 n)[i]?=some q):(Qn q0 m)[i]?=some q:=by
 obtain ⟨k,rfl⟩:=Nat.exists_eq_add_of_le h
 obtain ⟨r,e'⟩:=b84 q0 n k
 rw [e',List.getElem?_append_left (List.getElem?_eq_some_iff.mp e).1,e]
theorem b85 {q0:List QE}{n:Nat}(h:(Qn q0 n).length≤n):∀ k,Qn q0 (n+k)=Qn q0 n
 | 0=>rfl
 | k+1=>by
   have e:=b85 h k
   show Qn q0 (n+k)++(match (Qn q0 (n+k))[n+k]? with | none=>[] | some q=>newQ (n+k) 0 q.1)=_
   rw [e,List.getElem?_eq_none (by omega)]
   simp
theorem c58 {q0:List QE}{n N:Nat}(h:(Qn q0 n).length≤n) (hn:n≤N) (hN:(Qn q0 N).length=N):n=N:=by
 obtain ⟨k,rfl⟩:=Nat.exists_eq_add_of_le hn
 rw [b85 h k] at hN
 omega
def q0T (ts:List (Str×List Stm)):List QE:=ts.map fun x=>(x.2,false,none)
noncomputable def kbL (ts:List (Str×List Stm)) (N:Nat):List KB:=(Qn (q0T ts) N).mapIdx fun j q=>⟨q.2.1,q.2.2,a99 (ts.map (·.1)) j 0 (Qn (q0T ts) j).length q.1⟩
structure KR where
 o:Addr
 l:Addr
 q:QE
 st:List KS
def KrAt (C:Addr) (H:Hp) (x:KR):Prop:=∃ dx bv us,H x.o=some (.ins C dx (kbS (.bl x.q.2.1) bv (.ref x.l)))∧PlO H bv x.q.2.2∧H x.l=some (.lst us)∧Tr.Ats H (x.st.map KS.tr) us []
theorem KrAt.same {C:Addr}{H H':Hp}{x:KR}(h:KrAt C H x) (s:Same H H'):KrAt C H' x:=by
 obtain ⟨dx,bv,us,h1,h2,h3,h4⟩:=h
 exact ⟨dx,bv,us,s _ _ h1,h2.same s,s _ _ h3,h4.same s⟩
theorem PlO.tups {H H':Hp}{v:V}{p:Option Pl}(h:PlO H v p) (s:Tups H H'):PlO H' v p:=by
 cases p with
 | none=>exact h
 | some p =>
   obtain ⟨a,e,h⟩:=h
   exact ⟨a,e,s _ _ h⟩
theorem KrAt.upd {C:Addr}{H:Hp}{x:KR}{l:Addr}{us vs:List V}(h:KrAt C H x) (e:H l=some (.lst us)) (hne:x.l≠l):KrAt C (upd H l (.lst vs)) x:=by
 obtain ⟨dx,bv,us',h1,h2,h3,h4⟩:=h
 have ho:x.o≠l:=fun z=>by rw [z,e] at h1; cases h1
 exact ⟨dx,bv,us',by rw [a09 ho]; exact h1,h2.tups (Tups.upd e),by rw [a09 hne]; exact h3,h4.mono (Keep.upd e (by simp))⟩
structure KeepI (C:Addr) (H0 H:Hp) (kl bd:Addr) (ks:List KR) (bvs:List V):Prop where
 k:H kl=some (.lst (ks.map fun x=>V.ref x.o))
 b:H bd=some (.lst bvs)
 e:Each (BAt H0) bvs (ks.map (·.q.1))
 a:∀ (j:Nat) x,ks[j]?=some x→KrAt C H x
 nd:(ks.map (·.l)).Nodup
 nk:∀ x∈ks,x.l≠kl
 nb:∀ x∈ks,x.l≠bd
 ne:kl≠bd
 fk:H0 kl=none
 fb:H0 bd=none
 fl:∀ x∈ks,H0 x.l=none
 s:Same H0 H
theorem KeepI.same {C:Addr}{H0 H H':Hp}{kl bd:Addr}{ks:List KR}{bvs:List V}(h:KeepI C H0 H kl bd ks bvs) (s:Same H H'):KeepI C H0 H' kl bd ks bvs :=
 ⟨s _ _ h.k,s _ _ h.b,h.e,fun j x e=>(h.a j x e).same s,h.nd,h.nk,h.nb,h.ne,h.fk,h.fb,h.fl,h.s.trans s⟩
theorem c59 {ks:List KR}(hn:(ks.map (·.l)).Nodup) {i j:Nat}{x y:KR}(h1:ks[i]?=some x) (h2:ks[j]?=some y) (h:i≠j):x.l≠y.l:=by
 intro z
 have e1:(ks.map (·.l))[i]?=some x.l:=by rw [List.getElem?_map,h1]; rfl
 have e2:(ks.map (·.l))[j]?=some x.l:=by rw [List.getElem?_map,h2,z]; rfl
 obtain ⟨a1,a2⟩:=List.getElem?_eq_some_iff.mp e1
 obtain ⟨b1,b2⟩:=List.getElem?_eq_some_iff.mp e2
 exact h ((List.getElem_inj (h₀:=a1) (h₁:=b1) hn).mp (a2.trans b2.symm))
theorem KeepI.put {C:Addr}{H0 H:Hp}{kl bd:Addr}{ks:List KR}{bvs:List V}{n:Nat}{x:KR}{us:List V}{v:V}{k:KS}(h:KeepI C H0 H kl bd ks bvs) (e:ks[n]?=some x) (hl:H x.l=some (.lst us)) (hu:Tr.Ats H (x.st.map KS.tr) us []) (hk:k.tr.At H v []):KeepI C H0 (upd H x.l (.lst (us++[v]))) kl bd (ks.set n { x with st:=x.st++[k] }) bvs:=by
 have hm:=List.mem_of_getElem? e
 have hn:=(List.getElem?_eq_some_iff.mp e).1
 have hex:=(List.getElem?_eq_some_iff.mp e).2
 have mp:∀ {β:Type}(f:KR→β),f { x with st:=x.st++[k] }=f x→(ks.set n { x with st:=x.st++[k] }).map f=ks.map f:=fun f hf=>by
  apply List.ext_getElem?
  intro i
  rw [List.getElem?_map,List.getElem?_map,List.getElem?_set]
  split
  · rename_i hi
    subst hi
    rw [e]
    simp [hf]
  · rfl
 have mem:∀ y∈ks.set n { x with st:=x.st++[k] },∃ z∈ks,y.l=z.l:=fun y hy=>by
  rcases List.mem_or_eq_of_mem_set hy with z | z
  · exact ⟨y,z,rfl⟩
  · exact ⟨x,hm,by rw [z]⟩
 refine ⟨by rw [a09 (h.nk x hm).symm,mp _ rfl]; exact h.k,by rw [a09 (h.nb x hm).symm]; exact h.b,by rw [mp _ rfl]; exact h.e,fun j y hy=>?_,by rw [mp _ rfl]; exact h.nd,fun y hy=>?_,fun y hy=>?_,h.ne,h.fk,h.fb,fun y hy=>?_,h.s.updNew (h.fl x hm)⟩
 · by_cases hj:n=j
   · subst hj
     rw [List.getElem?_set,if_pos rfl,if_pos hn] at hy
     obtain rfl:=Option.some.inj hy
     obtain ⟨dx,bv,us',h1,h2,h3,h4⟩:=h.a n x e
     have ho:x.o≠x.l:=fun z=>by rw [z,hl] at h1; cases h1
     refine ⟨dx,bv,us++[v],by show upd H x.l _ x.o=_; rw [a09 ho]; exact h1,h2.tups (Tups.upd hl),a17,?_⟩
     rw [List.map_append]
     exact (hu.mono (Keep.upd hl (by simp))).snoc (hk.mono (Keep.upd hl (by simp)))
   · rw [List.getElem?_set,if_neg hj] at hy
     exact (h.a j y hy).upd hl (c59 h.nd hy e fun z=>hj z.symm)
 · obtain ⟨z,hz,e1⟩:=mem y hy
   rw [e1]
   exact h.nk z hz
 · obtain ⟨z,hz,e1⟩:=mem y hy
   rw [e1]
   exact h.nb z hz
 · obtain ⟨z,hz,e1⟩:=mem y hy
   rw [e1]
   exact h.fl z hz
structure NewK (C:Addr) (Hc H:Hp) (zs:List KR) (B:List (List Stm)) (lp:Bool) (bh:Option Pl):Prop where
 q:zs.map (·.q)=B.map fun b=>(b,lp,bh)
 a:∀ (j:Nat) x,zs[j]?=some x→KrAt C H x
 st:∀ x∈zs,x.st=[]
 nd:(zs.map (·.l)).Nodup
 fl:∀ x∈zs,Hc x.l=none
 s:Same Hc H
theorem NewK.same {C:Addr}{Hc H H':Hp}{zs:List KR}{B:List (List Stm)}{lp:Bool}{bh:Option Pl}(h:NewK C Hc H zs B lp bh) (s:Same H H'):NewK C Hc H' zs B lp bh :=
 ⟨h.q,fun j x e=>(h.a j x e).same s,h.st,h.nd,h.fl,h.s.trans s⟩
theorem NewK.snoc {C:Addr}{Hc H H':Hp}{zs:List KR}{B:List (List Stm)}{lp:Bool}{bh:Option Pl}{b:List Stm}{o l dx:Addr}{bv:V}(h:NewK C Hc H zs B lp bh) (s:Same H H') (fl:H l=none) (e1:H' o=some (.ins C dx (kbS (.bl lp) bv (.ref l)))) (e2:PlO H' bv bh) (e3:H' l=some (.lst [])):NewK C Hc H' (zs++[⟨o,l,(b,lp,bh),[]⟩]) (B++[b]) lp bh:=by
 refine ⟨by simp [h.q],fun j x e=>?_,fun x hx=>?_,?_,fun x hx=>?_,h.s.trans s⟩
 · rcases Nat.lt_or_ge j zs.length with hj | hj
   · rw [List.getElem?_append_left hj] at e
     exact (h.a j x e).same s
   · rw [List.getElem?_append_right hj] at e
     have:=(List.getElem?_eq_some_iff.mp e).1
     simp only [List.length_cons,List.length_nil] at this
     rw [show j - zs.length=0 by omega] at e
     obtain rfl:=Option.some.inj e
     exact ⟨dx,bv,[],e1,e2,e3,by simp [Tr.Ats]⟩
 · rcases List.mem_append.mp hx with z | z
   · exact h.st x z
   · rw [List.mem_singleton.mp z]
 · rw [List.map_append,List.nodup_append]
   refine ⟨h.nd,by simp,fun a ha b' hb=>?_⟩
   obtain ⟨x,hx,rfl⟩:=List.mem_map.mp ha
   obtain ⟨j,hj⟩:=List.mem_iff_getElem?.mp hx
   obtain ⟨_,_,us,_,_,h3,_⟩:=h.a j x hj
   simp only [List.map_cons,List.map_nil,List.mem_singleton] at hb
   intro z
   rw [z,hb,fl] at h3
   cases h3
 · rcases List.mem_append.mp hx with z | z
   · exact h.fl x z
   · rw [List.mem_singleton.mp z]
     exact h.s.free fl
theorem KeepI.app {C:Addr}{H0 H H':Hp}{kl bd:Addr}{ks:List KR}{bvs bv':List V}{zs:List KR}{B:List (List Stm)}{lp:Bool}{bh:Option Pl}(h:KeepI C H0 H kl bd ks bvs) (hb:Each (BAt H0) bv' B) (z:NewK C (upd H bd (.lst (bvs++bv'))) H' zs B lp bh):KeepI C H0 (upd H' kl (.lst ((ks++zs).map fun x=>V.ref x.o))) kl bd (ks++zs) (bvs++bv'):=by
 have ekl:upd H bd (.lst (bvs++bv')) kl=some (.lst (ks.map fun x=>V.ref x.o)):=by rw [a09 h.ne]; exact h.k
 have hkl:=z.s _ _ ekl
 have ebd:upd H bd (.lst (bvs++bv')) bd=some (.lst (bvs++bv')):=a17
 have hbd:=z.s _ _ ebd
 have ka:∀ (j:Nat) x,ks[j]?=some x→KrAt C (upd H' kl (.lst ((ks++zs).map fun x=>V.ref x.o))) x:=fun j x e=>by
  have hm:=List.mem_of_getElem? e
  exact (((h.a j x e).upd h.b (h.nb x hm)).same z.s).upd hkl (h.nk x hm)
 have zn:∀ x∈zs,x.l≠kl∧x.l≠bd∧∀ y∈ks,y.l≠x.l:=fun x hx=>by
  have hf:=z.fl x hx
  refine ⟨fun e=>?_,fun e=>?_,fun y hy e=>?_⟩
  · rw [e,ekl] at hf; cases hf
  · rw [e,ebd] at hf; cases hf
  · obtain ⟨j,hj⟩:=List.mem_iff_getElem?.mp hy
    obtain ⟨_,_,us,_,_,h3,_⟩:=(h.a j y hj).upd (vs:=bvs++bv') h.b (h.nb y hy)
    rw [e,hf] at h3
    cases h3
 refine ⟨a17,by rw [a09 h.ne.symm]; exact hbd,?_,fun j x e=>?_,?_,fun x hx=>?_,fun x hx=>?_,h.ne,h.fk,h.fb,fun x hx=>?_,?_⟩
 · rw [List.map_append,show zs.map (·.q.1)=B by have:=congrArg (List.map Prod.fst) z.q; simpa [List.map_map,Function.comp_def] using this]
   exact h.e.append hb
 · rcases Nat.lt_or_ge j ks.length with hj | hj
   · rw [List.getElem?_append_left hj] at e
     exact ka j x e
   · rw [List.getElem?_append_right hj] at e
     exact (z.a _ x e).upd hkl (zn x (List.mem_of_getElem? e)).1
 · rw [List.map_append,List.nodup_append]
   refine ⟨h.nd,z.nd,fun a ha b hb'=>?_⟩
   obtain ⟨x,hx,rfl⟩:=List.mem_map.mp ha
   obtain ⟨y,hy,rfl⟩:=List.mem_map.mp hb'
   exact (zn y hy).2.2 x hx
 · rcases List.mem_append.mp hx with e | e
   · exact h.nk x e
   · exact (zn x e).1
 · rcases List.mem_append.mp hx with e | e
   · exact h.nb x e
   · exact (zn x e).2.1
 · rcases List.mem_append.mp hx with e | e
   · exact h.fl x e
   · exact (h.s.updNew h.fb).free (z.fl x e)
 · exact ((h.s.updNew h.fb).trans z.s).updNew h.fk
section
variable {α:Type} [DecidableEq α]
def addL (most:Nat):List α→List α→Option (List α)
 | row,[]=>some row
 | row,k::ks=>if k∈row then addL most row ks else if row.length=most then none else addL most (row++[k]) ks
def srL (nx:α→List α) (most:Nat):Nat→Nat→List α→Option (List α)
 | 0,_,row=>some row
 | n+1,p,row=>match row[p]? with
   | none=>some row
   | some k=>(addL most row (nx k)).bind (srL nx most n (p+1))
theorem b86 {most j:Nat}{row ks:List α}{k:α}(e:ks[j]?=some k):addL most row (ks.drop j)=if k∈row then addL most row (ks.drop (j+1)) else if row.length=most then none else addL most (row++[k]) (ks.drop (j+1)):=by
 obtain ⟨h1,h2⟩:=List.getElem?_eq_some_iff.mp e
 rw [List.drop_eq_getElem_cons h1,h2]
 rfl
theorem ay3 {nx:α→List α}{most n p:Nat}{row:List α}{k:α}(e:row[p]?=some k):srL nx most (n+1) p row=(addL most row (nx k)).bind (srL nx most n (p+1)):=by
 conv=>lhs; unfold srL
 rw [e]
theorem an8 {nx:α→List α}{most n p:Nat}{row:List α}(e:row.length≤p):srL nx most n p row=some row:=by
 cases n with
 | zero=>rfl
 | succ n =>
   unfold srL
   rw [List.getElem?_eq_none e]
end
def stdT:Option Std→Tr
 | none=>.non
 | some (p,stk,ws,l)=>.tup [plT p,.tup (stk.map plT),.tup (ws.map Tr.int),.int l]
theorem b87 {p q:Pl}(h:plT p=plT q):p=q:=by
 obtain ⟨a,b⟩:=p
 obtain ⟨c,d⟩:=q
 simp only [plT,Tr.tup.injEq,List.cons.injEq,Tr.int.injEq] at h
 obtain ⟨h1,h2,_⟩:=h
 simp only [Prod.mk.injEq]
 omega
theorem av1 {α β:Type}{f:α→β}(hf:∀ x y,f x=f y→x=y):∀ {l m:List α},l.map f=m.map f→l=m
 | [],[],_=>rfl
 | [],_::_,h=>by simp at h
 | _::_,[],h=>by simp at h
 | x::l,y::m,h=>by
   simp only [List.map_cons,List.cons.injEq] at h
   rw [hf x y h.1,av1 hf h.2]
theorem ay4 {r q:Option Std}(h:stdT r=stdT q):r=q:=by
 cases r with
 | none =>
   cases q with
   | none=>rfl
   | some y=>obtain ⟨a,b,c,d⟩:=y; simp [stdT] at h
 | some x =>
   obtain ⟨p,stk,ws,l⟩:=x
   cases q with
   | none=>simp [stdT] at h
   | some y =>
     obtain ⟨a,b,c,d⟩:=y
     simp only [stdT,Tr.tup.injEq,List.cons.injEq,Tr.int.injEq] at h
     obtain ⟨h1,h2,h3,h4,_⟩:=h
     rw [b87 h1,av1 (fun _ _=>b87) h2,av1 (fun x y z=>Tr.int.inj z) h3,h4]
theorem c60 {H:Hp}{v:V}{p:Pl}(h:Pl.At H v p):(plT p).At H v []:=by
 obtain ⟨a,rfl,e⟩:=h
 simp only [plT,Tr.At,Tr.Ats]
 exact ⟨a,_,rfl,e,_,_,[],[],rfl,rfl,⟨rfl,rfl⟩,_,_,[],[],rfl,rfl,⟨rfl,rfl⟩,rfl,rfl⟩
theorem bl9 {H:Hp}:∀ {ps:List Pl}{vs:List V},Each (Pl.At H) vs ps→Tr.Ats H (ps.map plT) vs []
 | [],vs,h=>by
   obtain rfl:vs=[]:=List.eq_nil_of_length_eq_zero h.1
   simp [Tr.Ats]
 | b::bs,[],h=>by have:=h.1; simp at this
 | b::bs,v::vs,h=>by
   simp only [List.map_cons,Tr.Ats]
   exact ⟨v,vs,[],[],rfl,rfl,c60 (h.2 0 v b rfl rfl),bl9 ⟨by simpa using h.1,fun i x y h1 h2=>h.2 (i+1) x y (by simpa using h1) (by simpa using h2)⟩⟩
theorem c61 {H:Hp}{v:V}{r:Option Std}(h:StdAt H v r):(stdT r).At H v []:=by
 cases r with
 | none =>
   obtain rfl:v=.non:=h
   simp [stdT,Tr.At]
 | some x =>
   obtain ⟨p,stk,ws,l⟩:=x
   obtain ⟨q,pv,ps,pa,rfl,h1,h2,⟨us,h3,h4⟩,h5⟩:=h
   simp only [stdT,Tr.At,Tr.Ats]
   exact ⟨q,_,rfl,h1,_,_,[],[],rfl,rfl,c60 h2,_,_,[],[],rfl,rfl,⟨ps,us,rfl,h3,bl9 h4⟩,_,_,[],[],rfl,rfl,⟨pa,_,rfl,h5,ax2 ws⟩,_,_,[],[],rfl,rfl,⟨rfl,rfl⟩,rfl,rfl⟩
theorem b88 {n:Nat}:∀ {l:List Tr},(∀ x∈l,x.h≤n)→Tr.hs l≤n
 | [],_=>by simp [Tr.hs]
 | x::l,h=>by
   simp only [Tr.hs]
   exact Nat.max_le.mpr ⟨h x (by simp),b88 fun y hy=>h y (by simp [hy])⟩
theorem cd4 (r:Option Std):(stdT r).h≤8:=by
 cases r with
 | none=>simp [stdT,Tr.h]
 | some x =>
   obtain ⟨p,stk,ws,l⟩:=x
   have h1:Tr.hs (stk.map plT)≤2:=b88 fun y hy=>by
    obtain ⟨q,_,rfl⟩:=List.mem_map.mp hy
    simp [plT,Tr.h,Tr.hs]
   have h2:Tr.hs (ws.map Tr.int)≤2:=b88 fun y hy=>by
    obtain ⟨q,_,rfl⟩:=List.mem_map.mp hy
    simp [Tr.h]
   have h3:(plT p).h≤2:=by simp [plT,Tr.h,Tr.hs]
   simp only [stdT,Tr.h,Tr.hs]
   omega
theorem as1 {H:Hp}{v:V}{r:Option Std}(h:StdAt H v r):TK H (stdT r) v:=⟨c61 h,cd4 r⟩
def knL (row:List (Option Std)):List (Tr×V):=row.map fun r=>(stdT r,.bl true)
theorem b89 (row:List (Option Std)) (k:Option Std):(valV (knL row) (stdT k)).isSome=decide (k∈row):=by
 induction row with
 | nil=>simp [knL,valV]
 | cons r row ih =>
   by_cases e:stdT r=stdT k
   · have e2:=ay4 e
     rw [show knL (r::row)=(stdT r,.bl true)::knL row from rfl,a52 (by exact e),e2]
     simp
   · rw [show knL (r::row)=(stdT r,.bl true)::knL row from rfl,a53 (by exact e),ih]
     have:k≠r:=fun z=>e (by rw [z])
     simp [this]
theorem bs0 {row:List (Option Std)}{k:Option Std}(h:k∉row):putK (knL row) (stdT k) (.bl true)=knL (row++[k]):=by
 have h0:valV (knL row) (stdT k)=none:=by
  have:=b89 row k
  rw [decide_eq_false h] at this
  cases e:valV (knL row) (stdT k) with
  | none=>rfl
  | some y=>rw [e] at this; cases this
 rw [bd2 _ h0]
 simp [knL]
theorem bs1 (row:List (Option Std)):(knL row).length=row.length:=by simp [knL]
theorem Same.tupsExt {H:Hp}{d:Addr}{φ:Heap→Prop} {o:HO}(h:H d=some (.ext φ)):Tups H (upd H d o):=fun b ys e=>by
 rw [a09 (aj8 e h (fun z=>nomatch z))]
 exact e
section
variable {α:Type} [DecidableEq α]
theorem av2 {most:Nat}:∀ {ks row row':List α},addL most row ks=some row'→row.length≤most→(∃ t,row'=row++t)∧(∀ k∈ks,k∈row')∧(row.Nodup→row'.Nodup)∧row'.length≤most
 | [],row,row',h,hl=>by
   obtain rfl:=Option.some.inj h
   exact ⟨⟨[],by simp⟩,by simp,fun z=>z,hl⟩
 | k::ks,row,row',h,hl=>by
   unfold addL at h
   by_cases hm:k∈row
   · rw [if_pos hm] at h
     obtain ⟨⟨t,rfl⟩,h2,h3,h4⟩:=av2 h hl
     refine ⟨⟨t,rfl⟩,fun x hx=>?_,h3,h4⟩
     rcases List.mem_cons.mp hx with rfl | hx
     · exact List.mem_append_left _ hm
     · exact h2 x hx
   · rw [if_neg hm] at h
     by_cases hf:row.length=most
     · rw [if_pos hf] at h
       cases h
     · rw [if_neg hf] at h
       obtain ⟨⟨t,rfl⟩,h2,h3,h4⟩:=av2 h (by rw [List.length_append,List.length_singleton]; omega)
       refine ⟨⟨[k]++t,by simp⟩,fun x hx=>?_,fun hn=>h3 ?_,h4⟩
       · rcases List.mem_cons.mp hx with rfl | hx
         · simp
         · exact h2 x hx
       · rw [List.nodup_append]
         exact ⟨hn,by simp,fun a ha b hb z=>hm (by rw [← List.mem_singleton.mp hb,←z]; exact ha)⟩
theorem bm0 {nx:α→List α}{most:Nat}:∀ {n p:Nat}{row row':List α},srL nx most n p row=some row'→n+p=most+1→p≤row.length→row.length≤most→row.Nodup→(∀ (i:Nat) (k:α),i<p→row[i]?=some k→∀ x∈nx k,x∈row)→row'.Nodup∧(∀ k∈row',∀ x∈nx k,x∈row')∧(∃ t,row'=row++t)∧row'.length≤most
 | 0,p,row,row',h,hn,hp,hl,_,_=>by omega
 | n+1,p,row,row',h,hn,hp,hl,hd,hc=>by
   cases e:row[p]? with
   | none =>
     have hle:=List.getElem?_eq_none_iff.mp e
     rw [an8 hle] at h
     obtain rfl:=Option.some.inj h
     refine ⟨hd,fun k hk x hx=>?_,⟨[],by simp⟩,hl⟩
     obtain ⟨i,hi⟩:=List.mem_iff_getElem?.mp hk
     exact hc i k (by have:=(List.getElem?_eq_some_iff.mp hi).1; omega) hi x hx
   | some k =>
     rw [ay3 e] at h
     obtain ⟨row1,h1,h2⟩:=Option.bind_eq_some_iff.mp h
     have hpl:=(List.getElem?_eq_some_iff.mp e).1
     obtain ⟨⟨t,rfl⟩,a2,a3,a4⟩:=av2 h1 hl
     obtain ⟨b1,b2,⟨t',rfl⟩,b4⟩:=bm0 h2 (by omega) (by rw [List.length_append]; omega) a4 (a3 hd) fun i k' hi hk' x hx=>by
      rw [List.getElem?_append_left (by omega)] at hk'
      by_cases hip:i=p
      · rw [hip,e] at hk'
        obtain rfl:=Option.some.inj hk'
        exact a2 x hx
      · exact List.mem_append_left _ (hc i k' (by omega) hk' x hx)
     exact ⟨b1,b2,⟨t++t',by simp⟩,b4⟩
end
def nmL (row:List (Option Std)):List (Tr×V):=(List.range row.length).map fun i=>(stdT (row.getD i none),.int (i:Nat))
theorem av3 {row:List (Option Std)}{i:Nat}{r:Option Std}(h:row[i]?=some r):(nmL row)[i]?=some (stdT r,.int (i:Nat)):=by
 have hi:=(List.getElem?_eq_some_iff.mp h).1
 unfold nmL
 rw [List.getElem?_map,List.getElem?_range hi]
 simp [List.getD_eq_getElem?_getD,h]
theorem ay5 (row:List (Option Std)) (r:Option Std):nmL (row++[r])=nmL row++[(stdT r,.int (row.length:Nat))]:=by
 refine List.ext_getElem? fun i=>?_
 by_cases hi:i<row.length
 · obtain ⟨x,hx⟩:∃ x,row[i]?=some x:=⟨_,List.getElem?_eq_getElem hi⟩
   rw [av3 (r:=x) (by rw [List.getElem?_append_left hi,hx]),List.getElem?_append_left (by simpa [nmL] using hi),av3 hx]
 · by_cases he:i=row.length
   · subst he
     rw [av3 (r:=r) (by simp),List.getElem?_append_right (by simp [nmL])]
     simp [nmL]
   · rw [List.getElem?_eq_none (by simp [nmL]; omega),List.getElem?_eq_none (by simp [nmL]; omega)]
theorem av4 (ps:List (Tr×V)) (x:Tr×V):ae1 [] (ps++[x])=putK (ae1 [] ps) x.1 x.2:=by
 unfold ae1
 rw [List.foldl_append]
 rfl
theorem b90:∀ (n:Nat) (row:List (Option Std)),row.length=n→row.Nodup→∀ r,valV (ae1 [] (nmL row)) (stdT r)=if r∈row then some (.int (row.idxOf r:Nat)) else none
 | 0,row,h,_,r=>by
   obtain rfl:row=[]:=List.eq_nil_of_length_eq_zero h
   simp [nmL,ae1,valV]
 | n+1,row,h,hn,r=>by
   rcases List.eq_nil_or_concat row with rfl | ⟨t,z,rfl⟩
   · simp at h
   · rw [List.concat_eq_append] at *
     have hn':=List.nodup_append.mp hn
     have hz:z∉t:=fun hz=>hn'.2.2 z hz z (by simp) rfl
     rw [ay5,av4,bd1]
     by_cases e:r=z
     · subst e
       rw [if_pos rfl,if_pos (by simp),List.idxOf_append,if_neg hz]
       simp
     · rw [if_neg (fun w=>e (ay4 w)),b90 n t (by simpa using h) hn'.1 r]
       by_cases hm:r∈t
       · rw [if_pos hm,if_pos (by simp [hm]),List.idxOf_append,if_pos hm]
       · rw [if_neg hm,if_neg (by simp [hm,e])]
structure ExcI (K:PySem.W.Frag) (C:Addr):Prop where
 ga:PySem.W.findIn K (.ref C) "__getattribute__"=some (some (.builtin "BaseException.__getattribute__"))
 gt:PySem.W.findIn K (.ref C) "__getattr__"=some none
 ha:PySem.W.findIn K (.ref C) "__class__"=some (some (.builtin "object.__class__"))
 hn:PySem.W.specialIn K (.builtin "object.__class__") "__get__"=some (some (.builtin "getset_descriptor.__get__"))
 htk:PySem.W.takesIn K (.builtin "object.__class__")=some true
 hm:PySem.W.mroIn K C (.type "object")=some true
 hb:PySem.W.mroIn K C (.type "BaseException")=some true
 hc:(PySem.W.clsIn K C).isSome=true
def c62 (K:PySem.W.Frag) (C:Addr):Bool:=PySem.W.findIn K (.ref C) "__getattribute__" == some (some (.builtin "BaseException.__getattribute__")) && PySem.W.findIn K (.ref C) "__getattr__" == some none && PySem.W.findIn K (.ref C) "__class__" == some (some (.builtin "object.__class__")) && PySem.W.specialIn K (.builtin "object.__class__") "__get__" == some (some (.builtin "getset_descriptor.__get__")) && PySem.W.takesIn K (.builtin "object.__class__") == some true && PySem.W.mroIn K C (.type "object") == some true && PySem.W.mroIn K C (.type "BaseException") == some true && (PySem.W.clsIn K C).isSome
theorem bs2 {K:PySem.W.Frag}{C:Addr}(h:c62 K C=true):ExcI K C:=by
 simp only [c62,Bool.and_eq_true] at h
 obtain ⟨⟨⟨⟨⟨⟨⟨h1,h2⟩,h3⟩,h4⟩,h5⟩,h6⟩,h7⟩,h8⟩:=h
 exact ⟨beq_iff_eq.mp h1,beq_iff_eq.mp h2,beq_iff_eq.mp h3,beq_iff_eq.mp h4,beq_iff_eq.mp h5,beq_iff_eq.mp h6,beq_iff_eq.mp h7,h8⟩
theorem an9:bootBuiltins "ValueError"=some (.type "ValueError"):=by decide +kernel
section
variable {prog:Program}{w:World}{A:Around}{E:Value→Shared→Prop}{s:Shared}{K:PySem.W.Frag}{x C:Addr}{ox:Obj}
open PySem.W PySem.Calls PySem.Builtin PySem.Builtin.ObjectAttr PySem.Builtin.Getset_descriptor
theorem bg5 {M:Model}{hp:Heap}(X:K.In hp) (c:ExcI K C):Looks M hp (find (.ref x) (.ref C) "__class__") (.bind (.builtin "getset_descriptor.__get__") (.builtin "object.__class__")) :=
 (looks_findIn X c.ha).andThen ((show Looks M hp (getOf (some (.builtin "object.__class__"))) _ from looks_specialIn X c.hn).andThen ((show Looks M hp (dataDescriptor? (some (.builtin "object.__class__")) (some (.builtin "getset_descriptor.__get__"))) (some (.builtin "getset_descriptor.__get__",.builtin "object.__class__")) from (looks_takesIn X c.htk).andThen .now).andThen (Looks.tag .now)))
theorem bs3 {R:Result→Shared→Prop}{tp:Value}(X:K.In s.heap) (T0:Looks (model prog w) s.heap (typeOf (.ref x)) (.ref C)) (c:ExcI K C) (q:R (.ok (.ret (.ref C))) s) :
 codeAny (model prog w) A (.call (.builtin "getset_descriptor.__get__") ⟨[.builtin "object.__class__",.ref x,tp],[]⟩) R s:=by
 obtain ⟨hp,gn,dw,tk,os⟩:=s
 have T1:=looks_mroIn (M:=model prog w) X c.hm
 refine codeAny_call_builtin KF.slot_gs.plain KF.entry_gs (KF.slot_gs.check _ _ _ _ _ _ _ _ KF.type_class (KF.args_gs _ _ _) ?_)
 unfold Builtin.«getset_descriptor.__get__» descrGet; rw [dga_obj]
 refine wpAny_bind (wpAny_pure ?_); unfold descrGetter descrCheckInstance descrNameAndClass isInstance
 simp only [KF.owner_class]
 repeat lk
 refine ⟨Code.quiet_builtin _ (by decide +kernel),codeAny_builtin KF.entry_class ?_⟩; unfold Builtin.«object.__class__» shownTypeOf
 repeat lk
 exact q
theorem b91 {M:Model}{nameV:Value}{Q:Unit→Shared→Prop}(T0:Looks M s.heap (typeOf (.ref x)) (.ref C)) (L4:Looks M s.heap (isSubtype (.ref C) (.type "BaseException")) true) (q:Q () s):wpAny M A (checkBuiltinCall "BaseException.__getattribute__" ⟨[.ref x,nameV],[]⟩) Q E s:=by
 have k1:builtinKind "BaseException.__getattribute__"=some .slot:=by decide +kernel
 have k2:splitId "BaseException.__getattribute__"=some ("BaseException","__getattribute__"):=by decide +kernel
 have k3:=F.args_bexc_ga (.ref x) nameV
 simp only [checkBuiltinCall,k1,k2]
 have LI:Looks M s.heap (isInstance (.ref x) (.type "BaseException")) true:=T0.andThen L4
 refine wpAny_bind (LI.at ?_)
 repeat wp_step
 exact q
theorem b92 {Q:Option Value→Shared→Prop}(X:K.In s.heap) (c:ExcI K C) (T0:Looks (model prog w) s.heap (typeOf (.ref x)) (.ref C)) (h:Q (some (.ref C)) { s with toks:=s.toks+1 }):wpAny (model prog w) A (getAttr? (.ref x) "__class__") Q E s:=by
 obtain ⟨hh,g,d,t,os⟩:=s
 have L1:=looks_findIn (M:=model prog w) X c.ga
 have L2:=looks_findIn (M:=model prog w) X c.gt
 have L3:=bg5 (M:=model prog w) (x:=x) X c
 have L4:=looks_mroIn (M:=model prog w) X c.hb
 unfold getAttr? getAttrBy? getAttrBy
 refine wpAny_bind (wpAny_mkText (wpAny_bind (wpAny_attempt (wpAny_holding (wpAny_bind (T0.at (wpAny_bind (L1.at ?_))))))))
 dsimp only
 have hx2:(Value.builtin "BaseException.__getattribute__" == Value.builtin "object.__getattribute__")=false:=by decide +kernel
 have hx1:(onTheHeap (Value.ref C) && Value.builtin "BaseException.__getattribute__" == Value.builtin "object.__getattribute__")=false:=by rw [hx2]; rfl
 rw [hx1,if_neg Bool.false_ne_true]
 unfold getAttrByItsOwn hookBefore
 rw [show onTheHeap (Value.ref C)=true from rfl,if_pos rfl]
 refine wpAny_bind (L2.at (wpAny_bind (wpAny_attempt (wpAny_holding ?_))))
 unfold callGetattribute boundAndCalled
 rw [show (false && onTheHeap (Value.builtin "BaseException.__getattribute__"))=false from rfl,if_neg Bool.false_ne_true,F.attr_ValueError.ga.bind]
 refine wpAny_bind (wpAny_pure (wpAny_call (codeAny_call_builtin F.attr_ValueError.ga.plain F.entry_bexc_ga ?_)))
 refine b91 T0 L4 ?_
 unfold «object.__getattribute__»
 refine wpAny_bind (wpAny_pure (wpAny_bind (wpAny_pure (wpAny_bind (T0.at (wpAny_bind (L3.at ?_)))))))
 show wpAny _ _ (holding [Value.builtin "object.__class__"] (call (Value.builtin "getset_descriptor.__get__") [Value.builtin "object.__class__",Value.ref x,Value.ref C]) >>= ret) _ _ _
 refine wpAny_bind (wpAny_holding (wpAny_call (bs3 (s:=⟨hh,g,d,t+1,os⟩) X T0 c ?_)))
 exact wpAny_pure (handed_on rfl (wpAny_pure h))
theorem bg6 (c:ExcI K C):KitX K (.ref x) (.ref C) (fun h=>∃ o,h.get? x=some o∧o.cls=.ref C) where
 ty:=fun M h X p=>by
  obtain ⟨o,e,hc⟩:=p
  exact hc ▸ (Looks.ld e).andThen .now
 it:=fun M h X _=>by
  obtain ⟨cd,hcd⟩:=Option.isSome_iff_exists.mp c.hc
  unfold clsIn at hcd
  split at hcd
  · rename_i c1 d1 cd1 sl1 ho; intro A1 Q1 E1 s1 k1 q1
    unfold isType loadHead; exact wpAny_bind (wpAny_loadPart (k1 _ _ (X _ _ ho)) (wpAny_pure q1))
  · cases hcd
 ne:=fun h tp dd its n sl X htp=>by
  obtain ⟨cd,hcd⟩:=Option.isSome_iff_exists.mp c.hc
  refine Bool.eq_false_iff.mpr fun q1=>?_
  obtain rfl:C=tp:=Value.ref.inj (beq_iff_eq.mp q1)
  unfold clsIn at hcd
  split at hcd
  · rename_i c1 d1 cd1 sl1 ho; cases (X _ _ ho).symm.trans htp
  · cases hcd
 ca:=fun {prog w A E Q s} X p k=>by
  obtain ⟨o,e,hc⟩:=p
  exact b92 X c (hc ▸ (Looks.ld e).andThen .now) k
def ExcP (a C:Addr):Heap→Prop:=fun h=>∃ o,h.get? a=some o∧o.cls=.ref C
end
section
variable {X:Cx}
def bg7 (K:PySem.W.Frag):List V→Hp→VK→Prop:=fun xs H Q=>∃ a C M b,xs=[.ref a,M]∧H a=some (.ext (ExcP a C))∧ExcI K C∧(∃ u,RelV M u∧(∀ u',RelV M u'→u'=u)∧PySem.W.kitOne K (.ref C) u=some b)∧Q (.bl b) H
theorem bs4:CallR X (.builtin "isinstance") (bg7 X.K):=by
 intro pins s σ H xs us Q I r h
 obtain ⟨a,C,M,b,rfl,e,c,⟨u,ru,uu,k⟩,q⟩:=h
 cases r with
 | cons r1 r2 =>
 cases r2 with
 | cons r2 r3 =>
 cases r3
 obtain rfl:=uu _ r2
 cases r1
 obtain ⟨p,_⟩:=(show ObjOk X.prog X.w H s.heap a (.ext (ExcP a C)) from I.hok a _ e)
 exact PySem.W.kia_one (bg6 c) I.kIn p k (fun z=>nomatch z) fun tk=>⟨.bl b,H,I.tok _,rfl,q⟩
theorem ae2 (K:PySem.W.Frag) (hK:X.K=K:=by rfl):CallR X (.builtin "isinstance") (bg7 K):=hK ▸ bs4
theorem Inv.seen {pins:List (Addr×Obj)}{σ:St} {H:Hp}{s:Shared}{a:Addr}{φ:Heap→Prop} (I:Inv X pins σ H s) (hn:H a=none) (hφ:φ s.heap) (ho:∃ o,s.heap.get? a=some o) (st:∀ h1 h2:Heap,φ h1→(∀ o,h1.get? a=some o→h2.get? a=some o)→φ h2)
 (n0:X.s₀.heap.get? a=none) (nl:a≠X.env.locals) (nc:∀ x c,X.env.cells.lookup x=some c→c≠a) (np:∀ p∈X.pn++pins,p.1≠a):Inv X pins σ (upd H a (.ext φ)) s:=by
 have ne:∀ {b:Addr}{u:HO},H b=some u→b≠a:=fun e z=>by rw [z,hn] at e; cases e
 refine ⟨I.ok,I.os,I.bare,⟨I.base.keep,I.base.slot,fun b o e n hx=>?_,I.base.there,fun b xs e=>?_,fun b o u e=>?_,fun b ps e=>?_⟩,I.loc,I.cell,by rw [a09 nl.symm]; exact I.free,fun x c e=>by rw [a09 (nc x c e)]; exact I.freeC x c e,fun p hp=>?_,fun b u e=>?_,I.len⟩
 · rw [a09 (fun z=>by rw [z,n0] at e; cases e)]
   exact I.base.free b o e n hx
 · have:=I.base.tups b xs e
   rw [a09 (ne this)]
   exact this
 · have:=I.base.frzs b o u e
   rw [a09 (ne this)]
   exact this
 · obtain ⟨more,this⟩:=I.base.tbls b ps e
   exact ⟨more,by rw [a09 (ne this)]; exact this⟩
 · obtain ⟨e,n,nl',nf,d⟩:=I.pin p hp
   exact ⟨e,by rw [a09 (np p hp)]; exact n,nl',nf,d⟩
 · by_cases hb:b=a
   · subst hb
     rw [a17] at e
     cases e
     exact ⟨hφ,ho,st⟩
   · rw [a09 hb] at e
     refine (I.hok b u e).stay (fun _ _ _ q=>q) (fun c q=>?_) fun c ps q=>?_
     · rw [a09 (ne q)]; exact q
     · rw [a09 (ne q)]; exact q
theorem ae3 {M:Model}{A:Around}{E:Value→Shared→Prop}{pins:List (Addr×Obj)}{σ:St} {H:Hp}{s:Shared}{i:Nat}{n:Str}{pos:Pos}{Q:Unit→Shared→Prop}(I:Inv X pins σ H s) (hN:X.N.Nodup) (hi:X.N[i]?=some n) (hk:X.env.kindOf n=some .local) (hk2:X.env.scope.names.lookup n=some .local)
 (h:∀ s',Inv X pins (σ.set i none) H s'→Q () s'):wpAny M A (do bindName X.env n .none; unbindBehindTheSuite X.env n pos) Q E s:=by
 have hcls:(X.env.scope.kind == .class || (X.env.scope.kind == .module && X.env.locals != X.env.globals))=false:=by rw [I.ok.kind]; rfl
 refine wpAny_bind (wpAny_bindName (ad1 (v:=.non) I hN hi (.inl hk) rfl (fun s1 I1=>?_) (.inr hk2)))
 unfold unbindBehindTheSuite; refine wpAny_onRaise ?_
 unfold unbindName; refine wpAny_bind (wpAny_point (wpAny_bind ?_))
 unfold deleteName
 simp only [hk,hcls]
 rw [if_neg (by decide)]
 obtain ⟨m,hn,hl⟩:=id I1.loc
 refine wpAny_bind (wpAny_nsDel_keeps hn fun h2 v2 hn2 hs=>?_)
 have hmn:(m n).isSome=true:=by
  have hiσ:i<σ.length:=by rw [I.len]; exact (List.getElem?_eq_some_iff.mp hi).1
  obtain ⟨u,_,l⟩:=hl i n .non hi (by rw [List.getElem?_set_self hiσ]) (.inl hk2)
  rcases l with ⟨_,e⟩ | ⟨k,_⟩
  · rw [e]; rfl
  · rw [hk] at k
    rcases k with k | k <;> cases k
 rw [hmn]
 simp only [if_true,Option.isSome_some,Bool.not_true,Bool.false_eq_true,if_false]
 refine wpAny_pure (wpAny_point (h _ ?_))
 have cne:=I1.cne
 obtain ⟨oL,_,_,hoL,_⟩:=id hn
 have nb:∀ {b:Addr}{o:Obj},X.s₀.heap.get? b=some o→b≠X.env.locals:=fun e=>Nat.ne_of_lt (Nat.lt_of_lt_of_le (Heap.lt_size e) I1.ok.above)
 refine ⟨I1.ok,I1.os,I1.bare,⟨fun b o e n' hb hx=>(hs.2 b (nb e)).trans (I1.base.keep b o e n' hb hx),fun b o e n' hb hx=>?_,I1.base.free,fun b o e hx=>?_,I1.base.tups,I1.base.frzs,I1.base.tbls⟩,⟨_,hn2,fun j y v' e1 e2 e3=>?_⟩,fun y c e=>?_,I1.free,I1.freeC,fun p hp=>?_,fun b ob e=>?_,by simpa using I.len⟩
 · obtain ⟨sl,e1⟩:=I1.base.slot b o e n' hb hx
   exact ⟨sl,(hs.2 b (nb e)).trans e1⟩
 · obtain ⟨o',e1⟩:=I1.base.there b o e hx
   exact ⟨o',(hs.2 b (nb e)).trans e1⟩
 · have hj:j≠i:=fun z=>by
    subst z
    rw [List.getElem?_set_self (by rw [I.len]; exact (List.getElem?_eq_some_iff.mp hi).1)] at e2
    cases e2
   rw [List.getElem?_set_ne hj.symm] at e2
   obtain ⟨u',r',q⟩:=hl j y v' e1 (by rw [List.getElem?_set_ne hj.symm]; exact e2) e3
   refine ⟨u',r',?_⟩
   rcases q with ⟨k,e⟩ | ⟨k,c,e,z⟩
   · have hyn:y≠n:=fun e=>hj (am1 hN e1 (by rw [e]; exact hi))
     exact .inl ⟨k,by show (if y=n then v2 else m y)=some u'; rw [if_neg hyn]; exact e⟩
   · exact .inr ⟨k,c,e,z.sameBut hs (cne y c e)⟩
 · obtain ⟨w',z⟩:=I1.cell y c e
   exact ⟨w',z.sameBut hs (cne y c e)⟩
 · obtain ⟨e,n',ne,nf,d⟩:=I1.pin p hp
   exact ⟨(hs.2 p.1 ne).trans e,n',ne,nf,d⟩
 · have hfree:=I1.free
   refine (I1.hok b ob e).stay (fun c w' hc q=>(hs.2 c ?_).trans q) (fun _ q=>q) fun _ _ q=>q
   rintro rfl
   rcases hc with rfl | hc
   · rw [hfree] at e; cases e
   · rw [hfree] at hc; cases hc
def Ends.fgt (D:Ends) (i:Nat):Ends:=⟨fun τ G=>D.nx (τ.set i none) G,D.rt,fun τ G=>D.bk (τ.set i none) G,fun τ G=>D.ct (τ.set i none) G⟩
def bs5 (n i:Nat) (C:Addr) (tb:XK→TS) (ts:TS):TS:=fun D σ H=>tb (fun _ _ H'=>∀ (σ':St) (a:Addr),σ'.length=n→H' a=none→ts (D.fgt i) (σ'.set i (some (.ref a))) (upd H' a (.ext (ExcP a C)))) D σ H
theorem bs6 {C B0:Addr}{i:Nat}{x n:Str}{np hpos pos:Pos}{body suite:List Stmt}{b₀:Stmt}{tb:XK→TS}{ts:TS}(hstk:X.stack=X.env::X.outer) (hfrm:X.env.frame=some X.env.locals) (hex:X.ex=[])
 (q:PySem.W.exmOne X.K (.ref C) (.ref B0)=some true) (hm:X.mg x=some (.ref B0)) (hg:Gl X x) (hN:X.N.Nodup) (hi:X.N[i]?=some n) (hk:X.env.kindOf n=some .local) (hk2:X.env.scope.names.lookup n=some .local)
 (hb:∀ (E:XK) (pn:List (Addr×Obj)) (xe:Value→Shared→Prop),ab5 (CXE X.prog X.w C) { X with pn:=pn,xe:=xe } E→PSs { X with pn:=pn,xe:=xe } body (tb E))
 (hs:∀ a:Addr,PSs { X with A:=X.A.mark (some (.ref a)),calm:=false,xe:=fun _ _=>False } (b₀::suite) ts) (hd:(x == ("__debug__":Str))=false:=by decide) :
 PS X (.Try body [.ExceptHandler (some (.Name x np)) (some n) (b₀::suite) hpos] [] [] pos) (bs5 X.N.length i C tb ts):=by
 intro pins s σ H D I h
 have hfr:=I.ok.frames
 obtain ⟨E,hE⟩:∃ E:XK,E=(fun _ _ H'=>∀ (σ':St) (a:Addr),σ'.length=X.N.length→H' a=none→ts (D.fgt i) (σ'.set i (some (.ref a))) (upd H' a (.ext (ExcP a C)))):=⟨_,rfl⟩
 obtain ⟨XE,hXE⟩:∃ XE:Value→Shared→Prop,XE=(fun e s'=>∃ (pins':List (Addr×Obj)) (σ':St) (H0:Hp) (s0:Shared),Inv { X with pn:=X.pn++pins } pins' σ' H0 s0∧CXE X.prog X.w C X.stack H0 s0 E e s'):=⟨_,rfl⟩
 have hbd:=hb E (X.pn++pins) XE (fun pins' σ' H0 s0 e s' I0 hc=>by
  rw [hXE]
  exact ⟨pins',σ',H0,s0,I0.re I0.ok.hd I0.ok.frames (fun _ z=>z),hc⟩)
 have I1:Inv { X with pn:=X.pn++pins,xe:=XE } [] σ H s:=I.re I.ok.hd hfr (by simp)
 unfold bs5 at h
 rw [← hE] at h
 refine wpAny_Try_except (wpAny_mono (hbd [] s σ H D I1 h) (fun f s₁ hf=>?_) fun e s₁ he=>?_)
 · have hf':SP X pins D f s₁:=SP.re (X:={ X with pn:=X.pn++pins,xe:=XE }) (pins:=[]) I.ok.hd hfr (by simp) hf
   cases f with
   | next=>obtain ⟨σ',H',I',hq⟩:=hf'; exact a21 pins s₁ σ' H' D I' hq
   | brk=>exact hf'
   | cont=>exact hf'
   | ret u=>exact hf'
 · have he:XE e s₁:=he
   rw [hXE] at he
   obtain ⟨pins',σ',H0,s0,I0,a,tt,H',B,vs,rfl,os,bare,un,ok,cov,fl,tup,hq⟩:=he
   have fr:∀ {h:Heap},h.FunFrames B X.stack→∀ b∈frs X.stack,H0 b=none∧∀ o,h.get? b=some o→∀ vs,o.data≠.fields vs:=fun ff b hb=>⟨I0.stkFree b hb,fun o e=>by
    obtain ⟨_,o',e',hd⟩:=ff.mem hb
    rw [e] at e'
    cases e'
    exact hd⟩
   have fr2:∀ b∈frs X.stack,H' b=none:=fun b hb=>by
    obtain ⟨_,o',e',_⟩:=I0.stack.mem hb
    exact un.free b o' e' (I0.stkFree b hb) (by simp)
   have fl0:=fl
   rw [hstk] at fl hfr
   refine wpAny_looks_onW hfr hfrm fl fun h₄ held₄ up₄=>?_
   refine wpAny_landsW held₄ fun h₅ fl₅ up₅=>?_
   obtain ⟨un5,ok5,cov5⟩:=ay0 un ok cov fl₅.1 (up₄.trans up₅) (fr fl0.2.2.1) fr2
   have J5:Inv { X with pn:=X.pn++pins,A:=X.A.mark (some (.ref a)),calm:=false } pins' σ' H0 s0:=I0.re (fun z=>nomatch z) (by exact I.ok.frames) (fun _ z=>z)
   have I5:Inv { X with pn:=X.pn++pins,A:=X.A.mark (some (.ref a)),calm:=false } pins' σ' H' { s₁ with heap:=h₅ }:=J5.call' (ch:=[]) os un5 ok5 bare (fun b z=>absurd z (by simp))
   obtain ⟨ob,hob,hobc⟩:=fl₅.there
   refine wpAny_handleBy_cons (codeAny_handlers_test (ag3 I5 hg hm ?_ hd)) (by intro q; cases q)
   refine (PySem.W.exm_one (K:=X.K) (h:=h₅) I5.kIn (hobc ▸ (PySem.W.Looks.ld hob).andThen .now) q).at ?_
   refine codeAny_handlers_suite_as ?_
   refine lands_againW fl₅ fun h₆ fl₆ up₆=>?_
   have fl5:h₅.FunFrames B X.stack:=by rw [hstk]; exact fl₅.2.2.1
   have fl6:h₆.FunFrames B X.stack:=by rw [hstk]; exact fl₆.2.2.1
   obtain ⟨un6,ok6,cov6⟩:=ay0 un5 ok5 cov5 fl₆.1 up₆ (fr fl5) fr2
   have J6:Inv { X with A:=X.A.mark (some (.ref a)),calm:=false,xe:=fun _ _=>False } pins σ' H0 s0:=I0.re (X:={ X with pn:=X.pn++pins }) (fun z=>nomatch z) (by exact I.ok.frames) (fun p z=>List.mem_append_left _ z)
   have I6:Inv { X with A:=X.A.mark (some (.ref a)),calm:=false,xe:=fun _ _=>False } pins σ' H' { s₁ with heap:=h₆ }:=J6.call' (ch:=[]) os un6 ok6 bare (fun b z=>absurd z (by simp))
   obtain ⟨oe,ws,hoe,hoec,hoed,_⟩:=fl₆.first
   have hna:a∉frs X.stack:=fun z=>(fr fl6 a z).2 oe hoe ws hoed
   have hBa:B.get? a=none:=fl₆.2.1
   have new0:∀ {b:Addr}{o:Obj},s0.heap.get? b=some o→b≠a:=fun {b o} e z=>by
    subst z
    obtain ⟨o',e'⟩:=cov.ther b o e hna
    rw [hBa] at e'
    cases e'
   have hHa:H' a=none:=by
    cases eH:H' a with
    | none=>rfl
    | some u =>
      have:=cov6.abs a oe (by rw [eH]; simp) hoe
      rw [hBa] at this
      cases this
   have I7:=Inv.seen (φ:=ExcP a C) I6 hHa ⟨oe,hoe,hoec⟩ ⟨oe,hoe⟩ (fun h1 h2 p k=>by
    obtain ⟨o,e,hc⟩:=p
    exact ⟨o,k o e,hc⟩) (by
    cases e0:X.s₀.heap.get? a with
    | none=>rfl
    | some o =>
      obtain ⟨o',e'⟩:=I0.base.there a o e0 (by show a∉X.ex; rw [hex]; simp)
      exact absurd rfl (new0 e')) (by
    obtain ⟨m,⟨o,_,_,ho,_⟩,_⟩:=I0.loc
    exact (new0 ho).symm) (fun y c e=>by
    obtain ⟨v,o,ho,_⟩:=I0.cell y c e
    exact new0 ho) fun p hp=>new0 (J6.pin p hp).1
   rw [hE] at hq
   refine ad1 (X:={ X with A:=X.A.mark (some (.ref a)),calm:=false,xe:=fun _ _=>False }) (v:=.ref a) I7 hN hi (.inl hk2) rfl (fun s8 I8=>?_) (.inr hk2)
   refine wpAny_mono (hs a pins s8 _ _ (D.fgt i) I8 (hq σ' a I0.len hHa)) (fun f s2 hf=>?_) fun e s2 z=>False.elim z
   have hf2:SP X pins (D.fgt i) f s2:=SP.re (X:={ X with A:=X.A.mark (some (.ref a)),calm:=false,xe:=fun _ _=>False }) (pins:=pins) I.ok.hd I.ok.frames (fun _ z=>z) hf
   cases f with
   | next=>obtain ⟨τ,G,J,hq2⟩:=hf2; exact ae3 J hN hi hk hk2 fun s3 J3=>⟨_,_,J3,hq2⟩
   | brk=>obtain ⟨τ,G,J,hq2⟩:=hf2; exact ae3 J hN hi hk hk2 fun s3 J3=>⟨_,_,J3,hq2⟩
   | cont=>obtain ⟨τ,G,J,hq2⟩:=hf2; exact ae3 J hN hi hk hk2 fun s3 J3=>⟨_,_,J3,hq2⟩
   | ret u=>obtain ⟨v,τ,G,J,r,hq2⟩:=hf2; exact ae3 J hN hi hk hk2 fun s3 J3=>⟨v,_,_,J3,r,hq2⟩
end
section
variable {σ:St} {H:Hp}{D:Ends}{C:Addr}{n i:Nat}{tb:XK→TS}{ts:TS}{K:PySem.W.Frag}{Q:VK}
theorem c63 (h:tb (fun _ _ H'=>∀ (σ':St) (a:Addr),σ'.length=n→H' a=none→ts (D.fgt i) (σ'.set i (some (.ref a))) (upd H' a (.ext (ExcP a C)))) D σ H):bs5 n i C tb ts D σ H:=h
theorem ay6 {a M:Addr}{b:Bool}(e:H a=some (.ext (ExcP a C))) (c:ExcI K C) (k:PySem.W.kitOne K (.ref C) (.ref M)=some b) (h:Q (.bl b) H):bg7 K [.ref a,.ref M] H Q:=⟨a,C,.ref M,b,rfl,e,c,⟨_,rfl,fun _ z=>z,k⟩,h⟩
theorem bs7 {a:Addr}{M:String}{b:Bool}(e:H a=some (.ext (ExcP a C))) (c:ExcI K C) (k:PySem.W.kitOne K (.ref C) (.type M)=some b) (h:Q (.bl b) H):bg7 K [.ref a,.ty M] H Q:=⟨a,C,.ty M,b,rfl,e,c,⟨_,rfl,fun _ z=>z,k⟩,h⟩
end
end L2
namespace L2
end L2
local macro_rules | `(tactic| walk_at "side") => `(tactic| first | exact ⟨by decide, by decide, by decide⟩ | exact ⟨by decide, by decide⟩ | exact .inr (.inr ⟨by decide, by decide⟩) | exact .inr (.inl ⟨by decide, by decide⟩) | decide | omega | exact L2.le_line (by simp only [List.length_cons, List.length_nil]; omega))
local macro_rules | `(tactic| walk_at "o") => `(tactic| first | exact Or.inl rfl | exact Or.inr rfl)
local macro_rules | `(tactic| walk_at "step") => do
  let mut acc ← `(tactic| ((with_reducible refine L2.i_rgA ?k ?l ?_); (case k => walk_at "side"); (case l => walk_at "side")))
  for s in ("i_rI a90 bl4 ca0 i_c i_op i_un i_rU ca1 bp8 ca2 ca3 c12 i_bl ca4 i_if ca5 c13 c14 c15 c16 ca6 i_cb c17 ca7 ca8 ca9 c19 i_or c20 c21 cb0 i_lc c22 bp9 c23 bq5 cb5 cb6 cb7 cb1 cb2 i_sx i_bm i_sl bd8 c24 cb3 c25 c26 c27 c28 c30 c32 c29 bq0 cb4 cb9 c37 c34 c35 c38 i_tB c45 cc2 c46 cc3 c47 c48 c49 br5 br7 br6 c63 c18 bl5".splitOn " ").reverse do
    let n := Lean.mkIdent (Lean.Name.str `L2 s)
    if s == "i_rI" || s == "a90" || s == "c18" then acc ← `(tactic| first | ((with_reducible refine $n ?k ?_); (case k => walk_at "side")) | $acc:tactic)
    else if s == "bl4" then acc ← `(tactic| first | ((with_reducible refine $n ?_); intro _ _) | $acc:tactic)
    else if s == "bl5" then acc ← `(tactic| first | ((with_reducible refine' $n ?k ?_); (case k => assumption)) | $acc:tactic)
    else acc ← `(tactic| first | with_reducible refine $n ?_ | $acc:tactic)
  `(tactic| first | ((with_reducible refine L2.i_name ?_); dsimp only [List.set_cons_zero, List.set_cons_succ]) | ((with_reducible refine' L2.i_var ?k ?_); (case k => rfl)) | $acc:tactic)
local macro_rules | `(tactic| walk_at "run") => `(tactic| (repeat walk_at "step"))
local macro_rules | `(tactic| walk_at "go") => do
  let ids := (("L2.start List.map_cons List.map_nil List.length_cons List.length_nil List.replicate List.cons_append List.nil_append Nat.reduceSub Nat.reduceAdd L2.nox_K L2.wish_K L2.cxOf_K L2.cxC_K".splitOn " ").map fun s => Lean.mkIdent s.toName).toArray
  `(tactic| (simp only [$[$ids:term],*]; walk_at "run"))
namespace K52
open PySem L2
theorem sc_bodies_of:FnScope ["statement","kind"] ["statement"] (a06 ac5):=⟨rfl,rfl,rfl,by decide +kernel,rfl,by decide +kernel,by decide +kernel⟩
theorem as2:FnScope ["line","word"] ["line","word"] (a06 ah0):=⟨rfl,rfl,rfl,by decide +kernel,rfl,by decide +kernel,by decide +kernel⟩
theorem sc_value_of_box:FnScope ["name","boxes","values","names"] ["name","boxes","values"] (a06 a70):=⟨rfl,rfl,rfl,by decide +kernel,rfl,by decide +kernel,by decide +kernel⟩
theorem sc_worth:FnScope ["expression","boxes","values","kind","one","other"] ["expression","boxes","values"] (a06 b40):=⟨rfl,rfl,rfl,by decide +kernel,rfl,by decide +kernel,by decide +kernel⟩
theorem sc_holds:FnScope ["condition","boxes","values","kind","one","other"] ["condition","boxes","values"] (a06 b41):=⟨rfl,rfl,rfl,by decide +kernel,rfl,by decide +kernel,by decide +kernel⟩
theorem sc_standings:FnScope ["machine","events","found","known","place","event","standing"] ["machine","events"] (a06 ac6):=⟨rfl,rfl,rfl,by decide +kernel,rfl,by decide +kernel,by decide +kernel⟩
theorem ai6:FnScope ["boxes"] ["boxes"] (a06 a71):=⟨rfl,rfl,rfl,by decide +kernel,rfl,by decide +kernel,by decide +kernel⟩
theorem sc_values_put:FnScope ["boxes","values","name","expression","number"] ["boxes","values","name","expression"] (a06 aa5):=⟨rfl,rfl,rfl,by decide +kernel,rfl,by decide +kernel,by decide +kernel⟩
theorem as3:FnScope ["thing"] ["thing"] (a06 ah1):=⟨rfl,rfl,rfl,by decide +kernel,rfl,by decide +kernel,by decide +kernel⟩
theorem sc_rested_on:FnScope ["standing","left"] ["standing"] (a06 ah2):=⟨rfl,rfl,rfl,by decide +kernel,rfl,by decide +kernel,by decide +kernel⟩
theorem sc_way_of_pattern:FnScope ["branches","pattern","own","way"] ["branches","pattern"] (a06 a94):=⟨rfl,rfl,rfl,by decide +kernel,rfl,by decide +kernel,by decide +kernel⟩
theorem sc_way_of_event:FnScope ["branches","event","way"] ["branches","event"] (a06 ab6):=⟨rfl,rfl,rfl,by decide +kernel,rfl,by decide +kernel,by decide +kernel⟩
theorem sc_stepped:FnScope ["machine","wait","standing","event","way","rest"] ["machine","wait","standing","event"] (a06 aq4):=⟨rfl,rfl,rfl,by decide +kernel,rfl,by decide +kernel,by decide +kernel⟩
theorem sc_table_of:FnScope ["machine","events","found","numbers","rooms"] ["machine","events"] (a06 ab2):=⟨rfl,rfl,rfl,by decide +kernel,rfl,by decide +kernel,by decide +kernel⟩
theorem sc_rows_at:FnScope ["machine","standing","events","numbers","rows","event","told"] ["machine","standing","events","numbers"] (a06 aq5):=⟨rfl,rfl,rfl,by decide +kernel,rfl,by decide +kernel,by decide +kernel⟩
theorem ak2:FnScope ["machine","events"] ["machine","events"] (a06 a83):=⟨rfl,rfl,rfl,by decide +kernel,rfl,by decide +kernel,by decide +kernel⟩
theorem ab3:FnScope ["self","loops","behind"] ["self","loops","behind"] (a06 a68):=⟨rfl,rfl,rfl,by decide +kernel,rfl,by decide +kernel,by decide +kernel⟩
theorem sc_kept_bodies:FnScope ["talks","names","bodies","kept","number","body","place","statement","behind","inner"] ["talks"] (a06 a46):=⟨rfl,rfl,rfl,by decide +kernel,rfl,by decide +kernel,by decide +kernel⟩
theorem sc_kept_statement:FnScope ["statement","behind","number","names","kind"] ["statement","behind","number","names"] (a06 a95):=⟨rfl,rfl,rfl,by decide +kernel,rfl,by decide +kernel,by decide +kernel⟩
theorem sc_kept_wait:FnScope ["statement","behind","number","patterns","branches","none"] ["statement","behind","number"] (a06 a84):=⟨rfl,rfl,rfl,by decide +kernel,rfl,by decide +kernel,by decide +kernel⟩
theorem ae4:FnScope ["self","script"] ["self","script"] (a06 a74):=⟨rfl,rfl,rfl,by decide +kernel,rfl,by decide +kernel,by decide +kernel⟩
theorem ai7:FnScope ["self"] ["self"] (a06 ab7):=⟨rfl,rfl,rfl,by decide +kernel,rfl,by decide +kernel,by decide +kernel⟩
theorem ak3:FnScope ["self","standing","event"] ["self","standing","event"] (a06 ad5):=⟨rfl,rfl,rfl,by decide +kernel,rfl,by decide +kernel,by decide +kernel⟩
theorem ak4:FnScope ["self","standing"] ["self","standing"] (a06 ad6):=⟨rfl,rfl,rfl,by decide +kernel,rfl,by decide +kernel,by decide +kernel⟩
theorem aa0:FnScope ["self","place"] ["self","place"] (a06 a59):=⟨rfl,rfl,rfl,by decide +kernel,rfl,by decide +kernel,by decide +kernel⟩
theorem sc_Teller_settled:FnScope ["self","place","body"] ["self","place"] (a06 a96):=⟨rfl,rfl,rfl,by decide +kernel,rfl,by decide +kernel,by decide +kernel⟩
theorem sc_Teller_gone_on:FnScope ["self","place","stack","values","said","statement","kind"] ["self","place","stack","values"] (a06 a97):=⟨rfl,rfl,rfl,by decide +kernel,rfl,by decide +kernel,by decide +kernel⟩
theorem sc_Teller_stack_behind:FnScope ["self","place","stack","behind"] ["self","place","stack"] (a06 a60):=⟨rfl,rfl,rfl,by decide +kernel,rfl,by decide +kernel,by decide +kernel⟩
theorem sc_Teller_way_on:FnScope ["self","place","statement","values","kind"] ["self","place","statement","values"] (a06 aa6):=⟨rfl,rfl,rfl,by decide +kernel,rfl,by decide +kernel,by decide +kernel⟩
theorem sc_Teller_loop_around:FnScope ["self","place","number"] ["self","place"] (a06 a62):=⟨rfl,rfl,rfl,by decide +kernel,rfl,by decide +kernel,by decide +kernel⟩
theorem ai8:FnScope ["place"] ["place"] (a06 ab8):=⟨rfl,rfl,rfl,by decide +kernel,rfl,by decide +kernel,by decide +kernel⟩
theorem av5:FnScope ["script"] ["script"] (a06 ae7):=⟨rfl,rfl,rfl,by decide +kernel,rfl,by decide +kernel,by decide +kernel⟩
theorem sc_law_take:FnScope ["deck","many","at","place","found","number"] ["deck","many"] (a06 al3):=⟨rfl,rfl,rfl,by decide +kernel,rfl,by decide +kernel,by decide +kernel⟩
theorem av6:FnScope ["name"] ["name"] (a06 al4):=⟨rfl,rfl,rfl,by decide +kernel,rfl,by decide +kernel,by decide +kernel⟩
theorem sc_law_counters:FnScope ["sizes","limits","word","lead","boxes","third","body"] ["sizes","limits","word","lead"] (a06 ab9):=⟨rfl,rfl,rfl,by decide +kernel,rfl,by decide +kernel,by decide +kernel⟩
theorem sc_law_refused:FnScope ["machine","events","paper","told","e"] ["machine","events","paper"] (a06 ad7):=⟨rfl,rfl,rfl,by decide +kernel,rfl,by decide +kernel,by decide +kernel⟩
theorem sc_law:FnScope ["script","deck","sizes","limits","events","lead","kind","word","ring","machine","table","rooms","room","said","there"] ["script"] (a06 bd0):=⟨rfl,rfl,rfl,by decide +kernel,rfl,by decide +kernel,by decide +kernel⟩
theorem Txt.xi_TooMany {K:PySem.W.Frag}{mg:Str→Option Value}{t:Adr}(T:Txt K mg t):ExcI K t.c_TooMany:=bs2 T.xb_TooMany
theorem Txt.d_QUIET {K:PySem.W.Frag}{mg:Str→Option Value}{t:Adr}(T:Txt K mg t):TupK K t.ad_QUIET [.str "quiet"]:=by obtain ⟨_,its,nn,_,h1,h2,h3⟩:=T.dd_QUIET; exact ⟨_,its,nn,h1,rfl,rfl,h2,h3⟩
theorem Txt.d_OTHER {K:PySem.W.Frag}{mg:Str→Option Value}{t:Adr}(T:Txt K mg t):TupK K t.ad_OTHER [.str "other"]:=by obtain ⟨_,its,nn,_,h1,h2,h3⟩:=T.dd_OTHER; exact ⟨_,its,nn,h1,rfl,rfl,h2,h3⟩
theorem Txt.d_NONE {K:PySem.W.Frag}{mg:Str→Option Value}{t:Adr}(T:Txt K mg t):TupK K t.ad_NONE [.str "none"]:=by obtain ⟨_,its,nn,_,h1,h2,h3⟩:=T.dd_NONE; exact ⟨_,its,nn,h1,rfl,rfl,h2,h3⟩
section
variable {P:Program}{w:World}{K:PySem.W.Frag}{mg:Str→Option Value}{base:Heap}{t:Adr}
def c64 (K:PySem.W.Frag):Sp:=fun vs H Q _=>∃ (n:Str) (bx vl:Addr) (xs:List V) (ns:List Str) (ws:List Int),vs=[.str n,.ref bx,.ref vl]∧SqL K H bx xs∧Boxes H xs ns∧SqT K H vl (ws.map V.int)∧ns.length≤ws.length∧ns.length≤1000∧n∈ns∧∀ H',Same H H'→Q (.int (bval ns ws n)) H'
theorem ai9 (T:Txt K mg t):FnOk P w K mg base CX0 1 t.a_value_of_box t.fd_value_of_box ["name","boxes","values"] (c64 K):=by
 refine T.f_value_of_box.F.ok sc_value_of_box (fun vs H Q E h=>?_) (fun cdv A outer s H vs Q E hr h=>?_)
 · obtain ⟨n,bx,vl,xs,ns,ws,rfl,_⟩:=h
   rfl
 · obtain ⟨n,bx,vl,xs,ns,ws,rfl,hb,hB,hv,hl,hl2,hn,q⟩:=h
   refine ⟨_,(@a02 _ _ _ _ _ (b08 (i:=3) (Nt:=["box"]) (Nf:=[]) (caps:=[]) rfl (a45 (sc:=a06 a70) rfl rfl (by decide +kernel) (by decide +kernel) (by decide +kernel) rfl (by decide +kernel)) (a39 K (pv 1)) (fun _ _ _ _ _=>(a29 (i:=0) (show (["box"]:List Str).Nodup by decide +kernel) rfl (by walk_at "o"))) (fun _ _ _ _ _=>(@a44 _)) (fun _ _ _ _ _=>(@a20 _ _ _ _ _ _ _ (a07 K) (pv 0) (@a03 _ _ _ _) (fun _ _=>rfl))) sc_value_of_box.nd rfl (by walk_at "o") rfl)
    (@a05 _ _ _ (@a19 _ _ _ _ (@a20 _ _ _ _ _ _ _ (a07 K) (pv 2) (@aa7 _ K _ _ _ _ _ _ _ _ _ _ _ PySem.F.plainAttrs_list PySem.F.slot_list_index PySem.F.type_list_index (ar1 K) (pv 3) (@a00 _ _ _ _ _ (pv 0) (@a01 _) (by rfl)) (by rfl) (by rfl) (by rfl) (by rfl) (by rfl) (by rfl)) (fun _ _=>rfl))))),?_⟩
   walk_at "go"
   refine ⟨⟨_,hb⟩,a72 (xs:=xs) (le_line (by rw [hB.len]; omega)) (fun i acc H2=>H2=H∧i≤xs.length∧acc=a49 (ns.take i)) ⟨rfl,Nat.zero_le _,rfl⟩ (fun i acc H2 ⟨e0,hi,e⟩=>⟨?_,e0 ▸ hb⟩) ?_ ?_⟩
   · subst e
     simp only [a49,List.length_map,List.length_take]
     omega
   · rintro i x acc H2 hx ⟨rfl,hi,rfl⟩
     obtain ⟨p,m,z,rfl,hm,hp⟩:=hB.get i x hx
     have hi':i<xs.length:=(List.getElem?_eq_some_iff.mp hx).1
     walk_at "run"
     refine a24 (SqT.of hp) (a04 (j:=0) rfl) ?_
     exact ⟨rfl,hi',b11 hm⟩
   · rintro acc H2 ⟨rfl,_,rfl⟩ l H3 f3 s3 e3
     walk_at "run"
     rw [hB.len,List.take_length] at e3
     refine ah8 (SqL.of e3) ?_
     walk_at "run"
     obtain ⟨j,h1,h2,h3⟩:=b55 hn hl
     refine b54 (SqL.of e3) h1 h2 ?_
     refine a24 (s3.seqT hv) (bq2 h3) ?_
     exact q _ s3
def bg8 (K:PySem.W.Frag) (d:Nat):Sp:=fun vs H Q _=>∃ (v:V) (e:Ex) (bx vl:Addr) (xs:List V) (ns:List Str) (ws:List Int),vs=[v,.ref bx,.ref vl]∧e.At H v∧e.h<d∧e.ok ns∧SqL K H bx xs∧Boxes H xs ns∧SqT K H vl (ws.map V.int)∧ns.length≤ws.length∧ns.length≤1000 ∧
 ∀ H',Same H H'→Q (.int (e.ev ns ws)) H'
theorem ay7 (T:Txt K mg t):∀ d:Nat,FnOk P w K mg base CX0 (d+2) t.a_worth t.fd_worth ["expression","boxes","values"] (bg8 K d):=by
 intro d
 induction d with
 | zero=>exact vac (fun vs H Q E ⟨_,_,_,_,_,_,_,_,_,h,_⟩=>Nat.not_lt_zero _ h)
 | succ d G_worth =>
   have G_value_of_box:=ai9 (P:=P) (w:=w) (base:=base) T
   refine T.f_worth.F.ok sc_worth (fun vs H Q E h=>?_) (fun cdv A outer s H vs Q E hr h=>?_)
   · obtain ⟨v,e,bx,vl,xs,ns,ws,rfl,_⟩:=h
     rfl
   · obtain ⟨v,e,bx,vl,xs,ns,ws,rfl,he,hh,ho,hb,hB,hv,hl,hl2,q⟩:=h
     refine ⟨_,(@a02 _ _ _ _ _ (@a14 _ _ 3 _ _ _ _ sc_worth.nd rfl (by walk_at "o") (@a20 _ _ _ _ _ _ _ (a07 K) (pv 0) (@a03 _ _ _ _) (fun _ _=>rfl)) (by rfl) (by walk_at "o"))
     (@a02 _ _ _ _ _ (@a35 _ _ _ _ _ _ _ _ (@a16 _ _ _ _ _ _ _ _ a40 (pv 3) (@a15 _ _ _ _) (nomark _)) (@a05 _ _ _ (@a19 _ _ _ _ (@a20 _ _ _ _ _ _ _ (a07 K) (pv 0) (@a03 _ _ _ _) (fun _ _=>rfl)))) (@a21 _))
     (@a02 _ _ _ _ _ (@a35 _ _ _ _ _ _ _ _ (@a16 _ _ _ _ _ _ _ _ a40 (pv 3) (@a15 _ _ _ _) (nomark _)) (@a05 _ _ _ (@a19 _ _ _ _ (@a18 _ _ _ _ _ _ _ _ _ _ _ _ _ _ _ _ G_value_of_box (hr.mono (by omega)) rfl T.f_value_of_box.m T.f_value_of_box.F.kp T.f_value_of_box.b .nil a28 (@a00 _ _ _ _ _ (@a20 _ _ _ _ _ _ _ (a07 K) (pv 0) (@a03 _ _ _ _) (fun _ _=>rfl)) (@a00 _ _ _ _ _ (pv 1) (@a00 _ _ _ _ _ (pv 2) (@a01 _) (by rfl)) (by rfl)) (by rfl)) (by decide) (by rfl) (by rfl)))) (@a21 _))
     (@a02 _ _ _ _ _ (@a14 _ _ 4 _ _ _ _ sc_worth.nd rfl (by walk_at "o") (@a18 _ _ _ _ _ _ _ _ _ _ _ _ _ _ _ _ G_worth (hr.mono (by omega)) rfl T.f_worth.m T.f_worth.F.kp T.f_worth.b .nil a28 (@a00 _ _ _ _ _ (@a20 _ _ _ _ _ _ _ (a07 K) (pv 0) (@a03 _ _ _ _) (fun _ _=>rfl)) (@a00 _ _ _ _ _ (pv 1) (@a00 _ _ _ _ _ (pv 2) (@a01 _) (by rfl)) (by rfl)) (by rfl)) (by decide) (by rfl) (by rfl)) (by rfl) (by walk_at "o"))
     (@a02 _ _ _ _ _ (@a14 _ _ 5 _ _ _ _ sc_worth.nd rfl (by walk_at "o") (@a18 _ _ _ _ _ _ _ _ _ _ _ _ _ _ _ _ G_worth (hr.mono (by omega)) rfl T.f_worth.m T.f_worth.F.kp T.f_worth.b .nil a28 (@a00 _ _ _ _ _ (@a20 _ _ _ _ _ _ _ (a07 K) (pv 0) (@a03 _ _ _ _) (fun _ _=>rfl)) (@a00 _ _ _ _ _ (pv 1) (@a00 _ _ _ _ _ (pv 2) (@a01 _) (by rfl)) (by rfl)) (by rfl)) (by decide) (by rfl) (by rfl)) (by rfl) (by walk_at "o"))
     (@a02 _ _ _ _ _ (@a35 _ _ _ _ _ _ _ _ (@a16 _ _ _ _ _ _ _ _ a40 (pv 3) (@a15 _ _ _ _) (nomark _)) (@a05 _ _ _ (@a19 _ _ _ _ (@a31 _ _ _ _ _ _ _ _ a32 (pv 4) (pv 5)))) (@a21 _))
     (@a05 _ _ _ (@a19 _ _ _ _ (@a31 _ _ _ _ _ _ _ _ ap2 (pv 4) (pv 5)))))))))),?_⟩
     walk_at "go"
     cases e with
     | num i =>
       obtain ⟨a,rfl,ha⟩:=he
       refine a24 (SqT.of ha) (a04 (j:=0) rfl) ?_
       walk_at "run"
       refine a26 rfl ?_
       walk_at "run"
       refine a24 (SqT.of ha) (a04 (j:=1) rfl) ?_
       exact q _ (Same.refl _)
     | box n =>
       obtain ⟨a,rfl,ha⟩:=he
       refine a24 (SqT.of ha) (a04 (j:=0) rfl) ?_
       walk_at "run"
       refine a25 (by decide +kernel) ?_
       walk_at "run"
       refine a26 rfl ?_
       walk_at "run"
       refine a24 (SqT.of ha) (a04 (j:=1) rfl) ?_
       walk_at "run"
       exact ⟨n,bx,vl,xs,ns,ws,rfl,hb,hB,hv,hl,hl2,ho,q⟩
     | two k e f =>
       obtain ⟨a,x,y,rfl,ha,h1,h2⟩:=he
       simp only [Ex.h] at hh
       refine a24 (SqT.of ha) (a04 (j:=0) rfl) ?_
       walk_at "run"
       refine a25 (by cases k <;> decide +kernel) ?_
       walk_at "run"
       refine a25 (by cases k <;> decide +kernel) ?_
       walk_at "run"
       refine a24 (SqT.of ha) (a04 (j:=1) rfl) ?_
       walk_at "run"
       refine ⟨x,e,bx,vl,xs,ns,ws,rfl,h1,by omega,ho.1,hb,hB,hv,hl,hl2,fun H1 s1=>?_⟩
       walk_at "run"
       refine a24 (SqT.of (s1 _ _ ha)) (a04 (j:=2) rfl) ?_
       walk_at "run"
       refine ⟨y,f,bx,vl,xs,ns,ws,rfl,h2.mono s1.tups,by omega,ho.2,s1.seq hb,hB.mono s1.tups,s1.seqT hv,hl,hl2,fun H2 s2=>?_⟩
       walk_at "run"
       have:=q H2 (s1.trans s2)
       cases k with
       | true =>
         refine a26 rfl ?_
         walk_at "run"
         exact this
       | false =>
         refine a25 (by decide +kernel) ?_
         walk_at "run"
         exact this
def bg9 (K:PySem.W.Frag) (d:Nat):Sp:=fun vs H Q _=>∃ (v:V) (c:Cd) (bx vl:Addr) (xs:List V) (ns:List Str) (ws:List Int),vs=[v,.ref bx,.ref vl]∧c.At H v∧c.h<d∧c.ok ns 5∧SqL K H bx xs∧Boxes H xs ns∧SqT K H vl (ws.map V.int)∧ns.length≤ws.length∧ns.length≤1000 ∧
 ∀ H',Same H H'→Q (.bl (c.ev ns ws)) H'
theorem bh0 (T:Txt K mg t):∀ d:Nat,FnOk P w K mg base CX0 (d+10) t.a_holds t.fd_holds ["condition","boxes","values"] (bg9 K d):=by
 intro d
 induction d with
 | zero=>exact vac (fun vs H Q E ⟨_,_,_,_,_,_,_,_,_,h,_⟩=>Nat.not_lt_zero _ h)
 | succ d G_holds =>
   have G_worth:=ay7 (P:=P) (w:=w) (base:=base) T
   refine T.f_holds.F.ok sc_holds (fun vs H Q E h=>?_) (fun cdv A outer s H vs Q E hr h=>?_)
   · obtain ⟨v,c,bx,vl,xs,ns,ws,rfl,_⟩:=h
     rfl
   · obtain ⟨v,c,bx,vl,xs,ns,ws,rfl,he,hh,ho,hb,hB,hv,hl,hl2,q⟩:=h
     have G_worth:=G_worth 7
     refine ⟨_,(@a02 _ _ _ _ _ (@a14 _ _ 3 _ _ _ _ sc_holds.nd rfl (by walk_at "o") (@a20 _ _ _ _ _ _ _ (a07 K) (pv 0) (@a03 _ _ _ _) (fun _ _=>rfl)) (by rfl) (by walk_at "o"))
     (@a02 _ _ _ _ _ (@a35 _ _ _ _ _ _ _ _ (@a16 _ _ _ _ _ _ _ _ a40 (pv 3) (@a15 _ _ _ _) (nomark _)) (@a05 _ _ _ (@a19 _ _ _ _ (@bi7 _ _ _ _ (@a18 _ _ _ _ _ _ _ _ _ _ _ _ _ _ _ _ G_holds (hr.mono (by omega)) rfl T.f_holds.m T.f_holds.F.kp T.f_holds.b .nil a28 (@a00 _ _ _ _ _ (@a20 _ _ _ _ _ _ _ (a07 K) (pv 0) (@a03 _ _ _ _) (fun _ _=>rfl)) (@a00 _ _ _ _ _ (pv 1) (@a00 _ _ _ _ _ (pv 2) (@a01 _) (by rfl)) (by rfl)) (by rfl)) (by decide) (by rfl) (by rfl))))) (@a21 _))
     (@a02 _ _ _ _ _ (@a35 _ _ _ _ _ _ _ _ (@a16 _ _ _ _ _ _ _ _ a40 (pv 3) (@a15 _ _ _ _) (nomark _)) (@a05 _ _ _ (@a19 _ _ _ _ (@bi6 _ _ _ _ _ _ _ (@a18 _ _ _ _ _ _ _ _ _ _ _ _ _ _ _ _ G_holds (hr.mono (by omega)) rfl T.f_holds.m T.f_holds.F.kp T.f_holds.b .nil a28 (@a00 _ _ _ _ _ (@a20 _ _ _ _ _ _ _ (a07 K) (pv 0) (@a03 _ _ _ _) (fun _ _=>rfl)) (@a00 _ _ _ _ _ (pv 1) (@a00 _ _ _ _ _ (pv 2) (@a01 _) (by rfl)) (by rfl)) (by rfl)) (by decide) (by rfl) (by rfl)) (@bi5 _ _ _ _ _ (@a18 _ _ _ _ _ _ _ _ _ _ _ _ _ _ _ _ G_holds (hr.mono (by omega)) rfl T.f_holds.m T.f_holds.F.kp T.f_holds.b .nil a28 (@a00 _ _ _ _ _ (@a20 _ _ _ _ _ _ _ (a07 K) (pv 0) (@a03 _ _ _ _) (fun _ _=>rfl)) (@a00 _ _ _ _ _ (pv 1) (@a00 _ _ _ _ _ (pv 2) (@a01 _) (by rfl)) (by rfl)) (by rfl)) (by decide) (by rfl) (by rfl)))))) (@a21 _))
     (@a02 _ _ _ _ _ (@a14 _ _ 4 _ _ _ _ sc_holds.nd rfl (by walk_at "o") (@a18 _ _ _ _ _ _ _ _ _ _ _ _ _ _ _ _ G_worth (hr.mono (by omega)) rfl T.f_worth.m T.f_worth.F.kp T.f_worth.b .nil a28 (@a00 _ _ _ _ _ (@a20 _ _ _ _ _ _ _ (a07 K) (pv 0) (@a03 _ _ _ _) (fun _ _=>rfl)) (@a00 _ _ _ _ _ (pv 1) (@a00 _ _ _ _ _ (pv 2) (@a01 _) (by rfl)) (by rfl)) (by rfl)) (by decide) (by rfl) (by rfl)) (by rfl) (by walk_at "o"))
     (@a02 _ _ _ _ _ (@a14 _ _ 5 _ _ _ _ sc_holds.nd rfl (by walk_at "o") (@a18 _ _ _ _ _ _ _ _ _ _ _ _ _ _ _ _ G_worth (hr.mono (by omega)) rfl T.f_worth.m T.f_worth.F.kp T.f_worth.b .nil a28 (@a00 _ _ _ _ _ (@a20 _ _ _ _ _ _ _ (a07 K) (pv 0) (@a03 _ _ _ _) (fun _ _=>rfl)) (@a00 _ _ _ _ _ (pv 1) (@a00 _ _ _ _ _ (pv 2) (@a01 _) (by rfl)) (by rfl)) (by rfl)) (by decide) (by rfl) (by rfl)) (by rfl) (by walk_at "o"))
     (@a02 _ _ _ _ _ (@a35 _ _ _ _ _ _ _ _ (@a16 _ _ _ _ _ _ _ _ a40 (pv 3) (@a15 _ _ _ _) (nomark _)) (@a05 _ _ _ (@a19 _ _ _ _ (@a69 _ _ _ _ _ _ _ _ a40 (pv 4) (pv 5) (nomark _)))) (@a21 _))
     (@a05 _ _ _ (@a19 _ _ _ _ (@a69 _ _ _ _ _ _ _ _ bc0 (pv 4) (pv 5) (nomark _)))))))))),?_⟩
     walk_at "go"
     cases c with
     | nt c =>
       obtain ⟨a,x,rfl,ha,h1⟩:=he
       simp only [Cd.h] at hh
       refine a24 (SqT.of ha) (a04 (j:=0) rfl) ?_
       walk_at "run"
       refine a26 rfl ?_
       walk_at "run"
       refine a24 (SqT.of ha) (a04 (j:=1) rfl) ?_
       walk_at "run"
       refine ⟨x,c,bx,vl,xs,ns,ws,rfl,h1,by omega,ho,hb,hB,hv,hl,hl2,fun H1 s1=>?_⟩
       walk_at "run"
       exact q H1 s1
     | both c d' =>
       obtain ⟨a,x,y,rfl,ha,h1,h2⟩:=he
       simp only [Cd.h] at hh
       refine a24 (SqT.of ha) (a04 (j:=0) rfl) ?_
       walk_at "run"
       refine a25 (by decide +kernel) ?_
       walk_at "run"
       refine a26 rfl ?_
       walk_at "run"
       refine a24 (SqT.of ha) (a04 (j:=1) rfl) ?_
       walk_at "run"
       refine ⟨x,c,bx,vl,xs,ns,ws,rfl,h1,by omega,ho.1,hb,hB,hv,hl,hl2,fun H1 s1=>?_⟩
       walk_at "run"
       have qq:=fun H' s'=>q H' s'
       simp only [Cd.ev] at qq
       cases e:c.ev ns ws with
       | true =>
         rw [e] at qq
         refine iteT ?_
         walk_at "run"
         refine a24 (SqT.of (s1 _ _ ha)) (a04 (j:=2) rfl) ?_
         walk_at "run"
         refine ⟨y,d',bx,vl,xs,ns,ws,rfl,h2.mono s1.tups,by omega,ho.2,s1.seq hb,hB.mono s1.tups,s1.seqT hv,hl,hl2,fun H2 s2=>?_⟩
         exact qq H2 (s1.trans s2)
       | false =>
         rw [e] at qq
         refine iteF ?_
         exact qq H1 s1
     | cmp k e f =>
       obtain ⟨a,x,y,rfl,ha,h1,h2⟩:=he
       obtain ⟨⟨o1,o2⟩,o3,o4⟩:=ho
       refine a24 (SqT.of ha) (a04 (j:=0) rfl) ?_
       walk_at "run"
       refine a25 (by cases k <;> decide +kernel) ?_
       walk_at "run"
       refine a25 (by cases k <;> decide +kernel) ?_
       walk_at "run"
       refine a24 (SqT.of ha) (a04 (j:=1) rfl) ?_
       walk_at "run"
       refine ⟨x,e,bx,vl,xs,ns,ws,rfl,h1,by omega,o1,hb,hB,hv,hl,hl2,fun H1 s1=>?_⟩
       walk_at "run"
       refine a24 (SqT.of (s1 _ _ ha)) (a04 (j:=2) rfl) ?_
       walk_at "run"
       refine ⟨y,f,bx,vl,xs,ns,ws,rfl,h2.mono s1.tups,by omega,o3,s1.seq hb,hB.mono s1.tups,s1.seqT hv,hl,hl2,fun H2 s2=>?_⟩
       walk_at "run"
       have:=q H2 (s1.trans s2)
       cases k with
       | true =>
         refine a26 rfl ?_
         walk_at "run"
         exact this
       | false =>
         refine a25 (by decide +kernel) ?_
         walk_at "run"
         exact this
def bh1 (K:PySem.W.Frag):Sp:=fun vs H Q _=>∃ (a:Addr) (xs:List V),vs=[.ref a]∧H a=some (.lst xs)∧xs.length≤1000∧∀ p H',Same H H'→H' p=some (.tup ((List.replicate xs.length (0:Int)).map V.int))→Q (.ref p) H'
theorem aj0 (T:Txt K mg t):FnOk P w K mg base CX0 1 t.a_first_values t.fd_first_values ["boxes"] (bh1 K):=by
 refine T.f_first_values.F.ok ai6 (fun vs H Q E h=>?_) (fun cdv A outer s H vs Q E hr h=>?_)
 · obtain ⟨a,xs,rfl,_⟩:=h
   rfl
 · obtain ⟨a,xs,rfl,ha,hl,q⟩:=h
   refine ⟨_,(@a05 _ _ _ (@a19 _ _ _ _ (@a41 _ _ _ _ _ _ _ _ _ (ah5 K) (by rfl) T.z_tuple am7 (@a00 _ _ _ _ _ (ah3 (Nt:=["box"]) (Nf:=[]) (caps:=[]) rfl (a45 (sc:=a06 a71) rfl rfl (by decide +kernel) (by decide +kernel) (by decide +kernel) rfl (by decide +kernel)) (a39 K (pv 0)) (fun _ _ _ _ _=>(a29 (i:=0) (show (["box"]:List Str).Nodup by decide +kernel) rfl (by walk_at "o"))) (fun _ _ _ _ _=>(@a44 _)) (fun _ _ _ _ _=>(@a03 _ _ _ _))) (@a01 _) (by rfl)) (by decide) (by decide) (by rfl) (by rfl)))),?_⟩
   walk_at "go"
   refine ⟨⟨_,SqL.of ha⟩,a72 (xs:=xs) (le_line (by omega)) (fun i acc H2=>H2=H∧i≤xs.length∧acc=(List.replicate i (0:Int)).map V.int) ⟨rfl,Nat.zero_le _,rfl⟩ (fun i acc H2 ⟨e0,hi,e⟩=>⟨by rw [e]; simp,e0 ▸ SqL.of ha⟩) ?_ ?_⟩
   · rintro i x acc H2 hx ⟨rfl,hi,rfl⟩
     walk_at "run"
     exact ⟨rfl,(List.getElem?_eq_some_iff.mp hx).1,by rw [List.replicate_succ',List.map_append]; rfl⟩
   · rintro acc H2 ⟨rfl,_,rfl⟩ l H3 f3 s3 e3
     walk_at "run"
     refine am9 (SqL.of e3) ?_
     intro p H4 f4 s4 e4
     exact q p H4 (s3.trans s4) e4
def bs8 (K:PySem.W.Frag):Sp:=fun vs H Q _=>∃ (a va:Addr) (xs:List V) (bs:List (Str×Int)) (ws:List Int) (n:Str) (e:Ex) (v:V),vs=[.ref a,.ref va,.str n,v]∧H a=some (.lst xs)∧Each (BxAt H) xs bs∧(∀ b∈bs,0<b.2∧b.2<1000)∧bs.length≤100∧H va=some (.tup (ws.map V.int))∧ws.length=bs.length∧e.At H v∧e.h<8∧e.ok (bs.map (·.1)) ∧
 ∀ p H',Same H H'→H' p=some (.tup ((vput bs ws n (e.ev (bs.map (·.1)) ws)).map V.int))→Q (.ref p) H'
theorem bh2 {bs:List (Str×Int)}{ws:List Int}{n:Str}{k:Int}{i:Nat}{b:Str×Int}{w:Int}(h1:bs[i]?=some b) (h2:ws[i]?=some w):(vput bs ws n k)[i]?=some (if b.1=n then k % b.2 else w):=by
 unfold vput
 rw [List.getElem?_zipWith,h1,h2]
theorem ay8 {bs:List (Str×Int)}{ws:List Int}{n:Str}{k:Int}(h:ws.length=bs.length):(vput bs ws n k).length=bs.length:=by
 simp [vput,h]
theorem ao0 (T:Txt K mg t):FnOk P w K mg base CX0 11 t.a_values_put t.fd_values_put ["boxes","values","name","expression"] (bs8 K):=by
 have G_worth:=ay7 (P:=P) (w:=w) (base:=base) T
 refine T.f_values_put.F.ok sc_values_put (fun vs H Q E h=>?_) (fun cdv A outer s H vs Q E hr h=>?_)
 · obtain ⟨a,va,xs,bs,ws,n,e,v,rfl,_⟩:=h
   rfl
 · obtain ⟨a,va,xs,bs,ws,n,e,v,rfl,ha,hb,hz,hl,hpv,hwl,he,hh,ho,q⟩:=h
   have G_worth:=G_worth 8
   refine ⟨_,(@a02 _ _ _ _ _ (@a14 _ _ 4 _ _ _ _ sc_values_put.nd rfl (by walk_at "o") (@a18 _ _ _ _ _ _ _ _ _ _ _ _ _ _ _ _ G_worth (hr.mono (by omega)) rfl T.f_worth.m T.f_worth.F.kp T.f_worth.b .nil a28 (@a00 _ _ _ _ _ (pv 3) (@a00 _ _ _ _ _ (pv 0) (@a00 _ _ _ _ _ (pv 1) (@a01 _) (by rfl)) (by rfl)) (by rfl)) (by decide) (by rfl) (by rfl)) (by rfl) (by walk_at "o"))
    (@a05 _ _ _ (@a19 _ _ _ _ (@a41 _ _ _ _ _ _ _ _ _ (ah5 K) (by rfl) T.z_tuple am7 (@a00 _ _ _ _ _ (ah3 (Nt:=["box","value"]) (Nf:=["name","number"]) (caps:=[2,4]) rfl (a45 (sc:=a06 aa5) rfl rfl (by decide +kernel) (by decide +kernel) (by decide +kernel) rfl (by decide +kernel)) (bf8 K rfl T.z_zip (@a00 _ _ _ _ _ (pv 0) (@a00 _ _ _ _ _ (pv 1) (@a01 _) (by rfl)) (by rfl))) (fun _ _ _ _ _=>(a89 K (n:=2) rfl (a34 (a29 (i:=0) (show (["box","value","name","number"]:List Str).Nodup by decide +kernel) rfl (by walk_at "o")) (a34 (a29 (i:=1) (show (["box","value","name","number"]:List Str).Nodup by decide +kernel) rfl (by walk_at "o")) (@a81 _))))) (fun _ _ _ _ _=>(@a44 _)) (fun _ _ _ _ _=>(@af8 _ _ _ _ _ _ _ _ (@a16 _ _ _ _ _ _ _ _ a40 (@a20 _ _ _ _ _ _ _ (a07 K) (pv 0) (@a03 _ _ _ _) (fun _ _=>rfl)) (pv 2) (nomark _)) (@a31 _ _ _ _ _ _ _ _ aa4 (pv 3) (@a20 _ _ _ _ _ _ _ (a07 K) (pv 0) (@a03 _ _ _ _) (fun _ _=>rfl))) (pv 1)))) (@a01 _) (by rfl)) (by decide) (by decide) (by rfl) (by rfl))))),?_⟩
   have hxl:xs.length=bs.length:=hb.1
   have hvl:=ay8 (n:=n) (k:=e.ev (bs.map (·.1)) ws) hwl
   walk_at "go"
   refine ⟨v,e,a,va,xs,bs.map (·.1),ws,rfl,he,hh,ho,SqL.of ha,an7 hb,SqT.of hpv,by simp [hwl],by simp; omega,fun H1 s1=>?_⟩
   walk_at "run"
   refine ⟨a,va,rfl,⟨_,SqL.of (s1 _ _ ha)⟩,⟨_,SqT.of (s1 _ _ hpv)⟩,bf9 (xs:=xs) (ys:=ws.map V.int) (by simp [hxl,hwl]) (le_line (by omega)) (fun i acc H2=>Same H H2∧i≤xs.length∧acc=((vput bs ws n (e.ev (bs.map (·.1)) ws)).take i).map V.int) ⟨s1,Nat.zero_le _,rfl⟩ (fun i acc H2 ⟨s2,hi,e⟩=>⟨by rw [e]; simp; omega,SqL.of (s2 _ _ ha),SqT.of (s2 _ _ hpv)⟩) ?_ ?_⟩
   · rintro i x z acc H2 H3 hx hz' ⟨s2,hi,rfl⟩ s3
     have hi':i<xs.length:=(List.getElem?_eq_some_iff.mp hx).1
     obtain ⟨b,hbi⟩:∃ b,bs[i]?=some b:=⟨_,List.getElem?_eq_getElem (by omega)⟩
     obtain ⟨w,hwi⟩:∃ w,ws[i]?=some w:=⟨_,List.getElem?_eq_getElem (by omega)⟩
     obtain ⟨p,rfl,hp⟩:=hb.2 i x b hx hbi
     rw [List.getElem?_map,hwi] at hz'
     obtain rfl:=Option.some.inj hz'
     obtain ⟨z1,z2⟩:=hz b (List.mem_of_getElem? hbi)
     have s23:=s2.trans s3
     have hg:=bh2 (n:=n) (k:=e.ev (bs.map (·.1)) ws) hbi hwi
     walk_at "run"
     refine a24 (SqT.of (s23 _ _ hp)) (a04 (j:=0) rfl) ?_
     walk_at "run"
     by_cases hn:b.1=n
     · refine a26 hn ?_
       walk_at "run"
       refine a24 (SqT.of (s23 _ _ hp)) (a04 (j:=1) rfl) ?_
       refine i_rI z1 ?_
       rw [if_pos hn] at hg
       exact ⟨s23,hi',by rw [List.take_add_one,hg,Option.toList_some,List.map_append]; rfl⟩
     · refine a25 hn ?_
       walk_at "run"
       rw [if_neg hn] at hg
       exact ⟨s23,hi',by rw [List.take_add_one,hg,Option.toList_some,List.map_append]; rfl⟩
   · rintro acc H2 ⟨s2,_,rfl⟩ l H3 f3 s3 e3
     walk_at "run"
     refine am9 (SqL.of e3) ?_
     intro p H4 f4 s4 e4
     refine q p H4 (s2.trans (s3.trans s4)) ?_
     rw [e4,hxl,←hvl,List.take_length]
def bs9:Sp:=fun vs H Q _=>∃ (k:Int) (w:Str),vs=[.int k,.str w]∧0≤k∧k<10∧w.length≤100∧Q (.str (sayS k w)) H
theorem as4 (T:Txt K mg t):FnOk P w K mg base CX0 1 t.a_hand_text t.fd_hand_text ["line","word"] bs9:=by
 refine T.f_hand_text.F.ok as2 (fun vs H Q E h=>?_) (fun cdv A outer s H vs Q E hr h=>?_)
 · obtain ⟨k,w,rfl,_⟩:=h
   rfl
 · obtain ⟨k,w,rfl,hk0,hk1,hw,q⟩:=h
   refine ⟨_,(@a05 _ _ _ (@a19 _ _ _ _ (@bp1 _ _ _ _ _ _ (.cons (@bj4 _ _ _ _ (pv 0)) (.cons (@a15 _ _ _ _) (.cons (@bj4 _ _ _ _ (pv 1)) .nil)))))),?_⟩
   have e1:=bp7 hk0 hk1
   have e2:(Str.ofString ":").length=1:=by decide +kernel
   walk_at "go"
   simp only [bd7]
   refine ⟨b49 (by omega),_,rfl,le_line (by omega),?_⟩
   walk_at "run"
   refine ⟨le_line (by rw [strLen_append]; omega),?_⟩
   walk_at "run"
   refine ⟨le_line (by omega),?_⟩
   walk_at "run"
   have hz:=le_line (n:=(Str.ofString (toString k)++Str.ofString ":"++w).length) (by rw [strLen_append,strLen_append]; omega)
   exact ⟨hz,bq4 hz q⟩
def bt0 (K:PySem.W.Frag):Sp:=fun vs H Q _=>∃ (v:V) (s:KS) (w:Str) (ns:List Str),vs=[v]∧s.tr.At H v []∧s.ok ns∧s.sd=[w]∧Q (.str w) H
theorem as5 (T:Txt K mg t):FnOk P w K mg base CX0 2 t.a_said_text t.fd_said_text ["thing"] (bt0 K):=by
 have G_hand_text:=as4 (P:=P) (w:=w) (base:=base) T
 refine T.f_said_text.F.ok as3 (fun vs H Q E h=>?_) (fun cdv A outer s H vs Q E hr h=>?_)
 · obtain ⟨v,s',w,ns,rfl,_⟩:=h
   rfl
 · obtain ⟨v,s',w,ns,rfl,hs,ho,hw,q⟩:=h
   refine ⟨_,(@a02 _ _ _ _ _ (@a35 _ _ _ _ _ _ _ _ (@a16 _ _ _ _ _ _ _ _ a40 (@a20 _ _ _ _ _ _ _ (a07 K) (pv 0) (@a03 _ _ _ _) (fun _ _=>rfl)) (@a15 _ _ _ _) (nomark _)) (@a05 _ _ _ (@a19 _ _ _ _ (@a20 _ _ _ _ _ _ _ (a07 K) (pv 0) (@a03 _ _ _ _) (fun _ _=>rfl)))) (@a21 _))
    (@a05 _ _ _ (@a19 _ _ _ _ (@a18 _ _ _ _ _ _ _ _ _ _ _ _ _ _ _ _ G_hand_text (hr.mono (by omega)) rfl T.f_hand_text.m T.f_hand_text.F.kp T.f_hand_text.b .nil a28 (@a00 _ _ _ _ _ (@a20 _ _ _ _ _ _ _ (a07 K) (pv 0) (@a03 _ _ _ _) (fun _ _=>rfl)) (@a00 _ _ _ _ _ (@a20 _ _ _ _ _ _ _ (a07 K) (pv 0) (@a03 _ _ _ _) (fun _ _=>rfl)) (@a01 _) (by rfl)) (by rfl)) (by decide) (by rfl) (by rfl))))),?_⟩
   obtain ⟨a,us,rfl,ha,hu⟩:=KS.word_at hs
   walk_at "go"
   refine a24 (SqT.of ha) (a04 (j:=0) rfl) ?_
   walk_at "run"
   cases s' with
   | say x =>
     obtain rfl:=(List.cons.inj hw).1
     obtain ⟨v1,w1,rfl,h1,h2⟩:=ats_cons0.mp hu
     obtain rfl:=at_str0.mp h1
     refine a26 rfl ?_
     walk_at "run"
     exact a24 (SqT.of ha) (a04 (j:=1) rfl) q
   | hand l x =>
     obtain rfl:=(List.cons.inj hw).1
     obtain ⟨v1,w1,rfl,h1,h2⟩:=ats_cons0.mp hu
     obtain rfl:=at_int0.mp h1
     obtain ⟨v2,w2,rfl,h3,h4⟩:=ats_cons0.mp h2
     obtain rfl:=at_str0.mp h3
     refine a25 (show Str.ofString "hand"≠Str.ofString "say" by decide +kernel) ?_
     walk_at "run"
     refine a24 (SqT.of ha) (a04 (j:=1) rfl) ?_
     walk_at "run"
     refine a24 (SqT.of ha) (a04 (j:=2) rfl) ?_
     exact ⟨l,x,rfl,ho.1,ho.2.1,ho.2.2,q⟩
   | _=>cases hw
def ao1 (r:Std):Option Std:=if r.2.2.2=0 then some r else if r.2.2.2=1 then none else some (r.1,r.2.1,r.2.2.1,r.2.2.2 - 1)
def bt1 (K:PySem.W.Frag):Sp:=fun vs H Q _=>∃ (v:V) (r:Std),vs=[v]∧StdAt H v (some r)∧∀ v' H',Same H H'→StdAt H' v' (ao1 r)→Q v' H'
theorem as6 (T:Txt K mg t):FnOk P w K mg base CX0 1 t.a_rested_on t.fd_rested_on ["standing"] (bt1 K):=by
 refine T.f_rested_on.F.ok sc_rested_on (fun vs H Q E h=>?_) (fun cdv A outer s H vs Q E hr h=>?_)
 · obtain ⟨v,r,rfl,_⟩:=h
   rfl
 · obtain ⟨v,r,rfl,hr',q⟩:=h
   obtain ⟨p,stk,ws,l⟩:=r
   obtain ⟨a,u,ps,pa,rfl,ha,h1,h2,h3⟩:=hr'
   refine ⟨_,(@a02 _ _ _ _ _ (@a14 _ _ 1 _ _ _ _ sc_rested_on.nd rfl (by walk_at "o") (@a20 _ _ _ _ _ _ _ (a07 K) (pv 0) (@a03 _ _ _ _) (fun _ _=>rfl)) (by rfl) (by walk_at "o"))
    (@a02 _ _ _ _ _ (@a35 _ _ _ _ _ _ _ _ (@a16 _ _ _ _ _ _ _ _ a40 (pv 1) (@a03 _ _ _ _) (nomark _)) (@a05 _ _ _ (@a19 _ _ _ _ (pv 0))) (@a21 _))
    (@a02 _ _ _ _ _ (@a35 _ _ _ _ _ _ _ _ (@a16 _ _ _ _ _ _ _ _ a40 (pv 1) (@a03 _ _ _ _) (nomark _)) (@a05 _ _ _ (@a19 _ _ _ _ (@a50 _ _ _))) (@a21 _))
    (@a05 _ _ _ (@a19 _ _ _ _ (@a12 _ _ _ _ _ (@a00 _ _ _ _ _ (@a20 _ _ _ _ _ _ _ (a07 K) (pv 0) (@a03 _ _ _ _) (fun _ _=>rfl)) (@a00 _ _ _ _ _ (@a20 _ _ _ _ _ _ _ (a07 K) (pv 0) (@a03 _ _ _ _) (fun _ _=>rfl)) (@a00 _ _ _ _ _ (@a20 _ _ _ _ _ _ _ (a07 K) (pv 0) (@a03 _ _ _ _) (fun _ _=>rfl)) (@a00 _ _ _ _ _ (@a31 _ _ _ _ _ _ _ _ ap2 (pv 1) (@a03 _ _ _ _)) (@a01 _) (by rfl)) (by rfl)) (by rfl)) (by rfl)))))))),?_⟩
   walk_at "go"
   refine a24 (SqT.of ha) (a04 (j:=3) rfl) ?_
   walk_at "run"
   by_cases l0:l=0
   · refine a26 l0 ?_
     walk_at "run"
     exact q _ _ (Same.refl _) (by unfold ao1; rw [if_pos l0]; exact ⟨a,u,ps,pa,rfl,ha,h1,h2,h3⟩)
   · refine a25 l0 ?_
     walk_at "run"
     by_cases l1:l=1
     · refine a26 l1 ?_
       walk_at "run"
       exact q _ _ (Same.refl _) (by unfold ao1; rw [if_neg l0,if_pos l1]; rfl)
     · refine a25 l1 ?_
       walk_at "run"
       refine a24 (SqT.of ha) (a04 (j:=0) rfl) ?_
       walk_at "run"
       refine a24 (SqT.of ha) (a04 (j:=1) rfl) ?_
       walk_at "run"
       refine a24 (SqT.of ha) (a04 (j:=2) rfl) ?_
       walk_at "run"
       intro p1 H1 f1 s1 e1
       exact q _ _ s1 (by unfold ao1; rw [if_neg l0,if_neg l1]; exact ⟨p1,u,ps,pa,rfl,e1,h1.same s1,h2.same s1,s1 _ _ h3⟩)
def patK (p:List Pt):Tr:=.tup (p.map Pt.tr)
noncomputable def fndB (br:List (List Pt×Pl)) (e:Tr):Option Pl:=(br.find? fun b=>decide (patK b.1=e)).map (·.2)
def BrsAt (H:Hp) (v:V) (br:List (List Pt×Pl)):Prop:=(Tr.tup (br.map brK)).At H v []
theorem BrsAt.same {H H':Hp}{v:V}{br:List (List Pt×Pl)}(h:BrsAt H v br) (s:Same H H'):BrsAt H' v br:=Tr.At.same h s
def c65 (K:PySem.W.Frag):Sp:=fun vs H Q _=>∃ (u v:V) (br:List (List Pt×Pl)) (e:Tr),vs=[u,v]∧BrsAt H u br∧e.AtK K H v∧e.h≤5∧∀ v',PlO H v' (fndB br e)→Q v' H
theorem ay9 {H:Hp}{xs:List Tr}{vs:List V}(h:Tr.Ats H xs vs []) {i:Nat}{v:V}(e:vs[i]?=some v):∃ x,xs[i]?=some x∧x.At H v []:=by
 obtain ⟨x,f,h1,h2,h3⟩:=h.get i v e
 have:f=[]:=List.eq_nil_iff_forall_not_mem.mpr fun a m=>by simpa using h3 a m
 subst this
 exact ⟨x,h1,h2⟩
theorem cd5 {H:Hp}{x:V}{b:List Pt×Pl}(h:(brK b).At H x []):∃ a u w,x=.ref a∧H a=some (.tup [u,w])∧(patK b.1).At H u []∧Pl.At H w b.2:=by
 obtain ⟨a,vs,rfl,e,h⟩:=at_tup0.mp h
 obtain ⟨v1,w1,rfl,h1,h⟩:=ats_cons0.mp h
 obtain ⟨v2,w2,rfl,h2,h⟩:=ats_cons0.mp h
 obtain rfl:=ats_nil0.mp h
 exact ⟨a,v1,v2,rfl,e,h1,pl_tr.mp h2⟩
theorem c66 (p:List Pt):(patK p).h≤5:=by
 have:Tr.hs (p.map Pt.tr)=0:=b60 p
 simp only [patK,Tr.h,this]
 omega
theorem bt2 {α:Type}{p:α→Bool}{l:List α}{i:Nat}{b:α}(h:(l.take i).find? p=none) (e:l[i]?=some b) (hp:p b=true):l.find? p=some b:=by
 have hi:=(List.getElem?_eq_some_iff.mp e).1
 have h2:l=l.take i++b::l.drop (i+1):=by
  conv=>lhs; rw [← List.take_append_drop i l]
  rw [List.drop_eq_getElem_cons hi,(List.getElem?_eq_some_iff.mp e).2]
 rw [h2,List.find?_append,h,Option.none_or,List.find?_cons,hp]
theorem b93 {α:Type}{p:α→Bool}{l:List α}{i:Nat}{b:α}(h:(l.take i).find? p=none) (e:l[i]?=some b) (hp:p b=false):(l.take (i+1)).find? p=none:=by
 rw [List.take_add_one,e,Option.toList_some,List.find?_append,h,Option.none_or,List.find?_cons,hp]
 rfl
theorem a78 (T:Txt K mg t):FnOk P w K mg base CX0 1 t.a_way_of_pattern t.fd_way_of_pattern ["branches","pattern"] (c65 K):=by
 refine T.f_way_of_pattern.F.ok sc_way_of_pattern (fun vs H Q E h=>?_) (fun cdv A outer s H vs Q E hr h=>?_)
 · obtain ⟨u,v,br,e,rfl,_⟩:=h
   rfl
 · obtain ⟨u,v,br,e,rfl,hbr,hev,heh,q⟩:=h
   refine ⟨_,(@a02 _ _ _ _ _ (@ap1 _ _ _ _ _ _ _ _ PassesOwn.never rfl (bp5 K (pv 0)) (a89 K (n:=2) rfl (a34 (a29 (i:=2) sc_way_of_pattern.nd rfl (by walk_at "o")) (a34 (a29 (i:=3) sc_way_of_pattern.nd rfl (by walk_at "o")) (@a81 _)))) (@a05 _ _ _ (@a35 _ _ _ _ _ _ _ _ (@a16 _ _ _ _ _ _ _ _ (ax8 K (by exact hr.units)) (pv 2) (pv 1) (nomark _)) (@a05 _ _ _ (@a19 _ _ _ _ (pv 3))) (@a21 _))) (by intro _; rfl))
    (@a05 _ _ _ (@a19 _ _ _ _ (@a50 _ _ _)))),?_⟩
   obtain ⟨ua,uv,rfl,hu,hat⟩:=at_tup0.mp hbr
   have hul:uv.length=br.length:=by rw [hat.len,List.length_map]
   walk_at "go"
   refine ⟨⟨_,SqT.of hu⟩,bn4 (K:=K) (a:=ua) (xs:=uv) (fun i σ H'=>H=H'∧(∃ y1 y2,σ=[some (.ref ua),some v,y1,y2])∧(br.take i).find? (fun b=>decide (patK b.1=e))=none) ⟨rfl,⟨_,_,rfl⟩,rfl⟩ (fun i σ H' _ ⟨s',_⟩=>s' ▸ SqT.of hu) ?_ ?_⟩
   · rintro i x σ H2 hx ⟨rfl,⟨y1,y2,rfl⟩,hf⟩
     have hi:i<br.length:=by rw [← hul]; exact (List.getElem?_eq_some_iff.mp hx).1
     obtain ⟨b,hb⟩:∃ b,br[i]?=some b:=⟨_,List.getElem?_eq_getElem hi⟩
     obtain ⟨t,ht,hxt⟩:=ay9 hat hx
     rw [List.getElem?_map,hb] at ht
     rw [← Option.some.inj ht] at hxt
     obtain ⟨a,u,w',rfl,ha,hp,hw⟩:=cd5 hxt
     walk_at "run"
     refine ⟨a,_,rfl,SqT.of ha,rfl,_,_,rfl,_,_,rfl,rfl,?_⟩
     walk_at "run"
     refine bk8 (hp.toK K) hev (Nat.le_trans (c66 _) (by decide)) (Nat.le_trans heh (by decide)) ?_
     walk_at "run"
     by_cases hc:patK b.1=e
     · refine a26 hc ?_
       walk_at "run"
       refine q _ ?_
       unfold fndB
       rw [bt2 hf hb (decide_eq_true hc)]
       exact hw
     · refine a25 hc ?_
       walk_at "run"
       exact ⟨rfl,⟨_,_,rfl⟩,b93 hf hb (decide_eq_false hc)⟩
   · rintro σ H2 ⟨rfl,⟨y1,y2,rfl⟩,hf⟩
     rw [hul,List.take_length] at hf
     walk_at "run"
     refine q _ ?_
     unfold fndB
     rw [hf]
     rfl
theorem bt3 {K:PySem.W.Frag}{H:Hp}{a:Addr}{z:Str}(h:TupK K a [.str z]):(Tr.tup [.str z]).AtK K H (.ref a):=by
 simp only [Tr.AtK,Tr.AtsK]
 exact ⟨_,_,rfl,.inr h,_,_,rfl,rfl,rfl⟩
noncomputable def weF (br:List (List Pt×Pl)) (e:Tr):Option Pl:=if e=.tup [.str "quiet"] then none else match fndB br e with
 | some p=>some p
 | none=>fndB br (.tup [.str "other"])
def c67 (K:PySem.W.Frag):Sp:=fun vs H Q _=>∃ (u v:V) (br:List (List Pt×Pl)) (e:Tr),vs=[u,v]∧BrsAt H u br∧e.AtK K H v∧e.h≤5∧∀ v',PlO H v' (weF br e)→Q v' H
theorem aj1 (T:Txt K mg t):FnOk P w K mg base CX0 2 t.a_way_of_event t.fd_way_of_event ["branches","event"] (c67 K):=by
 have G_way_of_pattern:=a78 (P:=P) (w:=w) (base:=base) T
 refine T.f_way_of_event.F.ok sc_way_of_event (fun vs H Q E h=>?_) (fun cdv A outer s H vs Q E hr h=>?_)
 · obtain ⟨u,v,br,e,rfl,_⟩:=h
   rfl
 · obtain ⟨u,v,br,e,rfl,hbr,hev,heh,q⟩:=h
   refine ⟨_,(@a02 _ _ _ _ _ (@a35 _ _ _ _ _ _ _ _ (@a16 _ _ _ _ _ _ _ _ (ax8 K (by exact hr.units)) (pv 1) (aa3 (by rfl) T.m_QUIET (by exact T.r_QUIET)) (nomark _)) (@a05 _ _ _ (@a19 _ _ _ _ (@a50 _ _ _))) (@a21 _))
    (@a02 _ _ _ _ _ (@a14 _ _ 2 _ _ _ _ sc_way_of_event.nd rfl (by walk_at "o") (@a18 _ _ _ _ _ _ _ _ _ _ _ _ _ _ _ _ G_way_of_pattern (hr.mono (by omega)) rfl T.f_way_of_pattern.m T.f_way_of_pattern.F.kp T.f_way_of_pattern.b .nil a28 (@a00 _ _ _ _ _ (pv 0) (@a00 _ _ _ _ _ (pv 1) (@a01 _) (by rfl)) (by rfl)) (by decide) (by rfl) (by rfl)) (by rfl) (by walk_at "o"))
    (@a55 _ _ _ _ _ (@a35 _ _ _ _ _ _ _ _ (@a16 _ _ _ _ _ _ _ _ ac8 (pv 2) (@a50 _ _ _) (nomark _)) (@a05 _ _ _ (@a14 _ _ 2 _ _ _ _ sc_way_of_event.nd rfl (by walk_at "o") (@a18 _ _ _ _ _ _ _ _ _ _ _ _ _ _ _ _ G_way_of_pattern (hr.mono (by omega)) rfl T.f_way_of_pattern.m T.f_way_of_pattern.F.kp T.f_way_of_pattern.b .nil a28 (@a00 _ _ _ _ _ (pv 0) (@a00 _ _ _ _ _ (aa3 (by rfl) T.m_OTHER (by exact T.r_OTHER)) (@a01 _) (by rfl)) (by rfl)) (by decide) (by rfl) (by rfl)) (by rfl) (by walk_at "o"))) (@a21 _))
    (@a05 _ _ _ (@a19 _ _ _ _ (pv 2)))))),?_⟩
   walk_at "go"
   refine bk8 hev (bt3 T.d_QUIET) (Nat.le_trans heh (by decide)) (by decide) ?_
   walk_at "run"
   by_cases hq:e=.tup [.str "quiet"]
   · refine a26 hq ?_
     walk_at "run"
     exact q _ (by unfold weF; rw [if_pos hq]; rfl)
   · refine a25 hq ?_
     walk_at "run"
     refine ⟨u,v,br,e,rfl,hbr,hev,heh,fun v' hv'=>?_⟩
     walk_at "run"
     refine ae0 (fun σ' H'=>∃ v2,H=H'∧σ'=[some u,some v,some v2]∧PlO H' v2 (weF br e)) ?_ ?_
     · walk_at "run"
       cases hf:fndB br e with
       | some p =>
         rw [hf] at hv'
         obtain ⟨a,rfl,ha⟩:=hv'
         refine a25 (fun z=>nomatch z) ?_
         walk_at "run"
         exact ⟨_,rfl,rfl,by unfold weF; rw [if_neg hq,hf]; exact ⟨a,rfl,ha⟩⟩
       | none =>
         rw [hf] at hv'
         obtain rfl:v'=.non:=hv'
         refine a26 rfl ?_
         walk_at "run"
         refine ⟨u,_,br,_,rfl,hbr,bt3 T.d_OTHER,by decide,fun v2 hv2=>?_⟩
         exact ⟨_,rfl,rfl,by unfold weF; rw [if_neg hq,hf]; exact hv2⟩
     · rintro σ' H' ⟨v2,rfl,rfl,hv2⟩
       walk_at "run"
       exact q _ hv2
def cd6:Sp:=fun vs H Q _=>∃ (v:V) (p:Pl),vs=[v]∧Pl.At H v p∧∀ v' H',Same H H'→Pl.At H' v' (p.1,p.2+1)→Q v' H'
theorem aa8 (T:Txt K mg t):FnOk P w K mg base CX0 1 t.a_place_behind t.fd_place_behind ["place"] cd6:=by
 refine T.f_place_behind.F.ok ai8 (fun vs H Q E h=>?_) (fun cdv A outer s H vs Q E hr h=>?_)
 · obtain ⟨v,p,rfl,_⟩:=h
   rfl
 · obtain ⟨v,p,rfl,⟨a,rfl,ha⟩,q⟩:=h
   refine ⟨_,(@a05 _ _ _ (@a19 _ _ _ _ (@a12 _ _ _ _ _ (@a00 _ _ _ _ _ (@a20 _ _ _ _ _ _ _ (a07 K) (pv 0) (@a03 _ _ _ _) (fun _ _=>rfl)) (@a00 _ _ _ _ _ (@a31 _ _ _ _ _ _ _ _ a32 (@a20 _ _ _ _ _ _ _ (a07 K) (pv 0) (@a03 _ _ _ _) (fun _ _=>rfl)) (@a03 _ _ _ _)) (@a01 _) (by rfl)) (by rfl))))),?_⟩
   walk_at "go"
   refine a24 (SqT.of ha) (a04 (j:=0) rfl) ?_
   walk_at "run"
   refine a24 (SqT.of ha) (a04 (j:=1) rfl) ?_
   walk_at "run"
   intro p1 H1 f1 s1 e1
   exact q _ _ s1 ⟨p1,rfl,by rw [e1]; simp⟩
theorem bt4 {kb:List KB}{p:Pl}{s:KS}(h:stAt kb p=some s):∃ b,kb[p.1]?=some b∧b.st[p.2]?=some s:=by
 unfold stAt at h
 split at h
 · cases h
 · rename_i b hb
   exact ⟨b,hb,h⟩
def bt5 (K:PySem.W.Frag) (C CK:Addr):Sp:=fun vs H Q _=>∃ (p:Addr) (v:V) (bs:List (Str×Int)) (kb:List KB) (pl:Pl) (s:KS),vs=[.ref p,v]∧TeAt C CK H p bs kb∧Pl.At H v pl∧stAt kb pl=some s∧∀ v',s.tr.At H v' []→Q v' H
theorem a56 (T:Txt K mg t):FnOk P w K mg base CX0 1 t.a_Teller_statement_at t.fd_Teller_statement_at ["self","place"] (bt5 K t.c_Teller t.c_KeptBody):=by
 refine T.f_Teller_statement_at.F.ok aa0 (fun vs H Q E h=>?_) (fun cdv A outer s H vs Q E hr h=>?_)
 · obtain ⟨p,v,bs,kb,pl,s',rfl,_⟩:=h
   rfl
 · obtain ⟨p,v,bs,kb,pl,s',rfl,hT,⟨a,rfl,ha⟩,hs,q⟩:=h
   refine ⟨_,(@a05 _ _ _ (@a19 _ _ _ _ (@a20 _ _ _ _ _ _ _ (a23 K) (a47 K (@a20 _ _ _ _ _ _ _ (a23 K) (a47 K (pv 0) rfl) (@a20 _ _ _ _ _ _ _ (a07 K) (pv 1) (@a03 _ _ _ _) (fun _ _=>rfl)) (fun _ _=>rfl)) rfl) (@a20 _ _ _ _ _ _ _ (a07 K) (pv 1) (@a03 _ _ _ _) (fun _ _=>rfl)) (fun _ _=>rfl)))),?_⟩
   obtain ⟨dx,bl,kl,bvs,kvs,h1,h2,h3,h4,h5⟩:=hT.ex
   obtain ⟨b,hb,hbs⟩:=bt4 hs
   obtain ⟨kv,hkv,op,odx,bv,l,us,rfl,e1,e2,e3,e4⟩:=h5.get hb
   walk_at "go"
   refine ⟨p,_,dx,_,_,rfl,h1,T.cl_Teller,T.n_Teller_bodies,a76 _ _,?_⟩
   walk_at "run"
   refine a24 (SqT.of ha) (a04 (j:=0) rfl) ?_
   walk_at "run"
   refine a48 (SqL.of h4) (a04 hkv) ?_
   walk_at "run"
   refine ⟨op,_,odx,_,_,rfl,e1,T.cl_KeptBody,T.n_KeptBody_statements,a73 _ _ _,?_⟩
   walk_at "run"
   refine a24 (SqT.of ha) (a04 (j:=1) rfl) ?_
   walk_at "run"
   obtain ⟨u,hu⟩:∃ u,us[pl.2]?=some u:=⟨_,List.getElem?_eq_getElem (by have:=(List.getElem?_eq_some_iff.mp hbs).1; rw [e4.len,List.length_map]; exact this)⟩
   obtain ⟨t,ht,hxt⟩:=ay9 e4 hu
   rw [List.getElem?_map,hbs] at ht
   rw [← Option.some.inj ht] at hxt
   exact a48 (SqL.of e3) (a04 hu) (q _ hxt)
def c68 (K:PySem.W.Frag) (C CK:Addr):Sp:=fun vs H Q _=>∃ (p:Addr) (v:V) (bs:List (Str×Int)) (kb:List KB) (o:Option Pl) (n:Nat) (r:Option Pl),vs=[.ref p,v]∧TeAt C CK H p bs kb∧PlO H v o∧setF kb n o=some r∧∀ v' H',Same H H'→PlO H' v' r→Q v' H'
theorem a79 (T:Txt K mg t):FnOk P w K mg base CX0 1 t.a_Teller_settled t.fd_Teller_settled ["self","place"] (c68 K t.c_Teller t.c_KeptBody):=by
 refine T.f_Teller_settled.F.ok sc_Teller_settled (fun vs H Q E h=>?_) (fun cdv A outer s H vs Q E hr h=>?_)
 · obtain ⟨p,v,bs,kb,o,n,r,rfl,_⟩:=h
   rfl
 · obtain ⟨p,v,bs,kb,o,n,r,rfl,hT,hv,hs,q⟩:=h
   refine ⟨_,(@a02 _ _ _ _ _ (@ad3 _ _ _ _ _ _ PassesOwn.never (@a16 _ _ _ _ _ _ _ _ an2 (pv 1) (@a50 _ _ _) (nomark _)) (@a02 _ _ _ _ _ (@a14 _ _ 2 _ _ _ _ sc_Teller_settled.nd rfl (by walk_at "o") (@a20 _ _ _ _ _ _ _ (a23 K) (a47 K (pv 0) rfl) (@a20 _ _ _ _ _ _ _ (a07 K) (pv 1) (@a03 _ _ _ _) (fun _ _=>rfl)) (fun _ _=>rfl)) (by rfl) (by walk_at "o"))
    (@a02 _ _ _ _ _ (@a35 _ _ _ _ _ _ _ _ (@a16 _ _ _ _ _ _ _ _ bc0 (@a20 _ _ _ _ _ _ _ (a07 K) (pv 1) (@a03 _ _ _ _) (fun _ _=>rfl)) (@a37 _ _ _ _ _ _ _ _ _ (ac7 K) (by rfl) T.z_len ah6 (@a00 _ _ _ _ _ (a47 K (pv 2) rfl) (@a01 _) (by rfl)) (by decide) (by decide) (by rfl) (by rfl)) (nomark _)) (@a05 _ _ _ (@a19 _ _ _ _ (pv 1))) (@a21 _))
    (@a05 _ _ _ (@a14 _ _ 1 _ _ _ _ sc_Teller_settled.nd rfl (by walk_at "o") (@af8 _ _ _ _ _ _ _ _ (am6 K (a47 K (pv 2) rfl) (fun _=>rfl)) (@a12 _ _ _ _ _ (@a00 _ _ _ _ _ (@a20 _ _ _ _ _ _ _ (a07 K) (pv 1) (@a03 _ _ _ _) (fun _ _=>rfl)) (@a00 _ _ _ _ _ (@a03 _ _ _ _) (@a01 _) (by rfl)) (by rfl))) (a47 K (pv 2) rfl)) (by rfl) (by walk_at "o"))))))
    (@a05 _ _ _ (@a19 _ _ _ _ (@a50 _ _ _)))),?_⟩
   obtain ⟨dx,bl,kl,bvs,kvs,h1,h2,h3,h4,h5⟩:=hT.ex
   walk_at "go"
   obtain ⟨Pv,hPv⟩:∃ Pv:Nat→St→Hp→Prop,Pv=(fun m σ H'=>∃ (v:V) (o:Option Pl) (y:Option V),σ=[some (.ref p),some v,y]∧Same H H'∧PlO H' v o∧setF kb m o=some r):=⟨_,rfl⟩
   refine ah9 Pv n (by rw [hPv]; exact ⟨v,o,_,rfl,Same.refl _,hv,hs⟩) ?_
   intro m σ H2 hI
   rw [hPv] at hI
   obtain ⟨v,o,y,rfl,s2,hv,hs⟩:=hI
   walk_at "run"
   cases m with
   | zero=>cases hs
   | succ m =>
   cases o with
   | none =>
     obtain rfl:v=.non:=hv
     obtain rfl:=Option.some.inj hs
     refine b53 rfl ?_
     walk_at "run"
     exact q _ _ s2 rfl
   | some pl =>
     obtain ⟨a,rfl,ha⟩:=hv
     refine b52 (fun z=>nomatch z) ?_
     refine ⟨fun σ' H'=>∃ m',m'<m+1∧Pv m' σ' H',fun σ' H' h'=>h',?_⟩
     simp only [setF] at hs
     split at hs
     · cases hs
     rename_i b hb
     obtain ⟨kv,hkv,op,odx,bv,l,us,rfl,e1,e2,e3,e4⟩:=h5.get hb
     have hul:us.length=b.st.length:=by rw [e4.len,List.length_map]
     walk_at "run"
     refine ⟨p,_,dx,_,_,rfl,s2 _ _ h1,T.cl_Teller,T.n_Teller_bodies,a76 _ _,?_⟩
     walk_at "run"
     refine a24 (SqT.of ha) (a04 (j:=0) rfl) ?_
     walk_at "run"
     refine a48 (SqL.of (s2 _ _ h4)) (a04 hkv) ?_
     walk_at "run"
     refine a24 (SqT.of ha) (a04 (j:=1) rfl) ?_
     walk_at "run"
     refine ⟨op,_,odx,_,_,rfl,s2 _ _ e1,T.cl_KeptBody,T.n_KeptBody_statements,a73 _ _ _,?_⟩
     walk_at "run"
     refine al7 (SqL.of (s2 _ _ e3)) ?_
     rw [hul]
     walk_at "run"
     by_cases hlt:pl.2<b.st.length
     · rw [if_pos hlt] at hs
       obtain rfl:=Option.some.inj hs
       refine a26 (by omega) ?_
       walk_at "run"
       exact q _ _ s2 ⟨a,rfl,ha⟩
     · rw [if_neg hlt] at hs
       refine a25 (by omega) ?_
       walk_at "run"
       refine ⟨op,_,odx,_,_,rfl,s2 _ _ e1,T.cl_KeptBody,T.n_KeptBody_loops,ai4 _ _ _,?_⟩
       walk_at "run"
       cases hlp:b.lp with
       | true =>
         rw [hlp] at hs
         walk_at "run"
         refine a24 (SqT.of ha) (a04 (j:=0) rfl) ?_
         walk_at "run"
         intro p3 H3 f3 s3 e3
         rw [hPv]
         exact ⟨m,by omega,_,some (pl.1,0),_,rfl,s2.trans s3,⟨p3,rfl,e3⟩,hs⟩
       | false =>
         rw [hlp] at hs
         walk_at "run"
         refine ⟨op,_,odx,_,_,rfl,s2 _ _ e1,T.cl_KeptBody,T.n_KeptBody_behind,af1 _ _ _,?_⟩
         rw [hPv]
         exact ⟨m,by omega,_,_,_,rfl,s2,e2.same s2,hs⟩
def c69 (K:PySem.W.Frag) (C CK:Addr):Sp:=fun vs H Q _=>∃ (p:Addr) (v:V) (bs:List (Str×Int)) (kb:List KB) (pl:Pl) (n i:Nat),vs=[.ref p,v]∧TeAt C CK H p bs kb∧Pl.At H v pl∧lpF kb n pl.1=some i∧Q (.int (i:Nat)) H
theorem aa9 (T:Txt K mg t):FnOk P w K mg base CX0 1 t.a_Teller_loop_around t.fd_Teller_loop_around ["self","place"] (c69 K t.c_Teller t.c_KeptBody):=by
 refine T.f_Teller_loop_around.F.ok sc_Teller_loop_around (fun vs H Q E h=>?_) (fun cdv A outer s H vs Q E hr h=>?_)
 · obtain ⟨p,v,bs,kb,pl,n,i,rfl,_⟩:=h
   rfl
 · obtain ⟨p,v,bs,kb,pl,n,i,rfl,hT,⟨a,rfl,ha⟩,hs,q⟩:=h
   refine ⟨_,(@a02 _ _ _ _ _ (@a14 _ _ 2 _ _ _ _ sc_Teller_loop_around.nd rfl (by walk_at "o") (@a20 _ _ _ _ _ _ _ (a07 K) (pv 1) (@a03 _ _ _ _) (fun _ _=>rfl)) (by rfl) (by walk_at "o"))
    (@a02 _ _ _ _ _ (@ad3 _ _ _ _ _ _ PassesOwn.never (@bw9 _ _ _ _ (am6 K (a47 K (@a20 _ _ _ _ _ _ _ (a23 K) (a47 K (pv 0) rfl) (pv 2) (fun _ _=>rfl)) rfl) (fun _=>rfl))) (@a05 _ _ _ (@a14 _ _ 2 _ _ _ _ sc_Teller_loop_around.nd rfl (by walk_at "o") (@a20 _ _ _ _ _ _ _ (a07 K) (a47 K (@a20 _ _ _ _ _ _ _ (a23 K) (a47 K (pv 0) rfl) (pv 2) (fun _ _=>rfl)) rfl) (@a03 _ _ _ _) (fun _ _=>rfl)) (by rfl) (by walk_at "o"))))
    (@a05 _ _ _ (@a19 _ _ _ _ (pv 2))))),?_⟩
   obtain ⟨dx,bl,kl,bvs,kvs,h1,h2,h3,h4,h5⟩:=hT.ex
   walk_at "go"
   refine a24 (SqT.of ha) (a04 (j:=0) rfl) ?_
   walk_at "run"
   obtain ⟨Pv,hPv⟩:∃ Pv:Nat→St→Hp→Prop,Pv=(fun m σ H'=>∃ (k:Nat),σ=[some (.ref p),some (.ref a),some (.int (k:Nat))]∧H=H'∧lpF kb m k=some i):=⟨_,rfl⟩
   refine ah9 Pv n (by rw [hPv]; exact ⟨pl.1,rfl,rfl,hs⟩) ?_
   intro m σ H2 hI
   rw [hPv] at hI
   obtain ⟨k,rfl,rfl,hs⟩:=hI
   walk_at "run"
   cases m with
   | zero=>cases hs
   | succ m =>
   simp only [lpF] at hs
   split at hs
   · cases hs
   rename_i b hb
   obtain ⟨kv,hkv,op,odx,bv,l,us,rfl,e1,e2,e3,e4⟩:=h5.get hb
   refine ⟨p,_,dx,_,_,rfl,h1,T.cl_Teller,T.n_Teller_bodies,a76 _ _,?_⟩
   walk_at "run"
   refine a48 (SqL.of h4) (a04 hkv) ?_
   walk_at "run"
   refine ⟨op,_,odx,_,_,rfl,e1,T.cl_KeptBody,T.n_KeptBody_loops,ai4 _ _ _,?_⟩
   walk_at "run"
   cases hlp:b.lp with
   | true =>
     rw [hlp,if_pos rfl] at hs
     obtain rfl:=Option.some.inj hs
     walk_at "run"
     exact q
   | false =>
     rw [hlp,if_neg (by simp)] at hs
     walk_at "run"
     refine ⟨fun σ' H'=>∃ m',m'<m+1∧Pv m' σ' H',fun σ' H' h'=>h',?_⟩
     split at hs
     · cases hs
     rename_i pb hpb
     rw [hpb] at e2
     obtain ⟨ab,rfl,hab⟩:=e2
     walk_at "run"
     refine ⟨p,_,dx,_,_,rfl,h1,T.cl_Teller,T.n_Teller_bodies,a76 _ _,?_⟩
     walk_at "run"
     refine a48 (SqL.of h4) (a04 hkv) ?_
     walk_at "run"
     refine ⟨op,_,odx,_,_,rfl,e1,T.cl_KeptBody,T.n_KeptBody_behind,af1 _ _ _,?_⟩
     walk_at "run"
     refine a24 (SqT.of hab) (a04 (j:=0) rfl) ?_
     rw [hPv]
     exact ⟨m,by omega,_,rfl,rfl,hs⟩
theorem bt6 {s:KS}(h:s.word=Str.ofString "back"):s=.back:=by
 cases s <;> first | rfl | (simp only [KS.word] at h; exact absurd h (by decide +kernel))
theorem bt7 {s:KS}(h:s.word=Str.ofString "stop"):s=.stop:=by
 cases s <;> first | rfl | (simp only [KS.word] at h; exact absurd h (by decide +kernel))
theorem bh3 {s:KS}(h:s.word=Str.ofString "again"):s=.again:=by
 cases s <;> first | rfl | (simp only [KS.word] at h; exact absurd h (by decide +kernel))
theorem bh4 {s:KS}(h:s.word=Str.ofString "leave"):s=.leave:=by
 cases s <;> first | rfl | (simp only [KS.word] at h; exact absurd h (by decide +kernel))
theorem bt8 {s:KS}(h:s.word=Str.ofString "test"):∃ c a b,s=.test c a b:=by
 cases s <;> first | exact ⟨_,_,_,rfl⟩ | (simp only [KS.word] at h; exact absurd h (by decide +kernel))
theorem bt9 {s:KS}(h:s.word=Str.ofString "wait"):∃ c a b,s=.wait c a b:=by
 cases s <;> first | exact ⟨_,_,_,rfl⟩ | (simp only [KS.word] at h; exact absurd h (by decide +kernel))
theorem c70 {s:KS}(h:s.word=Str.ofString "put"):∃ n e,s=.put n e:=by
 cases s <;> first | exact ⟨_,_,rfl⟩ | (simp only [KS.word] at h; exact absurd h (by decide +kernel))
theorem b94 {s:KS}(h:s.word=Str.ofString "call"):∃ n,s=.call n:=by
 cases s <;> first | exact ⟨_,rfl⟩ | (simp only [KS.word] at h; exact absurd h (by decide +kernel))
theorem cd7 {s:KS}(h:s.word=Str.ofString "loop"∨s.word=Str.ofString "call"):∃ n,s.its=[.int (n:Nat)]∧∀ kb ns p ws,wayF kb ns p ws s=some (some (n,0)):=by
 rcases h with h | h <;> cases s <;> first | exact ⟨_,rfl,fun _ _ _ _=>rfl⟩ | (simp only [KS.word] at h; exact absurd h (by decide +kernel))
theorem bu0 {s:KS}(h:s.word=Str.ofString "say"∨s.word=Str.ofString "hand"):∃ w,s.sd=[w]:=by
 rcases h with h | h <;> cases s <;> first | exact ⟨_,rfl⟩ | (simp only [KS.word] at h; exact absurd h (by decide +kernel))
theorem b95 {s:KS}(h:¬ (s.word=Str.ofString "say"∨s.word=Str.ofString "hand")):s.sd=[]:=by
 cases s <;> first | rfl | exact absurd (.inl rfl) h | exact absurd (.inr rfl) h
theorem bu1 {s:KS}{kb:List KB}{ns:List Str}{p:Pl}{ws:List Int}(h1:s.word≠Str.ofString "back") (h2:s.word≠Str.ofString "test") (h3:¬ (s.word=Str.ofString "loop"∨s.word=Str.ofString "call")) (h4:s.word≠Str.ofString "again") (h5:s.word≠Str.ofString "leave"):wayF kb ns p ws s=some (some (p.1,p.2+1)):=by
 cases s <;> first | rfl | exact absurd rfl h1 | exact absurd rfl h2 | exact absurd (.inl rfl) h3 | exact absurd (.inr rfl) h3 | exact absurd rfl h4 | exact absurd rfl h5
def c71 (K:PySem.W.Frag) (C CK:Addr):Sp:=fun vs H Q _=>∃ (p pa:Addr) (v sv:V) (bs:List (Str×Int)) (kb:List KB) (pl:Pl) (s:KS) (ws:List Int) (w:Option Pl),vs=[.ref p,v,sv,.ref pa]∧TeAt C CK H p bs kb∧Pl.At H v pl∧s.tr.At H sv []∧s.ok (bs.map (·.1))∧bs.length≤100∧H pa=some (.tup (ws.map V.int))∧ws.length=bs.length∧wayF kb (bs.map (·.1)) pl ws s=some w ∧
 ∀ v' H',Same H H'→PlO H' v' w→Q v' H'
theorem af7 (T:Txt K mg t):FnOk P w K mg base CX0 15 t.a_Teller_way_on t.fd_Teller_way_on ["self","place","statement","values"] (c71 K t.c_Teller t.c_KeptBody):=by
 have G_Teller_loop_around:=aa9 (P:=P) (w:=w) (base:=base) T
 have G_holds:=bh0 (P:=P) (w:=w) (base:=base) T
 have G_place_behind:=aa8 (P:=P) (w:=w) (base:=base) T
 refine T.f_Teller_way_on.F.ok sc_Teller_way_on (fun vs H Q E h=>?_) (fun cdv A outer s H vs Q E hr h=>?_)
 · obtain ⟨p,pa,v,sv,bs,kb,pl,s',ws,w,rfl,_⟩:=h
   rfl
 · obtain ⟨p,pa,v,sv,bs,kb,pl,s',ws,w,rfl,hT,hv,hs,ho,hbl,hpa,hwl,hw,q⟩:=h
   have G_holds:=G_holds 4
   refine ⟨_,(@a02 _ _ _ _ _ (@a14 _ _ 4 _ _ _ _ sc_Teller_way_on.nd rfl (by walk_at "o") (@a20 _ _ _ _ _ _ _ (a07 K) (pv 2) (@a03 _ _ _ _) (fun _ _=>rfl)) (by rfl) (by walk_at "o"))
    (@a02 _ _ _ _ _ (@a35 _ _ _ _ _ _ _ _ (@a16 _ _ _ _ _ _ _ _ a40 (pv 4) (@a15 _ _ _ _) (nomark _)) (@a05 _ _ _ (@a19 _ _ _ _ (@a50 _ _ _))) (@a21 _))
    (@a02 _ _ _ _ _ (@a35 _ _ _ _ _ _ _ _ (@a16 _ _ _ _ _ _ _ _ a40 (pv 4) (@a15 _ _ _ _) (nomark _)) (@a05 _ _ _ (@a19 _ _ _ _ (@a12 _ _ _ _ _ (@a00 _ _ _ _ _ (@af8 _ _ _ _ _ _ _ _ (am6 K (@a18 _ _ _ _ _ _ _ _ _ _ _ _ _ _ _ _ G_holds (hr.mono (by omega)) rfl T.f_holds.m T.f_holds.F.kp T.f_holds.b .nil a28 (@a00 _ _ _ _ _ (@a20 _ _ _ _ _ _ _ (a07 K) (pv 2) (@a03 _ _ _ _) (fun _ _=>rfl)) (@a00 _ _ _ _ _ (a47 K (pv 0) rfl) (@a00 _ _ _ _ _ (pv 3) (@a01 _) (by rfl)) (by rfl)) (by rfl)) (by decide) (by rfl) (by rfl)) (fun _=>rfl)) (@a20 _ _ _ _ _ _ _ (a07 K) (pv 2) (@a03 _ _ _ _) (fun _ _=>rfl)) (@a20 _ _ _ _ _ _ _ (a07 K) (pv 2) (@a03 _ _ _ _) (fun _ _=>rfl))) (@a00 _ _ _ _ _ (@a03 _ _ _ _) (@a01 _) (by rfl)) (by rfl))))) (@a21 _))
    (@a02 _ _ _ _ _ (@a35 _ _ _ _ _ _ _ _ (@au0 _ _ _ (@PW.pt _ _ _ (@bn0 _ _ _ _ _ _ _ (@a16 _ _ _ _ _ _ _ _ a40 (pv 4) (@a15 _ _ _ _) (nomark _)) (@b20 _ _ _ _ (@a16 _ _ _ _ _ _ _ _ a40 (pv 4) (@a15 _ _ _ _) (nomark _)))))) (@a05 _ _ _ (@a19 _ _ _ _ (@a12 _ _ _ _ _ (@a00 _ _ _ _ _ (@a20 _ _ _ _ _ _ _ (a07 K) (pv 2) (@a03 _ _ _ _) (fun _ _=>rfl)) (@a00 _ _ _ _ _ (@a03 _ _ _ _) (@a01 _) (by rfl)) (by rfl))))) (@a21 _))
    (@a02 _ _ _ _ _ (@a35 _ _ _ _ _ _ _ _ (@a16 _ _ _ _ _ _ _ _ a40 (pv 4) (@a15 _ _ _ _) (nomark _)) (@a05 _ _ _ (@a19 _ _ _ _ (@a12 _ _ _ _ _ (@a00 _ _ _ _ _ (a51 (pv 0) T.cl_Teller T.f_Teller_loop_around.M G_Teller_loop_around (hr.mono (by omega)) T.f_Teller_loop_around.b .nil a28 (@a00 _ _ _ _ _ (pv 1) (@a01 _) (by rfl))) (@a00 _ _ _ _ _ (@a03 _ _ _ _) (@a01 _) (by rfl)) (by rfl))))) (@a21 _))
    (@a02 _ _ _ _ _ (@a35 _ _ _ _ _ _ _ _ (@a16 _ _ _ _ _ _ _ _ a40 (pv 4) (@a15 _ _ _ _) (nomark _)) (@a05 _ _ _ (@a19 _ _ _ _ (a47 K (@a20 _ _ _ _ _ _ _ (a23 K) (a47 K (pv 0) rfl) (a51 (pv 0) T.cl_Teller T.f_Teller_loop_around.M G_Teller_loop_around (hr.mono (by omega)) T.f_Teller_loop_around.b .nil a28 (@a00 _ _ _ _ _ (pv 1) (@a01 _) (by rfl))) (fun _ _=>rfl)) rfl))) (@a21 _))
    (@a05 _ _ _ (@a19 _ _ _ _ (@a18 _ _ _ _ _ _ _ _ _ _ _ _ _ _ _ _ G_place_behind (hr.mono (by omega)) rfl T.f_place_behind.m T.f_place_behind.F.kp T.f_place_behind.b .nil a28 (@a00 _ _ _ _ _ (pv 1) (@a01 _) (by rfl)) (by decide) (by rfl) (by rfl)))))))))),?_⟩
   obtain ⟨dx,bl,kl,bvs,kvs,h1,h2,h3,h4,h5⟩:=hT.ex
   obtain ⟨a,us,rfl,ha,hu⟩:=KS.word_at hs
   walk_at "go"
   refine a24 (SqT.of ha) (a04 (j:=0) rfl) ?_
   walk_at "run"
   by_cases w1:s'.word=Str.ofString "back"
   · refine a26 w1 ?_
     walk_at "run"
     obtain rfl:=bt6 w1
     obtain rfl:=Option.some.inj hw
     exact q _ _ (Same.refl _) rfl
   refine a25 w1 ?_
   walk_at "run"
   by_cases w2:s'.word=Str.ofString "test"
   · refine a26 w2 ?_
     walk_at "run"
     obtain ⟨c,x,y,rfl⟩:=bt8 w2
     obtain ⟨v1,u1,rfl,k1,hu⟩:=ats_cons0.mp hu
     obtain ⟨v2,u2,rfl,k2,hu⟩:=ats_cons0.mp hu
     obtain ⟨v3,u3,rfl,k3,hu⟩:=ats_cons0.mp hu
     obtain rfl:=at_int0.mp k2
     obtain rfl:=at_int0.mp k3
     obtain rfl:=Option.some.inj hw
     refine a24 (SqT.of ha) (a04 (j:=1) rfl) ?_
     walk_at "run"
     refine ⟨p,_,dx,_,_,rfl,h1,T.cl_Teller,T.n_Teller_boxes,ai5 _ _,?_⟩
     walk_at "run"
     refine ⟨v1,c,bl,pa,bvs,bs.map (·.1),ws,rfl,ax3 k1,ho.2,ho.1,SqL.of h2,an7 h3,SqT.of hpa,by simp [hwl],by simp; omega,fun H1 s1=>?_⟩
     walk_at "run"
     cases hc:c.ev (bs.map (·.1)) ws with
     | true =>
       walk_at "run"
       refine a24 (SqT.of (s1 _ _ ha)) (a04 (j:=2) rfl) ?_
       walk_at "run"
       intro p2 H2 f2 s2 e2
       exact q _ _ (s1.trans s2) ⟨p2,rfl,by rw [e2,hc]; rfl⟩
     | false =>
       walk_at "run"
       refine a24 (SqT.of (s1 _ _ ha)) (a04 (j:=3) rfl) ?_
       walk_at "run"
       intro p2 H2 f2 s2 e2
       exact q _ _ (s1.trans s2) ⟨p2,rfl,by rw [e2,hc]; rfl⟩
   refine a25 w2 ?_
   walk_at "run"
   refine b59 (s'.word=Str.ofString "loop"∨s'.word=Str.ofString "call") (fun R hR=>?_) ?_
   · walk_at "run"
     by_cases hh:s'.word=Str.ofString "loop"
     · refine a26 hh ?_
       exact rT hR (.inl hh)
     · refine a25 hh ?_
       walk_at "run"
       by_cases h7:s'.word=Str.ofString "call"
       · rw [decide_eq_true h7]
         exact rT hR (.inr h7)
       · rw [decide_eq_false h7]
         exact rF hR (fun z=>by rcases z with z | z; exact hh z; exact h7 z)
   by_cases w3:s'.word=Str.ofString "loop"∨s'.word=Str.ofString "call"
   · refine a26 w3 ?_
     walk_at "run"
     obtain ⟨n,hn,hwy⟩:=cd7 w3
     rw [hn] at hu
     obtain ⟨v1,u1,rfl,k1,hu⟩:=ats_cons0.mp hu
     obtain rfl:=at_int0.mp k1
     rw [hwy] at hw
     obtain rfl:=Option.some.inj hw
     refine a24 (SqT.of ha) (a04 (j:=1) rfl) ?_
     walk_at "run"
     intro p2 H2 f2 s2 e2
     exact q _ _ s2 ⟨p2,rfl,e2⟩
   refine a25 w3 ?_
   walk_at "run"
   by_cases w4:s'.word=Str.ofString "again"
   · refine a26 w4 ?_
     walk_at "run"
     obtain rfl:=bh3 w4
     simp only [wayF] at hw
     obtain ⟨i,hi,rfl⟩:=Option.map_eq_some_iff.mp hw
     refine ⟨p,dx,_,rfl,h1,a63 _ _ (by decide +kernel) (by decide +kernel),?_⟩
     walk_at "run"
     refine ⟨p,v,bs,kb,pl,_,i,rfl,hT,hv,hi,?_⟩
     walk_at "run"
     intro p2 H2 f2 s2 e2
     exact q _ _ s2 ⟨p2,rfl,e2⟩
   refine a25 w4 ?_
   walk_at "run"
   by_cases w5:s'.word=Str.ofString "leave"
   · refine a26 w5 ?_
     walk_at "run"
     obtain rfl:=bh4 w5
     simp only [wayF] at hw
     split at hw
     · cases hw
     rename_i i hi
     obtain ⟨b,hb,rfl⟩:=Option.map_eq_some_iff.mp hw
     obtain ⟨kv,hkv,op,odx,bv,l,us',rfl,e1,e2,e3,e4⟩:=h5.get hb
     refine ⟨p,_,dx,_,_,rfl,h1,T.cl_Teller,T.n_Teller_bodies,a76 _ _,?_⟩
     walk_at "run"
     refine ⟨p,dx,_,rfl,h1,a63 _ _ (by decide +kernel) (by decide +kernel),?_⟩
     walk_at "run"
     refine ⟨p,v,bs,kb,pl,_,i,rfl,hT,hv,hi,?_⟩
     refine a48 (SqL.of h4) (a04 hkv) ?_
     walk_at "run"
     refine ⟨op,_,odx,_,_,rfl,e1,T.cl_KeptBody,T.n_KeptBody_behind,af1 _ _ _,?_⟩
     exact q _ _ (Same.refl _) e2
   refine a25 w5 ?_
   walk_at "run"
   rw [bu1 w1 w2 w3 w4 w5] at hw
   obtain rfl:=Option.some.inj hw
   exact ⟨v,pl,rfl,hv,fun v' H' s' h'=>q v' H' s' h'⟩
def c72 (K:PySem.W.Frag) (C CK:Addr):Sp:=fun vs H Q _=>∃ (p ps:Addr) (v:V) (bs:List (Str×Int)) (kb:List KB) (pl:Pl) (stk stk2:List Pl) (n:Nat),vs=[.ref p,v,.ref ps]∧TeAt C CK H p bs kb∧Pl.At H v pl∧StkAt H ps stk∧stk.length≤900000∧stkF kb pl stk (.call n)=some stk2 ∧
 ∀ ps' H',Same H H'→StkAt H' ps' stk2→Q (.ref ps') H'
theorem aa1 (T:Txt K mg t):FnOk P w K mg base CX0 2 t.a_Teller_stack_behind t.fd_Teller_stack_behind ["self","place","stack"] (c72 K t.c_Teller t.c_KeptBody):=by
 have G_Teller_settled:=a79 (P:=P) (w:=w) (base:=base) T
 have G_place_behind:=aa8 (P:=P) (w:=w) (base:=base) T
 refine T.f_Teller_stack_behind.F.ok sc_Teller_stack_behind (fun vs H Q E h=>?_) (fun cdv A outer s H vs Q E hr h=>?_)
 · obtain ⟨p,ps,v,bs,kb,pl,stk,stk2,n,rfl,_⟩:=h
   rfl
 · obtain ⟨p,ps,v,bs,kb,pl,stk,stk2,n,rfl,hT,hv,hst,hsl,hk,q⟩:=h
   refine ⟨_,(@a02 _ _ _ _ _ (@a14 _ _ 3 _ _ _ _ sc_Teller_stack_behind.nd rfl (by walk_at "o") (a51 (pv 0) T.cl_Teller T.f_Teller_settled.M G_Teller_settled (hr.mono (by omega)) T.f_Teller_settled.b .nil a28 (@a00 _ _ _ _ _ (@a18 _ _ _ _ _ _ _ _ _ _ _ _ _ _ _ _ G_place_behind (hr.mono (by omega)) rfl T.f_place_behind.m T.f_place_behind.F.kp T.f_place_behind.b .nil a28 (@a00 _ _ _ _ _ (pv 1) (@a01 _) (by rfl)) (by decide) (by rfl) (by rfl)) (@a01 _) (by rfl))) (by rfl) (by walk_at "o"))
    (@a02 _ _ _ _ _ (@a35 _ _ _ _ _ _ _ _ (@a16 _ _ _ _ _ _ _ _ ac8 (pv 3) (@a50 _ _ _) (nomark _)) (@a05 _ _ _ (@a19 _ _ _ _ (pv 2))) (@a21 _))
    (@a05 _ _ _ (@a19 _ _ _ _ (@a31 _ _ _ _ _ _ _ _ bf1 (pv 2) (@a12 _ _ _ _ _ (@a00 _ _ _ _ _ (pv 3) (@a01 _) (by rfl)))))))),?_⟩
   obtain ⟨dx,bl,kl,bvs,kvs,h1,h2,h3,h4,h5⟩:=hT.ex
   simp only [stkF] at hk
   obtain ⟨r,hr',hk⟩:=Option.map_eq_some_iff.mp hk
   walk_at "go"
   refine ⟨p,dx,_,rfl,h1,a63 _ _ (by decide +kernel) (by decide +kernel),?_⟩
   walk_at "run"
   refine ⟨v,pl,rfl,hv,fun v1 H1 s1 hv1=>?_⟩
   walk_at "run"
   refine ⟨p,v1,bs,kb,some (pl.1,pl.2+1),_,r,rfl,hT.same s1,hv1,hr',fun v2 H2 s2 hv2=>?_⟩
   walk_at "run"
   cases r with
   | none =>
     obtain rfl:v2=.non:=hv2
     refine a26 rfl ?_
     walk_at "run"
     subst hk
     exact q _ _ (s1.trans s2) (hst.same (s1.trans s2))
   | some pl2 =>
     obtain ⟨a2,rfl,ha2⟩:=hv2
     refine a25 (fun z=>nomatch z) ?_
     walk_at "run"
     intro p3 H3 f3 s3 e3
     subst hk
     obtain ⟨us,hus,hE⟩:=hst.same (s1.trans (s2.trans s3))
     have hz:us.length+[V.ref a2].length≤1000000:=by
      have:=hE.1
      simp only [List.length_cons,List.length_nil]
      omega
     refine c51 hus e3 (le_line hz) ?_
     intro p4 H4 s4 e4
     exact q _ _ (s1.trans (s2.trans (s3.trans s4))) ⟨_,e4,(hE.mono fun _ _ z=>Pl.At.same z s4).snoc ⟨a2,rfl,s4 _ _ (s3 _ _ ha2)⟩⟩
theorem bh5 {kb:List KB}{bs:List (Str×Int)}{p:Pl}{stk:List Pl}{ws:List Int}{l:Int}{br:List (List Pt×Pl)}{w:Pl}:onK kb bs p stk ws (.wait l br w)=some (.done (some (p,stk,ws,l))):=rfl
theorem bh6 {kb:List KB}{bs:List (Str×Int)}{p:Pl}{stk:List Pl}{ws:List Int}:onK kb bs p stk ws .stop=some (.done none):=rfl
theorem c73 {kb:List KB}{bs:List (Str×Int)}{p:Pl}{stk:List Pl}{ws:List Int}{s:KS}{x:StO}(h1:s.word≠Str.ofString "wait") (h2:s.word≠Str.ofString "stop") (h:onK kb bs p stk ws s=some x):∃ stk2 w o,stkF kb p stk s=some stk2∧wayF kb (bs.map (·.1)) p (s.vals bs ws) s=some w∧setF kb (tfu kb) w=some o∧x=.go s.sd o stk2 (s.vals bs ws):=by
 have:(match stkF kb p stk s,wayF kb (bs.map (·.1)) p (s.vals bs ws) s with
  | some stk2,some w=>(setF kb (tfu kb) w).map fun o=>StO.go s.sd o stk2 (s.vals bs ws)
  | _,_=>none)=some x:=by
  rw [← h]
  cases s <;> first | rfl | exact absurd rfl h1 | exact absurd rfl h2
 cases e1:stkF kb p stk s with
 | none=>rw [e1] at this; cases this
 | some stk2 =>
   cases e2:wayF kb (bs.map (·.1)) p (s.vals bs ws) s with
   | none=>rw [e1,e2] at this; cases this
   | some w =>
     rw [e1,e2] at this
     obtain ⟨o,e3,e4⟩:=Option.map_eq_some_iff.mp this
     exact ⟨stk2,w,o,rfl,rfl,e3,e4.symm⟩
theorem az0 {s:KS}{bs:List (Str×Int)}{ws:List Int}(h:ws.length=bs.length):(s.vals bs ws).length=bs.length:=by
 cases s <;> first | exact h | exact ay8 h
theorem bu2 {s:KS}{bs:List (Str×Int)}{ws:List Int}(h:s.word≠Str.ofString "put"):s.vals bs ws=ws:=by
 cases s <;> first | rfl | exact absurd rfl h
theorem b96 {s:KS}{kb:List KB}{p:Pl}{stk:List Pl}(h:s.word≠Str.ofString "call"):stkF kb p stk s=some stk:=by
 cases s <;> first | rfl | exact absurd rfl h
theorem bh7 {s:KS}{kb:List KB}{p:Pl}{stk stk2:List Pl}(h:stkF kb p stk s=some stk2):stk2.length≤stk.length+1:=by
 by_cases hc:s.word=Str.ofString "call"
 · obtain ⟨n,rfl⟩:=b94 hc
   simp only [stkF] at h
   obtain ⟨r,_,h⟩:=Option.map_eq_some_iff.mp h
   cases r with
   | none=>simp only at h; rw [← h]; omega
   | some q=>simp only at h; rw [← h,List.length_append]; simp
 · rw [b96 hc] at h
   rw [← Option.some.inj h]
   omega
theorem c74 (s:KS):s.sd.length≤1:=by
 cases s <;> simp [KS.sd]
theorem az1 {o:Option Pl}{stk stk1:List Pl}{p:Pl}(h:popP o stk=some (p,stk1)):stk1.length≤stk.length:=by
 cases o with
 | some q=>simp only [popP,Option.some.injEq,Prod.mk.injEq] at h; rw [h.2]; exact Nat.le_refl _
 | none =>
   simp only [popP] at h
   split at h
   · cases h
   · simp only [Option.some.injEq,Prod.mk.injEq] at h
     rw [← h.2,List.length_dropLast]
     omega
theorem bu3 {α:Type}{l:List α}{z:α}(h:l.getLast?=some z):l.dropLast++[z]=l:=by
 rcases List.eq_nil_or_concat l with e | ⟨x,y,e⟩
 · subst e
   cases h
 · subst e
   rw [List.concat_eq_append] at h ⊢
   rw [List.getLast?_append] at h
   cases h
   simp
structure TgI (kb:List KB) (bs:List (Str×Int)) (m n:Nat) (o:Option Pl) (stk:List Pl) (ws:List Int) (sd sd0:List Str) (r:Option Std):Prop where
 go:∃ sd1,goF kb bs m o stk ws=some (sd1,r)∧sd0=sd++sd1
 wl:ws.length=bs.length
 sl:stk.length+m≤900000
 dl:sd.length+m≤900000
theorem TgI.pop {kb:List KB}{bs:List (Str×Int)}{m n:Nat}{o:Option Pl}{stk:List Pl}{ws:List Int}{sd sd0:List Str}{r:Option Std}(h:TgI kb bs m n o stk ws sd sd0 r):(o=none∧stk=[]∧sd0=sd∧r=none)∨∃ p stk1 s x,popP o stk=some (p,stk1)∧stAt kb p=some s∧onK kb bs p stk1 ws s=some x∧(∀ r',x=.done r'→sd0=sd∧r=r') ∧
 ∀ sd1 o2 stk2 ws2,x=.go sd1 o2 stk2 ws2→stk2.length≤stk1.length+1→sd1.length≤1→ws2.length=bs.length→∃ m',m'<m∧TgI kb bs m' n o2 stk2 ws2 (sd++sd1) sd0 r:=by
 obtain ⟨sd1,hg,rfl⟩:=h.go
 have hsl:=h.sl
 have hdl:=h.dl
 cases m with
 | zero=>cases hg
 | succ m =>
   simp only [goF] at hg
   cases hp:popP o stk with
   | none =>
     rw [hp] at hg
     injection hg with hg
     injection hg with h1 h2
     subst h1 h2
     left
     cases o with
     | some q=>cases hp
     | none =>
       simp only [popP] at hp
       split at hp
       · rename_i hz
         exact ⟨rfl,List.getLast?_eq_none_iff.mp hz,by simp,rfl⟩
       · cases hp
   | some x =>
     obtain ⟨p,stk1⟩:=x
     rw [hp] at hg
     simp only at hg
     have hpl:=az1 hp
     right
     cases hs:stAt kb p with
     | none=>rw [hs] at hg; cases hg
     | some s =>
       rw [hs] at hg
       simp only at hg
       cases hx:onK kb bs p stk1 ws s with
       | none=>rw [hx] at hg; cases hg
       | some x =>
         rw [hx] at hg
         refine ⟨p,stk1,s,x,rfl,hs,hx,fun r' e=>?_,fun sd1' o2 stk2 ws2 e k1 k2 k3=>?_⟩
         · subst e
           injection hg with hg
           injection hg with h1 h2
           subst h1 h2
           exact ⟨by simp,rfl⟩
         · subst e
           obtain ⟨y,hy,hz⟩:=Option.map_eq_some_iff.mp hg
           injection hz with h1 h2
           subst h1 h2
           exact ⟨m,by omega,⟨y.1,hy,by rw [List.append_assoc]⟩,k3,by omega,by rw [List.length_append]; omega⟩
def bu4 (K:PySem.W.Frag) (C CK:Addr):Sp:=fun vs H Q _=>∃ (p ps pa:Addr) (v:V) (bs:List (Str×Int)) (kb:List KB) (o:Option Pl) (stk:List Pl) (ws:List Int) (n:Nat) (sd:List Str) (r:Option Std),vs=[.ref p,v,.ref ps,.ref pa]∧TeAt C CK H p bs kb∧KOk bs kb∧PlO H v o∧StkAt H ps stk∧H pa=some (.tup (ws.map V.int))∧ws.length=bs.length∧tgoF kb bs n o stk ws=some (sd,r)∧stk.length+n≤900000 ∧
 ∀ p' l v' H',Same H H'→H' p'=some (.tup [.ref l,v'])→H l=none→H' l=some (.lst (a49 sd))→StdAt H' v' r→Q (.ref p') H'
theorem a80 (T:Txt K mg t):FnOk P w K mg base CX0 16 t.a_Teller_gone_on t.fd_Teller_gone_on ["self","place","stack","values"] (bu4 K t.c_Teller t.c_KeptBody):=by
 have G_Teller_settled:=a79 (P:=P) (w:=w) (base:=base) T
 have G_Teller_stack_behind:=aa1 (P:=P) (w:=w) (base:=base) T
 have G_Teller_statement_at:=a56 (P:=P) (w:=w) (base:=base) T
 have G_Teller_way_on:=af7 (P:=P) (w:=w) (base:=base) T
 have G_said_text:=as5 (P:=P) (w:=w) (base:=base) T
 have G_values_put:=ao0 (P:=P) (w:=w) (base:=base) T
 refine T.f_Teller_gone_on.F.ok sc_Teller_gone_on (fun vs H Q E h=>?_) (fun cdv A outer s H vs Q E hr h=>?_)
 · obtain ⟨p,ps,pa,v,bs,kb,o,stk,ws,n,sd,r,rfl,_⟩:=h
   rfl
 · obtain ⟨p,ps,pa,v,bs,kb,o,stk,ws,n,sd0,r,rfl,hT,hk,hv,hst,hpa,hwl,hgo,hsl,q⟩:=h
   refine ⟨_,(@a02 _ _ _ _ _ (@a14 _ _ 4 _ _ _ _ sc_Teller_gone_on.nd rfl (by walk_at "o") (@a22 _ _ _ _ (@a01 _)) (by rfl) (by walk_at "o"))
    (@a02 _ _ _ _ _ (@a14 _ _ 1 _ _ _ _ sc_Teller_gone_on.nd rfl (by walk_at "o") (a51 (pv 0) T.cl_Teller T.f_Teller_settled.M G_Teller_settled (hr.mono (by omega)) T.f_Teller_settled.b .nil a28 (@a00 _ _ _ _ _ (pv 1) (@a01 _) (by rfl))) (by rfl) (by walk_at "o"))
    (@a02 _ _ _ _ _ (@ad3 _ _ _ _ _ _ PassesOwn.never (@au0 _ _ _ (@PW.pt _ _ _ (@bn0 _ _ _ _ _ _ _ (@a16 _ _ _ _ _ _ _ _ an2 (pv 1) (@a50 _ _ _) (nomark _)) (@b20 _ _ _ _ (@a16 _ _ _ _ _ _ _ _ bc1 (@a37 _ _ _ _ _ _ _ _ _ (ac7 K) (by rfl) T.z_len ah6 (@a00 _ _ _ _ _ (pv 2) (@a01 _) (by rfl)) (by decide) (by decide) (by rfl) (by rfl)) (@a03 _ _ _ _) (nomark _)))))) (@a55 _ _ _ _ _ (@a35 _ _ _ _ _ _ _ _ (@a16 _ _ _ _ _ _ _ _ ac8 (pv 1) (@a50 _ _ _) (nomark _)) (@a02 _ _ _ _ _ (@a14 _ _ 1 _ _ _ _ sc_Teller_gone_on.nd rfl (by walk_at "o") (@a20 _ _ _ _ _ _ _ (a07 K) (pv 2) (@bx8 _ _ _ _ _ _ bj1 (@a03 _ _ _ _)) (fun _ _=>rfl)) (by rfl) (by walk_at "o"))
     (@a05 _ _ _ (@a14 _ _ 2 _ _ _ _ sc_Teller_gone_on.nd rfl (by walk_at "o") (@ad4 _ _ _ _ _ _ _ _ _ _ bf2 (pv 2) (@ag6 _) (@ag7 _ _ _ (@bx8 _ _ _ _ _ _ bj1 (@a03 _ _ _ _)))) (by rfl) (by walk_at "o")))) (@a21 _))
     (@a02 _ _ _ _ _ (@a14 _ _ 5 _ _ _ _ sc_Teller_gone_on.nd rfl (by walk_at "o") (a51 (pv 0) T.cl_Teller T.f_Teller_statement_at.M G_Teller_statement_at (hr.mono (by omega)) T.f_Teller_statement_at.b .nil a28 (@a00 _ _ _ _ _ (pv 1) (@a01 _) (by rfl))) (by rfl) (by walk_at "o"))
     (@a02 _ _ _ _ _ (@a14 _ _ 6 _ _ _ _ sc_Teller_gone_on.nd rfl (by walk_at "o") (@a20 _ _ _ _ _ _ _ (a07 K) (pv 5) (@a03 _ _ _ _) (fun _ _=>rfl)) (by rfl) (by walk_at "o"))
     (@a02 _ _ _ _ _ (@a35 _ _ _ _ _ _ _ _ (@a16 _ _ _ _ _ _ _ _ a40 (pv 6) (@a15 _ _ _ _) (nomark _)) (@a05 _ _ _ (@a19 _ _ _ _ (@a12 _ _ _ _ _ (@a00 _ _ _ _ _ (pv 4) (@a00 _ _ _ _ _ (@a12 _ _ _ _ _ (@a00 _ _ _ _ _ (pv 1) (@a00 _ _ _ _ _ (pv 2) (@a00 _ _ _ _ _ (pv 3) (@a00 _ _ _ _ _ (@a20 _ _ _ _ _ _ _ (a07 K) (pv 5) (@a03 _ _ _ _) (fun _ _=>rfl)) (@a01 _) (by rfl)) (by rfl)) (by rfl)) (by rfl))) (@a01 _) (by rfl)) (by rfl))))) (@a21 _))
     (@a02 _ _ _ _ _ (@a35 _ _ _ _ _ _ _ _ (@a16 _ _ _ _ _ _ _ _ a40 (pv 6) (@a15 _ _ _ _) (nomark _)) (@a05 _ _ _ (@a19 _ _ _ _ (@a12 _ _ _ _ _ (@a00 _ _ _ _ _ (pv 4) (@a00 _ _ _ _ _ (@a50 _ _ _) (@a01 _) (by rfl)) (by rfl))))) (@a21 _))
     (@a55 _ _ _ _ _ (@a35 _ _ _ _ _ _ _ _ (@au0 _ _ _ (@PW.pt _ _ _ (@bn0 _ _ _ _ _ _ _ (@a16 _ _ _ _ _ _ _ _ a40 (pv 6) (@a15 _ _ _ _) (nomark _)) (@b20 _ _ _ _ (@a16 _ _ _ _ _ _ _ _ a40 (pv 6) (@a15 _ _ _ _) (nomark _)))))) (@a05 _ _ _ (@a65 _ _ _ _ (@aa7 _ K _ _ _ _ _ _ _ _ _ _ _ PySem.F.plainAttrs_list PySem.F.slot_list_append PySem.F.type_list_append a66 (pv 4) (@a00 _ _ _ _ _ (@a18 _ _ _ _ _ _ _ _ _ _ _ _ _ _ _ _ G_said_text (hr.mono (by omega)) rfl T.f_said_text.m T.f_said_text.F.kp T.f_said_text.b .nil a28 (@a00 _ _ _ _ _ (pv 5) (@a01 _) (by rfl)) (by decide) (by rfl) (by rfl)) (@a01 _) (by rfl)) (by rfl) (by rfl) (by rfl) (by rfl) (by rfl) (by rfl)) (by rfl))) (@a21 _))
     (@a55 _ _ _ _ _ (@a35 _ _ _ _ _ _ _ _ (@a16 _ _ _ _ _ _ _ _ a40 (pv 6) (@a15 _ _ _ _) (nomark _)) (@a05 _ _ _ (@a14 _ _ 3 _ _ _ _ sc_Teller_gone_on.nd rfl (by walk_at "o") (@a18 _ _ _ _ _ _ _ _ _ _ _ _ _ _ _ _ G_values_put (hr.mono (by omega)) rfl T.f_values_put.m T.f_values_put.F.kp T.f_values_put.b .nil a28 (@a00 _ _ _ _ _ (a47 K (pv 0) rfl) (@a00 _ _ _ _ _ (pv 3) (@a00 _ _ _ _ _ (@a20 _ _ _ _ _ _ _ (a07 K) (pv 5) (@a03 _ _ _ _) (fun _ _=>rfl)) (@a00 _ _ _ _ _ (@a20 _ _ _ _ _ _ _ (a07 K) (pv 5) (@a03 _ _ _ _) (fun _ _=>rfl)) (@a01 _) (by rfl)) (by rfl)) (by rfl)) (by rfl)) (by decide) (by rfl) (by rfl)) (by rfl) (by walk_at "o"))) (@a21 _))
     (@a55 _ _ _ _ _ (@a35 _ _ _ _ _ _ _ _ (@a16 _ _ _ _ _ _ _ _ a40 (pv 6) (@a15 _ _ _ _) (nomark _)) (@a05 _ _ _ (@a14 _ _ 2 _ _ _ _ sc_Teller_gone_on.nd rfl (by walk_at "o") (a51 (pv 0) T.cl_Teller T.f_Teller_stack_behind.M G_Teller_stack_behind (hr.mono (by omega)) T.f_Teller_stack_behind.b .nil a28 (@a00 _ _ _ _ _ (pv 1) (@a00 _ _ _ _ _ (pv 2) (@a01 _) (by rfl)) (by rfl))) (by rfl) (by walk_at "o"))) (@a21 _))
     (@a05 _ _ _ (@a14 _ _ 1 _ _ _ _ sc_Teller_gone_on.nd rfl (by walk_at "o") (a51 (pv 0) T.cl_Teller T.f_Teller_settled.M G_Teller_settled (hr.mono (by omega)) T.f_Teller_settled.b .nil a28 (@a00 _ _ _ _ _ (a51 (pv 0) T.cl_Teller T.f_Teller_way_on.M G_Teller_way_on (hr.mono (by omega)) T.f_Teller_way_on.b .nil a28 (@a00 _ _ _ _ _ (pv 1) (@a00 _ _ _ _ _ (pv 5) (@a00 _ _ _ _ _ (pv 3) (@a01 _) (by rfl)) (by rfl)) (by rfl))) (@a01 _) (by rfl))) (by rfl) (by walk_at "o"))))))))))))
    (@a05 _ _ _ (@a19 _ _ _ _ (@a12 _ _ _ _ _ (@a00 _ _ _ _ _ (pv 4) (@a00 _ _ _ _ _ (@a50 _ _ _) (@a01 _) (by rfl)) (by rfl)))))))),?_⟩
   obtain ⟨dx,bl,kl,bvs,kvs,h1,h2,h3,h4,h5⟩:=hT.ex
   unfold tgoF at hgo
   split at hgo
   · cases hgo
   rename_i o1 ho1
   walk_at "go"
   intro ls H1 f1 s1 e1
   walk_at "run"
   refine ⟨p,dx,_,rfl,s1 _ _ h1,a63 _ _ (by decide +kernel) (by decide +kernel),?_⟩
   walk_at "run"
   refine ⟨p,v,bs,kb,o,_,o1,rfl,hT.same s1,hv.same s1,ho1,fun v2 H2 s2 hv2=>?_⟩
   walk_at "run"
   have s12:=s1.trans s2
   obtain ⟨Pv,hPv⟩:∃ Pv:Nat→St→Hp→Prop,Pv=(fun m σ H'=>∃ (v:V) (o:Option Pl) (ps pa:Addr) (stk:List Pl) (ws:List Int) (sd:List Str) (y1 y2:Option V),σ=[some (.ref p),some v,some (.ref ps),some (.ref pa),some (.ref ls),y1,y2]∧Same H H'∧H' ls=some (.lst (a49 sd))∧PlO H' v o∧StkAt H' ps stk∧H' pa=some (.tup (ws.map V.int))∧TgI kb bs m n o stk ws sd sd0 r):=⟨_,rfl⟩
   refine ah9 Pv n (by rw [hPv]; exact ⟨v2,o1,ps,pa,stk,ws,[],_,_,rfl,s12,s2 _ _ e1,hv2,hst.same s12,s12 _ _ hpa,⟨sd0,hgo,rfl⟩,hwl,hsl,by simp; omega⟩) ?_
   intro m σ H3 hI
   rw [hPv] at hI
   obtain ⟨v3,o3,ps3,pa3,stk3,ws3,sd3,y1,y2,rfl,s3,hls,hv3,hst3,hpa3,hI⟩:=hI
   refine b59 (o3≠none∨stk3≠[]) (fun R hR=>?_) ?_
   · walk_at "run"
     cases o3 with
     | some pl =>
       obtain ⟨a,rfl,ha⟩:=hv3
       refine b52 (fun z=>nomatch z) ?_
       exact rT hR (.inl (fun z=>nomatch z))
     | none =>
       obtain rfl:v3=.non:=hv3
       refine b53 rfl ?_
       walk_at "run"
       obtain ⟨us,hus,hE⟩:=hst3
       refine c31 (SqT.of hus) ?_
       walk_at "run"
       have hul:=hE.1
       by_cases hz:stk3=[]
       · subst hz
         rw [decide_eq_false (by rw [hul]; simp)]
         exact rF hR (fun z=>by rcases z with z | z; exact z rfl; exact z rfl)
       · have:0<stk3.length:=List.length_pos_iff.mpr hz
         rw [decide_eq_true (by rw [hul]; omega)]
         exact rT hR (.inr hz)
   rcases hI.pop with ⟨rfl,rfl,rfl,rfl⟩ | ⟨pl,stk4,s',x,hp,hs,hx,hdone,hnext⟩
   · refine a25 (fun z=>by rcases z with z | z; exact z rfl; exact z rfl) ?_
     walk_at "run"
     intro po H4 f4 s4 e4
     exact q po ls .non H4 (s3.trans s4) e4 f1 (s4 _ _ hls) rfl
   have hne:o3≠none∨stk3≠[]:=by
    cases o3 with
    | some _=>exact .inl (fun z=>nomatch z)
    | none=>exact .inr (fun z=>by rw [z] at hp; cases hp)
   refine a26 hne ?_
   refine ⟨fun σ' H'=>∃ m',m'<m∧Pv m' σ' H',fun σ' H' h'=>h',?_⟩
   have hwl3:=hI.wl
   have hdl3:=hI.dl
   have hsl3:=hI.sl
   refine ae0 (fun σ' H'=>∃ (a ps4:Addr),σ'=[some (.ref p),some (.ref a),some (.ref ps4),some (.ref pa3),some (.ref ls),y1,y2]∧Same H3 H'∧H' a=some (.tup [.int (pl.1:Nat),.int (pl.2:Nat)])∧StkAt H' ps4 stk4) ?_ ?_
   · walk_at "run"
     cases o3 with
     | some pl0 =>
       obtain ⟨a,rfl,ha⟩:=hv3
       obtain ⟨rfl,rfl⟩:pl0=pl∧stk3=stk4:=by simpa [popP] using hp
       refine a25 (fun z=>nomatch z) ?_
       walk_at "run"
       exact ⟨a,ps3,rfl,Same.refl _,ha,hst3⟩
     | none =>
       obtain rfl:v3=.non:=hv3
       refine a26 rfl ?_
       walk_at "run"
       obtain ⟨us,hus,hE⟩:=hst3
       have hsn:∃ t',stk3=t'++[pl]∧stk4=t':=by
        simp only [popP] at hp
        split at hp
        · cases hp
        · rename_i z hz
          simp only [Option.some.injEq,Prod.mk.injEq] at hp
          obtain ⟨rfl,rfl⟩:=hp
          exact ⟨stk3.dropLast,(bu3 hz).symm,rfl⟩
       obtain ⟨t',rfl,rfl⟩:=hsn
       obtain ⟨us',u,rfl⟩:∃ us' u,us=us'++[u]:=by
        rcases List.eq_nil_or_concat us with z | ⟨x,y,z⟩
        · subst z
          have:=hE.1
          simp at this
        · exact ⟨x,y,by rw [z,List.concat_eq_append]⟩
       have hul:us'.length=stk4.length:=by have:=hE.1; simpa using this
       obtain ⟨a,rfl,ha⟩:=hE.2 us'.length u pl (by simp) (by rw [hul]; simp)
       refine a24 (SqT.of hus) (bc8 _ _) ?_
       walk_at "run"
       refine cc7 hus ?_
       rw [(be0 _ _).1]
       intro p4 H4 s4 e4
       refine ⟨a,p4,rfl,s4,s4 _ _ ha,_,e4,?_⟩
       have:=(hE.take us'.length).mono fun _ _ z=>Pl.At.same z s4
       rw [List.take_left' rfl,hul,List.take_left' rfl] at this
       exact this
   rintro σ' H4 ⟨a,ps4,rfl,s4,ha,hst4⟩
   have s34:=s3.trans s4
   walk_at "run"
   refine ⟨p,dx,_,rfl,s34 _ _ h1,a63 _ _ (by decide +kernel) (by decide +kernel),?_⟩
   walk_at "run"
   refine ⟨p,_,bs,kb,pl,s',rfl,hT.same s34,⟨a,rfl,ha⟩,hs,fun vs' hvs=>?_⟩
   walk_at "run"
   obtain ⟨sa,us,rfl,hsa,hus⟩:=KS.word_at hvs
   refine a24 (SqT.of hsa) (a04 (j:=0) rfl) ?_
   walk_at "run"
   have hls4:=s4 _ _ hls
   by_cases w1:s'.word=Str.ofString "wait"
   · refine a26 w1 ?_
     walk_at "run"
     obtain ⟨l,br,w',rfl⟩:=bt9 w1
     obtain ⟨v1,u1,rfl,k1,hus⟩:=ats_cons0.mp hus
     obtain rfl:=at_int0.mp k1
     rw [bh5] at hx
     obtain rfl:=Option.some.inj hx
     obtain ⟨rfl,rfl⟩:=hdone _ rfl
     refine a24 (SqT.of hsa) (a04 (j:=1) rfl) ?_
     walk_at "run"
     intro p5 H5 f5 s5 e5
     walk_at "run"
     intro p6 H6 f6 s6 e6
     have s56:=s5.trans s6
     have s46:=s4.trans s56
     exact q p6 ls _ H6 (s34.trans s56) e6 f1 (s46 _ _ hls) ⟨p5,_,ps4,pa3,rfl,s6 _ _ e5,⟨a,rfl,s56 _ _ ha⟩,hst4.same s56,s46 _ _ hpa3⟩
   refine a25 w1 ?_
   walk_at "run"
   by_cases w2:s'.word=Str.ofString "stop"
   · refine a26 w2 ?_
     walk_at "run"
     obtain rfl:=bt7 w2
     rw [bh6] at hx
     obtain rfl:=Option.some.inj hx
     obtain ⟨rfl,rfl⟩:=hdone _ rfl
     intro p6 H6 f6 s6 e6
     exact q p6 ls .non H6 (s34.trans s6) e6 f1 (s6 _ _ hls4) rfl
   refine a25 w2 ?_
   walk_at "run"
   obtain ⟨stk5,wy,o5,k1,k2,k3,rfl⟩:=c73 w1 w2 hx
   obtain ⟨m',hm',hI'⟩:=hnext _ _ _ _ rfl (bh7 k1) (c74 _) (az0 hwl3)
   have hok:=hk.at hs
   refine ae0 (fun σ' H'=>σ'=[some (.ref p),some (.ref a),some (.ref ps4),some (.ref pa3),some (.ref ls),some (.ref sa),some (.str s'.word)]∧Same H H'∧H' ls=some (.lst (a49 (sd3++s'.sd)))∧H' a=some (.tup [.int (pl.1:Nat),.int (pl.2:Nat)])∧StkAt H' ps4 stk4∧H' pa3=some (.tup (ws3.map V.int))∧s'.tr.At H' (.ref sa) []) ?_ ?_
   · walk_at "run"
     refine b59 (s'.word=Str.ofString "say"∨s'.word=Str.ofString "hand") (fun R hR=>?_) ?_
     · walk_at "run"
       by_cases hh:s'.word=Str.ofString "say"
       · refine a26 hh ?_
         exact rT hR (.inl hh)
       · refine a25 hh ?_
         walk_at "run"
         by_cases h7:s'.word=Str.ofString "hand"
         · rw [decide_eq_true h7]
           exact rT hR (.inr h7)
         · rw [decide_eq_false h7]
           exact rF hR (fun z=>by rcases z with z | z; exact hh z; exact h7 z)
     by_cases w3:s'.word=Str.ofString "say"∨s'.word=Str.ofString "hand"
     · refine a26 w3 ?_
       walk_at "run"
       obtain ⟨w',hw'⟩:=bu0 w3
       refine ah8 (SqL.of hls4) ?_
       walk_at "run"
       refine ⟨_,s',w',_,rfl,hvs,hok,hw',?_⟩
       walk_at "run"
       refine a91 hls4 (by have:(1000000:Nat)≤sizeLine:=le_line (Nat.le_refl _); simp only [a49,List.length_map]; omega) ?_
       walk_at "run"
       have tU:Tups H4 (upd H4 ls (.lst (a49 sd3++[V.str w']))):=Tups.upd hls4
       have tt:=hvs.mono (Keep.upd (fs:=[]) (o:=.lst (a49 sd3++[V.str w'])) hls4 (by simp))
       obtain ⟨us4,hu4,hE4⟩:=hst4
       refine ⟨rfl,s34.updNew f1,by rw [a17,hw']; simp [a49],tU _ _ ha,⟨us4,tU _ _ hu4,hE4.mono fun _ _ z=>by obtain ⟨b,z1,z2⟩:=z; exact ⟨b,z1,tU _ _ z2⟩⟩,tU _ _ (s4 _ _ hpa3),tt⟩
     · refine a25 w3 ?_
       walk_at "run"
       exact ⟨rfl,s34,by rw [b95 w3,List.append_nil]; exact hls4,ha,hst4,s4 _ _ hpa3,hvs⟩
   rintro σ' H5 ⟨rfl,s5,hls5,ha5,hst5,hpa5,hvs5⟩
   obtain ⟨sa',us5,hz,hsa5,hus5⟩:=KS.word_at hvs5
   cases hz
   refine ae0 (fun σ' H'=>∃ pa6,σ'=[some (.ref p),some (.ref a),some (.ref ps4),some (.ref pa6),some (.ref ls),some (.ref sa),some (.str s'.word)]∧Same H5 H'∧H' pa6=some (.tup ((s'.vals bs ws3).map V.int))) ?_ ?_
   · walk_at "run"
     by_cases w4:s'.word=Str.ofString "put"
     · refine a26 w4 ?_
       walk_at "run"
       obtain ⟨nm,e,rfl⟩:=c70 w4
       obtain ⟨v1,u1,rfl,j1,hus5⟩:=ats_cons0.mp hus5
       obtain ⟨v2',u2,rfl,j2,hus5⟩:=ats_cons0.mp hus5
       obtain rfl:=at_str0.mp j1
       refine ⟨p,_,dx,_,_,rfl,s5 _ _ h1,T.cl_Teller,T.n_Teller_boxes,ai5 _ _,?_⟩
       walk_at "run"
       refine a24 (SqT.of hsa5) (a04 (j:=1) rfl) ?_
       walk_at "run"
       refine a24 (SqT.of hsa5) (a04 (j:=2) rfl) ?_
       walk_at "run"
       exact ⟨bl,pa3,bvs,bs,ws3,nm,e,v2',rfl,s5 _ _ h2,h3.mono fun _ _ z=>z.same s5,hk.bz,hk.bl,hpa5,hwl3,ar3 j2,hok.2,hok.1,fun p6 H6 s6 e6=>⟨p6,rfl,s6,e6⟩⟩
     · refine a25 w4 ?_
       walk_at "run"
       exact ⟨pa3,rfl,Same.refl _,by rw [bu2 w4]; exact hpa5⟩
   rintro σ' H6 ⟨pa6,rfl,s6,hpa6⟩
   have s56:=s5.trans s6
   refine ae0 (fun σ' H'=>∃ ps7,σ'=[some (.ref p),some (.ref a),some (.ref ps7),some (.ref pa6),some (.ref ls),some (.ref sa),some (.str s'.word)]∧Same H6 H'∧StkAt H' ps7 stk5) ?_ ?_
   · walk_at "run"
     by_cases w5:s'.word=Str.ofString "call"
     · refine a26 w5 ?_
       walk_at "run"
       obtain ⟨nc,rfl⟩:=b94 w5
       refine ⟨p,dx,_,rfl,s56 _ _ h1,a63 _ _ (by decide +kernel) (by decide +kernel),?_⟩
       walk_at "run"
       have:=az1 hp
       exact ⟨p,ps4,_,bs,kb,pl,stk4,stk5,nc,rfl,hT.same s56,⟨a,rfl,s6 _ _ ha5⟩,hst5.same s6,by omega,k1,fun ps7 H7 s7 e7=>⟨ps7,rfl,s7,e7⟩⟩
     · refine a25 w5 ?_
       walk_at "run"
       rw [b96 w5] at k1
       obtain rfl:=Option.some.inj k1
       exact ⟨ps4,rfl,Same.refl _,hst5.same s6⟩
   rintro σ' H7 ⟨ps7,rfl,s7,hst7⟩
   have s67:=s6.trans s7
   have s57:=s5.trans s67
   walk_at "run"
   refine ⟨p,dx,_,rfl,s57 _ _ h1,a63 _ _ (by decide +kernel) (by decide +kernel),?_⟩
   walk_at "run"
   refine ⟨p,dx,_,rfl,s57 _ _ h1,a63 _ _ (by decide +kernel) (by decide +kernel),?_⟩
   walk_at "run"
   refine ⟨p,pa6,_,_,bs,kb,pl,s',_,wy,rfl,hT.same s57,⟨a,rfl,s67 _ _ ha5⟩,hvs5.same s67,hok,hk.bl,s7 _ _ hpa6,az0 hwl3,k2,fun v8 H8 s8 hv8=>?_⟩
   walk_at "run"
   refine ⟨p,_,bs,kb,wy,_,o5,rfl,hT.same (s57.trans s8),hv8,k3,fun v9 H9 s9 hv9=>?_⟩
   rw [hPv]
   have s79:=s8.trans s9
   have s69:=s7.trans s79
   exact ⟨m',hm',v9,o5,ps7,pa6,stk5,_,_,_,_,rfl,s57.trans s79,(s67.trans s79) _ _ hls5,hv9,hst7.same s79,s69 _ _ hpa6,hI'⟩
noncomputable def as7 (kb:List KB) (bs:List (Str×Int)) (n:Nat):Option Std→Tr→Option (List Str×Option Std)
 | none,_=>some ([],none)
 | some (p,stk,ws,l),e=>match stAt kb p with
   | some (.wait _ br w)=>match weF br e with
     | some q=>tgoF kb bs n (some q) stk ws
     | none=>match ao1 (p,stk,ws,l) with
       | some r=>some ([],some r)
       | none=>tgoF kb bs n (some w) stk ws
   | _=>none
theorem bh8 {kb:List KB}{bs:List (Str×Int)}{n:Nat}{p:Pl}{stk:List Pl}{ws:List Int}{l:Int}{e:Tr}{x:List Str×Option Std}(h:as7 kb bs n (some (p,stk,ws,l)) e=some x):∃ l' br w,stAt kb p=some (.wait l' br w)∧(match weF br e with
 | some q=>tgoF kb bs n (some q) stk ws
 | none=>match ao1 (p,stk,ws,l) with
   | some r=>some ([],some r)
   | none=>tgoF kb bs n (some w) stk ws)=some x:=by
 simp only [as7] at h
 split at h
 · rename_i l' br w hs
   exact ⟨l',br,w,hs,h⟩
 · cases h
def bh9 (K:PySem.W.Frag) (C CK:Addr):Sp:=fun vs H Q _=>∃ (p:Addr) (wv sv ev:V) (bs:List (Str×Int)) (kb:List KB) (pl:Pl) (stk:List Pl) (ws:List Int) (l l':Int) (br:List (List Pt×Pl)) (w:Pl) (e:Tr) (n:Nat) (sd:List Str) (r:Option Std),vs=[.ref p,wv,sv,ev]∧TeAt C CK H p bs kb∧KOk bs kb∧(KS.wait l' br w).tr.At H wv []∧StdAt H sv (some (pl,stk,ws,l))∧e.AtK K H ev∧e.h≤5∧ws.length=bs.length∧stk.length+n≤900000 ∧
 (match weF br e with
  | some q=>tgoF kb bs n (some q) stk ws
  | none=>match ao1 (pl,stk,ws,l) with
    | some r=>some ([],some r)
    | none=>tgoF kb bs n (some w) stk ws)=some (sd,r) ∧
 ∀ p' l v' H',Same H H'→H' p'=some (.tup [.ref l,v'])→H l=none→H' l=some (.lst (a49 sd))→StdAt H' v' r→Q (.ref p') H'
theorem b16 (T:Txt K mg t):FnOk P w K mg base CX0 17 t.a_stepped t.fd_stepped ["machine","wait","standing","event"] (bh9 K t.c_Teller t.c_KeptBody):=by
 have G_Teller_gone_on:=a80 (P:=P) (w:=w) (base:=base) T
 have G_rested_on:=as6 (P:=P) (w:=w) (base:=base) T
 have G_way_of_event:=aj1 (P:=P) (w:=w) (base:=base) T
 refine T.f_stepped.F.ok sc_stepped (fun vs H Q E h=>?_) (fun cdv A outer s H vs Q E hr h=>?_)
 · obtain ⟨p,wv,sv,ev,bs,kb,pl,stk,ws,l,l',br,w',e,n,sd,r,rfl,_⟩:=h
   rfl
 · obtain ⟨p,wv,sv,ev,bs,kb,pl,stk,ws,l,l',br,w',e,n,sd,r,rfl,hT,hk,hw,hs,he,heh,hwl,hsl,hst,q⟩:=h
   refine ⟨_,(@a02 _ _ _ _ _ (@a14 _ _ 4 _ _ _ _ sc_stepped.nd rfl (by walk_at "o") (@a18 _ _ _ _ _ _ _ _ _ _ _ _ _ _ _ _ G_way_of_event (hr.mono (by omega)) rfl T.f_way_of_event.m T.f_way_of_event.F.kp T.f_way_of_event.b .nil a28 (@a00 _ _ _ _ _ (@a20 _ _ _ _ _ _ _ (a07 K) (pv 1) (@a03 _ _ _ _) (fun _ _=>rfl)) (@a00 _ _ _ _ _ (pv 3) (@a01 _) (by rfl)) (by rfl)) (by decide) (by rfl) (by rfl)) (by rfl) (by walk_at "o"))
    (@a55 _ _ _ _ _ (@a35 _ _ _ _ _ _ _ _ (@a16 _ _ _ _ _ _ _ _ ac8 (pv 4) (@a50 _ _ _) (nomark _)) (@a02 _ _ _ _ _ (@a14 _ _ 5 _ _ _ _ sc_stepped.nd rfl (by walk_at "o") (@a18 _ _ _ _ _ _ _ _ _ _ _ _ _ _ _ _ G_rested_on (hr.mono (by omega)) rfl T.f_rested_on.m T.f_rested_on.F.kp T.f_rested_on.b .nil a28 (@a00 _ _ _ _ _ (pv 2) (@a01 _) (by rfl)) (by decide) (by rfl) (by rfl)) (by rfl) (by walk_at "o"))
     (@a02 _ _ _ _ _ (@a35 _ _ _ _ _ _ _ _ (@a16 _ _ _ _ _ _ _ _ an2 (pv 5) (@a50 _ _ _) (nomark _)) (@a05 _ _ _ (@a19 _ _ _ _ (@a12 _ _ _ _ _ (@a00 _ _ _ _ _ (@a22 _ _ _ _ (@a01 _)) (@a00 _ _ _ _ _ (pv 5) (@a01 _) (by rfl)) (by rfl))))) (@a21 _))
     (@a05 _ _ _ (@a14 _ _ 4 _ _ _ _ sc_stepped.nd rfl (by walk_at "o") (@a20 _ _ _ _ _ _ _ (a07 K) (pv 1) (@a03 _ _ _ _) (fun _ _=>rfl)) (by rfl) (by walk_at "o"))))) (@a21 _))
    (@a05 _ _ _ (@a19 _ _ _ _ (a51 (pv 0) T.cl_Teller T.f_Teller_gone_on.M G_Teller_gone_on (hr.mono (by omega)) T.f_Teller_gone_on.b .nil a28 (@a00 _ _ _ _ _ (pv 4) (@a00 _ _ _ _ _ (@a20 _ _ _ _ _ _ _ (a07 K) (pv 2) (@a03 _ _ _ _) (fun _ _=>rfl)) (@a00 _ _ _ _ _ (@a20 _ _ _ _ _ _ _ (a07 K) (pv 2) (@a03 _ _ _ _) (fun _ _=>rfl)) (@a01 _) (by rfl)) (by rfl)) (by rfl))))))),?_⟩
   obtain ⟨dx,bl,kl,bvs,kvs,h1,h2,h3,h4,h5⟩:=hT.ex
   obtain ⟨wa,us,rfl,hwa,hus⟩:=KS.word_at hw
   obtain ⟨v1,u1,rfl,j1,hus⟩:=ats_cons0.mp hus
   obtain ⟨v2,u2,rfl,j2,hus⟩:=ats_cons0.mp hus
   obtain ⟨v3,u3,rfl,j3,hus⟩:=ats_cons0.mp hus
   have j3:=pl_tr.mp j3
   have hs0:=hs
   obtain ⟨sa,pv',ps,pa,rfl,hsa,i1,i2,i3⟩:=hs
   walk_at "go"
   refine a24 (SqT.of hwa) (a04 (j:=2) rfl) ?_
   walk_at "run"
   refine ⟨v2,ev,br,e,rfl,j2,he,heh,fun v4 hv4=>?_⟩
   walk_at "run"
   refine ae0 (fun σ' H'=>∃ (v5:V) (q5:Pl) (y:Option V),σ'=[some (.ref p),some (.ref wa),some (.ref sa),some ev,some v5,y]∧Same H H'∧Pl.At H' v5 q5∧tgoF kb bs n (some q5) stk ws=some (sd,r)) ?_ ?_
   · walk_at "run"
     cases hwe:weF br e with
     | some q5 =>
       rw [hwe] at hv4 hst
       obtain ⟨a4,rfl,ha4⟩:=hv4
       refine a25 (fun z=>nomatch z) ?_
       walk_at "run"
       exact ⟨_,q5,_,rfl,Same.refl _,⟨a4,rfl,ha4⟩,hst⟩
     | none =>
       rw [hwe] at hv4 hst
       obtain rfl:v4=.non:=hv4
       refine a26 rfl ?_
       walk_at "run"
       refine ⟨_,_,rfl,hs0,fun v5 H5 s5 hv5=>?_⟩
       walk_at "run"
       cases hre:ao1 (pl,stk,ws,l) with
       | some r' =>
         rw [hre] at hv5 hst
         injection hst with hst
         injection hst with z1 z2
         subst z1 z2
         have hn:v5≠.non:=by
          obtain ⟨_,_,_,_⟩:=r'
          obtain ⟨_,_,_,_,rfl,_⟩:=hv5
          exact fun z=>nomatch z
         refine b52 hn ?_
         walk_at "run"
         intro p6 H6 f6 s6 e6
         walk_at "run"
         intro p7 H7 f7 s7 e7
         exact q p7 p6 v5 H7 (s5.trans (s6.trans s7)) e7 (s5.free f6) (s7 _ _ e6) (hv5.same (s6.trans s7))
       | none =>
         rw [hre] at hv5 hst
         obtain rfl:v5=.non:=hv5
         refine b53 rfl ?_
         walk_at "run"
         refine a24 (SqT.of (s5 _ _ hwa)) (a04 (j:=3) rfl) ?_
         exact ⟨_,w',_,rfl,s5,j3.same s5,hst⟩
   rintro σ' H' ⟨v5,q5,y,rfl,s5,hv5,hgo⟩
   walk_at "run"
   refine ⟨p,dx,_,rfl,s5 _ _ h1,a63 _ _ (by decide +kernel) (by decide +kernel),?_⟩
   walk_at "run"
   refine a24 (SqT.of (s5 _ _ hsa)) (a04 (j:=1) rfl) ?_
   walk_at "run"
   refine a24 (SqT.of (s5 _ _ hsa)) (a04 (j:=2) rfl) ?_
   walk_at "run"
   exact ⟨p,ps,pa,v5,bs,kb,some q5,stk,ws,n,sd,r,rfl,hT.same s5,hk,hv5,i2.same s5,s5 _ _ i3,hwl,hgo,hsl,fun p6 l6 v6 H6 s6 e1 e2 e3 e4=>q p6 l6 v6 H6 (s5.trans s6) e1 (s5.free e2) e3 e4⟩
def bu5 (K:PySem.W.Frag) (C CK:Addr):Sp:=fun vs H Q _=>∃ (p:Addr) (bs:List (Str×Int)) (kb:List KB) (n:Nat) (sd:List Str) (r:Option Std),vs=[.ref p]∧TeAt C CK H p bs kb∧KOk bs kb∧n≤900000∧tgoF kb bs n (some (0,0)) [] (List.replicate bs.length 0)=some (sd,r) ∧
 ∀ p' l v' H',Same H H'→H' p'=some (.tup [.ref l,v'])→H l=none→H' l=some (.lst (a49 sd))→StdAt H' v' r→Q (.ref p') H'
theorem ab0 (T:Txt K mg t):FnOk P w K mg base CX0 18 t.a_Teller_begin t.fd_Teller_begin ["self"] (bu5 K t.c_Teller t.c_KeptBody):=by
 have G_Teller_gone_on:=a80 (P:=P) (w:=w) (base:=base) T
 have G_first_values:=aj0 (P:=P) (w:=w) (base:=base) T
 refine T.f_Teller_begin.F.ok ai7 (fun vs H Q E h=>?_) (fun cdv A outer s H vs Q E hr h=>?_)
 · obtain ⟨p,bs,kb,n,sd,r,rfl,_⟩:=h
   rfl
 · obtain ⟨p,bs,kb,n,sd,r,rfl,hT,hk,hn,hgo,q⟩:=h
   refine ⟨_,(@a05 _ _ _ (@a19 _ _ _ _ (a51 (pv 0) T.cl_Teller T.f_Teller_gone_on.M G_Teller_gone_on (hr.mono (by omega)) T.f_Teller_gone_on.b .nil a28 (@a00 _ _ _ _ _ (@a12 _ _ _ _ _ (@a00 _ _ _ _ _ (@a03 _ _ _ _) (@a00 _ _ _ _ _ (@a03 _ _ _ _) (@a01 _) (by rfl)) (by rfl))) (@a00 _ _ _ _ _ (@a12 _ _ _ _ _ (@a01 _)) (@a00 _ _ _ _ _ (@a18 _ _ _ _ _ _ _ _ _ _ _ _ _ _ _ _ G_first_values (hr.mono (by omega)) rfl T.f_first_values.m T.f_first_values.F.kp T.f_first_values.b .nil a28 (@a00 _ _ _ _ _ (a47 K (pv 0) rfl) (@a01 _) (by rfl)) (by decide) (by rfl) (by rfl)) (@a01 _) (by rfl)) (by rfl)) (by rfl))))),?_⟩
   obtain ⟨dx,bl,kl,bvs,kvs,h1,h2,h3,h4,h5⟩:=hT.ex
   walk_at "go"
   refine ⟨p,dx,_,rfl,h1,a63 _ _ (by decide +kernel) (by decide +kernel),?_⟩
   walk_at "run"
   intro p1 H1 f1 s1 e1
   walk_at "run"
   intro p2 H2 f2 s2 e2
   walk_at "run"
   have s12:=s1.trans s2
   refine ⟨p,_,dx,_,_,rfl,s12 _ _ h1,T.cl_Teller,T.n_Teller_boxes,ai5 _ _,?_⟩
   walk_at "run"
   refine ⟨bl,bvs,rfl,s12 _ _ h2,by have:=h3.1; have:=hk.bl; omega,fun p3 H3 s3 e3=>?_⟩
   walk_at "run"
   have s13:=s12.trans s3
   rw [h3.1] at e3
   exact ⟨p,p2,p3,_,bs,kb,some (0,0),[],_,n,sd,r,rfl,hT.same s13,hk,⟨p1,rfl,(s2.trans s3) _ _ e1⟩,⟨[],s3 _ _ e2,Each.nil⟩,e3,by simp,hgo,by simpa using hn,fun p6 l6 v6 H6 s6 e1 e2 e3 e4=>q p6 l6 v6 H6 (s13.trans s6) e1 (s13.free e2) e3 e4⟩
def bi0 (K:PySem.W.Frag) (C CK:Addr):Sp:=fun vs H Q _=>∃ (p:Addr) (sv ev:V) (bs:List (Str×Int)) (kb:List KB) (r0:Option Std) (e:Tr) (n:Nat) (sd:List Str) (r:Option Std),vs=[.ref p,sv,ev]∧TeAt C CK H p bs kb∧KOk bs kb∧StdAt H sv r0∧e.AtK K H ev∧e.h≤5∧(∀ x,r0=some x→x.2.2.1.length=bs.length∧x.2.1.length+n≤900000)∧as7 kb bs n r0 e=some (sd,r) ∧
 ∀ p' l v' H',Same H H'→H' p'=some (.tup [.ref l,v'])→H l=none→H' l=some (.lst (a49 sd))→StdAt H' v' r→Q (.ref p') H'
theorem ac0 (T:Txt K mg t):FnOk P w K mg base CX0 18 t.a_Teller_step t.fd_Teller_step ["self","standing","event"] (bi0 K t.c_Teller t.c_KeptBody):=by
 have G_Teller_statement_at:=a56 (P:=P) (w:=w) (base:=base) T
 have G_stepped:=b16 (P:=P) (w:=w) (base:=base) T
 refine T.f_Teller_step.F.ok ak3 (fun vs H Q E h=>?_) (fun cdv A outer s H vs Q E hr h=>?_)
 · obtain ⟨p,sv,ev,bs,kb,r0,e,n,sd,r,rfl,_⟩:=h
   rfl
 · obtain ⟨p,sv,ev,bs,kb,r0,e,n,sd,r,rfl,hT,hk,hs,he,heh,hb,hst,q⟩:=h
   refine ⟨_,(@a02 _ _ _ _ _ (@a35 _ _ _ _ _ _ _ _ (@a16 _ _ _ _ _ _ _ _ ac8 (pv 1) (@a50 _ _ _) (nomark _)) (@a05 _ _ _ (@a19 _ _ _ _ (@a12 _ _ _ _ _ (@a00 _ _ _ _ _ (@a22 _ _ _ _ (@a01 _)) (@a00 _ _ _ _ _ (@a50 _ _ _) (@a01 _) (by rfl)) (by rfl))))) (@a21 _))
    (@a05 _ _ _ (@a19 _ _ _ _ (@a18 _ _ _ _ _ _ _ _ _ _ _ _ _ _ _ _ G_stepped (hr.mono (by omega)) rfl T.f_stepped.m T.f_stepped.F.kp T.f_stepped.b .nil a28 (@a00 _ _ _ _ _ (pv 0) (@a00 _ _ _ _ _ (a51 (pv 0) T.cl_Teller T.f_Teller_statement_at.M G_Teller_statement_at (hr.mono (by omega)) T.f_Teller_statement_at.b .nil a28 (@a00 _ _ _ _ _ (@a20 _ _ _ _ _ _ _ (a07 K) (pv 1) (@a03 _ _ _ _) (fun _ _=>rfl)) (@a01 _) (by rfl))) (@a00 _ _ _ _ _ (pv 1) (@a00 _ _ _ _ _ (pv 2) (@a01 _) (by rfl)) (by rfl)) (by rfl)) (by rfl)) (by decide) (by rfl) (by rfl))))),?_⟩
   obtain ⟨dx,bl,kl,bvs,kvs,h1,h2,h3,h4,h5⟩:=hT.ex
   walk_at "go"
   cases r0 with
   | none =>
     obtain rfl:sv=.non:=hs
     injection hst with hst
     injection hst with z1 z2
     subst z1 z2
     refine a26 rfl ?_
     walk_at "run"
     intro p6 H6 f6 s6 e6
     walk_at "run"
     intro p7 H7 f7 s7 e7
     exact q p7 p6 _ H7 (s6.trans s7) e7 f6 (s7 _ _ e6) rfl
   | some x =>
     obtain ⟨pl,stk,ws,l⟩:=x
     obtain ⟨b1,b2⟩:=hb _ rfl
     have hs0:=hs
     obtain ⟨sa,pv',ps,pa,rfl,hsa,i1,i2,i3⟩:=hs
     obtain ⟨l',br,w',hw,hm⟩:=bh8 hst
     refine a25 (fun z=>nomatch z) ?_
     walk_at "run"
     refine ⟨p,dx,_,rfl,h1,a63 _ _ (by decide +kernel) (by decide +kernel),?_⟩
     walk_at "run"
     refine a24 (SqT.of hsa) (a04 (j:=0) rfl) ?_
     walk_at "run"
     refine ⟨p,_,bs,kb,pl,_,rfl,hT,i1,hw,fun v6 hv6=>?_⟩
     walk_at "run"
     exact ⟨p,v6,_,ev,bs,kb,pl,stk,ws,l,l',br,w',e,n,sd,r,rfl,hT,hk,hv6,hs0,he,heh,b1,b2,hm,q⟩
def bu6 (C:Addr):Sp:=fun vs H Q _=>∃ (p dx:Addr) (b:Bool) (bv:V),vs=[.ref p,.bl b,bv]∧H p=some (.ins C dx [])∧∀ l H',H l=none→H' p=some (.ins C dx (kbS (.bl b) bv (.ref l)))→H' l=some (.lst [])→(∀ x o,H x=some o→x≠p→H' x=some o)→Q .non H'
theorem ab4 (T:Txt K mg t):FnOk P w K mg base CX0 1 t.a_KeptBody___init__ t.fd_KeptBody___init__ ["self","loops","behind"] (bu6 t.c_KeptBody):=by
 refine T.f_KeptBody___init__.F.ok ab3 (fun vs H Q E h=>?_) (fun cdv A outer s H vs Q E hr h=>?_)
 · obtain ⟨p,dx,b,bv,rfl,_⟩:=h
   rfl
 · obtain ⟨p,dx,b,bv,rfl,hp,q⟩:=h
   refine ⟨_,(@a02 _ _ _ _ _ (ai1 K (pv 0) (pv 1) rfl)
    (@a02 _ _ _ _ _ (ai1 K (pv 0) (pv 2) rfl)
    (@a05 _ _ _ (ai1 K (pv 0) (@a22 _ _ _ _ (@a01 _)) rfl)))),?_⟩
   walk_at "go"
   refine ⟨p,_,dx,_,rfl,hp,T.cl_KeptBody,T.n_KeptBody_loops,by decide,?_⟩
   walk_at "run"
   refine ⟨p,_,dx,_,rfl,a17,T.cl_KeptBody,T.n_KeptBody_behind,(by have h1:=a57 "loops" (V.bl b) []; rw [List.length_nil] at h1; omega),?_⟩
   walk_at "run"
   intro l H1 f1 s1 e1
   walk_at "run"
   have e2:=s1 p _ a17
   have hlp:l≠p:=fun z=>by rw [← z,a17] at f1; cases f1
   refine ⟨p,_,dx,_,rfl,e2,T.cl_KeptBody,T.n_KeptBody_statements,(by have h1:=a57 "loops" (V.bl b) []; have h2:=a57 "behind" bv (putF "loops" (V.bl b) []); rw [List.length_nil] at h1; omega),?_⟩
   refine q l _ ?_ a17 (by rw [a09 hlp]; exact e1) fun x o e hx=>by rw [a09 hx]; exact s1 _ _ (by rw [a09 hx,a09 hx]; exact e)
   rw [a09 hlp,a09 hlp] at f1
   exact f1
def bu7 (K:PySem.W.Frag):Sp:=fun vs H Q _=>∃ (v:V) (x:Stm) (G:Hp) (tn:List Str),vs=[v]∧Same G H∧SAt G v x∧x.kd tn∧∀ l us H',H l=none→Same H H'→H' l=some (.lst us)→Each (BAt G) us (a43 x)→Q (.ref l) H'
theorem as8 (T:Txt K mg t):FnOk P w K mg base CX0 1 t.a_bodies_of t.fd_bodies_of ["statement"] (bu7 K):=by
 refine T.f_bodies_of.F.ok sc_bodies_of (fun vs H Q E h=>?_) (fun cdv A outer s H vs Q E hr h=>?_)
 · obtain ⟨v,x,G,tn,rfl,_⟩:=h
   rfl
 · obtain ⟨v,x,G,tn,rfl,sG,hx,hp,q⟩:=h
   refine ⟨_,(@a02 _ _ _ _ _ (@a14 _ _ 1 _ _ _ _ sc_bodies_of.nd rfl (by walk_at "o") (@a20 _ _ _ _ _ _ _ (a07 K) (pv 0) (@a03 _ _ _ _) (fun _ _=>rfl)) (by rfl) (by walk_at "o"))
    (@a02 _ _ _ _ _ (@a35 _ _ _ _ _ _ _ _ (@a16 _ _ _ _ _ _ _ _ a40 (pv 1) (@a15 _ _ _ _) (nomark _)) (@a05 _ _ _ (@a19 _ _ _ _ (@a22 _ _ _ _ (@a00 _ _ _ _ _ (@a20 _ _ _ _ _ _ _ (a07 K) (pv 0) (@a03 _ _ _ _) (fun _ _=>rfl)) (@a00 _ _ _ _ _ (@a20 _ _ _ _ _ _ _ (a07 K) (pv 0) (@a03 _ _ _ _) (fun _ _=>rfl)) (@a01 _) (by rfl)) (by rfl))))) (@a21 _))
    (@a02 _ _ _ _ _ (@a35 _ _ _ _ _ _ _ _ (@a16 _ _ _ _ _ _ _ _ a40 (pv 1) (@a15 _ _ _ _) (nomark _)) (@a05 _ _ _ (@a19 _ _ _ _ (ah3 (Nt:=["pattern","body"]) (Nf:=[]) (caps:=[]) rfl (a45 (sc:=a06 ac5) rfl rfl (by decide +kernel) (by decide +kernel) (by decide +kernel) rfl (by decide +kernel)) (a39 K (@a20 _ _ _ _ _ _ _ (a07 K) (pv 0) (@a03 _ _ _ _) (fun _ _=>rfl))) (fun _ _ _ _ _=>(a89 K (n:=2) rfl (a34 (a29 (i:=0) (show (["pattern","body"]:List Str).Nodup by decide +kernel) rfl (by walk_at "o")) (a34 (a29 (i:=1) (show (["pattern","body"]:List Str).Nodup by decide +kernel) rfl (by walk_at "o")) (@a81 _))))) (fun _ _ _ _ _=>(@a44 _)) (fun _ _ _ _ _=>(pv 1))))) (@a21 _))
    (@a02 _ _ _ _ _ (@a35 _ _ _ _ _ _ _ _ (@a16 _ _ _ _ _ _ _ _ a40 (pv 1) (@a15 _ _ _ _) (nomark _)) (@a05 _ _ _ (@a19 _ _ _ _ (@a22 _ _ _ _ (@a00 _ _ _ _ _ (@a20 _ _ _ _ _ _ _ (a07 K) (pv 0) (@a03 _ _ _ _) (fun _ _=>rfl)) (@a01 _) (by rfl))))) (@a21 _))
    (@a05 _ _ _ (@a19 _ _ _ _ (@a22 _ _ _ _ (@a01 _)))))))),?_⟩
   have sl:(1000000:Nat)≤sizeLine:=le_line (Nat.le_refl _)
   obtain ⟨a,us,rfl,ha⟩:=b81 hx hp
   walk_at "go"
   refine a24 (SqT.of (sG _ _ ha)) (a04 (j:=0) rfl) ?_
   walk_at "run"
   by_cases w1:x.wd=Str.ofString "test"
   · refine a26 w1 ?_
     walk_at "run"
     obtain ⟨c,y,z,rfl⟩:=b82 hp w1
     obtain ⟨a,u1,u2,u3,hz,e,h2,h3⟩:=ay2 hx
     cases hz
     refine a24 (SqT.of (sG _ _ e)) (a04 (j:=2) rfl) ?_
     walk_at "run"
     refine a24 (SqT.of (sG _ _ e)) (a04 (j:=3) rfl) ?_
     walk_at "run"
     intro p1 H1 f1 s1 e1
     exact q p1 _ H1 f1 s1 e1 ((Each.nil.snoc h2).snoc h3)
   refine a25 w1 ?_
   walk_at "run"
   by_cases w2:x.wd=Str.ofString "wait"
   · refine a26 w2 ?_
     walk_at "run"
     obtain ⟨n,bs,rfl⟩:=b83 hp w2
     obtain ⟨a,l,ws,hz,e,el,hw⟩:=sat_wait.mp hx
     cases hz
     have wl:ws.length=bs.length:=hw.1
     have bl:bs.length≤1000:=hp
     refine a24 (SqT.of (sG _ _ e)) (a04 (j:=2) rfl) ?_
     refine ⟨_,rfl,⟨_,SqL.of (sG _ _ el)⟩,an0 (xs:=ws) (by omega) (fun i acc H'=>H'=H∧i≤ws.length∧acc.length=i∧Each (BAt G) acc ((a43 (.wait n bs)).take i)) ⟨rfl,Nat.zero_le _,rfl,by simpa using Each.nil⟩ (fun i acc H' ⟨e0,_,ea,_⟩=>⟨by omega,e0 ▸ SqL.of (sG _ _ el)⟩) ?_ ?_⟩
     · rintro i w acc H' hw' ⟨rfl,hi,ea,hE⟩
       have hi':=(List.getElem?_eq_some_iff.mp hw').1
       obtain ⟨br,hbr⟩:∃ br,bs[i]?=some br:=⟨_,List.getElem?_eq_getElem (by omega)⟩
       have hB:=hw.2 i w br hw' hbr
       obtain ⟨pp,bb⟩:=br
       obtain ⟨qv,pv,bv,rfl,eq,hp1,hb1⟩:=hB
       refine ⟨qv,_,_,rfl,SqT.of (sG _ _ eq),?_⟩
       walk_at "run"
       refine ⟨rfl,hi',by simp [ea],?_⟩
       rw [List.take_add_one,show (a43 (.wait n bs))[i]?=some bb by unfold a43; rw [List.getElem?_map,hbr]; rfl,Option.toList_some]
       exact hE.snoc hb1
     · rintro acc H' ⟨rfl,_,ea,hE⟩ p1 H1 f1 s1 e1
       rw [wl,show (a43 (.wait n bs)).take bs.length=a43 (.wait n bs) from List.take_of_length_le (by simp [a43])] at hE
       walk_at "run"
       exact q p1 _ H1 f1 s1 e1 hE
   refine a25 w2 ?_
   walk_at "run"
   by_cases w3:x.wd=Str.ofString "loop"
   · refine a26 w3 ?_
     walk_at "run"
     obtain ⟨b,rfl⟩:=av0 hp w3
     obtain ⟨a,u,hz,e,hb⟩:=sat_loop.mp hx
     cases hz
     refine a24 (SqT.of (sG _ _ e)) (a04 (j:=1) rfl) ?_
     walk_at "run"
     intro p1 H1 f1 s1 e1
     exact q p1 _ H1 f1 s1 e1 (Each.nil.snoc hb)
   refine a25 w3 ?_
   walk_at "run"
   intro p1 H1 f1 s1 e1
   exact q p1 [] H1 f1 s1 e1 (by rw [br8 w1 w2 w3]; exact Each.nil)
def cd8 (K:PySem.W.Frag):Sp:=fun vs H Q _=>∃ (v bv:V) (m:Nat) (pl:Pl) (n:Int) (bs:List Br) (tn:List Str),vs=[v,bv,.int (m:Nat)]∧SAt H v (.wait n bs)∧bs.length≤1000∧Pl.At H bv pl∧∀ v' H',Same H H'→(a77 tn pl m (.wait n bs)).tr.At H' v' []→Q v' H'
theorem bi1 {m i:Nat}{bs:List Br}{b:Br}(h:bs[i]?=some b):(brsK m bs)[i]?=some (b.pat,(m+i,0)):=by
 unfold brsK
 rw [List.getElem?_mapIdx,h]
 rfl
theorem as9 (T:Txt K mg t):FnOk P w K mg base CX0 2 t.a_kept_wait t.fd_kept_wait ["statement","behind","number"] (cd8 K):=by
 have G_way_of_pattern:=a78 (P:=P) (w:=w) (base:=base) T
 refine T.f_kept_wait.F.ok sc_kept_wait (fun vs H Q E h=>?_) (fun cdv A outer s H vs Q E hr h=>?_)
 · obtain ⟨v,bv,m,pl,n,bs,tn,rfl,_⟩:=h
   rfl
 · obtain ⟨v,bv,m,pl,n,bs,tn,rfl,hx,hl,hb,q⟩:=h
   refine ⟨_,(@a02 _ _ _ _ _ (b08 (i:=3) (Nt:=["pattern","body"]) (Nf:=[]) (caps:=[]) rfl (a45 (sc:=a06 a84) rfl rfl (by decide +kernel) (by decide +kernel) (by decide +kernel) rfl (by decide +kernel)) (a39 K (@a20 _ _ _ _ _ _ _ (a07 K) (pv 0) (@a03 _ _ _ _) (fun _ _=>rfl))) (fun _ _ _ _ _=>(a89 K (n:=2) rfl (a34 (a29 (i:=0) (show (["pattern","body"]:List Str).Nodup by decide +kernel) rfl (by walk_at "o")) (a34 (a29 (i:=1) (show (["pattern","body"]:List Str).Nodup by decide +kernel) rfl (by walk_at "o")) (@a81 _))))) (fun _ _ _ _ _=>(@a44 _)) (fun _ _ _ _ _=>(pv 0)) sc_kept_wait.nd rfl (by walk_at "o") rfl)
    (@a02 _ _ _ _ _ (@a14 _ _ 4 _ _ _ _ sc_kept_wait.nd rfl (by walk_at "o") (@a41 _ _ _ _ _ _ _ _ _ (ah5 K) (by rfl) T.z_tuple am7 (@a00 _ _ _ _ _ (ah3 (Nt:=["place","pattern"]) (Nf:=["number"]) (caps:=[2]) rfl (a45 (sc:=a06 a84) rfl rfl (by decide +kernel) (by decide +kernel) (by decide +kernel) rfl (by decide +kernel)) (an1 K rfl T.z_enumerate (@a00 _ _ _ _ _ (pv 3) (@a01 _) (by rfl))) (fun _ _ _ _ _=>(a89 K (n:=2) rfl (a34 (a29 (i:=0) (show (["place","pattern","number"]:List Str).Nodup by decide +kernel) rfl (by walk_at "o")) (a34 (a29 (i:=1) (show (["place","pattern","number"]:List Str).Nodup by decide +kernel) rfl (by walk_at "o")) (@a81 _))))) (fun _ _ _ _ _=>(@a44 _)) (fun _ _ _ _ _=>(@a12 _ _ _ _ _ (@a00 _ _ _ _ _ (pv 1) (@a00 _ _ _ _ _ (@a12 _ _ _ _ _ (@a00 _ _ _ _ _ (@a31 _ _ _ _ _ _ _ _ a32 (pv 2) (pv 0)) (@a00 _ _ _ _ _ (@a03 _ _ _ _) (@a01 _) (by rfl)) (by rfl))) (@a01 _) (by rfl)) (by rfl))))) (@a01 _) (by rfl)) (by decide) (by decide) (by rfl) (by rfl)) (by rfl) (by walk_at "o"))
    (@a02 _ _ _ _ _ (@a14 _ _ 5 _ _ _ _ sc_kept_wait.nd rfl (by walk_at "o") (@a18 _ _ _ _ _ _ _ _ _ _ _ _ _ _ _ _ G_way_of_pattern (hr.mono (by omega)) rfl T.f_way_of_pattern.m T.f_way_of_pattern.F.kp T.f_way_of_pattern.b .nil a28 (@a00 _ _ _ _ _ (pv 4) (@a00 _ _ _ _ _ (aa3 (by rfl) T.m_NONE (by exact T.r_NONE)) (@a01 _) (by rfl)) (by rfl)) (by decide) (by rfl) (by rfl)) (by rfl) (by walk_at "o"))
    (@a05 _ _ _ (@a19 _ _ _ _ (@a12 _ _ _ _ _ (@a00 _ _ _ _ _ (@a15 _ _ _ _) (@a00 _ _ _ _ _ (@a20 _ _ _ _ _ _ _ (a07 K) (pv 0) (@a03 _ _ _ _) (fun _ _=>rfl)) (@a00 _ _ _ _ _ (pv 4) (@a00 _ _ _ _ _ (@af8 _ _ _ _ _ _ _ _ (@a16 _ _ _ _ _ _ _ _ ac8 (pv 5) (@a50 _ _ _) (nomark _)) (pv 1) (pv 5)) (@a01 _) (by rfl)) (by rfl)) (by rfl)) (by rfl)))))))),?_⟩
   have sl:(1000000:Nat)≤sizeLine:=le_line (Nat.le_refl _)
   obtain ⟨a,l,ws,rfl,e,el,hw⟩:=sat_wait.mp hx
   have wl:ws.length=bs.length:=hw.1
   walk_at "go"
   refine a24 (SqT.of e) (a04 (j:=2) rfl) ?_
   refine ⟨_,rfl,⟨_,SqL.of el⟩,an0 (xs:=ws) (by omega) (fun i acc H'=>H'=H∧i≤ws.length∧acc.length=i∧Each (PAt H) acc ((bs.map Br.pat).take i)) ⟨rfl,Nat.zero_le _,rfl,by simpa using Each.nil⟩ (fun i acc H' ⟨e0,_,ea,_⟩=>⟨by omega,e0 ▸ SqL.of el⟩) ?_ ?_⟩
   · rintro i w acc H' hw' ⟨rfl,hi,ea,hE⟩
     have hi':=(List.getElem?_eq_some_iff.mp hw').1
     obtain ⟨br,hbr⟩:∃ br,bs[i]?=some br:=⟨_,List.getElem?_eq_getElem (by omega)⟩
     have hB:=hw.2 i w br hw' hbr
     obtain ⟨pp,bb⟩:=br
     obtain ⟨qv,pv,bv',rfl,eq,hp1,hb1⟩:=hB
     refine ⟨qv,_,_,rfl,SqT.of eq,?_⟩
     walk_at "run"
     refine ⟨rfl,hi',by simp [ea],?_⟩
     rw [List.take_add_one,show (bs.map Br.pat)[i]?=some pp by rw [List.getElem?_map,hbr]; rfl,Option.toList_some]
     exact hE.snoc hp1
   · rintro acc H' ⟨rfl,_,ea,hE⟩ p1 H1 f1 s1 e1
     rw [wl,show (bs.map Br.pat).take bs.length=bs.map Br.pat from List.take_of_length_le (by simp)] at hE
     walk_at "run"
     refine ⟨⟨_,SqL.of e1⟩,at9 (xs:=acc) (by omega) (fun i ac H2=>Same H1 H2∧i≤acc.length∧ac.length=i∧Tr.Ats H2 (((brsK m bs).take i).map brK) ac []) ⟨Same.refl _,Nat.zero_le _,rfl,by simp [Tr.Ats]⟩ (fun i ac H2 ⟨s2,_,ea2,_⟩=>⟨by omega,SqL.of (s2 _ _ e1)⟩) ?_ ?_⟩
     · rintro i x ac H2 H3 hx' ⟨s2,hi,ea2,hat⟩ s3
       have hi':=(List.getElem?_eq_some_iff.mp hx').1
       obtain ⟨br,hbr⟩:∃ br,bs[i]?=some br:=⟨_,List.getElem?_eq_getElem (by omega)⟩
       have hpx:PAt H' x br.pat:=hE.2 i x br.pat hx' (by rw [List.getElem?_map,hbr]; rfl)
       walk_at "run"
       intro p4 H4 f4 s4 e4
       walk_at "run"
       intro p5 H5 f5 s5 e5
       have s35:=s4.trans s5
       have s25:=s3.trans s35
       refine ⟨s2.trans s25,hi',by simp [ea2],?_⟩
       rw [List.take_add_one,bi1 hbr,Option.toList_some,List.map_append]
       refine (hat.same s25).snoc ?_
       exact a61 e5 ((hpx.same s1).same (s2.trans s25)) (pl_tr.mpr ⟨p4,rfl,by rw [s5 _ _ e4]; simp⟩)
     · rintro ac H2 ⟨s2,_,ea2,hat⟩ p3 H3 f3 s3 e3
       walk_at "run"
       refine am9 (SqL.of e3) ?_
       intro p4 H4 f4 s4 e4
       walk_at "run"
       have hbl:(brsK m bs).length=acc.length:=by unfold brsK; simp only [List.length_mapIdx]; omega
       rw [← hbl,List.take_length] at hat
       have s14:=s1.trans (s2.trans (s3.trans s4))
       have hB4:BrsAt H4 (.ref p4) (brsK m bs):=at_tup0.mpr ⟨p4,_,rfl,e4,hat.same (s3.trans s4)⟩
       refine ⟨_,_,brsK m bs,.tup [.str "none"],rfl,hB4,bt3 T.d_NONE,by decide,fun v5 hv5=>?_⟩
       walk_at "run"
       refine a24 (SqT.of (s14 _ _ e)) (a04 (j:=1) rfl) ?_
       walk_at "run"
       have fin:∀ (v6:V) (p6:Pl),Pl.At H4 v6 p6→(fndT (brsK m bs) (.tup [.str "none"])).getD pl=p6→New H4 (.tup [.str "wait",.int n,.ref p4,v6]) Q:=fun v6 p6 h6 e6 p7 H7 f7 s7 e7=>by
        refine q _ _ (s14.trans s7) ?_
        show (Tr.tup [.str "wait",.int n,.tup ((brsK m bs).map brK),plT _]).At _ _ _
        refine at_tup0.mpr ⟨p7,_,rfl,e7,ats_cons0.mpr ⟨_,_,rfl,a42,ats_cons0.mpr ⟨_,_,rfl,a98,ats_cons0.mpr ⟨_,_,rfl,hB4.same s7,ats_cons0.mpr ⟨_,_,rfl,?_,ats_nil0.mpr rfl⟩⟩⟩⟩⟩
        rw [e6]
        exact pl_tr.mpr (h6.same s7)
       cases hf:fndB (brsK m bs) (.tup [.str "none"]) with
       | none =>
         rw [hf] at hv5
         obtain rfl:v5=.non:=hv5
         refine a26 rfl ?_
         walk_at "run"
         exact fin bv pl (hb.same s14) (by show (fndB (brsK m bs) _).getD pl=pl; rw [hf]; rfl)
       | some p6 =>
         rw [hf] at hv5
         obtain ⟨a5,rfl,ha5⟩:=hv5
         refine a25 (fun z=>nomatch z) ?_
         walk_at "run"
         exact fin _ p6 ⟨a5,rfl,ha5⟩ (by show (fndB (brsK m bs) _).getD pl=p6; rw [hf]; rfl)
def c75 (K:PySem.W.Frag):Sp:=fun vs H Q _=>∃ (v bv:V) (m:Nat) (pl:Pl) (x:Stm) (ln:Addr) (tn:List Str),vs=[v,bv,.int (m:Nat),.ref ln]∧SAt H v x∧x.kd tn∧Pl.At H bv pl∧H ln=some (.lst (a49 tn))∧∀ v' H',Same H H'→(a77 tn pl m x).tr.At H' v' []→Q v' H'
theorem af2 (T:Txt K mg t):FnOk P w K mg base CX0 3 t.a_kept_statement t.fd_kept_statement ["statement","behind","number","names"] (c75 K):=by
 have G_kept_wait:=as9 (P:=P) (w:=w) (base:=base) T
 refine T.f_kept_statement.F.ok sc_kept_statement (fun vs H Q E h=>?_) (fun cdv A outer s H vs Q E hr h=>?_)
 · obtain ⟨v,bv,m,pl,x,ln,tn,rfl,_⟩:=h
   rfl
 · obtain ⟨v,bv,m,pl,x,ln,tn,rfl,hx,hk,hb,hln,q⟩:=h
   refine ⟨_,(@a02 _ _ _ _ _ (@a14 _ _ 4 _ _ _ _ sc_kept_statement.nd rfl (by walk_at "o") (@a20 _ _ _ _ _ _ _ (a07 K) (pv 0) (@a03 _ _ _ _) (fun _ _=>rfl)) (by rfl) (by walk_at "o"))
    (@a02 _ _ _ _ _ (@a35 _ _ _ _ _ _ _ _ (@a16 _ _ _ _ _ _ _ _ a40 (pv 4) (@a15 _ _ _ _) (nomark _)) (@a05 _ _ _ (@a19 _ _ _ _ (@a12 _ _ _ _ _ (@a00 _ _ _ _ _ (@a15 _ _ _ _) (@a00 _ _ _ _ _ (@a20 _ _ _ _ _ _ _ (a07 K) (pv 0) (@a03 _ _ _ _) (fun _ _=>rfl)) (@a00 _ _ _ _ _ (pv 2) (@a00 _ _ _ _ _ (@a31 _ _ _ _ _ _ _ _ a32 (pv 2) (@a03 _ _ _ _)) (@a01 _) (by rfl)) (by rfl)) (by rfl)) (by rfl))))) (@a21 _))
    (@a02 _ _ _ _ _ (@a35 _ _ _ _ _ _ _ _ (@a16 _ _ _ _ _ _ _ _ a40 (pv 4) (@a15 _ _ _ _) (nomark _)) (@a05 _ _ _ (@a19 _ _ _ _ (@a18 _ _ _ _ _ _ _ _ _ _ _ _ _ _ _ _ G_kept_wait (hr.mono (by omega)) rfl T.f_kept_wait.m T.f_kept_wait.F.kp T.f_kept_wait.b .nil a28 (@a00 _ _ _ _ _ (pv 0) (@a00 _ _ _ _ _ (pv 1) (@a00 _ _ _ _ _ (pv 2) (@a01 _) (by rfl)) (by rfl)) (by rfl)) (by decide) (by rfl) (by rfl)))) (@a21 _))
    (@a02 _ _ _ _ _ (@a35 _ _ _ _ _ _ _ _ (@a16 _ _ _ _ _ _ _ _ a40 (pv 4) (@a15 _ _ _ _) (nomark _)) (@a05 _ _ _ (@a19 _ _ _ _ (@a12 _ _ _ _ _ (@a00 _ _ _ _ _ (@a15 _ _ _ _) (@a00 _ _ _ _ _ (pv 2) (@a01 _) (by rfl)) (by rfl))))) (@a21 _))
    (@a02 _ _ _ _ _ (@a35 _ _ _ _ _ _ _ _ (@a16 _ _ _ _ _ _ _ _ a40 (pv 4) (@a15 _ _ _ _) (nomark _)) (@a05 _ _ _ (@a19 _ _ _ _ (@a12 _ _ _ _ _ (@a00 _ _ _ _ _ (@a15 _ _ _ _) (@a00 _ _ _ _ _ (@aa7 _ K _ _ _ _ _ _ _ _ _ _ _ PySem.F.plainAttrs_list PySem.F.slot_list_index PySem.F.type_list_index (ar1 K) (pv 3) (@a00 _ _ _ _ _ (@a20 _ _ _ _ _ _ _ (a07 K) (pv 0) (@a03 _ _ _ _) (fun _ _=>rfl)) (@a01 _) (by rfl)) (by rfl) (by rfl) (by rfl) (by rfl) (by rfl) (by rfl)) (@a01 _) (by rfl)) (by rfl))))) (@a21 _))
    (@a05 _ _ _ (@a19 _ _ _ _ (pv 0)))))))),?_⟩
   obtain ⟨a,us,rfl,ha⟩:=b81 hx hk
   walk_at "go"
   refine a24 (SqT.of ha) (a04 (j:=0) rfl) ?_
   walk_at "run"
   by_cases w1:x.wd=Str.ofString "test"
   · refine a26 w1 ?_
     walk_at "run"
     obtain ⟨c,y,z,rfl⟩:=b82 hk w1
     obtain ⟨a,u1,u2,u3,hz,e,h2,h3,h4⟩:=b80 hx
     cases hz
     refine a24 (SqT.of e) (a04 (j:=1) rfl) ?_
     walk_at "run"
     intro p1 H1 f1 s1 e1
     refine q _ _ s1 ?_
     show (Tr.tup [.str "test",c.tr,.int (m:Nat),.int ((m+1:Nat):Int)]).At _ _ _
     exact at_tup0.mpr ⟨p1,_,rfl,e1,ats_cons0.mpr ⟨_,_,rfl,a42,ats_cons0.mpr ⟨_,_,rfl,h4.same s1,ats_cons0.mpr ⟨_,_,rfl,a98,ats_cons0.mpr ⟨_,_,rfl,at_int0.mpr (by simp),ats_nil0.mpr rfl⟩⟩⟩⟩⟩
   refine a25 w1 ?_
   walk_at "run"
   by_cases w2:x.wd=Str.ofString "wait"
   · refine a26 w2 ?_
     walk_at "run"
     obtain ⟨n,bs,rfl⟩:=b83 hk w2
     exact ⟨_,bv,m,pl,n,bs,tn,rfl,hx,hk,hb,q⟩
   refine a25 w2 ?_
   walk_at "run"
   by_cases w3:x.wd=Str.ofString "loop"
   · refine a26 w3 ?_
     walk_at "run"
     obtain ⟨b,rfl⟩:=av0 hk w3
     intro p1 H1 f1 s1 e1
     exact q _ _ s1 (a61 e1 a42 a98)
   refine a25 w3 ?_
   walk_at "run"
   by_cases w4:x.wd=Str.ofString "call"
   · refine a26 w4 ?_
     walk_at "run"
     obtain ⟨w',rfl,hw'⟩:∃ w',x=.plain [.s "call",.s w']∧w'∈tn:=by
      cases x with
      | plain ps =>
        rcases hk with ⟨w,rfl⟩ | ⟨l,w,rfl⟩ | ⟨w,rfl,hm⟩ | rfl | rfl | rfl | rfl
        all_goals first | exact ⟨w,rfl,hm⟩ | (simp only [Stm.wd] at w4; exact absurd w4 (by decide +kernel))
      | _=>simp only [Stm.wd] at w4; exact absurd w4 (by decide +kernel)
     obtain ⟨a',vs,hz,e,h2⟩:=at_tup0.mp (bl8 hx)
     cases hz
     obtain ⟨v1,u1,rfl,k1,h2⟩:=ats_cons0.mp h2
     obtain ⟨v2,u2,rfl,k2,h2⟩:=ats_cons0.mp h2
     obtain rfl:=ats_nil0.mp h2
     obtain rfl:=at_str0.mp k1
     obtain rfl:=at_str0.mp k2
     refine ah8 (SqL.of hln) ?_
     walk_at "run"
     refine a24 (SqT.of e) (a04 (j:=1) rfl) ?_
     walk_at "run"
     obtain ⟨j1,j2⟩:=cd3 hw'
     refine b54 (SqL.of hln) j1 j2 ?_
     walk_at "run"
     intro p1 H1 f1 s1 e1
     refine q _ _ s1 ?_
     rw [show a77 tn pl m (.plain [.s "call",.s w'])=.call (tn.idxOf w') by simp only [a77,plK]; rw [if_neg (by decide +kernel)]]
     exact a61 e1 a42 a98
   refine a25 w4 ?_
   walk_at "run"
   refine q _ _ (Same.refl _) ?_
   cases x with
   | plain ps =>
     have h0:=bl8 hx
     rcases hk with ⟨w,rfl⟩ | ⟨l,w,rfl⟩ | ⟨w,rfl,hm⟩ | rfl | rfl | rfl | rfl
     · rw [show a77 tn pl m (.plain [.s "say",.s w])=.say w by simp only [a77,plK]; rw [if_pos trivial]]
       exact h0
     · exact h0
     · exact absurd rfl w4
     · rw [show a77 tn pl m (.plain [.s "again"])=.again by simp only [a77,plK]; rw [if_pos trivial]]
       exact h0
     · rw [show a77 tn pl m (.plain [.s "leave"])=.leave by simp only [a77,plK]; rw [if_neg (by decide +kernel),if_pos trivial]]
       exact h0
     · rw [show a77 tn pl m (.plain [.s "back"])=.back by simp only [a77,plK]; rw [if_neg (by decide +kernel),if_neg (by decide +kernel),if_pos trivial]]
       exact h0
     · rw [show a77 tn pl m (.plain [.s "stop"])=.stop by simp only [a77,plK]; rw [if_neg (by decide +kernel),if_neg (by decide +kernel),if_neg (by decide +kernel)]]
       exact h0
   | put n e=>exact b79 hx
   | loop b=>exact absurd rfl w3
   | wait n bs=>exact absurd rfl w2
   | test c y z=>exact absurd rfl w1
def TkN (H:Hp) (v:V) (x:Str×List Stm):Prop:=∃ a u,v=.ref a∧H a=some (.tup [.str x.1,u])∧BAt H u x.2
theorem TkN.same {H H':Hp}{v:V}{x:Str×List Stm}(h:TkN H v x) (s:Same H H'):TkN H' v x:=by
 obtain ⟨a,u,h1,h2,h3⟩:=h
 exact ⟨a,u,h1,s _ _ h2,h3.same s⟩
structure KpOk (ts:List (Str×List Stm)) (N:Nat):Prop where
 len:(Qn (q0T ts) N).length=N
 le:N≤10000
 ok:∀ q∈Qn (q0T ts) N,q.1.length≤1000∧∀ s∈q.1,s.kd (ts.map (·.1))
def c76 (K:PySem.W.Frag) (CK:Addr):Sp:=fun vs H Q _=>∃ (lt:Addr) (tvs:List V) (ts:List (Str×List Stm)) (N:Nat),vs=[.ref lt]∧H lt=some (.lst tvs)∧Each (TkN H) tvs ts∧KpOk ts N∧∀ kl kvs H',Same H H'→H kl=none→H' kl=some (.lst kvs)→Each (KbAt CK H') kvs (kbL ts N)→Q (.ref kl) H'
theorem cd9 {C:Addr}{H:Hp}{x:KR}(h:KrAt C H x):KbAt C H (.ref x.o) ⟨x.q.2.1,x.q.2.2,x.st⟩:=by
 obtain ⟨dx,bv,us,h1,h2,h3,h4⟩:=h
 exact ⟨x.o,dx,bv,x.l,us,rfl,h1,h2,h3,h4⟩
theorem ak5 (T:Txt K mg t):FnOk P w K mg base CX0 4 t.a_kept_bodies t.fd_kept_bodies ["talks"] (c76 K t.c_KeptBody):=by
 have G_KeptBody___init__:=ab4 (P:=P) (w:=w) (base:=base) T
 have G_bodies_of:=as8 (P:=P) (w:=w) (base:=base) T
 have G_kept_statement:=af2 (P:=P) (w:=w) (base:=base) T
 refine T.f_kept_bodies.F.ok sc_kept_bodies (fun vs H Q E h=>?_) (fun cdv A outer s H vs Q E hr h=>?_)
 · obtain ⟨lt,tvs,ts,N,rfl,_⟩:=h
   rfl
 · obtain ⟨lt,tvs,ts,N,rfl,hlt,hts,hN,q⟩:=h
   refine ⟨_,(@a02 _ _ _ _ _ (b08 (i:=1) (Nt:=["talk"]) (Nf:=[]) (caps:=[]) rfl (a45 (sc:=a06 a46) rfl rfl (by decide +kernel) (by decide +kernel) (by decide +kernel) rfl (by decide +kernel)) (a39 K (pv 0)) (fun _ _ _ _ _=>(a29 (i:=0) (show (["talk"]:List Str).Nodup by decide +kernel) rfl (by walk_at "o"))) (fun _ _ _ _ _=>(@a44 _)) (fun _ _ _ _ _=>(@a20 _ _ _ _ _ _ _ (a07 K) (pv 0) (@a03 _ _ _ _) (fun _ _=>rfl))) sc_kept_bodies.nd rfl (by walk_at "o") rfl)
    (@a02 _ _ _ _ _ (b08 (i:=2) (Nt:=["talk"]) (Nf:=[]) (caps:=[]) rfl (a45 (sc:=a06 a46) rfl rfl (by decide +kernel) (by decide +kernel) (by decide +kernel) rfl (by decide +kernel)) (a39 K (pv 0)) (fun _ _ _ _ _=>(a29 (i:=0) (show (["talk"]:List Str).Nodup by decide +kernel) rfl (by walk_at "o"))) (fun _ _ _ _ _=>(@a44 _)) (fun _ _ _ _ _=>(@a20 _ _ _ _ _ _ _ (a07 K) (pv 0) (@a03 _ _ _ _) (fun _ _=>rfl))) sc_kept_bodies.nd rfl (by walk_at "o") rfl)
    (@a02 _ _ _ _ _ (b08 (i:=3) (Nt:=["talk"]) (Nf:=[]) (caps:=[]) rfl (a45 (sc:=a06 a46) rfl rfl (by decide +kernel) (by decide +kernel) (by decide +kernel) rfl (by decide +kernel)) (a39 K (pv 0)) (fun _ _ _ _ _=>(a29 (i:=0) (show (["talk"]:List Str).Nodup by decide +kernel) rfl (by walk_at "o"))) (fun _ _ _ _ _=>(@a44 _)) (fun _ _ _ _ _=>(at5 T.mk_KeptBody G_KeptBody___init__ (hr.mono (by omega)) rfl T.m_KeptBody T.f_KeptBody___init__.b .nil a28 (@a00 _ _ _ _ _ (@aj9 _ _ _ _) (@a00 _ _ _ _ _ (@a50 _ _ _) (@a01 _) (by rfl)) (by rfl)))) sc_kept_bodies.nd rfl (by walk_at "o") rfl)
    (@a02 _ _ _ _ _ (@a14 _ _ 4 _ _ _ _ sc_kept_bodies.nd rfl (by walk_at "o") (@a03 _ _ _ _) (by rfl) (by walk_at "o"))
    (@a02 _ _ _ _ _ (@ad3 _ _ _ _ _ _ PassesOwn.never (@a16 _ _ _ _ _ _ _ _ bc0 (pv 4) (@a37 _ _ _ _ _ _ _ _ _ (ac7 K) (by rfl) T.z_len ah6 (@a00 _ _ _ _ _ (pv 3) (@a01 _) (by rfl)) (by decide) (by decide) (by rfl) (by rfl)) (nomark _)) (@a02 _ _ _ _ _ (@a14 _ _ 5 _ _ _ _ sc_kept_bodies.nd rfl (by walk_at "o") (@a20 _ _ _ _ _ _ _ (a23 K) (pv 2) (pv 4) (fun _ _=>rfl)) (by rfl) (by walk_at "o"))
     (@a02 _ _ _ _ _ (@ap1 _ _ _ _ _ _ _ _ PassesOwn.never rfl (an1 K rfl T.z_enumerate (@a00 _ _ _ _ _ (pv 5) (@a01 _) (by rfl))) (a89 K (n:=2) rfl (a34 (a29 (i:=6) sc_kept_bodies.nd rfl (by walk_at "o")) (a34 (a29 (i:=7) sc_kept_bodies.nd rfl (by walk_at "o")) (@a81 _)))) (@a02 _ _ _ _ _ (@a14 _ _ 8 _ _ _ _ sc_kept_bodies.nd rfl (by walk_at "o") (@a12 _ _ _ _ _ (@a00 _ _ _ _ _ (pv 4) (@a00 _ _ _ _ _ (@a31 _ _ _ _ _ _ _ _ a32 (pv 6) (@a03 _ _ _ _)) (@a01 _) (by rfl)) (by rfl))) (by rfl) (by walk_at "o"))
      (@a02 _ _ _ _ _ (@a65 _ _ _ _ (@aa7 _ K _ _ _ _ _ _ _ _ _ _ _ PySem.F.plainAttrs_list PySem.F.slot_list_append PySem.F.type_list_append a66 (a47 K (@a20 _ _ _ _ _ _ _ (a23 K) (pv 3) (pv 4) (fun _ _=>rfl)) rfl) (@a00 _ _ _ _ _ (@a18 _ _ _ _ _ _ _ _ _ _ _ _ _ _ _ _ G_kept_statement (hr.mono (by omega)) rfl T.f_kept_statement.m T.f_kept_statement.F.kp T.f_kept_statement.b .nil a28 (@a00 _ _ _ _ _ (pv 7) (@a00 _ _ _ _ _ (pv 8) (@a00 _ _ _ _ _ (@a37 _ _ _ _ _ _ _ _ _ (ac7 K) (by rfl) T.z_len ah6 (@a00 _ _ _ _ _ (pv 3) (@a01 _) (by rfl)) (by decide) (by decide) (by rfl) (by rfl)) (@a00 _ _ _ _ _ (pv 1) (@a01 _) (by rfl)) (by rfl)) (by rfl)) (by rfl)) (by decide) (by rfl) (by rfl)) (@a01 _) (by rfl)) (by rfl) (by rfl) (by rfl) (by rfl) (by rfl) (by rfl)) (by rfl))
      (@a02 _ _ _ _ _ (@a14 _ _ 9 _ _ _ _ sc_kept_bodies.nd rfl (by walk_at "o") (@a18 _ _ _ _ _ _ _ _ _ _ _ _ _ _ _ _ G_bodies_of (hr.mono (by omega)) rfl T.f_bodies_of.m T.f_bodies_of.F.kp T.f_bodies_of.b .nil a28 (@a00 _ _ _ _ _ (pv 7) (@a01 _) (by rfl)) (by decide) (by rfl) (by rfl)) (by rfl) (by walk_at "o"))
      (@a02 _ _ _ _ _ (@a65 _ _ _ _ (@aa7 _ K _ _ _ _ _ _ _ _ _ _ _ PySem.F.plainAttrs_list PySem.F.slot_list_extend PySem.F.type_list_extend aq2 (pv 2) (@a00 _ _ _ _ _ (pv 9) (@a01 _) (by rfl)) (by rfl) (by rfl) (by rfl) (by rfl) (by rfl) (by rfl)) (by rfl))
      (@a05 _ _ _ (@a65 _ _ _ _ (@aa7 _ K _ _ _ _ _ _ _ _ _ _ _ PySem.F.plainAttrs_list PySem.F.slot_list_extend PySem.F.type_list_extend aq2 (pv 3) (@a00 _ _ _ _ _ (ah3 (Nt:=["each"]) (Nf:=["statement","behind"]) (caps:=[7,8]) rfl (a45 (sc:=a06 a46) rfl rfl (by decide +kernel) (by decide +kernel) (by decide +kernel) rfl (by decide +kernel)) (a39 K (pv 9)) (fun _ _ _ _ _=>(a29 (i:=0) (show (["each","statement","behind"]:List Str).Nodup by decide +kernel) rfl (by walk_at "o"))) (fun _ _ _ _ _=>(@a44 _)) (fun _ _ _ _ _=>(at5 T.mk_KeptBody G_KeptBody___init__ (hr.mono (by omega)) rfl T.m_KeptBody T.f_KeptBody___init__.b .nil a28 (@a00 _ _ _ _ _ (@a69 _ _ _ _ _ _ _ _ a40 (@a20 _ _ _ _ _ _ _ (a07 K) (pv 1) (@a03 _ _ _ _) (fun _ _=>rfl)) (@a15 _ _ _ _) (nomark _)) (@a00 _ _ _ _ _ (pv 2) (@a01 _) (by rfl)) (by rfl))))) (@a01 _) (by rfl)) (by rfl) (by rfl) (by rfl) (by rfl) (by rfl) (by rfl)) (by rfl))))))) (by intro _; rfl))
     (@a05 _ _ _ (@bi8 _ _ 4 _ _ _ _ _ _ sc_kept_bodies.nd rfl (by walk_at "o") (@a03 _ _ _ _) bi9 (by walk_at "o"))))))
    (@a05 _ _ _ (@a19 _ _ _ _ (pv 3)))))))),?_⟩
   have sl:(1000000:Nat)≤sizeLine:=le_line (Nat.le_refl _)
   have htl:tvs.length=ts.length:=hts.1
   have htN:ts.length≤N:=by
    have:=br9 (q0:=q0T ts) (Nat.zero_le N)
    rw [hN.len] at this
    simpa [Qn,q0T] using this
   have hNl:=hN.le
   walk_at "go"
   refine ⟨⟨_,SqL.of hlt⟩,a72 (xs:=tvs) (by omega) (fun i acc H'=>H=H'∧i≤tvs.length∧acc=a49 ((ts.map (·.1)).take i)) ⟨rfl,Nat.zero_le _,rfl⟩ (fun i acc H' ⟨e0,_,ea⟩=>⟨by rw [ea]; simp [a49]; omega,e0 ▸ SqL.of hlt⟩) ?_ ?_⟩
   · rintro i x acc H' hx ⟨rfl,hi,rfl⟩
     have hi':=(List.getElem?_eq_some_iff.mp hx).1
     obtain ⟨y,hy⟩:∃ y,ts[i]?=some y:=⟨_,List.getElem?_eq_getElem (by omega)⟩
     obtain ⟨a,u,rfl,ha,hb⟩:=hts.2 i x y hx hy
     walk_at "run"
     refine a24 (SqT.of ha) (a04 (j:=0) rfl) ?_
     exact ⟨rfl,hi',by rw [List.take_add_one,List.getElem?_map,hy]; simp [a49]⟩
   rintro acc H' ⟨rfl,_,rfl⟩ ln H1 f1 s1 e1
   rw [htl,show (ts.map (·.1)).take ts.length=ts.map (·.1) from List.take_of_length_le (by simp)] at e1
   walk_at "run"
   have hlt1:=s1 _ _ hlt
   refine ⟨⟨_,SqL.of hlt1⟩,a72 (xs:=tvs) (by omega) (fun i acc H'=>H1=H'∧i≤tvs.length∧acc.length=i∧Each (BAt H1) acc ((ts.map (·.2)).take i)) ⟨rfl,Nat.zero_le _,rfl,by simpa using Each.nil⟩ (fun i acc H' ⟨e0,_,ea,_⟩=>⟨by omega,e0 ▸ SqL.of hlt1⟩) ?_ ?_⟩
   · rintro i x acc H' hx ⟨rfl,hi,ea,hE⟩
     have hi':=(List.getElem?_eq_some_iff.mp hx).1
     obtain ⟨y,hy⟩:∃ y,ts[i]?=some y:=⟨_,List.getElem?_eq_getElem (by omega)⟩
     obtain ⟨a,u,rfl,ha,hb⟩:=(hts.2 i x y hx hy).same s1
     walk_at "run"
     refine a24 (SqT.of ha) (a04 (j:=1) rfl) ?_
     refine ⟨rfl,hi',by simp [ea],?_⟩
     rw [List.take_add_one,List.getElem?_map,hy]
     exact hE.snoc hb
   rintro bvs0 H' ⟨rfl,_,ea,hE0⟩ bd H2 f2 s2 e2
   rw [htl,show (ts.map (·.2)).take ts.length=ts.map (·.2) from List.take_of_length_le (by simp)] at hE0
   walk_at "run"
   refine ⟨⟨_,SqL.of (s2 _ _ hlt1)⟩,a72 (xs:=tvs) (by omega) (fun i acc H'=>i≤tvs.length∧acc.length=i∧∃ zs,acc=zs.map (fun x:KR=>V.ref x.o)∧NewK t.c_KeptBody H2 H' zs ((ts.map (·.2)).take i) false none) ⟨Nat.zero_le _,rfl,[],rfl,⟨rfl,fun j x e=>by simp at e,by simp,by simp,by simp,Same.refl _⟩⟩ (fun i acc H' ⟨_,ea,_,_,hz⟩=>⟨by omega,SqL.of (hz.s _ _ (s2 _ _ hlt1))⟩) ?_ ?_⟩
   · rintro i x acc H3 hx ⟨hi,ea,zs,rfl,hz⟩
     have hi':=(List.getElem?_eq_some_iff.mp hx).1
     obtain ⟨y,hy⟩:∃ y,ts[i]?=some y:=⟨_,List.getElem?_eq_getElem (by omega)⟩
     walk_at "run"
     intro o dx g1 g2 g3
     refine ⟨o,dx,false,.non,rfl,a17,fun l H5 k1 k2 k3 k4=>⟨rfl,?_⟩⟩
     have s35:Same H3 H5:=fun a ob e=>by
      have ao:a≠o:=fun z=>by rw [z,g1] at e; cases e
      have ad:a≠dx:=fun z=>by rw [z,g2] at e; cases e
      exact k4 _ _ (by rw [a09 ao,a09 ad]; exact e) ao
     have lo:l≠o:=fun z=>by rw [z,a17] at k1; cases k1
     have ld:l≠dx:=fun z=>by rw [z,a09 g3,a17] at k1; cases k1
     rw [a09 lo,a09 ld] at k1
     refine ⟨hi',by simpa using ea,zs++[⟨o,l,(y.2,false,none),[]⟩],by simp,?_⟩
     rw [List.take_add_one,List.getElem?_map,hy]
     exact hz.snoc s35 k1 k2 rfl k3
   rintro acc H3 ⟨_,ea,zs,rfl,hz⟩ kl H4 f4 s4 e4
   rw [htl,show (ts.map (·.2)).take ts.length=ts.map (·.2) from List.take_of_length_le (by simp)] at hz
   walk_at "run"
   have hz4:=hz.same s4
   have hq0:zs.map (·.q)=q0T ts:=by rw [hz.q,List.map_map]; rfl
   have hI0:KeepI t.c_KeptBody H1 H4 kl bd zs bvs0:=by
    have e24:=(hz.s.trans s4) _ _ e2
    have fz:∀ x∈zs,H1 x.l=none:=fun x hx=>s2.free (hz.fl x hx)
    refine ⟨e4,e24,by rw [show zs.map (·.q.1)=ts.map (·.2) by have:=congrArg (List.map Prod.fst) hz.q; simpa [List.map_map,Function.comp_def] using this]; exact hE0,hz4.a,hz.nd,fun x hx e=>?_,fun x hx e=>?_,fun e=>?_,(s2.trans hz.s).free f4,f2,fz,s2.trans (hz.s.trans s4)⟩
    · obtain ⟨j,hj⟩:=List.mem_iff_getElem?.mp hx
      obtain ⟨_,_,us,_,_,h3,_⟩:=hz.a j x hj
      rw [e,f4] at h3
      cases h3
    · have:=hz.fl x hx
      rw [e,e2] at this
      cases this
    · rw [e,hz.s _ _ e2] at f4
      cases f4
   have hkl0:H kl=none:=s1.free hI0.fk
   have hz0:=hz.st
   clear hz hz4 e2 e4 f2 f4 hE0
   obtain ⟨Pv,hPv⟩:∃ Pv:Nat→St→Hp→Prop,Pv=(fun m σ H5=>∃ (n:Nat) (ks:List KR) (bvs:List V) (y1 y2 y3 y4 y5:Option V),σ=[some (.ref lt),some (.ref ln),some (.ref bd),some (.ref kl),some (.int (n:Nat)),y1,y2,y3,y4,y5]∧KeepI t.c_KeptBody H1 H5 kl bd ks bvs∧ks.map (·.q)=Qn (q0T ts) n∧(∀ (j:Nat) x,ks[j]?=some x→x.st=if j<n then a99 (ts.map (·.1)) j 0 (Qn (q0T ts) j).length x.q.1 else [])∧n≤N∧m=N - n):=⟨_,rfl⟩
   refine ah9 Pv N (by rw [hPv]; exact ⟨0,zs,bvs0,_,_,_,_,_,rfl,hI0,hq0,fun j x e=>by rw [if_neg (Nat.not_lt_zero _)]; exact hz0 x (List.mem_of_getElem? e),Nat.zero_le _,rfl⟩) ?_
   intro m σ H5 hI
   rw [hPv] at hI
   obtain ⟨n,ks,bvs,y1,y2,y3,y4,y5,rfl,hI,hkq,hst,hnN,rfl⟩:=hI
   have hkl:ks.length=(Qn (q0T ts) n).length:=by rw [← hkq,List.length_map]
   have hkN:ks.length≤N:=by rw [hkl,←hN.len]; exact br9 hnN
   walk_at "run"
   refine al7 (SqL.of hI.k) ?_
   rw [List.length_map]
   walk_at "run"
   rcases Nat.lt_or_ge n ks.length with hlt' | hge
   rotate_left
   · refine a25 (by omega) ?_
     walk_at "run"
     have hnn:n=N:=c58 (by omega) hnN hN.len
     subst hnn
     refine q kl _ H5 (s1.trans hI.s) hkl0 hI.k ?_
     refine ⟨by unfold kbL; simp [hkl],fun j v b e1 e2=>?_⟩
     rw [List.getElem?_map] at e1
     obtain ⟨x,hx,rfl⟩:=Option.map_eq_some_iff.mp e1
     have hjl:=(List.getElem?_eq_some_iff.mp hx).1
     unfold kbL at e2
     rw [List.getElem?_mapIdx,←hkq,List.getElem?_map,hx] at e2
     obtain rfl:=Option.some.inj e2
     have h1:=cd9 (hI.a j x hx)
     rw [hst j x hx,if_pos (by have:=hN.len; omega)] at h1
     exact h1
   refine a26 (by omega) ?_
   refine ⟨fun σ' H6=>∃ m',m'<N - n∧Pv m' σ' H6,fun σ' H6 h'=>h',?_⟩
   have hnN':n<N:=by omega
   obtain ⟨x0,hx0⟩:∃ x0,ks[n]?=some x0:=⟨_,List.getElem?_eq_getElem hlt'⟩
   have hqn:(Qn (q0T ts) n)[n]?=some x0.q:=by rw [← hkq,List.getElem?_map,hx0]; rfl
   obtain ⟨bl1,bl2⟩:=hN.ok x0.q (List.mem_of_getElem? (c57 hnN hqn))
   obtain ⟨bv,hbv,hB⟩:=hI.e.get (show (ks.map (·.q.1))[n]?=some x0.q.1 by rw [List.getElem?_map,hx0]; rfl)
   obtain ⟨lb,sus,rfl,elb,hEs⟩:=bat_iff.mp hB
   have hsl:sus.length=x0.q.1.length:=hEs.1
   walk_at "run"
   refine a48 (SqL.of hI.b) (a04 hbv) ?_
   walk_at "run"
   have hst0:x0.st=[]:=by rw [hst n x0 hx0,if_neg (Nat.lt_irrefl _)]
   have hQl:(Qn (q0T ts) n).length≤N:=by rw [← hN.len]; exact br9 hnN
   have hQn1:Qn (q0T ts) (n+1)=Qn (q0T ts) n++newQ n 0 x0.q.1:=by
    show Qn (q0T ts) n++(match (Qn (q0T ts) n)[n]? with | none=>[] | some q=>newQ n 0 q.1)=_
    rw [hqn]
   have hnq:∀ i,(Qn (q0T ts) n++newQ n 0 (x0.q.1.take i)).length≤20000000∧(i≤x0.q.1.length→(newQ n 0 (x0.q.1.take i)).length≤1000*i):=fun i=>by
    have:∀ (l:List Stm) (k:Nat),(∀ s∈l,s.kd (ts.map (·.1)))→(newQ n k l).length≤1000*l.length:=by
     intro l
     induction l with
     | nil=>intro k _; simp [newQ]
     | cons s r ih =>
       intro k hs
       simp only [newQ,List.length_append,List.length_map,List.length_cons]
       have h1:=c55 (hs s (by simp))
       have h2:=ih (k+1) fun y hy=>hs y (by simp [hy])
       omega
    have h3:=this (x0.q.1.take i) 0 fun s hs=>bl2 s (List.mem_of_mem_take hs)
    have h4:(x0.q.1.take i).length≤1000:=by simp; omega
    refine ⟨by rw [List.length_append]; omega,fun hi=>?_⟩
    rw [List.length_take,Nat.min_eq_left hi] at h3
    exact h3
   refine ⟨⟨_,SqL.of (hI.s _ _ elb)⟩,be8 (K:=K) (a:=lb) (xs:=sus) (fun i σ H6=>∃ (ks2:List KR) (bvs2:List V) (y2 y3 y4 y5:Option V),σ=[some (.ref lt),some (.ref ln),some (.ref bd),some (.ref kl),some (.int (n:Nat)),some (.ref lb),y2,y3,y4,y5]∧KeepI t.c_KeptBody H1 H6 kl bd ks2 bvs2∧ks2.map (·.q)=Qn (q0T ts) n++newQ n 0 (x0.q.1.take i)∧(∀ (j:Nat) x,ks2[j]?=some x→x.st=if j<n then a99 (ts.map (·.1)) j 0 (Qn (q0T ts) j).length x.q.1 else if j=n then a99 (ts.map (·.1)) n 0 (Qn (q0T ts) n).length (x0.q.1.take i) else [])∧i≤sus.length) ⟨ks,bvs,_,_,_,_,rfl,hI,by rw [hkq]; simp [newQ],fun j x e=>?_,Nat.zero_le _⟩ (fun i σ H6 _ zz=>by obtain ⟨_,_,_,_,_,_,_,h',_⟩:=zz; exact SqL.of (h'.s _ _ elb)) ?_ ?_⟩
   · rw [hst j x e]
     split
     · rfl
     · split
       · simp [a99]
       · rfl
   · rintro i sv σ H6 pq H7 hsv ⟨ks2,bvs2,y2,y3,y4,y5,rfl,hI2,hq2,hst2,hi⟩ s7 e7
     have hi':=(List.getElem?_eq_some_iff.mp hsv).1
     obtain ⟨x,hx⟩:∃ x,x0.q.1[i]?=some x:=⟨_,List.getElem?_eq_getElem (by omega)⟩
     have hkd:=bl2 x (List.mem_of_getElem? hx)
     have hsx:SAt H1 sv x:=hEs.2 i sv x hsv hx
     have htk:x0.q.1.take (i+1)=x0.q.1.take i++[x]:=by rw [List.take_add_one,hx]; rfl
     have hk2:ks2.length=(Qn (q0T ts) n).length+(newQ n 0 (x0.q.1.take i)).length:=by rw [← List.length_append,←hq2,List.length_map]
     have hnl:n<ks2.length:=by omega
     obtain ⟨x2,hx2⟩:∃ x2,ks2[n]?=some x2:=⟨_,List.getElem?_eq_getElem hnl⟩
     have hx2q:x2.q=x0.q:=by
      have h1:(ks2.map (·.q))[n]?=some x2.q:=by rw [List.getElem?_map,hx2]; rfl
      rw [hq2,List.getElem?_append_left (by omega),hqn] at h1
      exact (Option.some.inj h1).symm
     have hx2s:=hst2 n x2 hx2
     rw [if_neg (Nat.lt_irrefl _),if_pos rfl] at hx2s
     obtain ⟨hq3,hq4⟩:=hnq i
     have hq4:=hq4 (by omega)
     refine ⟨_,_,rfl,SqT.of e7,rfl,?_⟩
     walk_at "run"
     intro pb H8 f8 s8 e8
     walk_at "run"
     have hI8:=hI2.same (s7.trans s8)
     obtain ⟨odx,obv,ous,k1,k2,k3,k4⟩:=hI8.a n x2 hx2
     refine a48 (SqL.of hI8.k) (a04 (j:=n) (v:=.ref x2.o) (by rw [List.getElem?_map,hx2]; rfl)) ?_
     walk_at "run"
     refine ⟨x2.o,_,odx,_,_,rfl,k1,T.cl_KeptBody,T.n_KeptBody_statements,a73 _ _ _,?_⟩
     walk_at "run"
     refine ah8 (SqL.of k3) ?_
     walk_at "run"
     refine al7 (SqL.of hI8.k) ?_
     rw [List.length_map]
     walk_at "run"
     have hpb:Pl.At H8 (.ref pb) (n,i+1):=⟨pb,rfl,by rw [e8]; simp⟩
     refine ⟨sv,_,ks2.length,(n,i+1),x,ln,_,rfl,hsx.same hI8.s,hkd,hpb,hI8.s _ _ e1,fun v9 H9 s9 hv9=>?_⟩
     walk_at "run"
     have hI9:=hI8.same s9
     have k3':=s9 _ _ k3
     have k4':=k4.same s9
     have hol:ous.length=x2.st.length:=by rw [k4.len,List.length_map]
     have hol2:x2.st.length≤1000:=by rw [hx2s,as0,List.length_take]; omega
     refine a91 k3' (by omega) ?_
     walk_at "run"
     have hI10:=hI9.put hx2 k3' k4' hv9
     have hpb10:Pl.At (upd H9 x2.l (.lst (ous++[v9]))) (.ref pb) (n,i+1):=⟨pb,rfl,(Tups.upd k3') _ _ (by rw [s9 _ _ e8]; simp)⟩
     generalize hks3:ks2.set n { x2 with st:=x2.st++[a77 (ts.map (·.1)) (n,i+1) ks2.length x] }=ks3 at hI10
     have hks3l:ks3.length=ks2.length:=by rw [← hks3,List.length_set]
     generalize upd H9 x2.l (.lst (ous++[v9]))=H10 at hI10 hpb10
     walk_at "run"
     refine ⟨sv,x,H1,_,rfl,hI10.s,hsx,hkd,fun p11 us11 H11 f11 s11 e11 hE11=>?_⟩
     walk_at "run"
     have hI11:=hI10.same s11
     have hul:us11.length=(a43 x).length:=hE11.1
     have hbl:=c55 hkd
     have hbvl:bvs2.length=ks2.length:=by rw [hI2.e.1,List.length_map]
     refine ah8 (SqL.of hI11.b) ?_
     walk_at "run"
     have hsz:(16000100:Nat)≤sizeLine:=by decide
     refine ax1 hI11.b e11 (by omega) ?_
     walk_at "run"
     have hp11:p11≠bd:=fun z=>by rw [z,hI10.b] at f11; cases f11
     have hkb:upd H11 bd (.lst (bvs2++us11)) kl=some (.lst (ks3.map fun x=>V.ref x.o)):=by rw [a09 hI11.ne]; exact hI11.k
     refine ah8 (SqL.of hkb) ?_
     walk_at "run"
     have e12:upd H11 bd (.lst (bvs2++us11)) p11=some (.lst us11):=by rw [a09 hp11]; exact e11
     have tU:Tups H11 (upd H11 bd (.lst (bvs2++us11))):=Tups.upd hI11.b
     obtain ⟨sa,sus',rfl,hsa⟩:=b81 hsx hkd
     have hsaU:=tU _ _ (hI11.s _ _ hsa)
     have hpbU:Pl.At (upd H11 bd (.lst (bvs2++us11))) (.ref pb) (n,i+1):=by
      obtain ⟨a,z1,z2⟩:=hpb10
      exact ⟨a,z1,tU _ _ (s11 _ _ z2)⟩
     refine ⟨⟨_,SqL.of e12⟩,a72 (xs:=us11) (by omega) (fun r acc H'=>r≤us11.length∧acc.length=r∧∃ zs,acc=zs.map (fun x:KR=>V.ref x.o)∧NewK t.c_KeptBody (upd H11 bd (.lst (bvs2++us11))) H' zs ((a43 x).take r) x.isL (some (n,i+1))) ⟨Nat.zero_le _,rfl,[],rfl,⟨rfl,fun j x e=>by simp at e,by simp,by simp,by simp,Same.refl _⟩⟩ (fun r acc H' ⟨_,ea,_,_,hz⟩=>⟨by omega,SqL.of (hz.s _ _ e12)⟩) ?_ ?_⟩
     · rintro r y acc H13 hy ⟨hr1,ea,zs,rfl,hz⟩
       have hr2:=(List.getElem?_eq_some_iff.mp hy).1
       obtain ⟨by',hby⟩:∃ b,(a43 x)[r]?=some b:=⟨_,List.getElem?_eq_getElem (by omega)⟩
       walk_at "run"
       refine a24 (SqT.of (hz.s _ _ hsaU)) (a04 (j:=0) rfl) ?_
       walk_at "run"
       intro o dx g1 g2 g3
       refine ⟨o,dx,_,_,rfl,a17,fun l H15 k1 k2 k3 k4=>⟨rfl,?_⟩⟩
       rw [← c56 hkd] at k2
       have s35:Same H13 H15:=fun a ob e=>by
        have ao:a≠o:=fun z=>by rw [z,g1] at e; cases e
        have ad:a≠dx:=fun z=>by rw [z,g2] at e; cases e
        exact k4 _ _ (by rw [a09 ao,a09 ad]; exact e) ao
       have lo:l≠o:=fun z=>by rw [z,a17] at k1; cases k1
       have ld:l≠dx:=fun z=>by rw [z,a09 g3,a17] at k1; cases k1
       rw [a09 lo,a09 ld] at k1
       refine ⟨hr2,by simpa using ea,zs++[⟨o,l,(by',x.isL,some (n,i+1)),[]⟩],by simp,?_⟩
       rw [List.take_add_one,hby]
       exact hz.snoc s35 k1 k2 (hpbU.same (hz.s.trans s35)) k3
     rintro acc H13 ⟨_,ea,zs,rfl,hz⟩ p14 H14 f14 s14 e14
     rw [hul,List.take_length] at hz
     walk_at "run"
     have hz14:=hz.same s14
     have hkl14:=hz14.s _ _ hkb
     have hzl:zs.length=(a43 x).length:=by have:=congrArg List.length hz.q; simpa using this
     refine ax1 hkl14 e14 (by simp only [List.length_map]; omega) ?_
     walk_at "run"
     have hI15:=hI11.app hE11 hz14
     rw [List.map_append] at hI15
     refine ⟨ks3++zs,_,_,_,_,_,rfl,hI15,?_,fun j z e=>?_,hi'⟩
     · rw [List.map_append,hz.q,htk,ar9,←hks3,←List.append_assoc]
       congr 1
       · rw [← hq2]
         apply List.ext_getElem?
         intro j
         rw [List.getElem?_map,List.getElem?_map,List.getElem?_set]
         split
         · rename_i hj
           subst hj
           rw [hx2]
           rfl
         · rfl
       · rw [List.length_take,Nat.min_eq_left (by omega),Nat.zero_add]
     · rcases Nat.lt_or_ge j ks3.length with hj | hj
       · rw [List.getElem?_append_left hj,←hks3,List.getElem?_set] at e
         by_cases hjn:n=j
         · subst hjn
           rw [if_pos rfl,if_pos hnl] at e
           obtain rfl:=Option.some.inj e
           rw [if_neg (Nat.lt_irrefl _),if_pos rfl,htk,al9,hx2s,←hk2,List.length_take,Nat.min_eq_left (by omega),Nat.zero_add]
         · rw [if_neg hjn] at e
           rw [hst2 j z e]
           split
           · rfl
           · rw [if_neg (fun z=>hjn z.symm),if_neg (fun z=>hjn z.symm)]
       · rw [List.getElem?_append_right hj] at e
         rw [hz.st z (List.mem_of_getElem? e),if_neg (by omega),if_neg (by omega)]
   · rintro σ H6 ⟨ks2,bvs2,y2,y3,y4,y5,rfl,hI2,hq2,hst2,hi⟩
     rw [hsl,List.take_length] at hq2 hst2
     walk_at "run"
     refine bk2 rfl ?_
     rw [hPv]
     refine ⟨N - (n+1),by omega,n+1,ks2,bvs2,_,_,_,_,_,rfl,hI2,by rw [hQn1]; exact hq2,fun j x e=>?_,by omega,rfl⟩
     rw [hst2 j x e]
     by_cases h1:j<n
     · rw [if_pos h1,if_pos (by omega)]
     · rw [if_neg h1]
       by_cases h2:j=n
       · subst h2
         have h3:x.q=x0.q:=by
          have h4:(ks2.map (·.q))[j]?=some x.q:=by rw [List.getElem?_map,e]; rfl
          rw [hq2,List.getElem?_append_left (by omega),hqn] at h4
          exact (Option.some.inj h4).symm
         rw [if_pos rfl,if_pos (by omega),h3]
       · rw [if_neg h2,if_neg (by omega)]
def bu8 (K:PySem.W.Frag) (C CK:Addr):Sp:=fun vs H Q _=>∃ (p dx sp lb lt:Addr) (bvs tvs:List V) (bs:List (Str×Int)) (ts:List (Str×List Stm)) (N:Nat),vs=[.ref p,.ref sp]∧H p=some (.ins C dx [])∧H sp=some (.tup [.ref lb,.ref lt])∧H lb=some (.lst bvs)∧Each (BxAt H) bvs bs∧H lt=some (.lst tvs)∧Each (TkN H) tvs ts∧KpOk ts N ∧
 ∀ H',TeAt C CK H' p bs (kbL ts N)→(∀ x o,H x=some o→x≠p→H' x=some o)→Q .non H'
theorem ae5 (T:Txt K mg t):FnOk P w K mg base CX0 5 t.a_Teller___init__ t.fd_Teller___init__ ["self","script"] (bu8 K t.c_Teller t.c_KeptBody):=by
 have G_kept_bodies:=ak5 (P:=P) (w:=w) (base:=base) T
 refine T.f_Teller___init__.F.ok ae4 (fun vs H Q E h=>?_) (fun cdv A outer s H vs Q E hr h=>?_)
 · obtain ⟨p,dx,sp,lb,lt,bvs,tvs,bs,ts,N,rfl,_⟩:=h
   rfl
 · obtain ⟨p,dx,sp,lb,lt,bvs,tvs,bs,ts,N,rfl,hp,hsp,hlb,hbs,hlt,hts,hN,q⟩:=h
   refine ⟨_,(@a02 _ _ _ _ _ (ai1 K (pv 0) (@a41 _ _ _ _ _ _ _ _ _ (ag1 K) (by rfl) T.z_list ah7 (@a00 _ _ _ _ _ (@a20 _ _ _ _ _ _ _ (a07 K) (pv 1) (@a03 _ _ _ _) (fun _ _=>rfl)) (@a01 _) (by rfl)) (by decide) (by decide) (by rfl) (by rfl)) rfl)
    (@a05 _ _ _ (ai1 K (pv 0) (@a18 _ _ _ _ _ _ _ _ _ _ _ _ _ _ _ _ G_kept_bodies (hr.mono (by omega)) rfl T.f_kept_bodies.m T.f_kept_bodies.F.kp T.f_kept_bodies.b .nil a28 (@a00 _ _ _ _ _ (@a20 _ _ _ _ _ _ _ (a07 K) (pv 1) (@a03 _ _ _ _) (fun _ _=>rfl)) (@a01 _) (by rfl)) (by decide) (by rfl) (by rfl)) rfl))),?_⟩
   walk_at "go"
   refine a24 (SqT.of hsp) (a04 (j:=0) rfl) ?_
   walk_at "run"
   refine am8 (SqL.of hlb) ?_
   intro pl H1 f1 s1 e1
   walk_at "run"
   refine ⟨p,_,dx,_,rfl,s1 _ _ hp,T.cl_Teller,T.n_Teller_boxes,by decide,?_⟩
   walk_at "run"
   have e2:upd H1 p (.ins t.c_Teller dx (putF "boxes" (.ref pl) [])) p=some (.ins t.c_Teller dx (putF "boxes" (.ref pl) [])):=a17
   have k2:∀ x o,H x=some o→x≠p→upd H1 p (.ins t.c_Teller dx (putF "boxes" (.ref pl) [])) x=some o:=fun x o e z=>by rw [a09 z]; exact s1 _ _ e
   have hpp:pl≠p:=(a27 hp f1).symm
   have e3:upd H1 p (.ins t.c_Teller dx (putF "boxes" (.ref pl) [])) pl=some (.lst bvs):=by rw [a09 hpp]; exact e1
   generalize upd H1 p (.ins t.c_Teller dx (putF "boxes" (.ref pl) []))=H2 at e2 k2 e3
   have np:∀ {x:Addr}{o:HO},H x=some o→(∀ C dx fs,o≠.ins C dx fs)→H2 x=some o:=fun e z=>k2 _ _ e (aj8 e hp (z _ _ _))
   have nt:∀ {x:Addr}{ys:List V},H x=some (.tup ys)→H2 x=some (.tup ys):=fun e=>np e (fun _ _ _ z=>nomatch z)
   have nl:∀ {x:Addr}{ys:List V},H x=some (.lst ys)→H2 x=some (.lst ys):=fun e=>np e (fun _ _ _ z=>nomatch z)
   refine a24 (SqT.of (nt hsp)) (a04 (j:=1) rfl) ?_
   walk_at "run"
   refine ⟨lt,tvs,ts,N,rfl,nl hlt,hts.mono fun v x z=>?_,hN,fun kl kvs H3 s3 f3 e4 hE=>?_⟩
   · obtain ⟨a,u,z1,z2,fs,z3⟩:=z
     exact ⟨a,u,z1,nt z2,fs,z3.mono ⟨fun b ys e=>nt e,fun a _ xs e=>nl e⟩⟩
   walk_at "run"
   have e5:=s3 _ _ e2
   refine ⟨p,_,dx,_,rfl,e5,T.cl_Teller,T.n_Teller_bodies,(by have h1:=a57 "boxes" (V.ref pl) []; rw [List.length_nil] at h1; omega),?_⟩
   have nt3:Tups H3 (upd H3 p (.ins t.c_Teller dx (putF "bodies" (.ref kl) (putF "boxes" (.ref pl) [])))):=b70 e5
   have nl3:∀ {x:Addr}{ys:List V},H3 x=some (.lst ys)→upd H3 p (.ins t.c_Teller dx (putF "bodies" (.ref kl) (putF "boxes" (.ref pl) []))) x=some (.lst ys):=fun e=>by rw [a09 (aj8 e e5 (fun z=>nomatch z))]; exact e
   refine q _ ⟨dx,pl,kl,bvs,kvs,a17,nl3 (s3 _ _ e3),hbs.mono fun v b z=>?_,nl3 e4,hE.mono fun v b z=>?_⟩ fun x o e hx=>by rw [a09 hx]; exact s3 _ _ (k2 x o e hx)
   · obtain ⟨a,z1,z2⟩:=z
     exact ⟨a,z1,nt3 _ _ (s3 _ _ (nt z2))⟩
   · obtain ⟨o,odx,bv,l,us,z1,z2,z3,z4,z5⟩:=z
     have ho:o≠p:=fun z=>by
      rw [z,e5] at z2
      injection z2 with z2
      injection z2 with c1 c2 c3
      have h1:=congrArg (fun fs=>List.lookup (Str.ofString "loops") fs) c3
      rw [show List.lookup (Str.ofString "loops") (kbS (.bl b.lp) bv (.ref l))=some (.bl b.lp) from ai4 _ _ _,a30,if_neg (by decide +kernel)] at h1
      cases h1
     exact ⟨o,odx,bv,l,us,z1,by rw [a09 ho]; exact z2,z3.tups nt3,nl3 z4,z5.mono ⟨nt3,fun a ha=>by simp at ha⟩⟩
structure StPre (K:PySem.W.Frag) (C CK:Addr) (H:Hp) (p ev:Addr) (us:List V) (bs:List (Str×Int)) (kb:List KB) (es:List Tr) (n:Nat) (ok:Option Std→Prop) (st:Option Std→Tr→List Str×Option Std) (sd0:List Str) (r0:Option Std):Prop where
 te:TeAt C CK H p bs kb
 kok:KOk bs kb
 hev:H ev=some (.lst us)
 hes:Tr.AtsK K H es us
 heh:∀ e∈es,e.h≤5
 hel:es.length≤100
 hn:n≤900000
 b0:tgoF kb bs n (some (0,0)) [] (List.replicate bs.length 0)=some (sd0,r0)
 k0:ok r0
 hkb:∀ r,ok r→∀ x,r=some x→x.2.2.1.length=bs.length∧x.2.1.length+n≤900000
 hks:∀ r,ok r→∀ e∈es,as7 kb bs n r e=some (st r e)∧ok (st r e).2
theorem StPre.same {K:PySem.W.Frag}{C CK:Addr}{H H':Hp}{p ev:Addr}{us:List V}{bs:List (Str×Int)}{kb:List KB}{es:List Tr}{n:Nat}{ok:Option Std→Prop}{st:Option Std→Tr→List Str×Option Std}{sd0:List Str}{r0:Option Std}(h:StPre K C CK H p ev us bs kb es n ok st sd0 r0) (s:Same H H'):StPre K C CK H' p ev us bs kb es n ok st sd0 r0 :=
 ⟨h.te.same s,h.kok,s _ _ h.hev,h.hes.mono s.tups,h.heh,h.hel,h.hn,h.b0,h.k0,h.hkb,h.hks⟩
def nxL (es:List Tr) (st:Option Std→Tr→List Str×Option Std) (r:Option Std):List (Option Std):=es.map fun e=>(st r e).2
def srS (es:List Tr) (st:Option Std→Tr→List Str×Option Std) (r0:Option Std):Option (List (Option Std)):=srL (nxL es st) 2000 2001 0 [r0]
def FdAt (H:Hp) (v:V) (r:Option Std):Prop:=∃ k sv,v=.ref k∧H k=some (.tup [sv,.bl r.isNone])∧StdAt H sv r
theorem ao2 {K:PySem.W.Frag}{H:Hp}:∀ {xs:List Tr}{vs:List V},Tr.AtsK K H xs vs→∀ {i:Nat}{v:V},vs[i]?=some v→∃ x,xs[i]?=some x∧x.AtK K H v
 | [],vs,h,i,v,e=>by
   simp only [Tr.AtsK] at h
   subst h
   simp at e
 | x::xs,vs,h,i,v,e=>by
   simp only [Tr.AtsK] at h
   obtain ⟨v',ws,rfl,h1,h2⟩:=h
   cases i with
   | zero=>simp at e; subst e; exact ⟨x,rfl,h1⟩
   | succ i=>simpa using ao2 h2 (by simpa using e)
theorem ao3 {K:PySem.W.Frag}{H:Hp}:∀ {xs:List Tr}{vs:List V},Tr.AtsK K H xs vs→vs.length=xs.length
 | [],vs,h=>by
   simp only [Tr.AtsK] at h
   subst h
   rfl
 | x::xs,vs,h=>by
   simp only [Tr.AtsK] at h
   obtain ⟨v',ws,rfl,h1,h2⟩:=h
   simp [ao3 h2]
theorem aj2 {H H':Hp}{v:V}{r:Option Std}(h:FdAt H v r) (s:Same H H'):FdAt H' v r:=by
 obtain ⟨k,sv,h1,h2,h3⟩:=h
 exact ⟨k,sv,h1,s _ _ h2,h3.same s⟩
def bi2 (K:PySem.W.Frag):Sp:=fun vs H Q _=>∃ (u sv:V) (r:Option Std),vs=[u,sv]∧StdAt H sv r∧Q (.bl r.isNone) H
theorem ak6 (T:Txt K mg t):FnOk P w K mg base CX0 1 t.a_Teller_over t.fd_Teller_over ["self","standing"] (bi2 K):=by
 refine T.f_Teller_over.F.ok ak4 (fun vs H Q E h=>?_) (fun cdv A outer s H vs Q E hr h=>?_)
 · obtain ⟨u,sv,r,rfl,_⟩:=h
   rfl
 · obtain ⟨u,sv,r,rfl,hs,q⟩:=h
   refine ⟨_,(@a05 _ _ _ (@a19 _ _ _ _ (@a69 _ _ _ _ _ _ _ _ ac8 (pv 1) (@a50 _ _ _) (nomark _)))),?_⟩
   walk_at "go"
   cases r with
   | none =>
     obtain rfl:sv=.non:=hs
     exact q
   | some x =>
     obtain ⟨k,stk,ws,lf⟩:=x
     obtain ⟨sa,pv,ps,pa,rfl,_⟩:=hs
     exact q
theorem ag2 {H H':Hp}{v:V}{r:Option Std}(h:StdAt H v r) (s:Tups H H'):StdAt H' v r:=by
 cases r with
 | none=>exact h
 | some x =>
   obtain ⟨p,stk,ws,l⟩:=x
   obtain ⟨q,pv,ps,pa,h0,h1,⟨a,h2,h2'⟩,⟨us,h3,h4⟩,h5⟩:=h
   exact ⟨q,pv,ps,pa,h0,s _ _ h1,⟨a,h2,s _ _ h2'⟩,⟨us,s _ _ h3,h4.mono fun _ _ z=>by obtain ⟨b,z1,z2⟩:=z; exact ⟨b,z1,s _ _ z2⟩⟩,s _ _ h5⟩
theorem b97 {es:List Tr}{st:Option Std→Tr→List Str×Option Std}{k:Option Std}{j:Nat}{e:Tr}(h:es[j]?=some e):(nxL es st k)[j]?=some (st k e).2:=by
 unfold nxL
 rw [List.getElem?_map,h]
 rfl
def bu9 (K:PySem.W.Frag) (C CK Cx:Addr):Sp:=fun vs H Q E=>∃ (p ev:Addr) (us:List V) (bs:List (Str×Int)) (kb:List KB) (es:List Tr) (n:Nat) (ok:Option Std→Prop) (st:Option Std→Tr→List Str×Option Std) (sd0:List Str) (r0:Option Std),vs=[.ref p,.ref ev]∧StPre K C CK H p ev us bs kb es n ok st sd0 r0 ∧
 (∀ row,srS es st r0=some row→(∀ r∈row,ok r)→row.length≤2000→∀ pf ws H',H pf=none→Same H H'→H' pf=some (.lst ws)→Each (FdAt H') ws row→Q (.ref pf) H') ∧
 (srS es st r0=none→∀ H',Same H H'→E (.ref Cx) none H')
theorem af4 (T:Txt K mg t):FnOk P w K mg base (CXE P w t.c_TooMany) 19 t.a_standings t.fd_standings ["machine","events"] (bu9 K t.c_Teller t.c_KeptBody t.c_TooMany):=by
 have G_Teller_begin:=ab0 (P:=P) (w:=w) (base:=base) T
 have G_Teller_over:=ak6 (P:=P) (w:=w) (base:=base) T
 have G_Teller_step:=ac0 (P:=P) (w:=w) (base:=base) T
 refine T.f_standings.F.okE sc_standings (fun vs H Q E h=>?_) (fun cdv A outer s H vs Q E hr h=>?_)
 · obtain ⟨p,ev,us,bs,kb,es,n,ok,st,sd0,r0,rfl,_⟩:=h
   rfl
 · obtain ⟨p,ev,us,bs,kb,es,n,ok,st,sd0,r0,rfl,hP,q,qe⟩:=h
   refine ⟨_,(@a02 _ _ _ _ _ (@a14 _ _ 2 _ _ _ _ sc_standings.nd rfl (by walk_at "o") (@a22 _ _ _ _ (@a00 _ _ _ _ _ (@a20 _ _ _ _ _ _ _ (a07 K) (aw4 (pv 0) T.cl_Teller T.f_Teller_begin.M G_Teller_begin (hr.mono (by omega)) T.f_Teller_begin.b .nil a28) (@a03 _ _ _ _) (fun _ _=>rfl)) (@a01 _) (by rfl))) (by rfl) (by walk_at "o"))
    (@a02 _ _ _ _ _ (@a14 _ _ 3 _ _ _ _ sc_standings.nd rfl (by walk_at "o") (bf0 (P:=w.params) rfl (by exact hr.units) (@a20 _ _ _ _ _ _ _ (a23 K) (pv 2) (@a03 _ _ _ _) (fun _ _=>rfl)) (@aj9 _ _ _ _)) (by rfl) (by walk_at "o"))
    (@a02 _ _ _ _ _ (@a14 _ _ 4 _ _ _ _ sc_standings.nd rfl (by walk_at "o") (@a03 _ _ _ _) (by rfl) (by walk_at "o"))
    (@a02 _ _ _ _ _ (@ad3 _ _ _ _ _ _ PassesOwn.leaving (@a16 _ _ _ _ _ _ _ _ bc0 (pv 4) (@a37 _ _ _ _ _ _ _ _ _ (ac7 K) (by rfl) T.z_len ah6 (@a00 _ _ _ _ _ (pv 2) (@a01 _) (by rfl)) (by decide) (by decide) (by rfl) (by rfl)) (nomark _)) (@a02 _ _ _ _ _ (@ap1 _ _ _ _ _ _ _ _ PassesOwn.leaving rfl (a39 K (pv 1)) (a29 (i:=5) sc_standings.nd rfl (by walk_at "o")) (@a02 _ _ _ _ _ (@a14 _ _ 6 _ _ _ _ sc_standings.nd rfl (by walk_at "o") (@a20 _ _ _ _ _ _ _ (a07 K) (a51 (pv 0) T.cl_Teller T.f_Teller_step.M G_Teller_step (hr.mono (by omega)) T.f_Teller_step.b .nil a28 (@a00 _ _ _ _ _ (@a20 _ _ _ _ _ _ _ (a23 K) (pv 2) (pv 4) (fun _ _=>rfl)) (@a00 _ _ _ _ _ (pv 5) (@a01 _) (by rfl)) (by rfl))) (@a03 _ _ _ _) (fun _ _=>rfl)) (by rfl) (by walk_at "o"))
     (@a02 _ _ _ _ _ (@a35 _ _ _ _ _ _ _ _ (bw8 (c43 (P:=w.params) rfl (by exact hr.units) (pv 6) (pv 3))) (@a05 _ _ _ (@at2 _ _)) (@a21 _))
     (@a02 _ _ _ _ _ (@a35 _ _ _ _ _ _ _ _ (@a16 _ _ _ _ _ _ _ _ a40 (@a37 _ _ _ _ _ _ _ _ _ (ac7 K) (by rfl) T.z_len ah6 (@a00 _ _ _ _ _ (pv 2) (@a01 _) (by rfl)) (by decide) (by decide) (by rfl) (by rfl)) (aa3 (by rfl) T.m_MOST_STANDINGS (by exact T.r_MOST_STANDINGS)) (nomark _)) (@a05 _ _ _ (bf5 PySem.F.excBase_ValueError (by decide +kernel) PySem.F.excBase_ValueError T.xe_TooMany T.m_TooMany rfl (@a00 _ _ _ _ _ (@a15 _ _ _ _) (@a01 _) (by rfl)))) (@a21 _))
     (@a02 _ _ _ _ _ (bq9 (P:=w.params) rfl (by exact hr.units) (pv 3) (pv 6) (@aj9 _ _ _ _) rfl)
     (@a05 _ _ _ (@a65 _ _ _ _ (@aa7 _ K _ _ _ _ _ _ _ _ _ _ _ PySem.F.plainAttrs_list PySem.F.slot_list_append PySem.F.type_list_append a66 (pv 2) (@a00 _ _ _ _ _ (pv 6) (@a01 _) (by rfl)) (by rfl) (by rfl) (by rfl) (by rfl) (by rfl) (by rfl)) (by rfl))))))) (by intro _; rfl))
     (@a05 _ _ _ (@bi8 _ _ 4 _ _ _ _ _ _ sc_standings.nd rfl (by walk_at "o") (@a03 _ _ _ _) bi9 (by walk_at "o")))))
    (@a05 _ _ _ (@a19 _ _ _ _ (ah3 (Nt:=["standing"]) (Nf:=["machine"]) (caps:=[0]) rfl (a45 (sc:=a06 ac6) rfl rfl (by decide +kernel) (by decide +kernel) (by decide +kernel) rfl (by decide +kernel)) (a39 K (pv 2)) (fun _ _ _ _ _=>(a29 (i:=0) (show (["standing","machine"]:List Str).Nodup by decide +kernel) rfl (by walk_at "o"))) (fun _ _ _ _ _=>(@a44 _)) (fun _ _ _ _ _=>(@a12 _ _ _ _ _ (@a00 _ _ _ _ _ (pv 0) (@a00 _ _ _ _ _ (a51 (pv 1) T.cl_Teller T.f_Teller_over.M G_Teller_over (hr.mono (by omega)) T.f_Teller_over.b .nil a28 (@a00 _ _ _ _ _ (pv 0) (@a01 _) (by rfl))) (@a01 _) (by rfl)) (by rfl))))))))))),?_⟩
   have sl:(1000000:Nat)≤sizeLine:=le_line (Nat.le_refl _)
   have hel:=hP.hel
   have hul:us.length=es.length:=ao3 hP.hes
   obtain ⟨dx,bl,kl,bvs,kvs,g1,_⟩:=hP.te.ex
   walk_at "go"
   refine ⟨p,dx,_,rfl,g1,a63 _ _ (by decide +kernel) (by decide +kernel),?_⟩
   walk_at "run"
   refine ⟨p,bs,kb,n,sd0,r0,rfl,hP.te,hP.kok,hP.hn,hP.b0,fun pb lb vb H1 s1 e1 fb elb hvb=>?_⟩
   walk_at "run"
   refine a24 (SqT.of e1) (a04 (j:=1) rfl) ?_
   walk_at "run"
   intro pf H2 f2 s2 e2
   walk_at "run"
   intro pk o3 f3
   have s3:Same H2 (upd H2 pk o3):=Same.new f3
   have e3:upd H2 pk o3 pk=some o3:=a17
   generalize upd H2 pk o3=H3 at s3 e3 ⊢
   walk_at "run"
   refine a48 (SqL.of (s3 _ _ e2)) (a04 (j:=0) rfl) ?_
   walk_at "run"
   have s02:=s1.trans s2
   refine ⟨e3,stdT r0,as1 (hvb.same (s2.trans s3)),fun o4 hd4=>?_⟩
   have s4:Same H2 (upd H3 pk o4):=s3.updNew f3
   generalize upd H3 pk o4=H4 at hd4 s4 ⊢
   walk_at "run"
   have s04:=s02.trans s4
   have fpf:H pf=none:=s1.free f2
   have fpk:H pk=none:=s02.free f3
   have hne:pf≠pk:=a27 e2 f3
   obtain ⟨W,hW⟩:∃ W:Nat→St→Hp→Prop,W=(fun m σ H'=>∃ (pl:Nat) (row:List (Option Std)) (fvs:List V) (y z:Option V),m=2001 - pl∧row.length≤2000∧pl≤row.length∧srL (nxL es st) 2000 (2001 - pl) pl row=srS es st r0∧(∀ r∈row,ok r)∧Same H H'∧H' pf=some (.lst fvs)∧Each (StdAt H') fvs row∧DtAt w.params H' pk (knL row)∧σ=[some (.ref p),some (.ref ev),some (.ref pf),some (.ref pk),some (.int (pl:Nat)),y,z]):=⟨_,rfl⟩
   refine ah9 W 2001 ?_ ?_
   · rw [hW]
     exact ⟨0,[r0],_,_,_,rfl,by simp,by simp,rfl,fun r hr=>by rw [List.mem_singleton.mp hr]; exact hP.k0,s04,s4 _ _ e2,Each.snoc Each.nil (hvb.same (s2.trans s4)),hd4,rfl⟩
   intro m σ H5 hI
   rw [hW] at hI
   obtain ⟨pl,row,fvs,y,z,rfl,hrl,hpl,hsr,hok,s5,hpf,hfv,hd5,rfl⟩:=hI
   have hfl:=hfv.1
   walk_at "run"
   refine al7 (SqL.of hpf) ?_
   walk_at "run"
   rw [hfl]
   refine ite2 (fun hc=>?_) (fun hc=>?_)
   · have hlt:pl<row.length:=by have:=of_decide_eq_true hc; omega
     obtain ⟨k,hk⟩:∃ k,row[pl]?=some k:=⟨_,List.getElem?_eq_getElem hlt⟩
     have hokk:=hok k (List.mem_of_getElem? hk)
     rw [show 2001 - pl=(2001 - (pl+1))+1 by omega,ay3 hk] at hsr
     refine ⟨fun σ' H''=>W (2001 - (pl+1)) σ' H'',fun σ' H'' h=>⟨_,by omega,h⟩,?_⟩
     walk_at "run"
     refine ⟨⟨_,SqL.of (s5 _ _ hP.hev)⟩,aw3 (K:=K) (a:=ev) (xs:=us) (fun j σ H'=>Same H H'∧j≤es.length∧∃ (t':List (Option Std)) (fvs:List V) (y z:Option V),(row++t').length≤2000∧(∀ r∈row++t',ok r)∧addL 2000 (row++t') ((nxL es st k).drop j)=addL 2000 row (nxL es st k)∧H' pf=some (.lst fvs)∧Each (StdAt H') fvs (row++t')∧DtAt w.params H' pk (knL (row++t'))∧σ=[some (.ref p),some (.ref ev),some (.ref pf),some (.ref pk),some (.int (pl:Nat)),y,z]) ⟨s5,Nat.zero_le _,[],fvs,_,_,by simpa using hrl,by simpa using hok,by simp,hpf,by simpa using hfv,by simpa using hd5,rfl⟩ (fun j σ H' _ zz=>by obtain ⟨s',_⟩:=zz; exact SqL.of (s' _ _ hP.hev)) ?_ ?_⟩
     · rintro j v σ H6 hj ⟨s6,hjl,t',fvs,y,z,hrl6,hok6,had,hpf6,hfv6,hd6,rfl⟩
       obtain ⟨e,he,hve⟩:=ao2 (hP.hes.mono s6.tups) hj
       have hj':j<es.length:=(List.getElem?_eq_some_iff.mp he).1
       have hem:=List.mem_of_getElem? he
       obtain ⟨hst,hok'⟩:=hP.hks k hokk e hem
       rw [b86 (b97 he)] at had
       obtain ⟨sv,hsv,hsk⟩:=hfv6.get (j:=pl) (x:=k) (by rw [List.getElem?_append_left hlt,hk])
       have P6:=hP.same s6
       obtain ⟨dx6,_,_,_,_,g6,_⟩:=P6.te.ex
       walk_at "run"
       refine ⟨p,dx6,_,rfl,g6,a63 _ _ (by decide +kernel) (by decide +kernel),?_⟩
       walk_at "run"
       refine a48 (SqL.of hpf6) (a04 hsv) ?_
       walk_at "run"
       refine ⟨p,sv,v,bs,kb,k,e,n,(st k e).1,(st k e).2,rfl,P6.te,hP.kok,hsk,hve,hP.heh e hem,hP.hkb k hokk,hst,fun p7 l7 v7 H7 s7 e7 f7 el7 hv7=>?_⟩
       walk_at "run"
       refine a24 (SqT.of e7) (a04 (j:=1) rfl) ?_
       walk_at "run"
       have s07:=s6.trans s7
       have hd7:=au3 hd6 s7
       have hpf7:=s7 _ _ hpf6
       have hfv7:Each (StdAt H7) fvs (row++t'):=hfv6.mono fun _ _ z=>z.same s7
       refine ⟨pk,_,stdT (st k e).2,rfl,hd7,as1 hv7,?_⟩
       rw [b89]
       by_cases hm:(st k e).2∈row++t'
       · rw [if_pos hm] at had
         rw [decide_eq_true hm]
         refine ⟨true,rfl,iteT ?_⟩
         walk_at "run"
         exact ⟨s07,hj',t',fvs,_,_,hrl6,hok6,had,hpf7,hfv7,hd7,rfl⟩
       · rw [if_neg hm] at had
         rw [decide_eq_false hm]
         refine ⟨false,rfl,iteF ?_⟩
         walk_at "run"
         refine al7 (SqL.of hpf7) ?_
         walk_at "run"
         rw [hfv7.1]
         by_cases h2:(row++t').length=2000
         · rw [if_pos h2] at had
           refine a26 (by omega) ?_
           walk_at "run"
           exact qe (by rw [← hsr,←had]; rfl) _ s07
         · rw [if_neg h2] at had
           refine a25 (by omega) ?_
           walk_at "run"
           refine ⟨pk,_,stdT (st k e).2,rfl,hd7,as1 hv7,by rw [bs1]; omega,fun o8 hd8=>?_⟩
           rw [bs0 hm] at hd8
           obtain ⟨φ,eφ⟩:=hd7.ext
           have t8:=Same.tupsExt (o:=o8) eφ
           have hpf8:upd H7 pk o8 pf=some (.lst fvs):=by rw [a09 hne]; exact hpf7
           have s8:Same H (upd H7 pk o8):=s07.updNew fpk
           have hfv8:Each (StdAt (upd H7 pk o8)) fvs (row++t'):=hfv7.mono fun _ _ z=>ag2 z t8
           have hv8:=ag2 hv7 t8
           generalize upd H7 pk o8=H8 at hd8 t8 hpf8 s8 hfv8 hv8 ⊢
           walk_at "run"
           refine ah8 (SqL.of hpf8) ?_
           walk_at "run"
           refine a91 hpf8 (by rw [hfv8.1]; omega) ?_
           have t9:Tups H8 (upd H8 pf (.lst (fvs++[v7]))):=Tups.upd hpf8
           refine ⟨s8.updNew fpf,hj',t'++[(st k e).2],fvs++[v7],_,_,?_,?_,?_,a17,?_,?_,rfl⟩
           · rw [← List.append_assoc,List.length_append,List.length_singleton]
             omega
           · rw [← List.append_assoc]
             intro r hr
             rcases List.mem_append.mp hr with z | z
             · exact hok6 r z
             · rw [List.mem_singleton.mp z]
               exact hok'
           · rw [← List.append_assoc]
             exact had
           · rw [← List.append_assoc]
             exact (hfv8.mono fun _ _ z=>ag2 z t9).snoc (ag2 hv8 t9)
           · rw [← List.append_assoc]
             exact hd8.mono t9 (a09 hne.symm)
     · rintro σ H6 ⟨s6,hjl,t',fvs,y,z,hrl6,hok6,had,hpf6,hfv6,hd6,rfl⟩
       rw [hul,List.drop_of_length_le (by simp [nxL])] at had
       walk_at "run"
       refine bk2 rfl ?_
       rw [hW]
       exact ⟨pl+1,row++t',fvs,_,_,rfl,hrl6,by rw [List.length_append]; omega,by rw [← hsr,←had]; rfl,hok6,s6,hpf6,hfv6,hd6,rfl⟩
   · have hge:row.length≤pl:=Nat.le_of_not_lt fun z=>hc (decide_eq_true (by omega))
     rw [an8 hge] at hsr
     walk_at "run"
     refine ⟨⟨_,SqL.of hpf⟩,a72 (xs:=fvs) (le_line (by omega)) (fun i acc H'=>Same H5 H'∧i≤fvs.length∧Each (FdAt H') acc (row.take i)) ⟨Same.refl _,Nat.zero_le _,Each.nil⟩ (fun i acc H' zz=>by obtain ⟨s',hi,he⟩:=zz; exact ⟨by rw [he.1]; simp; omega,SqL.of (s' _ _ hpf)⟩) ?_ ?_⟩
     · rintro i x acc H6 hx ⟨s6,hi,hE⟩
       have hi':=(List.getElem?_eq_some_iff.mp hx).1
       obtain ⟨r,hr⟩:∃ r,row[i]?=some r:=⟨_,List.getElem?_eq_getElem (by omega)⟩
       have hxr:=(hfv.2 i x r hx hr).same s6
       walk_at "run"
       obtain ⟨dx6,_,_,_,_,g6,_⟩:=(hP.te.same (s5.trans s6)).ex
       refine ⟨p,dx6,_,rfl,g6,a63 _ _ (by decide +kernel) (by decide +kernel),?_⟩
       walk_at "run"
       refine ⟨_,x,r,rfl,hxr,?_⟩
       walk_at "run"
       intro p7 H7 f7 s7 e7
       refine ⟨s6.trans s7,hi',?_⟩
       rw [List.take_add_one,hr]
       exact (hE.mono fun _ _ z=>aj2 z s7).snoc ⟨p7,x,rfl,e7,hxr.same s7⟩
     · rintro acc H6 ⟨s6,_,hE⟩ p7 H7 f7 s7 e7
       rw [hfl,List.take_length] at hE
       exact q row hsr.symm hok hrl p7 acc H7 ((s5.trans s6).free f7) ((s5.trans s6).trans s7) e7 (hE.mono fun _ _ z=>aj2 z s7)
abbrev Row:=List Str×Nat
abbrev b17:=Bool×List Row
def strW (s:Str):Tw:=.sc (.str s)
def rowW (r:Row):Tw:=.tup [.lst (r.1.map strW),.sc (.int (r.2:Nat))]
def ae6 (r:b17):Tw:=.tup [.sc (.bl r.1),.lst (r.2.map rowW)]
theorem strs_w {H:Hp}:∀ {ss:List Str}{vs:List V}{fs:List Addr},Tw.Ats H (ss.map strW) vs fs↔vs=a49 ss∧fs=[]
 | [],vs,fs=>by simp [Tw.Ats,a49]
 | s::ss,vs,fs=>by
   simp only [List.map_cons,Tw.Ats,strW,Tw.At]
   constructor
   · rintro ⟨v,ws,f,g,rfl,rfl,⟨rfl,_,rfl⟩,h⟩
     obtain ⟨rfl,rfl⟩:=strs_w.mp h
     exact ⟨rfl,rfl⟩
   · rintro ⟨rfl,rfl⟩
     exact ⟨_,_,[],[],rfl,rfl,⟨rfl,True.intro,rfl⟩,strs_w.mpr ⟨rfl,rfl⟩⟩
theorem row_w {H:Hp}{r:Row}{v:V}{fs:List Addr}:(rowW r).At H v fs↔∃ k sl,v=.ref k∧H k=some (.tup [.ref sl,.int (r.2:Nat)])∧H sl=some (.lst (a49 r.1))∧fs=[sl]:=by
 simp only [rowW,Tw.At,Tw.Ats]
 constructor
 · rintro ⟨a,vs,rfl,e,v,ws,f,g,rfl,rfl,⟨sl,us,gs,rfl,e2,h,rfl⟩,v',ws',f',g',rfl,rfl,⟨rfl,_,rfl⟩,rfl,rfl⟩
   obtain ⟨rfl,rfl⟩:=strs_w.mp h
   exact ⟨a,sl,rfl,e,e2,rfl⟩
 · rintro ⟨k,sl,rfl,e,e2,rfl⟩
   exact ⟨k,_,rfl,e,_,_,[sl],[],rfl,rfl,⟨sl,_,[],rfl,e2,strs_w.mpr ⟨rfl,rfl⟩,rfl⟩,_,_,[],[],rfl,rfl,⟨rfl,True.intro,rfl⟩,rfl,rfl⟩
theorem room_w {H:Hp}{r:b17}{v:V}{fs:List Addr}:(ae6 r).At H v fs↔∃ q g ps gs,v=.ref q∧H q=some (.tup [.bl r.1,.ref g])∧H g=some (.lst ps)∧Tw.Ats H (r.2.map rowW) ps gs∧fs=g::gs:=by
 simp only [ae6,Tw.At,Tw.Ats]
 constructor
 · rintro ⟨a,vs,rfl,e,v,ws,f,g,rfl,rfl,⟨rfl,_,rfl⟩,v',ws',f',g',rfl,rfl,⟨sl,us,gs,rfl,e2,h,rfl⟩,rfl,rfl⟩
   exact ⟨a,sl,us,gs,rfl,e,e2,h,by simp⟩
 · rintro ⟨q,g,ps,gs,rfl,e,e2,h,rfl⟩
   exact ⟨q,_,rfl,e,_,_,[],g::gs,rfl,rfl,⟨rfl,True.intro,rfl⟩,_,_,g::gs,[],rfl,by simp,⟨g,ps,gs,rfl,e2,h,rfl⟩,rfl,rfl⟩
def aj3 (es:List Tr) (st:Option Std→Tr→List Str×Option Std) (row:List (Option Std)) (r:Option Std):List Row:=es.map fun e=>((st r e).1,row.idxOf (st r e).2)
def c77 (K:PySem.W.Frag) (P:Params) (C CK:Addr):Sp:=fun vs H Q _=>∃ (p ev nd:Addr) (sv:V) (us:List V) (bs:List (Str×Int)) (kb:List KB) (es:List Tr) (n:Nat) (ok:Option Std→Prop) (st:Option Std→Tr→List Str×Option Std) (sd0:List Str) (r0 r:Option Std) (row:List (Option Std)),vs=[.ref p,sv,.ref ev,.ref nd]∧StPre K C CK H p ev us bs kb es n ok st sd0 r0∧ok r∧StdAt H sv r∧DtAt P H nd (ae1 [] (nmL row))∧row.Nodup∧(∀ x∈nxL es st r,x∈row) ∧
 ∀ pr ps gs' H',Same H H'→H' pr=some (.lst ps)→Tw.Ats H' ((aj3 es st row r).map rowW) ps gs'→(∀ x∈pr::gs',H x=none)→Q (.ref pr) H'
theorem b18 (T:Txt K mg t):FnOk P w K mg base CX0 19 t.a_rows_at t.fd_rows_at ["machine","standing","events","numbers"] (c77 K w.params t.c_Teller t.c_KeptBody):=by
 have G_Teller_step:=ac0 (P:=P) (w:=w) (base:=base) T
 refine T.f_rows_at.F.ok sc_rows_at (fun vs H Q E h=>?_) (fun cdv A outer s H vs Q E hr h=>?_)
 · obtain ⟨p,ev,nd,sv,us,bs,kb,es,n,ok,st,sd0,r0,r,row,rfl,_⟩:=h
   rfl
 · obtain ⟨p,ev,nd,sv,us,bs,kb,es,n,ok,st,sd0,r0,r,row,rfl,hP,hok,hsv,hdt,hnd,hcl,q⟩:=h
   refine ⟨_,(@a02 _ _ _ _ _ (@a14 _ _ 4 _ _ _ _ sc_rows_at.nd rfl (by walk_at "o") (@a22 _ _ _ _ (@a01 _)) (by rfl) (by walk_at "o"))
    (@a02 _ _ _ _ _ (@ap1 _ _ _ _ _ _ _ _ PassesOwn.never rfl (a39 K (pv 2)) (a29 (i:=5) sc_rows_at.nd rfl (by walk_at "o")) (@a02 _ _ _ _ _ (@a14 _ _ 6 _ _ _ _ sc_rows_at.nd rfl (by walk_at "o") (a51 (pv 0) T.cl_Teller T.f_Teller_step.M G_Teller_step (hr.mono (by omega)) T.f_Teller_step.b .nil a28 (@a00 _ _ _ _ _ (pv 1) (@a00 _ _ _ _ _ (pv 5) (@a01 _) (by rfl)) (by rfl))) (by rfl) (by walk_at "o"))
     (@a05 _ _ _ (@a65 _ _ _ _ (@aa7 _ K _ _ _ _ _ _ _ _ _ _ _ PySem.F.plainAttrs_list PySem.F.slot_list_append PySem.F.type_list_append a66 (pv 4) (@a00 _ _ _ _ _ (@a12 _ _ _ _ _ (@a00 _ _ _ _ _ (@a41 _ _ _ _ _ _ _ _ _ (ag1 K) (by rfl) T.z_list ah7 (@a00 _ _ _ _ _ (@a20 _ _ _ _ _ _ _ (a07 K) (pv 6) (@a03 _ _ _ _) (fun _ _=>rfl)) (@a01 _) (by rfl)) (by decide) (by decide) (by rfl) (by rfl)) (@a00 _ _ _ _ _ (bq8 (P:=w.params) rfl (by exact hr.units) (pv 3) (@a20 _ _ _ _ _ _ _ (a07 K) (pv 6) (@a03 _ _ _ _) (fun _ _=>rfl)) (fun _ _=>rfl)) (@a01 _) (by rfl)) (by rfl))) (@a01 _) (by rfl)) (by rfl) (by rfl) (by rfl) (by rfl) (by rfl) (by rfl)) (by rfl)))) (by intro _; rfl))
    (@a05 _ _ _ (@a19 _ _ _ _ (pv 4))))),?_⟩
   have sl:(1000000:Nat)≤sizeLine:=le_line (Nat.le_refl _)
   have hel:=hP.hel
   have hul:us.length=es.length:=ao3 hP.hes
   walk_at "go"
   intro pr H1 f1 s1 e1
   walk_at "run"
   refine ⟨⟨_,SqL.of (s1 _ _ hP.hev)⟩,aw3 (K:=K) (a:=ev) (xs:=us) (fun i σ H'=>Same H H'∧i≤es.length∧(∃ acc gs',H' pr=some (.lst acc)∧acc.length=i∧Tw.Ats H' (((aj3 es st row r).take i).map rowW) acc gs'∧(∀ x∈gs',H x=none)∧pr∉gs')∧∃ y z,σ=[some (.ref p),some sv,some (.ref ev),some (.ref nd),some (.ref pr),y,z]) ⟨s1,Nat.zero_le _,⟨[],[],e1,rfl,by simp [Tw.Ats],by simp,by simp⟩,_,_,rfl⟩ (fun i σ H' _ zz=>by obtain ⟨s',_⟩:=zz; exact SqL.of (s' _ _ hP.hev)) ?_ ?_⟩
   · rintro i v σ H5 hi ⟨s5,hil,⟨acc,gs',h1,h2,h3,h4,hpn⟩,y,z,rfl⟩
     obtain ⟨e,he,hve⟩:=ao2 (hP.hes.mono s5.tups) hi
     have hi':i<es.length:=(List.getElem?_eq_some_iff.mp he).1
     have hem:=List.mem_of_getElem? he
     obtain ⟨hst,hok'⟩:=hP.hks r hok e hem
     have hrw:(aj3 es st row r)[i]?=some ((st r e).1,row.idxOf (st r e).2):=by unfold aj3; rw [List.getElem?_map,he]; rfl
     have P5:=hP.same s5
     obtain ⟨dx5,_,_,_,_,g5,_⟩:=P5.te.ex
     walk_at "run"
     refine ⟨p,dx5,_,rfl,g5,a63 _ _ (by decide +kernel) (by decide +kernel),?_⟩
     walk_at "run"
     refine ⟨p,sv,v,bs,kb,r,e,n,(st r e).1,(st r e).2,rfl,P5.te,hP.kok,hsv.same s5,hve,hP.heh e hem,hP.hkb r hok,hst,fun p6 l6 v6 H6 s6 e6 f6 el6 hv6=>?_⟩
     walk_at "run"
     refine ah8 (SqL.of (s6 _ _ h1)) ?_
     walk_at "run"
     refine a24 (SqT.of e6) (a04 (j:=0) rfl) ?_
     walk_at "run"
     refine am8 (SqL.of el6) ?_
     intro p7 H7 f7 s7 e7
     walk_at "run"
     refine a24 (SqT.of (s7 _ _ e6)) (a04 (j:=1) rfl) ?_
     have s57:=s6.trans s7
     have hin:(st r e).2∈row:=hcl _ (List.mem_of_getElem? (b97 he))
     refine ⟨nd,_,stdT (st r e).2,.int (row.idxOf (st r e).2:Nat),rfl,au3 hdt (s5.trans s57),as1 (hv6.same s7),by rw [b90 _ row rfl hnd,if_pos hin],?_⟩
     walk_at "run"
     intro p8 H8 f8 s8 e8
     walk_at "run"
     have s58:=s57.trans s8
     have h18:=s58 _ _ h1
     refine a91 h18 (by omega) ?_
     have hne:p7≠pr:=(a27 (s6 _ _ h1) f7).symm
     have hA:Tw.Ats H8 (((aj3 es st row r).take (i+1)).map rowW) (acc++[.ref p8]) (gs'++[p7]):=by
      rw [List.take_add_one,hrw,List.map_append]
      exact (h3.same s58).snoc (row_w.mpr ⟨p8,p7,rfl,e8,s8 _ _ e7,rfl⟩)
     have hnm:pr∉gs'++[p7]:=fun z=>(List.mem_append.mp z).elim hpn fun z=>hne (List.mem_singleton.mp z).symm
     refine ⟨(s5.trans s58).updNew f1,hi',⟨_,gs'++[p7],a17,by simp [h2],hA.mono (Keep.upd h18 hnm),fun x hx=>?_,hnm⟩,_,_,rfl⟩
     rcases List.mem_append.mp hx with hx | hx
     · exact h4 x hx
     · rw [List.mem_singleton.mp hx]; exact (s5.trans s6).free f7
   · rintro σ H5 ⟨s5,_,⟨acc,gs',h1,h2,h3,h4,hpn⟩,y,z,rfl⟩
     rw [hul,List.take_of_length_le (by simp [aj3])] at h3
     walk_at "run"
     exact q pr acc gs' H5 s5 h1 h3 (fun x hx=>by
      rcases List.mem_cons.mp hx with rfl | hx
      · exact f1
      · exact h4 x hx)
theorem c78 {es:List Tr}{st:Option Std→Tr→List Str×Option Std}{r0:Option Std}{row:List (Option Std)}(h:srS es st r0=some row):row.Nodup∧(∀ k∈row,∀ x∈nxL es st k,x∈row)∧(∃ t,row=[r0]++t)∧row.length≤2000 :=
 bm0 h (by decide) (Nat.zero_le _) (by simp) (by simp) (fun i k hi=>absurd hi (Nat.not_lt_zero _))
theorem b98 {H:Hp}{ws:List V}{row:List (Option Std)}(h:Each (FdAt H) ws row) {i:Nat}{x:V}(hx:ws[i]?=some x):∃ r k sv,row[i]?=some r∧x=.ref k∧H k=some (.tup [sv,.bl r.isNone])∧StdAt H sv r:=by
 have hi:=(List.getElem?_eq_some_iff.mp hx).1
 obtain ⟨r,hr⟩:∃ r,row[i]?=some r:=⟨_,List.getElem?_eq_getElem (by have:=h.1; omega)⟩
 obtain ⟨k,sv,h1,h2,h3⟩:=h.2 i x r hx hr
 exact ⟨r,k,sv,hr,h1,h2,h3⟩
def outS (es:List Tr) (st:Option Std→Tr→List Str×Option Std) (row:List (Option Std)):List b17:=row.map fun r=>(r.isNone,aj3 es st row r)
def bv0 (K:PySem.W.Frag) (P:Params) (C CK Cx:Addr):Sp:=fun vs H Q E=>∃ (p ev:Addr) (us:List V) (bs:List (Str×Int)) (kb:List KB) (es:List Tr) (n:Nat) (ok:Option Std→Prop) (st:Option Std→Tr→List Str×Option Std) (sd0:List Str) (r0:Option Std),vs=[.ref p,.ref ev]∧StPre K C CK H p ev us bs kb es n ok st sd0 r0 ∧
 (∀ row,srS es st r0=some row→∀ pt pa pb pc rvs gs H',Same H H'→H' pt=some (.tup [.ref pa,.ref pb,.ref pc])→H' pa=some (.lst us)→H' pb=some (.lst (a49 sd0))→H' pc=some (.lst rvs)→Tw.Ats H' ((outS es st row).map ae6) rvs gs→(∀ x∈pa::pb::pc::gs,H x=none)→Q (.ref pt) H') ∧
 (srS es st r0=none→∀ H',Same H H'→E (.ref Cx) none H')
theorem aj4 (T:Txt K mg t):FnOk P w K mg base (CXE P w t.c_TooMany) 20 t.a_table_of t.fd_table_of ["machine","events"] (bv0 K w.params t.c_Teller t.c_KeptBody t.c_TooMany):=by
 have G_Teller_begin:=ab0 (P:=P) (w:=w) (base:=base) T
 have G_rows_at:=b18 (P:=P) (w:=w) (base:=base) T
 have G_standings:=af4 (P:=P) (w:=w) (base:=base) T
 refine T.f_table_of.F.okE sc_table_of (fun vs H Q E h=>?_) (fun cdv A outer s H vs Q E hr h=>?_)
 · obtain ⟨p,ev,us,bs,kb,es,n,ok,st,sd0,r0,rfl,_⟩:=h
   rfl
 · obtain ⟨p,ev,us,bs,kb,es,n,ok,st,sd0,r0,rfl,hP,q,qe⟩:=h
   refine ⟨_,(@a02 _ _ _ _ _ (@a14 _ _ 2 _ _ _ _ sc_table_of.nd rfl (by walk_at "o") (@a18 _ _ _ _ _ _ _ _ _ _ _ _ _ _ _ _ G_standings (hr.mono (by omega)) rfl T.f_standings.m T.f_standings.F.kp T.f_standings.b .nil b74 (@a00 _ _ _ _ _ (pv 0) (@a00 _ _ _ _ _ (pv 1) (@a01 _) (by rfl)) (by rfl)) (by decide) (by rfl) (by rfl)) (by rfl) (by walk_at "o"))
    (@a02 _ _ _ _ _ (@a14 _ _ 3 _ _ _ _ sc_table_of.nd rfl (by walk_at "o") (@a41 _ _ _ _ _ _ _ _ _ (b76 (P:=w.params) K rfl (by exact hr.units)) (by rfl) T.z_dict bp6 (@a00 _ _ _ _ _ (ah3 (Nt:=["number","each"]) (Nf:=[]) (caps:=[]) rfl (a45 (sc:=a06 ab2) rfl rfl (by decide +kernel) (by decide +kernel) (by decide +kernel) rfl (by decide +kernel)) (an1 K rfl T.z_enumerate (@a00 _ _ _ _ _ (pv 2) (@a01 _) (by rfl))) (fun _ _ _ _ _=>(a89 K (n:=2) rfl (a34 (a29 (i:=0) (show (["number","each"]:List Str).Nodup by decide +kernel) rfl (by walk_at "o")) (a34 (a29 (i:=1) (show (["number","each"]:List Str).Nodup by decide +kernel) rfl (by walk_at "o")) (@a81 _))))) (fun _ _ _ _ _=>(@a44 _)) (fun _ _ _ _ _=>(@a12 _ _ _ _ _ (@a00 _ _ _ _ _ (@a20 _ _ _ _ _ _ _ (a07 K) (pv 1) (@a03 _ _ _ _) (fun _ _=>rfl)) (@a00 _ _ _ _ _ (pv 0) (@a01 _) (by rfl)) (by rfl))))) (@a01 _) (by rfl)) (by decide) (by decide) (by rfl) (by rfl)) (by rfl) (by walk_at "o"))
    (@a02 _ _ _ _ _ (b08 (i:=4) (Nt:=["standing","ended"]) (Nf:=["machine","events","numbers"]) (caps:=[0,1,3]) rfl (a45 (sc:=a06 ab2) rfl rfl (by decide +kernel) (by decide +kernel) (by decide +kernel) rfl (by decide +kernel)) (a39 K (pv 2)) (fun _ _ _ _ _=>(a89 K (n:=2) rfl (a34 (a29 (i:=0) (show (["standing","ended","machine","events","numbers"]:List Str).Nodup by decide +kernel) rfl (by walk_at "o")) (a34 (a29 (i:=1) (show (["standing","ended","machine","events","numbers"]:List Str).Nodup by decide +kernel) rfl (by walk_at "o")) (@a81 _))))) (fun _ _ _ _ _=>(@a44 _)) (fun _ _ _ _ _=>(@a12 _ _ _ _ _ (@a00 _ _ _ _ _ (pv 1) (@a00 _ _ _ _ _ (@a18 _ _ _ _ _ _ _ _ _ _ _ _ _ _ _ _ G_rows_at (hr.mono (by omega)) rfl T.f_rows_at.m T.f_rows_at.F.kp T.f_rows_at.b .nil a28 (@a00 _ _ _ _ _ (pv 2) (@a00 _ _ _ _ _ (pv 0) (@a00 _ _ _ _ _ (pv 3) (@a00 _ _ _ _ _ (pv 4) (@a01 _) (by rfl)) (by rfl)) (by rfl)) (by rfl)) (by decide) (by rfl) (by rfl)) (@a01 _) (by rfl)) (by rfl)))) sc_table_of.nd rfl (by walk_at "o") rfl)
    (@a05 _ _ _ (@a19 _ _ _ _ (@a12 _ _ _ _ _ (@a00 _ _ _ _ _ (@a41 _ _ _ _ _ _ _ _ _ (ag1 K) (by rfl) T.z_list ah7 (@a00 _ _ _ _ _ (pv 1) (@a01 _) (by rfl)) (by decide) (by decide) (by rfl) (by rfl)) (@a00 _ _ _ _ _ (@a41 _ _ _ _ _ _ _ _ _ (ag1 K) (by rfl) T.z_list ah7 (@a00 _ _ _ _ _ (@a20 _ _ _ _ _ _ _ (a07 K) (aw4 (pv 0) T.cl_Teller T.f_Teller_begin.M G_Teller_begin (hr.mono (by omega)) T.f_Teller_begin.b .nil a28) (@a03 _ _ _ _) (fun _ _=>rfl)) (@a01 _) (by rfl)) (by decide) (by decide) (by rfl) (by rfl)) (@a00 _ _ _ _ _ (pv 4) (@a01 _) (by rfl)) (by rfl)) (by rfl)))))))),?_⟩
   have sl:(1000000:Nat)≤sizeLine:=le_line (Nat.le_refl _)
   walk_at "go"
   refine ⟨p,ev,us,bs,kb,es,n,ok,st,sd0,r0,rfl,hP,fun row hrow hok hrl pf ws H1 f1 s1 e1 hw=>?_,qe⟩
   obtain ⟨hnd,hcl,_,_⟩:=c78 hrow
   have wl:ws.length=row.length:=hw.1
   walk_at "run"
   refine ⟨⟨_,SqL.of e1⟩,at9 (xs:=ws) (le_line (by omega)) (fun i acc H'=>Same H1 H'∧i≤row.length∧acc.length=i∧PrT H' acc (nmL (row.take i))) ⟨Same.refl _,Nat.zero_le _,rfl,.nil⟩ (fun i acc H' zz=>by obtain ⟨s',_,e,_⟩:=zz; exact ⟨by omega,SqL.of (s' _ _ e1)⟩) ?_ ?_⟩
   · rintro i x acc H' H3 hx ⟨s2,hi,ha,hpk⟩ s3
     obtain ⟨r,k,sv,hr,rfl,hk,hsv⟩:=b98 (hw.mono fun _ _ z=>aj2 z (s2.trans s3)) hx
     have hi':i<row.length:=(List.getElem?_eq_some_iff.mp hr).1
     walk_at "run"
     refine a24 (SqT.of hk) (a04 (j:=0) rfl) ?_
     walk_at "run"
     intro p4 H4 f4 s4 e4
     refine ⟨s2.trans (s3.trans s4),hi',by simp [ha],?_⟩
     rw [List.take_add_one,hr,show row.take i++(some r).toList=row.take i++[r] from rfl,ay5,List.length_take,Nat.min_eq_left hi]
     exact (hpk.mono (s3.trans s4).tups).snoc e4 (as1 (hsv.same s4))
   · rintro acc H3 ⟨s3,_,_,hpk⟩ pl H4 f4 s4 e4
     rw [wl,List.take_length] at hpk
     walk_at "run"
     refine bg1 (SqL.of e4) (hpk.mono s4.tups) ?_
     intro pd o5 f5 hd5
     have s5:Same H4 (upd H4 pd o5):=Same.new f5
     generalize upd H4 pd o5=H5 at hd5 s5 ⊢
     walk_at "run"
     have s15:=s3.trans (s4.trans s5)
     have s05:=s1.trans s15
     have e15:=s15 _ _ e1
     refine ⟨⟨_,SqL.of e15⟩,an0 (xs:=ws) (le_line (by omega)) (fun i acc H'=>i≤row.length∧acc.length=i∧Same H5 H'∧∃ fs',Tw.Ats H' (((outS es st row).take i).map ae6) acc fs'∧(∀ a∈fs',H5 a=none)) ⟨Nat.zero_le _,rfl,Same.refl _,[],by simp [Tw.Ats],by simp⟩ (fun i acc H' zz=>by obtain ⟨_,e,s',_⟩:=zz; exact ⟨by omega,SqL.of (s' _ _ e15)⟩) ?_ ?_⟩
     · rintro i x acc H6 hx ⟨hi,ea,s6,fs',hat,hfr⟩
       obtain ⟨r,k,sv,hr,rfl,hk,hsv⟩:=b98 (hw.mono fun _ _ z=>aj2 z (s15.trans s6)) hx
       have hi':i<row.length:=(List.getElem?_eq_some_iff.mp hr).1
       have hrm:=List.mem_of_getElem? hr
       have s06:=s05.trans s6
       refine ⟨k,_,_,rfl,SqT.of hk,?_⟩
       walk_at "run"
       refine ⟨p,ev,pd,sv,us,bs,kb,es,n,ok,st,sd0,r0,r,row,rfl,hP.same s06,hok r hrm,hsv,au3 hd5 s6,hnd,hcl r hrm,fun pr ps gs' H7 s7 e7 h7 fr7=>?_⟩
       walk_at "run"
       intro p8 H8 f8 s8 e8
       have ho:(outS es st row)[i]?=some (r.isNone,aj3 es st row r):=by unfold outS; rw [List.getElem?_map,hr]; rfl
       refine ⟨hi',by simp [ea],s6.trans (s7.trans s8),fs'++(pr::gs'),?_,?_⟩
       · rw [List.take_add_one,ho,List.map_append]
         exact (hat.same (s7.trans s8)).snoc (room_w.mpr ⟨p8,pr,ps,gs',rfl,e8,s8 _ _ e7,h7.same s8,rfl⟩)
       · intro a ha
         rcases List.mem_append.mp ha with ha | ha
         · exact hfr a ha
         · exact s6.free (fr7 a ha)
     · rintro acc H6 ⟨_,ea,s6,fs',hat,hfr⟩ pc H7 f7 s7 e7
       rw [wl,List.take_of_length_le (by simp [outS])] at hat
       walk_at "run"
       have s07:=s05.trans (s6.trans s7)
       refine am8 (SqL.of (s07 _ _ hP.hev)) ?_
       intro pa H8 f8 s8 e8
       walk_at "run"
       have s08:=s07.trans s8
       have P8:=hP.same s08
       obtain ⟨dx8,_,_,_,_,g8,_⟩:=P8.te.ex
       refine ⟨p,dx8,_,rfl,g8,a63 _ _ (by decide +kernel) (by decide +kernel),?_⟩
       walk_at "run"
       refine ⟨p,bs,kb,n,sd0,r0,rfl,P8.te,hP.kok,hP.hn,hP.b0,fun kb' lb vb H9 s9 e9 fb e9' hvb=>?_⟩
       walk_at "run"
       refine a24 (SqT.of e9) (a04 (j:=0) rfl) ?_
       walk_at "run"
       refine am8 (SqL.of e9') ?_
       intro pb H10 f10 s10 e10
       walk_at "run"
       intro pt H11 f11 s11 e11
       have s811:=s9.trans (s10.trans s11)
       have s011:=s08.trans s811
       have s711:=s8.trans s811
       refine q row hrow pt pa pb pc acc fs' H11 s011 e11 (s811 _ _ e8) (s11 _ _ e10) (s711 _ _ e7) (hat.same (s7.trans s711)) ?_
       intro x hx
       rcases List.mem_cons.mp hx with rfl | hx
       · exact s07.free f8
       · rcases List.mem_cons.mp hx with rfl | hx
         · exact (s08.trans s9).free f10
         · rcases List.mem_cons.mp hx with rfl | hx
           · exact (s05.trans s6).free f7
           · exact s05.free (hfr x hx)
def PpAt (H:Hp) (v:V) (x:Option Std×Nat):Prop:=∃ k sv,v=.ref k∧H k=some (.tup [sv,.int (x.2:Nat)])∧StdAt H sv x.1
theorem b99 {H H':Hp}{v:V}{x:Option Std×Nat}(h:PpAt H v x) (s:Same H H'):PpAt H' v x:=by
 obtain ⟨k,sv,h1,h2,h3⟩:=h
 exact ⟨k,sv,h1,s _ _ h2,h3.same s⟩
def papS (row:List (Option Std)) (i:Nat):List (Option Std×Nat):=(List.range i).map fun k=>(row.getD k none,k)
theorem ba0 (row:List (Option Std)) (i:Nat):papS row (i+1)=papS row i++[(row.getD i none,i)]:=by
 unfold papS
 rw [List.range_succ,List.map_append]
 rfl
def bv1 (K:PySem.W.Frag) (C CK Cx:Addr):Sp:=fun vs H Q E=>∃ (p ev:Addr) (us:List V) (bs:List (Str×Int)) (kb:List KB) (es:List Tr) (n:Nat) (ok:Option Std→Prop) (st:Option Std→Tr→List Str×Option Std) (sd0:List Str) (r0:Option Std),vs=[.ref p,.ref ev]∧StPre K C CK H p ev us bs kb es n ok st sd0 r0 ∧
 (∀ row,srS es st r0=some row→∀ pp vs H',H pp=none→Same H H'→H' pp=some (.lst vs)→Each (PpAt H') vs (papS row row.length)→Q (.ref pp) H') ∧
 (srS es st r0=none→∀ H',Same H H'→E (.ref Cx) none H')
theorem ac1 (T:Txt K mg t):FnOk P w K mg base (CXE P w t.c_TooMany) 20 t.a_table_paper t.fd_table_paper ["machine","events"] (bv1 K t.c_Teller t.c_KeptBody t.c_TooMany):=by
 have G_standings:=af4 (P:=P) (w:=w) (base:=base) T
 refine T.f_table_paper.F.okE ak2 (fun vs H Q E h=>?_) (fun cdv A outer s H vs Q E hr h=>?_)
 · obtain ⟨p,ev,us,bs,kb,es,n,ok,st,sd0,r0,rfl,_⟩:=h
   rfl
 · obtain ⟨p,ev,us,bs,kb,es,n,ok,st,sd0,r0,rfl,hP,q,qe⟩:=h
   refine ⟨_,(@a05 _ _ _ (@a19 _ _ _ _ (ah3 (Nt:=["number","each"]) (Nf:=[]) (caps:=[]) rfl (a45 (sc:=a06 a83) rfl rfl (by decide +kernel) (by decide +kernel) (by decide +kernel) rfl (by decide +kernel)) (an1 K rfl T.z_enumerate (@a00 _ _ _ _ _ (@a18 _ _ _ _ _ _ _ _ _ _ _ _ _ _ _ _ G_standings (hr.mono (by omega)) rfl T.f_standings.m T.f_standings.F.kp T.f_standings.b .nil b74 (@a00 _ _ _ _ _ (pv 0) (@a00 _ _ _ _ _ (pv 1) (@a01 _) (by rfl)) (by rfl)) (by decide) (by rfl) (by rfl)) (@a01 _) (by rfl))) (fun _ _ _ _ _=>(a89 K (n:=2) rfl (a34 (a29 (i:=0) (show (["number","each"]:List Str).Nodup by decide +kernel) rfl (by walk_at "o")) (a34 (a29 (i:=1) (show (["number","each"]:List Str).Nodup by decide +kernel) rfl (by walk_at "o")) (@a81 _))))) (fun _ _ _ _ _=>(@a44 _)) (fun _ _ _ _ _=>(@a12 _ _ _ _ _ (@a00 _ _ _ _ _ (@a20 _ _ _ _ _ _ _ (a07 K) (pv 1) (@a03 _ _ _ _) (fun _ _=>rfl)) (@a00 _ _ _ _ _ (pv 0) (@a01 _) (by rfl)) (by rfl))))))),?_⟩
   have sl:(1000000:Nat)≤sizeLine:=le_line (Nat.le_refl _)
   walk_at "go"
   refine ⟨p,ev,us,bs,kb,es,n,ok,st,sd0,r0,rfl,hP,fun row hrow hok hrl pf ws H1 f1 s1 e1 hw=>?_,qe⟩
   have wl:ws.length=row.length:=hw.1
   walk_at "run"
   refine ⟨⟨_,SqL.of e1⟩,at9 (xs:=ws) (le_line (by omega)) (fun i acc H'=>Same H1 H'∧i≤row.length∧acc.length=i∧Each (PpAt H') acc (papS row i)) ⟨Same.refl _,Nat.zero_le _,rfl,Each.nil⟩ (fun i acc H' zz=>by obtain ⟨s',_,e,_⟩:=zz; exact ⟨by omega,SqL.of (s' _ _ e1)⟩) ?_ ?_⟩
   · rintro i x acc H' H3 hx ⟨s2,hi,ha,hpk⟩ s3
     obtain ⟨r,k,sv,hr,rfl,hk,hsv⟩:=b98 (hw.mono fun _ _ z=>aj2 z (s2.trans s3)) hx
     have hi':i<row.length:=(List.getElem?_eq_some_iff.mp hr).1
     walk_at "run"
     refine a24 (SqT.of hk) (a04 (j:=0) rfl) ?_
     walk_at "run"
     intro p4 H4 f4 s4 e4
     refine ⟨s2.trans (s3.trans s4),hi',by simp [ha],?_⟩
     rw [ba0,show row.getD i none=r by rw [List.getD_eq_getElem?_getD,hr]; rfl]
     exact (hpk.mono fun _ _ z=>b99 z (s3.trans s4)).snoc ⟨p4,sv,rfl,e4,hsv.same s4⟩
   · rintro acc H3 ⟨s3,_,_,hpk⟩ pl H4 f4 s4 e4
     rw [wl] at hpk
     exact q row hrow pl acc H4 ((s1.trans s3).free f4) (s1.trans (s3.trans s4)) e4 (hpk.mono fun _ _ z=>b99 z s4)
def bv2 (K:PySem.W.Frag):Sp:=fun vs H Q _=>∃ (a:Addr) (ns:List Int),vs=[.ref a]∧SqL K H a (ns.map V.int)∧ns.length≤63∧∀ d l H',H d=none→H l=none→Same H H'→Deck H' d l 0→Q (.ref d) H'
theorem av7 (T:Txt K mg t):FnOk P w K mg base CX0 1 t.a__law_deck t.fd__law_deck ["script"] (bv2 K):=by
 refine T.f__law_deck.F.ok av5 (fun vs H Q E h=>?_) (fun cdv A outer s H vs Q E hr h=>?_)
 · obtain ⟨a,ns,rfl,_⟩:=h
   rfl
 · obtain ⟨a,ns,rfl,hS,hl,q⟩:=h
   refine ⟨_,(@a05 _ _ _ (@a19 _ _ _ _ (@a22 _ _ _ _ (@a00 _ _ _ _ _ (ah3 (Nt:=["cell"]) (Nf:=[]) (caps:=[]) rfl (a45 (sc:=a06 ae7) rfl rfl (by decide +kernel) (by decide +kernel) (by decide +kernel) rfl (by decide +kernel)) (a39 K (@ad4 _ _ _ _ _ _ _ _ _ _ (ag0 K) (pv 0) (@ag6 _) (@ag7 _ _ _ (@a03 _ _ _ _)))) (fun _ _ _ _ _=>(a29 (i:=0) (show (["cell"]:List Str).Nodup by decide +kernel) rfl (by walk_at "o"))) (fun _ _ _ _ _=>(@a44 _)) (fun _ _ _ _ _=>(@a31 _ _ _ _ _ _ _ _ am2 (pv 0) (@a03 _ _ _ _)))) (@a00 _ _ _ _ _ (@a03 _ _ _ _) (@a00 _ _ _ _ _ (@a31 _ _ _ _ _ _ _ _ aa4 (@a37 _ _ _ _ _ _ _ _ _ (an3 K) (by rfl) T.z_sum aw9 (@a00 _ _ _ _ _ (@ad4 _ _ _ _ _ _ _ _ _ _ (ag0 K) (pv 0) (@ag6 _) (@ag7 _ _ _ (@a03 _ _ _ _))) (@a01 _) (by rfl)) (by decide) (by decide) (by rfl) (by rfl)) (@a03 _ _ _ _)) (@a01 _) (by rfl)) (by rfl)) (by rfl))))),?_⟩
   walk_at "go"
   refine bd9 hS ?_
   intro p1 H1 f1 s1 e1
   rw [show cutV (ns.map V.int) none (some 63)=(ns.take 63).map V.int from bk0 (k:=63)] at e1
   have hls:(ns.take 63).length≤63:=by simp; omega
   generalize ns.take 63=ls at e1 hls
   refine ⟨p1,rfl,⟨_,SqL.of e1⟩,a72 (xs:=ls.map V.int) (le_line (by simp; omega)) (fun i acc H'=>H'=H1∧i≤ls.length∧acc=(ls.take i).map (fun z=>V.int (z / 2))) ⟨rfl,Nat.zero_le _,rfl⟩ (fun i acc H' ⟨e0,hi,e⟩=>⟨by rw [e]; simp only [List.length_map,List.length_take]; omega,e0 ▸ SqL.of e1⟩) ?_ ?_⟩
   · rintro i x acc H' hx ⟨rfl,hi,rfl⟩
     obtain ⟨z,hz,rfl⟩:∃ z,ls[i]?=some z∧x=V.int z:=by
      rw [List.getElem?_map] at hx
      obtain ⟨z,hz,rfl⟩:=Option.map_eq_some_iff.mp hx
      exact ⟨z,hz,rfl⟩
     walk_at "run"
     refine ⟨rfl,(List.getElem?_eq_some_iff.mp hz).1,?_⟩
     rw [List.take_add_one,hz]
     simp
   · rintro acc H' ⟨rfl,_,rfl⟩
     intro p2 H2 f2 s2 e2
     walk_at "run"
     refine bd9 ((s1.trans s2).seq hS) ?_
     intro p3 H3 f3 s3 e3
     rw [show cutV (ns.map V.int) none (some 1)=(ns.take 1).map V.int from bk0 (k:=1)] at e3
     walk_at "run"
     refine be6 (SqL.of e3) ?_
     walk_at "run"
     intro p4 H4 f4 s4 e4
     have s14:=s1.trans (s2.trans (s3.trans s4))
     refine q p4 p2 H4 ((s1.trans (s2.trans s3)).free f4) (s1.free f2) s14 ⟨ls.map (· / 2),_,e4,?_,by simp; omega⟩
     have:=(s3.trans s4) _ _ e2
     rw [this,List.length_map,List.take_length,List.map_map]
     rfl
def bv3 (K:PySem.W.Frag):Sp:=fun vs H Q _=>∃ (d l:Addr) (n m:Nat),vs=[.ref d,.int (m:Nat)]∧Deck H d l n∧0<m∧m≤1000∧n≤100000∧∀ (r:Nat) H',r<m→Off d l H H'→Deck H' d l (n+1)→(H l=some (.lst [])→H' l=some (.lst []))→Q (.int (r:Nat)) H'
theorem ao4 (x:Int) {m:Nat}(h:0<m):∃ r:Nat,r<m∧x % (m:Int)=(r:Nat):=⟨(x % (m:Int)).toNat,by
 have h1:=Int.emod_nonneg x (show (m:Int)≠0 by omega)
 have h2:=Int.emod_lt_of_pos x (show (0:Int)<(m:Int) by omega)
 omega,by
 have h1:=Int.emod_nonneg x (show (m:Int)≠0 by omega)
 omega⟩
theorem cb {i j:Int}(h1:-1000000000000000000<i) (h2:i<1000000000000000000):CBig i j:=.inr (.inl ⟨by omega,by omega⟩)
theorem bv4 {H:Hp}{d l:Addr}{o:HO}:Off d l H (upd H d o):=fun b u h1 _ e=>by rw [a09 h1]; exact e
theorem av8 (T:Txt K mg t):FnOk P w K mg base CX0 1 t.a__law_take t.fd__law_take ["deck","many"] (bv3 K):=by
 refine T.f__law_take.F.ok sc_law_take (fun vs H Q E h=>?_) (fun cdv A outer s H vs Q E hr h=>?_)
 · obtain ⟨d,l,n,m,rfl,_⟩:=h
   rfl
 · obtain ⟨d,l,n,m,rfl,k,hm,hm2,hn,q⟩:=h
   refine ⟨_,(@a02 _ _ _ _ _ (@a14 _ _ 2 _ _ _ _ sc_law_take.nd rfl (by walk_at "o") (@a20 _ _ _ _ _ _ _ (a23 K) (pv 0) (@a03 _ _ _ _) (fun _ _=>rfl)) (by rfl) (by walk_at "o"))
    (@a02 _ _ _ _ _ (@b22 _ _ _ _ _ _ (@a31 _ _ _ _ _ _ _ _ a32 (pv 2) (@a03 _ _ _ _)) (b21 (pv 0) (@a03 _ _ _ _) am3) (by rfl) (by rfl) (by rfl))
    (@a02 _ _ _ _ _ (@a35 _ _ _ _ _ _ _ _ (@a16 _ _ _ _ _ _ _ _ (b69 K (by exact hr.units)) (@a20 _ _ _ _ _ _ _ (a23 K) (pv 0) (@a03 _ _ _ _) (fun _ _=>rfl)) (@a22 _ _ _ _ (@a01 _)) (nomark _)) (@a05 _ _ _ (@a19 _ _ _ _ (@a31 _ _ _ _ _ _ _ _ aa4 (@a31 _ _ _ _ _ _ _ _ a32 (@a31 _ _ _ _ _ _ _ _ a64 (@a31 _ _ _ _ _ _ _ _ a64 (pv 2) (pv 2)) (@a03 _ _ _ _)) (@a31 _ _ _ _ _ _ _ _ am2 (pv 2) (@a03 _ _ _ _))) (pv 1)))) (@a21 _))
    (@a02 _ _ _ _ _ (@a14 _ _ 3 _ _ _ _ sc_law_take.nd rfl (by walk_at "o") (@a31 _ _ _ _ _ _ _ _ aa4 (pv 2) (@a37 _ _ _ _ _ _ _ _ _ (ac7 K) (by rfl) T.z_len ah6 (@a00 _ _ _ _ _ (@a20 _ _ _ _ _ _ _ (a23 K) (pv 0) (@a03 _ _ _ _) (fun _ _=>rfl)) (@a01 _) (by rfl)) (by decide) (by decide) (by rfl) (by rfl))) (by rfl) (by walk_at "o"))
    (@a02 _ _ _ _ _ (@a35 _ _ _ _ _ _ _ _ (@a16 _ _ _ _ _ _ _ _ a40 (@a20 _ _ _ _ _ _ _ (a23 K) (pv 0) (@a03 _ _ _ _) (fun _ _=>rfl)) (@a03 _ _ _ _) (nomark _)) (@a02 _ _ _ _ _ (@a14 _ _ 4 _ _ _ _ sc_law_take.nd rfl (by walk_at "o") (@a31 _ _ _ _ _ _ _ _ aa4 (@a20 _ _ _ _ _ _ _ (a23 K) (@a20 _ _ _ _ _ _ _ (a23 K) (pv 0) (@a03 _ _ _ _) (fun _ _=>rfl)) (pv 3) (fun _ _=>rfl)) (pv 1)) (by rfl) (by walk_at "o"))
     (@a02 _ _ _ _ _ (@b22 _ _ _ _ _ _ (@a31 _ _ _ _ _ _ _ _ am2 (@a20 _ _ _ _ _ _ _ (a23 K) (@a20 _ _ _ _ _ _ _ (a23 K) (pv 0) (@a03 _ _ _ _) (fun _ _=>rfl)) (pv 3) (fun _ _=>rfl)) (pv 1)) (b21 (@a20 _ _ _ _ _ _ _ (a23 K) (pv 0) (@a03 _ _ _ _) (fun _ _=>rfl)) (pv 3) am3) (by rfl) (by rfl) (by rfl))
     (@a05 _ _ _ (@a19 _ _ _ _ (pv 4))))) (@a21 _))
    (@a02 _ _ _ _ _ (@a14 _ _ 5 _ _ _ _ sc_law_take.nd rfl (by walk_at "o") (@a31 _ _ _ _ _ _ _ _ aa4 (@a31 _ _ _ _ _ _ _ _ a64 (@a31 _ _ _ _ _ _ _ _ a32 (@a31 _ _ _ _ _ _ _ _ aa4 (@a20 _ _ _ _ _ _ _ (a23 K) (@a20 _ _ _ _ _ _ _ (a23 K) (pv 0) (@a03 _ _ _ _) (fun _ _=>rfl)) (pv 3) (fun _ _=>rfl)) (@a03 _ _ _ _)) (@a31 _ _ _ _ _ _ _ _ a64 (@a03 _ _ _ _) (@a31 _ _ _ _ _ _ _ _ a32 (pv 2) (@a03 _ _ _ _)))) (@a03 _ _ _ _)) (@a03 _ _ _ _)) (by rfl) (by walk_at "o"))
    (@a02 _ _ _ _ _ (@a14 _ _ 5 _ _ _ _ sc_law_take.nd rfl (by walk_at "o") (@a31 _ _ _ _ _ _ _ _ aa4 (@a31 _ _ _ _ _ _ _ _ a64 (pv 5) (pv 5)) (@a03 _ _ _ _)) (by rfl) (by walk_at "o"))
    (@a05 _ _ _ (@a19 _ _ _ _ (@a31 _ _ _ _ _ _ _ _ aa4 (@a31 _ _ _ _ _ _ _ _ am2 (@a31 _ _ _ _ _ _ _ _ aa4 (@a31 _ _ _ _ _ _ _ _ a64 (pv 5) (@a03 _ _ _ _)) (@a03 _ _ _ _)) (@a03 _ _ _ _)) (pv 1))))))))))),?_⟩
   have hne:=k.ne
   obtain ⟨ms,z,h1,h2,h3⟩:=k.ex
   walk_at "go"
   refine a48 (SqL.of h1) (a04 (j:=1) rfl) ?_
   walk_at "run"
   refine b58 h1 (j:=1) rfl ?_
   have h2':upd H d (.lst ([V.ref l,V.int (n:Nat),V.int z].set 1 (V.int ((n:Int)+1)))) l=some (.lst (ms.map V.int)):=by rw [a09 (Ne.symm hne)]; exact h2
   have hD:Deck (upd H d (.lst ([V.ref l,V.int (n:Nat),V.int z].set 1 (V.int ((n:Int)+1))))) d l (n+1):=⟨ms,z,a17,h2',h3⟩
   have oD:Off d l H (upd H d (.lst ([V.ref l,V.int (n:Nat),V.int z].set 1 (V.int ((n:Int)+1))))):=bv4
   have h1':upd H d (.lst ([V.ref l,V.int (n:Nat),V.int z].set 1 (V.int ((n:Int)+1)))) d=some (.lst [V.ref l,V.int ((n:Int)+1),V.int z]):=a17
   generalize upd H d (.lst ([V.ref l,V.int (n:Nat),V.int z].set 1 (V.int ((n:Int)+1))))=H1 at h2' hD oD h1'
   walk_at "run"
   refine a48 (SqL.of h1') (a04 (j:=0) rfl) ?_
   walk_at "run"
   intro p2 H2 f2 s2 e2
   refine br0 (SqL.of (s2 _ _ h2')) (SqL.of e2) ?_
   walk_at "run"
   cases hms:ms with
   | nil =>
     refine c25 ?_
     walk_at "run"
     refine a90 (cb (by omega) (by omega)) ?_
     walk_at "run"
     obtain ⟨r,hr,e⟩:=ao4 (((n:Int)*n*7+n / 3)) hm
     rw [e]
     exact q r H2 hr (oD.trans s2.off) (hD.same s2) (fun _=>by have z:=s2 _ _ h2'; rw [hms] at z; exact z)
   | cons m0 mr =>
     refine c26 ?_
     have hlen:0<ms.length:=by rw [hms]; simp
     walk_at "run"
     refine a48 (SqL.of (s2 _ _ h1')) (a04 (j:=0) rfl) ?_
     walk_at "run"
     refine al7 (SqL.of (s2 _ _ h2')) ?_
     rw [List.length_map]
     walk_at "run"
     obtain ⟨p,hp,ep⟩:=ao4 (n:Int) hlen
     rw [ep]
     have hat:atI (ms.map V.int) (p:Nat)=some (.int ms[p]):=a04 (by simp [hp])
     refine a48 (SqL.of (s2 _ _ h1')) (a04 (j:=2) rfl) ?_
     walk_at "run"
     refine ite2 (fun hc=>?_) (fun hc=>?_)
     · walk_at "run"
       refine a48 (SqL.of (s2 _ _ h1')) (a04 (j:=0) rfl) ?_
       walk_at "run"
       refine a48 (SqL.of (s2 _ _ h2')) hat ?_
       walk_at "run"
       obtain ⟨r,hr,e⟩:=ao4 ms[p] hm
       rw [e]
       refine a48 (SqL.of (s2 _ _ h1')) (a04 (j:=0) rfl) ?_
       walk_at "run"
       refine a48 (SqL.of (s2 _ _ h2')) hat ?_
       walk_at "run"
       refine i_rI (show CDiv _ _ from ⟨by omega,by omega⟩) ?_
       walk_at "run"
       refine a48 (SqL.of (s2 _ _ h1')) (a04 (j:=0) rfl) ?_
       walk_at "run"
       refine b58 (s2 _ _ h2') (j:=p) (by unfold ixN; rw [if_pos (by omega),if_pos (by simp; omega)]; simp) ?_
       walk_at "run"
       refine q r _ hr ?_ ⟨ms.set p (ms[p] / (m:Nat)),z,?_,?_,by simpa using h3⟩ (fun z=>by rw [h2,hms] at z; simp at z)
       · intro b o b1 b2 e
         rw [a09 b2]
         exact s2 _ _ (oD b o b1 b2 e)
       · rw [a09 hne]
         exact s2 _ _ h1'
       · rw [a17,List.map_set]
     · walk_at "run"
       refine a48 (SqL.of (s2 _ _ h1')) (a04 (j:=0) rfl) ?_
       walk_at "run"
       refine a48 (SqL.of (s2 _ _ h2')) hat ?_
       walk_at "run"
       have b1:=Int.emod_nonneg ((ms[p] % 2147483629+62233*((n:Int)+1))*48271) (show (2147483629:Int)≠0 by decide)
       have b2:=Int.emod_lt_of_pos ((ms[p] % 2147483629+62233*((n:Int)+1))*48271) (show (0:Int)<2147483629 by decide)
       refine a90 (cb (by omega) (by omega)) ?_
       walk_at "run"
       generalize ((ms[p] % 2147483629+62233*((n:Int)+1))*48271) % 2147483629=y
       obtain ⟨r,hr,e⟩:=ao4 (y*y % 2147483587*69621 % 2147483579 / 8) hm
       rw [e]
       exact q r H2 hr (oD.trans s2.off) (hD.same s2) (fun z=>by rw [h2,hms] at z; simp at z)
def aj5 (n:Str):Stm:=.put n (.two true (.box n) (.num 1))
def bv5:Sp:=fun vs H Q _=>∃ (n:Str),vs=[.str n]∧∀ a H',Same H H'→(aj5 n).tr.At H' (.ref a) []→Q (.ref a) H'
theorem av9 (T:Txt K mg t):FnOk P w K mg base CX0 1 t.a__law_plus t.fd__law_plus ["name"] bv5:=by
 refine T.f__law_plus.F.ok av6 (fun vs H Q E h=>?_) (fun cdv A outer s H vs Q E hr h=>?_)
 · obtain ⟨n,rfl,_⟩:=h
   rfl
 · obtain ⟨n,rfl,q⟩:=h
   refine ⟨_,(@a05 _ _ _ (@a19 _ _ _ _ (@a12 _ _ _ _ _ (@a00 _ _ _ _ _ (@a15 _ _ _ _) (@a00 _ _ _ _ _ (pv 0) (@a00 _ _ _ _ _ (@a12 _ _ _ _ _ (@a00 _ _ _ _ _ (@a15 _ _ _ _) (@a00 _ _ _ _ _ (@a12 _ _ _ _ _ (@a00 _ _ _ _ _ (@a15 _ _ _ _) (@a00 _ _ _ _ _ (pv 0) (@a01 _) (by rfl)) (by rfl))) (@a00 _ _ _ _ _ (@a12 _ _ _ _ _ (@a00 _ _ _ _ _ (@a15 _ _ _ _) (@a00 _ _ _ _ _ (@a03 _ _ _ _) (@a01 _) (by rfl)) (by rfl))) (@a01 _) (by rfl)) (by rfl)) (by rfl))) (@a01 _) (by rfl)) (by rfl)) (by rfl))))),?_⟩
   walk_at "go"
   intro p1 H1 f1 s1 e1
   walk_at "run"
   intro p2 H2 f2 s2 e2
   walk_at "run"
   intro p3 H3 f3 s3 e3
   walk_at "run"
   intro p4 H4 f4 s4 e4
   have s14:=s2.trans (s3.trans s4)
   have s24:=s3.trans s4
   refine q p4 H4 (s1.trans s14) ?_
   simp only [aj5,Stm.tr,Ex.tr,bq1,Tr.At,Tr.Ats]
   exact ⟨p4,_,rfl,e4,_,_,[],[],rfl,rfl,⟨rfl,rfl⟩,_,_,[],[],rfl,rfl,⟨rfl,rfl⟩,_,_,[],[],rfl,rfl,⟨p3,_,rfl,s4 _ _ e3,_,_,[],[],rfl,rfl,⟨rfl,rfl⟩,_,_,[],[],rfl,rfl,⟨p1,_,rfl,s14 _ _ e1,_,_,[],[],rfl,rfl,⟨rfl,rfl⟩,_,_,[],[],rfl,rfl,⟨rfl,rfl⟩,rfl,rfl⟩,_,_,[],[],rfl,rfl,⟨p2,_,rfl,s24 _ _ e2,_,_,[],[],rfl,rfl,⟨rfl,rfl⟩,_,_,[],[],rfl,rfl,⟨rfl,rfl⟩,rfl,rfl⟩,rfl,rfl⟩,rfl,rfl⟩
structure Cnt where
 s0:Nat
 s1:Nat
 s2:Nat
 l0:Nat
 l1:Nat
 w:Str
 ld:Nat
structure Cnt.Ok (c:Cnt):Prop where
 a0:2≤c.s0∧c.s0≤5
 a1:2≤c.s1∧c.s1≤5
 a2:2≤c.s2∧c.s2≤5
 b0:1≤c.l0∧c.l0≤9
 b1:1≤c.l1∧c.l1≤9
 d:c.ld≤9
 w:c.w.length≤100
def eqz (n:Str):Cd:=.cmp true (.box n) (.num 0)
def am0:List Stm:=[aj5 "b",.test (eqz "b") [aj5 "c"] []]
def aa2 (c:Cnt):List Stm:=[.wait (c.l0:Nat) [],.wait (c.l1:Nat) [],.plain [.s "say",.s c.w],aj5 "a",.test (eqz "a") am0 []]
def lz (c:Cnt):Nat:=if 0<c.ld then 1 else 0
def af3 (c:Cnt):List Stm:=List.replicate (lz c) (.wait (c.ld:Nat) [])
def tsC (c:Cnt):List (Str×List Stm):=[("main",af3 c++[.loop (aa2 c)])]
def bxC (c:Cnt):List (Str×Int):=[("a",(c.s0:Nat)),("b",(c.s1:Nat)),("c",(c.s2:Nat))]
def ak7 (n:Str):KS:=.put n (.two true (.box n) (.num 1))
def kbC (c:Cnt):List KB:=[⟨false,none,List.replicate (lz c) (.wait (c.ld:Nat) [] (0,1))++[.loop 1]⟩,⟨true,some (0,lz c+1),[.wait (c.l0:Nat) [] (1,1),.wait (c.l1:Nat) [] (1,2),.say c.w,ak7 "a",.test (eqz "a") 2 3]⟩,⟨false,some (1,5),[ak7 "b",.test (eqz "b") 4 5]⟩,⟨false,some (1,5),[]⟩,⟨false,some (2,2),[ak7 "c"]⟩,⟨false,some (2,2),[]⟩]
def qC (c:Cnt):List QE:=[(af3 c++[.loop (aa2 c)],false,none),(aa2 c,true,some (0,lz c+1)),(am0,false,some (1,5)),([],false,some (1,5)),([aj5 "c"],false,some (2,2)),([],false,some (2,2))]
theorem ba1 (c:Cnt):newQ 0 0 (af3 c++[.loop (aa2 c)])=[(aa2 c,true,some (0,lz c+1))]:=by
 unfold af3 lz
 by_cases h:0<c.ld
 · rw [if_pos h]
   rfl
 · rw [if_neg h]
   rfl
theorem qC1 (c:Cnt):Qn (q0T (tsC c)) 1=(qC c).take 2:=by
 show Qn (q0T (tsC c)) 0++newQ 0 0 (af3 c++[.loop (aa2 c)])=_
 rw [ba1]
 rfl
theorem qC2 (c:Cnt):Qn (q0T (tsC c)) 2=(qC c).take 4:=by
 show Qn (q0T (tsC c)) 1++(match (Qn (q0T (tsC c)) 1)[1]? with | none=>[] | some q=>newQ 1 0 q.1)=_
 rw [qC1]
 rfl
theorem qC3 (c:Cnt):Qn (q0T (tsC c)) 3=qC c:=by
 show Qn (q0T (tsC c)) 2++(match (Qn (q0T (tsC c)) 2)[2]? with | none=>[] | some q=>newQ 2 0 q.1)=_
 rw [qC2]
 rfl
theorem qC4 (c:Cnt):Qn (q0T (tsC c)) 4=qC c:=by
 show Qn (q0T (tsC c)) 3++(match (Qn (q0T (tsC c)) 3)[3]? with | none=>[] | some q=>newQ 3 0 q.1)=_
 rw [qC3]
 rfl
theorem qC5 (c:Cnt):Qn (q0T (tsC c)) 5=qC c:=by
 show Qn (q0T (tsC c)) 4++(match (Qn (q0T (tsC c)) 4)[4]? with | none=>[] | some q=>newQ 4 0 q.1)=_
 rw [qC4]
 rfl
theorem qC6 (c:Cnt):Qn (q0T (tsC c)) 6=qC c:=by
 show Qn (q0T (tsC c)) 5++(match (Qn (q0T (tsC c)) 5)[5]? with | none=>[] | some q=>newQ 5 0 q.1)=_
 rw [qC5]
 rfl
theorem ba2 (c:Cnt) (tn:List Str):a99 tn 0 0 1 (af3 c++[.loop (aa2 c)])=List.replicate (lz c) (KS.wait (c.ld:Nat) [] (0,1))++[KS.loop 1]:=by
 unfold af3 lz
 by_cases h:0<c.ld
 · rw [if_pos h]
   rfl
 · rw [if_neg h]
   rfl
theorem ba3 (c:Cnt) (tn:List Str):a99 tn 1 0 2 (aa2 c)=[KS.wait (c.l0:Nat) [] (1,1),.wait (c.l1:Nat) [] (1,2),.say c.w,ak7 "a",.test (eqz "a") 2 3]:=by
 have h:a77 tn (1,3) 2 (.plain [.s "say",.s c.w])=.say c.w:=by simp only [a77,plK]; rw [if_pos trivial]
 show [KS.wait (c.l0:Nat) [] (1,1),KS.wait (c.l1:Nat) [] (1,2),a77 tn (1,3) 2 (.plain [.s "say",.s c.w]),ak7 "a",.test (eqz "a") 2 3]=_
 rw [h]
theorem c79 (c:Cnt):kbL (tsC c) 6=kbC c:=by
 unfold kbL
 rw [qC6]
 show [(⟨false,none,a99 _ 0 0 (Qn (q0T (tsC c)) 0).length (af3 c++[.loop (aa2 c)])⟩:KB),⟨true,some (0,lz c+1),a99 _ 1 0 (Qn (q0T (tsC c)) 1).length (aa2 c)⟩,⟨false,some (1,5),a99 _ 2 0 (Qn (q0T (tsC c)) 2).length am0⟩,⟨false,some (1,5),[]⟩,⟨false,some (2,2),a99 _ 4 0 (Qn (q0T (tsC c)) 4).length [aj5 "c"]⟩,⟨false,some (2,2),[]⟩]=_
 rw [qC1,qC2,qC4,show (Qn (q0T (tsC c)) 0).length=1 from rfl,ba2,show ((qC c).take 2).length=2 from rfl,ba3]
 rfl
theorem kpC (c:Cnt):KpOk (tsC c) 6:=by
 refine ⟨by rw [qC6]; rfl,by decide,fun q hq=>?_⟩
 rw [qC6] at hq
 have lk:∀ s∈af3 c++[.loop (aa2 c)],s.kd ((tsC c).map (·.1)):=fun s hs=>by
  rcases List.mem_append.mp hs with z | z
  · rw [(List.mem_replicate.mp z).2]
    exact Nat.zero_le _
  · rw [List.mem_singleton.mp z]
    trivial
 have ll:(af3 c++[Stm.loop (aa2 c)]).length≤1000:=by
  rw [List.length_append,List.length_singleton,af3,List.length_replicate,lz]
  split <;> omega
 simp only [qC,List.mem_cons,List.not_mem_nil,or_false] at hq
 rcases hq with rfl | rfl | rfl | rfl | rfl | rfl
 · exact ⟨ll,lk⟩
 · refine ⟨by simp [aa2],fun s hs=>?_⟩
   simp only [aa2,List.mem_cons,List.not_mem_nil,or_false] at hs
   rcases hs with rfl | rfl | rfl | rfl | rfl
   · exact Nat.zero_le _
   · exact Nat.zero_le _
   · exact .inl ⟨_,rfl⟩
   · trivial
   · trivial
 · refine ⟨by decide,fun s hs=>?_⟩
   simp only [am0,List.mem_cons,List.not_mem_nil,or_false] at hs
   rcases hs with rfl | rfl <;> trivial
 · exact ⟨by decide,fun s hs=>by simp at hs⟩
 · exact ⟨by decide,fun s hs=>by rw [List.mem_singleton.mp hs]; trivial⟩
 · exact ⟨by decide,fun s hs=>by simp at hs⟩
theorem kokC {c:Cnt}(h:c.Ok):KOk (bxC c) (kbC c):=by
 have nm:(bxC c).map (·.1)=[Str.ofString "a",Str.ofString "b",Str.ofString "c"]:=rfl
 have pk:∀ n∈[Str.ofString "a",Str.ofString "b",Str.ofString "c"],(ak7 n).ok [Str.ofString "a",Str.ofString "b",Str.ofString "c"]:=fun n hn=>⟨⟨hn,by decide,by decide⟩,by simp [Ex.h]⟩
 have ck:∀ (n:Str) (a b:Nat),n∈[Str.ofString "a",Str.ofString "b",Str.ofString "c"]→(KS.test (eqz n) a b).ok [Str.ofString "a",Str.ofString "b",Str.ofString "c"]:=fun n a b hn=>⟨⟨⟨hn,by simp [Ex.h]⟩,⟨by decide,by decide⟩,by simp [Ex.h]⟩,by simp [eqz,Cd.h]⟩
 have all:∀ b∈kbC c,(∀ s∈b.st,s.ok [Str.ofString "a",Str.ofString "b",Str.ofString "c"])∧b.st.length≤100000:=fun b hb=>by
  simp only [kbC,List.mem_cons,List.not_mem_nil,or_false] at hb
  rcases hb with rfl | rfl | rfl | rfl | rfl | rfl
  · refine ⟨fun s hs=>?_,?_⟩
    · rcases List.mem_append.mp hs with z | z
      · rw [(List.mem_replicate.mp z).2]
        exact ⟨Int.natCast_nonneg _,Nat.zero_le _⟩
      · rw [List.mem_singleton.mp z]
        trivial
    · simp only [List.length_append,List.length_singleton,List.length_replicate,lz]
      split <;> omega
  · refine ⟨fun s hs=>?_,by simp⟩
    simp only [List.mem_cons,List.not_mem_nil,or_false] at hs
    rcases hs with rfl | rfl | rfl | rfl | rfl
    · exact ⟨Int.natCast_nonneg _,Nat.zero_le _⟩
    · exact ⟨Int.natCast_nonneg _,Nat.zero_le _⟩
    · exact h.w
    · exact pk _ (by simp)
    · exact ck _ _ _ (by simp)
  · refine ⟨fun s hs=>?_,by simp⟩
    simp only [List.mem_cons,List.not_mem_nil,or_false] at hs
    rcases hs with rfl | rfl
    · exact pk _ (by simp)
    · exact ck _ _ _ (by simp)
  · exact ⟨fun s hs=>by simp at hs,by simp⟩
  · exact ⟨fun s hs=>by rw [List.mem_singleton.mp hs]; exact pk _ (by simp),by simp⟩
  · exact ⟨fun s hs=>by simp at hs,by simp⟩
 refine ⟨fun b hb=>by rw [nm]; exact (all b hb).1,fun b hb=>?_,by simp [bxC],by simp [kbC],fun b hb=>(all b hb).2⟩
 have:=h.a0
 have:=h.a1
 have:=h.a2
 simp only [bxC,List.mem_cons,List.not_mem_nil,or_false] at hb
 rcases hb with rfl | rfl | rfl <;> constructor <;> simp only <;> omega
theorem ac2 {kb:List KB}{bs:List (Str×Int)}{n:Nat}{p:Pl}{stk stk2:List Pl}{vs vs2:List Int}{s:KS}{sd:List Str}{o2:Option Pl}(h1:stAt kb p=some s) (h2:onK kb bs p stk vs s=some (.go sd o2 stk2 vs2)):goF kb bs (n+1) (some p) stk vs=(goF kb bs n o2 stk2 vs2).map fun r=>(sd++r.1,r.2):=by
 conv=>lhs; unfold goF
 simp only [popP,h1,h2]
theorem ao5 {kb:List KB}{bs:List (Str×Int)}{n:Nat}{p:Pl}{stk:List Pl}{vs:List Int}{s:KS}{r:Option Std}(h1:stAt kb p=some s) (h2:onK kb bs p stk vs s=some (.done r)):goF kb bs (n+1) (some p) stk vs=some ([],r):=by
 conv=>lhs; unfold goF
 simp only [popP,h1,h2]
def nmC:List Str:=["a","b","c"]
theorem bv_a (x y z:Int):bval nmC [x,y,z] "a"=x:=by
 simp only [nmC,bval]
 rw [if_pos trivial]
theorem bv_b (x y z:Int):bval nmC [x,y,z] "b"=y:=by
 simp only [nmC,bval]
 rw [if_neg (by decide +kernel),if_pos trivial]
theorem bv_c (x y z:Int):bval nmC [x,y,z] "c"=z:=by
 simp only [nmC,bval]
 rw [if_neg (by decide +kernel),if_neg (by decide +kernel),if_pos trivial]
theorem vp_a (c:Cnt) (x y z k:Int):vput (bxC c) [x,y,z] "a" k=[k % (c.s0:Nat),y,z]:=by
 simp only [vput,bxC,List.zipWith]
 rw [if_pos trivial,if_neg (by decide +kernel),if_neg (by decide +kernel)]
theorem vp_b (c:Cnt) (x y z k:Int):vput (bxC c) [x,y,z] "b" k=[x,k % (c.s1:Nat),z]:=by
 simp only [vput,bxC,List.zipWith]
 rw [if_neg (by decide +kernel),if_pos trivial,if_neg (by decide +kernel)]
theorem vp_c (c:Cnt) (x y z k:Int):vput (bxC c) [x,y,z] "c" k=[x,y,k % (c.s2:Nat)]:=by
 simp only [vput,bxC,List.zipWith]
 rw [if_neg (by decide +kernel),if_neg (by decide +kernel),if_pos trivial]
theorem ev_a (x y z:Int):(eqz "a").ev nmC [x,y,z]=decide (x=0):=by
 simp only [eqz,Cd.ev,Ex.ev,bv_a]
 rfl
theorem ev_b (x y z:Int):(eqz "b").ev nmC [x,y,z]=decide (y=0):=by
 simp only [eqz,Cd.ev,Ex.ev,bv_b]
 rfl
def incC (c:Cnt) (x y z:Int):List Int:=if (x+1) % (c.s0:Nat)=0 then (if (y+1) % (c.s1:Nat)=0 then [0,0,(z+1) % (c.s2:Nat)] else [0,(y+1) % (c.s1:Nat),z]) else [(x+1) % (c.s0:Nat),y,z]
theorem ba4 {kb:List KB}{c:Cnt}{p:Pl}{n:Str}{vs:List Int}{q:Pl}(h:setF kb (tfu kb) (some (p.1,p.2+1))=some (some q)):onK kb (bxC c) p [] vs (ak7 n)=some (.go [] (some q) [] (vput (bxC c) vs n (bval nmC vs n+1))):=by
 show (setF kb (tfu kb) (some (p.1,p.2+1))).map _=_
 rw [h]
 rfl
theorem ao6 {kb:List KB}{c:Cnt}{p:Pl}{n:Str}{vs:List Int}{q:Pl}{a b:Nat}(h:setF kb (tfu kb) (some (if (eqz n).ev nmC vs then a else b,0))=some (some q)):onK kb (bxC c) p [] vs (.test (eqz n) a b)=some (.go [] (some q) [] vs):=by
 show (setF kb (tfu kb) (some (if (eqz n).ev nmC vs then a else b,0))).map _=_
 rw [h]
 rfl
theorem at0 (c:Cnt) (n:Nat) (vs:List Int):goF (kbC c) (bxC c) (n+1) (some (1,0)) [] vs=some ([],some ((1,0),[],vs,((c.l0:Nat):Int))):=ao5 (s:=.wait (c.l0:Nat) [] (1,1)) rfl rfl
theorem ce0 (c:Cnt) (x y z:Int):tgoF (kbC c) (bxC c) 20 (some (1,2)) [] [x,y,z]=some ([c.w],some ((1,0),[],incC c x y z,((c.l0:Nat):Int))):=by
 have t1:setF (kbC c) (tfu (kbC c)) (some (1,2))=some (some (1,2)):=rfl
 unfold tgoF
 rw [t1]
 show goF (kbC c) (bxC c) 20 (some (1,2)) [] [x,y,z]=_
 rw [ac2 (s:=.say c.w) (sd:=[c.w]) (o2:=some (1,3)) (stk2:=[]) (vs2:=[x,y,z]) rfl rfl]
 rw [ac2 (s:=ak7 "a") (p:=(1,3)) (sd:=[]) rfl (ba4 (q:=(1,4)) rfl),vp_a,bv_a]
 unfold incC
 by_cases h1:(x+1) % (c.s0:Nat)=0
 · rw [if_pos h1,h1,ac2 (s:=.test (eqz "a") 2 3) (p:=(1,4)) (sd:=[]) rfl (ao6 (q:=(2,0)) (by rw [ev_a,decide_eq_true rfl]; rfl))]
   rw [ac2 (s:=ak7 "b") (p:=(2,0)) (sd:=[]) rfl (ba4 (q:=(2,1)) rfl),vp_b,bv_b]
   by_cases h2:(y+1) % (c.s1:Nat)=0
   · rw [if_pos h2,h2,ac2 (s:=.test (eqz "b") 4 5) (p:=(2,1)) (sd:=[]) rfl (ao6 (q:=(4,0)) (by rw [ev_b,decide_eq_true rfl]; rfl))]
     rw [ac2 (s:=ak7 "c") (p:=(4,0)) (sd:=[]) rfl (ba4 (q:=(1,0)) rfl),vp_c,bv_c,at0]
     rfl
   · rw [if_neg h2,ac2 (s:=.test (eqz "b") 4 5) (p:=(2,1)) (sd:=[]) rfl (ao6 (q:=(1,0)) (by rw [ev_b,decide_eq_false h2]; rfl)),at0]
     rfl
 · rw [if_neg h1,ac2 (s:=.test (eqz "a") 2 3) (p:=(1,4)) (sd:=[]) rfl (ao6 (q:=(1,0)) (by rw [ev_a,decide_eq_false h1]; rfl)),at0]
   rfl
theorem bv6 (c:Cnt) (vs:List Int):tgoF (kbC c) (bxC c) 20 (some (1,1)) [] vs=some ([],some ((1,1),[],vs,((c.l1:Nat):Int))):=by
 unfold tgoF
 rw [show setF (kbC c) (tfu (kbC c)) (some (1,1))=some (some (1,1)) from rfl]
 exact ao5 (s:=.wait (c.l1:Nat) [] (1,2)) rfl rfl
theorem ce1 {c:Cnt}(h:0<c.ld) (vs:List Int):tgoF (kbC c) (bxC c) 20 (some (0,1)) [] vs=some ([],some ((1,0),[],vs,((c.l0:Nat):Int))):=by
 have hz:lz c=1:=if_pos h
 have e:kbC c=⟨false,none,[.wait (c.ld:Nat) [] (0,1),.loop 1]⟩::(kbC c).tail:=by
  unfold kbC
  rw [hz]
  rfl
 have t1:setF (kbC c) (tfu (kbC c)) (some (0,1))=some (some (0,1)):=by rw [e]; rfl
 have t2:stAt (kbC c) (0,1)=some (.loop 1):=by rw [e]; rfl
 unfold tgoF
 rw [t1]
 show goF (kbC c) (bxC c) 20 (some (0,1)) [] vs=_
 rw [ac2 (s:=.loop 1) (sd:=[]) (o2:=some (1,0)) (stk2:=[]) (vs2:=vs) t2 rfl,at0]
 rfl
def sd0C (c:Cnt):Std:=if 0<c.ld then ((0,0),[],[0,0,0],(c.ld:Nat)) else ((1,0),[],[0,0,0],(c.l0:Nat))
theorem begC (c:Cnt):tgoF (kbC c) (bxC c) 20 (some (0,0)) [] [0,0,0]=some ([],some (sd0C c)):=by
 unfold sd0C
 by_cases h:0<c.ld
 · have hz:lz c=1:=if_pos h
   have e:kbC c=⟨false,none,[.wait (c.ld:Nat) [] (0,1),.loop 1]⟩::(kbC c).tail:=by
    unfold kbC
    rw [hz]
    rfl
   have t1:setF (kbC c) (tfu (kbC c)) (some (0,0))=some (some (0,0)):=by rw [e]; rfl
   have t2:stAt (kbC c) (0,0)=some (.wait (c.ld:Nat) [] (0,1)):=by rw [e]; rfl
   rw [if_pos h]
   unfold tgoF
   rw [t1]
   exact ao5 t2 rfl
 · have hz:lz c=0:=if_neg h
   have e:kbC c=⟨false,none,[.loop 1]⟩::(kbC c).tail:=by
    unfold kbC
    rw [hz]
    rfl
   have t1:setF (kbC c) (tfu (kbC c)) (some (0,0))=some (some (0,0)):=by rw [e]; rfl
   have t2:stAt (kbC c) (0,0)=some (.loop 1):=by rw [e]; rfl
   rw [if_neg h]
   unfold tgoF
   rw [t1]
   show goF (kbC c) (bxC c) 20 (some (0,0)) [] [0,0,0]=_
   rw [ac2 (s:=.loop 1) (sd:=[]) (o2:=some (1,0)) (stk2:=[]) (vs2:=[0,0,0]) t2 rfl,at0]
   rfl
section
variable {α:Type} [DecidableEq α]
theorem aj6 {most:Nat}{k:α}{row:List α}(hk:k∈row):∀ {ks:List α},(∀ x∈ks,x=k)→addL most row ks=some row
 | [],_=>rfl
 | x::ks,h=>by
   obtain rfl:=h x (by simp)
   unfold addL
   rw [if_pos hk]
   exact aj6 hk fun y hy=>h y (by simp [hy])
theorem bi3 {most:Nat}{k:α}{row:List α}(hk:k∉row) {ks:List α}(h0:ks≠[]) (h:∀ x∈ks,x=k):addL most row ks=if row.length=most then none else some (row++[k]):=by
 cases ks with
 | nil=>exact absurd rfl h0
 | cons x ks =>
   obtain rfl:=h x (by simp)
   unfold addL
   rw [if_neg hk]
   by_cases hm:row.length=most
   · rw [if_pos hm,if_pos hm]
   · rw [if_neg hm,if_neg hm]
     exact aj6 (by simp) fun y hy=>h y (by simp [hy])
theorem bv7 {nx:α→List α}{f:Nat→α}{N L most:Nat}(hL:L<N) (inj:∀ i j,i<N→j<N→f i=f j→i=j) (per:f N=f L) (hn0:∀ i,i<N→nx (f i)≠[]) (hnx:∀ i,i<N→∀ x∈nx (f i),x=f (i+1)):∀ (d p:Nat),p+d+1=N→p+1≤most→srL nx most (most+1 - p) p ((List.range (p+1)).map f)=if N≤most then some ((List.range N).map f) else none:=by
 intro d
 induction d with
 | zero =>
   intro p hp hm
   have e:((List.range (p+1)).map f)[p]?=some (f p):=by rw [List.getElem?_map,List.getElem?_range (by omega)]; rfl
   obtain rfl:N=p+1:=by omega
   rw [show most+1 - p=(most - p)+1 by omega,ay3 e,aj6 (k:=f L) (List.mem_map.mpr ⟨L,List.mem_range.mpr hL,rfl⟩) (fun x hx=>by rw [hnx p (by omega) x hx,per]),if_pos hm]
   show srL nx most (most - p) (p+1) _=_
   rw [an8 (by simp)]
 | succ d ih =>
   intro p hp hm
   have e:((List.range (p+1)).map f)[p]?=some (f p):=by rw [List.getElem?_map,List.getElem?_range (by omega)]; rfl
   have hnm:f (p+1)∉(List.range (p+1)).map f:=fun z=>by
    obtain ⟨i,hi,e⟩:=List.mem_map.mp z
    have hi:=List.mem_range.mp hi
    have:=inj i (p+1) (by omega) (by omega) e
    omega
   rw [show most+1 - p=(most - p)+1 by omega,ay3 e,bi3 hnm (hn0 p (by omega)) (hnx p (by omega)),List.length_map,List.length_range]
   by_cases hf:p+1=most
   · rw [if_pos hf,if_neg (by omega)]
     rfl
   · rw [if_neg hf]
     have:=ih (p+1) (by omega) (by omega)
     rw [List.range_succ,List.map_append] at this
     rw [← this,show most+1 - (p+1)=most - p by omega]
     rfl
end
theorem c80 {β:Type} [BEq β] [LawfulBEq β] {k:β}{l:List β}(h:k∈l):l[l.idxOf k]?=some k:=by
 rw [List.getElem?_eq_getElem (List.idxOf_lt_length_of_mem h)]
 simp
theorem az2 {β:Type} [BEq β] [LawfulBEq β] {f:Nat→β}{N k:Nat}(inj:∀ i j,i<N→j<N→f i=f j→i=j) (hk:k<N):((List.range N).map f).idxOf (f k)=k:=by
 have hm:f k∈(List.range N).map f:=List.mem_map.mpr ⟨k,List.mem_range.mpr hk,rfl⟩
 have hl:=List.idxOf_lt_length_of_mem hm
 have hg:=(c80 hm)
 rw [List.length_map,List.length_range] at hl
 rw [List.getElem?_map,List.getElem?_range hl] at hg
 exact inj _ _ hl hk (Option.some.inj hg)
def vsI (c:Cnt) (q:Nat):List Int:=[((q % c.s0:Nat):Int),((q / c.s0 % c.s1:Nat):Int),((q / c.s0 / c.s1 % c.s2:Nat):Int)]
def tC (c:Cnt):Nat:=c.l0+c.l1
def a36 (c:Cnt):Nat:=c.s0*c.s1*c.s2*tC c
def sdI (c:Cnt) (i:Nat):Std:=if i<c.ld then ((0,0),[],[0,0,0],((c.ld - i:Nat):Int)) else if (i - c.ld) % tC c<c.l0 then ((1,0),[],vsI c ((i - c.ld) / tC c),((c.l0 - (i - c.ld) % tC c:Nat):Int)) else ((1,1),[],vsI c ((i - c.ld) / tC c),((tC c - (i - c.ld) % tC c:Nat):Int))
def ad0 (c:Cnt) (i:Nat):List Str:=if c.ld≤i∧(i - c.ld) % tC c=tC c - 1 then [c.w] else []
theorem dm1 {q b:Nat}(hb:0<b):((q % b+1) % b=0→(q+1) / b=q / b+1∧(q+1) % b=0)∧((q % b+1) % b≠0→(q+1) / b=q / b∧(q+1) % b=q % b+1∧q % b+1<b):=by
 have h1:=Nat.div_add_mod q b
 have h2:=Nat.mod_lt q hb
 generalize hd:q / b=d at *
 generalize hr:q % b=r at *
 subst h1
 by_cases h:r+1<b
 · rw [Nat.mod_eq_of_lt h]
   refine ⟨fun z=>by omega,fun _=>⟨?_,?_,h⟩⟩
   · rw [Nat.add_assoc,Nat.mul_add_div hb,Nat.div_eq_of_lt h]; rfl
   · rw [Nat.add_assoc,Nat.mul_add_mod,Nat.mod_eq_of_lt h]
 · obtain rfl:b=r+1:=by omega
   rw [Nat.mod_self]
   refine ⟨fun _=>⟨?_,?_⟩,fun z=>absurd rfl z⟩
   · rw [Nat.add_assoc,Nat.mul_add_div hb,Nat.div_self hb]
   · rw [Nat.add_assoc,Nat.mul_add_mod,Nat.mod_self]
theorem c81 {c:Cnt}(h:c.Ok) (q:Nat):incC c ((q % c.s0:Nat):Int) ((q / c.s0 % c.s1:Nat):Int) ((q / c.s0 / c.s1 % c.s2:Nat):Int)=vsI c (q+1):=by
 have a0:=h.a0
 have a1:=h.a1
 have a2:=h.a2
 obtain ⟨u1,u2⟩:=dm1 (q:=q) (b:=c.s0) (by omega)
 obtain ⟨v1,v2⟩:=dm1 (q:=q / c.s0) (b:=c.s1) (by omega)
 have cst:∀ (k b:Nat),((k:Int)+1) % (b:Nat)=(((k+1) % b:Nat):Int):=fun k b=>by norm_cast
 unfold incC vsI
 rw [cst,cst,cst]
 by_cases h1:(q % c.s0+1) % c.s0=0
 · rw [if_pos (by exact_mod_cast h1),(u1 h1).1,(u1 h1).2]
   by_cases h2:(q / c.s0 % c.s1+1) % c.s1=0
   · rw [if_pos (by exact_mod_cast h2),(v1 h2).1,(v1 h2).2]
     simp only [List.cons.injEq,and_true]
     refine ⟨rfl,rfl,?_⟩
     rw [Nat.mod_add_mod]
   · rw [if_neg (by exact_mod_cast h2),(v2 h2).1,(v2 h2).2.1,Nat.mod_eq_of_lt (v2 h2).2.2]
     rfl
 · rw [if_neg (by exact_mod_cast h1),(u2 h1).1,(u2 h1).2.1,Nat.mod_eq_of_lt (u2 h1).2.2]
theorem bv8 (e:Tr):weF [] e=none:=by
 unfold weF
 split
 · rfl
 · rfl
theorem ba5 {c:Cnt}{i:Nat}(h:i<c.ld):sdI c i=((0,0),[],[0,0,0],((c.ld - i:Nat):Int)):=if_pos h
theorem ba6 {c:Cnt}{m:Nat}(h:m % tC c<c.l0):sdI c (c.ld+m)=((1,0),[],vsI c (m / tC c),((c.l0 - m % tC c:Nat):Int)):=by
 unfold sdI
 rw [if_neg (Nat.not_lt.mpr (Nat.le_add_right _ _)),Nat.add_sub_cancel_left,if_pos h]
theorem bv9 {c:Cnt}{m:Nat}(h:¬ m % tC c<c.l0):sdI c (c.ld+m)=((1,1),[],vsI c (m / tC c),((tC c - m % tC c:Nat):Int)):=by
 unfold sdI
 rw [if_neg (Nat.not_lt.mpr (Nat.le_add_right _ _)),Nat.add_sub_cancel_left,if_neg h]
theorem ce2 (c:Cnt):vsI c 0=[0,0,0]:=by simp [vsI]
theorem ba7 {c:Cnt}(h:c.Ok):sdI c c.ld=((1,0),[],[0,0,0],((c.l0:Nat):Int)):=by
 have b0:=h.b0
 have:=ba6 (c:=c) (m:=0) (by rw [Nat.zero_mod]; omega)
 rw [Nat.zero_mod,Nat.zero_div,ce2] at this
 exact this
theorem ba8 {c:Cnt}{p w:Pl}{vs:List Int}{l l':Int}{e:Tr}(h:stAt (kbC c) p=some (.wait l' [] w)) (h0:l≠0):as7 (kbC c) (bxC c) 20 (some (p,[],vs,l)) e=if l=1 then tgoF (kbC c) (bxC c) 20 (some w) [] vs else some ([],some (p,[],vs,l - 1)):=by
 simp only [as7,h,bv8]
 unfold ao1
 simp only
 rw [if_neg h0]
 by_cases h1:l=1
 · rw [if_pos h1,if_pos h1]
 · rw [if_neg h1,if_neg h1]
theorem c82 {c:Cnt}(h:c.Ok) (i:Nat) (e:Tr):as7 (kbC c) (bxC c) 20 (some (sdI c i)) e=some (ad0 c i,some (sdI c (i+1))):=by
 have b0:=h.b0
 have b1:=h.b1
 have ht:tC c=c.l0+c.l1:=rfl
 by_cases hi:i<c.ld
 · have e0:kbC c=⟨false,none,[.wait (c.ld:Nat) [] (0,1),.loop 1]⟩::(kbC c).tail:=by
    unfold kbC
    rw [show lz c=1 from if_pos (by omega)]
    rfl
   have t2:stAt (kbC c) (0,0)=some (.wait (c.ld:Nat) [] (0,1)):=by rw [e0]; rfl
   have hs:ad0 c i=[]:=if_neg (fun z=>by omega)
   rw [hs,ba5 hi,ba8 t2 (by omega)]
   by_cases h1:i+1=c.ld
   · rw [if_pos (by omega),ce1 (by omega),h1,ba7 h]
   · rw [if_neg (by omega),ba5 (by omega),show ((c.ld - i:Nat):Int) - 1=((c.ld - (i+1):Nat):Int) by omega]
 · obtain ⟨m,rfl⟩:∃ m,i=c.ld+m:=⟨i - c.ld,by omega⟩
   have hr:=Nat.mod_lt m (show 0<tC c by omega)
   obtain ⟨u1,u2⟩:=dm1 (q:=m) (b:=tC c) (by omega)
   have hne:m % tC c+1<tC c→(m % tC c+1) % tC c≠0:=fun z=>by rw [Nat.mod_eq_of_lt z]; omega
   have hno:m % tC c+1<tC c→ad0 c (c.ld+m)=[]:=fun z=>if_neg (fun w=>by rw [Nat.add_sub_cancel_left] at w; omega)
   rw [Nat.add_assoc]
   by_cases h0:m % tC c<c.l0
   · obtain ⟨d1,d2,_⟩:=u2 (hne (by omega))
     rw [hno (by omega),ba6 h0,ba8 (l':=(c.l0:Nat)) (w:=(1,1)) rfl (by omega)]
     by_cases h1:m % tC c+1=c.l0
     · rw [if_pos (by omega),bv6,bv9 (by omega),d1,d2,show (tC c - (m % tC c+1):Nat)=c.l1 by omega]
     · rw [if_neg (by omega),ba6 (by omega),d1,d2,show ((c.l0 - m % tC c:Nat):Int) - 1=((c.l0 - (m % tC c+1):Nat):Int) by omega]
   · rw [bv9 h0,ba8 (l':=(c.l1:Nat)) (w:=(1,2)) rfl (by omega)]
     by_cases h1:m % tC c+1=tC c
     · obtain ⟨d1,d2⟩:=u1 (by rw [h1,Nat.mod_self])
       have hy:ad0 c (c.ld+m)=[c.w]:=if_pos ⟨by omega,by rw [Nat.add_sub_cancel_left]; omega⟩
       rw [if_pos (by omega),hy,ba6 (by omega),d1,d2]
       rw [show vsI c (m / tC c)=[((m / tC c % c.s0:Nat):Int),((m / tC c / c.s0 % c.s1:Nat):Int),((m / tC c / c.s0 / c.s1 % c.s2:Nat):Int)] from rfl,ce0,c81 h]
       rfl
     · obtain ⟨d1,d2,_⟩:=u2 (hne (by omega))
       rw [if_neg (by omega),hno (by omega),bv9 (by omega),d1,d2,show ((tC c - m % tC c:Nat):Int) - 1=((tC c - (m % tC c+1):Nat):Int) by omega]
theorem c83 {c:Cnt}(h:c.Ok):sdI c 0=sd0C c:=by
 unfold sd0C
 by_cases h1:0<c.ld
 · rw [ba5 h1,if_pos h1]
   rfl
 · rw [if_neg h1,←ba7 h,show c.ld=0 by omega]
theorem ba9 {c:Cnt}(h:c.Ok):sdI c (c.ld+a36 c)=sdI c c.ld:=by
 have a0:=h.a0
 have a1:=h.a1
 have a2:=h.a2
 have b0:=h.b0
 have ht:tC c=c.l0+c.l1:=rfl
 have hT:0<tC c:=by omega
 have m0:a36 c % tC c=0:=by unfold a36; rw [Nat.mul_mod_left]
 have d0:a36 c / tC c=c.s0*c.s1*c.s2:=by unfold a36; rw [Nat.mul_div_cancel _ hT]
 have:vsI c (c.s0*c.s1*c.s2)=[0,0,0]:=by
  unfold vsI
  rw [Nat.mul_assoc,Nat.mul_mod_right,Nat.mul_div_cancel_left _ (by omega:0<c.s0),Nat.mul_mod_right,Nat.mul_div_cancel_left _ (by omega:0<c.s1),Nat.mod_self]
  rfl
 rw [ba7 h,ba6 (by omega),m0,d0,this]
 rfl
theorem bw0 {c:Cnt}(h:c.Ok):∀ i j,i<c.ld+a36 c→j<c.ld+a36 c→sdI c i=sdI c j→i=j:=by
 intro i j hi hj e
 have a0:=h.a0
 have a1:=h.a1
 have a2:=h.a2
 have b0:=h.b0
 have b1:=h.b1
 have ht:tC c=c.l0+c.l1:=rfl
 have hT:0<tC c:=by omega
 have key:∀ m n,m<a36 c→n<a36 c→m % tC c=n % tC c→vsI c (m / tC c)=vsI c (n / tC c)→m=n:=fun m n hm hn h1 h2=>by
  have hq:∀ k,k<a36 c→k / tC c / c.s0 / c.s1<c.s2:=fun k hk=>by
   rw [Nat.div_lt_iff_lt_mul (by omega),Nat.div_lt_iff_lt_mul (by omega),Nat.div_lt_iff_lt_mul (by omega)]
   rw [show c.s2*c.s1*c.s0*tC c=a36 c by unfold a36; rw [Nat.mul_comm c.s2,Nat.mul_comm (c.s1*c.s2),←Nat.mul_assoc]]
   exact hk
  have hm':=hq m hm
  have hn':=hq n hn
  simp only [vsI,List.cons.injEq,and_true] at h2
  obtain ⟨x1,x2,x3⟩:=h2
  have x1:=Int.ofNat.inj x1
  have x2:=Int.ofNat.inj x2
  have x3:=Int.ofNat.inj x3
  rw [Nat.mod_eq_of_lt hm',Nat.mod_eq_of_lt hn'] at x3
  have y1:m / tC c / c.s0=n / tC c / c.s0:=by
   rw [← Nat.div_add_mod (m / tC c / c.s0) c.s1,←Nat.div_add_mod (n / tC c / c.s0) c.s1,x3,x2]
  have y2:m / tC c=n / tC c:=by
   rw [← Nat.div_add_mod (m / tC c) c.s0,←Nat.div_add_mod (n / tC c) c.s0,y1,x1]
  rw [← Nat.div_add_mod m (tC c),←Nat.div_add_mod n (tC c),y2,h1]
 unfold sdI at e
 by_cases ci:i<c.ld
 · rw [if_pos ci] at e
   by_cases cj:j<c.ld
   · rw [if_pos cj] at e
     simp only [Prod.mk.injEq] at e
     omega
   · rw [if_neg cj] at e
     split at e <;> simp only [Prod.mk.injEq] at e <;> omega
 · rw [if_neg ci] at e
   have hmi:=Nat.mod_lt (i - c.ld) hT
   have hmj:=Nat.mod_lt (j - c.ld) hT
   by_cases cj:j<c.ld
   · rw [if_pos cj] at e
     split at e <;> simp only [Prod.mk.injEq] at e <;> omega
   · rw [if_neg cj] at e
     have:i - c.ld=j - c.ld:=by
      split at e
      · split at e
        · simp only [Prod.mk.injEq,true_and] at e
          exact key _ _ (by omega) (by omega) (by omega) e.1
        · simp only [Prod.mk.injEq] at e
          omega
      · split at e
        · simp only [Prod.mk.injEq] at e
          omega
        · simp only [Prod.mk.injEq,true_and] at e
          exact key _ _ (by omega) (by omega) (by omega) e.1
     omega
noncomputable def stC (c:Cnt) (r:Option Std) (e:Tr):List Str×Option Std:=(as7 (kbC c) (bxC c) 20 r e).getD ([],none)
theorem bb0 {c:Cnt}(h:c.Ok) (i:Nat) (e:Tr):stC c (some (sdI c i)) e=(ad0 c i,some (sdI c (i+1))):=by
 unfold stC
 rw [c82 h]
 rfl
def okC (c:Cnt) (r:Option Std):Prop:=∃ i,r=some (sdI c i)
def rowC (c:Cnt):List (Option Std):=(List.range (c.ld+a36 c)).map fun i=>some (sdI c i)
theorem bw1 (c:Cnt) (i:Nat):(sdI c i).2.2.1.length=3∧(sdI c i).2.1=[]:=by
 unfold sdI
 split
 · exact ⟨rfl,rfl⟩
 · split <;> exact ⟨rfl,rfl⟩
theorem az3 {c:Cnt}(h:c.Ok):0<a36 c:=by
 have a0:=h.a0
 have a1:=h.a1
 have a2:=h.a2
 have b0:=h.b0
 exact Nat.mul_pos (Nat.mul_pos (Nat.mul_pos (by omega) (by omega)) (by omega)) (by show 0<c.l0+c.l1; omega)
theorem aw0 {c:Cnt}(h:c.Ok):∀ i j,i<c.ld+a36 c→j<c.ld+a36 c→(some (sdI c i):Option Std)=some (sdI c j)→i=j:=fun i j h1 h2 e=>bw0 h i j h1 h2 (Option.some.inj e)
theorem srC {c:Cnt}(h:c.Ok) {es:List Tr}(h0:es≠[]):srS es (stC c) (some (sd0C c))=if c.ld+a36 c≤2000 then some (rowC c) else none:=by
 have hp:=az3 h
 have:=bv7 (nx:=nxL es (stC c)) (f:=fun i=>some (sdI c i)) (N:=c.ld+a36 c) (L:=c.ld) (most:=2000) (by omega) (aw0 h) (by rw [ba9 h]) (fun i _ z=>h0 (by simpa [nxL] using z)) (fun i _ x hx=>by
  obtain ⟨e,_,rfl⟩:=List.mem_map.mp hx
  rw [bb0 h]) (c.ld+a36 c - 1) 0 (by omega) (by omega)
 rw [← c83 h]
 exact this
def ac3 (c:Cnt) (i:Nat):Nat:=if i+1=c.ld+a36 c then c.ld else i+1
theorem ce3 {c:Cnt}(h:c.Ok) (es:List Tr) {i:Nat}(hi:i<c.ld+a36 c):aj3 es (stC c) (rowC c) (some (sdI c i))=es.map fun _=>(ad0 c i,ac3 c i):=by
 have hp:=az3 h
 unfold aj3
 refine List.map_congr_left fun e _=>?_
 rw [bb0 h]
 congr 1
 unfold ac3 rowC
 by_cases hc:i+1=c.ld+a36 c
 · rw [if_pos hc,hc]
   have:=az2 (f:=fun i=>(some (sdI c i):Option Std)) (k:=c.ld) (aw0 h) (by omega)
   rw [← ba9 h] at this
   exact this
 · rw [if_neg hc]
   exact az2 (f:=fun i=>(some (sdI c i):Option Std)) (k:=i+1) (aw0 h) (by omega)
theorem outC {c:Cnt}(h:c.Ok) (es:List Tr):outS es (stC c) (rowC c)=(List.range (c.ld+a36 c)).map fun i=>(false,es.map fun _=>(ad0 c i,ac3 c i)):=by
 show (rowC c).map _=_
 rw [rowC,List.map_map]
 refine List.map_congr_left fun i hi=>?_
 show (false,aj3 es (stC c) (rowC c) (some (sdI c i)))=_
 rw [ce3 h es (List.mem_range.mp hi)]
theorem bm1 {H:Hp}{a p1 p2:Addr}{n:Str}(h1:H p1=some (.tup [.str "box",.str n])) (h2:H p2=some (.tup [.str "number",.int 0])) (h:H a=some (.tup [.str "same",.ref p1,.ref p2])):(eqz n).tr.At H (.ref a) []:=by
 simp only [eqz,Cd.tr,Ex.tr,bq3,Tr.At,Tr.Ats]
 exact ⟨a,_,rfl,h,_,_,[],[],rfl,rfl,⟨rfl,rfl⟩,_,_,[],[],rfl,rfl,⟨p1,_,rfl,h1,_,_,[],[],rfl,rfl,⟨rfl,rfl⟩,_,_,[],[],rfl,rfl,⟨rfl,rfl⟩,rfl,rfl⟩,_,_,[],[],rfl,rfl,⟨p2,_,rfl,h2,_,_,[],[],rfl,rfl,⟨rfl,rfl⟩,_,_,[],[],rfl,rfl,⟨rfl,rfl⟩,rfl,rfl⟩,rfl,rfl⟩
theorem bb1 {H:Hp}{a:Addr}{c:Cd}{x y:List Stm}{u1 u2 u3:V}(h:H a=some (.tup [.str "test",u1,u2,u3])) (h1:c.tr.At H u1 []) (h2:BAt H u2 x) (h3:BAt H u3 y):SAt H (.ref a) (.test c x y):=by
 obtain ⟨f2,h2⟩:=h2
 obtain ⟨f3,h3⟩:=h3
 refine ⟨[]++([]++(f2++(f3++[]))),?_⟩
 simp only [Stm.tr,Tr.At,Tr.Ats] at h2 h3 ⊢
 exact ⟨a,_,rfl,h,_,_,[],_,rfl,rfl,⟨rfl,rfl⟩,u1,_,[],_,rfl,rfl,h1,u2,_,f2,_,rfl,rfl,h2,u3,_,f3,[],rfl,rfl,h3,rfl,rfl⟩
theorem c84 {H:Hp}{a:Addr}{w:Str}(h:H a=some (.tup [.str "say",.str w])):SAt H (.ref a) (.plain [.s "say",.s w]):=by
 refine ⟨[],?_⟩
 simp only [Stm.tr,List.map_cons,List.map_nil,Pt.tr]
 exact a61 h a42 a42
theorem aw1 {H:Hp}{a l:Addr}{n:Int}(h:H a=some (.tup [.str "wait",.int n,.ref l])) (hl:H l=some (.lst [])):SAt H (.ref a) (.wait n []):=sat_wait.mpr ⟨a,l,[],rfl,h,hl,Each.nil⟩
theorem ao7 {H:Hp}{v:V}{n:Str}(h:(aj5 n).tr.At H v []):SAt H v (aj5 n):=⟨[],h⟩
def c85 (K:PySem.W.Frag):Sp:=fun vs H Q _=>∃ (zs ls:Addr) (c:Cnt),vs=[.ref zs,.ref ls,.str c.w,.int (c.ld:Nat)]∧H zs=some (.lst [.int (c.s0:Nat),.int (c.s1:Nat),.int (c.s2:Nat)])∧H ls=some (.lst [.int (c.l0:Nat),.int (c.l1:Nat)])∧c.Ok ∧
 ∀ sp lb lt bvs tvs H',Same H H'→H' sp=some (.tup [.ref lb,.ref lt])→H' lb=some (.lst bvs)→Each (BxAt H') bvs (bxC c)→H' lt=some (.lst tvs)→Each (TkN H') tvs (tsC c)→Q (.ref sp) H'
theorem aj7 (T:Txt K mg t):FnOk P w K mg base CX0 2 t.a__law_counters t.fd__law_counters ["sizes","limits","word","lead"] (c85 K):=by
 have G__law_plus:=av9 (P:=P) (w:=w) (base:=base) T
 refine T.f__law_counters.F.ok sc_law_counters (fun vs H Q E h=>?_) (fun cdv A outer s H vs Q E hr h=>?_)
 · obtain ⟨zs,ls,c,rfl,_⟩:=h
   rfl
 · obtain ⟨zs,ls,c,rfl,hz,hls,hc,q⟩:=h
   refine ⟨_,(@a02 _ _ _ _ _ (@a14 _ _ 4 _ _ _ _ sc_law_counters.nd rfl (by walk_at "o") (@a22 _ _ _ _ (@a00 _ _ _ _ _ (@a12 _ _ _ _ _ (@a00 _ _ _ _ _ (@a15 _ _ _ _) (@a00 _ _ _ _ _ (@a20 _ _ _ _ _ _ _ (a23 K) (pv 0) (@a03 _ _ _ _) (fun _ _=>rfl)) (@a01 _) (by rfl)) (by rfl))) (@a00 _ _ _ _ _ (@a12 _ _ _ _ _ (@a00 _ _ _ _ _ (@a15 _ _ _ _) (@a00 _ _ _ _ _ (@a20 _ _ _ _ _ _ _ (a23 K) (pv 0) (@a03 _ _ _ _) (fun _ _=>rfl)) (@a01 _) (by rfl)) (by rfl))) (@a00 _ _ _ _ _ (@a12 _ _ _ _ _ (@a00 _ _ _ _ _ (@a15 _ _ _ _) (@a00 _ _ _ _ _ (@a20 _ _ _ _ _ _ _ (a23 K) (pv 0) (@a03 _ _ _ _) (fun _ _=>rfl)) (@a01 _) (by rfl)) (by rfl))) (@a01 _) (by rfl)) (by rfl)) (by rfl))) (by rfl) (by walk_at "o"))
    (@a02 _ _ _ _ _ (@a14 _ _ 5 _ _ _ _ sc_law_counters.nd rfl (by walk_at "o") (@a22 _ _ _ _ (@a00 _ _ _ _ _ (@a18 _ _ _ _ _ _ _ _ _ _ _ _ _ _ _ _ G__law_plus (hr.mono (by omega)) rfl T.f__law_plus.m T.f__law_plus.F.kp T.f__law_plus.b .nil a28 (@a00 _ _ _ _ _ (@a15 _ _ _ _) (@a01 _) (by rfl)) (by decide) (by rfl) (by rfl)) (@a00 _ _ _ _ _ (@a12 _ _ _ _ _ (@a00 _ _ _ _ _ (@a15 _ _ _ _) (@a00 _ _ _ _ _ (@a12 _ _ _ _ _ (@a00 _ _ _ _ _ (@a15 _ _ _ _) (@a00 _ _ _ _ _ (@a12 _ _ _ _ _ (@a00 _ _ _ _ _ (@a15 _ _ _ _) (@a00 _ _ _ _ _ (@a15 _ _ _ _) (@a01 _) (by rfl)) (by rfl))) (@a00 _ _ _ _ _ (@a12 _ _ _ _ _ (@a00 _ _ _ _ _ (@a15 _ _ _ _) (@a00 _ _ _ _ _ (@a03 _ _ _ _) (@a01 _) (by rfl)) (by rfl))) (@a01 _) (by rfl)) (by rfl)) (by rfl))) (@a00 _ _ _ _ _ (@a22 _ _ _ _ (@a00 _ _ _ _ _ (@a18 _ _ _ _ _ _ _ _ _ _ _ _ _ _ _ _ G__law_plus (hr.mono (by omega)) rfl T.f__law_plus.m T.f__law_plus.F.kp T.f__law_plus.b .nil a28 (@a00 _ _ _ _ _ (@a15 _ _ _ _) (@a01 _) (by rfl)) (by decide) (by rfl) (by rfl)) (@a01 _) (by rfl))) (@a00 _ _ _ _ _ (@a22 _ _ _ _ (@a01 _)) (@a01 _) (by rfl)) (by rfl)) (by rfl)) (by rfl))) (@a01 _) (by rfl)) (by rfl))) (by rfl) (by walk_at "o"))
    (@a02 _ _ _ _ _ (@a14 _ _ 6 _ _ _ _ sc_law_counters.nd rfl (by walk_at "o") (@a22 _ _ _ _ (@a00 _ _ _ _ _ (@a12 _ _ _ _ _ (@a00 _ _ _ _ _ (@a15 _ _ _ _) (@a00 _ _ _ _ _ (@a20 _ _ _ _ _ _ _ (a23 K) (pv 1) (@a03 _ _ _ _) (fun _ _=>rfl)) (@a00 _ _ _ _ _ (@a22 _ _ _ _ (@a01 _)) (@a01 _) (by rfl)) (by rfl)) (by rfl))) (@a00 _ _ _ _ _ (@a12 _ _ _ _ _ (@a00 _ _ _ _ _ (@a15 _ _ _ _) (@a00 _ _ _ _ _ (@a20 _ _ _ _ _ _ _ (a23 K) (pv 1) (@a03 _ _ _ _) (fun _ _=>rfl)) (@a00 _ _ _ _ _ (@a22 _ _ _ _ (@a01 _)) (@a01 _) (by rfl)) (by rfl)) (by rfl))) (@a00 _ _ _ _ _ (@a12 _ _ _ _ _ (@a00 _ _ _ _ _ (@a15 _ _ _ _) (@a00 _ _ _ _ _ (pv 2) (@a01 _) (by rfl)) (by rfl))) (@a00 _ _ _ _ _ (@a18 _ _ _ _ _ _ _ _ _ _ _ _ _ _ _ _ G__law_plus (hr.mono (by omega)) rfl T.f__law_plus.m T.f__law_plus.F.kp T.f__law_plus.b .nil a28 (@a00 _ _ _ _ _ (@a15 _ _ _ _) (@a01 _) (by rfl)) (by decide) (by rfl) (by rfl)) (@a01 _) (by rfl)) (by rfl)) (by rfl)) (by rfl))) (by rfl) (by walk_at "o"))
    (@a02 _ _ _ _ _ (@a65 _ _ _ _ (@aa7 _ K _ _ _ _ _ _ _ _ _ _ _ PySem.F.plainAttrs_list PySem.F.slot_list_append PySem.F.type_list_append a66 (pv 6) (@a00 _ _ _ _ _ (@a12 _ _ _ _ _ (@a00 _ _ _ _ _ (@a15 _ _ _ _) (@a00 _ _ _ _ _ (@a12 _ _ _ _ _ (@a00 _ _ _ _ _ (@a15 _ _ _ _) (@a00 _ _ _ _ _ (@a12 _ _ _ _ _ (@a00 _ _ _ _ _ (@a15 _ _ _ _) (@a00 _ _ _ _ _ (@a15 _ _ _ _) (@a01 _) (by rfl)) (by rfl))) (@a00 _ _ _ _ _ (@a12 _ _ _ _ _ (@a00 _ _ _ _ _ (@a15 _ _ _ _) (@a00 _ _ _ _ _ (@a03 _ _ _ _) (@a01 _) (by rfl)) (by rfl))) (@a01 _) (by rfl)) (by rfl)) (by rfl))) (@a00 _ _ _ _ _ (pv 5) (@a00 _ _ _ _ _ (@a22 _ _ _ _ (@a01 _)) (@a01 _) (by rfl)) (by rfl)) (by rfl)) (by rfl))) (@a01 _) (by rfl)) (by rfl) (by rfl) (by rfl) (by rfl) (by rfl) (by rfl)) (by rfl))
    (@a05 _ _ _ (@a19 _ _ _ _ (@a12 _ _ _ _ _ (@a00 _ _ _ _ _ (pv 4) (@a00 _ _ _ _ _ (@a22 _ _ _ _ (@a00 _ _ _ _ _ (@a12 _ _ _ _ _ (@a00 _ _ _ _ _ (@a15 _ _ _ _) (@a00 _ _ _ _ _ (@a31 _ _ _ _ _ _ _ _ a32 (@a31 _ _ _ _ _ _ _ _ ax4 (@a22 _ _ _ _ (@a00 _ _ _ _ _ (@a12 _ _ _ _ _ (@a00 _ _ _ _ _ (@a15 _ _ _ _) (@a00 _ _ _ _ _ (pv 3) (@a00 _ _ _ _ _ (@a22 _ _ _ _ (@a01 _)) (@a01 _) (by rfl)) (by rfl)) (by rfl))) (@a01 _) (by rfl))) (@a41 _ _ _ _ _ _ _ _ _ bj6 (by rfl) T.z_int bj9 (@a00 _ _ _ _ _ (@a69 _ _ _ _ _ _ _ _ bc1 (pv 3) (@a03 _ _ _ _) (nomark _)) (@a01 _) (by rfl)) (by decide) (by decide) (by rfl) (by rfl))) (@a22 _ _ _ _ (@a00 _ _ _ _ _ (@a12 _ _ _ _ _ (@a00 _ _ _ _ _ (@a15 _ _ _ _) (@a00 _ _ _ _ _ (pv 6) (@a01 _) (by rfl)) (by rfl))) (@a01 _) (by rfl)))) (@a01 _) (by rfl)) (by rfl))) (@a01 _) (by rfl))) (@a01 _) (by rfl)) (by rfl))))))))),?_⟩
   have sl:(1000000:Nat)≤sizeLine:=le_line (Nat.le_refl _)
   walk_at "go"
   refine a48 (SqL.of hz) (a04 (j:=0) rfl) ?_
   walk_at "run"
   intro p1 H1 f1 s1 e1
   walk_at "run"
   refine a48 (SqL.of (s1 _ _ hz)) (a04 (j:=1) rfl) ?_
   walk_at "run"
   intro p2 H2 f2 s2 e2
   walk_at "run"
   refine a48 (SqL.of (s2 _ _ (s1 _ _ hz))) (a04 (j:=2) rfl) ?_
   walk_at "run"
   intro p3 H3 f3 s3 e3
   walk_at "run"
   intro lb H4 f4 s4 e4
   walk_at "run"
   have s14:=s2.trans (s3.trans s4)
   have s04:=s1.trans s14
   have hbx:Each (BxAt H4) [.ref p1,.ref p2,.ref p3] (bxC c):=((Each.nil.snoc (x:=((Str.ofString "a",((c.s0:Nat):Int)):Str×Int)) ⟨p1,rfl,s14 _ _ e1⟩).snoc (x:=((Str.ofString "b",((c.s1:Nat):Int)):Str×Int)) ⟨p2,rfl,s4 _ _ (s3 _ _ e2)⟩).snoc (x:=((Str.ofString "c",((c.s2:Nat):Int)):Str×Int)) ⟨p3,rfl,s4 _ _ e3⟩
   refine ⟨Str.ofString "b",rfl,fun pb H5 s5 hb=>?_⟩
   walk_at "run"
   intro q1 H6 f6 s6 e6
   walk_at "run"
   intro q2 H7 f7 s7 e7
   walk_at "run"
   intro q3 H8 f8 s8 e8
   walk_at "run"
   have s68:=s7.trans s8
   have hcb:(eqz "b").tr.At H8 (.ref q3) []:=bm1 (s68 _ _ e6) (s8 _ _ e7) e8
   refine ⟨Str.ofString "c",rfl,fun pc H9 s9 hpc=>?_⟩
   walk_at "run"
   intro q4 H10 f10 s10 e10
   walk_at "run"
   intro q5 H11 f11 s11 e11
   walk_at "run"
   intro q6 H12 f12 s12 e12
   walk_at "run"
   have hB10:BAt H10 (.ref q4) [aj5 "c"]:=bat_iff.mpr ⟨q4,_,rfl,e10,Each.nil.snoc ((ao7 hpc).same s10)⟩
   have hB11:BAt H11 (.ref q5) []:=bat_iff.mpr ⟨q5,_,rfl,e11,Each.nil⟩
   have hT12:SAt H12 (.ref q6) (.test (eqz "b") [aj5 "c"] []):=bb1 e12 (hcb.same (s9.trans (s10.trans (s11.trans s12)))) (hB10.same (s11.trans s12)) (hB11.same s12)
   intro q7 H13 f13 s13 e13
   walk_at "run"
   have s513:=(s6.trans s68).trans ((s9.trans (s10.trans (s11.trans s12))).trans s13)
   have hThird:BAt H13 (.ref q7) am0:=bat_iff.mpr ⟨q7,_,rfl,e13,(Each.nil.snoc ((ao7 hb).same s513)).snoc (hT12.same s13)⟩
   have s013:=(s04.trans s5).trans s513
   refine a48 (SqL.of (s013 _ _ hls)) (a04 (j:=0) rfl) ?_
   walk_at "run"
   intro r1 H14 f14 s14' e14
   walk_at "run"
   intro r2 H15 f15 s15 e15
   walk_at "run"
   refine a48 (SqL.of (s15 _ _ (s14' _ _ (s013 _ _ hls)))) (a04 (j:=1) rfl) ?_
   walk_at "run"
   intro r3 H16 f16 s16 e16
   walk_at "run"
   intro r4 H17 f17 s17 e17
   walk_at "run"
   intro r5 H18 f18 s18 e18
   walk_at "run"
   refine ⟨Str.ofString "a",rfl,fun pa H19 s19 hpa=>?_⟩
   walk_at "run"
   have s1519:=s16.trans (s17.trans (s18.trans s19))
   have k1:SAt H19 (.ref r2) (.wait (c.l0:Nat) []):=aw1 (s1519 _ _ e15) (s1519 _ _ (s15 _ _ e14))
   have k2:SAt H19 (.ref r4) (.wait (c.l1:Nat) []):=aw1 (s19 _ _ (s18 _ _ e17)) (s19 _ _ (s18 _ _ (s17 _ _ e16)))
   have k3:SAt H19 (.ref r5) (.plain [.s "say",.s c.w]):=c84 (s19 _ _ e18)
   have k4:=ao7 hpa
   have s1319:=s14'.trans (s15.trans s1519)
   intro bd H20 f20 s20 e20
   walk_at "run"
   refine ah8 (SqL.of e20) ?_
   walk_at "run"
   intro t1 H21 f21 s21 e21
   walk_at "run"
   intro t2 H22 f22 s22 e22
   walk_at "run"
   intro t3 H23 f23 s23 e23
   walk_at "run"
   intro t4 H24 f24 s24 e24
   walk_at "run"
   intro t5 H25 f25 s25 e25
   walk_at "run"
   have s2025:=s21.trans (s22.trans (s23.trans (s24.trans s25)))
   have hca:(eqz "a").tr.At H25 (.ref t3) []:=(bm1 (s23 _ _ (s22 _ _ e21)) (s23 _ _ e22) e23).same (s24.trans s25)
   have e20':=s2025 _ _ e20
   refine a91 e20' (by simp; omega) ?_
   have hne5:t5≠bd:=(a27 (s24 _ _ (s23 _ _ (s22 _ _ (s21 _ _ e20)))) f25).symm
   have hne4:t4≠bd:=(a27 (s23 _ _ (s22 _ _ (s21 _ _ e20))) f24).symm
   have s1926:Same H19 (upd H25 bd (.lst ([.ref r2,.ref r4,.ref r5,.ref pa]++[.ref t5]))):=(s20.trans s2025).updNew f20
   have tp:Tups H25 (upd H25 bd (.lst ([.ref r2,.ref r4,.ref r5,.ref pa]++[V.ref t5]))):=Tups.upd e20'
   have e26:upd H25 bd (.lst ([.ref r2,.ref r4,.ref r5,.ref pa]++[V.ref t5])) bd=some (.lst ([.ref r2,.ref r4,.ref r5,.ref pa]++[V.ref t5])):=a17
   have g4:upd H25 bd (.lst ([.ref r2,.ref r4,.ref r5,.ref pa]++[V.ref t5])) t4=some (.lst []):=by rw [a09 hne4]; exact s25 _ _ e24
   have g5:=tp _ _ e25
   have gca:=ac9 hca tp
   generalize upd H25 bd (.lst ([.ref r2,.ref r4,.ref r5,.ref pa]++[V.ref t5]))=H26 at s1926 tp e26 g4 g5 gca ⊢
   have s1326:=s1319.trans s1926
   have s026:=s013.trans s1326
   have k5:SAt H26 (.ref t5) (.test (eqz "a") am0 []):=bb1 g5 gca (hThird.same s1326) (bat_iff.mpr ⟨t4,_,rfl,g4,Each.nil⟩)
   have hBody:BAt H26 (.ref bd) (aa2 c):=bat_iff.mpr ⟨bd,_,rfl,e26,((((Each.nil.snoc (k1.same s1926)).snoc (k2.same s1926)).snoc (k3.same s1926)).snoc (k4.same s1926)).snoc k5⟩
   walk_at "run"
   intro m1 H27 f27 s27 e27
   walk_at "run"
   intro m2 H28 f28 s28 e28
   walk_at "run"
   intro m3 H29 f29 s29 e29
   walk_at "run"
   have hw29:SAt H29 (.ref m2) (.wait (c.ld:Nat) []):=aw1 (s29 _ _ e28) (s29 _ _ (s28 _ _ e27))
   have hint:(if decide ((0:Int)<(c.ld:Nat))=true then (1:Int) else 0)=((lz c:Nat):Int):=by
    unfold lz
    by_cases h0:0<c.ld
    · rw [if_pos (decide_eq_true (by omega)),if_pos h0]; rfl
    · rw [if_neg (by simp; omega),if_neg h0]; rfl
   rw [hint]
   have hlz:lz c≤1:=by unfold lz; split <;> omega
   refine ⟨m3,_,_,rfl,rfl,e29,by omega,by omega,by simp; omega,?_⟩
   rw [Int.toNat_natCast]
   intro m4 H30 f30 s30 e30
   walk_at "run"
   intro m5 H31 f31 s31 e31
   walk_at "run"
   intro m6 H32 f32 s32 e32
   walk_at "run"
   have s2632:=s27.trans (s28.trans (s29.trans (s30.trans (s31.trans s32))))
   have hlp:SAt H32 (.ref m5) (.loop (aa2 c)):=sat_loop.mpr ⟨m5,_,rfl,s32 _ _ e31,hBody.same s2632⟩
   have hrep:∀ k:Nat,Each (SAt H32) (List.replicate k [V.ref m2]).flatten (List.replicate k (Stm.wait (c.ld:Nat) [])):=fun k=>by
    induction k with
    | zero=>exact Each.nil
    | succ k ih =>
      rw [List.replicate_succ',List.flatten_append,List.replicate_succ']
      exact ih.snoc (hw29.same (s30.trans (s31.trans s32)))
   refine b51 (s32 _ _ (s31 _ _ e30)) e32 (by simp; omega) ?_
   intro m7 H33 f33 s33 e33
   walk_at "run"
   have hmain:BAt H33 (.ref m7) (af3 c++[.loop (aa2 c)]):=bat_iff.mpr ⟨m7,_,rfl,e33,(((hrep (lz c)).snoc hlp).mono fun _ _ z=>z.same s33)⟩
   intro m8 H34 f34 s34 e34
   walk_at "run"
   intro lt H35 f35 s35 e35
   walk_at "run"
   intro sp H36 f36 s36 e36
   have s3336:=s34.trans (s35.trans s36)
   have s426:=(s5.trans s513).trans s1326
   have s436:=s426.trans (s2632.trans (s33.trans s3336))
   refine q sp lb lt _ _ H36 (s04.trans s436) e36 (s436 _ _ e4) (hbx.mono fun _ _ z=>z.same s436) (s36 _ _ e35) ?_
   have htk:TkN H36 (.ref m8) ((Str.ofString "main",af3 c++[.loop (aa2 c)]):Str×List Stm):=⟨m8,_,rfl,s36 _ _ (s35 _ _ e34),hmain.same s3336⟩
   exact Each.nil.snoc htk
def ce4:R2:=fun x y H Q=>∃ t fs gs,(Tw.lst t).At H x fs∧(Tw.lst t).At H y gs∧Tw.hs t≤50∧Q (.bl true) H
theorem bi4 {X:Cx}(hu:X.A.units+64<cLine):OpR X (compareOp .Eq) ce4:=by
 intro pins s σ H x y v u Q I rx ry h
 obtain ⟨t,fs,gs,h1,h2,hh,q⟩:=h
 simp only [Tw.At] at h1 h2
 obtain ⟨a,vs,_,rfl,e1,c1,_⟩:=h1
 obtain ⟨b,ws,_,rfl,e2,c2,_⟩:=h2
 cases rx
 cases ry
 obtain ⟨is1,q1,p1,_⟩:=I.list (SqL.of e1)
 obtain ⟨is2,q2,p2,_⟩:=I.list (SqL.of e2)
 have hl:is1.length=is2.length:=by rw [← q1.length,←q2.length,c1.len,c2.len]
 have:=SeqAt.RcAt.lists (A:=X.A) (s:=s) (e:=fun _=>true) p1.isList p2.isList (by simpa using hl) (by omega) (fun j h1 h2=>by
  have:=Tw.eqAts I (A:=X.A.in1) c1 c2 q1 q2 (by rw [a33]; omega) j (by simpa using h1) (by simpa using h2)
  simpa using this) X.prog X.w X.xe (EP X pins σ Q)
 refine this ⟨.bl true,H,I,?_,q⟩
 rw [show ((List.range is1.toArray.size).all fun _=>true)=true by simp]
 rfl
theorem bm2 {H:Hp}:∀ bs:List Bool,Tw.Ats H (bs.map fun b=>Tw.sc (.bl b)) (bs.map V.bl) []
 | []=>by simp [Tw.Ats]
 | b::bs=>by
   simp only [List.map_cons,Tw.Ats]
   exact ⟨_,_,[],[],rfl,rfl,⟨rfl,trivial,rfl⟩,bm2 bs⟩
theorem bb2 {H:Hp}{a:Addr}(bs:List Bool) (e:H a=some (.lst (bs.map V.bl))):(Tw.lst (bs.map fun b=>Tw.sc (.bl b))).At H (.ref a) [a]:=by
 simp only [Tw.At]
 exact ⟨a,_,[],rfl,e,bm2 bs,rfl⟩
theorem len5 {σ:St} (h:σ.length=5):∃ v1 v2 v3 v4 v5,σ=[v1,v2,v3,v4,v5]:=by
 match σ,h with
 | [v1,v2,v3,v4,v5],_=>exact ⟨v1,v2,v3,v4,v5,rfl⟩
def c86 (K:PySem.W.Frag) (C CK:Addr):Sp:=fun vs H Q _=>∃ (p ev:Addr) (pb:Bool) (us:List V) (bs:List (Str×Int)) (kb:List KB) (es:List Tr) (n:Nat) (ok:Option Std→Prop) (st:Option Std→Tr→List Str×Option Std) (sd0:List Str) (r0:Option Std),vs=[.ref p,.ref ev,.bl pb]∧StPre K C CK H p ev us bs kb es n ok st sd0 r0∧srS es st r0=none∧∀ H',Q (.bl true) H'
theorem ak8 (T:Txt K mg t):FnOk P w K mg base CX0 21 t.a__law_refused t.fd__law_refused ["machine","events","paper"] (c86 K t.c_Teller t.c_KeptBody):=by
 have G_table_of:=aj4 (P:=P) (w:=w) (base:=base) T
 have G_table_paper:=ac1 (P:=P) (w:=w) (base:=base) T
 refine T.f__law_refused.F.ok sc_law_refused (fun vs H Q E h=>?_) (fun cdv A outer s H vs Q E hr h=>?_)
 · obtain ⟨p,ev,pb,us,bs,kb,es,n,ok,st,sd0,r0,rfl,_⟩:=h
   rfl
 · obtain ⟨p,ev,pb,us,bs,kb,es,n,ok,st,sd0,r0,rfl,hP,hno,q⟩:=h
   refine ⟨_,(@a02 _ _ _ _ _ (@a14 _ _ 3 _ _ _ _ sc_law_refused.nd rfl (by walk_at "o") (@a22 _ _ _ _ (@a01 _)) (by rfl) (by walk_at "o"))
    (@a02 _ _ _ _ _ (bs6 (i:=4) rfl rfl rfl T.xm_TooMany_MillError T.m_MillError rfl sc_law_refused.nd rfl rfl rfl (fun E pn xe hx=>(@a05 _ _ _ (@a35 _ _ _ _ _ _ _ _ (am6 K (pv 2) (fun _=>rfl)) (@a05 _ _ _ (@a65 _ _ _ _ (@a18 _ _ _ _ _ _ _ _ _ _ _ _ _ _ _ _ G_table_paper (hr.mono (by omega)) rfl T.f_table_paper.m T.f_table_paper.F.kp T.f_table_paper.b .nil hx (@a00 _ _ _ _ _ (pv 0) (@a00 _ _ _ _ _ (pv 1) (@a01 _) (by rfl)) (by rfl)) (by decide) (by rfl) (by rfl)) (by rfl))) (@a05 _ _ _ (@a65 _ _ _ _ (@a18 _ _ _ _ _ _ _ _ _ _ _ _ _ _ _ _ G_table_of (hr.mono (by omega)) rfl T.f_table_of.m T.f_table_of.F.kp T.f_table_of.b .nil hx (@a00 _ _ _ _ _ (pv 0) (@a00 _ _ _ _ _ (pv 1) (@a01 _) (by rfl)) (by rfl)) (by decide) (by rfl) (by rfl)) (by rfl)))))) (fun _=>(@a02 _ _ _ _ _ (@a14 _ _ 3 _ _ _ _ sc_law_refused.nd rfl (by walk_at "o") (@a22 _ _ _ _ (@a00 _ _ _ _ _ (@a37 _ _ _ _ _ _ _ _ _ (ae2 K) (by rfl) T.z_isinstance a54 (@a00 _ _ _ _ _ (pv 4) (@a00 _ _ _ _ _ (aa3 (v:=.ref t.c_TooMany) (by rfl) T.m_TooMany (by rfl)) (@a01 _) (by rfl)) (by rfl)) (by decide) (by decide) (by rfl) (by rfl)) (@a00 _ _ _ _ _ (@a37 _ _ _ _ _ _ _ _ _ (ae2 K) (by rfl) T.z_isinstance a54 (@a00 _ _ _ _ _ (pv 4) (@a00 _ _ _ _ _ (aa3 (v:=.ref t.c_NoForm) (by rfl) T.m_NoForm (by rfl)) (@a01 _) (by rfl)) (by rfl)) (by decide) (by decide) (by rfl) (by rfl)) (@a00 _ _ _ _ _ (@a37 _ _ _ _ _ _ _ _ _ (ae2 K) (by rfl) T.z_isinstance a54 (@a00 _ _ _ _ _ (pv 4) (@a00 _ _ _ _ _ (aa3 (v:=.ref t.c_NoneYet) (by rfl) T.m_NoneYet (by rfl)) (@a01 _) (by rfl)) (by rfl)) (by decide) (by decide) (by rfl) (by rfl)) (@a00 _ _ _ _ _ (@a37 _ _ _ _ _ _ _ _ _ (ae2 K) (by rfl) T.z_isinstance a54 (@a00 _ _ _ _ _ (pv 4) (@a00 _ _ _ _ _ (aa3 (v:=.ref t.c_NoScript) (by rfl) T.m_NoScript (by rfl)) (@a01 _) (by rfl)) (by rfl)) (by decide) (by decide) (by rfl) (by rfl)) (@a01 _) (by rfl)) (by rfl)) (by rfl)) (by rfl))) (by rfl) (by walk_at "o"))
     (@a05 _ _ _ (@a65 _ _ _ _ (@aa7 _ K _ _ _ _ _ _ _ _ _ _ _ PySem.F.plainAttrs_list PySem.F.slot_list_append PySem.F.type_list_append a66 (pv 3) (@a00 _ _ _ _ _ (@bi7 _ _ _ _ (@a37 _ _ _ _ _ _ _ _ _ (ae2 K) (by rfl) T.z_isinstance a54 (@a00 _ _ _ _ _ (pv 4) (@a00 _ _ _ _ _ (bm9 (v:=.ty "ValueError") (by rfl) T.z_ValueError an9 rfl) (@a01 _) (by rfl)) (by rfl)) (by decide) (by decide) (by rfl) (by rfl))) (@a01 _) (by rfl)) (by rfl) (by rfl) (by rfl) (by rfl) (by rfl) (by rfl)) (by rfl))))))
    (@a05 _ _ _ (@a19 _ _ _ _ (@a69 _ _ _ _ _ _ _ _ (bi4 (by exact hr.units)) (pv 3) (@a22 _ _ _ _ (@a00 _ _ _ _ _ (@aj9 _ _ _ _) (@a00 _ _ _ _ _ (@aj9 _ _ _ _) (@a00 _ _ _ _ _ (@aj9 _ _ _ _) (@a00 _ _ _ _ _ (@aj9 _ _ _ _) (@a00 _ _ _ _ _ (@aj9 _ _ _ _) (@a01 _) (by rfl)) (by rfl)) (by rfl)) (by rfl)) (by rfl))) (nomark _)))))),?_⟩
   have sl:(1000000:Nat)≤sizeLine:=le_line (Nat.le_refl _)
   walk_at "go"
   intro p1 H1 f1 s1 e1
   walk_at "run"
   cases pb
   all_goals
    walk_at "run"
    refine ⟨p,ev,us,bs,kb,es,n,ok,st,sd0,r0,rfl,hP.same s1,fun row hrow=>(by rw [hno] at hrow; cases hrow),fun _ H2 s2 σ' a hl ha=>?_⟩
    obtain ⟨v1,v2,v3,v4,v5,rfl⟩:∃ v1 v2 v3 v4 v5,σ'=[v1,v2,v3,v4,v5]:=len5 hl
    have ea:upd H2 a (.ext (ExcP a t.c_TooMany)) a=some (.ext (ExcP a t.c_TooMany)):=a17
    generalize upd H2 a (.ext (ExcP a t.c_TooMany))=H3 at ea ⊢
    walk_at "run"
    refine ay6 ea T.xi_TooMany T.ik_TooMany_TooMany ?_
    walk_at "run"
    refine ay6 ea T.xi_TooMany T.ik_TooMany_NoForm ?_
    walk_at "run"
    refine ay6 ea T.xi_TooMany T.ik_TooMany_NoneYet ?_
    walk_at "run"
    refine ay6 ea T.xi_TooMany T.ik_TooMany_NoScript ?_
    walk_at "run"
    intro p4 H4 f4 s4 e4
    walk_at "run"
    refine ah8 (SqL.of e4) ?_
    walk_at "run"
    refine bs7 (s4 _ _ ea) T.xi_TooMany T.ik_TooMany_ValueError ?_
    walk_at "run"
    refine a91 e4 (by simp; omega) ?_
    have e5:upd H4 p4 (.lst ([.bl true,.bl false,.bl false,.bl false]++[.bl !true])) p4=some (.lst ([true,false,false,false,false].map V.bl)):=a17
    show (_:Hp→Prop) (upd H4 p4 (.lst ([.bl true,.bl false,.bl false,.bl false]++[.bl !true])))
    generalize upd H4 p4 (.lst ([.bl true,.bl false,.bl false,.bl false]++[.bl !true]))=H5 at e5 ⊢
    dsimp only [Ends.fgt,List.set]
    walk_at "run"
    intro p6 H6 f6 s6 e6
    walk_at "run"
    refine ⟨_,_,_,bb2 _ (s6 _ _ e5),bb2 [true,false,false,false,false] e6,by simp [Tw.hs,Tw.h],?_⟩
    exact q _
theorem bb3 {us:List V}{k:Nat}:cutV us none (some (k:Int))=us.take k:=by
 unfold cutV
 have h0:HT.sIx us.length 0 (none:Option Int)=0:=rfl
 have h1:HT.sIx us.length us.length (some (k:Int))=min k us.length:=by
  unfold HT.sIx
  simp only
  split <;> omega
 rw [h0,h1,List.drop_zero,Nat.sub_zero]
 rcases Nat.le_total k us.length with h | h
 · rw [Nat.min_eq_left h]
 · rw [Nat.min_eq_right h,List.take_of_length_le (Nat.le_refl _),List.take_of_length_le h]
theorem bm3 {X:Cx}{P:Program}{w:World}{C:Addr}:ab5 (CXE P w C) X E0:=by
 intro pins σ H0 s0 e s' I hc
 obtain ⟨a,tt,H',B,vs,rfl,os,bare,un,ok,cov,fl,tup,q⟩:=hc
 exact q.elim
theorem ao8 {H:Hp}:∀ (k:Nat) {xs:List Tr}{vs:List V},Tr.Ats H xs vs []→Tr.Ats H (xs.take k) (vs.take k) []
 | 0,_,_,_=>by simp [Tr.Ats]
 | k+1,[],vs,h=>by
   obtain rfl:=ats_nil0.mp h
   simp [Tr.Ats]
 | k+1,x::xs,vs,h=>by
   obtain ⟨v,ws,rfl,h1,h2⟩:=ats_cons0.mp h
   exact ats_cons0.mpr ⟨_,_,rfl,h1,ao8 k h2⟩
theorem a93 {H H':Hp}:∀ {xs:List Tr}{vs:List V},Tr.Ats H xs vs []→Tups H H'→Tr.Ats H' xs vs []
 | [],vs,h,_=>by
   obtain rfl:=ats_nil0.mp h
   exact ats_nil0.mpr rfl
 | x::xs,vs,h,t=>by
   obtain ⟨v,ws,rfl,h1,h2⟩:=ats_cons0.mp h
   exact ats_cons0.mpr ⟨_,_,rfl,ac9 h1 t,a93 h2 t⟩
theorem bb4 {H:Hp}:∀ {ss:List KS}{us:List V},Tr.Ats H (ss.map KS.tr) us []→∀ v∈us,∃ a,v=.ref a
 | [],us,h,v,hv=>by
   obtain rfl:=ats_nil0.mp h
   simp at hv
 | s::ss,us,h,v,hv=>by
   obtain ⟨v1,w1,rfl,h1,h2⟩:=ats_cons0.mp h
   rcases List.mem_cons.mp hv with rfl | hv
   · obtain ⟨a,_,rfl,_⟩:=KS.word_at h1
     exact ⟨a,rfl⟩
   · exact bb4 h2 v hv
theorem aw2 {H H':Hp}{d l x:Addr}{n:Nat}{us:List V}(k:Deck H d l n) (o:Off d l H H') (z:H l=some (.lst [])→H' l=some (.lst [])) (e:H x=some (.lst us)) (hr:∀ v∈us,∃ a,v=.ref a):H' x=some (.lst us):=by
 obtain ⟨ms,y,h1,h2,_⟩:=k.ex
 have hd:x≠d:=fun w=>by
  rw [w,h1] at e
  injection e with e
  injection e with e
  obtain ⟨a,ha⟩:=hr (.int (n:Nat)) (by rw [← e]; simp)
  cases ha
 by_cases hl:x=l
 · subst hl
   rw [h2] at e
   injection e with e
   injection e with e
   cases ms with
   | nil =>
     subst e
     exact z h2
   | cons m ms =>
     obtain ⟨a,ha⟩:=hr (.int m) (by rw [← e]; simp)
     cases ha
 · exact o _ _ hd hl e
theorem c87 {C CK:Addr}{H H':Hp}{p d l:Addr}{n:Nat}{bs:List (Str×Int)}{kb:List KB}(h:TeAt C CK H p bs kb) (k:Deck H d l n) (o:Off d l H H') (z:H l=some (.lst [])→H' l=some (.lst [])):TeAt C CK H' p bs kb:=by
 obtain ⟨dx,bl,kl,bvs,kvs,h1,h2,h3,h4,h5⟩:=h.ex
 have tp:=o.tups k
 obtain ⟨ms,y,g1,g2,_⟩:=k.ex
 have ni:∀ {x C dx:Addr}{fs:List (Str×V)},H x=some (.ins C dx fs)→H' x=some (.ins C dx fs):=fun e=>o _ _ (aj8 e g1 (fun z=>nomatch z)) (aj8 e g2 (fun z=>nomatch z)) e
 have er:∀ {α:Type}{R:V→α→Prop}{vs:List V}{xs:List α},Each R vs xs→(∀ v x,R v x→∃ a,v=.ref a)→∀ v∈vs,∃ a,v=.ref a:=fun hE hR v hv=>by
  obtain ⟨i,hi⟩:=List.mem_iff_getElem?.mp hv
  exact hR v _ (hE.2 i v _ hi (List.getElem?_eq_getElem (by have:=hE.1; have:=(List.getElem?_eq_some_iff.mp hi).1; omega)))
 refine ⟨dx,bl,kl,bvs,kvs,ni h1,aw2 k o z h2 (er h3 fun v x y=>by obtain ⟨a,e,_⟩:=y; exact ⟨a,e⟩),h3.mono fun v b y=>?_,aw2 k o z h4 (er h5 fun v x y=>by obtain ⟨a,_,_,_,_,e,_⟩:=y; exact ⟨a,e⟩),h5.mono fun v b y=>?_⟩
 · obtain ⟨a,e,e2⟩:=y
   exact ⟨a,e,tp _ _ e2⟩
 · obtain ⟨q,dx,bv,l',us,e1,e2,e3,e4,e5⟩:=y
   exact ⟨q,dx,bv,l',us,e1,ni e2,e3.tups tp,aw2 k o z e4 (bb4 e5),a93 e5 tp⟩
theorem c88 {H:Hp}{q a b c:Addr}{us vs:List V}{es:List Tr}{rs:List b17}{gs:List Addr}(h0:H q=some (.tup [.ref a,.ref b,.ref c])) (h1:H a=some (.lst us)) (h2:Tw.Ats H (toWs es) us []) (h3:H b=some (.lst [])) (h4:H c=some (.lst vs)) (h5:Tw.Ats H (rs.map ae6) vs gs):(Tw.tup [.lst (toWs es),.lst [],.lst (rs.map ae6)]).At H (.ref q) (a::(b::(c::gs))):=by
 simp only [Tw.At,Tw.Ats]
 exact ⟨q,_,rfl,h0,_,_,[a],_,rfl,rfl,⟨a,us,[],rfl,h1,h2,rfl⟩,_,_,[b],_,rfl,rfl,⟨b,[],[],rfl,h3,⟨rfl,rfl⟩,rfl⟩,_,_,c::gs,[],rfl,by simp,⟨c,vs,gs,rfl,h4,h5,rfl⟩,rfl,rfl⟩
theorem bm4 {n:Nat}:∀ {es:List Tr},(∀ x∈es,x.h≤n)→Tr.hs es≤n
 | [],_=>by simp [Tr.hs]
 | e::es,h=>by
   have h1:=h e (by simp)
   have h2:=bm4 (es:=es) fun x hx=>h x (by simp [hx])
   simp only [Tr.hs]
   omega
theorem bm5:∀ ss:List Str,Tw.hs (ss.map strW)≤0
 | []=>by simp [Tw.hs]
 | s::ss=>by
   have:=bm5 ss
   simp only [List.map_cons,strW,Tw.hs,Tw.h] at this ⊢
   omega
theorem bm6:∀ rs:List Row,Tw.hs (rs.map rowW)≤3
 | []=>by simp [Tw.hs]
 | s::ss=>by
   have:=bm6 ss
   have:=bm5 s.1
   simp only [List.map_cons,rowW,Tw.hs,Tw.h] at *
   omega
theorem bb5:∀ rs:List b17,Tw.hs (rs.map ae6)≤6
 | []=>by simp [Tw.hs]
 | s::ss=>by
   have:=bb5 ss
   have:=bm6 s.2
   simp only [List.map_cons,ae6,Tw.hs,Tw.h] at *
   omega
theorem bb6 {H:Hp}:∀ ns:List Nat,Tr.Ats H (ns.map fun n=>Tr.int (n:Nat)) (ai0 ns) []
 | []=>ats_nil0.mpr rfl
 | n::ns=>ats_cons0.mpr ⟨_,_,rfl,a98,bb6 ns⟩
theorem bb7:∀ ns:List Nat,Tr.hs (ns.map fun n=>Tr.int (n:Nat))=0
 | []=>rfl
 | n::ns=>by simp [Tr.hs,Tr.h,bb7 ns]
theorem az4 {H:Hp}{a:Addr}{ns:List Nat}(e:H a=some (.lst (ai0 ns))):(Tr.lst (ns.map fun n=>Tr.int (n:Nat))).At H (.ref a) [a]:=by
 rw [Tr.At]
 exact ⟨a,_,[],rfl,e,bb6 ns,rfl⟩
structure Drawn52 (K:PySem.W.Frag) (H:Hp) (d l zs ls ev:Addr) (us:List V) (es:List Tr) (s0 s1 s2 l0 l1 n:Nat):Prop where
 z:H zs=some (.lst [.int (s0:Nat),.int (s1:Nat),.int (s2:Nat)])
 lm:H ls=some (.lst [.int (l0:Nat),.int (l1:Nat)])
 e:H ev=some (.lst us)
 a:Tr.Ats H es us []
 e0:es≠[]
 el:es.length≤5
 eh:∀ x∈es,x.h≤2
 bz:(2≤s0∧s0≤5)∧(2≤s1∧s1≤5)∧2≤s2∧s2≤5
 bl:(1≤l0∧l0≤9)∧1≤l1∧l1≤9
 k:Deck H d l n
 kn:n≤20
 nz:zs≠d∧zs≠l
 nl:ls≠d∧ls≠l
 ne:ev≠d∧ev≠l
theorem c89 (T:Txt K mg t):FnOk P w K mg base CX0 22 t.a_law t.fd_law ["script"] (aq6 K):=by
 have G_Teller___init__:=ae5 (P:=P) (w:=w) (base:=base) T
 have G__law_counters:=aj7 (P:=P) (w:=w) (base:=base) T
 have G__law_deck:=av7 (P:=P) (w:=w) (base:=base) T
 have G__law_refused:=ak8 (P:=P) (w:=w) (base:=base) T
 have G__law_take:=av8 (P:=P) (w:=w) (base:=base) T
 have G_table_of:=aj4 (P:=P) (w:=w) (base:=base) T
 have G_table_paper:=ac1 (P:=P) (w:=w) (base:=base) T
 refine T.f_law.F.ok sc_law (fun vs H Q E h=>?_) (fun cdv A outer s H vs Q E hr h=>?_)
 · obtain ⟨a,ns,rfl,_⟩:=h
   rfl
 · obtain ⟨a0,ns,rfl,hS,hl,q⟩:=h
   refine ⟨_,(@a02 _ _ _ _ _ (@a14 _ _ 1 _ _ _ _ sc_law.nd rfl (by walk_at "o") (@a18 _ _ _ _ _ _ _ _ _ _ _ _ _ _ _ _ G__law_deck (hr.mono (by omega)) rfl T.f__law_deck.m T.f__law_deck.F.kp T.f__law_deck.b .nil a28 (@a00 _ _ _ _ _ (pv 0) (@a01 _) (by rfl)) (by decide) (by rfl) (by rfl)) (by rfl) (by walk_at "o"))
    (@a02 _ _ _ _ _ (@a14 _ _ 2 _ _ _ _ sc_law.nd rfl (by walk_at "o") (@a22 _ _ _ _ (@a00 _ _ _ _ _ (@a31 _ _ _ _ _ _ _ _ a32 (@a03 _ _ _ _) (@a18 _ _ _ _ _ _ _ _ _ _ _ _ _ _ _ _ G__law_take (hr.mono (by omega)) rfl T.f__law_take.m T.f__law_take.F.kp T.f__law_take.b .nil a28 (@a00 _ _ _ _ _ (pv 1) (@a00 _ _ _ _ _ (@a03 _ _ _ _) (@a01 _) (by rfl)) (by rfl)) (by decide) (by rfl) (by rfl))) (@a00 _ _ _ _ _ (@a31 _ _ _ _ _ _ _ _ a32 (@a03 _ _ _ _) (@a18 _ _ _ _ _ _ _ _ _ _ _ _ _ _ _ _ G__law_take (hr.mono (by omega)) rfl T.f__law_take.m T.f__law_take.F.kp T.f__law_take.b .nil a28 (@a00 _ _ _ _ _ (pv 1) (@a00 _ _ _ _ _ (@a03 _ _ _ _) (@a01 _) (by rfl)) (by rfl)) (by decide) (by rfl) (by rfl))) (@a00 _ _ _ _ _ (@a31 _ _ _ _ _ _ _ _ a32 (@a03 _ _ _ _) (@a18 _ _ _ _ _ _ _ _ _ _ _ _ _ _ _ _ G__law_take (hr.mono (by omega)) rfl T.f__law_take.m T.f__law_take.F.kp T.f__law_take.b .nil a28 (@a00 _ _ _ _ _ (pv 1) (@a00 _ _ _ _ _ (@a03 _ _ _ _) (@a01 _) (by rfl)) (by rfl)) (by decide) (by rfl) (by rfl))) (@a01 _) (by rfl)) (by rfl)) (by rfl))) (by rfl) (by walk_at "o"))
    (@a02 _ _ _ _ _ (@a14 _ _ 3 _ _ _ _ sc_law.nd rfl (by walk_at "o") (@a22 _ _ _ _ (@a00 _ _ _ _ _ (@a31 _ _ _ _ _ _ _ _ a32 (@a03 _ _ _ _) (@a18 _ _ _ _ _ _ _ _ _ _ _ _ _ _ _ _ G__law_take (hr.mono (by omega)) rfl T.f__law_take.m T.f__law_take.F.kp T.f__law_take.b .nil a28 (@a00 _ _ _ _ _ (pv 1) (@a00 _ _ _ _ _ (@a03 _ _ _ _) (@a01 _) (by rfl)) (by rfl)) (by decide) (by rfl) (by rfl))) (@a00 _ _ _ _ _ (@a31 _ _ _ _ _ _ _ _ a32 (@a03 _ _ _ _) (@a18 _ _ _ _ _ _ _ _ _ _ _ _ _ _ _ _ G__law_take (hr.mono (by omega)) rfl T.f__law_take.m T.f__law_take.F.kp T.f__law_take.b .nil a28 (@a00 _ _ _ _ _ (pv 1) (@a00 _ _ _ _ _ (@a03 _ _ _ _) (@a01 _) (by rfl)) (by rfl)) (by decide) (by rfl) (by rfl))) (@a01 _) (by rfl)) (by rfl))) (by rfl) (by walk_at "o"))
    (@a02 _ _ _ _ _ (@a14 _ _ 4 _ _ _ _ sc_law.nd rfl (by walk_at "o") (@a31 _ _ _ _ _ _ _ _ a32 (@a22 _ _ _ _ (@a00 _ _ _ _ _ (@a12 _ _ _ _ _ (@a00 _ _ _ _ _ (@a15 _ _ _ _) (@a01 _) (by rfl))) (@a01 _) (by rfl))) (@ad4 _ _ _ _ _ _ _ _ _ _ (ag0 K) (@a22 _ _ _ _ (@a00 _ _ _ _ _ (@a12 _ _ _ _ _ (@a00 _ _ _ _ _ (@a15 _ _ _ _) (@a00 _ _ _ _ _ (@a03 _ _ _ _) (@a01 _) (by rfl)) (by rfl))) (@a00 _ _ _ _ _ (@a12 _ _ _ _ _ (@a00 _ _ _ _ _ (@a15 _ _ _ _) (@a00 _ _ _ _ _ (@a03 _ _ _ _) (@a01 _) (by rfl)) (by rfl))) (@a00 _ _ _ _ _ (@a12 _ _ _ _ _ (@a00 _ _ _ _ _ (@a15 _ _ _ _) (@a00 _ _ _ _ _ (@a15 _ _ _ _) (@a01 _) (by rfl)) (by rfl))) (@a01 _) (by rfl)) (by rfl)) (by rfl))) (@ag6 _) (@ag7 _ _ _ (@a18 _ _ _ _ _ _ _ _ _ _ _ _ _ _ _ _ G__law_take (hr.mono (by omega)) rfl T.f__law_take.m T.f__law_take.F.kp T.f__law_take.b .nil a28 (@a00 _ _ _ _ _ (pv 1) (@a00 _ _ _ _ _ (@a03 _ _ _ _) (@a01 _) (by rfl)) (by rfl)) (by decide) (by rfl) (by rfl))))) (by rfl) (by walk_at "o"))
    (@a02 _ _ _ _ _ (@a14 _ _ 5 _ _ _ _ sc_law.nd rfl (by walk_at "o") (@a18 _ _ _ _ _ _ _ _ _ _ _ _ _ _ _ _ G__law_take (hr.mono (by omega)) rfl T.f__law_take.m T.f__law_take.F.kp T.f__law_take.b .nil a28 (@a00 _ _ _ _ _ (pv 1) (@a00 _ _ _ _ _ (@a03 _ _ _ _) (@a01 _) (by rfl)) (by rfl)) (by decide) (by rfl) (by rfl)) (by rfl) (by walk_at "o"))
    (@a02 _ _ _ _ _ (@a14 _ _ 6 _ _ _ _ sc_law.nd rfl (by walk_at "o") (@a18 _ _ _ _ _ _ _ _ _ _ _ _ _ _ _ _ G__law_take (hr.mono (by omega)) rfl T.f__law_take.m T.f__law_take.F.kp T.f__law_take.b .nil a28 (@a00 _ _ _ _ _ (pv 1) (@a00 _ _ _ _ _ (@a03 _ _ _ _) (@a01 _) (by rfl)) (by rfl)) (by decide) (by rfl) (by rfl)) (by rfl) (by walk_at "o"))
    (@a55 _ _ _ _ _ (@a35 _ _ _ _ _ _ _ _ (@a16 _ _ _ _ _ _ _ _ bc1 (pv 6) (@a03 _ _ _ _) (nomark _)) (@a02 _ _ _ _ _ (@a14 _ _ 2 _ _ _ _ sc_law.nd rfl (by walk_at "o") (@a22 _ _ _ _ (@a00 _ _ _ _ _ (@a03 _ _ _ _) (@a00 _ _ _ _ _ (@a03 _ _ _ _) (@a00 _ _ _ _ _ (@a03 _ _ _ _) (@a01 _) (by rfl)) (by rfl)) (by rfl))) (by rfl) (by walk_at "o"))
     (@a02 _ _ _ _ _ (@a14 _ _ 3 _ _ _ _ sc_law.nd rfl (by walk_at "o") (@a22 _ _ _ _ (@a00 _ _ _ _ _ (@a31 _ _ _ _ _ _ _ _ a32 (@a03 _ _ _ _) (@a18 _ _ _ _ _ _ _ _ _ _ _ _ _ _ _ _ G__law_take (hr.mono (by omega)) rfl T.f__law_take.m T.f__law_take.F.kp T.f__law_take.b .nil a28 (@a00 _ _ _ _ _ (pv 1) (@a00 _ _ _ _ _ (@a03 _ _ _ _) (@a01 _) (by rfl)) (by rfl)) (by decide) (by rfl) (by rfl))) (@a00 _ _ _ _ _ (@a03 _ _ _ _) (@a01 _) (by rfl)) (by rfl))) (by rfl) (by walk_at "o"))
     (@a05 _ _ _ (@a14 _ _ 4 _ _ _ _ sc_law.nd rfl (by walk_at "o") (@a22 _ _ _ _ (@a00 _ _ _ _ _ (@a12 _ _ _ _ _ (@a00 _ _ _ _ _ (@a15 _ _ _ _) (@a01 _) (by rfl))) (@a01 _) (by rfl))) (by rfl) (by walk_at "o"))))) (@a05 _ _ _ (@a35 _ _ _ _ _ _ _ _ (@a16 _ _ _ _ _ _ _ _ a40 (pv 6) (@a03 _ _ _ _) (nomark _)) (@a02 _ _ _ _ _ (@a14 _ _ 2 _ _ _ _ sc_law.nd rfl (by walk_at "o") (@a22 _ _ _ _ (@a00 _ _ _ _ _ (@a03 _ _ _ _) (@a00 _ _ _ _ _ (@a03 _ _ _ _) (@a00 _ _ _ _ _ (@a03 _ _ _ _) (@a01 _) (by rfl)) (by rfl)) (by rfl))) (by rfl) (by walk_at "o"))
      (@a02 _ _ _ _ _ (@a14 _ _ 3 _ _ _ _ sc_law.nd rfl (by walk_at "o") (@a22 _ _ _ _ (@a00 _ _ _ _ _ (@a31 _ _ _ _ _ _ _ _ a32 (@a03 _ _ _ _) (@a18 _ _ _ _ _ _ _ _ _ _ _ _ _ _ _ _ G__law_take (hr.mono (by omega)) rfl T.f__law_take.m T.f__law_take.F.kp T.f__law_take.b .nil a28 (@a00 _ _ _ _ _ (pv 1) (@a00 _ _ _ _ _ (@a03 _ _ _ _) (@a01 _) (by rfl)) (by rfl)) (by decide) (by rfl) (by rfl))) (@a00 _ _ _ _ _ (@a03 _ _ _ _) (@a01 _) (by rfl)) (by rfl))) (by rfl) (by walk_at "o"))
      (@a02 _ _ _ _ _ (@b22 _ _ _ _ _ _ (@a31 _ _ _ _ _ _ _ _ ap2 (@a03 _ _ _ _) (@a20 _ _ _ _ _ _ _ (a23 K) (pv 3) (@a03 _ _ _ _) (fun _ _=>rfl))) (b21 (pv 3) (@a03 _ _ _ _) am3) (by rfl) (by rfl) (by rfl))
      (@a05 _ _ _ (@a14 _ _ 4 _ _ _ _ sc_law.nd rfl (by walk_at "o") (@a22 _ _ _ _ (@a00 _ _ _ _ _ (@a12 _ _ _ _ _ (@a00 _ _ _ _ _ (@a15 _ _ _ _) (@a01 _) (by rfl))) (@a00 _ _ _ _ _ (@a12 _ _ _ _ _ (@a00 _ _ _ _ _ (@a15 _ _ _ _) (@a00 _ _ _ _ _ (@a03 _ _ _ _) (@a01 _) (by rfl)) (by rfl))) (@a00 _ _ _ _ _ (@a12 _ _ _ _ _ (@a00 _ _ _ _ _ (@a15 _ _ _ _) (@a00 _ _ _ _ _ (@a03 _ _ _ _) (@a01 _) (by rfl)) (by rfl))) (@a00 _ _ _ _ _ (@a12 _ _ _ _ _ (@a00 _ _ _ _ _ (@a15 _ _ _ _) (@a00 _ _ _ _ _ (@a03 _ _ _ _) (@a01 _) (by rfl)) (by rfl))) (@a00 _ _ _ _ _ (@a12 _ _ _ _ _ (@a00 _ _ _ _ _ (@a15 _ _ _ _) (@a00 _ _ _ _ _ (@a15 _ _ _ _) (@a01 _) (by rfl)) (by rfl))) (@a01 _) (by rfl)) (by rfl)) (by rfl)) (by rfl)) (by rfl))) (by rfl) (by walk_at "o")))))) (@a21 _))))
    (@a02 _ _ _ _ _ (@a14 _ _ 7 _ _ _ _ sc_law.nd rfl (by walk_at "o") (@a20 _ _ _ _ _ _ _ (a23 K) (@a22 _ _ _ _ (@a00 _ _ _ _ _ (@a15 _ _ _ _) (@a00 _ _ _ _ _ (@a15 _ _ _ _) (@a01 _) (by rfl)) (by rfl))) (@a18 _ _ _ _ _ _ _ _ _ _ _ _ _ _ _ _ G__law_take (hr.mono (by omega)) rfl T.f__law_take.m T.f__law_take.F.kp T.f__law_take.b .nil a28 (@a00 _ _ _ _ _ (pv 1) (@a00 _ _ _ _ _ (@a03 _ _ _ _) (@a01 _) (by rfl)) (by rfl)) (by decide) (by rfl) (by rfl)) (fun _ _=>rfl)) (by rfl) (by walk_at "o"))
    (@a02 _ _ _ _ _ (@a14 _ _ 8 _ _ _ _ sc_law.nd rfl (by walk_at "o") (@a31 _ _ _ _ _ _ _ _ a64 (@a31 _ _ _ _ _ _ _ _ a64 (@a31 _ _ _ _ _ _ _ _ a64 (@a20 _ _ _ _ _ _ _ (a23 K) (pv 2) (@a03 _ _ _ _) (fun _ _=>rfl)) (@a20 _ _ _ _ _ _ _ (a23 K) (pv 2) (@a03 _ _ _ _) (fun _ _=>rfl))) (@a20 _ _ _ _ _ _ _ (a23 K) (pv 2) (@a03 _ _ _ _) (fun _ _=>rfl))) (@a37 _ _ _ _ _ _ _ _ _ (an3 K) (by rfl) T.z_sum aw9 (@a00 _ _ _ _ _ (pv 3) (@a01 _) (by rfl)) (by decide) (by decide) (by rfl) (by rfl))) (by rfl) (by walk_at "o"))
    (@a02 _ _ _ _ _ (@a14 _ _ 9 _ _ _ _ sc_law.nd rfl (by walk_at "o") (at5 T.mk_Teller G_Teller___init__ (hr.mono (by omega)) rfl T.m_Teller T.f_Teller___init__.b .nil a28 (@a00 _ _ _ _ _ (@a18 _ _ _ _ _ _ _ _ _ _ _ _ _ _ _ _ G__law_counters (hr.mono (by omega)) rfl T.f__law_counters.m T.f__law_counters.F.kp T.f__law_counters.b .nil a28 (@a00 _ _ _ _ _ (pv 2) (@a00 _ _ _ _ _ (pv 3) (@a00 _ _ _ _ _ (pv 7) (@a00 _ _ _ _ _ (pv 5) (@a01 _) (by rfl)) (by rfl)) (by rfl)) (by rfl)) (by decide) (by rfl) (by rfl)) (@a01 _) (by rfl))) (by rfl) (by walk_at "o"))
    (@a02 _ _ _ _ _ (@a35 _ _ _ _ _ _ _ _ (@a16 _ _ _ _ _ _ _ _ bc1 (@a31 _ _ _ _ _ _ _ _ a32 (pv 5) (pv 8)) (@a03 _ _ _ _) (nomark _)) (@a05 _ _ _ (@a19 _ _ _ _ (@a18 _ _ _ _ _ _ _ _ _ _ _ _ _ _ _ _ G__law_refused (hr.mono (by omega)) rfl T.f__law_refused.m T.f__law_refused.F.kp T.f__law_refused.b .nil a28 (@a00 _ _ _ _ _ (pv 9) (@a00 _ _ _ _ _ (pv 4) (@a00 _ _ _ _ _ (@a69 _ _ _ _ _ _ _ _ a40 (@a18 _ _ _ _ _ _ _ _ _ _ _ _ _ _ _ _ G__law_take (hr.mono (by omega)) rfl T.f__law_take.m T.f__law_take.F.kp T.f__law_take.b .nil a28 (@a00 _ _ _ _ _ (pv 1) (@a00 _ _ _ _ _ (@a03 _ _ _ _) (@a01 _) (by rfl)) (by rfl)) (by decide) (by rfl) (by rfl)) (@a03 _ _ _ _) (nomark _)) (@a01 _) (by rfl)) (by rfl)) (by rfl)) (by decide) (by rfl) (by rfl)))) (@a21 _))
    (@a02 _ _ _ _ _ (@a14 _ _ 10 _ _ _ _ sc_law.nd rfl (by walk_at "o") (@a18 _ _ _ _ _ _ _ _ _ _ _ _ _ _ _ _ G_table_of (hr.mono (by omega)) rfl T.f_table_of.m T.f_table_of.F.kp T.f_table_of.b .nil bm3 (@a00 _ _ _ _ _ (pv 9) (@a00 _ _ _ _ _ (pv 4) (@a01 _) (by rfl)) (by rfl)) (by decide) (by rfl) (by rfl)) (by rfl) (by walk_at "o"))
    (@a02 _ _ _ _ _ (@a14 _ _ 11 _ _ _ _ sc_law.nd rfl (by walk_at "o") (@a22 _ _ _ _ (@a01 _)) (by rfl) (by walk_at "o"))
    (@a02 _ _ _ _ _ (@ap1 _ _ _ _ _ _ _ _ PassesOwn.never rfl (b24 rfl T.z_range (@a00 _ _ _ _ _ (@a31 _ _ _ _ _ _ _ _ a32 (pv 5) (pv 8)) (@a01 _) (by rfl))) (a29 (i:=12) sc_law.nd rfl (by walk_at "o")) (@a02 _ _ _ _ _ (@a14 _ _ 13 _ _ _ _ sc_law.nd rfl (by walk_at "o") (@a31 _ _ _ _ _ _ _ _ ax4 (@a22 _ _ _ _ (@a00 _ _ _ _ _ (pv 7) (@a01 _) (by rfl))) (@a41 _ _ _ _ _ _ _ _ _ bj6 (by rfl) T.z_int bj9 (@a00 _ _ _ _ _ (@bi6 _ _ _ _ _ _ _ (@a69 _ _ _ _ _ _ _ _ c90 (pv 12) (pv 5) (nomark _)) (@bi5 _ _ _ _ _ (@a69 _ _ _ _ _ _ _ _ a40 (@a31 _ _ _ _ _ _ _ _ aa4 (@a31 _ _ _ _ _ _ _ _ ap2 (pv 12) (pv 5)) (@a37 _ _ _ _ _ _ _ _ _ (an3 K) (by rfl) T.z_sum aw9 (@a00 _ _ _ _ _ (pv 3) (@a01 _) (by rfl)) (by decide) (by decide) (by rfl) (by rfl))) (@a31 _ _ _ _ _ _ _ _ ap2 (@a37 _ _ _ _ _ _ _ _ _ (an3 K) (by rfl) T.z_sum aw9 (@a00 _ _ _ _ _ (pv 3) (@a01 _) (by rfl)) (by decide) (by decide) (by rfl) (by rfl)) (@a03 _ _ _ _)) (nomark _)))) (@a01 _) (by rfl)) (by decide) (by decide) (by rfl) (by rfl))) (by rfl) (by walk_at "o"))
     (@a02 _ _ _ _ _ (@a14 _ _ 14 _ _ _ _ sc_law.nd rfl (by walk_at "o") (@a31 _ _ _ _ _ _ _ _ a32 (pv 12) (@a03 _ _ _ _)) (by rfl) (by walk_at "o"))
     (@a55 _ _ _ _ _ (@a35 _ _ _ _ _ _ _ _ (@a16 _ _ _ _ _ _ _ _ a40 (pv 14) (@a31 _ _ _ _ _ _ _ _ a32 (pv 5) (pv 8)) (nomark _)) (@a05 _ _ _ (@a14 _ _ 14 _ _ _ _ sc_law.nd rfl (by walk_at "o") (pv 5) (by rfl) (by walk_at "o"))) (@a21 _))
     (@a05 _ _ _ (@a65 _ _ _ _ (@aa7 _ K _ _ _ _ _ _ _ _ _ _ _ PySem.F.plainAttrs_list PySem.F.slot_list_append PySem.F.type_list_append a66 (pv 11) (@a00 _ _ _ _ _ (@a12 _ _ _ _ _ (@a00 _ _ _ _ _ (@aj9 _ _ _ _) (@a00 _ _ _ _ _ (ah3 (Nt:=["event"]) (Nf:=["said","there"]) (caps:=[13,14]) rfl (a45 (sc:=a06 bd0) rfl rfl (by decide +kernel) (by decide +kernel) (by decide +kernel) rfl (by decide +kernel)) (a39 K (pv 4)) (fun _ _ _ _ _=>(a29 (i:=0) (show (["event","said","there"]:List Str).Nodup by decide +kernel) rfl (by walk_at "o"))) (fun _ _ _ _ _=>(@a44 _)) (fun _ _ _ _ _=>(@a12 _ _ _ _ _ (@a00 _ _ _ _ _ (pv 1) (@a00 _ _ _ _ _ (pv 2) (@a01 _) (by rfl)) (by rfl))))) (@a01 _) (by rfl)) (by rfl))) (@a01 _) (by rfl)) (by rfl) (by rfl) (by rfl) (by rfl) (by rfl) (by rfl)) (by rfl)))))) (by intro _; rfl))
    (@a02 _ _ _ _ _ (@a35 _ _ _ _ _ _ _ _ (@a16 _ _ _ _ _ _ _ _ (br2 (by exact hr.units)) (pv 10) (@a12 _ _ _ _ _ (@a00 _ _ _ _ _ (pv 4) (@a00 _ _ _ _ _ (@a22 _ _ _ _ (@a01 _)) (@a00 _ _ _ _ _ (pv 11) (@a01 _) (by rfl)) (by rfl)) (by rfl))) (nomark _)) (@a05 _ _ _ (@a19 _ _ _ _ (@aj9 _ _ _ _))) (@a21 _))
    (@a55 _ _ _ _ _ (@a35 _ _ _ _ _ _ _ _ (@a16 _ _ _ _ _ _ _ _ a40 (pv 6) (@a03 _ _ _ _) (nomark _)) (@a05 _ _ _ (@a14 _ _ 4 _ _ _ _ sc_law.nd rfl (by walk_at "o") (@ad4 _ _ _ _ _ _ _ _ _ _ (ag0 K) (pv 4) (@ag6 _) (@ag7 _ _ _ (@a03 _ _ _ _))) (by rfl) (by walk_at "o"))) (@a21 _))
    (@a05 _ _ _ (@a19 _ _ _ _ (@a69 _ _ _ _ _ _ _ _ (bf3 (by exact hr.units)) (ah3 (Nt:=["pair"]) (Nf:=[]) (caps:=[]) rfl (a45 (sc:=a06 bd0) rfl rfl (by decide +kernel) (by decide +kernel) (by decide +kernel) rfl (by decide +kernel)) (a39 K (@a18 _ _ _ _ _ _ _ _ _ _ _ _ _ _ _ _ G_table_paper (hr.mono (by omega)) rfl T.f_table_paper.m T.f_table_paper.F.kp T.f_table_paper.b .nil bm3 (@a00 _ _ _ _ _ (pv 9) (@a00 _ _ _ _ _ (pv 4) (@a01 _) (by rfl)) (by rfl)) (by decide) (by rfl) (by rfl))) (fun _ _ _ _ _=>(a29 (i:=0) (show (["pair"]:List Str).Nodup by decide +kernel) rfl (by walk_at "o"))) (fun _ _ _ _ _=>(@a44 _)) (fun _ _ _ _ _=>(@a20 _ _ _ _ _ _ _ (a07 K) (pv 0) (@a03 _ _ _ _) (fun _ _=>rfl)))) (@a41 _ _ _ _ _ _ _ _ _ (be7 rfl) (by rfl) T.z_list ah7 (@a00 _ _ _ _ _ (@a41 _ _ _ _ _ _ _ _ _ b71 (by rfl) T.z_range bd6 (@a00 _ _ _ _ _ (@a31 _ _ _ _ _ _ _ _ a32 (pv 5) (pv 8)) (@a01 _) (by rfl)) (by decide) (by decide) (by rfl) (by rfl)) (@a01 _) (by rfl)) (by decide) (by decide) (by rfl) (by rfl)) (nomark _)))))))))))))))))))),?_⟩
   have sl:(1000000:Nat)≤sizeLine:=le_line (Nat.le_refl _)
   walk_at "go"
   refine ⟨a0,ns,rfl,hS,hl,fun d0 l0 H1 fd fl s1 k1=>?_⟩
   walk_at "run"
   refine ⟨d0,l0,0,2,rfl,k1,by omega,by omega,by omega,fun r1 H2 hr1 o2 k2 _=>?_⟩
   walk_at "run"
   refine ⟨d0,l0,1,2,rfl,k2,by omega,by omega,by omega,fun r2 H3 hr2 o3 k3 _=>?_⟩
   walk_at "run"
   refine ⟨d0,l0,2,2,rfl,k3,by omega,by omega,by omega,fun r3 H4 hr3 o4 k4 _=>?_⟩
   walk_at "run"
   intro zs H5 f5 s5 e5
   walk_at "run"
   have k5:=k4.same s5
   have nz:=k4.new f5
   refine ⟨d0,l0,3,9,rfl,k5,by omega,by omega,by omega,fun r4 H6 hr4 o6 k6 _=>?_⟩
   walk_at "run"
   refine ⟨d0,l0,4,9,rfl,k6,by omega,by omega,by omega,fun r5 H7 hr5 o7 k7 _=>?_⟩
   walk_at "run"
   intro ls H8 f8 s8 e8
   walk_at "run"
   have k8:=k7.same s8
   have nl:=k7.new f8
   intro p1 H9 f9 s9 e9
   walk_at "run"
   intro p2 H10 f10 s10 e10
   walk_at "run"
   intro p3 H11 f11 s11 e11
   walk_at "run"
   intro p4 H12 f12 s12 e12
   walk_at "run"
   intro p5 H13 f13 s13 e13
   walk_at "run"
   intro p6 H14 f14 s14 e14
   walk_at "run"
   have s814:=s9.trans (s10.trans (s11.trans (s12.trans (s13.trans s14))))
   refine ⟨d0,l0,5,4,rfl,k8.same s814,by omega,by omega,by omega,fun r6 H15 hr6 o15 k15 _=>?_⟩
   walk_at "run"
   have n6:=(k8.same (s9.trans (s10.trans (s11.trans (s12.trans s13))))).new f14
   refine bd9 (SqL.of (o15 _ _ n6.1 n6.2 e14)) ?_
   rw [bb3]
   intro p7 H16 f16 s16 e16
   walk_at "run"
   have n2:=(k8.same s9).new f10
   have t815:=o15.tups (k8.same s814)
   have e10':=o15 _ _ n2.1 n2.2 (s14 _ _ (s13 _ _ (s12 _ _ (s11 _ _ e10))))
   refine b51 (s16 _ _ e10') e16 (by simp; omega) ?_
   intro ev H17 f17 s17 e17
   walk_at "run"
   have k17:=(k15.same s16).same s17
   have ne:=(k15.same s16).new f17
   have s1517:=s16.trans s17
   have w1:(Tr.tup [.str "quiet"]).At H17 (.ref p1) []:=au1 (s1517.tups _ _ (t815 _ _ (s14 _ _ (s13 _ _ (s12 _ _ (s11 _ _ (s10 _ _ e9))))))) a42
   have w2:(Tr.tup [.str "key",.int 2]).At H17 (.ref p3) []:=a61 (s1517.tups _ _ (t815 _ _ (s14 _ _ (s13 _ _ (s12 _ _ e11))))) a42 a98
   have w3:(Tr.tup [.str "key",.int 7]).At H17 (.ref p4) []:=a61 (s1517.tups _ _ (t815 _ _ (s14 _ _ (s13 _ _ e12)))) a42 a98
   have w4:(Tr.tup [.str "word",.str "yes"]).At H17 (.ref p5) []:=a61 (s1517.tups _ _ (t815 _ _ (s14 _ _ e13))) a42 a42
   obtain ⟨us,es,e18,hat,hne,hel,heh⟩:∃ (us:List V) (es:List Tr),H17 ev=some (.lst us)∧Tr.Ats H17 es us []∧es≠[]∧es.length≤5∧∀ x∈es,x.h≤2:=by
    refine ⟨_,Tr.tup [.str "quiet"]::([Tr.tup [.str "key",.int 2],Tr.tup [.str "key",.int 7],Tr.tup [.str "word",.str "yes"]].take r6),e17,?_,by simp,by simp; omega,fun x hx=>?_⟩
    · refine ats_cons0.mpr ⟨_,_,rfl,w1,?_⟩
      exact ao8 r6 (ats_cons0.mpr ⟨_,_,rfl,w2,ats_cons0.mpr ⟨_,_,rfl,w3,ats_cons0.mpr ⟨_,_,rfl,w4,ats_nil0.mpr rfl⟩⟩⟩)
    · rcases List.mem_cons.mp hx with rfl | hx
      · simp [Tr.h,Tr.hs]
      · have hx:=List.mem_of_mem_take hx
        simp only [List.mem_cons,List.not_mem_nil,or_false] at hx
        rcases hx with rfl | rfl | rfl <;> simp [Tr.h,Tr.hs]
   refine ⟨d0,l0,6,10,rfl,k17,by omega,by omega,by omega,fun ld H18 hld o18 k18 _=>?_⟩
   walk_at "run"
   refine ⟨d0,l0,7,16,rfl,k18,by omega,by omega,by omega,fun kd H19 hkd o19 k19 _=>?_⟩
   walk_at "run"
   have o1719:=o18.trans o19
   have t1719:=o1719.tups k17
   have k0:Drawn52 K H19 d0 l0 zs ls ev us es (2+r1) (2+r2) (2+r3) (1+r4) (1+r5) 8:=by
    have q5:∀ {x:Addr}{o:HO},x≠d0∧x≠l0→H8 x=some o→H19 x=some o:=fun hx e=>o1719 _ _ hx.1 hx.2 (s1517 _ _ (o15 _ _ hx.1 hx.2 (s814 _ _ e)))
    refine ⟨q5 nz (s8 _ _ (o7 _ _ nz.1 nz.2 (o6 _ _ nz.1 nz.2 ?_))),q5 nl ?_,o1719 _ _ ne.1 ne.2 e18,a93 hat t1719,hne,hel,heh,by omega,by omega,k19,by omega,nz,nl,ne⟩
    · rw [e5]
      simp only [Int.natCast_add]
      rfl
    · rw [e8]
      simp only [Int.natCast_add]
      rfl
   refine ae0 (fun σ' H'=>∃ (zs ls ev:Addr) (us:List V) (es:List Tr) (x0 x1 x2 y0 y1 n:Nat),σ'=[some (.ref a0),some (.ref d0),some (.ref zs),some (.ref ls),some (.ref ev),some (.int (ld:Nat)),some (.int (kd:Nat)),none,none,none,none,none,none,none,none]∧Drawn52 K H' d0 l0 zs ls ev us es x0 x1 x2 y0 y1 n) ?_ ?_
   · walk_at "run"
     by_cases hk1:13<kd
     · refine a26 (by omega) ?_
       walk_at "run"
       intro z2 H20 f20 s20 e20
       walk_at "run"
       have k20:=k19.same s20
       have nz2:=k19.new f20
       refine ⟨d0,l0,8,5,rfl,k20,by omega,by omega,by omega,fun r7 H21 hr7 o21 k21 _=>?_⟩
       walk_at "run"
       intro m2 H22 f22 s22 e22
       walk_at "run"
       have nl2:=k21.new f22
       intro v1 H23 f23 s23 e23
       walk_at "run"
       intro v2 H24 f24 s24 e24
       have ne2:=((k21.same s22).same s23).new f24
       have s2124:=s22.trans (s23.trans s24)
       refine ⟨z2,m2,v2,_,[Tr.tup [.str "quiet"]],5,5,5,5+r7,9,9,rfl,s2124 _ _ (o21 _ _ nz2.1 nz2.2 e20),?_,e24,ats_cons0.mpr ⟨_,_,rfl,au1 (s24 _ _ e23) a42,ats_nil0.mpr rfl⟩,by simp,by simp,fun x hx=>?_,by omega,by omega,k21.same s2124,by omega,nz2,nl2,ne2⟩
       · rw [s24 _ _ (s23 _ _ e22)]
         simp only [Int.natCast_add]
         rfl
       · rw [List.mem_singleton.mp hx]
         simp [Tr.h,Tr.hs]
     refine a25 (by omega) ?_
     walk_at "run"
     by_cases hk2:kd=13
     · refine a26 (by omega) ?_
       walk_at "run"
       intro z2 H20 f20 s20 e20
       walk_at "run"
       have k20:=k19.same s20
       have nz2:=k19.new f20
       refine ⟨d0,l0,8,8,rfl,k20,by omega,by omega,by omega,fun r7 H21 hr7 o21 k21 _=>?_⟩
       walk_at "run"
       intro m2 H22 f22 s22 e22
       walk_at "run"
       have nl2:=k21.new f22
       have k22:=k21.same s22
       refine a48 (SqL.of e22) (a04 (j:=0) rfl) ?_
       walk_at "run"
       refine b58 e22 (j:=1) rfl ?_
       have e23:upd H22 m2 (.lst ([V.int (1+(r7:Nat)),V.int 9].set 1 (V.int (9 - (1+(r7:Nat)))))) m2=some (.lst [V.int (1+(r7:Nat)),V.int (9 - (1+(r7:Nat)))]):=a17
       have s23:Same H21 (upd H22 m2 (.lst ([V.int (1+(r7:Nat)),V.int 9].set 1 (V.int (9 - (1+(r7:Nat))))))):=s22.updNew f22
       generalize upd H22 m2 (.lst ([V.int (1+(r7:Nat)),V.int 9].set 1 (V.int (9 - (1+(r7:Nat))))))=H23 at e23 s23 ⊢
       walk_at "run"
       intro v1 H24 f24 s24 e24
       walk_at "run"
       intro v2 H25 f25 s25 e25
       walk_at "run"
       intro v3 H26 f26 s26 e26
       walk_at "run"
       intro v4 H27 f27 s27 e27
       walk_at "run"
       intro v5 H28 f28 s28 e28
       walk_at "run"
       intro v6 H29 f29 s29 e29
       have s2429:=s25.trans (s26.trans (s27.trans (s28.trans s29)))
       have s2329:=s24.trans s2429
       have ne2:=((((((k21.same s23).same s24).same s25).same s26).same s27).same s28).new f29
       have s2129:=s23.trans s2329
       refine ⟨z2,m2,v6,_,[Tr.tup [.str "quiet"],Tr.tup [.str "key",.int 0],Tr.tup [.str "key",.int 2],Tr.tup [.str "key",.int 7],Tr.tup [.str "word",.str "yes"]],5,5,4,1+r7,8 - r7,9,rfl,s2129 _ _ (o21 _ _ nz2.1 nz2.2 e20),?_,e29,?_,by simp,by simp,fun x hx=>?_,by omega,by omega,k21.same s2129,by omega,nz2,nl2,ne2⟩
       · rw [s2329 _ _ e23,show ((1+r7:Nat):Int)=1+(r7:Nat) by omega,show ((8 - r7:Nat):Int)=9 - (1+(r7:Nat)) by omega]
       · exact ats_cons0.mpr ⟨_,_,rfl,au1 (s2429 _ _ e24) a42,ats_cons0.mpr ⟨_,_,rfl,a61 (s29 _ _ (s28 _ _ (s27 _ _ (s26 _ _ e25)))) a42 a98,ats_cons0.mpr ⟨_,_,rfl,a61 (s29 _ _ (s28 _ _ (s27 _ _ e26))) a42 a98,ats_cons0.mpr ⟨_,_,rfl,a61 (s29 _ _ (s28 _ _ e27)) a42 a98,ats_cons0.mpr ⟨_,_,rfl,a61 (s29 _ _ e28) a42 a42,ats_nil0.mpr rfl⟩⟩⟩⟩⟩
       · simp only [List.mem_cons,List.not_mem_nil,or_false] at hx
         rcases hx with rfl | rfl | rfl | rfl | rfl <;> simp [Tr.h,Tr.hs]
     · refine a25 (by omega) ?_
       walk_at "run"
       exact ⟨zs,ls,ev,us,es,_,_,_,_,_,_,rfl,k0⟩
   rintro σ' H20 ⟨zs,ls,ev,us,es,x0,x1,x2,y0,y1,n,rfl,hD⟩
   have kn:=hD.kn
   walk_at "run"
   intro wl H21 f21 s21 e21
   walk_at "run"
   have k21:=hD.k.same s21
   have nw:=hD.k.new f21
   refine ⟨d0,l0,n,2,rfl,k21,by omega,by omega,by omega,fun rw_ H22 hrw o22 k22 _=>?_⟩
   walk_at "run"
   obtain ⟨wd,hwd,hwl⟩:∃ wd:Str,[V.str "yes",V.str "no"][rw_]?=some (.str wd)∧wd.length≤100:=by
    have:rw_=0∨rw_=1:=by omega
    rcases this with rfl | rfl
    · exact ⟨"yes",rfl,by decide +kernel⟩
    · exact ⟨"no",rfl,by decide +kernel⟩
   refine a48 (SqL.of (o22 _ _ nw.1 nw.2 e21)) (a04 hwd) ?_
   walk_at "run"
   have ov:=s21.off.trans o22
   have hz:=ov _ _ hD.nz.1 hD.nz.2 hD.z
   have hm:=ov _ _ hD.nl.1 hD.nl.2 hD.lm
   have hev:=ov _ _ hD.ne.1 hD.ne.2 hD.e
   have hat:=a93 (a93 hD.a s21.tups) (o22.tups k21)
   have bz:=hD.bz
   have bl:=hD.bl
   refine a48 (SqL.of hz) (a04 (j:=0) rfl) ?_
   walk_at "run"
   refine a48 (SqL.of hz) (a04 (j:=1) rfl) ?_
   walk_at "run"
   refine a90 (cb (by omega) (by omega)) ?_
   walk_at "run"
   refine a48 (SqL.of hz) (a04 (j:=2) rfl) ?_
   walk_at "run"
   have hpr:(x0:Int)*(x1:Int)=((x0*x1:Nat):Int):=by norm_cast
   have hp1:x0*x1≤25:=Nat.mul_le_mul (show x0≤5 by omega) (show x1≤5 by omega)
   rw [hpr]
   refine a90 (cb (by omega) (by omega)) ?_
   have hpr2:((x0*x1:Nat):Int)*(x2:Int)=((x0*x1*x2:Nat):Int):=by norm_cast
   have hp2:x0*x1*x2≤125:=Nat.mul_le_mul hp1 (show x2≤5 by omega)
   rw [hpr2]
   walk_at "run"
   refine be6 (ns:=[(y0:Int),(y1:Int)]) (SqL.of hm) ?_
   refine a90 (cb (by omega) (by omega)) ?_
   obtain ⟨c,hc⟩:∃ c:Cnt,c=⟨x0,x1,x2,y0,y1,wd,ld⟩:=⟨_,rfl⟩
   have ck:c.Ok:=by subst hc; exact ⟨bz.1,bz.2.1,bz.2.2,bl.1,bl.2,show ld≤9 by omega,hwl⟩
   have hrg:((x0*x1*x2:Nat):Int)*[(y0:Int),(y1:Int)].sum=((a36 c:Nat):Int):=by
    subst hc
    unfold a36 tC
    simp
   rw [hrg]
   have hrl:a36 c≤125*18:=by
    subst hc
    exact Nat.mul_le_mul hp2 (by show y0+y1≤18; omega)
   walk_at "run"
   have q1:[V.ref zs,V.ref ls,V.str wd,V.int (ld:Nat)]++[]=[.ref zs,.ref ls,.str c.w,.int (c.ld:Nat)]:=by subst hc; rfl
   refine ⟨zs,ls,c,q1,by subst hc; exact hz,by subst hc; exact hm,ck,fun sp lb lt bvs tvs H23 s23 g1 g2 g3 g4 g5=>?_⟩
   walk_at "run"
   intro p dx f1 f2 fn
   have s24:Same H23 (upd (upd H23 dx (.own p)) p (.ins t.c_Teller dx [])):=(Same.new f2).updNew f1
   refine ⟨p,dx,sp,lb,lt,bvs,tvs,bxC c,tsC c,6,rfl,a17,s24 _ _ g1,s24 _ _ g2,g3.mono fun _ _ z=>z.same s24,s24 _ _ g4,g5.mono fun _ _ z=>z.same s24,kpC c,fun H25 hT hk=>⟨rfl,?_⟩⟩
   rw [c79] at hT
   walk_at "run"
   have s2325:Same H23 H25:=fun a o e=>hk a o (s24 _ _ e) (fun z=>by rw [z,f1] at e; cases e)
   have s2225:=s23.trans s2325
   have k25:=k22.same s2225
   have hat25:=a93 hat s2225.tups
   have mkP:∀ (Hx:Hp) (ev:Addr) (us:List V) (es:List Tr),es.length≤5→(∀ x∈es,x.h≤2)→TeAt t.c_Teller t.c_KeptBody Hx p (bxC c) (kbC c)→Hx ev=some (.lst us)→Tr.Ats Hx es us []→StPre K t.c_Teller t.c_KeptBody Hx p ev us (bxC c) (kbC c) es 20 (okC c) (stC c) [] (some (sd0C c)):=fun Hx ev us es y1 y2 x1 x2 x3=>by
    refine ⟨x1,kokC ck,x2,Tr.Ats.toK K x3,fun e he=>Nat.le_trans (y2 e he) (by omega),Nat.le_trans y1 (by omega),by omega,begC c,⟨0,by rw [c83 ck]⟩,fun r hr x hx=>?_,fun r hr e he=>?_⟩
    · obtain ⟨i,rfl⟩:=hr
      obtain rfl:=Option.some.inj hx
      obtain ⟨z1,z2⟩:=bw1 c i
      rw [z1,z2]
      exact ⟨rfl,by simp⟩
    · obtain ⟨i,rfl⟩:=hr
      rw [bb0 ck]
      exact ⟨c82 ck i e,i+1,rfl⟩
   have hP:=mkP H25 ev us es hD.el hD.eh hT (s2225 _ _ hev) hat25
   have hsr:=srC ck (es:=es) hD.e0
   have hcl:c.ld=ld:=by subst hc; rfl
   rw [hcl] at hsr
   by_cases hbig:2000<ld+a36 c
   · refine a26 (by omega) ?_
     rw [if_neg (by omega)] at hsr
     walk_at "run"
     refine ⟨d0,l0,n+1,2,rfl,k25,by omega,by omega,by omega,fun r H26 hr o26 k26 z26=>?_⟩
     walk_at "run"
     have s26:=mkP H26 ev us es hD.el hD.eh (c87 hT k25 o26 z26) (o26 _ _ hD.ne.1 hD.ne.2 (s2225 _ _ hev)) (a93 hat25 (o26.tups k25))
     exact ⟨p,ev,decide ((r:Int)=1),us,bxC c,kbC c,es,20,okC c,stC c,[],some (sd0C c),rfl,s26,hsr,fun H'=>q H'⟩
   · refine a25 (by omega) ?_
     rw [if_pos (by omega)] at hsr
     walk_at "run"
     refine ⟨p,ev,us,bxC c,kbC c,es,20,okC c,stC c,[],some (sd0C c),rfl,hP,fun row hrow pt pa pb pc rvs gs H26 s26 t1 t2 t3 t4 hat26 fr=>?_,fun hno=>(by rw [hsr] at hno; cases hno)⟩
     obtain rfl:rowC c=row:=Option.some.inj (hsr.symm.trans hrow)
     rw [outC ck,hcl] at hat26
     walk_at "run"
     intro pr H27 f27 s27 e27
     walk_at "run"
     have hNn:((ld:Int)+((a36 c:Nat):Int)).toNat=ld+a36 c:=by omega
     rw [hNn]
     obtain ⟨Rm,hRm⟩:∃ Rm:List b17,Rm=(List.range (ld+a36 c)).map fun i=>(false,es.map fun _=>(ad0 c i,ac3 c i)):=⟨_,rfl⟩
     have hRl:Rm.length=ld+a36 c:=by rw [hRm]; simp
     rw [← hRm] at hat26
     refine b26 (lo:=0) (n:=ld+a36 c) (fun i σ H'=>i≤ld+a36 c∧Same H26 H'∧(∃ acc gs',H' pr=some (.lst acc)∧acc.length=i∧Tw.Ats H' ((Rm.take i).map ae6) acc gs'∧pr∉gs')∧∃ y z x,σ=[some (.ref a0),some (.ref d0),some (.ref zs),some (.ref ls),some (.ref ev),some (.int (ld:Nat)),some (.int (kd:Nat)),some (.str wd),some (.int (a36 c:Nat)),some (.ref p),some (.ref pt),some (.ref pr),y,z,x]) ⟨Nat.zero_le _,s27,⟨[],[],e27,rfl,by simp [Tw.Ats],by simp⟩,_,_,_,rfl⟩ ?_ ?_
     · rintro i σ H28 hi ⟨hil,s28,⟨acc,gs',h1,h2,h3,hpn⟩,y,z,x,rfl⟩
       walk_at "run"
       intro p9 H29 f9 s9 e9
       walk_at "run"
       rename_i N hN
       have hsum:[(y0:Int),(y1:Int)].sum=((tC c:Nat):Int):=by subst hc; simp [tC]
       have htc:(0:Int)<((tC c:Nat):Int):=by subst hc; show (0:Int)<((y0+y1:Nat):Int); omega
       have hm29:H29 ls=some (.lst [.int (y0:Nat),.int (y1:Nat)]):=s9 _ _ (s28 _ _ (s26 _ _ (s2225 _ _ hm)))
       have fin:∀ p10 H30,H29 p10=none→Same H29 H30→H30 p10=some (.lst (a49 (ad0 c i)))→ad2 13 (.ref p10) [some (.ref a0),some (.ref d0),some (.ref zs),some (.ref ls),some (.ref ev),some (.int (ld:Nat)),some (.int (kd:Nat)),some (.str wd),some (.int (a36 c:Nat)),some (.ref p),some (.ref pt),some (.ref pr),some (.int (0+(i:Int))),z,x] H30 N:=fun p10 H30 f10 s10 e10=>by
        walk_at "run"
        have s2630:=s28.trans (s9.trans s10)
        refine ae0 (fun σ' H'=>H30=H'∧σ'=[some (.ref a0),some (.ref d0),some (.ref zs),some (.ref ls),some (.ref ev),some (.int (ld:Nat)),some (.int (kd:Nat)),some (.str wd),some (.int (a36 c:Nat)),some (.ref p),some (.ref pt),some (.ref pr),some (.int (0+(i:Int))),some (.ref p10),some (.int (ac3 c i:Nat))]) ?_ ?_
        · walk_at "run"
          by_cases he:i+1=ld+a36 c
          · refine a26 (by omega) ?_
            walk_at "run"
            exact ⟨rfl,by rw [show ac3 c i=c.ld from if_pos (by omega),hcl]⟩
          · refine a25 (by omega) ?_
            walk_at "run"
            exact ⟨rfl,by rw [show ac3 c i=i+1 from if_neg (by omega)]; simp⟩
        rintro σ' H' ⟨rfl,rfl⟩
        walk_at "run"
        have hpr30:=(s9.trans s10) _ _ h1
        have hul:us.length=es.length:=hat25.len
        have hel:=hD.el
        have hev30:=s2630 _ _ (s26 _ _ (s2225 _ _ hev))
        refine ah8 (SqL.of hpr30) ?_
        walk_at "run"
        refine ⟨⟨_,SqL.of hev30⟩,a72 (xs:=us) (le_line (by omega)) (fun j acc' H'=>Same H30 H'∧j≤es.length∧acc'.length=j∧∃ fs,Tw.Ats H' (((es.take j).map fun _=>(ad0 c i,ac3 c i)).map rowW) acc' fs∧∀ x∈fs,x=p10) ⟨Same.refl _,Nat.zero_le _,rfl,[],by simp [Tw.Ats],by simp⟩ (fun j acc' H' zz=>by obtain ⟨s',_,e,_⟩:=zz; exact ⟨by omega,SqL.of (s' _ _ hev30)⟩) ?_ ?_⟩
        · rintro j x' acc' H31 hx ⟨s31,hj,ha,fs,hA,hfs⟩
          have hj':=(List.getElem?_eq_some_iff.mp hx).1
          obtain ⟨e',he'⟩:∃ e',es[j]?=some e':=⟨_,List.getElem?_eq_getElem (by omega)⟩
          walk_at "run"
          intro p11 H32 f11 s11 e11
          refine ⟨s31.trans s11,by omega,by simp [ha],fs++[p10],?_,fun x hx=>?_⟩
          · rw [List.take_add_one,he',List.map_append,List.map_append]
            exact (hA.same s11).snoc (row_w.mpr ⟨p11,p10,rfl,e11,(s31.trans s11) _ _ e10,rfl⟩)
          · rcases List.mem_append.mp hx with hx | hx
            · exact hfs x hx
            · exact List.mem_singleton.mp hx
        · rintro acc' H31 ⟨s31,_,ha,fs,hA,hfs⟩ p12 H32 f12 s12 e12
          rw [hul,List.take_length] at hA
          walk_at "run"
          intro p13 H33 f13 s13 e13
          walk_at "run"
          have h33:=(s31.trans (s12.trans s13)) _ _ hpr30
          refine a91 h33 (by rw [h2]; omega) ?_
          have s2633:=s2630.trans (s31.trans (s12.trans s13))
          have e12':=s13 _ _ e12
          have e10':=(s31.trans (s12.trans s13)) _ _ e10
          have hn10:p10≠pr:=fun z=>by rw [z,(s9 _ _ h1)] at f10; cases f10
          have hn12:p12≠pr:=fun z=>by rw [z,s31 _ _ hpr30] at f12; cases f12
          have hri:Rm[i]?=some (false,es.map fun _=>(ad0 c i,ac3 c i)):=by rw [hRm,List.getElem?_map,List.getElem?_range hi]; rfl
          have hnew:(ae6 (false,es.map fun _=>(ad0 c i,ac3 c i))).At H33 (.ref p13) (p12::fs):=room_w.mpr ⟨p13,p12,acc',fs,rfl,e13,e12',hA.same (s12.trans s13),rfl⟩
          have hA2:Tw.Ats H33 ((Rm.take (i+1)).map ae6) (acc++[.ref p13]) (gs'++(p12::fs)):=by
           rw [List.take_add_one,hri,List.map_append]
           exact (h3.same ((s9.trans s10).trans (s31.trans (s12.trans s13)))).snoc hnew
          have hpn2:pr∉gs'++(p12::fs):=fun z=>by
           rcases List.mem_append.mp z with z | z
           · exact hpn z
           · rcases List.mem_cons.mp z with z | z
             · exact hn12 z.symm
             · exact hn10 (hfs _ z).symm
          exact ⟨hi,s2633.updNew f27,⟨_,_,a17,by simp [h2],hA2.mono (Keep.upd h33 hpn2),hpn2⟩,_,_,_,rfl⟩
       by_cases hb:ld≤i
       · rw [if_pos (decide_eq_true (by omega))]
         walk_at "run"
         refine be6 (ns:=[(y0:Int),(y1:Int)]) (SqL.of hm29) ?_
         rw [hsum]
         walk_at "run"
         refine be6 (ns:=[(y0:Int),(y1:Int)]) (SqL.of hm29) ?_
         rw [hsum]
         walk_at "run"
         have hpx:(((0:Int)+(i:Int) - (ld:Int)) % ((tC c:Nat):Int)=((tC c:Nat):Int) - 1)↔(i - ld) % tC c=tC c - 1:=by
          rw [show (0:Int)+(i:Int) - (ld:Int)=((i - ld:Nat):Int) by omega,←Int.natCast_emod,show ((tC c:Nat):Int) - 1=((tC c - 1:Nat):Int) by omega]
          exact Int.ofNat_inj
         have hsd:ad0 c i=if (i - ld) % tC c=tC c - 1 then [wd] else []:=by
          unfold ad0
          rw [hcl]
          by_cases hm:(i - ld) % tC c=tC c - 1
          · rw [if_pos ⟨hb,hm⟩,if_pos hm]
            subst hc
            rfl
          · rw [if_neg (fun z=>hm z.2),if_neg hm]
         by_cases hm:(i - ld) % tC c=tC c - 1
         · rw [if_pos hm] at hsd
           rw [decide_eq_true (hpx.mpr hm)]
           refine ⟨p9,1,_,rfl,rfl,e9,by decide,by decide,by simp; omega,fun p10 H30 f10 s10 e10=>fin p10 H30 f10 s10 ?_⟩
           rw [hsd]
           exact e10
         · rw [if_neg hm] at hsd
           rw [decide_eq_false (fun z=>hm (hpx.mp z))]
           refine ⟨p9,0,_,rfl,rfl,e9,by decide,by decide,by simp,fun p10 H30 f10 s10 e10=>fin p10 H30 f10 s10 ?_⟩
           rw [hsd]
           exact e10
       · rw [if_neg (by simp; omega)]
         walk_at "run"
         refine ⟨p9,0,_,rfl,rfl,e9,by decide,by decide,by simp,fun p10 H30 f10 s10 e10=>fin p10 H30 f10 s10 ?_⟩
         rw [show ad0 c i=[] from if_neg (fun z=>hb (by have:=z.1; omega))]
         exact e10
     · rintro σ H28 ⟨_,s28,⟨acc,gs',h1,h2,h3,hpn⟩,y,z,x,rfl⟩
       walk_at "run"
       rw [List.take_of_length_le (by omega)] at h3
       intro p14 H29 f14 s14 e14
       walk_at "run"
       intro p15 H30 f15 s15 e15
       walk_at "run"
       have s2630:=s28.trans (s14.trans s15)
       have s2530:=s26.trans s2630
       have u0:=an4 ((hat25.same s26).same s2630)
       have hP30:=hP.same s2530
       have hev30:=s2530 _ _ (s2225 _ _ hev)
       have hz14:Tw.Ats H30 [] ([]:List V) []:=by simp [Tw.Ats]
       have w1:(Tw.tup [.lst (toWs es),.lst [],.lst (Rm.map ae6)]).At H30 (.ref pt) (pa::(pb::(pc::gs))):=c88 (s2630 _ _ t1) (s2630 _ _ t2) u0 (s2630 _ _ t3) (s2630 _ _ t4) (hat26.same s2630)
       have w2:(Tw.tup [.lst (toWs es),.lst [],.lst (Rm.map ae6)]).At H30 (.ref p15) (ev::(p14::(pr::gs'))):=c88 e15 hev30 u0 (s15 _ _ e14) ((s14.trans s15) _ _ h1) (h3.same (s14.trans s15))
       have hhs:Tw.hs [.lst (toWs es),.lst [],.lst (Rm.map ae6)]≤50:=by
        have a1:Tr.hs es≤2:=bm4 hD.eh
        have a2:=bb5 Rm
        simp only [Tw.hs,Tw.h,ax9]
        omega
       refine cc5 w1 w2 hhs ?_
       walk_at "run"
       have hel:=hD.el
       have hne:=hD.e0
       refine ae0 (fun σ' H'=>∃ (ev2:Addr) (us2:List V) (es2:List Tr),Same H30 H'∧H' ev2=some (.lst us2)∧Tr.Ats H' es2 us2 []∧es2≠[]∧es2.length≤5∧(∀ x∈es2,x.h≤2)∧σ'=[some (.ref a0),some (.ref d0),some (.ref zs),some (.ref ls),some (.ref ev2),some (.int (ld:Nat)),some (.int (kd:Nat)),some (.str wd),some (.int (a36 c:Nat)),some (.ref p),some (.ref pt),some (.ref pr),y,z,x]) ?_ ?_
       · walk_at "run"
         by_cases hk:kd=13
         · refine a26 (by omega) ?_
           walk_at "run"
           refine bd9 (SqL.of hev30) ?_
           rw [show (some (1:Int))=some ((1:Nat):Int) from rfl,bb3]
           intro p16 H31 f16 s16 e16
           walk_at "run"
           exact ⟨p16,_,es.take 1,s16,e16,ao8 1 (hat25.same (s2530.trans s16)),by cases es with | nil=>exact absurd rfl hne | cons e es=>simp,by simp; omega,fun x hx=>hD.eh x (List.mem_of_mem_take hx),rfl⟩
         · refine a25 (by omega) ?_
           walk_at "run"
           exact ⟨ev,us,es,Same.refl _,hev30,hat25.same s2530,hne,hel,hD.eh,rfl⟩
       rintro σ' H31 ⟨ev2,us2,es2,s31,g1,g2,g3,g4,g5,rfl⟩
       walk_at "run"
       have hP31:=mkP H31 ev2 us2 es2 g4 g5 (hT.same (s2530.trans s31)) g1 g2
       have hsr2:=srC ck (es:=es2) g3
       rw [hcl,if_pos (by omega)] at hsr2
       refine ⟨p,ev2,us2,bxC c,kbC c,es2,20,okC c,stC c,[],some (sd0C c),rfl,hP31,fun row2 hrow2 pp ws H32 f32 s32 e32 hE=>?_,fun hno=>(by rw [hsr2] at hno; cases hno)⟩
       obtain rfl:rowC c=row2:=Option.some.inj (hsr2.symm.trans hrow2)
       have hrl2:(rowC c).length=ld+a36 c:=by unfold rowC; rw [List.length_map,List.length_range,hcl]
       rw [hrl2] at hE
       have hpl:(papS (rowC c) (ld+a36 c)).length=ld+a36 c:=by unfold papS; rw [List.length_map,List.length_range]
       have hwl2:ws.length=ld+a36 c:=by rw [hE.1,hpl]
       refine ⟨pp,rfl,⟨_,SqL.of e32⟩,a72 (xs:=ws) (le_line (by omega)) (fun i acc H'=>H32=H'∧i≤ld+a36 c∧acc=ai0 (List.range i)) ⟨rfl,Nat.zero_le _,rfl⟩ (fun i acc H' zz=>by obtain ⟨rfl,_,rfl⟩:=zz; exact ⟨by simp [ai0],SqL.of e32⟩) ?_ ?_⟩
       · rintro i x' acc H' hx ⟨rfl,hi,rfl⟩
         have hi':=(List.getElem?_eq_some_iff.mp hx).1
         have hq:(papS (rowC c) (ld+a36 c))[i]?=some ((rowC c).getD i none,i):=by
          unfold papS
          rw [List.getElem?_map,List.getElem?_range (by omega)]
          rfl
         obtain ⟨k,sv,rfl,ek,_⟩:=hE.2 i x' _ hx hq
         walk_at "run"
         refine a24 (SqT.of ek) (a04 (j:=1) rfl) ?_
         refine ⟨rfl,by omega,?_⟩
         rw [List.range_succ]
         simp [ai0]
       · rintro acc H' ⟨rfl,_,rfl⟩ p33 H33 f33 s33 e33
         walk_at "run"
         refine ⟨ld+a36 c,by simp,by omega,fun p34 H34 f34 s34 e34=>?_⟩
         walk_at "run"
         refine br4 e34 (by omega) ?_
         intro p35 H35 f35 s35 e35
         rw [hwl2] at e33
         exact ⟨_,_,_,az4 (s35 _ _ (s34 _ _ e33)),az4 e35,by rw [bb7]; omega,q _⟩
end
theorem all_mk {l:PySem.W.OpenLaw}{w:World}{K:PySem.W.Frag}{h:Heap}{mg:Str→Option Value}{fa:Addr}(X:K.In h) (G:h.Ns mainGlobals mg) (hfa:mg "law"=some (.ref fa)) (hF:HF w.params K):∃ fd:FuncData,(∀ (s:Shared) (v:Value),BindsTo s fd ⟨[v],[]⟩ [("script",v)])∧∀ base:Heap,K.In base→base.Ns mainGlobals mg→FnOk l.prog w K mg base CX0 22 fa fd ["script"] (aq6 K):=by
 obtain ⟨t,T⟩:=hF
 have T:=T mg h X G
 have e:=hfa.symm.trans T.f_law.m
 cases e
 obtain ⟨_,_,_,_,_,_,_,_,_,e,_⟩:=T.f_law.F.ex
 exact ⟨_,fun s v=>by rw [e]; exact .of_eq rfl,fun base _ _=>c89 T⟩
end K52
theorem PySem.Challenge.cw_callmill_k52_counters_and_too_many_holds : PySem.Challenge.rw_callmill_k52_counters_and_too_many.Holds := by
  exact K52.head fun K hF w mg fa h KX G hmg => K52.all_mk KX G hmg (hF w.params)
