import PyProof.Rows.All
import Wide.All
import OpenK.KLine
import KE.KItem
import KE.KIsAll
import Wide.FinOn
import Lean
import PyProof.EqAt
import PyProof.EqKinds
import PyProof.TupleCall
import PyProof.NeKinds
import PyProof.DictUpdate
import PyProof.AttrMissHeap
import KE.KDictOf
import PyProof.TupleIter
import PyProof.WalksEnum
import PyProof.EnumMake
import PyProof.Rows.EnumRows
import PyProof.Rows.MaxTwoN
import PyProof.ZipIter
import PyProof.IsRules
import PyProof.DictRoadsH
import Wide.Seal
import PyProof.MeetsDict
import PyProof.DictIter
import PyProof.DictWalks
import KE.KDictList
import PyProof.Rows.SumAny
import PyProof.ListRange
import PyProof.AutoSeq1
import PyProof.WalkInts
import PyProof.SeqI3
import KE.KTextTable
import PyProof.MeetsStr
import PyProof.StrCalls5
import PyProof.Rows.TupDisplay
import PyProof.Rows.TupAdd
import PyProof.Rows.StrNews2
import PyProof.StrBlockI
import PyProof.DictTruth
import PyProof.Rows.SortShell
import PyProof.DictValues
import PyProof.ConsumeS
import PyProof.Draws
import PyProof.Rows.SetFrom
import PyProof.FactsAll.set_1
import KE.KDictSum
import PyProof.Rows.SortStr
import PyProof.Rows.SortWalk
import PyProof.Rows.TmSorted
import PyProof.Rows.CallKwBuiltin
import KE.KTryDeep
import PyProof.Rows.CatchBare
import PyProof.Rows.TopTwo
import OpenK.KOwn
import PySem.Challenge.RW_callmill_k22_whole_waits_by_turns
set_option Elab.async false
set_option linter.all false
set_option maxRecDepth 100000
set_option maxHeartbeats 4000000
namespace L2
open PySem PySem.Spec PyProof.Rows
abbrev Key:=Sum Int Str
def ax0:Key→Value→Bool
 | .inl k,v=>Value.isInt k v
 | .inr x,v=>Value.isStrOf x v
def keyH (w:World):Key→Int
 | .inl k=>hashInt k
 | .inr x=>hashStr w x
theorem a39:∀ {k:Key}{v:Value},ax0 k v=true→(∃ i t,k=Sum.inl i∧v=Value.int i t)∨(∃ x t,k=Sum.inr x∧v=Value.str x t)
 | .inl i,v,h=>by
   obtain ⟨t,e⟩:=Value.isInt_shape (k:=i) (v:=v) h
   exact .inl ⟨i,t,rfl,e⟩
 | .inr x,v,h=>by
   obtain ⟨t,e⟩:=Value.isStrOf_shape (x:=x) (v:=v) h
   exact .inr ⟨x,t,rfl,e⟩
theorem az4 (i:Int) (t:Tok):ax0 (.inl i) (.int i t)=true:=by simp [ax0,Value.isInt]
theorem az5 (x:Str) (t:Tok):ax0 (.inr x) (.str x t)=true:=by simp [ax0,Value.isStrOf]
theorem bn3 (a b:Int):decide ((Sum.inl a:Key)=Sum.inl b)=(a == b):=by
 by_cases e:a=b
 · subst e; simp
 · have h:¬ (Sum.inl a:Key)=Sum.inl b:=fun q=>e (Sum.inl.inj q)
   rw [decide_eq_false h]
   exact (beq_eq_false_iff_ne.mpr e).symm
theorem bn4 (a b:Str):decide ((Sum.inr a:Key)=Sum.inr b)=decide (a=b):=by
 by_cases e:a=b
 · subst e; simp
 · have h:¬ (Sum.inr a:Key)=Sum.inr b:=fun q=>e (Sum.inr.inj q)
   rw [decide_eq_false h,decide_eq_false e]
theorem bn5 (a:Int) (b:Str):decide ((Sum.inl a:Key)=Sum.inr b)=false:=decide_eq_false (fun q=>nomatch q)
theorem bn6 (a:Str) (b:Int):decide ((Sum.inr a:Key)=Sum.inl b)=false:=decide_eq_false (fun q=>nomatch q)
def a42 (prog:Program) (w:World):PySem.KeyKind prog w Key where
 is:=ax0
 hash:=keyH w
 inj:=fun v a b ha hb=>by
  rcases a39 ha with ⟨i,t,rfl,rfl⟩ | ⟨x,t,rfl,rfl⟩
  · rcases a39 hb with ⟨j,u,rfl,e⟩ | ⟨y,u,rfl,e⟩
    · injection e with e1 _; rw [e1]
    · exact nomatch e
  · rcases a39 hb with ⟨j,u,rfl,e⟩ | ⟨y,u,rfl,e⟩
    · exact nomatch e
    · injection e with e1 _; rw [e1]
 byValue:=fun k v h=>by
  rcases a39 h with ⟨i,t,rfl,rfl⟩ | ⟨x,t,rfl,rfl⟩ <;> rfl
 pyHash:=fun hv h=>by
  rcases a39 hv with ⟨i,t,rfl,rfl⟩ | ⟨x,t,rfl,rfl⟩
  · exact wpAny_pyHash_int h
  · exact wpAny_pyHash_str h
 eqBool:=fun hu hv h=>by
  rcases a39 hu with ⟨i,t,rfl,rfl⟩ | ⟨x,t,rfl,rfl⟩
  · rcases a39 hv with ⟨j,u,rfl,rfl⟩ | ⟨y,u,rfl,rfl⟩
    · rw [bn3] at h; exact wpAny_eqBool_int h
    · rw [bn5] at h; exact SeqAt.EqAt.int_str i t y u _ _ _ _ h
  · rcases a39 hv with ⟨j,u,rfl,rfl⟩ | ⟨y,u,rfl,rfl⟩
    · rw [bn6] at h; exact SeqAt.EqAt.str_int x t j u _ _ _ _ h
    · rw [bn4] at h; exact wpAny_eqBool_str h
 «strs»:=fun k x t v h=>by
  rcases a39 h with ⟨i,u,rfl,e⟩ | ⟨y,u,rfl,e⟩
  · exact nomatch e
  · injection e with e1 _
    subst e1
    cases v <;> rfl
theorem ar7 (prog:Program) (w:World) (i:Int) (t:Tok):(a42 prog w).is (.inl i) (.int i t)=true:=az4 i t
theorem ar8 (prog:Program) (w:World) (x:Str) (t:Tok):(a42 prog w).is (.inr x) (.str x t)=true:=az5 x t
inductive V where
 | non | bl (b:Bool) | int (i:Int) | str (x:Str) | byt (b:Array UInt8) | flt (b:UInt64) | ref (a:Addr) | ty (n:String)
 deriving DecidableEq
def RelV:V→Value→Prop
 | .non,u=>u=Value.none
 | .bl b,u=>u=Value.bool b
 | .int i,u=>∃ t,u=Value.int i t
 | .str x,u=>∃ t,u=Value.str x t
 | .byt b,u=>∃ t,u=Value.bytes b t
 | .flt b,u=>∃ t,u=Value.float b t
 | .ref a,u=>u=Value.ref a
 | .ty n,u=>u=Value.type n
abbrev Vals:List V→List Value→Prop:=Paired RelV
theorem Vals.length {xs:List V}{us:List Value}(r:Vals xs us):xs.length=us.length:=Paired.length r
theorem Vals.get:∀ {xs:List V}{us:List Value}{i:Nat}{x:V},Vals xs us→xs[i]?=some x→∃ u,us[i]?=some u∧RelV x u
 | _,_,_,_,.nil,e=>by simp at e
 | _,_,0,_,.cons r _,e=>by simp at e; subst e; exact ⟨_,rfl,r⟩
 | _,_,i+1,x,.cons _ t,e=>by
   obtain ⟨u,h1,h2⟩:=Vals.get (i:=i) (x:=x) t (by simpa using e)
   exact ⟨u,by simpa using h1,h2⟩
theorem Vals.append:∀ {xs ys:List V}{us ws:List Value},Vals xs us→Vals ys ws→Vals (xs++ys) (us++ws)
 | _,_,_,_,.nil,s=>s
 | _,_,_,_,.cons r t,s=>.cons r (Vals.append t s)
theorem Vals.take:∀ {xs:List V}{us:List Value}(n:Nat),Vals xs us→Vals (xs.take n) (us.take n)
 | _,_,0,_=>.nil
 | _,_,_+1,.nil=>.nil
 | _,_,n+1,.cons r t=>.cons r (Vals.take n t)
theorem Vals.drop:∀ {xs:List V}{us:List Value}(n:Nat),Vals xs us→Vals (xs.drop n) (us.drop n)
 | _,_,0,r=>r
 | _,_,_+1,.nil=>.nil
 | _,_,n+1,.cons _ t=>Vals.drop n t
def RelO:Option V→Option Value→Prop
 | some v,some u=>RelV v u
 | none,none=>True
 | _,_=>False
def KV {κ:Type}:List (κ×V)→List (κ×Value)→Prop:=Paired fun (p:κ×V) (q:κ×Value)=>p.1=q.1∧RelV p.2 q.2
def kV:Key→V
 | .inl i=>.int i
 | .inr x=>.str x
inductive HO where
 | lst (xs:List V)
 | tup (xs:List V)
 | dK (kvs:List (Key×V)) | dT (kvs:List (List Key×V))
 | set (S:Int→Bool) (n:Nat)
 | ins (C dx:Addr) (fs:List (Str×V))
 | own (x:Addr)
 | xd (fs:List (Str×V))
 | met (f x:Addr)
 | rng (lo hi:Int)
 | frz (o:Obj) (u:HO)
 | tbl (ps:Array Value)
 | ext (φ:Heap→Prop)
abbrev Hp:=Addr→Option HO
def upd (H:Hp) (a:Addr) (o:HO):Hp:=fun b=>if b=a then some o else H b
theorem a19 {H:Hp}{a:Addr}{o:HO}:upd H a o a=some o:=by unfold upd; rw [if_pos rfl]
theorem a14 {H:Hp}{a b:Addr}{o:HO}(h:b≠a):upd H a o b=H b:=by unfold upd; rw [if_neg h]
theorem b71 {H:Hp}{a b:Addr}{o u:HO}(h:H a=some o) (h':H b=some u) (d:o≠u):a≠b:=by
 intro e; subst e; rw [h] at h'; exact d (Option.some.inj h')
theorem a35 {H:Hp}{a b:Addr}{o:HO}(h:H a=some o) (h':H b=none):a≠b:=by
 intro e; subst e; rw [h] at h'; cases h'
section
variable (P:Program) (w:World)
def ObjOk (H:Hp) (h:Heap) (a:Addr):HO→Prop
 | .lst xs=>xs.length≤sizeLine∧∃ (its:List Value) (n:Nat),Vals xs its∧h.get? a=some { cls:=.type "list",data:=.seq its.toArray n }
 | .tup xs=>xs.length≤sizeLine∧∃ its:List Value,Vals xs its∧IsTup h a its.toArray
 | .dK kvs=>kvs.length≤sizeLine∧(a == sysModules)=false∧∃ vs,KV kvs vs∧h.DictOf (a42 P w) a vs
 | .dT kvs=>kvs.length≤sizeLine∧(a == sysModules)=false∧∃ xs:List (List Key×Addr×Value),
  Paired (fun (p:List Key×V) (q:List Key×Addr×Value)=>p.1=q.1∧H q.2.1=some (.tup (p.1.map kV))∧RelV p.2 q.2.2) kvs xs ∧
  ∃ o es ep,h.get? a=some o∧o.ExactDict∧o.data=.dict es ep∧es.toList=xs.map (entryOfKey (tupleKind (a42 P w)))∧(xs.map (·.1)).Nodup
 | .set S n=>h.SetOf (intKind P w) a S n
 | .ins C dx fs=>H dx=some (.own a)∧fs.length≤1000∧dx≠a∧h.get? a=some (PySem.W.instObj C dx) ∧
  ∃ mA,h.Ns1 dx mA∧(∀ f,RelO (fs.lookup f) (mA f))∧PySem.Within mA (fs.map (·.1))
 | .own _=>∃ o,h.get? a=some o
 | .xd fs=>∃ mA,h.Ns1 a mA∧∀ f,RelO (fs.lookup f) (mA f)
 | .rng lo hi=>∃ t u v,h.get? a=some { cls:=.type "range",data:=.fields #[.int lo t,.int hi u,.int 1 v] }
 | .frz o u=>h.get? a=some o∧ObjOk H h a u
 | .tbl ps=>h.get? a=some { cls:=.none,data:=.fields ps }
 | .met f x=>h.get? a=some (PySem.W.methodObj (.ref f) (.ref x))
 | .ext φ=>φ h∧(∃ o,h.get? a=some o)∧∀ h1 h2:Heap,φ h1→(∀ o,h1.get? a=some o→h2.get? a=some o)→φ h2
def HOk (H:Hp) (h:Heap):Prop:=∀ a o,H a=some o→ObjOk P w H h a o
end
section
variable {P:Program}{w:World}{H H':Hp}{h h':Heap}{a:Addr}{o:HO}
theorem ObjOk.lt (x:ObjOk P w H h a o):a<h.objs.size:=by
 cases o with
 | lst xs=>obtain ⟨_,_,_,_,e⟩:=x; exact Heap.lt_size e
 | tup xs=>obtain ⟨_,_,_,p⟩:=x; exact p.lt
 | dK kvs=>obtain ⟨_,_,_,_,o,_,_,e,_⟩:=x; exact Heap.lt_size e
 | dT kvs=>obtain ⟨_,_,_,_,o,_,_,e,_⟩:=x; exact Heap.lt_size e
 | set S n=>obtain ⟨o,_,_,_,e,_⟩:=x; exact Heap.lt_size e
 | ins C dx fs=>obtain ⟨_,_,_,e,_⟩:=x; exact Heap.lt_size e
 | own y=>obtain ⟨_,e⟩:=x; exact Heap.lt_size e
 | xd fs=>obtain ⟨_,⟨_,_,_,e,_⟩,_⟩:=x; exact Heap.lt_size e
 | rng lo hi=>obtain ⟨_,_,_,e⟩:=x; exact Heap.lt_size e
 | frz ob u=>obtain ⟨e,_⟩:=x; exact Heap.lt_size e
 | tbl ps=>exact Heap.lt_size (show h.get? a=some _ from x)
 | met f y=>exact Heap.lt_size (show h.get? a=some _ from x)
 | ext φ=>obtain ⟨_,⟨_,e⟩,_⟩:=x; exact Heap.lt_size e
theorem Paired.mapP {α β:Type}{F G:α→β→Prop}:∀ {l₁:List α}{l₂:List β},Paired F l₁ l₂→(∀ a b,F a b→G a b)→Paired G l₁ l₂
 | _,_,.nil,_=>.nil
 | _,_,.cons r t,f=>.cons (f _ _ r) (Paired.mapP t f)
theorem ObjOk.stay (x:ObjOk P w H h a o) (k:∀ b u,(b=a∨H b=some (.own a))→h.get? b=some u→h'.get? b=some u)
 (ho:∀ b,H b=some (.own a)→H' b=some (.own a)) (ht:∀ b xs,H b=some (.tup xs)→H' b=some (.tup xs)):ObjOk P w H' h' a o:=by
 induction o with
 | lst xs=>obtain ⟨z,its,n,r,e⟩:=x; exact ⟨z,its,n,r,k _ _ (.inl rfl) e⟩
 | tup xs=>obtain ⟨z,its,r,ob,e,c⟩:=x; exact ⟨z,its,r,ob,k _ _ (.inl rfl) e,c⟩
 | dK kvs=>obtain ⟨z,y,vs,r,ob,es,ep,e,c⟩:=x; exact ⟨z,y,vs,r,ob,es,ep,k _ _ (.inl rfl) e,c⟩
 | dT kvs =>
   obtain ⟨z,y,xs,r,ob,es,ep,e,c⟩:=x
   exact ⟨z,y,xs,Paired.mapP r fun p q z=>⟨z.1,ht _ _ z.2.1,z.2.2⟩,ob,es,ep,k _ _ (.inl rfl) e,c⟩
 | set S n=>obtain ⟨ob,es,ep,t,e,c⟩:=x; exact ⟨ob,es,ep,t,k _ _ (.inl rfl) e,c⟩
 | ins C dx fs =>
   obtain ⟨d,z,ne,e,mA,⟨od,es,ep,e2,c⟩,r⟩:=x
   exact ⟨ho _ d,z,ne,k _ _ (.inl rfl) e,mA,⟨od,es,ep,k _ _ (.inr d) e2,c⟩,r⟩
 | own y=>obtain ⟨ob,e⟩:=x; exact ⟨ob,k _ _ (.inl rfl) e⟩
 | xd fs=>obtain ⟨mA,⟨od,es,ep,e,c⟩,r⟩:=x; exact ⟨mA,⟨od,es,ep,k _ _ (.inl rfl) e,c⟩,r⟩
 | rng lo hi=>obtain ⟨t,u,v,e⟩:=x; exact ⟨t,u,v,k _ _ (.inl rfl) e⟩
 | frz ob u ih=>obtain ⟨e,q⟩:=x; exact ⟨k _ _ (.inl rfl) e,ih q⟩
 | tbl ps =>
   have e:h.get? a=some { cls:=.none,data:=.fields ps }:=x
   show h'.get? a=some { cls:=.none,data:=.fields ps }
   exact k a _ (.inl rfl) e
 | met f y =>
   have e:h.get? a=some (PySem.W.methodObj (.ref f) (.ref y)):=x
   show h'.get? a=some (PySem.W.methodObj (.ref f) (.ref y))
   exact k a _ (.inl rfl) e
 | ext φ=>obtain ⟨p,⟨o,e⟩,st⟩:=x; exact ⟨st _ _ p fun o q=>k _ _ (.inl rfl) q,⟨o,k _ _ (.inl rfl) e⟩,st⟩
theorem HOk.lt (x:HOk P w H h) (e:H a=some o):a<h.objs.size:=(x a o e).lt
theorem HOk.fresh (x:HOk P w H h) (e:h.objs.size≤a):H a=none:=by
 cases q:H a with
 | none=>rfl
 | some u=>exact absurd (Nat.lt_of_lt_of_le (x.lt q) e) (Nat.lt_irrefl _)
theorem HOk.kept (x:HOk P w H h) (k:∀ b u,h.get? b=some u→h'.get? b=some u):HOk P w H h':=fun a o e =>
 (x a o e).stay (fun b u _ q=>k b u q) (fun _ q=>q) fun _ _ q=>q
theorem HOk.laid (x:HOk P w H h) (k:∀ b u,h.get? b=some u→h'.get? b=some u) (hp:h.objs.size≤a) (new:ObjOk P w (upd H a o) h' a o):HOk P w (upd H a o) h':=fun b u e=>by
 have hn:=x.fresh hp
 by_cases hb:b=a
 · subst hb; rw [a19] at e; cases e; exact new
 · rw [a14 hb] at e
   exact (x b u e).stay (fun c v _ q=>k c v q) (fun c q=>by rw [a14 (a35 q hn)]; exact q) fun c xs q=>by rw [a14 (a35 q hn)]; exact q
end
def Rd (H:Hp) (a:Addr) (u:HO):Prop:=H a=some u∨∃ o,H a=some (.frz o u)
theorem Rd.ok {P:Program}{w:World}{H:Hp}{h:Heap}{a:Addr}{u:HO}(r:Rd H a u) (x:HOk P w H h):ObjOk P w H h a u:=by
 rcases r with r | ⟨o,r⟩
 · exact x a u r
 · obtain ⟨_,q⟩:=x a _ r
   exact q
def Mut:Option HO→Prop
 | some (.lst _)=>True
 | some (.dK _)=>True
 | some (.dT _)=>True
 | some (.set _ _)=>True
 | some (.ins _ _ _)=>True
 | some (.ext _)=>True
 | _=>False
section
variable {P:Program}{w:World}{H:Hp}{h h':Heap}{x e:Addr}{o':HO}
theorem HOk.write (ok:HOk P w H h) (mu:Mut (H x)) (he:e=x∨H e=some (.own x)) (k:∀ b u,b≠e→h.get? b=some u→h'.get? b=some u) (heo:∃ u,h'.get? e=some u)
 (new:ObjOk P w (upd H x o') h' x o'):HOk P w (upd H x o') h':=fun b u q=>by
 have nown:∀ c y,H c=some (.own y)→c≠x:=fun c y r z=>by subst z; rw [r] at mu; exact mu
 have ntup:∀ c xs,H c=some (.tup xs)→c≠x:=fun c xs r z=>by subst z; rw [r] at mu; exact mu
 by_cases hb:b=x
 · subst hb; rw [a19] at q; cases q; exact new
 · rw [a14 hb] at q
   by_cases hbe:b=e
   · have q':H b=some (.own x):=by
      rcases he with z | z
      · exact absurd (hbe.trans z) hb
      · rw [hbe]; exact z
     rw [q] at q'; cases q'
     obtain ⟨v,hv⟩:=heo
     exact ⟨v,by rw [hbe]; exact hv⟩
   · refine (ok b u q).stay (fun c v hc r=>k c v ?_ r) (fun c r=>by rw [a14 (nown c b r)]; exact r) fun c xs r=>by rw [a14 (ntup c xs r)]; exact r
     rcases hc with rfl | hc
     · exact hbe
     · rintro rfl
       rcases he with z | z
       · exact nown c b hc z
       · rw [hc] at z; cases z; exact hb rfl
end
structure Un (fs ex:List Addr) (H H':Hp) (h h':Heap):Prop where
 keep:∀ b o,h.get? b=some o→H b=none→b∉fs→b∉ex→h'.get? b=some o
 slot:∀ b o,h.get? b=some o→H b=none→b∈fs→b∉ex→∃ sl,h'.get? b=some { o with slots:=sl }
 free:∀ b o,h.get? b=some o→H b=none→b∉ex→H' b=none
 there:∀ b o,h.get? b=some o→b∉ex→∃ o',h'.get? b=some o'
 tups:∀ b xs,H b=some (.tup xs)→H' b=some (.tup xs)
 frzs:∀ b o u,H b=some (.frz o u)→H' b=some (.frz o u)
 tbls:∀ b ps,H b=some (.tbl ps)→∃ more,H' b=some (.tbl (ps++more))
section
variable {fs fs' ex ex':List Addr}{H H1 H2:Hp}{h h1 h2 h':Heap}{a x e:Addr}{o:HO}
theorem Un.any (u:Un fs ex H H1 h h1) {b:Addr}{ob:Obj}(q:h.get? b=some ob) (n:H b=none) (hx:b∉ex):∃ sl,h1.get? b=some { ob with slots:=sl }:=by
 by_cases hb:b∈fs
 · exact u.slot b ob q n hb hx
 · exact ⟨ob.slots,u.keep b ob q n hb hx⟩
theorem Un.kept (k:∀ b u,h.get? b=some u→h'.get? b=some u):Un fs ex H H h h' :=
 ⟨fun b ob q _ _ _=>k b ob q,fun b ob q _ _ _=>⟨ob.slots,k b ob q⟩,fun _ _ _ n _=>n,fun b ob q _=>⟨ob,k b ob q⟩,fun _ _ q=>q,fun _ _ _ q=>q,fun _ ps q=>⟨#[],by rw [q]; simp⟩⟩
theorem Un.refl:Un fs ex H H h h:=Un.kept fun _ _ q=>q
theorem Un.laid (k:∀ b u,h.get? b=some u→h'.get? b=some u) (hp:h.objs.size≤a) (hn:H a=none):Un fs ex H (upd H a o) h h' where
 keep:=fun b u q _ _ _=>k b u q
 slot:=fun b u q _ _ _=>⟨u.slots,k b u q⟩
 free:=fun b u q n _=>by rw [a14 (Nat.ne_of_lt (Nat.lt_of_lt_of_le (Heap.lt_size q) hp))]; exact n
 there:=fun b u q _=>⟨u,k b u q⟩
 tups:=fun b xs q=>by rw [a14 (a35 q hn)]; exact q
 frzs:=fun b u xs q=>by rw [a14 (a35 q hn)]; exact q
 tbls:=fun b ps q=>⟨#[],by rw [a14 (a35 q hn),q]; simp⟩
theorem Un.write (mu:Mut (H x)) (he:e=x∨H e=some (.own x)) (k:∀ b u,b≠e→h.get? b=some u→h'.get? b=some u) (heo:∃ u,h'.get? e=some u):Un fs ex H (upd H x o) h h':=by
 have hx:∀ b,H b=none→b≠x:=fun b n z=>by subst z; rw [n] at mu; exact mu
 have hb:∀ b,H b=none→b≠e:=fun b n z=>by
  subst z
  rcases he with r | r
  · exact hx b n r
  · rw [n] at r; cases r
 have hm:∀ b u,H b=some u→¬ Mut (some u)→b≠x:=fun b u q nm z=>by subst z; rw [q] at mu; exact nm mu
 refine ⟨fun b u q n _ _=>k b u (hb b n) q,fun b u q n _ _=>⟨u.slots,k b u (hb b n) q⟩,fun b u q n _=>by rw [a14 (hx b n)]; exact n,fun b u q _=>?_,
  fun b xs q=>by rw [a14 (hm b _ q fun z=>z)]; exact q,fun b u xs q=>by rw [a14 (hm b _ q fun z=>z)]; exact q,fun b ps q=>⟨#[],by rw [a14 (hm b _ q fun z=>z),q]; simp⟩⟩
 by_cases hbe:b=e
 · subst hbe; exact heo
 · exact ⟨u,k b u hbe q⟩
end
def trk (h:Heap) (H:Hp):List Addr:=(List.range h.objs.size).filter fun a=>(H a).isSome
def hidT (h:Heap) (H:Hp):Heap:=PySem.W.hideAll h (trk h H)
theorem az6 (h:Heap) (H:Hp):(hidT h H).objs.size=h.objs.size:=PySem.W.hideAll_size _ _
theorem b72 {h:Heap}{H:Hp}{b:Addr}{o:Obj}(e:h.get? b=some o) (n:H b=none):(hidT h H).get? b=some o :=
 PySem.W.hideAll_get _ e fun hm=>by
  have q:(H b).isSome=true:=(List.mem_filter.mp hm).2
  rw [n] at q; simp at q
theorem bf6 {h:Heap}{H:Hp}{b:Addr}{o:Obj}(e:(hidT h H).get? b=some o):h.get? b=some o∧H b=none:=by
 have e':h.get? b=some o:=PySem.W.of_hideAll (trk h H) e
 refine ⟨e',?_⟩
 cases q:H b with
 | none=>rfl
 | some x =>
   have hm:b∈trk h H:=List.mem_filter.mpr ⟨List.mem_range.mpr (Heap.lt_size e'),by simp [q]⟩
   have z:(hidT h H).get? b=none:=PySem.W.hideAll_none (trk h H) hm
   rw [z] at e; cases e
def bf7 (g h:Heap) (L:Addr):List (Addr×Obj):=(List.range h.objs.size).filterMap fun a=>if a=L∨(g.get? a).isSome=true then none else (h.get? a).map fun o=>(a,o)
def rest (g h:Heap) (L d:Addr):List (Addr×Obj):=(bf7 g h L).filter fun p=>decide (p.1≠d)
structure Mod (K:PySem.W.Frag) (mg:Str→Option Value) (base:Heap):Prop where
 kin:K.In base
 glob:base.Ns mainGlobals mg
 blt:∃ mb,base.Ns builtinsNs mb∧∀ x:Str,x≠"__name__"→mb x=bootBuiltins x
 nolimit:base.NoLimit
structure Cx where
 prog:Program
 w:World
 K:PySem.W.Frag
 mg:Str→Option Value
 base:Heap
 A:Around
 N:List Str
 s₀:Shared
 H₀:Hp
 env:Env
 outer:List Env
 stack:List Env
 ex:List Addr
 fn:Str→Bool
 calm:Bool
 pn:List (Addr×Obj)
 xe:Value→Shared→Prop
def frs (l:List Env):List Addr:=l.filterMap (·.frame)
abbrev Cx.fs (X:Cx):List Addr:=frs X.outer
def Vis (sc:Scope) (x:Str):Prop:=sc.names.lookup x=some .local∨sc.names.lookup x=some .cell∨sc.names.lookup x=some .free
def Loc (sc:Scope) (x:Str):Prop:=sc.names.lookup x=some .local∨sc.names.lookup x=some .cell
def Look (env:Env) (h:Heap) (m:Str→Option Value) (x:Str) (u:Value):Prop :=
 (env.kindOf x=some .local∧m x=some u)∨((env.kindOf x=some .cell∨env.kindOf x=some .free)∧∃ c,env.cells.lookup x=some c∧h.IsCell c (some u))
structure Cx.Ok (X:Cx):Prop where
 mod:Mod X.K X.mg X.base
 kind:X.env.scope.kind=.function
 glob:X.env.globals=mainGlobals
 blt:X.env.builtins=builtinsNs
 above:X.s₀.heap.objs.size≤X.env.locals
 inj:∀ x y c,X.env.cells.lookup x=some c→X.env.cells.lookup y=some c→x=y
 has:∀ x,(X.env.kindOf x=some .cell∨X.env.kindOf x=some .free)→∃ c,X.env.cells.lookup x=some c
 cab:∀ x c,X.fn x=true→X.env.cells.lookup x=some c→X.s₀.heap.objs.size≤c
 hd:X.calm=true→X.A.handled=none
 frames:X.A.frames=some X.stack
 stk:X.stack=X.outer∨(X.stack=X.env::X.outer∧X.env.frame=some X.env.locals)
 exf:∀ b∈X.ex,b≠X.env.locals∧∀ x c,X.env.cells.lookup x=some c→c≠b
 bs:∀ b o,X.base.get? b=some o→X.s₀.heap.get? b=some o∧X.H₀ b=none
 bsz:X.base.objs.size≤X.s₀.heap.objs.size
 noex:∀ b o,X.base.get? b=some o→b∉X.ex
 exfs:∀ b∈X.ex,b∉X.fs
 funs:X.s₀.heap.FunFrames X.base X.outer
 frf:∀ b∈X.fs,X.H₀ b=none
structure Inv (X:Cx) (pins:List (Addr×Obj)) (σ:List (Option V)) (H:Hp) (s:Shared):Prop where
 ok:X.Ok
 os:s.os=X.s₀.os
 bare:AllBare s.gens
 base:Un X.fs X.ex X.H₀ H X.s₀.heap s.heap
 loc:∃ m,s.heap.Ns X.env.locals m∧∀ (i:Nat) (x:Str) (v:V),X.N[i]?=some x→σ[i]?=some (some v)→Vis X.env.scope x→∃ u,RelV v u∧Look X.env s.heap m x u
 cell:∀ x c,X.env.cells.lookup x=some c→∃ v,s.heap.IsCell c v
 free:H X.env.locals=none
 freeC:∀ x c,X.env.cells.lookup x=some c→H c=none
 pin:∀ p∈X.pn++pins,s.heap.get? p.1=some p.2∧H p.1=none∧p.1≠X.env.locals∧p.1∉X.fs∧∀ v,p.2.data≠.cell v
 hok:HOk X.prog X.w H s.heap
 len:σ.length=X.N.length
section
variable {X:Cx}{pins:List (Addr×Obj)}{σ:List (Option V)} {H H':Hp}{s:Shared}{h':Heap}
theorem Cx.Ok.nofr (ok:X.Ok) {b:Addr}{o:Obj}(e:X.base.get? b=some o):b∉X.fs:=fun hb=>by
 have:=(ok.funs.mem hb).1
 rw [e] at this; cases this
theorem Inv.bs (I:Inv X pins σ H s):∀ b o,X.base.get? b=some o→s.heap.get? b=some o∧H b=none:=fun b o e =>
 ⟨I.base.keep b o (I.ok.bs b o e).1 (I.ok.bs b o e).2 (I.ok.nofr e) (I.ok.noex b o e),I.base.free b o (I.ok.bs b o e).1 (I.ok.bs b o e).2 (I.ok.noex b o e)⟩
theorem Inv.bk (I:Inv X pins σ H s):∀ b o,X.base.get? b=some o→s.heap.get? b=some o:=fun b o e=>(I.bs b o e).1
theorem Inv.mod (I:Inv X pins σ H s):Mod X.K X.mg X.base:=I.ok.mod
theorem Inv.kIn (I:Inv X pins σ H s):X.K.In s.heap:=I.ok.mod.kin.keeps I.bk
theorem Inv.lt (I:Inv X pins σ H s):X.env.locals<s.heap.objs.size:=let ⟨_,hn,_⟩:=I.loc; hn.lt
theorem Inv.sz (I:Inv X pins σ H s):X.s₀.heap.objs.size≤s.heap.objs.size:=Nat.le_trans I.ok.above (Nat.le_of_lt I.lt)
theorem Inv.nofs (I:Inv X pins σ H s) {a:Addr}(h:s.heap.objs.size≤a):a∉X.fs:=fun hb=>by
 obtain ⟨_,o,ho,_⟩:=I.ok.funs.mem hb
 exact absurd (Nat.lt_of_lt_of_le (Heap.lt_size ho) (Nat.le_trans I.sz h)) (Nat.lt_irrefl _)
theorem Inv.cne (I:Inv X pins σ H s):∀ x c,X.env.cells.lookup x=some c→c≠X.env.locals:=fun x c e z=>by
 obtain ⟨v,o,ho,hd⟩:=I.cell x c e
 obtain ⟨m,⟨o',es,ep,ho',hd',_⟩,_⟩:=I.loc
 rw [z,ho'] at ho; cases ho; rw [hd'] at hd; cases hd
theorem Inv.funs (I:Inv X pins σ H s):s.heap.FunFrames X.base X.outer:=by
 have all:∀ (l:List Env),(∀ b∈frs l,b∈X.fs)→X.s₀.heap.FunFrames X.base l→s.heap.FunFrames X.base l:=by
  intro l
  induction l with
  | nil=>intro _ _; trivial
  | cons env r ih =>
    intro hs hl
    obtain ⟨hk,⟨L,o,hf,hn,ho,hd⟩,hr⟩:=hl
    have hL:L∈X.fs:=hs L (by unfold frs; rw [List.filterMap_cons,hf]; exact List.mem_cons_self)
    obtain ⟨sl,e⟩:=I.base.slot L o ho (I.ok.frf L hL) hL fun z=>I.ok.exfs L z hL
    exact ⟨hk,⟨L,_,hf,hn,e,hd⟩,ih (fun b hb=>hs b (by unfold frs; rw [List.filterMap_cons,hf]; exact List.mem_cons_of_mem _ hb)) hr⟩
 exact all X.outer (fun _ hb=>hb) I.ok.funs
theorem Inv.stack (I:Inv X pins σ H s):s.heap.FunFrames X.base X.stack:=by
 rcases I.ok.stk with e | ⟨e,hf⟩
 · rw [e]; exact I.funs
 · rw [e]
   obtain ⟨m,hn,_⟩:=I.loc
   refine .cons (by rw [I.ok.kind]; decide) hf hn ?_ I.funs
   exact Heap.get?_none_of_le (Nat.le_trans I.ok.bsz I.ok.above)
theorem Inv.stkSub (I:Inv X pins σ H s):∀ b∈frs X.stack,b∈X.env.locals::X.fs:=fun b hb=>by
 rcases I.ok.stk with e | ⟨e,hf⟩
 · rw [e] at hb; exact List.mem_cons_of_mem _ hb
 · rw [e] at hb
   unfold frs at hb
   rw [List.filterMap_cons,hf] at hb
   exact hb
theorem Inv.stkFree (I:Inv X pins σ H s):∀ b∈frs X.stack,H b=none:=fun b hb=>by
 rcases List.mem_cons.mp (I.stkSub b hb) with e | hb
 · rw [e]; exact I.free
 · obtain ⟨_,o,ho,_⟩:=I.ok.funs.mem hb
   exact I.base.free b o ho (I.ok.frf b hb) fun z=>I.ok.exfs b z hb
theorem Inv.step {g':Array GenState}{t':Nat}{d':Drawn}{ch:List Addr}(I:Inv X pins σ H s)
 (hch:∀ b∈ch,(b∈X.ex∨X.s₀.heap.objs.size≤b)∧b≠X.env.locals∧(∀ x c,X.env.cells.lookup x=some c→c≠b)∧∀ p∈X.pn++pins,p.1≠b)
 (keep:∀ b o,b≠X.env.locals→b∉X.fs→b∉ch→s.heap.get? b=some o→H b=none→h'.get? b=some o)
 (slot:∀ b o,b≠X.env.locals→b∈X.fs→b∉ch→s.heap.get? b=some o→H b=none→∃ sl,h'.get? b=some { o with slots:=sl }) (free:∀ b o,b∉ch→s.heap.get? b=some o→H b=none→H' b=none)
 (there:∀ b o,b∉ch→s.heap.get? b=some o→∃ o',h'.get? b=some o')
 (tups:∀ b xs,H b=some (.tup xs)→H' b=some (.tup xs)) (frzs:∀ b o u,H b=some (.frz o u)→H' b=some (.frz o u)) (tbls:∀ b ps,H b=some (.tbl ps)→∃ more,H' b=some (.tbl (ps++more)))
 (ns:∀ m,s.heap.Ns X.env.locals m→h'.Ns X.env.locals m) (hok:HOk X.prog X.w H' h') (hg:AllBare g') :
 Inv X pins σ H' { s with heap:=h',gens:=g',drawn:=d',toks:=t' }:=by
 have neL:∀ b o,X.s₀.heap.get? b=some o→b≠X.env.locals:=fun b o e=>Nat.ne_of_lt (Nat.lt_of_lt_of_le (Heap.lt_size e) I.ok.above)
 have neC:∀ b o,X.s₀.heap.get? b=some o→b∉X.ex→b∉ch:=fun b o e hx hb=>by
  rcases (hch b hb).1 with z | z
  · exact hx z
  · exact absurd (Nat.lt_of_lt_of_le (Heap.lt_size e) z) (Nat.lt_irrefl _)
 have cellK:∀ x c,X.env.cells.lookup x=some c→∀ v,s.heap.IsCell c v→h'.IsCell c v:=fun x c e v ⟨o,ho,hd⟩=>by
  have nch:c∉ch:=fun z=>(hch c z).2.2.1 x c e rfl
  by_cases hc:c∈X.fs
  · obtain ⟨sl,q⟩:=slot c o (I.cne x c e) hc nch ho (I.freeC x c e)
    exact ⟨_,q,hd⟩
  · exact ⟨o,keep c o (I.cne x c e) hc nch ho (I.freeC x c e),hd⟩
 refine ⟨I.ok,I.os,hg,⟨fun b o e n hb hx=>?_,fun b o e n hb hx=>?_,fun b o e n hx=>?_,fun b o e hx=>?_,fun b xs e=>tups b xs (I.base.tups b xs e),fun b o xs e=>frzs b o xs (I.base.frzs b o xs e),fun b ps e=>?_⟩,?_,fun x c e=>?_,?_,fun x c e=>?_,fun p hp=>?_,hok,I.len⟩
 · exact keep b o (neL b o e) hb (neC b o e hx) (I.base.keep b o e n hb hx) (I.base.free b o e n hx)
 · obtain ⟨sl,e1⟩:=I.base.slot b o e n hb hx
   obtain ⟨sl',e2⟩:=slot b _ (neL b o e) hb (neC b o e hx) e1 (I.base.free b o e n hx)
   exact ⟨sl',e2⟩
 · obtain ⟨o',e1⟩:=I.base.there b o e hx
   exact free b o' (neC b o e hx) e1 (I.base.free b o e n hx)
 · obtain ⟨o',e1⟩:=I.base.there b o e hx
   exact there b o' (neC b o e hx) e1
 · obtain ⟨m1,e1⟩:=I.base.tbls b ps e
   obtain ⟨m2,e2⟩:=tbls b _ e1
   exact ⟨m1++m2,by rw [e2,Array.append_assoc]⟩
 · obtain ⟨m,hn,hl⟩:=I.loc
   refine ⟨m,ns m hn,fun i x v e1 e2 e3=>?_⟩
   obtain ⟨u,r,l⟩:=hl i x v e1 e2 e3
   refine ⟨u,r,?_⟩
   rcases l with l | ⟨k,c,e,z⟩
   · exact .inl l
   · exact .inr ⟨k,c,e,cellK x c e _ z⟩
 · obtain ⟨v,z⟩:=I.cell x c e
   exact ⟨v,cellK x c e v z⟩
 · obtain ⟨m,⟨o,_,_,ho,_⟩,_⟩:=I.loc
   exact free _ o (fun z=>(hch _ z).2.1 rfl) ho I.free
 · obtain ⟨v,o,ho,hd⟩:=I.cell x c e
   exact free c o (fun z=>(hch c z).2.2.1 x c e rfl) ho (I.freeC x c e)
 · obtain ⟨e,n,ne,nf,d⟩:=I.pin p hp
   have nch:p.1∉ch:=fun z=>(hch p.1 z).2.2.2 p hp rfl
   exact ⟨keep p.1 p.2 ne nf nch e n,free p.1 p.2 nch e n,ne,nf,d⟩
theorem Inv.un {t':Nat}(I:Inv X pins σ H s) (u:Un X.fs [] H H' s.heap h') (hok:HOk X.prog X.w H' h'):Inv X pins σ H' { s with heap:=h',toks:=t' }:=by
 obtain ⟨m,⟨o,es,ep,ho,r⟩,_⟩:=id I.loc
 obtain ⟨sl,hL⟩:=u.any ho I.free (by simp)
 exact I.step (g':=s.gens) (d':=s.drawn) (ch:=[]) (fun _ z=>nomatch z) (fun b o _ hb _ e n=>u.keep b o e n hb (by simp)) (fun b o _ hb _ e n=>u.slot b o e n hb (by simp)) (fun b o _ e n=>u.free b o e n (by simp)) (fun b o _ e=>u.there b o e (by simp)) u.tups u.frzs u.tbls (fun m' hm=>by
  obtain ⟨o',es',ep',ho',r'⟩:=hm
  rw [ho] at ho'; cases ho'
  exact ⟨_,es',ep',hL,r'⟩) hok I.bare
theorem Inv.call {g':Array GenState}{t':Nat}{d':Drawn}{ch:List Addr}(I:Inv X pins σ H s) (u:Un (frs X.stack) ch H H' s.heap h') (hok:HOk X.prog X.w H' h') (hg:AllBare g')
 (hch:∀ b∈ch,(b∈X.ex∨X.s₀.heap.objs.size≤b)∧b≠X.env.locals∧(∀ x c,X.env.cells.lookup x=some c→c≠b)∧∀ p∈X.pn++pins,p.1≠b) :
 Inv X pins σ H' { s with heap:=h',gens:=g',drawn:=d',toks:=t' }:=by
 obtain ⟨m,⟨o,es,ep,ho,r⟩,_⟩:=id I.loc
 obtain ⟨sl,hL⟩:=u.any ho I.free fun z=>(hch _ z).2.1 rfl
 exact I.step (ch:=ch) hch (fun b o hL hb hc e n=>u.keep b o e n (fun z=>(List.mem_cons.mp (I.stkSub b z)).elim hL hb) hc) (fun b o _ _ hc e n=>u.any e n hc) (fun b o hc e n=>u.free b o e n hc) (fun b o hc e=>u.there b o e hc) u.tups u.frzs u.tbls (fun m' hm=>by
  obtain ⟨o',es',ep',ho',r'⟩:=hm
  rw [ho] at ho'; cases ho'
  exact ⟨_,es',ep',hL,r'⟩) hok hg
theorem Inv.turned {t':Nat}{it:Addr}(I:Inv X pins σ H s) (k:∀ b o,b≠it→s.heap.get? b=some o→h'.get? b=some o) (hn:H it=none) (hL:it≠X.env.locals)
 (h1:it∈X.ex∨X.s₀.heap.objs.size≤it) (h2:∀ x c,X.env.cells.lookup x=some c→c≠it) (h3:∀ p∈X.pn++pins,p.1≠it):Inv X pins σ H { s with heap:=h',toks:=t' }:=by
 have nit:∀ b u,H b=some u→b≠it:=fun b u e z=>by rw [z,hn] at e; cases e
 refine I.step (g':=s.gens) (d':=s.drawn) (ch:=[it]) (fun b hb=>?_) (fun b o _ _ hc e _=>k b o (fun z=>hc (by simp [z])) e) (fun b o _ _ hc e _=>⟨o.slots,k b o (fun z=>hc (by simp [z])) e⟩) (fun _ _ _ _ n=>n)
  (fun b o hc e=>⟨o,k b o (fun z=>hc (by simp [z])) e⟩) (fun _ _ e=>e) (fun _ _ _ e=>e) (fun b ps e=>⟨#[],by rw [e]; simp⟩) (fun m hm=>?_) (fun b u e=>?_) I.bare
 · have e:b=it:=by simpa using hb
   subst e
   exact ⟨h1,hL,h2,h3⟩
 · obtain ⟨o,es,ep,ho,r⟩:=hm
   exact ⟨o,es,ep,k _ o (Ne.symm hL) ho,r⟩
 · refine (I.hok b u e).stay (fun c v hc q=>k c v ?_ q) (fun _ q=>q) fun _ _ q=>q
   rcases hc with z | z
   · rw [z]; exact nit b u e
   · exact nit c _ z
theorem Inv.tok (I:Inv X pins σ H s) (t:Nat):Inv X pins σ H { s with toks:=t }:=I.un (h':=s.heap) (t':=t) Un.refl I.hok
theorem Inv.kept {t':Nat}(I:Inv X pins σ H s) (k:∀ b u,s.heap.get? b=some u→h'.get? b=some u):Inv X pins σ H { s with heap:=h',toks:=t' }:=I.un (Un.kept k) (I.hok.kept k)
theorem Inv.laid {a:Addr}{o:HO}{t':Nat}(I:Inv X pins σ H s) (k:∀ b u,s.heap.get? b=some u→h'.get? b=some u) (hp:s.heap.objs.size≤a) (new:ObjOk X.prog X.w (upd H a o) h' a o) :
 Inv X pins σ (upd H a o) { s with heap:=h',toks:=t' }:=I.un (Un.laid k hp (I.hok.fresh hp)) (I.hok.laid k hp new)
theorem Inv.write {x e:Addr}{o:HO}{t':Nat}(I:Inv X pins σ H s) (mu:Mut (H x)) (he:e=x∨H e=some (.own x)) (k:∀ b u,b≠e→s.heap.get? b=some u→h'.get? b=some u) (heo:∃ u,h'.get? e=some u)
 (new:ObjOk X.prog X.w (upd H x o) h' x o):Inv X pins σ (upd H x o) { s with heap:=h',toks:=t' }:=I.un (Un.write mu he k heo) (I.hok.write mu he k heo new)
theorem Inv.pins_of {pins':List (Addr×Obj)}(I:Inv X pins σ H s) (h:∀ p∈pins',s.heap.get? p.1=some p.2∧H p.1=none∧p.1≠X.env.locals∧p.1∉X.fs∧∀ v,p.2.data≠.cell v):Inv X pins' σ H s :=
 ⟨I.ok,I.os,I.bare,I.base,I.loc,I.cell,I.free,I.freeC,fun p hp=>(List.mem_append.mp hp).elim (fun z=>I.pin p (List.mem_append_left _ z)) (h p),I.hok,I.len⟩
theorem au9 {N:List Str}(hN:N.Nodup) {i j:Nat}{x:Str}(a:N[i]?=some x) (b:N[j]?=some x):i=j:=by
 obtain ⟨h1,e1⟩:=List.getElem?_eq_some_iff.mp a
 obtain ⟨h2,e2⟩:=List.getElem?_eq_some_iff.mp b
 exact (List.getElem_inj hN).mp (e1.trans e2.symm)
theorem an1 {M:Model}{A:Around}{E:Value→Shared→Prop}{i:Nat}{x:Str}{v:V}{u:Value}{Q:Unit→Shared→Prop}(I:Inv X pins σ H s) (hN:X.N.Nodup) (hi:X.N[i]?=some x) (hx:Loc X.env.scope x) (r:RelV v u)
 (h:∀ s',Inv X pins (σ.set i (some v)) H s'→(∃ a,Heap.SameBut a s.heap s'.heap∧(a=X.env.locals∨X.env.cells.lookup x=some a))→Q () s') (hf:X.fn x=true∨X.env.scope.names.lookup x=some .local:=by first | exact .inl rfl | exact .inr rfl | assumption):wpAny M A (storeName X.env x u) Q E s:=by
 obtain ⟨m,hn,hl⟩:=id I.loc
 have hcls:(X.env.scope.kind == .class || (X.env.scope.kind == .module && X.env.locals != X.env.globals))=false:=by rw [I.ok.kind]; rfl
 have hiσ:i<σ.length:=by rw [I.len]; exact (List.getElem?_eq_some_iff.mp hi).1
 have cne:=I.cne
 have tracked:∀ {a:Addr}{h':Heap},(∃ o,s.heap.get? a=some o∧H a=none)→Heap.SameBut a s.heap h'→HOk X.prog X.w H h':=fun {a h'} ha hs b ob e=>by
  obtain ⟨_,_,hfree⟩:=ha
  refine (I.hok b ob e).stay (fun c w' hc q=>(hs.2 c ?_).trans q) (fun _ q=>q) fun _ _ q=>q
  rintro rfl
  rcases hc with rfl | hc
  · rw [hfree] at e; cases e
  · rw [hfree] at hc; cases hc
 rcases hx with hk | hk
 · refine wpAny_storeName_local hk hn (fun h' hn' hs=>?_) hcls
   obtain ⟨oL,_,_,hoL,_⟩:=id hn
   refine h _ ⟨I.ok,I.os,I.bare,⟨fun b o e n hb hx=>?_,fun b o e n hb hx=>?_,I.base.free,fun b o e hx=>?_,I.base.tups,I.base.frzs,I.base.tbls⟩,⟨_,hn',fun j y v' e1 e2 e3=>?_⟩,fun y c e=>?_,I.free,I.freeC,fun p hp=>?_,tracked ⟨oL,hoL,I.free⟩ hs,by simpa using I.len⟩ ⟨_,hs,.inl rfl⟩
   · exact (hs.2 b (Nat.ne_of_lt (Nat.lt_of_lt_of_le (Heap.lt_size e) I.ok.above))).trans (I.base.keep b o e n hb hx)
   · obtain ⟨sl,e1⟩:=I.base.slot b o e n hb hx
     exact ⟨sl,(hs.2 b (Nat.ne_of_lt (Nat.lt_of_lt_of_le (Heap.lt_size e) I.ok.above))).trans e1⟩
   · obtain ⟨o',e1⟩:=I.base.there b o e hx
     exact ⟨o',(hs.2 b (Nat.ne_of_lt (Nat.lt_of_lt_of_le (Heap.lt_size e) I.ok.above))).trans e1⟩
   · by_cases hj:j=i
     · subst hj
       rw [hi] at e1; cases e1
       rw [List.getElem?_set_self hiσ] at e2
       cases e2
       exact ⟨u,r,.inl ⟨hk,by simp⟩⟩
     · rw [List.getElem?_set_ne (Ne.symm hj)] at e2
       obtain ⟨u',r',q⟩:=hl j y v' e1 e2 e3
       refine ⟨u',r',?_⟩
       rcases q with ⟨k,e⟩ | ⟨k,c,e,z⟩
       · refine .inl ⟨k,?_⟩
         have:y≠x:=fun e=>hj (au9 hN e1 (e ▸ hi))
         simp [this,e]
       · exact .inr ⟨k,c,e,z.sameBut hs (cne y c e)⟩
   · obtain ⟨w',z⟩:=I.cell y c e
     exact ⟨w',z.sameBut hs (cne y c e)⟩
   · obtain ⟨e,n,ne,nf,d⟩:=I.pin p hp
     exact ⟨(hs.2 p.1 ne).trans e,n,ne,nf,d⟩
 · have hfn:X.fn x=true:=by
    rcases hf with z | z
    · exact z
    · rw [z] at hk; cases hk
   obtain ⟨c,hc⟩:=I.ok.has x (.inl hk)
   obtain ⟨w',z⟩:=I.cell x c hc
   refine wpAny_storeName_cell I.ok.kind hk hc z (fun h' hc' hs=>?_)
   obtain ⟨oc,hoc,hocd⟩:=id z
   refine h { s with heap:=h' } ⟨I.ok,I.os,I.bare,⟨fun b o e n hb hx=>?_,fun b o e n hb hx=>?_,I.base.free,fun b o e hx=>?_,I.base.tups,I.base.frzs,I.base.tbls⟩,⟨m,hn.sameBut hs (Ne.symm (cne x c hc)),fun j y v' e1 e2 e3=>?_⟩,fun y c' e=>?_,I.free,I.freeC,fun p hp=>?_,tracked ⟨oc,hoc,I.freeC x c hc⟩ hs,by simpa using I.len⟩ ⟨c,hs,.inr hc⟩
   · exact (hs.2 b (Nat.ne_of_lt (Nat.lt_of_lt_of_le (Heap.lt_size e) (I.ok.cab x c hfn hc)))).trans (I.base.keep b o e n hb hx)
   · obtain ⟨sl,e1⟩:=I.base.slot b o e n hb hx
     exact ⟨sl,(hs.2 b (Nat.ne_of_lt (Nat.lt_of_lt_of_le (Heap.lt_size e) (I.ok.cab x c hfn hc)))).trans e1⟩
   · obtain ⟨o',e1⟩:=I.base.there b o e hx
     exact ⟨o',(hs.2 b (Nat.ne_of_lt (Nat.lt_of_lt_of_le (Heap.lt_size e) (I.ok.cab x c hfn hc)))).trans e1⟩
   · by_cases hj:j=i
     · subst hj
       rw [hi] at e1; cases e1
       rw [List.getElem?_set_self hiσ] at e2
       cases e2
       exact ⟨u,r,.inr ⟨.inl hk,c,hc,hc'⟩⟩
     · rw [List.getElem?_set_ne (Ne.symm hj)] at e2
       obtain ⟨u',r',q⟩:=hl j y v' e1 e2 e3
       refine ⟨u',r',?_⟩
       rcases q with q | ⟨k,c',e,z'⟩
       · exact .inl q
       · refine .inr ⟨k,c',e,z'.sameBut hs ?_⟩
         rintro rfl
         exact hj (au9 hN e1 (I.ok.inj _ _ _ e hc ▸ hi))
   · by_cases hcc:c'=c
     · subst hcc; exact ⟨_,hc'⟩
     · obtain ⟨w2,z2⟩:=I.cell y c' e
       exact ⟨w2,z2.sameBut hs hcc⟩
   · obtain ⟨e,n,ne,nf,d⟩:=I.pin p hp
     refine ⟨(hs.2 p.1 ?_).trans e,n,ne,nf,d⟩
     intro q
     rw [q,hoc] at e
     have q':oc=p.2:=Option.some.inj e
     exact d w' (by rw [← q']; exact hocd)
theorem ak6 {M:Model}{A:Around}{E:Value→Shared→Prop}{i:Nat}{x:Str}{v:V}{u:Value}{Q:Unit→Shared→Prop}(I:Inv X pins σ H s) (hN:X.N.Nodup) (hi:X.N[i]?=some x) (hx:Loc X.env.scope x) (r:RelV v u)
 (h:∀ s',Inv X pins (σ.set i (some v)) H s'→Q () s') (hf:X.fn x=true∨X.env.scope.names.lookup x=some .local:=by first | exact .inl rfl | exact .inr rfl | assumption):wpAny M A (storeName X.env x u) Q E s :=
 an1 I hN hi hx r (fun s' I' _=>h s' I') hf
theorem Inv.call' {s':Shared}{ch:List Addr}(I:Inv X pins σ H s) (ho:s'.os=s.os) (u:Un (frs X.stack) ch H H' s.heap s'.heap) (hok:HOk X.prog X.w H' s'.heap) (hg:AllBare s'.gens)
 (hch:∀ b∈ch,(b∈X.ex∨X.s₀.heap.objs.size≤b)∧b≠X.env.locals∧(∀ x c,X.env.cells.lookup x=some c→c≠b)∧∀ p∈X.pn++pins,p.1≠b):Inv X pins σ H' s':=by
 obtain ⟨h',g',d',t',o'⟩:=s'
 have e:o'=s.os:=ho
 subst e
 exact I.call (g':=g') (t':=t') (d':=d') u hok hg hch
end
abbrev XK:=Value→Option Addr→Hp→Prop
abbrev St:=List (Option V)
abbrev VK:=V→Hp→Prop
abbrev TE:=St→Hp→VK→Prop
abbrev TT:=St→Hp→(Bool→Hp→Prop)→Prop
abbrev TA:=St→Hp→(List V→Hp→Prop)→Prop
structure Ends where
 nx:St→Hp→Prop
 rt:VK
 bk:St→Hp→Prop:=fun _ _=>False
 ct:St→Hp→Prop:=fun _ _=>False
abbrev TS:=Ends→St→Hp→Prop
def EP (X:Cx) (pins:List (Addr×Obj)) (σ:St) (Q:VK) (u:Value) (s':Shared):Prop:=∃ v H',Inv X pins σ H' s'∧RelV v u∧Q v H'
def TP (X:Cx) (pins:List (Addr×Obj)) (σ:St) (Q:Bool→Hp→Prop) (b:Bool) (s':Shared):Prop:=∃ H',Inv X pins σ H' s'∧Q b H'
def AP (X:Cx) (pins:List (Addr×Obj)) (σ:St) (Q:List V→Hp→Prop) (us:List Value) (s':Shared):Prop:=∃ vs H',Inv X pins σ H' s'∧Vals vs us∧Q vs H'
def SP (X:Cx) (pins:List (Addr×Obj)) (D:Ends) (f:Flow) (s':Shared):Prop :=
 match f with
 | .next=>∃ σ' H',Inv X pins σ' H' s'∧D.nx σ' H'
 | .brk=>∃ σ' H',Inv X pins σ' H' s'∧D.bk σ' H'
 | .cont=>∃ σ' H',Inv X pins σ' H' s'∧D.ct σ' H'
 | .ret u=>∃ v σ' H',Inv X pins σ' H' s'∧RelV v u∧D.rt v H'
def PE (X:Cx) (e:Expr) (t:TE):Prop :=
 ∀ (pins:List (Addr×Obj)) (s:Shared) (σ:St) (H:Hp) (Q:VK),Inv X pins σ H s→t σ H Q→wpAny (model X.prog X.w) X.A (eval e X.env) (EP X pins σ Q) X.xe s
def PT (X:Cx) (e:Expr) (t:TT):Prop :=
 ∀ (pins:List (Addr×Obj)) (s:Shared) (σ:St) (H:Hp) (Q:Bool→Hp→Prop),Inv X pins σ H s→t σ H Q→wpAny (model X.prog X.w) X.A (isTrue e X.env (eval e X.env)) (TP X pins σ Q) X.xe s
def PW (X:Cx) (e:Expr) (t:TT):Prop :=
 ∀ (whole:Sem Value) (pins:List (Addr×Obj)) (s:Shared) (σ:St) (H:Hp) (Q:Bool→Hp→Prop),Inv X pins σ H s→t σ H Q→wpAny (model X.prog X.w) X.A (isTrue e X.env whole) (TP X pins σ Q) X.xe s
theorem PW.pt {X:Cx}{e:Expr}{t:TT}(h:PW X e t):PT X e t:=h _
def PA (X:Cx) (es:List Expr) (t:TA):Prop :=
 ∀ (pos:Pos) (pins:List (Addr×Obj)) (s:Shared) (σ:St) (H:Hp) (Q:List V→Hp→Prop),Inv X pins σ H s→t σ H Q→wpAny (model X.prog X.w) X.A (spliced (backTo pos (starEach es X.env))) (AP X pins σ Q) X.xe s
def PS (X:Cx) (st:Stmt) (t:TS):Prop :=
 ∀ (pins:List (Addr×Obj)) (s:Shared) (σ:St) (H:Hp) (D:Ends),Inv X pins σ H s→t D σ H→wpAny (model X.prog X.w) X.A (exec st X.env) (SP X pins D) X.xe s
def PSs (X:Cx) (st:List Stmt) (t:TS):Prop :=
 ∀ (pins:List (Addr×Obj)) (s:Shared) (σ:St) (H:Hp) (D:Ends),Inv X pins σ H s→t D σ H→wpAny (model X.prog X.w) X.A (execs st X.env) (SP X pins D) X.xe s
theorem thn {α:Type}{t:Sem α}{Q Q':α→Shared→Prop}{M:Model}{A:Around}{E:Value→Shared→Prop}{s:Shared}(h:wpAny M A t Q E s) (hQ:∀ a s,Q a s→Q' a s):wpAny M A t Q' E s:=wpAny_mono h hQ fun _ _ x=>x
section
variable {X:Cx}
def tVar (i:Nat):TE:=fun σ H Q=>∃ v,σ[i]?=some (some v)∧Q v H
def tC (v:V):TE:=fun _ H Q=>Q v H
theorem bn7 {i:Nat}{x:Str}{pos:Pos}(hN:X.N[i]?=some x) (hv:Vis X.env.scope x) (hd:(x == ("__debug__":Str))=false:=by decide) (hcd:(x == ("__classdict__":Str))=false:=by decide):PE X (.Name x pos) (tVar i):=by
 intro pins s σ H Q I h
 obtain ⟨v,e,h⟩:=h
 obtain ⟨m,hn,hl⟩:=I.loc
 obtain ⟨u,r,l⟩:=hl i x v hN e hv
 have fin:EP X pins σ Q u s:=⟨v,H,I,r,h⟩
 rcases l with ⟨hk,hm⟩ | ⟨hk,c,hc,hcell⟩
 · exact wpAny_Name (wpAny_loadName_local I.ok.kind hk hn hm fin) hd
 · rcases hk with hk | hk
   · exact wpAny_Name (wpAny_loadName_cell I.ok.kind hk hc hcell fin) hd
   · exact wpAny_Name (wpAny_loadName_free I.ok.kind hk hc hcell fin hcd) hd
theorem a03 {i j pos}:PE X (.Constant (.int i) j pos) (tC (.int i)):=fun _ _ _ H _ I h=>wpAny_Constant_int ⟨.int i,H,I.tok _,⟨_,rfl⟩,h⟩
theorem bn8 {b j pos}:PE X (.Constant (.bool b) j pos) (tC (.bl b)):=fun _ _ _ H _ I h=>Constant_bool ⟨.bl b,H,I,rfl,h⟩
theorem a45 {j pos}:PE X (.Constant .none j pos) (tC .non):=fun _ _ _ H _ I h=>Constant_none ⟨.non,H,I,rfl,h⟩
theorem a06 {x j pos}:PE X (.Constant (.str x) j pos) (tC (.str x)):=fun _ _ _ H _ I h=>Calls.Constant_str ⟨.str x,H,I.tok _,⟨_,rfl⟩,h⟩
def Gl (X:Cx) (x:Str):Prop:=X.env.kindOf x=some .globalImplicit
theorem ar9 {E:Value→Shared→Prop}{pins:List (Addr×Obj)}{s:Shared}{σ:St} {H:Hp}{x:Str}{u:Value}{pos:Pos}{Q:Value→Shared→Prop}(I:Inv X pins σ H s) (hg:Gl X x) (hm:X.mg x=some u) (h:Q u s)
 (hd:(x == ("__debug__":Str))=false:=by decide):wpAny (model X.prog X.w) X.A (eval (.Name x pos) X.env) Q E s :=
 Calls.Name_function_global I.ok.kind hg (Calls.loadGlobal_global (by rw [I.ok.glob]; exact I.mod.glob.keeps I.bk) hm h) hd
theorem an2 {E:Value→Shared→Prop}{pins:List (Addr×Obj)}{s:Shared}{σ:St} {H:Hp}{x:Str}{u:Value}{pos:Pos}{Q:Value→Shared→Prop}(I:Inv X pins σ H s) (hg:Gl X x) (hm:X.mg x=none) (hv:bootBuiltins x=some u) (h:Q u s)
 (hn:x≠"__name__":=by decide) (hd:(x == ("__debug__":Str))=false:=by decide):wpAny (model X.prog X.w) X.A (eval (.Name x pos) X.env) Q E s:=by
 obtain ⟨mb,h1,h2⟩:=I.mod.blt
 exact Calls.Name_function_global I.ok.kind hg (Calls.loadGlobal_builtin (by rw [I.ok.glob]; exact I.mod.glob.keeps I.bk) hm (by rw [I.ok.blt]; exact h1.keeps I.bk) ((h2 x hn).trans hv) h) hd
theorem as0 {x:Str}{v:V}{u:Value}{pos:Pos}(hg:Gl X x) (hm:X.mg x=some u) (r:RelV v u) (hd:(x == ("__debug__":Str))=false:=by decide):PE X (.Name x pos) (tC v) :=
 fun _ _ _ H _ I h=>ar9 I hg hm ⟨v,H,I,r,h⟩ hd
variable {a b:Expr}{ta tb:TE}{pos:Pos}
def tB (t:TE):TT:=fun σ H Q=>t σ H fun x H1=>∃ c,x=.bl c∧Q c H1
variable {tA tB':TT}{rest:List Expr}
def tAnd (t u:TT):TT:=fun σ H Q=>t σ H fun c H1=>if c=true then u σ H1 Q else Q false H1
def tOr (t u:TT):TT:=fun σ H Q=>t σ H fun c H1=>if c=true then Q true H1 else u σ H1 Q
def tNot (t:TT):TT:=fun σ H Q=>t σ H fun c H1=>Q (!c) H1
theorem as1 (ha:PT X a tA):PW X (.BoolOp .And [a] pos) tA:=by
 intro wh pins s σ H Q I h
 refine isTrue_and (thn (ha pins s σ H Q I h) fun c s1 e=>?_)
 cases c with
 | true=>exact isTrue_and_nil e
 | false=>exact e
theorem an3 (ha:PT X a tA):PW X (.BoolOp .Or [a] pos) tA:=by
 intro wh pins s σ H Q I h
 refine isTrue_or (thn (ha pins s σ H Q I h) fun c s1 e=>?_)
 cases c with
 | false=>exact isTrue_or_nil e
 | true=>exact e
theorem az7 (ha:PT X a tA) (hb:PW X (.BoolOp .And (b::rest) pos) tB'):PW X (.BoolOp .And (a::b::rest) pos) (tAnd tA tB'):=by
 intro wh pins s σ H Q I h
 refine isTrue_and (thn (ha pins s σ H _ I h) ?_)
 rintro c s1 ⟨H1,I1,q1⟩
 cases c with
 | true=>exact hb wh pins s1 σ H1 Q I1 q1
 | false=>exact ⟨H1,I1,q1⟩
theorem az8 (ha:PT X a tA) (hb:PW X (.BoolOp .Or (b::rest) pos) tB'):PW X (.BoolOp .Or (a::b::rest) pos) (tOr tA tB'):=by
 intro wh pins s σ H Q I h
 refine isTrue_or (thn (ha pins s σ H _ I h) ?_)
 rintro c s1 ⟨H1,I1,q1⟩
 cases c with
 | true=>exact ⟨H1,I1,q1⟩
 | false=>exact hb wh pins s1 σ H1 Q I1 q1
theorem bn9 (ha:PT X a tA):PT X (.UnaryOp .Not a pos) (tNot tA):=by
 intro pins s σ H Q I h
 exact isTrue_not (ha pins s σ H (fun c H1=>Q (!c) H1) I h)
def bo0 (ta tb:TE):TE:=fun σ H Q=>ta σ H fun x H1=>∃ c,x=.bl c∧if c=true then tb σ H1 Q else Q (.bl false) H1
def tOrV (ta tb:TE):TE:=fun σ H Q=>ta σ H fun x H1=>∃ c,x=.bl c∧if c=true then Q (.bl true) H1 else tb σ H1 Q
def bo1 (ta:TE):TE:=fun σ H Q=>ta σ H fun x H1=>∃ c,x=.bl c∧Q (.bl (!c)) H1
theorem bd0 {op}{t:TE}(h:PE X a t):PE X (.BoolOp op [a] pos) t:=fun pins s σ H Q I hw=>BoolOp_one (h pins s σ H Q I hw)
theorem bo2 (ha:PE X a ta) (hb:PE X (.BoolOp .And (b::rest) pos) tb):PE X (.BoolOp .And (a::b::rest) pos) (bo0 ta tb):=by
 intro pins s σ H Q I h
 refine BoolOp_and (thn (ha pins s σ H _ I h) ?_)
 rintro v s1 ⟨x,H1,I1,r1,q1⟩
 obtain ⟨c,rfl,q1⟩:=q1
 cases r1
 refine wpAny_truthy_bool ?_
 cases c with
 | true=>exact hb pins s1 σ H1 Q I1 q1
 | false=>exact ⟨.bl false,H1,I1,rfl,q1⟩
theorem bz4 (ha:PE X a ta) (hb:PE X (.BoolOp .Or (b::rest) pos) tb):PE X (.BoolOp .Or (a::b::rest) pos) (tOrV ta tb):=by
 intro pins s σ H Q I h
 refine BoolOp_or (thn (ha pins s σ H _ I h) ?_)
 rintro v s1 ⟨x,H1,I1,r1,q1⟩
 obtain ⟨c,rfl,q1⟩:=q1
 cases r1
 refine wpAny_truthy_bool ?_
 cases c with
 | false=>exact hb pins s1 σ H1 Q I1 q1
 | true=>exact ⟨.bl true,H1,I1,rfl,q1⟩
theorem bo3 (ha:PE X a ta):PE X (.UnaryOp .Not a pos) (bo1 ta):=by
 intro pins s σ H Q I h
 refine UnaryOp_ (thn (ha pins s σ H _ I h) ?_)
 rintro v s1 ⟨x,H1,I1,r1,q1⟩
 obtain ⟨c,rfl,q1⟩:=q1
 cases r1
 exact not_of (wpAny_truthy_bool ⟨.bl (!c),H1,I1,rfl,q1⟩)
def tIf (t:TT) (ta tb:TE):TE:=fun σ H Q=>t σ H fun c H1=>if c=true then ta σ H1 Q else tb σ H1 Q
theorem af3 {c:Expr}(hc:PT X c tA) (ha:PE X a ta) (hb:PE X b tb):PE X (.IfExp c a b pos) (tIf tA ta tb):=by
 intro pins s σ H Q I h
 refine wpAny_IfExp (thn (hc pins s σ H _ I h) ?_)
 rintro d s1 ⟨H1,I1,q1⟩
 cases d with
 | true=>exact ha pins s1 σ H1 Q I1 q1
 | false=>exact hb pins s1 σ H1 Q I1 q1
end
def SqL (K:PySem.W.Frag) (H:Hp) (a:Addr) (xs:List V):Prop :=
 Rd H a (.lst xs) ∨
  ∃ (o:Obj) (its:Array Value) (n:Nat),K.lookup a=some o∧o.cls=.type "list"∧o.dict=none∧o.data=.seq its n∧its.size≤sizeLine∧Vals xs its.toList
def SqT (K:PySem.W.Frag) (H:Hp) (a:Addr) (xs:List V):Prop :=
 Rd H a (.tup xs) ∨
  ∃ (o:Obj) (its:Array Value) (n:Nat),K.lookup a=some o∧o.cls=.type "tuple"∧o.data=.seq its n∧its.size≤sizeLine∧Vals xs its.toList
def absV:Value→Option V
 | .none=>some .non
 | .bool b=>some (.bl b)
 | .int i _=>some (.int i)
 | .str x _=>some (.str x)
 | .bytes b _=>some (.byt b)
 | .float b _=>some (.flt b)
 | .ref a=>some (.ref a)
 | .type n=>some (.ty n)
 | _=>none
theorem RelV.abs {x:V}{u:Value}(r:RelV x u):absV u=some x:=by
 cases x with
 | non=>cases r; rfl
 | bl _=>cases r; rfl
 | int _=>obtain ⟨t,rfl⟩:=r; rfl
 | str _=>obtain ⟨t,rfl⟩:=r; rfl
 | byt _=>obtain ⟨t,rfl⟩:=r; rfl
 | flt _=>obtain ⟨t,rfl⟩:=r; rfl
 | ref _=>cases r; rfl
 | ty _=>cases r; rfl
theorem RelV.inj {x y:V}{u:Value}(r:RelV x u) (q:RelV y u):x=y:=Option.some.inj (r.abs.symm.trans q.abs)
theorem Vals.inj:∀ {xs ys:List V}{us:List Value},Vals xs us→Vals ys us→xs=ys
 | _,_,_,.nil,.nil=>rfl
 | _,_,_,.cons r t,.cons r' t'=>by rw [r.inj r',Vals.inj t t']
section
variable {X:Cx}{pins:List (Addr×Obj)}{σ:St} {H:Hp}{s:Shared}{a:Addr}{xs ys:List V}
theorem SqL.of {K:PySem.W.Frag}(h:H a=some (.lst xs)):SqL K H a xs:=.inl (.inl h)
theorem SqT.of {K:PySem.W.Frag}(h:H a=some (.tup xs)):SqT K H a xs:=.inl (.inl h)
theorem Inv.list (I:Inv X pins σ H s) (h:SqL X.K H a xs):∃ its:List Value,Vals xs its∧PlainL s.heap a its.toArray∧xs.length≤sizeLine:=by
 rcases h with h | ⟨o,its,n,hk,hc,hd,hs,hz,r⟩
 · obtain ⟨z,its,n,r,e⟩:=h.ok I.hok
   exact ⟨its,r,⟨_,n,e,rfl,rfl,rfl⟩,z⟩
 · refine ⟨its.toList,r,⟨o,n,I.kIn a o hk,hc,hd,by simpa using hs⟩,?_⟩
   have e:=r.length
   simp only [Array.length_toList] at e
   omega
theorem Inv.tuple (I:Inv X pins σ H s) (h:SqT X.K H a xs):∃ its:List Value,Vals xs its∧IsTup s.heap a its.toArray∧xs.length≤sizeLine:=by
 rcases h with h | ⟨o,its,n,hk,hc,hs,hz,r⟩
 · obtain ⟨z,its,r,p⟩:=h.ok I.hok
   exact ⟨its,r,p,z⟩
 · refine ⟨its.toList,r,⟨o,I.kIn a o hk,hc,n,by simpa using hs⟩,?_⟩
   have e:=r.length
   simp only [Array.length_toList] at e
   omega
theorem Inv.list_inj (I:Inv X pins σ H s) (h:SqL X.K H a xs) (h':SqL X.K H a ys):xs=ys:=by
 obtain ⟨its,r,⟨o,n,e,_,_,d⟩,_⟩:=I.list h
 obtain ⟨its',r',⟨o',n',e',_,_,d'⟩,_⟩:=I.list h'
 rw [e] at e'; cases e'
 rw [d] at d'
 injection d' with d1 _
 have:its=its':=by simpa using congrArg Array.toList d1
 subst this
 exact r.inj r'
theorem Inv.tuple_inj (I:Inv X pins σ H s) (h:SqT X.K H a xs) (h':SqT X.K H a ys):xs=ys:=by
 obtain ⟨its,r,⟨o,e,_,n,d⟩,_⟩:=I.tuple h
 obtain ⟨its',r',⟨o',e',_,n',d'⟩,_⟩:=I.tuple h'
 rw [e] at e'; cases e'
 rw [d] at d'
 injection d' with d1 _
 have:its=its':=by simpa using congrArg Array.toList d1
 subst this
 exact r.inj r'
end
abbrev Cx.wish (X:Cx) (E:Value→Shared→Prop):Cx:={ X with xe:=E }
abbrev Cx.nox (X:Cx):Cx:=X.wish fun _ _=>False
theorem Cx.Ok.wish {X:Cx}(ok:X.Ok) (E:Value→Shared→Prop):(X.wish E).Ok :=
 ⟨ok.mod,ok.kind,ok.glob,ok.blt,ok.above,ok.inj,ok.has,ok.cab,ok.hd,ok.frames,ok.stk,ok.exf,ok.bs,ok.bsz,ok.noex,ok.exfs,ok.funs,ok.frf⟩
theorem Cx.Ok.unwish {X:Cx}{E:Value→Shared→Prop}(ok:(X.wish E).Ok):X.Ok :=
 ⟨ok.mod,ok.kind,ok.glob,ok.blt,ok.above,ok.inj,ok.has,ok.cab,ok.hd,ok.frames,ok.stk,ok.exf,ok.bs,ok.bsz,ok.noex,ok.exfs,ok.funs,ok.frf⟩
section
variable {X:Cx}{pins:List (Addr×Obj)}{σ:St} {H:Hp}{s:Shared}{E:Value→Shared→Prop}
theorem Inv.wish (I:Inv X pins σ H s) (E:Value→Shared→Prop):Inv (X.wish E) pins σ H s:=⟨I.ok.wish E,I.os,I.bare,I.base,I.loc,I.cell,I.free,I.freeC,I.pin,I.hok,I.len⟩
theorem Inv.unwish (I:Inv (X.wish E) pins σ H s):Inv X pins σ H s:=⟨I.ok.unwish,I.os,I.bare,I.base,I.loc,I.cell,I.free,I.freeC,I.pin,I.hok,I.len⟩
theorem SP.unwish {D:Ends}{f:Flow}{s':Shared}(h:SP (X.wish E) pins D f s'):SP X pins D f s':=by
 cases f with
 | next=>obtain ⟨σ',H',I,q⟩:=h; exact ⟨σ',H',I.unwish,q⟩
 | brk=>obtain ⟨σ',H',I,q⟩:=h; exact ⟨σ',H',I.unwish,q⟩
 | cont=>obtain ⟨σ',H',I,q⟩:=h; exact ⟨σ',H',I.unwish,q⟩
 | ret u=>obtain ⟨v,σ',H',I,r,q⟩:=h; exact ⟨v,σ',H',I.unwish,r,q⟩
theorem PSs.nox {st:List Stmt}{t:TS}(h:PSs X.nox st t):PSs X st t:=fun pins s σ H D I hw =>
 wpAny_mono (h pins s σ H D (I.wish _) hw) (fun _ _ q=>q.unwish) fun _ _ z=>False.elim z
end
section
variable {X:Cx}{st:Stmt}{rest:List Stmt}{t u:TS}{e:Expr}{te:TE}{pos:Pos}
def bo4:TS:=fun D σ H=>D.nx σ H
def tSeq (t u:TS):TS:=fun D σ H=>t { D with nx:=u D } σ H
theorem a20:PSs X [] bo4:=fun _ _ σ H _ I h=>wpAny_execs_nil ⟨σ,H,I,h⟩
theorem a01 (h1:PS X st t) (h2:PSs X rest u):PSs X (st::rest) (tSeq t u):=by
 intro pins s σ H D I h
 refine wpAny_execs_cons (thn (h1 pins s σ H { D with nx:=u D } I h) fun f s1 q=>?_)
 cases f with
 | next =>
   obtain ⟨σ',H',I',q⟩:=q
   exact h2 pins s1 σ' H' D I' q
 | ret v=>exact q
 | brk=>exact q
 | cont=>exact q
theorem a04 (h1:PS X st t):PSs X [st] t:=by
 intro pins s σ H D I h
 refine wpAny_execs_cons (thn (h1 pins s σ H D I h) fun f s1 q=>?_)
 cases f with
 | next=>exact wpAny_execs_nil q
 | ret v=>exact q
 | brk=>exact q
 | cont=>exact q
def bo5:TS:=fun D σ H=>D.ct σ H
theorem as2:PS X (.Continue pos) bo5:=fun _ _ σ H _ I h=>wpAny_Continue ⟨σ,H,I,h⟩
theorem Inv.quiet {pins:List (Addr×Obj)}{σ:St} {H:Hp}{s:Shared}(I:Inv X pins σ H s):interactive X.env=false:=by simp [interactive,I.ok.kind]
def bo6 (te:TE):TS:=fun D σ H=>te σ H fun _ H1=>D.nx σ H1
theorem a49 (he:PE X e te) (hs:swapsWith e none pos.line X.env=pure false:=by rfl):PS X (.Expr e pos) (bo6 te):=by
 intro pins s σ H D I h
 exact wpAny_Expr_any (thn (he pins s σ H _ I h) (by rintro v s1 ⟨x,H1,I1,r1,q1⟩; exact ⟨σ,H1,I1,q1⟩)) I.quiet hs
def tRet (te:TE):TS:=fun D σ H=>te σ H D.rt
theorem a16 (he:PE X e te):PS X (.Return (some e) pos) (tRet te):=by
 intro pins s σ H D I h
 exact wpAny_Return_some (thn (he pins s σ H _ I h) (by rintro v s1 ⟨x,H1,I1,r1,q1⟩; exact ⟨x,σ,H1,I1,r1,q1⟩))
def tIfS (c:TT) (t u:TS):TS:=fun D σ H=>c σ H fun b H1=>if b=true then t D σ H1 else u D σ H1
theorem a36 {c:Expr}{a b:List Stmt}{tc:TT}(hc:PT X c tc) (ha:PSs X a t) (hb:PSs X b u):PS X (.If c a b pos) (tIfS tc t u):=by
 intro pins s σ H D I h
 refine wpAny_If (thn (hc pins s σ H _ I h) ?_)
 rintro d s1 ⟨H1,I1,q1⟩
 cases d with
 | true=>exact ha pins s1 σ H1 D I1 q1
 | false=>exact hb pins s1 σ H1 D I1 q1
end
abbrev TG:=V→St→Hp→(St→Hp→Prop)→Prop
abbrev TGs:=List V→St→Hp→(St→Hp→Prop)→Prop
def PG (X:Cx) (target:Expr) (t:TG):Prop :=
 ∀ (pins:List (Addr×Obj)) (s:Shared) (σ:St) (H:Hp) (v:V) (u:Value) (Q:St→Hp→Prop),Inv X pins σ H s→RelV v u→t v σ H Q →
  wpAny (model X.prog X.w) X.A (assign target X.env u) (fun _ s'=>∃ σ' H',Inv X pins σ' H' s'∧Q σ' H') X.xe s
def PGs (X:Cx) (ts:List Expr) (t:TGs):Prop :=
 ∀ (pins:List (Addr×Obj)) (s:Shared) (σ:St) (H:Hp) (vs:List V) (us:List Value) (Q:St→Hp→Prop),Inv X pins σ H s→Vals vs us→t vs σ H Q →
  wpAny (model X.prog X.w) X.A (assignInOrder ((assignEach ts X.env).map (·.2)) us) (fun _ s'=>∃ σ' H',Inv X pins σ' H' s'∧Q σ' H') X.xe s
abbrev TIp:=V→V→Hp→VK→Prop
def PIp (X:Cx) (op:Operator) (t:TIp):Prop :=
 ∀ (pins:List (Addr×Obj)) (s:Shared) (σ:St) (H:Hp) (x y:V) (v u:Value) (Q:VK),Inv X pins σ H s→RelV x v→RelV y u→t x y H Q →
  wpAny (model X.prog X.w) X.A (inplaceOp op v u) (EP X pins σ Q) X.xe s
section
variable {X:Cx}{pos:Pos}
def ad5 (i:Nat):TG:=fun v σ H Q=>Q (σ.set i (some v)) H
theorem a17 {i:Nat}{x:Str}(hN:X.N.Nodup) (hi:X.N[i]?=some x) (hx:Loc X.env.scope x) (hf:X.fn x=true∨X.env.scope.names.lookup x=some .local:=by first | exact .inl rfl | exact .inr rfl | assumption):PG X (.Name x pos) (ad5 i):=by
 intro pins s σ H v u Q I r h
 exact wpAny_assign_Name (ak6 I hN hi hx r (fun s' I'=>⟨_,H,I',h⟩) hf)
def gNil:TGs:=fun vs σ H Q=>vs=[]∧Q σ H
def an4 (t:TG) (u:TGs):TGs:=fun vs σ H Q=>∃ v r,vs=v::r∧t v σ H fun σ' H'=>u r σ' H' Q
theorem a50:PGs X [] gNil:=by
 intro pins s σ H vs us Q I r h
 obtain ⟨e,h⟩:=h
 subst e
 cases r
 exact assignInOrder_nil ⟨σ,H,I,h⟩
theorem a21 {e:Expr}{es:List Expr}{t:TG}{u:TGs}(h1:PG X e t) (h2:PGs X es u)
 (hs:(assignEach (e::es) X.env).map (·.2)=assign e X.env::(assignEach es X.env).map (·.2):=by rfl):PGs X (e::es) (an4 t u):=by
 intro pins s σ H vs us Q I r h
 obtain ⟨v,vr,e1,h⟩:=h
 subst e1
 cases r with
 | cons r rr =>
   rw [hs]
   refine assignInOrder_cons (thn (h1 pins s σ H _ _ _ I r h) ?_)
   rintro _ s1 ⟨σ1,H1,I1,q1⟩
   exact h2 pins s1 σ1 H1 _ _ Q I1 rr q1
def gTup (K:PySem.W.Frag) (n:Nat) (t:TGs):TG:=fun v σ H Q=>∃ a xs,v=.ref a∧SqT K H a xs∧xs.length=n∧t xs σ H Q
theorem bo7 {es:List Expr}{k:Nat}{t:TGs}{n:Nat}(hc:X.calm=true) (h:PGs X es t)
 (hn:(assignEach es X.env).length=n:=by rfl) (hst:(assignEach es X.env).findIdx? (·.1)=none:=by rfl):PG X (.Tuple es k pos) (gTup X.K n t):=by
 intro pins s σ H v u Q I r hw
 obtain ⟨a,xs,e1,hq,hl,hw⟩:=hw
 subst e1
 cases r
 obtain ⟨its,rv,ht,hz⟩:=I.tuple hq
 refine assign_Tuple_tuple (I.ok.hd hc) ht (by simp [hn,←hl,rv.length]) hst fun h' hx=>?_
 have I1:Inv X pins σ H { s with heap:=h' }:=I.kept (t':=s.toks) fun b o e=>hx b o (Nat.ne_of_lt (Heap.lt_size e)) e
 exact h pins _ σ H xs _ Q I1 (by simpa using rv) hw
def tAsg (te:TE) (g:TG):TS:=fun D σ H=>te σ H fun x H1=>g x σ H1 D.nx
theorem aj1 {tg e:Expr}{te:TE}{g:TG}(he:PE X e te) (hg:PG X tg g) (hs:swapsWithSole [tg] e pos.line X.env=pure false:=by rfl) (hw:swappedStores [tg] e X.env=pure none:=by rfl)
 (h1:(assignEach [tg] X.env).map (·.2)=[assign tg X.env]:=by rfl):PS X (.Assign [tg] e pos) (tAsg te g):=by
 intro pins s σ H D I h
 refine wpAny_Assign_stores (thn (he pins s σ H _ I h) ?_) hs hw
 rintro v s1 ⟨x,H1,I1,r1,q1⟩
 rw [h1]
 exact thn (hg pins s1 σ H1 x v _ I1 r1 q1) fun _ s2 q=>q
theorem a18 {i:Nat}{x:Str}{e:Expr}{te:TE}{pos':Pos}(hN:X.N.Nodup) (hi:X.N[i]?=some x) (hx:Loc X.env.scope x) (he:PE X e te) (hs:swapsWith e (some (.Name x pos')) pos.line X.env=pure false:=by rfl) (hf:X.fn x=true∨X.env.scope.names.lookup x=some .local:=by first | exact .inl rfl | exact .inr rfl | assumption) :
 PS X (.Assign [.Name x pos'] e pos) (tAsg te (ad5 i)):=by
 intro pins s σ H D I h
 refine wpAny_Assign_Name (thn (he pins s σ H _ I h) ?_) hs
 rintro v s1 ⟨y,H1,I1,r1,q1⟩
 exact ak6 I1 hN hi hx r1 (fun s2 I2=>⟨_,H1,I2,q1⟩) hf
def tAug (i:Nat) (te:TE) (ti:TIp):TS:=fun D σ H=>∃ x,σ[i]?=some (some x)∧te σ H fun y H1=>ti x y H1 fun z H2=>D.nx (σ.set i (some z)) H2
theorem bo8 {i:Nat}{x:Str}{e:Expr}{te:TE}{op:Operator}{ti:TIp}{pos':Pos}(hN:X.N.Nodup) (hi:X.N[i]?=some x) (hx:Loc X.env.scope x) (he:PE X e te) (ho:PIp X op ti) (hf:X.fn x=true∨X.env.scope.names.lookup x=some .local:=by first | exact .inl rfl | exact .inr rfl | assumption) :
 PS X (.AugAssign (.Name x pos') op e pos) (tAug i te ti):=by
 intro pins s σ H D I h
 obtain ⟨v,e1,h⟩:=h
 obtain ⟨m,hn,hl⟩:=I.loc
 have vis:Vis X.env.scope x:=by rcases hx with k | k; exact .inl k; exact .inr (.inl k)
 obtain ⟨u,r,l⟩:=hl i x v hi e1 vis
 refine wpAny_AugAssign_Name ?_
 have go:wpAny (model X.prog X.w) X.A (eval e X.env) (fun w s₂=>wpAny (model X.prog X.w) X.A (inplaceOp op u w) (fun r s₃=>wpAny (model X.prog X.w) X.A (storeName X.env x r) (fun _=>SP X pins D .next) X.xe s₃) X.xe s₂) X.xe s:=by
  refine thn (he pins s σ H _ I h) ?_
  rintro w s1 ⟨y,H1,I1,r1,q1⟩
  refine thn (ho pins s1 σ H1 v y u w _ I1 r r1 q1) ?_
  rintro z s2 ⟨zv,H2,I2,r2,q2⟩
  exact ak6 I2 hN hi hx r2 (fun s3 I3=>⟨_,H2,I3,q2⟩) hf
 rcases l with ⟨hk,hm⟩ | ⟨hk,c,hc,hcell⟩
 · exact wpAny_loadName_local I.ok.kind hk hn hm go
 · rcases hk with hk | hk
   · exact wpAny_loadName_cell I.ok.kind hk hc hcell go
   · rcases hx with k | k
     · have:X.env.scope.names.lookup x=some .free:=hk
       rw [k] at this; cases this
     · have:X.env.scope.names.lookup x=some .free:=hk
       rw [k] at this; cases this
def ipI (f:Int→Int→Int):TIp:=fun x y H Q=>∃ i j,x=.int i∧y=.int j∧Q (.int (f i j)) H
theorem bo9:PIp X .Add (ipI fun i j=>i+j):=by
 intro pins s σ H x y v u Q I r1 r2 h
 obtain ⟨i,j,e1,e2,q⟩:=h
 subst e1; subst e2
 obtain ⟨t,rfl⟩:=r1
 obtain ⟨t',rfl⟩:=r2
 exact iadd_int ⟨.int _,H,I.tok _,⟨_,rfl⟩,q⟩
end
section
variable {X:Cx}{pos:Pos}
def bd1 (c:TT) (tb:TS):TS:=fun D σ H=>∃ W:Nat→St→Hp→Prop,(∃ m,W m σ H)∧∀ m σ H,W m σ H →
 c σ H fun b H1=>if b=true then ∃ N:St→Hp→Prop,(∀ σ' H',N σ' H'→∃ m',m'<m∧W m' σ' H')∧tb { D with nx:=N,ct:=N,bk:=D.nx } σ H1 else D.nx σ H1
theorem af4 {c:Expr}{body:List Stmt}{tc:TT}{tb:TS}(hp:PassesOwn (model X.prog X.w) X.A X.env X.xe) (hc:PT X c tc) (hb:PSs X body tb):PS X (.While c body [] pos) (bd1 tc tb):=by
 intro pins s σ H D I h
 obtain ⟨W,⟨m0,w0⟩,turn⟩:=h
 refine wpAny_While (codeAny_whileLoop (fun n s'=>∃ σ' H',Inv X pins σ' H' s'∧W n σ' H') ?_ m0 ⟨σ,H,I,w0⟩)
 rintro n s1 ⟨σ1,H1,I1,w1⟩
 refine wpAny_passesOwn hp (thn (hc pins s1 σ1 H1 _ I1 (turn n σ1 H1 w1)) ?_)
 rintro b s2 ⟨H2,I2,q2⟩
 cases b with
 | true =>
   obtain ⟨N,hN,q2⟩:=q2
   rw [if_pos rfl]
   refine wpAny_passesOwn hp (thn (hb pins s2 σ1 H2 _ I2 q2) fun f s3 q3=>?_)
   cases f with
   | next =>
     obtain ⟨σ3,H3,I3,n3⟩:=q3
     obtain ⟨m',hm,w3⟩:=hN σ3 H3 n3
     exact ⟨m',hm,σ3,H3,I3,w3⟩
   | cont =>
     obtain ⟨σ3,H3,I3,n3⟩:=q3
     obtain ⟨m',hm,w3⟩:=hN σ3 H3 n3
     exact ⟨m',hm,σ3,H3,I3,w3⟩
   | brk=>exact q3
   | ret v=>exact q3
 | false =>
   rw [if_neg Bool.false_ne_true]
   exact wpAny_execs_nil ⟨σ1,H2,I2,q2⟩
end
structure It where
 go:Nat→Hp→Prop
 yld:Nat→Hp→V→Hp→Prop
 stop:Nat→Hp→Prop
def FpOk (X:Cx) (pins:List (Addr×Obj)) (H:Hp) (b:Addr):Prop :=
 H b=none∧b≠X.env.locals∧b∉X.fs∧(b∈X.ex∨X.s₀.heap.objs.size≤b)∧(∀ x c,X.env.cells.lookup x=some c→c≠b)∧∀ p∈X.pn++pins,p.1≠b
theorem Inv.fpOk {X:Cx}{pins:List (Addr×Obj)}{σ:St} {H H':Hp}{s:Shared}{b:Addr}(I:Inv X pins σ H s) (hb:s.heap.objs.size≤b) (hn:H' b=none):FpOk X pins H' b:=by
 refine ⟨hn,Nat.ne_of_gt (Nat.lt_of_lt_of_le I.lt hb),I.nofs hb,.inr (Nat.le_trans I.sz hb),fun x c e z=>?_,fun p hp z=>?_⟩
 · obtain ⟨v,q⟩:=I.cell x c e
   exact absurd (Nat.lt_of_lt_of_le q.lt (by rw [z]; exact hb)) (Nat.lt_irrefl _)
 · exact absurd (Nat.lt_of_lt_of_le (Heap.lt_size (I.pin p hp).1) (by rw [z]; exact hb)) (Nat.lt_irrefl _)
structure Turn (P:Program) (w:World) (K:PySem.W.Frag) (tg:Expr) (J:It) (fp:List Addr) (it:Addr) (tn:Nat→Heap→Prop):Prop where
 mem:it∈fp
 obj:∀ i h,tn i h→∀ b∈fp,∃ o,h.get? b=some o∧∀ v,o.data≠.cell v
 keep:∀ i h h',tn i h→(∀ b∈fp,∀ o,h.get? b=some o→h'.get? b=some o)→tn i h'
 item:∀ (X:Cx),X.prog=P→X.w=w→X.K=K→X.calm=true→∀ (i:Nat) (pins:List (Addr×Obj)) (s:Shared) (σ:St) (H:Hp) (E:Value→Shared→Prop),Inv X pins σ H s→(∀ b∈fp,FpOk X pins H b)→tn i s.heap→J.go i H →
  wpAny (model P w) X.A (pyNext (.ref it)) (fun r s1=>∃ u,r=some u ∧
   wpAny (model P w) X.A (letOwnedTupleGo tg (.ref it) u) (fun _ s2=>∃ x H',Inv X pins σ H' s2∧RelV x u∧J.yld i H x H'∧tn (i+1) s2.heap∧∀ b∈fp,H' b=none) E s1) E s
 done:∀ (X:Cx),X.prog=P→X.w=w→X.K=K→X.calm=true→∀ (i:Nat) (pins:List (Addr×Obj)) (s:Shared) (σ:St) (H:Hp) (E:Value→Shared→Prop),Inv X pins σ H s→(∀ b∈fp,FpOk X pins H b)→tn i s.heap→J.stop i H →
  wpAny (model P w) X.A (pyNext (.ref it)) (fun r s1=>r=none∧Inv X pins σ H s1) E s
 self:∀ (A:Around) (i:Nat) (s:Shared) (Q:Value→Shared→Prop) (E:Value→Shared→Prop),tn i s.heap→Q (.ref it) s→wpAny (model P w) A (pyIter (.ref it)) Q E s
abbrev TI:=St→Hp→(It→Hp→Prop)→Prop
def PIE (X:Cx) (pins:List (Addr×Obj)) (σ:St) (tg:Expr) (R:It→Hp→Prop) (itv:Value) (s2:Shared):Prop :=
 ∃ (it:Addr) (fp:List Addr) (tn:Nat→Heap→Prop) (J:It) (H':Hp),itv=.ref it∧Inv X pins σ H' s2∧Turn X.prog X.w X.K tg J fp it tn∧tn 0 s2.heap∧(∀ b∈fp,FpOk X pins H' b)∧R J H'
def PI (X:Cx) (tg iter:Expr) (wi:TI):Prop :=
 ∀ (pins:List (Addr×Obj)) (s:Shared) (σ:St) (H:Hp) (R:It→Hp→Prop),Inv X pins σ H s→wi σ H R →
  wpAny (model X.prog X.w) X.A (eval iter X.env) (fun v s1=>wpAny (model X.prog X.w) X.A (pyIter v) (PIE X pins σ tg R) X.xe s1) X.xe s
theorem bf8 {M:Model}{A:Around}{E:Value→Shared→Prop}{s:Shared}{tg:Expr}{it:Addr}{u:Value}{o:Obj}{n:String}{vs:Array Value}{Q:Unit→Shared→Prop}(ho:s.heap.get? it=some o) (hc:o.cls=.type n) (hd:o.data=.fields vs)
 (hn:["enumerate","zip","dict_itemiterator","dict_reverseitemiterator","odict_iterator","itertools.zip_longest","itertools.pairwise"].contains n=false) (hQ:Q () s):wpAny M A (letOwnedTupleGo tg (.ref it) u) Q E s:=by
 unfold letOwnedTupleGo
 cases tg <;> first
  | exact wpAny_pure hQ
  | (cases u <;> first
   | exact wpAny_pure hQ
   | (refine wpAny_bind (wpAny_load ho ?_)
      rw [hc,hd]
      show wpAny M A (if (["enumerate","zip","dict_itemiterator","dict_reverseitemiterator","odict_iterator","itertools.zip_longest","itertools.pairwise"].contains n && vs[0]? == some (rawInt _))=true then _ else _) Q E s
      rw [if_neg (by intro h; rw [hn,Bool.false_and] at h; cases h)]
      exact wpAny_pure hQ))
def Itl (K:PySem.W.Frag) (a:Addr):It :=
 ⟨fun i H=>∃ xs x,SqL K H a xs∧xs[i]?=some x,fun i H x H'=>H'=H∧∀ xs,SqL K H a xs→xs[i]?=some x,fun i H=>∃ xs,SqL K H a xs∧xs.length≤i⟩
def Itt (K:PySem.W.Frag) (a:Addr):It :=
 ⟨fun i H=>∃ xs x,SqT K H a xs∧xs[i]?=some x,fun i H x H'=>H'=H∧∀ xs,SqT K H a xs→xs[i]?=some x,fun i H=>∃ xs,SqT K H a xs∧xs.length≤i⟩
def Itr (lo:Int) (n:Nat):It:=⟨fun i _=>i<n,fun i H x H'=>H'=H∧x=.int (lo+i),fun i _=>n≤i⟩
theorem az9 {P:Program}{w:World}{K:PySem.W.Frag}{tg:Expr}(a it:Addr):Turn P w K tg (Itl K a) [it] it (fun i h=>h.IsListIter it a i) where
 mem:=by simp
 obj:=fun i h st b hb=>by
  have e:b=it:=by simpa using hb
  subst e
  obtain ⟨o,e,c,d⟩:=st
  exact ⟨o,e,fun v z=>by rw [d] at z; cases z⟩
 keep:=fun i h h' st k=>st.at fun o e=>k it (by simp) o e
 item:=by
  intro X hP hw hK hc i pins s σ H E I hf st hg
  subst hP hw hK
  obtain ⟨xs,x,hq,hx⟩:=hg
  obtain ⟨its,rv,p,hz⟩:=I.list hq
  obtain ⟨u,hu,ru⟩:=rv.get hx
  obtain ⟨f0,f1,f2,f3,f4,f5⟩:=hf it (by simp)
  refine wpAny_pyNext_list_item st p.isList (x:=u) (by simpa using hu) fun h' st' sb=>?_
  have I1:Inv X pins σ H { s with heap:=h' }:=I.turned (t':=s.toks) (fun b o hb e=>(sb.2 b hb).trans e) f0 f1 f3 f4 f5
  obtain ⟨o,e,c,d⟩:=id st'
  exact ⟨u,rfl,bf8 (s:={ s with heap:=h' }) e c d (by decide) ⟨x,H,I1,ru,⟨rfl,fun ys hy=>by rw [I.list_inj hy hq]; exact hx⟩,st',fun b hb=>(hf b hb).1⟩⟩
 done:=by
  intro X hP hw hK hc i pins s σ H E I hf st hg
  subst hP hw hK
  obtain ⟨xs,hq,hx⟩:=hg
  obtain ⟨its,rv,p,hz⟩:=I.list hq
  obtain ⟨f0,f1,f2,f3,f4,f5⟩:=hf it (by simp)
  have hl:=rv.length
  exact wpAny_pyNext_list_end (I.ok.hd hc) st p.isList (by simp; omega) fun h' eb=>⟨rfl,I.turned (t':=s.toks) (fun b o hb e=>eb b o hb e) f0 f1 f3 f4 f5⟩
 self:=fun _ _ _ _ _ st h=>wpAny_pyIter_listiter st h
theorem ax1 {P:Program}{w:World}{K:PySem.W.Frag}{tg:Expr}(a it:Addr):Turn P w K tg (Itt K a) [it] it (fun i h=>h.IsTupleIter it a i) where
 mem:=by simp
 obj:=fun i h st b hb=>by
  have e:b=it:=by simpa using hb
  subst e
  obtain ⟨o,e,c,d⟩:=st
  exact ⟨o,e,fun v z=>by rw [d] at z; cases z⟩
 keep:=fun i h h' st k=>st.at fun o e=>k it (by simp) o e
 item:=by
  intro X hP hw hK hc i pins s σ H E I hf st hg
  subst hP hw hK
  obtain ⟨xs,x,hq,hx⟩:=hg
  obtain ⟨its,rv,p,hz⟩:=I.tuple hq
  obtain ⟨u,hu,ru⟩:=rv.get hx
  obtain ⟨f0,f1,f2,f3,f4,f5⟩:=hf it (by simp)
  refine wpAny_pyNext_tuple_item st (show s.heap.IsTuple a its.toArray from p) (x:=u) (by simpa using hu) fun h' st' sb=>?_
  have I1:Inv X pins σ H { s with heap:=h' }:=I.turned (t':=s.toks) (fun b o hb e=>(sb.2 b hb).trans e) f0 f1 f3 f4 f5
  obtain ⟨o,e,c,d⟩:=id st'
  exact ⟨u,rfl,bf8 (s:={ s with heap:=h' }) e c d (by decide) ⟨x,H,I1,ru,⟨rfl,fun ys hy=>by rw [I.tuple_inj hy hq]; exact hx⟩,st',fun b hb=>(hf b hb).1⟩⟩
 done:=by
  intro X hP hw hK hc i pins s σ H E I hf st hg
  subst hP hw hK
  obtain ⟨xs,hq,hx⟩:=hg
  obtain ⟨its,rv,p,hz⟩:=I.tuple hq
  obtain ⟨f0,f1,f2,f3,f4,f5⟩:=hf it (by simp)
  have hl:=rv.length
  exact wpAny_pyNext_tuple_end (I.ok.hd hc) st (show s.heap.IsTuple a its.toArray from p) (by simp; omega) fun h' eb=>⟨rfl,I.turned (t':=s.toks) (fun b o hb e=>eb b o hb e) f0 f1 f3 f4 f5⟩
 self:=fun _ _ _ _ _ st h=>wpAny_pyIter_tupleiter st h
theorem ax2 {P:Program}{w:World}{K:PySem.W.Frag}{tg:Expr}(it:Addr) (lo:Int) (n:Nat):Turn P w K tg (Itr lo n) [it] it (fun i h=>IsRangeIter h it (lo+(i:Nat)*1) ((n:Int) - (i:Nat)) 1) where
 mem:=by simp
 obj:=fun i h st b hb=>by
  have e:b=it:=by simpa using hb
  subst e
  exact ⟨_,st,fun v z=>by
   have z':Data.fields _=Data.cell v:=z
   cases z'⟩
 keep:=fun i h h' st k=>k it (by simp) _ st
 item:=by
  intro X hP hw hK hc i pins s σ H E I hf st hg
  subst hP hw hK
  obtain ⟨f0,f1,f2,f3,f4,f5⟩:=hf it (by simp)
  have W:=Walks.range (prog:=X.prog) (w:=X.w) (I.ok.hd hc) it lo 1 n
  refine W.item i s _ _ hg st fun v h' tk hv st' kk=>?_
  obtain ⟨t,rfl⟩:=hv
  have I1:Inv X pins σ H { s with heap:=h',toks:=tk }:=I.turned (fun b o hb e=>kk b o (by simpa using hb) e) f0 f1 f3 f4 f5
  refine ⟨_,rfl,bf8 (s:={ s with heap:=h',toks:=tk }) (n:="range_iterator") st' rfl rfl (by decide) ⟨.int (lo+i),H,I1,⟨t,?_⟩,⟨rfl,rfl⟩,st',fun b hb=>(hf b hb).1⟩⟩
  rw [Int.mul_one]
 done:=by
  intro X hP hw hK hc i pins s σ H E I hf st hg
  subst hP hw hK
  obtain ⟨f0,f1,f2,f3,f4,f5⟩:=hf it (by simp)
  exact wpAny_pyNext_range_end (I.ok.hd hc) st (by have:n≤i:=hg; omega) fun h' eb=>⟨rfl,I.turned (t':=s.toks) (fun b o hb e=>eb b o hb e) f0 f1 f3 f4 f5⟩
 self:=fun _ _ _ _ _ st h=>wpAny_pyIter_rangeiter st h
section
variable {X:Cx}{tg:Expr}
def bf9 (K:PySem.W.Frag) (tl:TE):TI:=fun σ H R=>tl σ H fun x H1=>∃ a,x=.ref a∧(∃ xs,SqL K H1 a xs)∧R (Itl K a) H1
def iTup (K:PySem.W.Frag) (tl:TE):TI:=fun σ H R=>tl σ H fun x H1=>∃ a,x=.ref a∧(∃ xs,SqT K H1 a xs)∧R (Itt K a) H1
theorem bg0 {l:Expr}{tl:TE}(hl:PE X l tl):PI X tg l (bf9 X.K tl):=by
 intro pins s σ H R I h
 refine thn (hl pins s σ H _ I h) ?_
 rintro v s1 ⟨x,H1,I1,r1,q1⟩
 obtain ⟨a,e,⟨xs,hq⟩,q⟩:=q1
 subst e
 cases r1
 obtain ⟨its,rv,p,hz⟩:=I1.list hq
 refine wpAny_pyIter_list p.isList ?_
 refine ⟨s1.heap.objs.size,[s1.heap.objs.size],_,_,H1,rfl,I1.kept (t':=s1.toks) fun b o e=>Heap.get?_push_of_some _ e,az9 a _,⟨_,Heap.get?_push_size _ rfl,rfl,rfl⟩,fun b hb=>?_,q⟩
 have e:b=s1.heap.objs.size:=by simpa using hb
 subst e
 exact I1.fpOk (Nat.le_refl _) (I1.hok.fresh (Nat.le_refl _))
theorem bp0 {l:Expr}{tl:TE}(hl:PE X l tl):PI X tg l (iTup X.K tl):=by
 intro pins s σ H R I h
 refine thn (hl pins s σ H _ I h) ?_
 rintro v s1 ⟨x,H1,I1,r1,q1⟩
 obtain ⟨a,e,⟨xs,hq⟩,q⟩:=q1
 subst e
 cases r1
 obtain ⟨its,rv,p,hz⟩:=I1.tuple hq
 refine wpAny_pyIter_tuple (show s1.heap.IsTuple a its.toArray from p) ?_
 refine ⟨s1.heap.objs.size,[s1.heap.objs.size],_,_,H1,rfl,I1.kept (t':=s1.toks) fun b o e=>Heap.get?_push_of_some _ e,ax1 a _,⟨_,Heap.get?_push_size _ rfl,rfl,rfl⟩,fun b hb=>?_,q⟩
 have e:b=s1.heap.objs.size:=by simpa using hb
 subst e
 exact I1.fpOk (Nat.le_refl _) (I1.hok.fresh (Nat.le_refl _))
theorem b73 {pins:List (Addr×Obj)}{σ:St} {H:Hp}{s:Shared}{R:It→Hp→Prop}{E:Value→Shared→Prop}{lo hi:Int}{t u v:Tok}{tk:Nat}(I:Inv X pins σ H s) (h1:-(2 ^ 62)≤lo) (h2:lo<2 ^ 62) (h3:-(2 ^ 62)≤hi) (h4:hi<2 ^ 62)
 (q:R (Itr lo (hi - lo).toNat) H):wpAny (model X.prog X.w) X.A (pyIter (.ref s.heap.objs.size)) (PIE X pins σ tg R) E { s with heap:=s.heap.push { cls:=.type "range",data:=.fields #[.int lo t,.int hi u,.int 1 v] },toks:=tk }:=by
 refine wpAny_pyIter_range (IsRange.new ..) (small_one h1 h2 h3 h4) ?_
 have I1:Inv X pins σ H { s with heap:=s.heap.push { cls:=.type "range",data:=.fields #[.int lo t,.int hi u,.int 1 v] },toks:=tk }:=I.kept fun b o e=>Heap.get?_push_of_some _ e
 refine ⟨(s.heap.push { cls:=.type "range",data:=.fields #[.int lo t,.int hi u,.int 1 v] }).objs.size,[(s.heap.push { cls:=.type "range",data:=.fields #[.int lo t,.int hi u,.int 1 v] }).objs.size],_,_,H,rfl,
  I1.kept (t':=tk) fun b o e=>Heap.get?_push_of_some _ e,ax2 _ lo (hi - lo).toNat,?_,fun b hb=>?_,q⟩
 · have e1:lo+((0:Nat):Int)*1=lo:=by simp
   have e2:(((hi - lo).toNat:Nat):Int) - ((0:Nat):Int)=Builtin.Range.rangeSize lo hi 1:=by rw [rangeSize_one]; split <;> omega
   show IsRangeIter _ _ (lo+((0:Nat):Int)*1) ((((hi - lo).toNat:Nat):Int) - ((0:Nat):Int)) 1
   rw [e1,e2]
   exact Heap.get?_push_size _ rfl
 · have e:b=(s.heap.push { cls:=.type "range",data:=.fields #[.int lo t,.int hi u,.int 1 v] }).objs.size:=by simpa using hb
   subst e
   exact I1.fpOk (Nat.le_refl _) (I1.hok.fresh (Nat.le_refl _))
def bp1 (ta:TA):TI:=fun σ H R=>ta σ H fun vs H1=>∃ j:Int,vs=[.int j]∧-(2 ^ 62)≤j∧j<2 ^ 62∧R (Itr 0 j.toNat) H1
theorem an5 {a:Expr}{ta:TA}{p pos:Pos}(hg:Gl X "range") (hm:X.mg "range"=none) (ha:PA X [a] ta) (hs:starEach [a] X.env=[(false,eval a X.env)]:=by rfl):PI X tg (.Call (.Name "range" p) [a] [] pos) (bp1 ta):=by
 intro pins s σ H R I h
 refine Call_ (an2 I hg hm boot_range (PyProof.Rows.callWith_type1 (thn (ha pos pins s σ H _ I h) ?_) hs rfl))
 rintro us s1 ⟨vs,H1,I1,r1,q1⟩
 obtain ⟨j,e,q1,q2,q⟩:=q1
 subst e
 cases r1 with
 | cons r rr =>
   cases rr
   obtain ⟨t,rfl⟩:=r
   exact call_range_1 (b73 I1 (by omega) (by omega) q1 q2 (by simpa using q))
def tFor (wi:TI) (g:TG) (tb:TS):TS:=fun D σ H=>wi σ H fun J H1=>∃ W:Nat→Nat→St→Hp→Prop,(∃ m,W 0 m σ H1)∧∀ i m σ H,W i m σ H →
 (J.stop i H∧D.nx σ H)∨(J.go i H∧∃ N:St→Hp→Prop,(∀ σ' H',N σ' H'→∃ m',m'<m∧W (i+1) m' σ' H')∧∀ x H',J.yld i H x H'→g x σ H' fun σ2 H2=>tb { D with nx:=N,ct:=N,bk:=D.nx } σ2 H2)
def an6 (fp:List Addr) (h:Heap):List (Addr×Obj):=fp.filterMap fun b=>(h.get? b).map fun o=>(b,o)
theorem ab2 {fp:List Addr}{h:Heap}{b:Addr}{o:Obj}(hb:b∈fp) (e:h.get? b=some o):(b,o)∈an6 fp h:=List.mem_filterMap.mpr ⟨b,hb,by rw [e]; rfl⟩
theorem b00 {fp:List Addr}{h:Heap}{p:Addr×Obj}(hp:p∈an6 fp h):p.1∈fp∧h.get? p.1=some p.2:=by
 obtain ⟨b,hb,e⟩:=List.mem_filterMap.mp hp
 cases q:h.get? b with
 | none=>rw [q] at e; cases e
 | some o =>
   rw [q] at e
   have e':(b,o)=p:=Option.some.inj e
   subst e'
   exact ⟨hb,q⟩
theorem Inv.pinned {pins:List (Addr×Obj)}{σ:St} {H:Hp}{s:Shared}{fp:List Addr}(I:Inv X pins σ H s) (hf:∀ b∈fp,FpOk X pins H b) (ho:∀ b∈fp,∃ o,s.heap.get? b=some o∧∀ v,o.data≠.cell v):Inv X (pins++an6 fp s.heap) σ H s :=
 I.pins_of fun p hp=>(List.mem_append.mp hp).elim (fun z=>I.pin p (List.mem_append_right _ z)) fun z=>by
  obtain ⟨hb,e⟩:=b00 z
  obtain ⟨f0,f1,f2,_⟩:=hf p.1 hb
  obtain ⟨o,e',d⟩:=ho p.1 hb
  rw [e] at e'; cases e'
  exact ⟨e,f0,f1,f2,d⟩
theorem Inv.unpinned {pins pl:List (Addr×Obj)}{σ:St} {H:Hp}{s:Shared}(I:Inv X (pins++pl) σ H s):Inv X pins σ H s:=I.pins_of fun p hp=>I.pin p (List.mem_append_right _ (List.mem_append_left _ hp))
theorem ac8 {iter:Expr}{body:List Stmt}{wi:TI}{g:TG}{tb:TS}{pos:Pos}(hp:PassesOwn (model X.prog X.w) X.A X.env X.xe) (hc:X.calm=true) (hi:PI X tg iter wi) (hg:PG X tg g) (hb:PSs X body tb)
 (hs:∀ x,foldedSetIterable iter X.env x=pure x:=by intro _; rfl):PS X (.For tg iter body [] pos) (tFor wi g tb):=by
 intro pins s σ H D I h
 refine wpAny_For (thn (hi pins s σ H _ I h) fun v s1 h1=>thn h1 fun itv s2 h2=>?_) hs
 obtain ⟨it,fp,tn,J,H2,e,I2,T,st2,f2,W,⟨m0,w0⟩,turn⟩:=h2
 subst e
 have stat:∀ {H':Hp},(∀ b∈fp,H' b=none)→∀ b∈fp,FpOk X pins H' b:=fun hn b hb=>⟨hn b hb,(f2 b hb).2⟩
 refine codeAny_forLoop_any (fun n s'=>∃ i σ' H',Inv X pins σ' H' s'∧tn i s'.heap∧(∀ b∈fp,H' b=none)∧W i n σ' H') ?_ m0 ⟨0,σ,H2,I2,st2,fun b hb=>(f2 b hb).1,w0⟩
 rintro n s3 ⟨i,σ3,H3,I3,st3,fr3,w3⟩
 rcases turn i n σ3 H3 w3 with ⟨stop,qn⟩ | ⟨go,N,hN,step⟩
 · refine wpAny_passesOwn hp (thn (T.done X rfl rfl rfl hc i pins s3 σ3 H3 X.xe I3 (stat fr3) st3 stop) ?_)
   rintro r s4 ⟨hr,I4⟩
   subst hr
   exact wpAny_execs_nil ⟨σ3,H3,I4,qn⟩
 · refine wpAny_passesOwn hp (thn (T.item X rfl rfl rfl hc i pins s3 σ3 H3 X.xe I3 (stat fr3) st3 go) ?_)
   rintro r s4 ⟨u,hr,h4⟩
   subst hr
   refine wpAny_passesOwn hp (thn h4 ?_)
   rintro _ s5 ⟨x,H5,I5,r5,y5,st5,fr5⟩
   have I5':=I5.pinned (stat fr5) (T.obj _ _ st5)
   refine wpAny_passesOwn hp (thn (hg _ s5 σ3 H5 x u _ I5' r5 (step x H5 y5)) ?_)
   rintro _ s6 ⟨σ6,H6,I6,q6⟩
   refine wpAny_passesOwn hp (thn (hb _ s6 σ6 H6 _ I6 q6) fun f s7 q7=>?_)
   have again:∀ {σ7:St} {H7:Hp},Inv X (pins++an6 fp s5.heap) σ7 H7 s7→N σ7 H7→∃ m,m<n∧∃ i σ' H',Inv X pins σ' H' s7∧tn i s7.heap∧(∀ b∈fp,H' b=none)∧W i m σ' H':=fun {σ7 H7} I7 n7=>by
    obtain ⟨m',hm,w7⟩:=hN σ7 H7 n7
    refine ⟨m',hm,i+1,σ7,H7,I7.unpinned,T.keep _ _ _ st5 fun b hb o e=>(I7.pin (b,o) (List.mem_append_right _ (List.mem_append_right _ (ab2 hb e)))).1,fun b hb=>?_,w7⟩
    obtain ⟨o,e,d⟩:=T.obj _ _ st5 b hb
    exact (I7.pin (b,o) (List.mem_append_right _ (List.mem_append_right _ (ab2 hb e)))).2.1
   cases f with
   | next=>obtain ⟨σ7,H7,I7,n7⟩:=q7; exact again I7 n7
   | cont=>obtain ⟨σ7,H7,I7,n7⟩:=q7; exact again I7 n7
   | brk=>obtain ⟨σ7,H7,I7,q7⟩:=q7; exact ⟨σ7,H7,I7.unpinned,q7⟩
   | ret v=>obtain ⟨x7,σ7,H7,I7,r7,q7⟩:=q7; exact ⟨x7,σ7,H7,I7.unpinned,r7,q7⟩
end
theorem af5 {K:PySem.W.Frag}{a:Addr}{xs:List V}{g:TG}{tb:TS}{D:Ends}{σ:St} {H:Hp}(Pv:Nat→St→Hp→Prop) (h0:Pv 0 σ H) (hl:∀ i σ H,i≤xs.length→Pv i σ H→SqL K H a xs)
 (hs:∀ i x σ H,xs[i]?=some x→Pv i σ H→g x σ H fun σ2 H2=>tb { D with nx:=Pv (i+1),ct:=Pv (i+1),bk:=D.nx } σ2 H2) (hd:∀ σ H,Pv xs.length σ H→D.nx σ H) :
 ∃ W:Nat→Nat→St→Hp→Prop,(∃ m,W 0 m σ H)∧∀ i m σ H,W i m σ H →
  ((Itl K a).stop i H∧D.nx σ H)∨((Itl K a).go i H∧∃ N:St→Hp→Prop,(∀ σ' H',N σ' H'→∃ m',m'<m∧W (i+1) m' σ' H')∧∀ x H',(Itl K a).yld i H x H'→g x σ H' fun σ2 H2=>tb { D with nx:=N,ct:=N,bk:=D.nx } σ2 H2):=by
 refine ⟨fun i m σ H=>m=xs.length - i∧i≤xs.length∧Pv i σ H,⟨xs.length,by simp,Nat.zero_le _,h0⟩,?_⟩
 rintro i m σ H ⟨rfl,hi,p⟩
 have q:=hl i σ H hi p
 by_cases hlt:i<xs.length
 · refine .inr ⟨⟨xs,xs[i],q,by simp [hlt]⟩,Pv (i+1),fun σ' H' p'=>⟨xs.length - (i+1),by omega,rfl,hlt,p'⟩,fun x H' y=>?_⟩
   obtain ⟨e,y⟩:=y
   subst e
   exact hs i x σ _ (y xs q) p
 · have e:i=xs.length:=by omega
   subst e
   exact .inl ⟨⟨xs,q,Nat.le_refl _⟩,hd σ H p⟩
theorem bg1 {K:PySem.W.Frag}{a:Addr}{xs:List V}{g:TG}{tb:TS}{D:Ends}{σ:St} {H:Hp}(Pv:Nat→St→Hp→Prop) (h0:Pv 0 σ H) (hl:∀ i σ H,i≤xs.length→Pv i σ H→SqT K H a xs)
 (hs:∀ i x σ H,xs[i]?=some x→Pv i σ H→g x σ H fun σ2 H2=>tb { D with nx:=Pv (i+1),ct:=Pv (i+1),bk:=D.nx } σ2 H2) (hd:∀ σ H,Pv xs.length σ H→D.nx σ H) :
 ∃ W:Nat→Nat→St→Hp→Prop,(∃ m,W 0 m σ H)∧∀ i m σ H,W i m σ H →
  ((Itt K a).stop i H∧D.nx σ H)∨((Itt K a).go i H∧∃ N:St→Hp→Prop,(∀ σ' H',N σ' H'→∃ m',m'<m∧W (i+1) m' σ' H')∧∀ x H',(Itt K a).yld i H x H'→g x σ H' fun σ2 H2=>tb { D with nx:=N,ct:=N,bk:=D.nx } σ2 H2):=by
 refine ⟨fun i m σ H=>m=xs.length - i∧i≤xs.length∧Pv i σ H,⟨xs.length,by simp,Nat.zero_le _,h0⟩,?_⟩
 rintro i m σ H ⟨rfl,hi,p⟩
 have q:=hl i σ H hi p
 by_cases hlt:i<xs.length
 · refine .inr ⟨⟨xs,xs[i],q,by simp [hlt]⟩,Pv (i+1),fun σ' H' p'=>⟨xs.length - (i+1),by omega,rfl,hlt,p'⟩,fun x H' y=>?_⟩
   obtain ⟨e,y⟩:=y
   subst e
   exact hs i x σ _ (y xs q) p
 · have e:i=xs.length:=by omega
   subst e
   exact .inl ⟨⟨xs,q,Nat.le_refl _⟩,hd σ H p⟩
theorem an7 {lo:Int}{n:Nat}{g:TG}{tb:TS}{D:Ends}{σ:St} {H:Hp}(Pv:Nat→St→Hp→Prop) (h0:Pv 0 σ H)
 (hs:∀ i σ H,i<n→Pv i σ H→g (.int (lo+i)) σ H fun σ2 H2=>tb { D with nx:=Pv (i+1),ct:=Pv (i+1),bk:=D.nx } σ2 H2) (hd:∀ σ H,Pv n σ H→D.nx σ H) :
 ∃ W:Nat→Nat→St→Hp→Prop,(∃ m,W 0 m σ H)∧∀ i m σ H,W i m σ H →
  ((Itr lo n).stop i H∧D.nx σ H)∨((Itr lo n).go i H∧∃ N:St→Hp→Prop,(∀ σ' H',N σ' H'→∃ m',m'<m∧W (i+1) m' σ' H')∧∀ x H',(Itr lo n).yld i H x H'→g x σ H' fun σ2 H2=>tb { D with nx:=N,ct:=N,bk:=D.nx } σ2 H2):=by
 refine ⟨fun i m σ H=>m=n - i∧i≤n∧Pv i σ H,⟨n,by simp,Nat.zero_le _,h0⟩,?_⟩
 rintro i m σ H ⟨rfl,hi,p⟩
 by_cases hlt:i<n
 · refine .inr ⟨hlt,Pv (i+1),fun σ' H' p'=>⟨n - (i+1),by omega,rfl,hlt,p'⟩,fun x H' y=>?_⟩
   obtain ⟨e,y⟩:=y
   subst e y
   exact hs i σ _ hlt p
 · have e:i=n:=by omega
   subst e
   exact .inl ⟨Nat.le_refl _,hd σ H p⟩
abbrev R2:=V→V→Hp→VK→Prop
def OpR (X:Cx) (f:Value→Value→Sem Value) (r:R2):Prop :=
 ∀ (pins:List (Addr×Obj)) (s:Shared) (σ:St) (H:Hp) (x y:V) (v u:Value) (Q:VK),Inv X pins σ H s→RelV x v→RelV y u→r x y H Q →
  wpAny (model X.prog X.w) X.A (f v u) (EP X pins σ Q) X.xe s
def UnR (X:Cx) (f:Value→Sem Value) (r:V→Hp→VK→Prop):Prop :=
 ∀ (pins:List (Addr×Obj)) (s:Shared) (σ:St) (H:Hp) (x:V) (v:Value) (Q:VK),Inv X pins σ H s→RelV x v→r x H Q →
  wpAny (model X.prog X.w) X.A (f v) (EP X pins σ Q) X.xe s
def CallR (X:Cx) (f:Value) (r:List V→Hp→VK→Prop):Prop :=
 ∀ (pins:List (Addr×Obj)) (s:Shared) (σ:St) (H:Hp) (xs:List V) (us:List Value) (Q:VK),Inv X pins σ H s→Vals xs us→r xs H Q →
  wpAny (model X.prog X.w) X.A (call f us) (EP X pins σ Q) X.xe s
def TruR (X:Cx) (r:V→Hp→(Bool→Hp→Prop)→Prop):Prop :=
 ∀ (pins:List (Addr×Obj)) (s:Shared) (σ:St) (H:Hp) (x:V) (v:Value) (Q:Bool→Hp→Prop),Inv X pins σ H s→RelV x v→r x H Q →
  wpAny (model X.prog X.w) X.A (truthy v) (TP X pins σ Q) X.xe s
def tOp (r:R2) (ta tb:TE):TE:=fun σ H Q=>ta σ H fun x H1=>tb σ H1 fun y H2=>r x y H2 Q
def tUn (r:V→Hp→VK→Prop) (ta:TE):TE:=fun σ H Q=>ta σ H fun x H1=>r x H1 Q
def rI (C:Int→Int→Prop) (g:Int→Int→V):R2:=fun x y H Q=>∃ i j,x=.int i∧y=.int j∧C i j∧Q (g i j) H
def rI0 (g:Int→Int→V):R2:=fun x y H Q=>∃ i j,x=.int i∧y=.int j∧Q (g i j) H
def rU (g:Int→V):V→Hp→VK→Prop:=fun x H Q=>∃ i,x=.int i∧Q (g i) H
section
variable {X:Cx}{a b c:Expr}{ta tb tc:TE}{pos:Pos}
theorem binT (ha:PE X a ta) (hb:PE X b tb) {pins:List (Addr×Obj)}{s:Shared}{σ:St} {H:Hp}{R:V→V→Hp→Prop}(I:Inv X pins σ H s)
 (h:ta σ H fun x H1=>tb σ H1 fun y H2=>R x y H2) {Q:Value→Shared→Prop}{f:Value→Value→Sem Value}
 (hf:∀ v u s2 x y H2,Inv X pins σ H2 s2→RelV x v→RelV y u→R x y H2→wpAny (model X.prog X.w) X.A (f v u) Q X.xe s2) :
 wpAny (model X.prog X.w) X.A (eval a X.env) (fun v s₁=>wpAny (model X.prog X.w) X.A (eval b X.env) (fun u s₂=>wpAny (model X.prog X.w) X.A (f v u) Q X.xe s₂) X.xe s₁) X.xe s:=by
 refine thn (ha pins s σ H _ I h) ?_
 rintro v s1 ⟨x,H1,I1,r1,q1⟩
 refine thn (hb pins s1 σ H1 _ I1 q1) ?_
 rintro u s2 ⟨y,H2,I2,r2,q2⟩
 exact hf v u s2 x y H2 I2 r1 r2 q2
theorem a34 {op:Operator}{r:R2}(ho:OpR X (binaryOp op) r) (ha:PE X a ta) (hb:PE X b tb):PE X (.BinOp a op b pos) (tOp r ta tb):=by
 intro pins s σ H Q I h
 exact wpAny_BinOp (binT ha hb I h fun v u s2 x y H2 I2 rx ry q=>ho pins s2 σ H2 x y v u Q I2 rx ry q)
theorem bp2 {op:UnaryOp}{r:V→Hp→VK→Prop}(ho:UnR X (unaryOp op) r) (ha:PE X a ta):PE X (.UnaryOp op a pos) (tUn r ta):=by
 intro pins s σ H Q I h
 exact UnaryOp_ (thn (ha pins s σ H _ I h) (by rintro v s1 ⟨x,H1,I1,r1,q1⟩; exact ho pins s1 σ H1 x v Q I1 r1 q1))
theorem opI {f:Value→Value→Sem Value}{C:Int→Int→Prop}{g:Int→Int→Int}
 (rule:∀ (i j:Int) (t u:Tok) (s:Shared) (Q:Value→Shared→Prop) (E:Value→Shared→Prop),C i j→Q (.int (g i j) s.toks) { s with toks:=s.toks+1 }→wpAny (model X.prog X.w) X.A (f (.int i t) (.int j u)) Q E s) :
 OpR X f (rI C fun i j=>.int (g i j)):=by
 intro pins s σ H x y v u Q I rx ry h
 obtain ⟨i,j,rfl,rfl,hc,q⟩:=h
 obtain ⟨t,rfl⟩:=rx
 obtain ⟨t',rfl⟩:=ry
 exact rule i j t t' s _ _ hc ⟨.int (g i j),H,I.tok _,⟨_,rfl⟩,q⟩
theorem opI0 {f:Value→Value→Sem Value}{g:Int→Int→Int}
 (rule:∀ (i j:Int) (t u:Tok) (s:Shared) (Q:Value→Shared→Prop) (E:Value→Shared→Prop),Q (.int (g i j) s.toks) { s with toks:=s.toks+1 }→wpAny (model X.prog X.w) X.A (f (.int i t) (.int j u)) Q E s) :
 OpR X f (rI0 fun i j=>.int (g i j)):=by
 intro pins s σ H x y v u Q I rx ry h
 obtain ⟨i,j,rfl,rfl,q⟩:=h
 obtain ⟨t,rfl⟩:=rx
 obtain ⟨t',rfl⟩:=ry
 exact rule i j t t' s _ _ ⟨.int (g i j),H,I.tok _,⟨_,rfl⟩,q⟩
theorem opB0 {f:Value→Value→Sem Value}{g:Int→Int→Bool}
 (rule:∀ (i j:Int) (t u:Tok) (s:Shared) (Q:Value→Shared→Prop) (E:Value→Shared→Prop),Q (.bool (g i j)) s→wpAny (model X.prog X.w) X.A (f (.int i t) (.int j u)) Q E s) :
 OpR X f (rI0 fun i j=>.bl (g i j)):=by
 intro pins s σ H x y v u Q I rx ry h
 obtain ⟨i,j,rfl,rfl,q⟩:=h
 obtain ⟨t,rfl⟩:=rx
 obtain ⟨t',rfl⟩:=ry
 exact rule i j t t' s _ _ ⟨.bl (g i j),H,I,rfl,q⟩
def CDiv (i j:Int):Prop:=0<j∧j<1073741824
def CPow (i j:Int):Prop:=0≤j∧j≤1000000∧i.natAbs<2 ^ 64
def CMul (i j:Int):Prop:=(-(2 ^ 64)<i∧i<2 ^ 64)∨(-(2 ^ 64)<j∧j<2 ^ 64)
theorem CMul.ok {i j:Int}(h:CMul i j):IntMulOk i j:=by
 rcases h with ⟨h1,h2⟩ | ⟨h1,h2⟩
 · exact .of_left (intBits_le_64 h1 h2)
 · exact .of_right (intBits_le_64 h1 h2)
theorem bp3:OpR X (binaryOp .Add) (rI0 fun i j=>.int (i+j)):=opI0 fun _ _ _ _ _ _ _ q=>add_int q
theorem b01:OpR X (binaryOp .Sub) (rI0 fun i j=>.int (i - j)):=opI0 fun _ _ _ _ _ _ _ q=>sub_int q
theorem ag1:OpR X (binaryOp .FloorDiv) (rI CDiv fun i j=>.int (i / j)):=opI fun i j _ _ _ _ _ hc q=>by
 have h1:(0:Int)<j:=hc.1
 have h2:j<1073741824:=hc.2
 exact floordiv_int (by omega) (by rw [Int.fdiv_eq_ediv_of_nonneg i (by omega)]; exact q) (.inl (PyProof.noPylong_small (by omega)))
theorem a75:OpR X (binaryOp .Mod) (rI (fun _ j=>0<j) fun i j=>.int (i % j)):=opI fun i j _ _ _ _ _ hc q=>by
 have h1:(0:Int)<j:=hc
 exact mod_int' (by omega) (by rw [Int.fmod_eq_emod_of_nonneg i (by omega)]; exact q)
theorem bp4:OpR X (binaryOp .Pow) (rI CPow fun i j=>.int (i ^ j.toNat)):=opI fun _ _ _ _ _ _ _ hc q=>pow_int_small hc.1 hc.2.1 hc.2.2 q
theorem unI {f:Value→Sem Value}{g:Int→Int}
 (rule:∀ (i:Int) (t:Tok) (s:Shared) (Q:Value→Shared→Prop) (E:Value→Shared→Prop),Q (.int (g i) s.toks) { s with toks:=s.toks+1 }→wpAny (model X.prog X.w) X.A (f (.int i t)) Q E s) :
 UnR X f (rU fun i=>.int (g i)):=by
 intro pins s σ H x v Q I rx h
 obtain ⟨i,rfl,q⟩:=h
 obtain ⟨t,rfl⟩:=rx
 exact rule i t s _ _ ⟨.int (g i),H,I.tok _,⟨_,rfl⟩,q⟩
theorem bd2:UnR X (unaryOp .USub) (rU fun i=>.int (-i)):=unI fun _ _ _ _ _ q=>neg_int q
end
def scal:V→V→Bool
 | .non,.non=>true | .non,.int _=>true | .int _,.non=>true | .non,.bl _=>true | .bl _,.non=>true | .non,.str _=>true | .str _,.non=>true
 | .int _,.int _=>true | .bl _,.bl _=>true | .str _,.str _=>true | .byt _,.byt _=>true
 | .int _,.str _=>true | .str _,.int _=>true | .bl _,.str _=>true | .str _,.bl _=>true
 | _,_=>false
def rEq:R2:=fun x y H Q=>scal x y=true∧Q (.bl (decide (x=y))) H
def rNe:R2:=fun x y H Q=>scal x y=true∧Q (.bl (!decide (x=y))) H
theorem b02 {i j:Int}:decide (V.int i=V.int j)=(i == j):=by
 rw [Bool.eq_iff_iff]
 simp
theorem bd3 {i j:Bool}:decide (V.bl i=V.bl j)=(i == j):=by
 rw [Bool.eq_iff_iff]
 simp
theorem b03 {i j:Str}:decide (V.str i=V.str j)=(i == j):=by
 rw [Bool.eq_iff_iff]
 simp
theorem b04 {i j:Array UInt8}:decide (V.byt i=V.byt j)=(i.toList == j.toList):=by
 rw [Bool.eq_iff_iff]
 cases i
 cases j
 simp
section
variable {X:Cx}{a b c:Expr}{ta tb tc:TE}{pos:Pos}
theorem a33 {pins:List (Addr×Obj)}{σ:St} {H:Hp}{s:Shared}{Q:VK}{k k':Bool}(I:Inv X pins σ H s) (q:Q (.bl k) H) (e:k=k'):EP X pins σ Q (.bool k') s:=by
 subst e
 exact ⟨.bl k,H,I,rfl,q⟩
theorem a41:OpR X (compareOp .Eq) rEq:=by
 intro pins s σ H x y v u Q I rx ry h
 obtain ⟨hs,q⟩:=h
 cases x with
 | non =>
   cases rx
   cases y with
   | non=>cases ry; exact PySem.EqNone.eq_none_none (a33 I q (by simp))
   | bl j=>cases ry; exact PySem.EqNone.eq_none_bool (a33 I q (by simp))
   | int j=>obtain ⟨t',rfl⟩:=ry; exact PySem.EqNone.eq_none_int (a33 I q (by simp))
   | str j=>obtain ⟨t',rfl⟩:=ry; exact PySem.EqNone.eq_none_str (a33 I q (by simp))
   | _=>exact absurd (show false=true from hs) Bool.false_ne_true
 | bl i =>
   cases rx
   cases y with
   | non=>cases ry; exact PySem.EqNone.eq_bool_none (a33 I q (by simp))
   | bl j=>cases ry; exact eq_bool (a33 I q bd3)
   | str j=>obtain ⟨t',rfl⟩:=ry; exact PySem.EqMixed.eq_bool_str (a33 I q (by simp))
   | _=>exact absurd (show false=true from hs) Bool.false_ne_true
 | int i =>
   obtain ⟨t,rfl⟩:=rx
   cases y with
   | non=>cases ry; exact PySem.EqNone.eq_int_none (a33 I q (by simp))
   | int j=>obtain ⟨t',rfl⟩:=ry; exact eq_int (a33 I q b02)
   | str j=>obtain ⟨t',rfl⟩:=ry; exact PySem.EqMixed.eq_int_str (a33 I q (by simp))
   | _=>exact absurd (show false=true from hs) Bool.false_ne_true
 | str i =>
   obtain ⟨t,rfl⟩:=rx
   cases y with
   | non=>cases ry; exact PySem.EqNone.eq_str_none (a33 I q (by simp))
   | bl j=>cases ry; exact PySem.EqMixed.eq_str_bool (a33 I q (by simp))
   | int j=>obtain ⟨t',rfl⟩:=ry; exact PySem.EqMixed.eq_str_int (a33 I q (by simp))
   | str j=>obtain ⟨t',rfl⟩:=ry; exact eq_str (a33 I q b03)
   | _=>exact absurd (show false=true from hs) Bool.false_ne_true
 | byt i =>
   obtain ⟨t,rfl⟩:=rx
   cases y with
   | byt j=>obtain ⟨t',rfl⟩:=ry; exact PySem.W.eq_bytes (a33 I q b04)
   | _=>exact absurd (show false=true from hs) Bool.false_ne_true
 | _=>cases y <;> exact absurd (show false=true from hs) Bool.false_ne_true
theorem bz5:OpR X (compareOp .NotEq) rNe:=by
 intro pins s σ H x y v u Q I rx ry h
 obtain ⟨hs,q⟩:=h
 cases x with
 | non =>
   cases rx
   cases y with
   | non=>cases ry; exact PySem.EqNone.ne_none_none (a33 I q (by simp))
   | bl j=>cases ry; exact PySem.EqNone.ne_none_bool (a33 I q (by simp))
   | int j=>obtain ⟨t',rfl⟩:=ry; exact PySem.EqNone.ne_none_int (a33 I q (by simp))
   | str j=>obtain ⟨t',rfl⟩:=ry; exact PySem.EqNone.ne_none_str (a33 I q (by simp))
   | _=>exact absurd (show false=true from hs) Bool.false_ne_true
 | bl i =>
   cases rx
   cases y with
   | non=>cases ry; exact PySem.EqNone.ne_bool_none (a33 I q (by simp))
   | bl j=>cases ry; exact ne_bool (a33 I q (congrArg not bd3))
   | str j=>obtain ⟨t',rfl⟩:=ry; exact PySem.EqMixed.ne_bool_str (a33 I q (by simp))
   | _=>exact absurd (show false=true from hs) Bool.false_ne_true
 | int i =>
   obtain ⟨t,rfl⟩:=rx
   cases y with
   | non=>cases ry; exact PySem.EqNone.ne_int_none (a33 I q (by simp))
   | int j=>obtain ⟨t',rfl⟩:=ry; exact ne_int (a33 I q (congrArg not b02))
   | str j=>obtain ⟨t',rfl⟩:=ry; exact PySem.EqMixed.ne_int_str (a33 I q (by simp))
   | _=>exact absurd (show false=true from hs) Bool.false_ne_true
 | str i =>
   obtain ⟨t,rfl⟩:=rx
   cases y with
   | non=>cases ry; exact PySem.EqNone.ne_str_none (a33 I q (by simp))
   | bl j=>cases ry; exact PySem.EqMixed.ne_str_bool (a33 I q (by simp))
   | int j=>obtain ⟨t',rfl⟩:=ry; exact PySem.EqMixed.ne_str_int (a33 I q (by simp))
   | str j=>obtain ⟨t',rfl⟩:=ry; exact ne_str (a33 I q (congrArg not b03))
   | _=>exact absurd (show false=true from hs) Bool.false_ne_true
 | byt i =>
   obtain ⟨t,rfl⟩:=rx
   cases y with
   | byt j=>obtain ⟨t',rfl⟩:=ry; exact PySem.W.ne_bytes (a33 I q (congrArg not b04))
   | _=>exact absurd (show false=true from hs) Bool.false_ne_true
 | _=>cases y <;> exact absurd (show false=true from hs) Bool.false_ne_true
theorem ax3:OpR X (compareOp .Lt) (rI0 fun i j=>.bl (decide (i<j))):=opB0 fun _ _ _ _ _ _ _ q=>lt_int q
theorem bz6:OpR X (compareOp .LtE) (rI0 fun i j=>.bl (decide (i≤j))):=opB0 fun _ _ _ _ _ _ _ q=>le_int q
theorem bg2:OpR X (compareOp .Gt) (rI0 fun i j=>.bl (decide (j<i))):=opB0 fun _ _ _ _ _ _ _ q=>gt_int q
theorem b05:OpR X (compareOp .In) (fun x y H Q=>∃ i j,x=.str i∧y=.str j∧Q (.bl (!(Builtin.Str.occurrences j i 0 j.length 1).isEmpty)) H):=by
 intro pins s σ H x y v u Q I rx ry h
 obtain ⟨i,j,rfl,rfl,q⟩:=h
 obtain ⟨t,rfl⟩:=rx
 obtain ⟨t',rfl⟩:=ry
 exact in_str (a33 I q rfl)
theorem bp5:OpR X (compareOp .Is) (fun x y H Q=>y=.non∧Q (.bl (decide (x=.non))) H):=by
 intro pins s σ H x y v u Q I rx ry h
 obtain ⟨rfl,q⟩:=h
 cases ry
 refine is_none_gen (a33 I q ?_)
 cases x <;> first
  | (cases rx; rfl)
  | (obtain ⟨t,rfl⟩:=rx; rfl)
theorem bg3:OpR X (compareOp .IsNot) (fun x y H Q=>y=.non∧Q (.bl (!decide (x=.non))) H):=by
 intro pins s σ H x y v u Q I rx ry h
 obtain ⟨rfl,q⟩:=h
 cases ry
 refine isnot_none_gen (a33 I q ?_)
 cases x <;> first
  | (cases rx; rfl)
  | (obtain ⟨t,rfl⟩:=rx; rfl)
theorem nomark (b:Expr) {op:CmpOp}(h:op≠.In:=by decide) (h2:op≠.NotIn:=by decide):behindInMarks op b=false:=by
 have e1:(op == CmpOp.In)=false:=by cases op <;> first | rfl | exact absurd rfl h
 have e2:(op == CmpOp.NotIn)=false:=by cases op <;> first | rfl | exact absurd rfl h2
 cases b <;> simp [behindInMarks,e1,e2]
theorem ad6 {op:CmpOp}{r:R2}(ho:OpR X (compareOp op) r) (ha:PE X a ta) (hb:PE X b tb) (hm:behindInMarks op b=false):PE X (.Compare a [op] [b] pos) (tOp r ta tb):=by
 intro pins s σ H Q I h
 exact wpAny_Compare1 (binT ha hb I h fun v u s2 x y H2 I2 rx ry q=>ho pins s2 σ H2 x y v u Q I2 rx ry q) hm
def bg4 (t:TE):TT:=fun σ H Q=>t σ H fun x H'=>∃ k,x=.bl k∧Q k H'
theorem a12 {op:CmpOp}{r:R2}(ho:OpR X (compareOp op) r) (ha:PE X a ta) (hb:PE X b tb) (hm:behindInMarks op b=false):PT X (.Compare a [op] [b] pos) (bg4 (tOp r ta tb)):=by
 intro pins s σ H Q I h
 refine wpAny_isTrue_Compare1 (thn (ha pins s σ H _ I h) fun v s1 ⟨x,H1,I1,r1,q1⟩=>thn (hb pins s1 σ H1 _ I1 q1) fun u s2 ⟨y,H2,I2,r2,q2⟩ =>
  thn (ho pins s2 σ H2 x y v u _ I2 r1 r2 q2) fun c s3 ⟨z,H3,I3,r3,k,e,q3⟩=>?_) hm
 subst e
 cases r3
 exact wpAny_truthy_bool ⟨H3,I3,q3⟩
def bd4 (r r':R2) (ta tb tc:TE):TE:=fun σ H Q=>ta σ H fun x H1=>tb σ H1 fun y H2=>r x y H2 fun z H3=>∃ k,z=.bl k ∧
 (if k=true then tc σ H3 fun w' H4=>r' y w' H4 Q else Q (.bl false) H3)
theorem b74 {op op':CmpOp}{r r':R2}(ho:OpR X (compareOp op) r) (ho':OpR X (compareOp op') r') (ha:PE X a ta) (hb:PE X b tb) (hc:PE X c tc)
 (hm:lastMarks [op,op'] [b,c]=false:=by with_unfolding_all rfl):PT X (.Compare a [op,op'] [b,c] pos) (bg4 (bd4 r r' ta tb tc)):=by
 intro pins s σ H Q I h
 refine isTrue_chain (thn (ha pins s σ H _ I h) fun v s1 ⟨x,H1,I1,r1,q1⟩=>test_link (thn (hb pins s1 σ H1 _ I1 q1) fun u s2 ⟨y,H2,I2,r2,q2⟩ =>
  thn (ho pins s2 σ H2 x y v u _ I2 r1 r2 q2) fun d s3 ⟨z,H3,I3,r3,k,e,q3⟩=>?_)) hm
 subst e
 cases r3
 refine wpAny_truthy_bool ?_
 cases k with
 | false =>
   obtain ⟨k',e',q'⟩:=q3
   cases e'
   exact ite_ff ⟨H3,I3,q'⟩
 | true =>
   refine ite_tt (test_last (thn (hc pins s3 σ H3 _ I3 q3) ?_))
   rintro w' s4 ⟨z',H4,I4,r4,q4⟩
   refine thn (ho' pins s4 σ H4 y z' u w' _ I4 r2 r4 q4) ?_
   rintro d' s5 ⟨z2,H5,I5,r5,k2,e2,q5⟩
   subst e2
   cases r5
   exact wpAny_truthy_bool ⟨H5,I5,q5⟩
def TruV (K:PySem.W.Frag) (x:V) (H:Hp) (k:Bool):Prop :=
 match x with
 | .non=>k=false
 | .bl b=>k=b
 | .int i=>k=(i != 0)
 | .str y=>y.length≤sizeLine∧k=((y.length:Int) != 0)
 | .byt y=>y.size≤sizeLine∧k=((y.size:Int) != 0)
 | .ref p=>(∃ xs,SqL K H p xs∧k=!xs.isEmpty)∨(∃ xs,SqT K H p xs∧k=!xs.isEmpty)∨∃ kvs,H p=some (.dK kvs)∧k=!kvs.isEmpty
 | _=>False
theorem ax4 {κ:Type} {kvs:List (κ×V)}{vs:List (κ×Value)}(r:KV kvs vs):(!vs.isEmpty)=!kvs.isEmpty:=by
 cases r <;> rfl
theorem aj2 {xs:List V}{its:List Value}(r:Vals xs its):(!its.toArray.isEmpty)=!xs.isEmpty:=by
 cases r <;> simp
theorem an8:(sizeLine:Nat)<2 ^ 63:=by rw [sizeLine_eq]; decide
theorem bp6:TruR X (fun x H Q=>∃ k,TruV X.K x H k∧Q k H):=by
 intro pins s σ H x v Q I rx h
 obtain ⟨k,e,q⟩:=h
 have hl:=an8
 have hs:sizeLine=16777216:=sizeLine_eq
 cases x with
 | non =>
   cases rx
   have e':k=false:=e
   subst e'
   exact truthy_none ⟨H,I,q⟩
 | bl b =>
   cases rx
   have e':k=b:=e
   subst e'
   exact wpAny_truthy_bool ⟨H,I,q⟩
 | int i =>
   obtain ⟨t,rfl⟩:=rx
   have e':k=(i != 0):=e
   subst e'
   exact PySem.P.truthy_int ⟨H,I,q⟩
 | str y =>
   obtain ⟨t,rfl⟩:=rx
   obtain ⟨hy,e'⟩:y.length≤sizeLine∧k=((y.length:Int) != 0):=e
   subst e'
   exact PySem.P.truthy_str (by omega) ⟨H,I.tok _,q⟩
 | byt y =>
   obtain ⟨t,rfl⟩:=rx
   obtain ⟨hy,e'⟩:y.size≤sizeLine∧k=((y.size:Int) != 0):=e
   subst e'
   exact PySem.W.truthy_bytes (by omega) ⟨H,I.tok _,q⟩
 | ref p =>
   cases rx
   have e':(∃ xs,SqL X.K H p xs∧k=!xs.isEmpty)∨(∃ xs,SqT X.K H p xs∧k=!xs.isEmpty)∨∃ kvs,H p=some (.dK kvs)∧k=!kvs.isEmpty:=e
   rcases e' with ⟨xs,hx,e'⟩ | ⟨xs,hx,e'⟩ | ⟨kvs,hx,e'⟩
   · subst e'
     obtain ⟨its,r,pl,hz⟩:=I.list hx
     have hlen:=r.length
     exact wpAny_truthy_list pl.isList (by simp only [List.size_toArray]; omega) ⟨H,I.tok _,by rw [aj2 r]; exact q⟩
   · subst e'
     obtain ⟨its,r,pl,hz⟩:=I.tuple hx
     have hlen:=r.length
     exact truthy_tuple pl (by simp only [List.size_toArray]; omega) ⟨H,I.tok _,by rw [aj2 r]; exact q⟩
   · subst e'
     obtain ⟨hz,hS,vs,r,m⟩:kvs.length≤sizeLine∧(p == sysModules)=false∧∃ vs,KV kvs vs∧s.heap.DictOf (a42 X.prog X.w) p vs:=I.hok p _ hx
     have hlen:kvs.length=vs.length:=Paired.length r
     exact wpAny_truthy_dict hS m (by omega) ⟨H,I.tok _,by rw [ax4 r]; exact q⟩
 | _=>exact (show False from e).elim
theorem b75 (ha:PE X a ta) (he:∀ whole,isTrue a X.env whole=(do let v←whole; standAt a.pos; holding [v] (truthy v))) :
 PT X a (fun σ H Q=>ta σ H fun x H'=>∃ k,TruV X.K x H' k∧Q k H'):=by
 intro pins s σ H Q I h
 exact isTrue_plain (thn (ha pins s σ H _ I h) (by rintro v s1 ⟨x,H1,I1,r1,q1⟩; exact bp6 pins s1 σ H1 x v Q I1 r1 q1)) (he _)
theorem ax5:OpR X (binaryOp .Add) (fun x y H Q=>∃ i j,x=.str i∧y=.str j∧i.length+j.length≤sizeLine∧Q (.str (i++j)) H):=by
 intro pins s σ H x y v u Q I rx ry h
 obtain ⟨i,j,rfl,rfl,hz,q⟩:=h
 obtain ⟨t,rfl⟩:=rx
 obtain ⟨t',rfl⟩:=ry
 exact add_str (fun t' tk=>⟨.str (i++j),H,I.tok _,⟨_,rfl⟩,q⟩) hz
theorem ax6 {x:V}{us:List Value}(r:Vals [x] us):∃ u,us=[u]∧RelV x u:=by
 cases r with
 | cons r1 r2=>cases r2; exact ⟨_,rfl,r1⟩
theorem bz7 {x y:V}{us:List Value}(r:Vals [x,y] us):∃ u w',us=[u,w']∧RelV x u∧RelV y w':=by
 cases r with
 | cons r1 r2 =>
   cases r2 with
   | cons r3 r4=>cases r4; exact ⟨_,_,rfl,r1,r3⟩
theorem an9:CallR X (.type "str") (fun xs H Q=>∃ i,xs=[.int i]∧i.natAbs.log2<1920∧Q (.str (toString i)) H):=by
 intro pins s σ H xs us Q I r h
 obtain ⟨i,rfl,hz,q⟩:=h
 obtain ⟨u,rfl,t,rfl⟩:=ax6 r
 exact PySem.P.str_of_int hz ⟨.str _,H,I.tok _,⟨_,rfl⟩,q⟩
def LenV (K:PySem.W.Frag) (x:V) (H:Hp) (n:Nat):Prop :=
 match x with
 | .str y=>y.length≤sizeLine∧n=y.length
 | .byt y=>y.size≤sizeLine∧n=y.size
 | .ref p=>(∃ xs,SqL K H p xs∧n=xs.length)∨∃ xs,SqT K H p xs∧n=xs.length
 | _=>False
theorem b76:CallR X (.builtin "len") (fun xs H Q=>∃ x n,xs=[x]∧LenV X.K x H n∧Q (.int n) H):=by
 intro pins s σ H xs us Q I r h
 obtain ⟨x,n,rfl,e,q⟩:=h
 obtain ⟨u,rfl,rx⟩:=ax6 r
 have hl:=an8
 have hs:sizeLine=16777216:=sizeLine_eq
 cases x with
 | str y =>
   obtain ⟨t,rfl⟩:=rx
   obtain ⟨hy,e'⟩:y.length≤sizeLine∧n=y.length:=e
   subst e'
   exact len_str (by omega) ⟨.int _,H,I.tok _,⟨_,rfl⟩,q⟩
 | byt y =>
   obtain ⟨t,rfl⟩:=rx
   obtain ⟨hy,e'⟩:y.size≤sizeLine∧n=y.size:=e
   subst e'
   exact PySem.W.len_bytes (by omega) ⟨.int _,H,I.tok _,⟨_,rfl⟩,q⟩
 | ref p =>
   cases rx
   have e':(∃ xs,SqL X.K H p xs∧n=xs.length)∨∃ xs,SqT X.K H p xs∧n=xs.length:=e
   rcases e' with ⟨xs,hx,e'⟩ | ⟨xs,hx,e'⟩
   · subst e'
     obtain ⟨its,r',pl,hz⟩:=I.list hx
     have hlen:=r'.length
     exact Calls.call_len_list pl.isList (by simp only [List.size_toArray]; omega) ⟨.int xs.length,H,I.tok _,⟨_,by simp only [List.size_toArray]; rw [hlen]⟩,q⟩
   · subst e'
     obtain ⟨its,r',pl,hz⟩:=I.tuple hx
     have hlen:=r'.length
     exact len_tuple pl (by simp only [List.size_toArray]; omega) ⟨.int xs.length,H,I.tok _,⟨_,by simp only [List.size_toArray]; rw [hlen]⟩,q⟩
 | _=>exact (show False from e).elim
end
structure ObjM (h:Heap) (x dx C:Addr) (mA:Str→Option Value):Prop where
 obj:h.get? x=some (PySem.W.instObj C dx)
 ns:h.Ns1 dx mA
 ne:dx≠x
theorem b06 {h:Heap}{dx:Addr}{mA:Str→Option Value}(n:h.Ns1 dx mA):∃ od,h.get? dx=some od∧∀ name,PySem.W.lookIn name od=some (mA name):=by
 obtain ⟨o,es,ep,ho,hd,hk,_,hm⟩:=n
 refine ⟨o,ho,fun name=>?_⟩
 have e:=hm name
 unfold nsFind findBy at e
 rw [← Array.find?_toList] at e
 unfold PySem.W.lookIn
 rw [hd]
 dsimp only
 split
 · rename_i y q
   rw [q] at e
   exact congrArg some e
 · rename_i q
   rw [q] at e
   have a:es.toList.any (·.refKey)=false:=by
    rw [List.any_eq_false]
    intro y hy
    obtain ⟨z,t,hkey⟩:=hk y (Array.mem_toList_iff.mp hy)
    simp [DictEntry.refKey,hkey]
   have a':¬ es.toList.any (·.refKey)=true:=by rw [a]; exact Bool.false_ne_true
   rw [if_neg a']
   exact congrArg some e
theorem ObjM.look {h:Heap}{x dx C:Addr}{mA:Str→Option Value}(I:ObjM h x dx C mA):∃ od,PySem.W.InstAt h x (PySem.W.instObj C dx) C (some od)∧∀ name,PySem.W.lookIn name od=some (mA name) :=
 let ⟨od,ho,hl⟩:=b06 I.ns
 ⟨od,⟨I.obj,rfl,rfl,ho⟩,hl⟩
section
variable {prog:Program}{w:World}{A:Around}{E:Value→Shared→Prop}{s:Shared}{K:PySem.W.Frag}{x dx C f:Addr}{mA:Str→Option Value}{name:Str}{v:Value}
theorem bg5 {expr:Bool}{Q:Value→Shared→Prop}(X:K.In s.heap) (I:ObjM s.heap x dx C mA) (hg:PySem.W.plainGet K C name=true) (hh:PySem.W.hasDictIn K C=true)
 (ha:PySem.W.findIn K (.ref C) name=some none) (hv:mA name=some v) (hv':PySem.W.handedIn v=true) (h:Q v { s with toks:=s.toks+1 }) :
 wpAny (model prog w) A (getAttr (.ref x) name expr) Q E s:=by
 obtain ⟨od,J,hl⟩:=I.look
 exact PySem.W.get_value X J (PySem.W.plainGet_of hg).1 (PySem.W.findObj_own hh ha rfl (by rw [hl,hv])) hv' h
theorem b77 {pl:Sem Bool}{Q:Value×List Value→Shared→Prop}(X:K.In s.heap) (I:ObjM s.heap x dx C mA) (hg:PySem.W.plainGet K C name=true)
 (hf:PySem.W.findIn K (.ref C) name=some (some (.ref f))) (ht:PySem.W.isFn K (.ref f)=true) (hv:mA name=none) (h:Q (.ref f,[.ref x]) s) :
 wpAny (model prog w) A (getMethod (.ref x) name pl) Q E s:=by
 obtain ⟨od,J,hl⟩:=I.look
 exact PySem.W.method_fn X J (PySem.W.plainGet_of hg).1 (PySem.W.plainGet_of hg).2 hf (beq_iff_eq.mp ht) (by show (PySem.W.lookIn name od).map (·.isSome)=some false; rw [hl,hv]; rfl) h
theorem bg6 {ns:List Str}{Q:Unit→Shared→Prop}(X:K.In s.heap) (I:ObjM s.heap x dx C mA)
 (hs:PySem.W.findIn K (.ref C) "__setattr__"=some (some (.builtin "object.__setattr__"))) (hp:PySem.W.plainOver K C=true) (ht:PySem.W.takerIn K C name=some none) (hh:PySem.W.hasDictIn K C=true)
 (hw:PySem.Within mA ns) (hsz:ns.length≤sizeLine)
 (h:∀ h',ObjM h' x dx C (fun y=>if y=name then some v else mA y)→Heap.SameBut dx s.heap h'→Q () { s with heap:=h',toks:=s.toks+2 }) :
 wpAny (model prog w) A (setAttr (.ref x) name v) Q E s:=by
 obtain ⟨od,J,hl⟩:=I.look
 refine PySem.W.set_plain X J hs (PySem.W.osa_open (s:={ s with toks:=s.toks+1 }) (r:=none) X J hp ht fun b=>?_)
 obtain ⟨cd,hc,hd'⟩:=PySem.W.any_some hh
 have hx:s.heap.get? x=some ⟨.ref C,some dx,.plain,#[]⟩:=I.obj
 refine wpAny_bind (wpAny_pure (wpAny_bind (wpAny_bind (wpAny_loadPart hx (wpAny_bind (PySem.W.Looks.here (s:={ s with toks:=s.toks+1 }) (PySem.W.looks_clsIn X hc) ?_))))))
 rw [hd']
 refine wpAny_pure (a:=some dx) (wpAny_bind (wpAny_pure (wpAny_bind ?_)))
 refine wpAny_nsSet1 (s:={ s with toks:=s.toks+1 }) I.ns fun h' hn2 hs2=>?_
 obtain ⟨oD,esD,epD,hoD,hdD,hcD⟩:=hn2.count (PySem.Within.cons name v hw)
 refine wpAny_bind (wpAny_lookBehind hoD (by rw [hdD]; exact pastItsLine_dict (Nat.le_trans hcD (by rw [List.length_cons]; omega))) ?_)
 exact wpAny_pure (h _ ⟨(hs2.2 _ (Ne.symm I.ne)).trans I.obj,hn2,I.ne⟩ hs2)
theorem b78 {R:Result→Shared→Prop}{vs:List Value}{kw:List (Str×Value)}(X:K.In s.heap) (hm:PySem.W.makesIn K C=true)
 (hi:PySem.W.findIn K (.ref C) "__init__"=some (some (.ref f))) (hf:PySem.W.typeIn K (.ref f)=some (.type "function"))
 (h:codeAny (model prog w) (A.under (.builtin "type.__call__" ⟨.ref C::vs,kw⟩)) (.call (.ref f) ⟨.ref (s.heap.objs.size+1)::vs,kw⟩) (PySem.W.InitBack (s.heap.objs.size+1) R)
  { s with heap:=(s.heap.push PySem.W.emptyDict).push (PySem.W.instObj C s.heap.objs.size) }) :
 codeAny (model prog w) A (.call (.ref C) ⟨vs,kw⟩) R s:=by
 obtain ⟨hh,g,d,t,os⟩:=s
 exact PySem.W.make_core (PySem.W.makes_of X hm) (PySem.W.looks_findIn X hi) (fun self=>PySem.W.bind_fn X self hf) (.inl rfl) h
end
def putF (f:Str) (v:V):List (Str×V)→List (Str×V)
 | []=>[(f,v)]
 | (g,x)::r=>if g=f then (g,v)::r else (g,x)::putF f v r
theorem a29 (f g:Str) (v:V):∀ fs:List (Str×V),(putF f v fs).lookup g=if g=f then some v else fs.lookup g
 | []=>by
   show List.lookup g [(f,v)]=_
   by_cases h:g=f
   · have hb:(g == f)=true:=beq_iff_eq.mpr h
     simp only [List.lookup,hb,if_pos h]
   · have hb:(g == f)=false:=beq_eq_false_iff_ne.mpr h
     simp only [List.lookup,hb,if_neg h]
 | (k,x)::r=>by
   have ih:=a29 f g v r
   rw [show putF f v ((k,x)::r)=(if k=f then (k,v)::r else (k,x)::putF f v r) from rfl]
   by_cases hk:k=f
   · rw [if_pos hk]
     by_cases h:g=k
     · have hb:(g == k)=true:=beq_iff_eq.mpr h
       simp only [List.lookup,hb,if_pos (h.trans hk)]
     · have hb:(g == k)=false:=beq_eq_false_iff_ne.mpr h
       simp only [List.lookup,hb,if_neg (fun e:g=f=>h (e.trans hk.symm))]
   · rw [if_neg hk]
     by_cases h:g=k
     · have hb:(g == k)=true:=beq_iff_eq.mpr h
       simp only [List.lookup,hb,if_neg (fun e:g=f=>hk (h.symm.trans e))]
     · have hb:(g == k)=false:=beq_eq_false_iff_ne.mpr h
       simp only [List.lookup,hb]
       exact ih
theorem ag2 (f:Str) (v:V):∀ fs:List (Str×V),f∈(putF f v fs).map (·.1)∧∀ g,g∈fs.map (·.1)→g∈(putF f v fs).map (·.1)
 | []=>⟨by simp [putF],fun g h=>by simp at h⟩
 | (k,x)::r=>by
   obtain ⟨i1,i2⟩:=ag2 f v r
   rw [show putF f v ((k,x)::r)=(if k=f then (k,v)::r else (k,x)::putF f v r) from rfl]
   by_cases hk:k=f
   · rw [if_pos hk]
     subst hk
     exact ⟨by simp,fun g h=>by simpa using h⟩
   · rw [if_neg hk]
     refine ⟨?_,fun g h=>?_⟩
     · rw [List.map_cons]
       exact List.mem_cons_of_mem _ i1
     · rw [List.map_cons] at h ⊢
       rcases List.mem_cons.mp h with e | e
       · exact List.mem_cons.mpr (.inl e)
       · exact List.mem_cons_of_mem _ (i2 g e)
theorem a55 (f:Str) (v:V):∀ fs:List (Str×V),(putF f v fs).length≤fs.length+1
 | []=>by simp [putF]
 | (k,x)::r=>by
   have ih:=a55 f v r
   rw [show putF f v ((k,x)::r)=(if k=f then (k,v)::r else (k,x)::putF f v r) from rfl]
   by_cases hk:k=f
   · rw [if_pos hk,List.length_cons,List.length_cons]; omega
   · rw [if_neg hk,List.length_cons,List.length_cons]; omega
theorem RelO.some_of {v:V}{o:Option Value}(r:RelO (some v) o):∃ u,o=some u∧RelV v u:=by
 cases o with
 | none=>exact (show False from r).elim
 | some u=>exact ⟨u,rfl,r⟩
theorem RelO.none_of {o:Option Value}(r:RelO none o):o=none:=by
 cases o with
 | none=>rfl
 | some u=>exact (show False from r).elim
theorem b07 {v:V}{u:Value}(r:RelV v u):PySem.W.handedIn u=true:=by
 cases v with
 | non=>cases (show u=Value.none from r); rfl
 | bl b=>cases (show u=Value.bool b from r); rfl
 | int i=>obtain ⟨t,e⟩:=(show ∃ t,u=Value.int i t from r); cases e; rfl
 | str x=>obtain ⟨t,e⟩:=(show ∃ t,u=Value.str x t from r); cases e; rfl
 | byt b=>obtain ⟨t,e⟩:=(show ∃ t,u=Value.bytes b t from r); cases e; rfl
 | flt b=>obtain ⟨t,e⟩:=(show ∃ t,u=Value.float b t from r); cases e; rfl
 | ref a=>cases (show u=Value.ref a from r); rfl
 | ty n=>cases (show u=Value.type n from r); rfl
section
variable {P:Program}{w:World}{H H':Hp}{h h':Heap}{a C dx:Addr}{fs fs':List (Str×V)}
theorem as3 (hok:HOk P w H h) (e:H a=some (.ins C dx fs)):∃ mA,ObjM h a dx C mA∧(∀ f,RelO (fs.lookup f) (mA f))∧PySem.Within mA (fs.map (·.1))∧fs.length≤1000∧H dx=some (.own a):=by
 obtain ⟨d,z,ne,ob,mA,n,r,q⟩:=(show ObjOk P w H h a (.ins C dx fs) from hok a _ e)
 exact ⟨mA,⟨ob,n,ne⟩,r,q,z,d⟩
end
structure Cls (K:PySem.W.Frag) (C:Addr):Prop where
 pg:PySem.W.plainGet K C Str.empty=true
 hd:PySem.W.hasDictIn K C=true
 po:PySem.W.plainOver K C=true
 sa:PySem.W.findIn K (.ref C) "__setattr__"=some (some (.builtin "object.__setattr__"))
theorem Cls.get {K:PySem.W.Frag}{C:Addr}(c:Cls K C) (f:Str):PySem.W.plainGet K C f=true:=c.pg
def NoAttr (K:PySem.W.Frag) (C:Addr) (f:Str):Prop:=PySem.W.findIn K (.ref C) f=some none
theorem NoAttr.taker {K:PySem.W.Frag}{C:Addr}{f:Str}(n:NoAttr K C f):PySem.W.takerIn K C f=some none:=by
 unfold PySem.W.takerIn
 rw [show PySem.W.findIn K (.ref C) f=some none from n]
 rfl
structure Meth (K:PySem.W.Frag) (C:Addr) (m:Str) (f:Addr):Prop where
 at_:PySem.W.findIn K (.ref C) m=some (some (.ref f))
 fn:PySem.W.isFn K (.ref f)=true
 kp:PySem.W.keepIn K (.ref f)=true
section
variable {X:Cx}{pins:List (Addr×Obj)}{σ:St} {H:Hp}{s:Shared}{a C dx:Addr}{fs:List (Str×V)}{f:Str}{v:V}{A:Around}{E:Value→Shared→Prop}
theorem ax7 {b:Bool}{Q:Value→Shared→Prop}(I:Inv X pins σ H s) (e:H a=some (.ins C dx fs)) (c:Cls X.K C) (n:NoAttr X.K C f) (l:fs.lookup f=some v)
 (h:∀ u s',Inv X pins σ H s'→RelV v u→Q u s'):wpAny (model X.prog X.w) A (getAttr (.ref a) f b) Q E s:=by
 obtain ⟨mA,O,r,_,_,_⟩:=as3 I.hok e
 obtain ⟨u,hu,ru⟩:=RelO.some_of (v:=v) (o:=mA f) (by rw [← l]; exact r f)
 exact bg5 I.kIn O (c.get f) c.hd n hu (b07 ru) (h u _ (I.tok _) ru)
theorem aj3 {m:Str}{g:Addr}{pl:Sem Bool}{Q:Value×List Value→Shared→Prop}(I:Inv X pins σ H s) (e:H a=some (.ins C dx fs)) (c:Cls X.K C) (k:Meth X.K C m g) (l:fs.lookup m=none)
 (h:Q (.ref g,[.ref a]) s):wpAny (model X.prog X.w) A (getMethod (.ref a) m pl) Q E s:=by
 obtain ⟨mA,O,r,_,_,_⟩:=as3 I.hok e
 have hn:mA m=none:=RelO.none_of (by rw [← l]; exact r m)
 exact b77 I.kIn O (c.get m) k.at_ k.fn hn h
theorem ax8 {y:V}{u:Value}{Q:Unit→Shared→Prop}(I:Inv X pins σ H s) (e:H a=some (.ins C dx fs)) (c:Cls X.K C) (n:NoAttr X.K C f) (hl:fs.length<1000) (ry:RelV y u)
 (h:∀ s',Inv X pins σ (upd H a (.ins C dx (putF f y fs))) s'→Q () s'):wpAny (model X.prog X.w) A (setAttr (.ref a) f u) Q E s:=by
 obtain ⟨mA,O,r,wi,_,ho⟩:=as3 I.hok e
 have hz:(fs.map (·.1)).length≤sizeLine:=by rw [List.length_map,sizeLine_eq]; omega
 refine bg6 I.kIn O c.sa c.po n.taker c.hd wi hz fun h' O' sb=>h _ ?_
 have hd:∃ o,h'.get? dx=some o:=let ⟨o,_,_,e',_⟩:=O'.ns; ⟨o,e'⟩
 refine I.write (x:=a) (e:=dx) (by rw [e]; exact True.intro) (.inr ho) (fun b q hb z=>(sb.2 b hb).trans z) hd ?_
 refine ⟨by rw [a14 O.ne]; exact ho,?_,O.ne,O'.obj,_,O'.ns,fun g=>?_,fun g hg=>?_⟩
 · have:=a55 f y fs; omega
 · show RelO ((putF f y fs).lookup g) (if g=f then some u else mA g)
   rw [a29]
   by_cases q:g=f
   · rw [if_pos q,if_pos q]; exact ry
   · rw [if_neg q,if_neg q]; exact r g
 · by_cases q:g=f
   · rw [q]; exact (ag2 f y fs).1
   · refine (ag2 f y fs).2 g (wi g fun z=>hg ?_)
     show (if g=f then some u else mA g)=none
     rw [if_neg q]; exact z
theorem Inv.made (I:Inv X pins σ H s):Inv X pins σ (upd (upd H s.heap.objs.size (.own (s.heap.objs.size+1))) (s.heap.objs.size+1) (.ins C s.heap.objs.size []))
 { s with heap:=(s.heap.push PySem.W.emptyDict).push (PySem.W.instObj C s.heap.objs.size) }:=by
 have e1:(s.heap.push PySem.W.emptyDict).get? s.heap.objs.size=some PySem.W.emptyDict:=Heap.get?_push_size s.heap rfl
 have e2:((s.heap.push PySem.W.emptyDict).push (PySem.W.instObj C s.heap.objs.size)).get? (s.heap.objs.size+1)=some (PySem.W.instObj C s.heap.objs.size):=by
  have:=Heap.get?_push_size (s.heap.push PySem.W.emptyDict) (o:=PySem.W.instObj C s.heap.objs.size) rfl
  rwa [Heap.size_push] at this
 have e3:(s.heap.push PySem.W.emptyDict).Ns s.heap.objs.size (fun _=>none):=⟨PySem.W.emptyDict,#[],_,e1,rfl,(fun e he=>absurd he (by simp)),fun _=>rfl⟩
 have I1:=I.laid (a:=s.heap.objs.size) (o:=.own (s.heap.objs.size+1)) (h':=s.heap.push PySem.W.emptyDict) (t':=s.toks) (fun b u q=>Heap.get?_push_of_some _ q) (Nat.le_refl _) ⟨_,e1⟩
 refine I1.laid (a:=s.heap.objs.size+1) (o:=.ins C s.heap.objs.size []) (t':=s.toks) (fun b u q=>Heap.get?_push_of_some _ q) (Nat.le_of_eq (Heap.size_push _ _)) ?_
 have ne:s.heap.objs.size≠s.heap.objs.size+1:=Nat.ne_of_lt (Nat.lt_succ_self _)
 refine ⟨by rw [a14 ne,a19],Nat.zero_le _,ne,e2,fun _=>none,(Heap.Ns1.of_empty e3).at fun o q=>Heap.get?_push_of_some _ q,fun _=>True.intro,fun y hy=>absurd rfl hy⟩
theorem bg7 {prog:Program}{w:World}{env:Env}{e:Expr}{f:Str}{pos:Pos}{s:Shared}{Q:Value→Shared→Prop}(hb:attributeBase e f env (eval e env)=eval e env)
 (h:wpAny (model prog w) A (eval e env) (fun o s₁=>wpAny (model prog w) A (getAttr o f true) Q E s₁) E s):wpAny (model prog w) A (eval (.Attribute e f pos) env) Q E s :=
 Attribute_any_ h (by rw [arm_eval_Attribute,hb])
end
def tFld (K:PySem.W.Frag) (ta:TE) (f:Str):TE:=fun σ H Q=>ta σ H fun x H1=>∃ a C dx fs v,x=.ref a∧H1 a=some (.ins C dx fs)∧Cls K C∧NoAttr K C f∧fs.lookup f=some v∧Q v H1
def sFld (K:PySem.W.Frag) (ta tv:TE) (f:Str):TS:=fun D σ H=>tv σ H fun y H1=>ta σ H1 fun x H2=>∃ a C dx fs,x=.ref a∧H2 a=some (.ins C dx fs)∧Cls K C∧NoAttr K C f∧fs.length<1000 ∧
 D.nx σ (upd H2 a (.ins C dx (putF f y fs)))
section
variable {X:Cx}{o e value:Expr}{f:Str}{pos pos' tpos:Pos}{ta tv:TE}
theorem bp7 (he:PE X e ta) (hb:attributeBase e f X.env (eval e X.env)=eval e X.env):PE X (.Attribute e f pos) (tFld X.K ta f):=by
 intro pins s σ H Q I h
 refine bg7 hb (thn (he pins s σ H _ I h) ?_)
 rintro u s1 ⟨x,H1,I1,rx,a,C,dx,fs,v,ex,ea,c,n,l,q⟩
 subst ex
 obtain rfl:u=Value.ref a:=rx
 exact ax7 I1 ea c n l fun u' s2 I2 ru=>⟨v,H1,I2,ru,q⟩
theorem bp8 (ha:PE X o ta) (hv:PE X value tv) (hs:swapsWith value (some (.Attribute o f pos')) pos.line X.env=pure false):PS X (.Assign [.Attribute o f pos'] value pos) (sFld X.K ta tv f):=by
 intro pins s σ H D I h
 refine plainObj_wpAny_Assign_Attribute (thn (hv pins s σ H _ I h) ?_) hs
 rintro u s1 ⟨y,H1,I1,ry,q⟩
 refine thn (ha pins s1 σ H1 _ I1 q) ?_
 rintro ov s2 ⟨x,H2,I2,rx,a,C,dx,fs,ex,ea,c,n,l,q2⟩
 subst ex
 obtain rfl:ov=Value.ref a:=rx
 exact ax8 I2 ea c n l ry fun s3 I3=>⟨σ,_,I3,q2⟩
end
section
variable {X:Cx}{pins:List (Addr×Obj)}{σ:St} {H:Hp}{s:Shared}{A:Around}{E:Value→Shared→Prop}{Q:Value→Shared→Prop}{c:Value}{b:Bool}
end
structure Room (k:Nat) (A:Around):Prop where
 hd:A.handled=none
 dp:A.depth+3*k+5<recursionLimit
 un:A.units+16*k+200<cLine
theorem Room.mono {j k:Nat}{A:Around}(r:Room k A) (h:j≤k):Room j A:=⟨r.hd,by have:=r.dp; omega,by have:=r.un; omega⟩
theorem Room.deeper {k:Nat}{A:Around}(r:Room (k+1) A) (env:Env):Room k (A.deeper env) :=
 ⟨r.hd,by have:=r.dp; show A.depth+1+3*k+5<_; omega,by have:=r.un; show A.units+3+16*k+200<_; omega⟩
theorem ax9 {A:Around}{C:Addr}{us:List Value}{kw:List (Str×Value)}:(A.under (.builtin "type.__call__" ⟨.ref C::us,kw⟩)).depth=A.depth+1:=by
 first | rfl | simp [Around.under,Code.weight,Code.isCreation,Code.isGuard,Code.isCaller,Code.frames,Code.isFrame,guardIds]
theorem ay0 {A:Around}{C:Addr}{us:List Value}{kw:List (Str×Value)}:(A.under (.builtin "type.__call__" ⟨.ref C::us,kw⟩)).units=A.units+1:=by
 first | rfl | simp [Around.under,Code.cUnits,Code.frames,Code.isFrame]
theorem Room.make {k:Nat}{A:Around}(r:Room (k+1) A) (C:Addr) (us:List Value) (kw:List (Str×Value)):Room k (A.under (.builtin "type.__call__" ⟨.ref C::us,kw⟩)) :=
 ⟨r.hd,by have:=r.dp; rw [ax9]; omega,by have:=r.un; rw [ay0]; omega⟩
theorem Room.depth {k:Nat}{A:Around}(r:Room k A):A.depth<recursionLimit:=by have:=r.dp; omega
theorem Room.units {k:Nat}{A:Around}(r:Room k A):A.units+64<cLine:=by have:=r.un; omega
def tNil:TA:=fun _ H Q=>Q [] H
def tCons (ta:TE) (tr:TA):TA:=fun σ H Q=>ta σ H fun x H1=>tr σ H1 fun xs H2=>Q (x::xs) H2
section
variable {X:Cx}{e:Expr}{es:List Expr}{te:TE}{t:TA}{pos:Pos}
theorem a02:PA X [] tNil:=fun _ _ _ _ H Q I h=>Calls.spliced_nil ⟨[],H,I,.nil,h⟩
theorem a00 (ha:PE X e te) (hr:PA X es t) (hs:starEach (e::es) X.env=(false,eval e X.env)::starEach es X.env:=by rfl):PA X (e::es) (tCons te t):=by
 intro pos pins s σ H Q I h
 rw [hs]
 show wpAny _ _ (spliced ((false,eval e X.env)::backTo pos (starEach es X.env))) _ _ s
 refine Calls.spliced_cons (thn (ha pins s σ H _ I h) ?_)
 rintro u s1 ⟨x,H1,I1,r1,q1⟩
 exact thn (hr pos pins s1 σ H1 _ I1 q1) (by rintro us s2 ⟨xs,H2,I2,r2,q2⟩; exact ⟨x::xs,H2,I2,.cons r1 r2,q2⟩)
end
abbrev Sp:=List V→Hp→VK→XK→Prop
abbrev CXT:=List Env→Hp→Shared→XK→Value→Shared→Prop
structure Env0 (P:Program) (w:World) (K:PySem.W.Frag) (mg:Str→Option Value) (base:Heap) (A:Around) (outer:List Env) (s:Shared) (H:Hp):Prop where
 frames:A.frames=some outer
 mod:Mod K mg base
 bs:∀ b o,base.get? b=some o→s.heap.get? b=some o∧H b=none
 bsz:base.objs.size≤s.heap.objs.size
 funs:s.heap.FunFrames base outer
 frf:∀ b∈frs outer,H b=none
 hok:HOk P w H s.heap
 bare:AllBare s.gens
def CE (outer:List Env) (P:Program) (w:World) (H:Hp) (s:Shared) (Q:VK) (u:Value) (s':Shared):Prop :=
 ∃ v H',s'.os=s.os∧AllBare s'.gens∧Un (frs outer) [] H H' s.heap s'.heap∧HOk P w H' s'.heap∧RelV v u∧Q v H'
def CR (CX:CXT) (outer:List Env) (P:Program) (w:World) (H:Hp) (s:Shared) (Q:VK) (E:XK) (r:Result) (s':Shared):Prop :=
 match r with
 | .ok (.ret u)=>CE outer P w H s Q u s'
 | .ok _=>False
 | .error e=>CX outer H s E e s'
structure FnOk (P:Program) (w:World) (K:PySem.W.Frag) (mg:Str→Option Value) (base:Heap) (CX:CXT) (k:Nat) (f:Addr) (fd:FuncData) (ps:List Str) (sp:Sp):Prop where
 len:∀ vs H Q E,sp vs H Q E→vs.length=ps.length
 run:∀ (A:Around) (outer:List Env) (s:Shared) (H:Hp) (args:Args) (us:List Value) (vs:List V) (Q:VK) (E:XK),Room k A→Env0 P w K mg base A outer s H→BindsTo s fd args (ps.zip us)→Vals vs us→sp vs H Q E →
  codeAny (model P w) A (.call (.ref f) args) (CR CX outer P w H s Q E) s
theorem Env0.make {P:Program}{w:World}{K:PySem.W.Frag}{mg:Str→Option Value}{base:Heap}{A:Around}{outer:List Env}{s:Shared}{H:Hp}(e:Env0 P w K mg base A outer s H) (C:Addr) (us:List Value) (kw:List (Str×Value)) :
 Env0 P w K mg base (A.under (.builtin "type.__call__" ⟨.ref C::us,kw⟩)) outer s H:=⟨by first | exact e.frames | (simpa [Around.under,Code.envs,Code.isFrame,pushEnvs] using e.frames),e.mod,e.bs,e.bsz,e.funs,e.frf,e.hok,e.bare⟩
section
variable {X:Cx}{pins:List (Addr×Obj)}{σ:St} {H:Hp}{s s':Shared}
theorem Inv.env0 (I:Inv X pins σ H s):Env0 X.prog X.w X.K X.mg X.base X.A X.stack s H :=
 ⟨I.ok.frames,I.ok.mod,I.bs,Nat.le_trans I.ok.bsz I.sz,I.stack,I.stkFree,I.hok,I.bare⟩
theorem Inv.after {Q:VK}{u:Value}(I:Inv X pins σ H s) (h:CE X.stack X.prog X.w H s Q u s'):EP X pins σ Q u s':=by
 obtain ⟨v,H',os,bare,un,hok,r,q⟩:=h
 obtain ⟨hh,g,d,t,os'⟩:=s'
 obtain rfl:os'=s.os:=os
 exact ⟨v,H',I.call (h':=hh) (g':=g) (d':=d) (t':=t) (ch:=[]) un hok bare (fun b z=>absurd z (by simp)),r,q⟩
end
def bp9 (sp:Sp) (dvs:List V) (E:XK) (t:TA):TE:=fun σ H Q=>t σ H fun vs H1=>sp (vs++dvs) H1 Q E
def bg8 (C:Addr) (m:Str) (sp:Sp) (dvs:List V) (E:XK) (ta:TE) (t:TA):TE:=fun σ H Q=>ta σ H fun x H1=>∃ a dx fs,x=.ref a∧H1 a=some (.ins C dx fs)∧fs.lookup m=none ∧
 t σ H1 fun vs H2=>sp (x::(vs++dvs)) H2 Q E
def bq0 (C:Addr) (sp:Sp) (dvs:List V) (E:XK) (t:TA):TE:=fun σ H Q=>t σ H fun vs H1=>∀ x dx,H1 x=none→H1 dx=none→dx≠x →
 sp (.ref x::(vs++dvs)) (upd (upd H1 dx (.own x)) x (.ins C dx [])) (fun v H2=>v=.non∧Q (.ref x) H2) E
def Binds (K:PySem.W.Frag) (fd:FuncData) (ps:List Str) (ds:List Value):Prop :=
 ∀ (s:Shared) (us:List Value),K.In s.heap→(us++ds).length=ps.length→BindsTo s fd ⟨us,[]⟩ (ps.zip (us++ds))
theorem Binds.all {K:PySem.W.Frag}{fd:FuncData}{ps:List Str}(h:∀ us:List Value,us.length=ps.length→bindArgs fd ⟨us,[]⟩=pure (ps.zip us)):Binds K fd ps []:=fun s us _ hl=>by
 rw [List.append_nil] at hl ⊢
 exact .of_eq (h us hl)
def ag3 (CX:CXT) (X:Cx) (E:XK):Prop:=∀ (pins:List (Addr×Obj)) (σ:St) (H:Hp) (s:Shared) (e:Value) (s':Shared),Inv X pins σ H s→CX X.stack H s E e s'→X.xe e s'
section
variable {X:Cx}{CX:CXT}{k:Nat}{f C:Addr}{fd:FuncData}{ps:List Str}{sp:Sp}{dvs:List V}{ds:List Value}{E:XK}{x m:Str}{p pos apos:Pos}{e o:Expr}{es:List Expr}{ta:TE}{t:TA}
theorem b08 {pins:List (Addr×Obj)}{σ:St} {H:Hp}{s:Shared}{Q:VK}{us:List Value}{vs:List V}(F:FnOk X.prog X.w X.K X.mg X.base CX k f fd ps sp) (hr:Room k X.A) (hb:Binds X.K fd ps ds) (hd:Vals dvs ds) (hx:ag3 CX X E)
 (I:Inv X pins σ H s) (r:Vals vs us) (h:sp (vs++dvs) H Q E):wpAny (model X.prog X.w) X.A (call (.ref f) us) (EP X pins σ Q) X.xe s:=by
 have r2:Vals (vs++dvs) (us++ds):=r.append hd
 have hl:(us++ds).length=ps.length:=by rw [← r2.length]; exact F.len _ _ _ _ h
 refine wpAny_call (codeAny_mono (F.run X.A X.stack s H ⟨us,[]⟩ (us++ds) (vs++dvs) Q E hr I.env0 (hb s us I.kIn hl) r2 h) fun r s' hq=>?_)
 cases r with
 | error e=>exact hx pins σ H s e s' I hq
 | ok fl =>
   cases fl with
   | ret u=>exact I.after hq
   | next=>exact False.elim hq
   | brk=>exact False.elim hq
   | cont=>exact False.elim hq
theorem a26 (F:FnOk X.prog X.w X.K X.mg X.base CX k f fd ps sp) (hr:Room k X.A) (hg:Gl X x) (hm:X.mg x=some (.ref f)) (hk:PySem.W.keepIn X.K (.ref f)=true) (hb:Binds X.K fd ps ds) (hd:Vals dvs ds) (hx:ag3 CX X E)
 (ha:PA X (e::es) t) (hdb:(x == ("__debug__":Str))=false:=by decide) (he:starEach (e::es) X.env=(false,eval e X.env)::starEach es X.env:=by rfl) (hpl:(backTo pos (starEach es X.env)).any (·.1)=false:=by rfl) :
 PE X (.Call (.Name x p) (e::es) [] pos) (bp9 sp dvs E t):=by
 intro pins s σ H Q I h
 refine wpAny_Call_Name_kw (ar9 I hg hm ?_ hdb)
 refine PySem.W.callWith_K (h₀:=X.base) I.ok.mod.kin hk (thn (ha pos pins s σ H _ I h) ?_) he hpl
 rintro us s1 ⟨vs,H1,I1,r,q⟩
 refine ⟨I1.kIn,?_⟩
 exact b08 F hr hb hd hx I1 r q
theorem a61 {pl:Sem Bool}(he:PE X o ta) (c:Cls X.K C) (hm:Meth X.K C m f) (F:FnOk X.prog X.w X.K X.mg X.base CX k f fd ps sp) (hr:Room k X.A) (hb:Binds X.K fd ps ds) (hd:Vals dvs ds) (hx:ag3 CX X E) (ha:PA X (e::es) t)
 (hst:starEach (e::es) X.env=(false,eval e X.env)::starEach es X.env:=by rfl) (hpl:(backTo pos (starEach es X.env)).any (·.1)=false:=by rfl)
 (ht:eval (.Call (.Attribute o m apos) (e::es) [] pos) X.env=(do
  let ov←eval o X.env
  standAt apos.atName
  let (f,first)←holding [ov] (getMethod ov m pl)
  callWith pos f first (backTo pos (starEach (e::es) X.env)) (backToKw pos (keywordEach [] X.env))):=by rfl) :
 PE X (.Call (.Attribute o m apos) (e::es) [] pos) (bg8 C m sp dvs E ta t):=by
 intro pins s σ H Q I h
 refine PySem.W.methodCall_KW (pl:=pl) (thn (he pins s σ H _ I h) ?_) ht
 rintro u s1 ⟨x,H1,I1,rx,a,dx,fs,ex,ea,l,q⟩
 subst ex
 obtain rfl:u=Value.ref a:=rx
 refine aj3 I1 ea c hm l ?_
 refine PySem.W.callWith_K (first:=[.ref a]) (h₀:=X.base) I.ok.mod.kin hm.kp (thn (ha pos pins s1 σ H1 _ I1 q) ?_) hst hpl
 rintro us s2 ⟨vs,H2,I2,r,q2⟩
 refine ⟨I2.kIn,?_⟩
 exact b08 (us:=.ref a::us) (vs:=.ref a::vs) F hr hb hd hx I2 (.cons rfl r) q2
theorem b79 {pl:Sem Bool}(he:PE X o ta) (c:Cls X.K C) (hm:Meth X.K C m f) (F:FnOk X.prog X.w X.K X.mg X.base CX k f fd ps sp) (hr:Room k X.A) (hb:Binds X.K fd ps ds) (hd:Vals dvs ds) (hx:ag3 CX X E)
 (ht:eval (.Call (.Attribute o m apos) [] [] pos) X.env=(do
  let ov←eval o X.env
  standAt apos.atName
  let (f,first)←holding [ov] (getMethod ov m pl)
  callWith pos f first (backTo pos (starEach [] X.env)) (backToKw pos (keywordEach [] X.env))):=by rfl) :
 PE X (.Call (.Attribute o m apos) [] [] pos) (bg8 C m sp dvs E ta tNil):=by
 intro pins s σ H Q I h
 refine PySem.W.methodCall_KW (pl:=pl) (thn (he pins s σ H _ I h) ?_) ht
 rintro u s1 ⟨x,H1,I1,rx,a,dx,fs,ex,ea,l,q⟩
 subst ex
 obtain rfl:u=Value.ref a:=rx
 refine aj3 I1 ea c hm l ?_
 exact PySem.W.callWith_K0 (first:=[.ref a]) I1.kIn hm.kp (b08 (us:=[.ref a]) (vs:=[.ref a]) F hr hb hd hx I1 (.cons rfl .nil) q)
structure Mk (K:PySem.W.Frag) (C f:Addr):Prop where
 makes:PySem.W.makesIn K C=true
 init:PySem.W.findIn K (.ref C) "__init__"=some (some (.ref f))
 fn:PySem.W.isFn K (.ref f)=true
 kp:PySem.W.keepIn K (.ref C)=true
theorem b80 {pins:List (Addr×Obj)}{σ:St} {H:Hp}{s:Shared}{Q:VK}{us:List Value}{vs:List V}(M:Mk X.K C f) (F:FnOk X.prog X.w X.K X.mg X.base CX k f fd ps sp) (hr:Room (k+1) X.A) (hb:Binds X.K fd ps ds) (hd:Vals dvs ds)
 (hx:ag3 CX X E) (I:Inv X pins σ H s) (r:Vals vs us)
 (h:∀ x dx,H x=none→H dx=none→dx≠x→sp (.ref x::(vs++dvs)) (upd (upd H dx (.own x)) x (.ins C dx [])) (fun v H2=>v=.non∧Q (.ref x) H2) E) :
 wpAny (model X.prog X.w) X.A (call (.ref C) us) (EP X pins σ Q) X.xe s:=by
 have hq:=h (s.heap.objs.size+1) s.heap.objs.size (I.hok.fresh (Nat.le_succ _)) (I.hok.fresh (Nat.le_refl _)) (Nat.ne_of_lt (Nat.lt_succ_self _))
 have I2:=Inv.made (C:=C) I
 have r2:Vals (V.ref (s.heap.objs.size+1)::(vs++dvs)) (Value.ref (s.heap.objs.size+1)::(us++ds)):=.cons rfl (r.append hd)
 have hl:(Value.ref (s.heap.objs.size+1)::us++ds).length=ps.length:=by
  have e:=r2.length
  rw [F.len _ _ _ _ hq] at e
  exact e.symm
 refine wpAny_call (b78 (f:=f) I.kIn M.makes M.init (beq_iff_eq.mp M.fn) (codeAny_mono (F.run _ X.stack _ _ ⟨Value.ref (s.heap.objs.size+1)::us,[]⟩ (Value.ref (s.heap.objs.size+1)::(us++ds)) _ _ E (hr.make C us [])
  (I2.env0.make C us []) (hb _ (Value.ref (s.heap.objs.size+1)::us) I2.kIn hl) r2 hq) fun r s' hq'=>?_))
 cases r with
 | error e=>exact hx pins σ _ _ e s' I2 hq'
 | ok fl =>
   cases fl with
   | ret u =>
     obtain ⟨v,H',I3,rv,ev,q3⟩:=I2.after hq'
     subst ev
     exact ⟨rv,⟨V.ref (s.heap.objs.size+1),H',I3,rfl,q3⟩⟩
   | next=>exact False.elim hq'
   | brk=>exact False.elim hq'
   | cont=>exact False.elim hq'
theorem as4 (M:Mk X.K C f) (F:FnOk X.prog X.w X.K X.mg X.base CX k f fd ps sp) (hr:Room (k+1) X.A) (hg:Gl X x) (hm:X.mg x=some (.ref C)) (hb:Binds X.K fd ps ds) (hd:Vals dvs ds) (hx:ag3 CX X E)
 (ha:PA X (e::es) t) (hdb:(x == ("__debug__":Str))=false:=by decide) (he:starEach (e::es) X.env=(false,eval e X.env)::starEach es X.env:=by rfl) (hpl:(backTo pos (starEach es X.env)).any (·.1)=false:=by rfl) :
 PE X (.Call (.Name x p) (e::es) [] pos) (bq0 C sp dvs E t):=by
 intro pins s σ H Q I h
 refine wpAny_Call_Name_kw (ar9 I hg hm ?_ hdb)
 refine PySem.W.callWith_K (h₀:=X.base) I.ok.mod.kin M.kp (thn (ha pos pins s σ H _ I h) ?_) he hpl
 rintro us s1 ⟨vs,H1,I1,r,q⟩
 refine ⟨I1.kIn,?_⟩
 exact b80 M F hr hb hd hx I1 r q
end
section
variable {X:Cx}{CX:CXT}{k:Nat}{f C:Addr}{fd:FuncData}{ps ks:List Str}{sp:Sp}{E:XK}{x m:Str}{p pos apos kpos:Pos}{e o:Expr}{es:List Expr}{kws:List Keyword}{te ta:TE}{t tk:TA}{nm:Option Str}
variable {g:List Value→List Value→List Value}{gV:List V→List V→List V}
end
structure FnScope (N P:List Str) (sc:Scope):Prop where
 kind:sc.kind=.function
 co:sc.isCoroutine=false
 gen:sc.isGenerator=false
 nd:N.Nodup
 pre:N.take P.length=P
 par:∀ x∈P,sc.names.lookup x=some .local∨sc.names.lookup x=some .cell
 nofree:∀ y∈sc.names,y.2≠.free
theorem ao0 {kindOf:Str→Option NameKind}{x:Str}:∀ {binds:List (Str×Value)}{m:Str→Option Value},(∀ v,(x,v)∉binds)→bindL kindOf binds m x=m x
 | [],_,_=>rfl
 | (n,v)::r,m,h=>by
   unfold bindL
   rw [ao0 fun w hw=>h w (List.mem_cons_of_mem _ hw)]
   split
   · have:x≠n:=by rintro rfl; exact h v List.mem_cons_self
     simp [this]
   · rfl
theorem ao1 {kindOf:Str→Option NameKind}{x:Str}:∀ {binds:List (Str×Value)}{m:Str→Option Value},(∀ v,(x,v)∉binds)→bindC kindOf binds m x=m x
 | [],_,_=>rfl
 | (n,v)::r,m,h=>by
   unfold bindC
   rw [ao1 fun w hw=>h w (List.mem_cons_of_mem _ hw)]
   split
   · rfl
   · have:x≠n:=by rintro rfl; exact h v List.mem_cons_self
     simp [this]
theorem ao2 {kindOf:Str→Option NameKind}{x:Str}{v:Value}:∀ {P:List Str}{vs:List Value}{i:Nat}{m:Str→Option Value},P.Nodup→P[i]?=some x→vs[i]?=some v→kindOf x=some .local →
 bindL kindOf (P.zip vs) m x=some v
 | [],_,_,_,_,h,_,_=>by simp at h
 | _::_,[],_,_,_,_,h,_=>by simp at h
 | p::P,w::vs,0,m,nd,h1,h2,hk=>by
   simp at h1 h2; subst h1; subst h2
   show bindL kindOf ((p,w)::P.zip vs) m p=_
   unfold bindL
   rw [ao0 fun v hv=>(List.nodup_cons.mp nd).1 (List.of_mem_zip hv).1,if_pos hk]
   simp
 | p::P,w::vs,i+1,m,nd,h1,h2,hk=>by
   show bindL kindOf ((p,w)::P.zip vs) m x=_
   unfold bindL
   exact ao2 (i:=i) (List.nodup_cons.mp nd).2 (by simpa using h1) (by simpa using h2) hk
theorem ao3 {kindOf:Str→Option NameKind}{x:Str}{v:Value}:∀ {P:List Str}{vs:List Value}{i:Nat}{m:Str→Option Value},P.Nodup→P[i]?=some x→vs[i]?=some v→kindOf x≠some .local →
 bindC kindOf (P.zip vs) m x=some v
 | [],_,_,_,_,h,_,_=>by simp at h
 | _::_,[],_,_,_,_,h,_=>by simp at h
 | p::P,w::vs,0,m,nd,h1,h2,hk=>by
   simp at h1 h2; subst h1; subst h2
   show bindC kindOf ((p,w)::P.zip vs) m p=_
   unfold bindC
   rw [ao1 fun v hv=>(List.nodup_cons.mp nd).1 (List.of_mem_zip hv).1,if_neg hk]
   simp
 | p::P,w::vs,i+1,m,nd,h1,h2,hk=>by
   show bindC kindOf ((p,w)::P.zip vs) m x=_
   unfold bindC
   exact ao3 (i:=i) (List.nodup_cons.mp nd).2 (by simpa using h1) (by simpa using h2) hk
def start (N:List Str) (vs:List V):St:=vs.map some++List.replicate (N.length - vs.length) none
def cxOf (CX:CXT) (P:Program) (w:World) (K:PySem.W.Frag) (mg:Str→Option Value) (base:Heap) (N:List Str) (qual:Str) (scope:Scope) (f:Addr) (cd:Value) (A:Around) (outer:List Env) (s:Shared) (H:Hp) (E:XK):Cx where
 prog:=P
 w:=w
 K:=K
 mg:=mg
 base:=base
 A:=A.deeper (envOfC qual scope s.heap.objs.size f cd)
 N:=N
 s₀:=s
 H₀:=H
 env:=envOfC qual scope s.heap.objs.size f cd
 outer:=outer
 stack:=envOfC qual scope s.heap.objs.size f cd::outer
 ex:=[]
 calm:=true
 fn:=fun _=>true
 pn:=[]
 xe:=fun e s'=>wpAny (model P w) (A.deeper (envOfC qual scope s.heap.objs.size f cd)) (leaving (envOfC qual scope s.heap.objs.size f cd) e) (fun _ s''=>CX outer H s E e s'') (fun e' s''=>CX outer H s E e' s'') s'
theorem av0 {sc:Scope}{n:Nat}{x:Str}(h:sc.names.lookup x=some .cell):∃ c,(cellsFrom n sc.names []).lookup x=some c:=by
 have q:=PySem.W.cellsFrom_some sc.names n [] (.inl h)
 exact Option.isSome_iff_exists.mp q
theorem b09 {CX:CXT}{P:Program}{w:World}{K:PySem.W.Frag}{mg:Str→Option Value}{base:Heap}{N ps:List Str}{qual:Str}{scope:Scope}{f:Addr}{cd:Value}{A:Around}{outer:List Env}{s s1:Shared}{H:Hp}{E:XK}{us:List Value}{vs:List V}
 (S:FnScope N ps scope) (hd:A.handled=none) (e0:Env0 P w K mg base A outer s H) (hl:vs.length=ps.length) (r:Vals vs us)
 (x:InCallC s s.heap.objs.size (bindL (envOfC qual scope s.heap.objs.size f cd).kindOf (ps.zip us) fun _=>none) (cellsFrom (s.heap.objs.size+1) scope.names []) (bindC (envOfC qual scope s.heap.objs.size f cd).kindOf (ps.zip us) fun _=>none) s1) :
 Inv (cxOf CX P w K mg base N qual scope f cd A outer s H E) [] (start N vs) H s1:=by
 have hpl:ps.length≤N.length:=by have:=congrArg List.length S.pre; rw [List.length_take] at this; omega
 obtain ⟨h1,tk,rfl,hk⟩:=x.done
 have noA:∀ b:Addr,b∉(cxOf CX P w K mg base N qual scope f cd A outer s H E).ex:=fun b z=>absurd (show b∈([]:List Addr) from z) (by simp)
 refine ⟨⟨e0.mod,S.kind,rfl,rfl,Nat.le_refl _,fun y z c h1 h2=>?_,fun y hy=>?_,fun y c _ h=>?_,fun _=>hd,Around.frames_deeper e0.frames,.inr ⟨rfl,rfl⟩,fun b z=>absurd z (noA b),e0.bs,e0.bsz,fun b _ _=>noA b,fun b z=>absurd z (noA b),e0.funs,e0.frf⟩,
  rfl,e0.bare,Un.kept hk,⟨_,x.toInCall.ns,fun i y v h1 h2 h3=>?_⟩,fun y c h=>⟨_,x.cell y c h⟩,e0.hok.fresh (Nat.le_refl _),fun y c h=>?_,fun p hp=>absurd (show p∈([]:List (Addr×Obj)) from hp) (by simp),e0.hok.kept hk,?_⟩
 · exact name_of_addr x.apart (PySem.mem_of_lookup h1) (PySem.mem_of_lookup h2)
 · have hy:scope.names.lookup y=some .cell∨scope.names.lookup y=some .free:=hy
   rcases hy with hy | hy
   · exact av0 hy
   · exact absurd rfl (S.nofree _ (PySem.mem_of_lookup hy))
 · exact Nat.le_of_lt (x.above y c (PySem.mem_of_lookup h))
 · have hi:i<vs.length:=by
    unfold start at h2
    by_cases hi:i<vs.length
    · exact hi
    · rw [List.getElem?_append_right (by simpa using hi)] at h2
      rw [List.getElem?_replicate] at h2
      split at h2 <;> cases h2
   have ha:vs[i]?=some v:=by
    unfold start at h2
    rw [List.getElem?_append_left (by simpa using hi),List.getElem?_map] at h2
    cases e:vs[i]? with
    | none=>rw [e] at h2; cases h2
    | some a=>rw [e] at h2; cases h2; rfl
   obtain ⟨u,hu,rv⟩:=r.get ha
   have hp:ps[i]?=some y:=by
    rw [← S.pre,List.getElem?_take_of_lt (by omega)]; exact h1
   have ndP:ps.Nodup:=by rw [← S.pre]; exact S.nd.sublist (List.take_sublist _ _)
   refine ⟨u,rv,?_⟩
   rcases S.par y (List.mem_of_getElem? hp) with k | k
   · exact .inl ⟨k,ao2 ndP hp hu k⟩
   · obtain ⟨c,e⟩:=av0 (n:=s.heap.objs.size+1) k
     refine .inr ⟨.inl k,c,e,?_⟩
     have q:=x.cell y c e
     rw [ao3 ndP hp hu (by show scope.names.lookup y≠_; rw [k]; decide)] at q
     exact q
 · exact e0.hok.fresh (Nat.le_of_lt (x.above y c (PySem.mem_of_lookup h)))
 · unfold start
   show _=N.length
   rw [List.length_append,List.length_map,List.length_replicate]
   omega
theorem bz8 {CX:CXT}{P:Program}{w:World}{K:PySem.W.Frag}{mg:Str→Option Value}{base:Heap}{k:Nat}{f:Addr}{name qual:Str}{params:Arguments}{body:List Stmt}{scope:Scope}{dV kV doc pm cdv ct oc:Value}{an od:Option Addr}
 {osl:Array (Option Value)}{N ps:List Str}{sp:Sp}(lk:K.lookup f=some ⟨oc,od,.func (PySem.W.fnOf name qual params body scope dV kV doc pm an cdv ct),osl⟩) (hcd:PySem.W.codeIn K cdv qual=true) (S:FnScope N ps scope)
 (len:∀ vs H Q E,sp vs H Q E→vs.length=ps.length)
 (hbody:∀ (A:Around) (outer:List Env) (s:Shared) (H:Hp) (vs:List V) (Q:VK) (E:XK),Room k (A.deeper (envOfC qual scope s.heap.objs.size f cdv))→sp vs H Q E →
  ∃ t,PSs (cxOf CX P w K mg base N qual scope f cdv A outer s H E) body t∧t { nx:=fun _ H'=>Q .non H',rt:=Q } (start N vs) H) :
 FnOk P w K mg base CX (k+1) f (PySem.W.fnOf name qual params body scope dV kV doc pm an cdv ct) ps sp:=by
 refine ⟨len,fun A outer s H args us vs Q E hr e0 hb r hsp=>?_⟩
 have hl:=len _ _ _ _ hsp
 have KX:K.In s.heap:=e0.mod.kin.keeps fun b o e=>(e0.bs b o e).1
 have lim:s.heap.NoLimit:=e0.mod.nolimit.keeps fun b o e=>(e0.bs b o e).1
 have hkind:∀ y∈ps.zip us,scope.names.lookup y.1=some .local∨(scope.names.lookup y.1=some .cell∧((cellsFrom (s.heap.objs.size+1) scope.names []).lookup y.1).isSome=true):=fun ⟨n,v⟩ hy=>by
  rcases S.par n (List.of_mem_zip hy).1 with q | q
  · exact .inl q
  · exact .inr ⟨q,PySem.W.cellsFrom_some _ _ _ (.inl q)⟩
 refine codeAny_call_function hr.depth (KX _ _ lk) rfl S.co S.gen rfl (PySem.W.codeRec_of KX hcd) (hb _ _ _ _ ?_)
 refine wpAny_newFunctionEnv_cells S.kind hkind fun env he s1 x=>?_
 subst he
 refine ⟨lim.keeps x.toInCall.keep,codeAny_func ?_⟩
 obtain ⟨t,ht,hq⟩:=hbody A outer s H vs Q E (hr.deeper _) hsp
 have I:Inv (cxOf CX P w K mg base N qual scope f cdv A outer s H E) [] (start N vs) H s1:=b09 S hr.hd e0 hl r x
 refine wpAny_mono (ht [] s1 (start N vs) H _ I hq) (fun fl s' hs=>?_) fun e s' hs=>hs
 have fin:∀ {σ':St} {H':Hp}{v:V}{u:Value},Inv (cxOf CX P w K mg base N qual scope f cdv A outer s H E) [] σ' H' s'→RelV v u→Q v H'→CE outer P w H s Q u s' :=
  fun {σ' H' v u} J rv q=>⟨v,H',J.os,J.bare,J.base,J.hok,rv,q⟩
 cases fl with
 | ret u =>
   obtain ⟨v,σ',H',J,rv,q⟩:=hs
   exact fin J rv q
 | next =>
   obtain ⟨σ',H',J,q⟩:=hs
   exact fin (v:=V.non) (u:=Value.none) J rfl q
 | brk =>
   obtain ⟨_,_,_,q⟩:=hs
   exact False.elim q
 | cont =>
   obtain ⟨_,_,_,q⟩:=hs
   exact False.elim q
section
variable {X:Cx}{x:Str}{p pos:Pos}{e:Expr}{es:List Expr}{t:TA}{id T:String}{r:List V→Hp→VK→Prop}
def tCB (r:List V→Hp→VK→Prop) (t:TA):TE:=fun σ H Q=>t σ H fun vs H1=>r vs H1 Q
theorem a69 (hc:CallR X (.builtin id) r) (hg:Gl X x) (hm:X.mg x=none) (hv:bootBuiltins x=some (.builtin id)) (ha:PA X (e::es) t) (hn:x≠"__name__":=by decide) (hdb:(x == ("__debug__":Str))=false:=by decide)
 (he:starEach (e::es) X.env=(false,eval e X.env)::starEach es X.env:=by rfl) (hpl:(backTo pos (starEach es X.env)).any (·.1)=false:=by rfl):PE X (.Call (.Name x p) (e::es) [] pos) (tCB r t):=by
 intro pins s σ H Q I h
 refine wpAny_Call_Name_kw (an2 I hg hm hv ?_ hn hdb)
 exact PyProof.Rows.callWith_builtin1 (thn (ha pos pins s σ H _ I h) (by rintro us s1 ⟨vs,H1,I1,r1,q1⟩; exact hc pins s1 σ H1 vs us Q I1 r1 q1)) he hpl
theorem a58 (hc:CallR X (.type T) r) (hg:Gl X x) (hm:X.mg x=none) (hv:bootBuiltins x=some (.type T)) (ha:PA X (e::es) t) (hn:x≠"__name__":=by decide) (hdb:(x == ("__debug__":Str))=false:=by decide)
 (he:starEach (e::es) X.env=(false,eval e X.env)::starEach es X.env:=by rfl) (hpl:(backTo pos (starEach es X.env)).any (·.1)=false:=by rfl):PE X (.Call (.Name x p) (e::es) [] pos) (tCB r t):=by
 intro pins s σ H Q I h
 refine wpAny_Call_Name_kw (an2 I hg hm hv ?_ hn hdb)
 exact PyProof.Rows.callWith_type1 (thn (ha pos pins s σ H _ I h) (by rintro us s1 ⟨vs,H1,I1,r1,q1⟩; exact hc pins s1 σ H1 vs us Q I1 r1 q1)) he hpl
end
end L2
namespace HT
open PySem PyProof.Rows
section
open PySem.SeqAt
open PySem.AutoSeq1 (wpAny_loadPart')
open PySem.MeetsSeq PySem.MeetsSeq2 PySem.MeetsSeq3
end
section
variable {prog:Program}{w:World}{A:Around}{E:Value→Shared→Prop}{s:Shared}
def sIx (n d:Nat):Option Int→Nat
 | none=>d
 | some v=>if v<0 then (v+(n:Int)).toNat else min v.toNat n
theorem sIx_none (n d:Nat):sIx n d none=d:=rfl
theorem sIx_nat (n d k:Nat):sIx n d (some (k:Int))=min k n:=by
 show (if (k:Int)<0 then ((k:Int)+(n:Int)).toNat else min (k:Int).toNat n)=min k n
 rw [if_neg (by omega),Int.toNat_natCast]
theorem bq1 (n d:Nat) (hd:d≤n) (o:Option Int):sIx n d o≤n:=by
 cases o with
 | none=>exact hd
 | some v =>
   show (if v<0 then (v+(n:Int)).toNat else min v.toNat n)≤n
   by_cases hv:v<0
   · rw [if_pos hv]; omega
   · rw [if_neg hv]; exact Nat.min_le_right _ _
theorem b10 (v:Int) (n d:Nat):(if v<0 then max (v+(n:Int)) 0 else min v (n:Int))=((sIx n d (some v):Nat):Int):=by
 show (if v<0 then max (v+(n:Int)) 0 else min v (n:Int))=(((if v<0 then (v+(n:Int)).toNat else min v.toNat n):Nat):Int)
 by_cases hv:v<0
 · simp only [if_pos hv]; omega
 · simp only [if_neg hv]; omega
theorem ay1 (lo hi:Option Int) (n:Nat):Builtin.Slice.sliceAdjust lo hi 1 (n:Int)=(((sIx n 0 lo:Nat):Int),((sIx n n hi:Nat):Int)):=by
 have h1:¬ ((1:Int)<0):=by omega
 unfold Builtin.Slice.sliceAdjust
 simp only [h1,if_false]
 refine Prod.ext ?_ ?_
 · cases lo with
   | none=>rfl
   | some v=>exact b10 v n 0
 · cases hi with
   | none=>rfl
   | some v=>exact b10 v n n
theorem ay2 (i j:Nat):Builtin.Slice.slicePlaces (i:Int) (j:Int) 1=j - i:=by
 unfold Builtin.Slice.slicePlaces
 have h1:(1:Int) > 0:=by omega
 simp only [h1,if_true,Int.ediv_one]
 split <;> omega
theorem aj4 {v:Value}{o:Option Int}{Q:Option Int→Shared→Prop}(p:IsPart v o) (h:Q o s):wpAny (model prog w) A (Builtin.Slice.slicePartIndex v) Q E s:=by
 cases p with
 | none=>exact slicePart_none h
 | int i t=>exact slicePart_int h
theorem sliceApplied_gen {sl:Addr}{vl vu:Value}{lo hi:Option Int}{n:Nat}{Q:Int×Int×Nat→Shared→Prop}(hs:s.heap.IsSliceOf sl vl vu .none) (pl:IsPart vl lo) (pu:IsPart vu hi)
 (h:Q (((sIx n 0 lo:Nat):Int),1,sIx n n hi - sIx n 0 lo) s):wpAny (model prog w) A (Builtin.Slice.sliceApplied (.ref sl) (pure (n:Int))) Q E s:=by
 obtain ⟨os,hos,hcs,hds⟩:=id hs
 unfold Builtin.Slice.sliceApplied Builtin.Slice.sliceFields
 refine wpAny_bind (wpAny_bind (wpAny_field hos hds (x:=vl) rfl (wpAny_bind (wpAny_field hos hds (x:=vu) rfl (wpAny_bind (wpAny_field hos hds (x:=.none) rfl (wpAny_pure ?_)))))))
 refine wpAny_bind (slicePart_none ?_)
 show wpAny _ _ (if ((1:Int) == 0)=true then _ else _) _ _ s
 rw [if_neg (by decide)]
 refine wpAny_bind (aj4 pl (wpAny_bind (aj4 pu (wpAny_bind (wpAny_pure ?_)))))
 show wpAny _ _ (match Builtin.Slice.sliceAdjust lo hi 1 (n:Int) with | (lo,hi)=>pure (lo,(1:Int),Builtin.Slice.slicePlaces lo hi 1)) _ _ s
 rw [ay1 lo hi n]
 show wpAny _ _ (pure (((sIx n 0 lo:Nat):Int),(1:Int),Builtin.Slice.slicePlaces ((sIx n 0 lo:Nat):Int) ((sIx n n hi:Nat):Int) 1)) _ _ s
 rw [ay2]
 exact wpAny_pure h
theorem b81 (xs:Array Value) (i k:Nat):((List.range k).filterMap fun (m:Nat)=>xs[((i:Int)+(m:Int)*1).toNat]?).toArray=((xs.toList.drop i).take k).toArray:=by
 have e:(fun (m:Nat)=>xs[((i:Int)+(m:Int)*1).toNat]?)=fun m=>xs[i+m]?:=by
  funext m
  have:((i:Int)+(m:Int)*1).toNat=i+m:=by omega
  rw [this]
 rw [e]
 have:=pick_run xs i k
 rw [List.filterMap_map] at this
 have e2:((fun x=>xs[x]?)∘fun x=>i+x)=fun m=>xs[i+m]?:=rfl
 rw [e2] at this
 rw [this]
theorem getItem_tuple_cut {t sl:Addr}{items:Array Value}{vl vu:Value}{lo hi:Option Int}{Q:Value→Shared→Prop}(ht:IsTup s.heap t items) (hs:s.heap.IsSliceOf sl vl vu .none) (pl:IsPart vl lo) (pu:IsPart vu hi)
 (hw:¬ (sIx items.size 0 lo=0∧sIx items.size items.size hi=items.size))
 (h:Q (.ref s.heap.objs.size) { s with heap:=s.heap.push { cls:=.type "tuple",data:=.seq ((items.toList.drop (sIx items.size 0 lo)).take (sIx items.size items.size hi - sIx items.size 0 lo)).toArray } })
 (hsz:items.size≤sizeLine):wpAny (model prog w) A (getItem (.ref t) (.ref sl)) Q E s:=by
 have htake:sizeOk (.seq ((items.toList.drop (sIx items.size 0 lo)).take (sIx items.size items.size hi - sIx items.size 0 lo)).toArray):=by
  show ((items.toList.drop (sIx items.size 0 lo)).take (sIx items.size items.size hi - sIx items.size 0 lo)).toArray.size≤sizeLine
  rw [List.size_toArray,List.length_take,List.length_drop,Array.length_toList]
  omega
 have hj:sIx items.size items.size hi≤items.size:=bq1 _ _ (Nat.le_refl _) hi
 obtain ⟨os,hos,hcs,hds⟩:=id hs
 have hTs:s.TypeIs (.ref sl) "slice":=⟨os,hos,hcs⟩
 unfold getItem
 try with_reducible refine wpAny_holding ?_
 first | refine wpAny_bind (wpAny_pure ?_) | skip
 refine wpAny_bind (wpAny_sequenceKey ht.typeIs (by decide) ?_)
 refine wpAny_bind (wpAny_callSpecial?_slot (name:=Str.ofString "__getitem__") ht.typeIs PyProof.Rows.slot_tuple_getitem
  (wpAny_call_entry PyProof.Rows.slot_tuple_getitem ht.typeIs entry_tuple_getitem ?_ (args_tuple_getitem _ _)))
 show wpAny _ _ (Builtin.Tuple.tupleItemsOf (.ref t) >>= _) _ _ s
 refine wpAny_bind (tupleItemsOf_ ht ?_)
 refine wpAny_bind (wpAny_typeOf hTs ?_)
 rw [if_pos (by decide)]
 refine wpAny_bind (sliceApplied_gen hs pl pu ?_)
 have hno:¬ ((((sIx items.size 0 lo:Nat):Int) == 0 && (1:Int) == 1 && (sIx items.size items.size hi - sIx items.size 0 lo) == items.size)=true):=by
  intro q
  rw [Bool.and_eq_true,Bool.and_eq_true] at q
  have q1:((sIx items.size 0 lo:Nat):Int)=0:=eq_of_beq q.1.1
  have q2:sIx items.size items.size hi - sIx items.size 0 lo=items.size:=eq_of_beq q.2
  exact hw ⟨by omega,by omega⟩
 show wpAny _ _ (if (((sIx items.size 0 lo:Nat):Int) == 0 && (1:Int) == 1 && (sIx items.size items.size hi - sIx items.size 0 lo) == items.size)=true then _ else _) _ _ s
 rw [if_neg hno,b81]
 first
  | exact wpAny_bind (m:=Builtin.Tuple.tupleExact _) (wpAny_newObj_type (wpAny_pure ⟨_,rfl,wpAny_pure h⟩) htake)
  | exact wpAny_bind (m:=Builtin.Tuple.tupleExact _) (wpAny_newObj_type (wpAny_bind (wpAny_pure (wpAny_pure ⟨_,rfl,wpAny_pure h⟩))) htake)
  | exact wpAny_bind (wpAny_bind (m:=Builtin.Tuple.tupleExact _) (wpAny_newObj_type (wpAny_pure (wpAny_pure ⟨_,rfl,wpAny_pure h⟩)) htake))
  | exact wpAny_bind (wpAny_bind (m:=Builtin.Tuple.tupleExact _) (wpAny_newObj_type (wpAny_pure ⟨_,rfl,wpAny_pure h⟩) htake))
end
end HT
namespace L2
open PySem PySem.Spec PyProof.Rows
abbrev TO:=St→Hp→(Option Int→Hp→Prop)→Prop
def PO (X:Cx) (e:Option Expr) (t:TO):Prop :=
 ∀ (pins:List (Addr×Obj)) (s:Shared) (σ:St) (H:Hp) (Q:Option Int→Hp→Prop),Inv X pins σ H s→t σ H Q →
  wpAny (model X.prog X.w) X.A (evalPart e X.env) (fun u s'=>∃ o H',Inv X pins σ H' s'∧IsPart u o∧Q o H') X.xe s
def b11:TO:=fun _ H Q=>Q none H
def bq2 (t:TE):TO:=fun σ H Q=>t σ H fun x H1=>∃ i,x=.int i∧Q (some i) H1
section
variable {X:Cx}{e:Expr}{te:TE}{lo hi:Option Expr}{tl th:TO}{pos p2:Pos}
theorem ac3:PO X none b11:=by
 intro pins s σ H Q I h
 rw [evalPart_none]
 exact wpAny_pure ⟨none,H,I,.none,h⟩
theorem a84 (h:PE X e te):PO X (some e) (bq2 te):=by
 intro pins s σ H Q I hw
 rw [evalPart_some]
 refine thn (h pins s σ H _ I hw) ?_
 rintro u s1 ⟨x,H1,I1,r1,q1⟩
 obtain ⟨i,rfl,q⟩:=q1
 obtain ⟨t,rfl⟩:=r1
 exact ⟨some i,H1,I1,.int i t,q⟩
def SlR (X:Cx) (r:V→Option Int→Option Int→Hp→VK→Prop):Prop :=
 ∀ (pins:List (Addr×Obj)) (s:Shared) (σ:St) (H:Hp) (x:V) (v vl vu:Value) (lo hi:Option Int) (sl:Addr) (Q:VK),Inv X pins σ H s→RelV x v→s.heap.IsSliceOf sl vl vu .none→IsPart vl lo→IsPart vu hi→r x lo hi H Q →
  ∃ T id,typeLookup (.type T) "__getitem__"=pure (some (.builtin id))∧s.TypeIs v T∧wpAny (model X.prog X.w) X.A (getItem v (.ref sl)) (EP X pins σ Q) X.xe s
def tSl (r:V→Option Int→Option Int→Hp→VK→Prop) (te:TE) (tl th:TO):TE:=fun σ H Q=>te σ H fun x H1=>tl σ H1 fun l H2=>th σ H2 fun u H3=>r x l u H3 Q
theorem a70 {r:V→Option Int→Option Int→Hp→VK→Prop}(hr:SlR X r) (he:PE X e te) (hl:PO X lo tl) (hu:PO X hi th):PE X (.Subscript e (.Slice lo hi none p2) pos) (tSl r te tl th):=by
 intro pins s σ H Q I h
 refine Subscript_ (thn (he pins s σ H _ I h) ?_)
 rintro v s1 ⟨x,H1,I1,r1,q1⟩
 refine wpAny_Slice (thn (hl pins s1 σ H1 _ I1 q1) ?_)
 rintro vl s2 ⟨l,H2,I2,pl,q2⟩
 refine thn (hu pins s2 σ H2 _ I2 q2) ?_
 rintro vu s3 ⟨u,H3,I3,pu,q3⟩
 rw [evalPart_none]
 refine wpAny_pure ?_
 have I4:Inv X pins σ H3 { s3 with heap:=s3.heap.push { cls:=.type "slice",data:=.fields #[vl,vu,.none] } }:=I3.kept (t':=s3.toks) fun b ob q=>Heap.get?_push_of_some _ q
 obtain ⟨T,id,hT,ht,hg⟩:=hr pins { s3 with heap:=s3.heap.push { cls:=.type "slice",data:=.fields #[vl,vu,.none] } } σ H3 x v vl vu l u s3.heap.objs.size Q I4 r1 (Heap.IsSliceOf.new ..) pl pu q3
 show wpAny (model X.prog X.w) X.A (subscriptTail e (.Slice lo hi none p2) v (.ref s3.heap.objs.size)) (EP X pins σ Q) X.xe { s3 with heap:=s3.heap.push { cls:=.type "slice",data:=.fields #[vl,vu,.none] } }
 exact tail_any (ops:=[.ref s3.heap.objs.size,v]) ht hT hg (by with_unfolding_all rfl)
def cutV (xs:List V) (lo hi:Option Int):List V:=(xs.drop (HT.sIx xs.length 0 lo)).take (HT.sIx xs.length xs.length hi - HT.sIx xs.length 0 lo)
theorem a65 (xs:List V) (lo hi:Option Int):(cutV xs lo hi).length≤xs.length:=by
 unfold cutV
 rw [List.length_take,List.length_drop]
 omega
def rSlT (K:PySem.W.Frag):V→Option Int→Option Int→Hp→VK→Prop:=fun x lo hi H Q=>∃ a xs,x=.ref a∧SqT K H a xs ∧
 ¬ (HT.sIx xs.length 0 lo=0∧HT.sIx xs.length xs.length hi=xs.length)∧∀ p,H p=none→Q (.ref p) (upd H p (.tup (cutV xs lo hi)))
theorem bq3:SlR X (rSlT X.K):=by
 intro pins s σ H x v vl vu lo hi sl Q I rx hs pl pu h
 obtain ⟨a,xs,rfl,hx,hw,q⟩:=h
 cases rx
 obtain ⟨its,r,ht,hz⟩:=I.tuple hx
 have hlen:its.toArray.size=xs.length:=by rw [List.size_toArray]; exact r.length.symm
 refine ⟨"tuple",_,PyProof.Rows.slot_tuple_getitem.lookup,ht.typeIs,?_⟩
 refine HT.getItem_tuple_cut ht hs pl pu (by rw [hlen]; exact hw) ?_ (by rw [hlen]; exact hz)
 rw [hlen]
 refine ⟨.ref s.heap.objs.size,_,I.laid (t':=s.toks) (o:=.tup (cutV xs lo hi)) (fun b ob q=>Heap.get?_push_of_some _ q) (Nat.le_refl _) ?_,rfl,q _ (I.hok.fresh (Nat.le_refl _))⟩
 exact ⟨Nat.le_trans (a65 xs lo hi) hz,_,(r.drop (HT.sIx xs.length 0 lo)).take (HT.sIx xs.length xs.length hi - HT.sIx xs.length 0 lo),IsTup.new _ _⟩
theorem Vals.nil_iff {xs:List V}{us:List Value}(r:Vals xs us):us=[]↔xs=[]:=by
 cases r with
 | nil=>simp
 | cons _ _=>simp
end
def ixN (n:Nat) (i:Int):Option Nat:=if 0≤i then (if i<n then some i.toNat else none) else if -(n:Int)≤i then some (i+n).toNat else none
def atI {α:Type}(xs:List α) (i:Int):Option α:=(ixN xs.length i).bind fun j=>xs[j]?
theorem bg9 {n:Nat}{i:Int}{j:Nat}(h:ixN n i=some j):seqIndex? i n=some j∧j<n∧-(n:Int)≤i∧i<n:=by
 unfold ixN at h
 by_cases h0:0≤i
 · rw [if_pos h0] at h
   by_cases h1:i<n
   · rw [if_pos h1] at h
     have e:i.toNat=j:=Option.some.inj h
     exact ⟨by rw [seqIndex_of h0 h1,e],by omega,by omega,h1⟩
   · rw [if_neg h1] at h; cases h
 · rw [if_neg h0] at h
   by_cases h1:-(n:Int)≤i
   · rw [if_pos h1] at h
     have e:(i+n).toNat=j:=Option.some.inj h
     exact ⟨by rw [seqIndex_neg (by omega) h1,e],by omega,h1,by omega⟩
   · rw [if_neg h1] at h; cases h
theorem as5 {α:Type}{xs:List α}{i:Int}{v:α}(h:atI xs i=some v):∃ j,seqIndex? i xs.length=some j∧xs[j]?=some v∧j<xs.length∧-(xs.length:Int)≤i∧i<xs.length:=by
 unfold atI at h
 cases e:ixN xs.length i with
 | none=>rw [e] at h; cases h
 | some j =>
   rw [e] at h
   obtain ⟨h1,h2,h3,h4⟩:=bg9 e
   exact ⟨j,h1,h,h2,h3,h4⟩
theorem a05 {α:Type}{xs:List α}{j:Nat}{v:α}(h:xs[j]?=some v):atI xs (j:Int)=some v:=by
 have hj:j<xs.length:=(List.getElem?_eq_some_iff.mp h).1
 have e:ixN xs.length (j:Int)=some j:=by
  unfold ixN
  rw [if_pos (by omega),if_pos (by omega)]; simp
 unfold atI; rw [e]; exact h
theorem b82 {α:Type}(xs:List α) (v:α):atI (xs++[v]) (-1)=some v:=by
 have hl:(xs++[v]).length=xs.length+1:=by simp
 have e:ixN (xs++[v]).length (-1)=some xs.length:=by
  unfold ixN
  rw [hl,if_neg (by decide),if_pos (by omega)]
  congr 1
  omega
 unfold atI
 rw [e]
 show (xs++[v])[xs.length]?=some v
 simp
def bh0 (b:Expr):Prop:=∀ o i,subscripted b false o i=operate [o,i] (getItem o i)
def IxR (X:Cx) (r:R2):Prop :=
 ∀ (value slice:Expr) (pins:List (Addr×Obj)) (s:Shared) (σ:St) (H:Hp) (x y:V) (v u:Value) (Q:VK),Inv X pins σ H s→RelV x v→RelV y u→r x y H Q →
  subscripted slice false v u=operate [v,u] (getItem v u)→wpAny (model X.prog X.w) X.A (subscriptTail value slice v u) (EP X pins σ Q) X.xe s
def MtR (X:Cx) (id:String) (r:V→List V→Hp→VK→Prop):Prop :=
 ∀ (pins:List (Addr×Obj)) (s:Shared) (σ:St) (H:Hp) (x:V) (xs:List V) (v:Value) (us:List Value) (Q:VK),Inv X pins σ H s→RelV x v→Vals xs us→r x xs H Q →
  wpAny (model X.prog X.w) X.A (call (.builtin id) (v::us)) (EP X pins σ Q) X.xe s
section
variable {X:Cx}{a b:Expr}{ta tb:TE}{pos:Pos}
theorem IxR.or {r r':R2}(h:IxR X r) (h':IxR X r'):IxR X (fun x y H Q=>r x y H Q∨r' x y H Q):=by
 intro value slice pins s σ H x y v u Q I rx ry q hs
 rcases q with q | q
 · exact h value slice pins s σ H x y v u Q I rx ry q hs
 · exact h' value slice pins s σ H x y v u Q I rx ry q hs
theorem a22 {r:R2}(hr:IxR X r) (ha:PE X a ta) (hb:PE X b tb) (hs:bh0 b):PE X (.Subscript a b pos) (tOp r ta tb):=by
 intro pins s σ H Q I h
 exact Subscript_ (binT ha hb I h fun v u s2 x y H2 I2 rx ry q=>hr a b pins s2 σ H2 x y v u Q I2 rx ry q (hs _ _))
def rIxL (K:PySem.W.Frag):R2:=fun x y H Q=>∃ p xs i v,x=.ref p∧y=.int i∧SqL K H p xs∧atI xs i=some v∧Q v H
def rIxT (K:PySem.W.Frag):R2:=fun x y H Q=>∃ p xs i v,x=.ref p∧y=.int i∧SqT K H p xs∧atI xs i=some v∧Q v H
def rIxS:R2:=fun x y H Q=>∃ z i c,x=.str z∧y=.int i∧z.length≤sizeLine∧atI z.cps.toList i=some c∧Q (.str ⟨#[c]⟩) H
theorem ix_list:IxR X (rIxL X.K):=by
 intro value slice pins s σ H x y v u Q I rx ry h hs
 obtain ⟨p,xs,i,z,rfl,rfl,hq,he,q⟩:=h
 cases rx
 obtain ⟨t,rfl⟩:=ry
 obtain ⟨its,r,pl,hz⟩:=I.list hq
 obtain ⟨j,h1,h2,h3,h4,h5⟩:=as5 he
 obtain ⟨w,ew,rw'⟩:=r.get h2
 have hl:=r.length
 have hn:=an8
 have fin:EP X pins σ Q w s:=⟨z,H,I,rw',q⟩
 by_cases h0:0≤i
 · have hj:i.toNat=j:=by
    rw [seqIndex_of h0 h5] at h1
    exact Option.some.inj h1
   exact item_listR pl.isList h0 (by omega) (by rw [hj]; simpa using ew) fin hs
 · have hj:(i+(its.toArray.size:Int)).toNat=j:=by
    rw [seqIndex_neg (by omega) h4] at h1
    rw [List.size_toArray,←hl]
    exact Option.some.inj h1
   exact subscriptTail_builtinR (x:=w) pl.isList.typeIs slot_list_getitem.lookup
    (wpAny_getItem_list_neg (Q:=fun r s'=>r=w∧EP X pins σ Q r s') pl.isList (by omega) (by rw [List.size_toArray] <;> omega) (by omega) (by rw [hj]; simpa using ew) ⟨rfl,fin⟩) hs
theorem ix_tup:IxR X (rIxT X.K):=by
 intro value slice pins s σ H x y v u Q I rx ry h hs
 obtain ⟨p,xs,i,z,rfl,rfl,hq,he,q⟩:=h
 cases rx
 obtain ⟨t,rfl⟩:=ry
 obtain ⟨its,r,pl,hz⟩:=I.tuple hq
 obtain ⟨j,h1,h2,h3,h4,h5⟩:=as5 he
 obtain ⟨w,ew,rw'⟩:=r.get h2
 have hl:=r.length
 have hn:=an8
 have fin:EP X pins σ Q w s:=⟨z,H,I,rw',q⟩
 exact subscriptTail_builtinR (x:=w) pl.typeIs slot_tuple_getitem.lookup
  (getItem_tuple (j:=j) (Q:=fun r s'=>r=w∧EP X pins σ Q r s') pl (by omega) (by omega) (by rw [List.size_toArray,←hl]; exact h1) (by simpa using ew) ⟨rfl,fin⟩) hs
theorem bq4:IxR X rIxS:=by
 intro value slice pins s σ H x y v u Q I rx ry h hs
 obtain ⟨z,i,c,rfl,rfl,hz,he,q⟩:=h
 obtain ⟨t,rfl⟩:=rx
 obtain ⟨t',rfl⟩:=ry
 obtain ⟨j,h1,h2,h3,h4,h5⟩:=as5 he
 have hl:z.cps.toList.length=z.length:=by simp [Str.length]
 rw [hl] at h1 h4 h5
 have hn:=an8
 exact tail_any (typeIs_str s z t) slot_str_getitem.lookup (getItem_str (c:=c) (by
  have e1:decide (i < -(2 ^ 63:Int))=false:=decide_eq_false (by omega)
  have e2:decide (i ≥ 2 ^ 63)=false:=decide_eq_false (by omega)
  rw [e1,e2,Bool.or_false]) (by rw [h1]; simpa using h2) ⟨.str ⟨#[c]⟩,H,I.tok _,⟨_,rfl⟩,q⟩) hs
def rIx (K:PySem.W.Frag):R2:=fun x y H Q=>rIxL K x y H Q∨rIxT K x y H Q∨rIxS x y H Q
theorem bq5:IxR X (rIx X.K):=ix_list.or (ix_tup.or bq4)
theorem ao4 (lo hi:Option Int) (n:Nat):(sliceBounds lo hi none n).1=((HT.sIx n 0 lo:Nat):Int)∧(sliceBounds lo hi none n).2.1=((HT.sIx n n hi:Nat):Int)∧(sliceBounds lo hi none n).2.2=1:=by
 refine ⟨?_,?_,rfl⟩
 · cases lo with
   | none=>simp [sliceBounds,HT.sIx]
   | some i =>
     simp only [sliceBounds,HT.sIx,Option.getD_none,show (1:Int) > 0 by decide,if_true]
     by_cases h:i<0
     · simp only [h,if_true] <;> omega
     · simp only [h,if_false] <;> omega
 · cases hi with
   | none=>simp [sliceBounds,HT.sIx]
   | some i =>
     simp only [sliceBounds,HT.sIx,Option.getD_none,show (1:Int) > 0 by decide,if_true]
     by_cases h:i<0
     · simp only [h,if_true] <;> omega
     · simp only [h,if_false] <;> omega
theorem ak7 (its:List Value) (lo hi:Option Int):slicePick its.toArray lo hi none=((its.drop (HT.sIx its.length 0 lo)).take (HT.sIx its.length its.length hi - HT.sIx its.length 0 lo)).toArray:=by
 obtain ⟨h1,h2,h3⟩:=ao4 lo hi its.toArray.size
 unfold slicePick
 rw [h1,h2,h3]
 simp only [sliceRange_one,pick_run,List.size_toArray] <;> rfl
def rSlL (K:PySem.W.Frag):V→Option Int→Option Int→Hp→VK→Prop:=fun x lo hi H Q=>∃ a xs,x=.ref a∧SqL K H a xs∧∀ p,H p=none→Q (.ref p) (upd H p (.lst (cutV xs lo hi)))
theorem bh1:SlR X (rSlL X.K):=by
 intro pins s σ H x v vl vu lo hi sl Q I rx hs pl pu h
 obtain ⟨a,xs,rfl,hx,q⟩:=h
 cases rx
 obtain ⟨its,r,ht,hz⟩:=I.list hx
 have hlen:=r.length
 refine ⟨"list",_,slot_list_getitem.lookup,ht.isList.typeIs,?_⟩
 refine wpAny_getItem_list_slice ht.isList hs pl pu .none (by simp) ?_ (by rw [List.size_toArray] <;> omega)
 rw [ak7,←hlen]
 refine ⟨.ref s.heap.objs.size,_,I.laid (t':=s.toks) (o:=.lst (cutV xs lo hi)) (fun b ob q=>Heap.get?_push_of_some _ q) (Nat.le_refl _) ?_,rfl,q _ (I.hok.fresh (Nat.le_refl _))⟩
 exact ⟨Nat.le_trans (a65 xs lo hi) hz,_,0,(r.drop (HT.sIx xs.length 0 lo)).take (HT.sIx xs.length xs.length hi - HT.sIx xs.length 0 lo),Heap.get?_push_size _ rfl⟩
def ad7:V→Bool
 | .non=>true
 | .bl _=>true
 | .int _=>true
 | .str _=>true
 | _=>false
def eqV:V→V→Bool
 | .non,.non=>true
 | .bl a,.bl b=>a == b
 | .bl a,.int b=>(if a then 1 else 0) == b
 | .int a,.bl b=>a == (if b then 1 else 0)
 | .int a,.int b=>a == b
 | .str a,.str b=>a == b
 | _,_=>false
theorem bq6 {A:Around}{s:Shared}{y x:V}{u v:Value}(ry:RelV y u) (rx:RelV x v) (fy:ad7 y=true) (fx:ad7 x=true):SeqAt.EqAt A s u v (eqV y x):=by
 cases y with
 | non =>
   cases ry
   cases x with
   | non=>cases rx; exact SeqAt.EqAt.same _
   | bl b=>cases rx; exact SeqAt.EqAt.none_bool b
   | int b=>obtain ⟨t,rfl⟩:=rx; exact SeqAt.EqAt.none_int b t
   | str b=>obtain ⟨t,rfl⟩:=rx; exact SeqAt.EqAt.none_str b t
   | _=>exact absurd (show false=true from fx) Bool.false_ne_true
 | bl a =>
   cases ry
   cases x with
   | non=>cases rx; exact SeqAt.EqAt.bool_none a
   | bl b=>cases rx; exact SeqAt.EqAt.bool_bool a b
   | int b=>obtain ⟨t,rfl⟩:=rx; exact SeqAt.EqAt.bool_int a b t
   | str b=>obtain ⟨t,rfl⟩:=rx; exact SeqAt.EqAt.bool_str a b t
   | _=>exact absurd (show false=true from fx) Bool.false_ne_true
 | int a =>
   obtain ⟨t',rfl⟩:=ry
   cases x with
   | non=>cases rx; exact SeqAt.EqAt.int_none a t'
   | bl b=>cases rx; exact SeqAt.EqAt.int_bool a t' b
   | int b=>obtain ⟨t,rfl⟩:=rx; exact SeqAt.EqAt.int_int a t' b t
   | str b=>obtain ⟨t,rfl⟩:=rx; exact SeqAt.EqAt.int_str a t' b t
   | _=>exact absurd (show false=true from fx) Bool.false_ne_true
 | str a =>
   obtain ⟨t',rfl⟩:=ry
   cases x with
   | non=>cases rx; exact SeqAt.EqAt.str_none a t'
   | bl b=>cases rx; exact SeqAt.EqAt.str_bool a t' b
   | int b=>obtain ⟨t,rfl⟩:=rx; exact SeqAt.EqAt.str_int a t' b t
   | str b=>obtain ⟨t,rfl⟩:=rx; exact SeqAt.EqAt.str_str a t' b t
   | _=>exact absurd (show false=true from fx) Bool.false_ne_true
 | _=>exact absurd (show false=true from fy) Bool.false_ne_true
def eqU (x:V) (u:Value):Bool:=match u with
 | .none=>eqV .non x
 | .bool b=>eqV (.bl b) x
 | .int i _=>eqV (.int i) x
 | .str z _=>eqV (.str z) x
 | _=>false
theorem bd5 {x y:V}{u:Value}(r:RelV y u) (f:ad7 y=true):eqU x u=eqV y x:=by
 cases y with
 | non=>cases r; rfl
 | bl b=>cases r; rfl
 | int i=>obtain ⟨t,rfl⟩:=r; rfl
 | str z=>obtain ⟨t,rfl⟩:=r; rfl
 | _=>exact absurd (show false=true from f) Bool.false_ne_true
theorem as6 {x:V}:∀ {xs:List V}{us:List Value},Vals xs us→xs.all ad7=true→us.any (eqU x)=xs.any fun y=>eqV y x
 | _,_,.nil,_=>rfl
 | y::xs,u::us,.cons r t,f=>by
   rw [List.all_cons,Bool.and_eq_true] at f
   rw [List.any_cons,List.any_cons,bd5 r f.1,as6 t f.2]
theorem af6 {A:Around}{s:Shared}{x:V}{v:Value}(rx:RelV x v) (fx:ad7 x=true):∀ {xs:List V}{us:List Value},Vals xs us→xs.all ad7=true→∀ u∈us,SeqAt.EqAt A s u v (eqU x u)
 | _,_,.nil,_=>fun u hu=>by cases hu
 | y::xs,u::us,.cons r t,f=>fun u' hu=>by
   rw [List.all_cons,Bool.and_eq_true] at f
   rcases List.mem_cons.mp hu with rfl | hu
   · rw [bd5 r f.1]; exact bq6 r rx f.1 fx
   · exact af6 rx fx t f.2 u' hu
def inV (x:V) (xs:List V):Bool:=xs.any fun y=>eqV y x
def rIn (K:PySem.W.Frag) (neg:Bool):R2:=fun x y H Q=>∃ p xs,y=.ref p∧(SqL K H p xs∨SqT K H p xs)∧ad7 x=true∧xs.all ad7=true∧Q (.bl (if neg then !inV x xs else inV x xs)) H
theorem b12:OpR X (compareOp .In) (rIn X.K false):=by
 intro pins s σ H x y v u Q I rx ry h
 obtain ⟨p,xs,rfl,hq,fx,fs,q⟩:=h
 cases ry
 rcases hq with hq | hq
 · obtain ⟨its,r,pl,hz⟩:=I.list hq
   refine SeqAt.in_listAt (eqU x) pl.isList (fun w hw=>af6 rx fx r fs w (by simpa using hw)) ⟨.bl _,H,I,rfl,?_⟩
   rw [show its.toArray.any (eqU x)=its.any (eqU x) by simp,as6 r fs]
   exact q
 · obtain ⟨its,r,pl,hz⟩:=I.tuple hq
   refine SeqAt.in_tupleAt (eqU x) pl (fun w hw=>af6 rx fx r fs w (by simpa using hw)) ⟨.bl _,H,I,rfl,?_⟩
   rw [show its.toArray.any (eqU x)=its.any (eqU x) by simp,as6 r fs]
   exact q
theorem ao5:CallR X (.type "list") (fun xs H Q=>∃ p ys,xs=[.ref p]∧(SqL X.K H p ys∨SqT X.K H p ys)∧∀ l,H l=none→Q (.ref l) (upd H l (.lst ys))):=by
 intro pins s σ H xs us Q I r h
 obtain ⟨p,ys,rfl,hq,q⟩:=h
 obtain ⟨u,rfl,rx⟩:=ax6 r
 cases rx
 have fin:∀ (its:List Value),Vals ys its→ys.length≤sizeLine→∀ (h':Heap) (c':Nat),(∀ b o',s.heap.get? b=some o'→h'.get? b=some o') →
  h'.get? s.heap.objs.size=some { cls:=.type "list",dict:=none,data:=.seq its.toArray c',slots:=#[] }→EP X pins σ Q (.ref s.heap.objs.size) { s with heap:=h' }:=fun its r' hz h' c' kp e =>
  ⟨.ref s.heap.objs.size,_,I.laid (t':=s.toks) kp (Nat.le_refl _) (show ObjOk X.prog X.w _ h' _ (.lst ys) from ⟨hz,its,c',r',e⟩),rfl,q _ (I.hok.fresh (Nat.le_refl _))⟩
 rcases hq with hq | hq
 · obtain ⟨its,r',pl,hz⟩:=I.list hq
   have hlen:=r'.length
   obtain ⟨o,ho,hc,n,hd⟩:=pl.isList
   exact call_list_seq p (.inl rfl) ho hc hd (fun h' c' kp e=>fin its r' hz h' c' kp e) (by simp only [List.size_toArray] <;> omega)
 · obtain ⟨its,r',pl,hz⟩:=I.tuple hq
   have hlen:=r'.length
   obtain ⟨o,ho,hc,n,hd⟩:=pl
   exact call_list_seq p (.inr rfl) ho hc hd (fun h' c' kp e=>fin its r' hz h' c' kp e) (by simp only [List.size_toArray] <;> omega)
theorem ak8:CallR X (.type "tuple") (fun xs H Q=>∃ p ys,xs=[.ref p]∧((SqL X.K H p ys∧∀ l,H l=none→Q (.ref l) (upd H l (.tup ys)))∨(SqT X.K H p ys∧Q (.ref p) H))):=by
 intro pins s σ H xs us Q I r h
 obtain ⟨p,ys,rfl,h⟩:=h
 obtain ⟨u,rfl,rx⟩:=ax6 r
 cases rx
 rcases h with ⟨hq,q⟩ | ⟨hq,q⟩
 · obtain ⟨its,r',pl,hz⟩:=I.list hq
   have hlen:=r'.length
   refine call_tuple_list pl.isList (fun h' kp=>?_) (by simp only [List.size_toArray] <;> omega)
   have I1:Inv X pins σ H { s with heap:=h' }:=I.kept (t':=s.toks) kp
   have I2:Inv X pins σ (upd H h'.objs.size (.tup ys)) { s with heap:=h'.push { cls:=.type "tuple",data:=.seq its.toArray } } :=
    I1.laid (t':=s.toks) (fun b o e=>Heap.get?_push_of_some _ e) (Nat.le_refl _) (show ObjOk X.prog X.w _ _ _ (.tup ys) from ⟨hz,its,r',IsTup.new _ _⟩)
   exact ⟨.ref h'.objs.size,_,I2,rfl,q _ (I1.hok.fresh (Nat.le_refl _))⟩
 · obtain ⟨its,r',pl,hz⟩:=I.tuple hq
   exact call_tuple_same pl ⟨.ref p,H,I,rfl,q⟩
def tyV (K:PySem.W.Frag) (T:String) (x:V) (H:Hp):Prop:=match x with
 | .str _=>T="str"
 | .int _=>T="int"
 | .ref p=>(T="list"∧∃ xs,SqL K H p xs)∨(T="tuple"∧∃ o,K.lookup p=some o∧o.cls=.type "tuple"∧o.dict=none) ∨
  (T="dict"∧((∃ kvs,H p=some (.dK kvs))∨∃ kvs,H p=some (.dT kvs)))∨(T="set"∧∃ S n,H p=some (.set S n))
 | _=>False
theorem bq7 {pins:List (Addr×Obj)}{σ:St} {H:Hp}{s:Shared}{T:String}{x:V}{v:Value}(I:Inv X pins σ H s) (r:RelV x v) (ty:tyV X.K T x H) :
 s.TypeIs v T∧∀ a,v=.ref a→∃ ob,s.heap.get? a=some ob∧ob.dict=none:=by
 cases x with
 | str z =>
   obtain ⟨t,rfl⟩:=r
   cases (show T="str" from ty)
   exact ⟨typeIs_str s z t,fun _ e=>nomatch e⟩
 | int i =>
   obtain ⟨t,rfl⟩:=r
   cases (show T="int" from ty)
   exact ⟨typeIs_int s i t,fun _ e=>nomatch e⟩
 | ref p =>
   cases r
   rcases ty with ⟨rfl,xs,hq⟩ | ⟨rfl,o,hk,hc,hd⟩ | ⟨rfl,hk⟩ | ⟨rfl,S,n,hk⟩
   · obtain ⟨its,_,pl,_⟩:=I.list hq
     refine ⟨pl.isList.typeIs,fun a e=>?_⟩
     cases e
     obtain ⟨o,n,e,c,hd,_⟩:=pl
     exact ⟨o,e,hd⟩
   · refine ⟨⟨o,I.kIn p o hk,hc⟩,fun a e=>?_⟩
     cases e
     exact ⟨o,I.kIn _ o hk,hd⟩
   · have z:∃ o,s.heap.get? p=some o∧o.ExactDict:=by
      rcases hk with ⟨kvs,hk⟩ | ⟨kvs,hk⟩
      · obtain ⟨_,_,_,_,o,_,_,e,ex,_⟩:=I.hok p _ hk
        exact ⟨o,e,ex⟩
      · obtain ⟨_,_,_,_,o,_,_,e,ex,_⟩:=I.hok p _ hk
        exact ⟨o,e,ex⟩
     obtain ⟨o,e,ex⟩:=z
     refine ⟨⟨o,e,ex.1⟩,fun a e2=>?_⟩
     cases e2
     exact ⟨o,e,ex.2.1⟩
   · obtain ⟨o,_,_,_,e,ex,_⟩:=I.hok p _ hk
     refine ⟨⟨o,e,ex.1⟩,fun a e2=>?_⟩
     cases e2
     exact ⟨o,e,ex.2.1⟩
 | _=>exact False.elim ty
def tBM (K:PySem.W.Frag) (T:String) (r:V→List V→Hp→VK→Prop) (to:TE) (t:TA):TE:=fun σ H Q=>to σ H fun x H1=>tyV K T x H1∧t σ H1 fun xs H2=>r x xs H2 Q
variable {o e:Expr}{es:List Expr}{to:TE}{t:TA}{name:Str}{apos cpos:Pos}{T id:String}{r:V→List V→Hp→VK→Prop}
theorem bz9 (pa:PlainAttrs T) (slot:Slot T name id) (hty:typeOf (.builtin id)=pure (.type "method_descriptor")) (hm:MtR X id r) (ho:PE X o to) (ha:PA X (e::es) t)
 (hbase:attributeBase o name X.env (eval o X.env)=eval o X.env:=by rfl)
 (hfew:((backTo cpos (starEach (e::es) X.env)).all (fun x=>!x.1) && (backToKw cpos (keywordEach [] X.env)).all (fun x=>x.1.isSome)
  && decide ((e::es).length+([]:List Keyword).length+(if ([]:List Keyword).isEmpty then 0 else 1)<30))=true:=by rfl)
 (hline:(apos.endLine == cpos.line)=true:=by rfl) (hs:starEach (e::es) X.env=(false,eval e X.env)::starEach es X.env:=by rfl) (hplain:(backTo cpos (starEach es X.env)).any (·.1)=false:=by rfl) :
 PE X (.Call (.Attribute o name apos) (e::es) [] cpos) (tBM X.K T r to t):=by
 intro pins s σ H Q I h
 refine wpAny_Call_method_late hbase hfew hline rfl (thn (ho pins s σ H _ I h) ?_)
 rintro v s1 ⟨x,H1,I1,r1,ty,q1⟩
 obtain ⟨h1,h2⟩:=bq7 I1 r1 ty
 refine ⟨T,id,pa,slot,hty,h1,h2,?_⟩
 have hA:=ha cpos pins s1 σ H1 _ I1 q1
 rw [hs] at hA ⊢
 refine Calls.callWith_builtin (by show (false || (backTo cpos (starEach es X.env)).any (·.1))=false; rw [hplain] <;> rfl) (Calls.evalArgs_plain ?_)
 exact thn hA (by rintro us s2 ⟨vs,H2,I2,r2,q2⟩; exact hm pins s2 σ H2 x vs v us Q I2 r1 r2 q2)
/- xs.append(e),list.index on a module's tuple .. are MtR facts of 06m -/
end
def MtM (X:Cx) (id:String) (r:V→List V→Hp→VK→Prop):Prop :=
 ∀ (pins:List (Addr×Obj)) (s:Shared) (σ:St) (H:Hp) (x:V) (xs:List V) (v:Value) (us:List Value) (Q:VK),Inv X pins σ H s→RelV x v→Vals xs us→r x xs H Q →
  wpAny (model X.prog X.w) X.A (call (.builtin id) (v::us)) (EP X pins σ Q) X.xe s
theorem Vals.one:∀ {x:V}{us:List Value},Vals [x] us→∃ u,us=[u]∧RelV x u
 | _,_,.cons r .nil=>⟨_,rfl,r⟩
section
variable {X:Cx}{pins:List (Addr×Obj)}{σ:St} {H:Hp}{s:Shared}{l b:Addr}{xs ys zs:List V}
theorem Inv.lset {its its':List Value}{n:Nat}{f:Array Value→Array Value}{t':Nat}(I:Inv X pins σ H s) (hH:H l=some (.lst xs))
 (e:s.heap.get? l=some { cls:=.type "list",data:=.seq its.toArray n }) (hf:f its.toArray=its'.toArray) (hv:Vals ys its') (hz:ys.length≤sizeLine) :
 Inv X pins σ (upd H l (.lst ys)) { s with heap:=s.heap.update l (Obj.mapSeq f),toks:=t' }:=by
 have q:=PySem.IsL.update e f
 rw [hf] at q
 refine I.write (x:=l) (e:=l) (by rw [hH]; exact trivial) (.inl rfl) (fun b' u hb hu=>(Heap.get?_update_other s.heap (Obj.mapSeq f) (Ne.symm hb)).trans hu) ⟨_,q⟩ ?_
 exact ⟨hz,its',_,hv,q⟩
theorem Inv.lnew {its:List Value}{t':Nat}(I:Inv X pins σ H s) (hv:Vals ys its) (hz:ys.length≤sizeLine) :
 Inv X pins σ (upd H s.heap.objs.size (.lst ys)) { s with heap:=s.heap.push { cls:=.type "list",data:=.seq its.toArray },toks:=t' } :=
 I.laid (fun _ _ q=>Heap.get?_push_of_some _ q) (Nat.le_refl _) ⟨hz,its,0,hv,Heap.get?_push_size _ rfl⟩
theorem Inv.fresh (I:Inv X pins σ H s):H s.heap.objs.size=none:=I.hok.fresh (Nat.le_refl _)
theorem Inv.lstM (I:Inv X pins σ H s) (hH:H l=some (.lst xs)):xs.length≤sizeLine∧∃ (its:List Value) (n:Nat),Vals xs its∧xs.length=its.length∧s.heap.get? l=some { cls:=.type "list",data:=.seq its.toArray n }:=by
 obtain ⟨z,its,n,r,e⟩:=I.hok l _ hH
 exact ⟨z,its,n,r,r.length,e⟩
theorem b83 {n:Nat}(h:n≤sizeLine):Builtin.List.listTooLong n=false:=by
 unfold Builtin.List.listTooLong
 exact decide_eq_false (by omega)
end
section
variable {X:Cx}
def b13:V→List V→Hp→VK→Prop:=fun x vs H Q=>∃ l xs y,x=.ref l∧vs=[y]∧H l=some (.lst xs)∧xs.length<sizeLine∧Q .non (upd H l (.lst (xs++[y])))
theorem a43:MtM X "list.append" b13:=by
 intro pins s σ H x vs v us Q I rx rv h
 obtain ⟨l,xs,y,rfl,rfl,hH,hz,q⟩:=h
 cases rx
 obtain ⟨u,rfl,ru⟩:=rv.one
 obtain ⟨z,its,n,r,hl,e⟩:=I.lstM hH
 refine call_meets F.slot_list_append ⟨_,e,rfl⟩ F.entry_list_append (F.args_list_append_2 _ _) (PySem.list_append l its.toArray n u (by rw [List.size_toArray]; omega)) ⟨e,?_⟩
 refine ⟨.non,_,I.lset (its':=its++[u]) hH e (by simp) (r.append (.cons ru .nil)) ?_,rfl,q⟩
 rw [List.length_append,List.length_singleton]
 omega
def b14:V→List V→Hp→VK→Prop:=fun x vs H Q=>∃ l b xs zs,x=.ref l∧vs=[.ref b]∧H l=some (.lst xs)∧H b=some (.lst zs)∧xs.length+zs.length≤sizeLine∧Q .non (upd H l (.lst (xs++zs)))
theorem ao6:MtM X "list.extend" b14:=by
 intro pins s σ H x vs v us Q I rx rv h
 obtain ⟨l,b,xs,zs,rfl,rfl,hH,hB,hz,q⟩:=h
 cases rx
 obtain ⟨u,rfl,ru⟩:=rv.one
 cases ru
 obtain ⟨z,its,n,r,hl,e⟩:=I.lstM hH
 obtain ⟨z2,its2,n2,r2,hl2,e2⟩:=I.lstM hB
 have hsz:its.toArray.size+its2.toArray.size≤sizeLine:=by rw [List.size_toArray,List.size_toArray]; omega
 have hlong:¬ (!its.toArray.isEmpty && Builtin.List.listTooLong (its.toArray.size+its2.toArray.size))=true:=by
  rw [b83 hsz,Bool.and_false]
  exact Bool.false_ne_true
 refine call_meets F.slot_list_extend ⟨_,e,rfl⟩ F.entry_list_extend (F.args_list_extend_2 _ _)
  (AutoSeq1.list_extend_list_list_0 l its.toArray n b its2.toArray n2 hlong (by rw [List.size_toArray]; omega) (by omega)) ⟨e,e2,?_⟩
 refine ⟨.non,_,I.lset (its':=its++its2) hH e (by simp) (r.append r2) ?_,rfl,q⟩
 rw [List.length_append]
 omega
def rCat:R2:=fun x y H Q=>∃ l b xs zs,x=.ref l∧y=.ref b∧H l=some (.lst xs)∧H b=some (.lst zs)∧xs.length+zs.length≤sizeLine∧∀ p,H p=none→Q (.ref p) (upd H p (.lst (xs++zs)))
theorem bq8:OpR X (binaryOp .Add) rCat:=by
 intro pins s σ H x y v u Q I rx ry h
 obtain ⟨l,b,xs,zs,rfl,rfl,hH,hB,hz,q⟩:=h
 cases rx
 cases ry
 obtain ⟨z,its,n,r,hl,e⟩:=I.lstM hH
 obtain ⟨z2,its2,n2,r2,hl2,e2⟩:=I.lstM hB
 refine PySem.P.add_list e e2 ?_ (by rw [List.size_toArray,List.size_toArray]; omega)
 have ea:its.toArray++its2.toArray=(its++its2).toArray:=by simp
 rw [ea]
 exact ⟨.ref _,_,I.lnew (t':=s.toks) (r.append r2) (by rw [List.length_append]; omega),rfl,q _ I.fresh⟩
end
section
variable {prog:Program}{w:World}{A:Around}{E:Value→Shared→Prop}{s:Shared}
set_option maxRecDepth 100000 in
end
section
variable {X:Cx}
end
end L2
namespace Att
open PySem PySem.W PySem.Calls PyProof.Rows
theorem ag4 {P:Params}{h:Heap}:∀ (ns:List Int) (vs:List Value),WellAll P h vs (ns.map WData.int)→IntsAre vs ns:=by
 intro ns
 induction ns with
 | nil =>
   intro vs w
   rw [List.map_nil] at w
   cases w
   exact .nil
 | cons n ns ih =>
   intro vs w
   rw [List.map_cons] at w
   cases w with
   | cons a b =>
     cases a
     exact .cons _ _ (ih _ b)
theorem b15 {l:OpenLaw}{n:Nat}(hn:l.most=some n) {P:Params}{h:Heap}{args:List WData}{vals:List Value}
 (hpre:l.row.toRowW.claim.pre args=true) (hwl:WellAll P h vals args) :
 ∃ a vs ns,vals=[Value.ref a]∧args=[WData.list (ns.map WData.int)]∧h.get? a=some { cls:=.type "list",data:=.seq vs.toArray }∧IntsAre vs ns∧ns.length≤n:=by
 have hsh:WShape.hasAll [] args [.list .int]=true:=(pre_splitW hpre).1
 have hc:l.pre.holds [] { args:=args }=true:=(pre_splitW hpre).2
 obtain ⟨d,r,rfl,h1,h2⟩:=hasAllW_cons hsh
 obtain rfl:=hasAllW_nil h2
 obtain ⟨xs,rfl,h3⟩:=hasW_list h1
 obtain ⟨ns,rfl⟩:=items_int h3
 have hlen:ns.length≤n:=by
  unfold OpenLaw.pre at hc
  have h4:(WTm.not (.lt (.lit (.int (n:Int))) (.len (.arg 0)))).holds [] { args:=[.list (ns.map .int)] }=true:=by
   have h4:=(holds_andW hc).1
   rw [hn] at h4
   exact h4
  have h5:=condW_of h4 (w_not (w_lt w_lit (w_len_list (w_arg rfl))))
  rw [List.length_map] at h5
  refine Nat.le_of_not_lt fun q=>?_
  have q':(n:Int)<((ns.length:Nat):Int):=by omega
  first
   | (rw [decide_eq_true q'] at h5; exact absurd h5 (by decide))
   | (simp at h5; omega)
 cases hwl with
 | cons w1 w2 =>
   cases w2
   cases w1 with
   | list ho hall=>exact ⟨_,_,ns,rfl,rfl,ho,ag4 ns _ hall,hlen⟩
theorem b16 (l:OpenLaw) (args:List WData):l.row.toRowW.claim.post args (.bool true) args=true :=
 postW_of (r:=l.row.toRowW) (X:=(true == true))
  (show WShape.has [] (.bool true) .bool=true by first | rfl | decide | simp [WShape.has,WShape.arms,WShape.armsAll])
  (show (WTm.eq .res (.lit (.bool true))).value [] { args:=args,res:=some (.bool true),after:=args }=some (.bool (true == true)) from w_eq_bool (w_res rfl) w_lit) rfl
theorem attach_call {l:OpenLaw}{n:Nat}{q:Program}{loose:List Str}{XP:(Str→Option Value)→Heap→Prop}{YP:World→Heap→Prop}{d:DefRec}
 (hn:l.most=some n) (hdf:d.params.defaults=[])
 (call:∀ (w:World) (s₀ s₁:Shared) (mg mb:Str→Option Value) (fa:Addr) (o:Obj) (pm cd doc:Value) (a:Addr) (vs:List Value) (ns:List Int),
  Ground q loose [] XP w s₀ mg mb s₁.heap→YP w s₁.heap →
  s₁.heap.get? fa=some o→o.data=.func (docDef d.name d.params d.body d.scope pm cd doc)→s₁.heap.CodeRec cd d.name→mg d.name=some (.ref fa) →
  s₁.heap.get? a=some { cls:=.type "list",data:=.seq vs.toArray }→IntsAre vs ns→ns.length≤n→s₁.gens=#[] →
  codeAny (model l.prog w) callerA (.call (.ref fa) ⟨[.ref a],[]⟩) (fun r s'=>r=.ok (.ret (.bool true))∧OldK s₁.heap s'.heap∧s'.os=s₁.os∧AllBare s'.gens) s₁) :
 WalkO q loose XP YP l.row.toRowW d [] (fun f vs=>PySem.call f vs):=by
 intro w s₀ s₁ mg mb G Y fa o pm cd doc dV kV ho hd hcd hD hmg hg args vals as hpre hlay hrd hwl hlo
 obtain rfl:dV=.none:=Dflts.none hD hdf
 obtain rfl:kV=.none:=Dflts.noKw hD
 obtain ⟨a,vs,ns,rfl,rfl,hobj,hints,hlen⟩:=b15 hn hpre hwl
 refine enter_call (codeAny_mono (call w s₀ s₁ mg mb fa o pm cd doc a vs ns G Y ho (fd_plain hd) hcd hmg hobj hints hlen hg) fun r s' hq=>?_)
 obtain ⟨rfl,h2,h3,h4⟩:=hq
 exact ⟨.inl ⟨.bool true,.bool true,[],rfl,fun _=>rfl,.bool true,b16 l _,fun _=>⟨List.Pairwise.nil,fun _ hm=>(nomatch hm)⟩⟩,h2,h3,h4⟩
section
variable {prog:Program}{w:World}{A:Around}{E:Value→Shared→Prop}{s:Shared}{K:Frag}
end
end Att
namespace L2
open PySem PySem.Spec PyProof.Rows
theorem ao7:∀ {vs:List Value}{ns:List Int},IntsAre vs ns→Vals (ns.map V.int) vs
 | _,_,.nil=>.nil
 | _,_,.cons n t h=>.cons ⟨t,rfl⟩ (ao7 h)
def Only (H:Hp):Prop:=∀ b,H b=none∨∃ o xs,H b=some (.frz o (.lst xs))
theorem b84 {P:Program}{w:World}{K:PySem.W.Frag}{mg mb:Str→Option Value}{CX:CXT}{k:Nat}{fa a:Addr}{fd:FuncData}{x:Str}{sp:Sp}{s₁:Shared}{vs:List Value}{ns:List Int}
 (KX:K.In s₁.heap) (hns:s₁.heap.Ns mainGlobals mg) (hb:s₁.heap.Ns builtinsNs mb) (hbb:∀ x:Str,x≠"__name__"→mb x=bootBuiltins x) (hlim:s₁.heap.NoLimit) (hg:s₁.gens=#[])
 (ha:s₁.heap.get? a=some { cls:=.type "list",data:=.seq vs.toArray }) (hi:IntsAre vs ns) (hl:ns.length≤sizeLine) (hr:Room k callerA)
 (F:∀ base:Heap,K.In base→base.Ns mainGlobals mg→FnOk P w K mg base CX k fa fd [x] sp) (hbind:∀ (s:Shared) (u:Value),BindsTo s fd ⟨[u],[]⟩ [(x,u)])
 (hsp:∀ H:Hp,Only H→SqL K H a (ns.map V.int)→sp [.ref a] H (fun v _=>v=.bl true) fun _ _ _=>False)
 (hCX:∀ H e s',CX [] H s₁ (fun _ _ _=>False) e s'→False) :
 codeAny (model P w) callerA (.call (.ref fa) ⟨[.ref a],[]⟩) (fun r s'=>r=.ok (.ret (.bool true))∧OldK s₁.heap s'.heap∧s'.os=s₁.os∧AllBare s'.gens) s₁:=by
 have rv:=ao7 hi
 have lenV:=hi.length
 have core:∀ H:Hp,Only H→SqL K H a (ns.map V.int)→HOk P w H s₁.heap→(∀ b,H b≠none→b=a)→(H a≠none→K.lookup a=none) →
  codeAny (model P w) callerA (.call (.ref fa) ⟨[.ref a],[]⟩) (fun r s'=>r=.ok (.ret (.bool true))∧OldK s₁.heap s'.heap∧s'.os=s₁.os∧AllBare s'.gens) s₁:=by
  intro H hO hS hok hA hK
  have base_of:∀ {b:Addr}{o:Obj},s₁.heap.get? b=some o→H b=none→(hidT s₁.heap H).get? b=some o:=fun e n=>b72 e n
  have noA:∀ {b:Addr}{o:Obj}{es:Array DictEntry}{ep:Nat},s₁.heap.get? b=some o→o.data=.dict es ep→H b=none:=fun {b o es ep} e d=>by
   cases q:H b with
   | none=>rfl
   | some u =>
     have e':b=a:=hA b (by rw [q]; simp)
     subst e'
     rw [ha] at e; cases e
     have d':Data.seq vs.toArray _=Data.dict es ep:=d
     cases d'
  have nsK:∀ {b:Addr}{m:Str→Option Value},s₁.heap.Ns b m→(hidT s₁.heap H).Ns b m:=fun {b m} ⟨o,es,ep,e,d,r⟩=>⟨o,es,ep,base_of e (noA e d),d,r⟩
  have hKb:K.In (hidT s₁.heap H):=fun b o e=>base_of (KX b o e) (by
   cases q:H b with
   | none=>rfl
   | some u =>
     have e':b=a:=hA b (by rw [q]; simp)
     subst e'
     rw [hK (by rw [q]; simp)] at e; cases e)
  have hM:Mod K mg (hidT s₁.heap H):=⟨hKb,nsK hns,⟨mb,nsK hb,hbb⟩,let ⟨mc,h1,h2⟩:=hlim; ⟨mc,nsK h1,h2⟩⟩
  have e0:Env0 P w K mg (hidT s₁.heap H) callerA [] s₁ H:=⟨rfl,hM,fun b o e=>bf6 e,Nat.le_of_eq (az6 _ _),trivial,fun b hb=>absurd (show b∈([]:List Addr) from hb) (by simp),hok,.of_eq hg⟩
  refine codeAny_mono ((F _ hKb (nsK hns)).run callerA [] s₁ H ⟨[.ref a],[]⟩ [.ref a] [.ref a] _ _ hr e0 (hbind s₁ (.ref a)) (.cons rfl .nil) (hsp H hO hS)) fun r s' h=>?_
  cases r with
  | error e=>exact (hCX H e s' h).elim
  | ok fl =>
    cases fl with
    | next=>exact False.elim h
    | brk=>exact False.elim h
    | cont=>exact False.elim h
    | ret u =>
      obtain ⟨v,H',os,bare,un,hok',r',q⟩:=h
      have q':v=.bl true:=q
      subst q'
      obtain rfl:u=Value.bool true:=r'
      refine ⟨rfl,OldK.of_keep fun b o e=>?_,os,bare⟩
      cases q:H b with
      | none=>exact un.keep b o e q (by intro z; exact absurd (show b∈([]:List Addr) from z) (by simp)) (by simp)
      | some u =>
        rcases hO b with z | ⟨ob,xs,z⟩
        · rw [q] at z; cases z
        · have z2:=un.frzs b ob _ z
          obtain ⟨e1,_⟩:=hok b _ z
          obtain ⟨e2,_⟩:=hok' b _ z2
          rw [e] at e1; cases e1
          exact e2
 cases hk:K.lookup a with
 | some o =>
   have e:=KX a o hk
   rw [ha] at e
   cases e
   refine core (fun _=>none) (fun _=>.inl rfl) (.inr ⟨_,vs.toArray,_,hk,rfl,rfl,rfl,by rw [List.size_toArray,lenV]; exact hl,by simpa using rv⟩) (fun b u z=>by have z':(none:Option HO)=some u:=z; cases z') (fun b z=>absurd rfl z) fun z=>absurd rfl z
 | none =>
   refine core (fun b=>if b=a then some (.frz { cls:=.type "list",data:=.seq vs.toArray } (.lst (ns.map V.int))) else none) (fun b=>?_) (.inl (.inr ⟨{ cls:=.type "list",data:=.seq vs.toArray },if_pos rfl⟩)) (fun b u z=>?_) (fun b z=>?_) fun _=>hk
   · by_cases hb:b=a
     · exact .inr ⟨_,_,if_pos hb⟩
     · exact .inl (if_neg hb)
   · by_cases hb:b=a
     · have z':=(if_pos hb).symm.trans z
       cases z'
       subst hb
       exact ⟨ha,by rw [List.length_map]; exact hl,vs,_,rv,ha⟩
     · have z':=(if_neg hb).symm.trans z
       cases z'
   · by_cases hb:b=a
     · exact hb
     · exact absurd (if_neg hb) z
theorem walk_of {l:PySem.W.OpenLaw}{n k:Nat}{q:Program}{loose:List Str}{XP:(Str→Option Value)→Heap→Prop}{YP:World→Heap→Prop}{d:DefRec}{K:Params→PySem.W.Frag}{CX:World→CXT}{sp:World→Sp}{x:Str}
 (hn:l.most=some n) (hn2:n≤sizeLine) (hdf:d.params.defaults=[]) (hr:Room k callerA)
 (hY:∀ (w:World) (h:Heap),YP w h→(K w.params).In h)
 (F:∀ (w:World) (mg:Str→Option Value) (fa:Addr) (h:Heap),(K w.params).In h→h.Ns mainGlobals mg→mg d.name=some (.ref fa) →
  ∃ fd:FuncData,(∀ (s:Shared) (u:Value),BindsTo s fd ⟨[u],[]⟩ [(x,u)]) ∧
   ∀ base:Heap,(K w.params).In base→base.Ns mainGlobals mg→FnOk l.prog w (K w.params) mg base (CX w) k fa fd [x] (sp w))
 (hsp:∀ (w:World) (H:Hp) (a:Addr) (ns:List Int),ns.length≤n→Only H→SqL (K w.params) H a (ns.map V.int)→sp w [.ref a] H (fun v _=>v=.bl true) fun _ _ _=>False)
 (hCX:∀ (w:World) (H:Hp) (s:Shared) (e:Value) (s':Shared),CX w [] H s (fun _ _ _=>False) e s'→False) :
 PySem.W.WalkO q loose XP YP l.row.toRowW d [] (fun f vs=>PySem.call f vs):=by
 refine Att.attach_call hn hdf fun w s₀ s₁ mg mb fa o pm cd doc a vs ns G Y ho hd hcd hmg hobj hints hlen hg=>?_
 have KX:=hY w _ Y
 obtain ⟨fd,hb,hF⟩:=F w mg fa _ KX G.T.g hmg
 exact b84 KX G.T.g G.T.b G.T.builtins G.T.nolimit hg hobj hints (Nat.le_trans hlen hn2) hr hF hb (fun H hO hS=>hsp w H a ns hlen hO hS) fun H e s'=>hCX w H s₁ e s'
def a71 (s:Stmt) (j:Nat):Stmt:=match s with
 | .ClassDef _ _ _ body _ _ _ _ _ _ _=>body.getD j (.Pass ⟨0,0,0,0⟩)
 | _=>.Pass ⟨0,0,0,0⟩
def ac4 (s:Stmt):Arguments:=match s with
 | .FunctionDef _ a _ _ _ _ _ _ _ _=>a
 | _=>{ posonlyargs:=[],args:=[],vararg:=none,kwonlyargs:=[],kw_defaults:=[],kwarg:=none,defaults:=[] }
def aa1 (s:Stmt):List Stmt:=match s with
 | .FunctionDef _ _ b _ _ _ _ _ _ _=>b
 | _=>[]
def a08 (s:Stmt):Scope:=match s with
 | .FunctionDef _ _ _ _ _ _ sc _ _ _=>sc
 | _=>{ kind:=.function,names:=[],isGenerator:=false,isCoroutine:=false }
abbrev CX0:CXT:=fun _ _ _ _ _ _=>False
abbrev E0:XK:=fun _ _ _=>False
theorem a30 {X:Cx}:ag3 CX0 X E0:=fun _ _ _ _ _ _ _ h=>h.elim
structure Fun (K:PySem.W.Frag) (x qual:Str) (st:Stmt) (f:Addr) (fd:FuncData):Prop where
 ex:∃ (oc:Value) (od:Option Addr) (kV doc pm:Value) (an:Option Addr) (cdv ct:Value) (osl:Array (Option Value)),
  fd=PySem.W.fnOf x qual (ac4 st) (aa1 st) (a08 st) .none kV doc pm an cdv ct∧K.lookup f=some ⟨oc,od,.func fd,osl⟩∧PySem.W.codeIn K cdv qual=true
 kp:PySem.W.keepIn K (.ref f)=true
section
variable {P:Program}{w:World}{K:PySem.W.Frag}{mg:Str→Option Value}{base:Heap}
theorem Fun.ok {x qual:Str}{st:Stmt}{f:Addr}{fd:FuncData}{N ps:List Str}{k:Nat}{sp:Sp}(F:Fun K x qual st f fd) (S:FnScope N ps (a08 st)) (len:∀ vs H Q E,sp vs H Q E→vs.length=ps.length)
 (hbody:∀ (cdv:Value) (A:Around) (outer:List Env) (s:Shared) (H:Hp) (vs:List V) (Q:VK) (E:XK),Room k (A.deeper (envOfC qual (a08 st) s.heap.objs.size f cdv))→sp vs H Q E →
  ∃ t,PSs (cxOf CX0 P w K mg base N qual (a08 st) f cdv A outer s H E).nox (aa1 st) t∧t { nx:=fun _ H'=>Q .non H',rt:=Q } (start N vs) H):FnOk P w K mg base CX0 (k+1) f fd ps sp:=by
 obtain ⟨oc,od,kV,doc,pm,an,cdv,ct,osl,rfl,lk,hcd⟩:=F.ex
 refine bz8 lk hcd S len fun A outer s H vs Q E hr hsp=>?_
 obtain ⟨t,h,q⟩:=hbody cdv A outer s H vs Q E hr hsp
 exact ⟨t,h.nox,q⟩
theorem Fun.binds {x qual:Str}{st:Stmt}{f:Addr}{fd:FuncData}{ps:List Str}(F:Fun K x qual st f fd)
 (h:∀ (kV doc pm:Value) (an:Option Addr) (cdv ct:Value) (us:List Value),us.length=ps.length→bindArgs (PySem.W.fnOf x qual (ac4 st) (aa1 st) (a08 st) .none kV doc pm an cdv ct) ⟨us,[]⟩=pure (ps.zip us)):Binds K fd ps []:=by
 obtain ⟨oc,od,kV,doc,pm,an,cdv,ct,osl,rfl,lk,hcd⟩:=F.ex
 exact .all (h kV doc pm an cdv ct)
theorem bd6 {x qual:Str}{st:Stmt}{f:Addr}{oc:Value}{od an:Option Addr}{osl:Array (Option Value)}{kV doc pm cdv ct:Value}(l:K.lookup f=some ⟨oc,od,.func (PySem.W.fnOf x qual (ac4 st) (aa1 st) (a08 st) .none kV doc pm an cdv ct),osl⟩)
 (c:PySem.W.codeIn K cdv qual=true) (k:PySem.W.keepIn K (.ref f)=true):Fun K x qual st f (PySem.W.fnOf x qual (ac4 st) (aa1 st) (a08 st) .none kV doc pm an cdv ct):=⟨⟨oc,od,kV,doc,pm,an,cdv,ct,osl,rfl,l,c⟩,k⟩
end
theorem c00 {A:Around}{k:Nat}(hr:Room k A):A.units+1<cLine:=Nat.lt_of_le_of_lt (Nat.add_le_add_left (by decide:1≤64) _) hr.units
theorem small1000 {n:Nat}(h:n≤1000):n<sizeLine:=Nat.lt_of_le_of_lt h (by decide)
section
variable {X:Cx}
theorem pv (i:Nat) {x:Str}{pos:Pos}(hN:X.N[i]?=some x:=by rfl) (hv:Vis X.env.scope x:=by first | exact Or.inl rfl | exact Or.inr (Or.inl rfl) | exact Or.inr (Or.inr rfl)) (hd:(x == ("__debug__":Str))=false:=by decide)
 (hcd:(x == ("__classdict__":Str))=false:=by decide):PE X (.Name x pos) (tVar i):=bn7 hN hv hd hcd
end
theorem iteF {A B:Prop}(h:B):if false=true then A else B:=by
 rw [if_neg Bool.false_ne_true]
 exact h
theorem iteT {A B:Prop}(h:A):if true=true then A else B:=by
 rw [if_pos rfl]
 exact h
def Same (H H':Hp):Prop:=∀ b o,H b=some o→H' b=some o
theorem Same.refl (H:Hp):Same H H:=fun _ _ h=>h
theorem Same.trans {H H1 H2:Hp}(a:Same H H1) (b:Same H1 H2):Same H H2:=fun c o h=>b c o (a c o h)
theorem Same.free {H H':Hp}(e:Same H H') {l:Addr}(h:H' l=Option.none):H l=Option.none:=by
 cases q:H l with
 | none=>rfl
 | some o =>
   rw [e l o q] at h
   cases h
theorem Same.seq {K:PySem.W.Frag}{H H':Hp}{a:Addr}{xs:List V}(e:Same H H') (h:SqL K H a xs):SqL K H' a xs:=by
 rcases h with (h | ⟨o,h⟩) | h
 · exact .inl (.inl (e _ _ h))
 · exact .inl (.inr ⟨o,e _ _ h⟩)
 · exact .inr h
end L2
namespace K22
open PySem L2
def top (i:Nat):Stmt:=PySem.Challenge.pw_callmill_k22_whole_waits_by_turns.main.body.getD i (.Pass ⟨0,0,0,0⟩)
def view:Program:={ PySem.Challenge.pw_callmill_k22_whole_waits_by_turns with main:={ PySem.Challenge.pw_callmill_k22_whole_waits_by_turns.main with body:=[top 1,top 3,top 5,top 6,top 7,top 9,top 10,top 11,top 12,top 13,top 14,top 15,top 16,top 17,top 18,top 19,top 21,top 22,top 23,top 24,top 25,top 26,top 27,top 29,top 30,top 31,top 32,top 33,top 34,top 35,top 36] } }
abbrev ac5:Stmt:=top 1
abbrev ag5:Stmt:=top 3
abbrev a72:Stmt:=top 5
abbrev b17:Stmt:=top 6
abbrev b18:Stmt:=top 7
abbrev bq9:Stmt:=top 12
abbrev a73:Stmt:=top 13
abbrev aa2:Stmt:=top 14
abbrev ag6:Stmt:=top 15
abbrev ag7:Stmt:=top 16
abbrev a94:Stmt:=top 17
abbrev ab8:Stmt:=top 18
abbrev ao8:Stmt:=top 19
abbrev a66:Stmt:=a71 (top 22) 0
abbrev a44:Stmt:=top 23
abbrev a95:Stmt:=top 24
abbrev a85:Stmt:=top 25
abbrev a76:Stmt:=a71 (top 26) 0
abbrev ab9:Stmt:=a71 (top 26) 1
abbrev ac9:Stmt:=a71 (top 26) 2
abbrev a59:Stmt:=a71 (top 26) 5
abbrev a96:Stmt:=a71 (top 26) 6
abbrev a97:Stmt:=a71 (top 26) 7
abbrev a60:Stmt:=a71 (top 26) 8
abbrev aa3:Stmt:=a71 (top 26) 9
abbrev a63:Stmt:=a71 (top 26) 10
abbrev ac0:Stmt:=top 27
abbrev aj5:Stmt:=top 29
abbrev aj6:Stmt:=top 30
abbrev ag8:Stmt:=top 31
abbrev aa4:Stmt:=top 32
abbrev ac6:Stmt:=top 33
abbrev ao9:Stmt:=top 34
abbrev aj7:Stmt:=top 35
abbrev bh2:Stmt:=top 36
def ap0 (K:PySem.W.Frag):Sp:=fun vs H Q _=>∃ (a:Addr) (ns:List Int),vs=[.ref a]∧SqL K H a (ns.map V.int)∧ns.length≤63∧∀ H',Q (.bl true) H'
set_option genInjectivity false in
structure Adr where
 {a_bodies_of:Addr}
 {fd_bodies_of:FuncData}
 {a_hand_text:Addr}
 {fd_hand_text:FuncData}
 {a_value_of_box:Addr}
 {fd_value_of_box:FuncData}
 {a_worth:Addr}
 {fd_worth:FuncData}
 {a_holds:Addr}
 {fd_holds:FuncData}
 {a_run:Addr}
 {fd_run:FuncData}
 {a_first_values:Addr}
 {fd_first_values:FuncData}
 {a_values_put:Addr}
 {fd_values_put:FuncData}
 {a_said_text:Addr}
 {fd_said_text:FuncData}
 {a_rested_on:Addr}
 {fd_rested_on:FuncData}
 {a_way_of_pattern:Addr}
 {fd_way_of_pattern:FuncData}
 {a_way_of_event:Addr}
 {fd_way_of_event:FuncData}
 {a_stepped:Addr}
 {fd_stepped:FuncData}
 {a_KeptBody___init__:Addr}
 {fd_KeptBody___init__:FuncData}
 {a_kept_bodies:Addr}
 {fd_kept_bodies:FuncData}
 {a_kept_statement:Addr}
 {fd_kept_statement:FuncData}
 {a_kept_wait:Addr}
 {fd_kept_wait:FuncData}
 {a_Teller___init__:Addr}
 {fd_Teller___init__:FuncData}
 {a_Teller_begin:Addr}
 {fd_Teller_begin:FuncData}
 {a_Teller_step:Addr}
 {fd_Teller_step:FuncData}
 {a_Teller_statement_at:Addr}
 {fd_Teller_statement_at:FuncData}
 {a_Teller_settled:Addr}
 {fd_Teller_settled:FuncData}
 {a_Teller_gone_on:Addr}
 {fd_Teller_gone_on:FuncData}
 {a_Teller_stack_behind:Addr}
 {fd_Teller_stack_behind:FuncData}
 {a_Teller_way_on:Addr}
 {fd_Teller_way_on:FuncData}
 {a_Teller_loop_around:Addr}
 {fd_Teller_loop_around:FuncData}
 {a_place_behind:Addr}
 {fd_place_behind:FuncData}
 {a__law_cell:Addr}
 {fd__law_cell:FuncData}
 {a__law_stir:Addr}
 {fd__law_stir:FuncData}
 {a__law_drawn:Addr}
 {fd__law_drawn:FuncData}
 {a__law_script:Addr}
 {fd__law_script:FuncData}
 {a__law_event:Addr}
 {fd__law_event:FuncData}
 {a__law_row:Addr}
 {fd__law_row:FuncData}
 {a__law_turn:Addr}
 {fd__law_turn:FuncData}
 {a_law:Addr}
 {fd_law:FuncData}
 {c_Machine:Addr}
 {c_KeptBody:Addr}
 {c_Teller:Addr}
 {u_QUIET:Value}
 {u_OTHER:Value}
 {u_NONE:Value}
 {ad_QUIET:Addr}
 {ad_OTHER:Addr}
 {ad_NONE:Addr}
structure CIi (K:PySem.W.Frag) (x q:Str) (st:Stmt) (ps:List Str) (a:Addr) (fd:FuncData):Prop where
 F:Fun K x q st a fd
 b:Binds K fd ps []
structure CFi (K:PySem.W.Frag) (mg:Str→Option Value) (x:Str) (st:Stmt) (ps:List Str) (a:Addr) (fd:FuncData):Prop extends CIi K x x st ps a fd where
 m:mg x=some (.ref a)
structure CMi (K:PySem.W.Frag) (c:Addr) (x q:Str) (st:Stmt) (ps:List Str) (a:Addr) (fd:FuncData):Prop extends CIi K x q st ps a fd where
 M:Meth K c x a
structure Txt (K:PySem.W.Frag) (mg:Str→Option Value) (t:Adr):Prop where
 m_Machine:mg "Machine"=some (.ref t.c_Machine)
 m_KeptBody:mg "KeptBody"=some (.ref t.c_KeptBody)
 cl_KeptBody:Cls K t.c_KeptBody
 mk_KeptBody:Mk K t.c_KeptBody t.a_KeptBody___init__
 n_KeptBody_behind:NoAttr K t.c_KeptBody "behind"
 n_KeptBody_loops:NoAttr K t.c_KeptBody "loops"
 n_KeptBody_statements:NoAttr K t.c_KeptBody "statements"
 m_Teller:mg "Teller"=some (.ref t.c_Teller)
 cl_Teller:Cls K t.c_Teller
 mk_Teller:Mk K t.c_Teller t.a_Teller___init__
 n_Teller_bodies:NoAttr K t.c_Teller "bodies"
 n_Teller_boxes:NoAttr K t.c_Teller "boxes"
 f_bodies_of:CFi K mg "bodies_of" ac5 ["statement"] t.a_bodies_of t.fd_bodies_of
 f_hand_text:CFi K mg "hand_text" ag5 ["line","word"] t.a_hand_text t.fd_hand_text
 f_value_of_box:CFi K mg "value_of_box" a72 ["name","boxes","values"] t.a_value_of_box t.fd_value_of_box
 f_worth:CFi K mg "worth" b17 ["expression","boxes","values"] t.a_worth t.fd_worth
 f_holds:CFi K mg "holds" b18 ["condition","boxes","values"] t.a_holds t.fd_holds
 f_run:CFi K mg "run" bq9 ["machine","events"] t.a_run t.fd_run
 f_first_values:CFi K mg "first_values" a73 ["boxes"] t.a_first_values t.fd_first_values
 f_values_put:CFi K mg "values_put" aa2 ["boxes","values","name","expression"] t.a_values_put t.fd_values_put
 f_said_text:CFi K mg "said_text" ag6 ["thing"] t.a_said_text t.fd_said_text
 f_rested_on:CFi K mg "rested_on" ag7 ["standing"] t.a_rested_on t.fd_rested_on
 f_way_of_pattern:CFi K mg "way_of_pattern" a94 ["branches","pattern"] t.a_way_of_pattern t.fd_way_of_pattern
 f_way_of_event:CFi K mg "way_of_event" ab8 ["branches","event"] t.a_way_of_event t.fd_way_of_event
 f_stepped:CFi K mg "stepped" ao8 ["machine","wait","standing","event"] t.a_stepped t.fd_stepped
 f_KeptBody___init__:CIi K "__init__" "KeptBody.__init__" a66 ["self","loops","behind"] t.a_KeptBody___init__ t.fd_KeptBody___init__
 f_kept_bodies:CFi K mg "kept_bodies" a44 ["talks"] t.a_kept_bodies t.fd_kept_bodies
 f_kept_statement:CFi K mg "kept_statement" a95 ["statement","behind","number","names"] t.a_kept_statement t.fd_kept_statement
 f_kept_wait:CFi K mg "kept_wait" a85 ["statement","behind","number"] t.a_kept_wait t.fd_kept_wait
 f_Teller___init__:CIi K "__init__" "Teller.__init__" a76 ["self","script"] t.a_Teller___init__ t.fd_Teller___init__
 f_Teller_begin:CMi K t.c_Teller "begin" "Teller.begin" ab9 ["self"] t.a_Teller_begin t.fd_Teller_begin
 f_Teller_step:CMi K t.c_Teller "step" "Teller.step" ac9 ["self","standing","event"] t.a_Teller_step t.fd_Teller_step
 f_Teller_statement_at:CMi K t.c_Teller "statement_at" "Teller.statement_at" a59 ["self","place"] t.a_Teller_statement_at t.fd_Teller_statement_at
 f_Teller_settled:CMi K t.c_Teller "settled" "Teller.settled" a96 ["self","place"] t.a_Teller_settled t.fd_Teller_settled
 f_Teller_gone_on:CMi K t.c_Teller "gone_on" "Teller.gone_on" a97 ["self","place","stack","values"] t.a_Teller_gone_on t.fd_Teller_gone_on
 f_Teller_stack_behind:CMi K t.c_Teller "stack_behind" "Teller.stack_behind" a60 ["self","place","stack"] t.a_Teller_stack_behind t.fd_Teller_stack_behind
 f_Teller_way_on:CMi K t.c_Teller "way_on" "Teller.way_on" aa3 ["self","place","statement","values"] t.a_Teller_way_on t.fd_Teller_way_on
 f_Teller_loop_around:CMi K t.c_Teller "loop_around" "Teller.loop_around" a63 ["self","place"] t.a_Teller_loop_around t.fd_Teller_loop_around
 f_place_behind:CFi K mg "place_behind" ac0 ["place"] t.a_place_behind t.fd_place_behind
 f__law_cell:CFi K mg "_law_cell" aj5 ["script","k"] t.a__law_cell t.fd__law_cell
 f__law_stir:CFi K mg "_law_stir" aj6 ["cell","k"] t.a__law_stir t.fd__law_stir
 f__law_drawn:CFi K mg "_law_drawn" ag8 ["cell","sizes"] t.a__law_drawn t.fd__law_drawn
 f__law_script:CFi K mg "_law_script" aa4 ["script"] t.a__law_script t.fd__law_script
 f__law_event:CFi K mg "_law_event" ac6 ["cell","rows"] t.a__law_event t.fd__law_event
 f__law_row:CFi K mg "_law_row" ao9 ["rows","pattern"] t.a__law_row t.fd__law_row
 f__law_turn:CFi K mg "_law_turn" aj7 ["rows","limit","left","event"] t.a__law_turn t.fd__law_turn
 f_law:CFi K mg "law" bh2 ["script"] t.a_law t.fd_law
 z_enumerate:mg "enumerate"=none
 z_int:mg "int"=none
 z_len:mg "len"=none
 z_list:mg "list"=none
 z_range:mg "range"=none
 z_str:mg "str"=none
 z_tuple:mg "tuple"=none
 z_zip:mg "zip"=none
 m_QUIET:mg "QUIET"=some t.u_QUIET
 r_QUIET:RelV (.ref t.ad_QUIET) t.u_QUIET
 m_OTHER:mg "OTHER"=some t.u_OTHER
 r_OTHER:RelV (.ref t.ad_OTHER) t.u_OTHER
 m_NONE:mg "NONE"=some t.u_NONE
 r_NONE:RelV (.ref t.ad_NONE) t.u_NONE
 dd_QUIET:∃ od its nn sl,K.lookup t.ad_QUIET=some ⟨.type "tuple",od,.seq its nn,sl⟩∧its.size≤sizeLine∧Vals [.str "quiet"] its.toList
 dd_OTHER:∃ od its nn sl,K.lookup t.ad_OTHER=some ⟨.type "tuple",od,.seq its nn,sl⟩∧its.size≤sizeLine∧Vals [.str "other"] its.toList
 dd_NONE:∃ od its nn sl,K.lookup t.ad_NONE=some ⟨.type "tuple",od,.seq its nn,sl⟩∧its.size≤sizeLine∧Vals [.str "none"] its.toList
theorem ai6 {us:List Value}{n:Nat}(h:us.length=n+1):∃ u r,us=u::r:=by
 cases us with
 | nil=>cases h
 | cons u r=>exact ⟨u,r,rfl⟩
theorem c01 {us:List Value}(h:us.length=1):∃ u0,us=[u0]:=by
 obtain ⟨u0,us,rfl⟩:=ai6 h; replace h:=Nat.succ.inj h
 obtain rfl:=List.length_eq_zero_iff.mp h
 exact ⟨u0,rfl⟩
theorem c02 {us:List Value}(h:us.length=2):∃ u0 u1,us=[u0,u1]:=by
 obtain ⟨u0,us,rfl⟩:=ai6 h; replace h:=Nat.succ.inj h
 obtain ⟨u1,us,rfl⟩:=ai6 h; replace h:=Nat.succ.inj h
 obtain rfl:=List.length_eq_zero_iff.mp h
 exact ⟨u0,u1,rfl⟩
theorem c03 {us:List Value}(h:us.length=3):∃ u0 u1 u2,us=[u0,u1,u2]:=by
 obtain ⟨u0,us,rfl⟩:=ai6 h; replace h:=Nat.succ.inj h
 obtain ⟨u1,us,rfl⟩:=ai6 h; replace h:=Nat.succ.inj h
 obtain ⟨u2,us,rfl⟩:=ai6 h; replace h:=Nat.succ.inj h
 obtain rfl:=List.length_eq_zero_iff.mp h
 exact ⟨u0,u1,u2,rfl⟩
theorem c04 {us:List Value}(h:us.length=4):∃ u0 u1 u2 u3,us=[u0,u1,u2,u3]:=by
 obtain ⟨u0,us,rfl⟩:=ai6 h; replace h:=Nat.succ.inj h
 obtain ⟨u1,us,rfl⟩:=ai6 h; replace h:=Nat.succ.inj h
 obtain ⟨u2,us,rfl⟩:=ai6 h; replace h:=Nat.succ.inj h
 obtain ⟨u3,us,rfl⟩:=ai6 h; replace h:=Nat.succ.inj h
 obtain rfl:=List.length_eq_zero_iff.mp h
 exact ⟨u0,u1,u2,u3,rfl⟩
theorem bh3 {K:PySem.W.Frag}{x q:Str}{st:Stmt}{f:Addr}{ps:List Str}{oc:Value}{od an:Option Addr}{osl:Array (Option Value)}{kV doc pm cdv ct:Value}(l:K.lookup f=some ⟨oc,od,.func (PySem.W.fnOf x q (ac4 st) (aa1 st) (a08 st) .none kV doc pm an cdv ct),osl⟩) (c:PySem.W.codeIn K cdv q=true) (k:PySem.W.keepIn K (.ref f)=true) (b:∀ (kV doc pm:Value) (an:Option Addr) (cdv ct:Value) (us:List Value),us.length=ps.length→bindArgs (PySem.W.fnOf x q (ac4 st) (aa1 st) (a08 st) .none kV doc pm an cdv ct) ⟨us,[]⟩=pure (ps.zip us)):CIi K x q st ps f (PySem.W.fnOf x q (ac4 st) (aa1 st) (a08 st) .none kV doc pm an cdv ct):=⟨bd6 l c k,(bd6 l c k).binds b⟩
theorem c05 {K:PySem.W.Frag}{mg:Str→Option Value}{h:Heap}{x:Str}{st:Stmt}{ps:List Str}{f:Addr}{fd:FuncData}(X:K.In h) (G:h.Ns mainGlobals mg) (a:PySem.W.nsIn K mainGlobals x=some (some (.ref f))) (i:CIi K x x st ps f fd):CFi K mg x st ps f fd:=⟨i,PySem.W.mg_of X G a⟩
def HF (P:Params) (K:PySem.W.Frag):Prop:=∃ t:Adr,∀ (mg:Str→Option Value) (h:Heap),K.In h→h.Ns mainGlobals mg→Txt K mg t
theorem walk2 {l:PySem.W.OpenLaw}{q:Program}{loose:List Str}{XP:(Str→Option Value)→Heap→Prop}{YP:World→Heap→Prop}{d:DefRec}{K:Params→PySem.W.Frag}(hn:l.most=some 63) (hdf:d.params.defaults=[]) (hd:d.name="law") (hl:l=PySem.Challenge.rw_callmill_k22_whole_waits_by_turns) (hY:∀ (w:World) (h:Heap),YP w h→(K w.params).In h) (hF:∀ P,HF P (K P)) (G:∀ K:Params→PySem.W.Frag,(∀ P,HF P (K P))→(∀ (w:World) (mg:Str→Option Value) (fa:Addr) (h:Heap),(K w.params).In h→h.Ns mainGlobals mg→mg "law"=some (.ref fa)→∃ fd:FuncData,(∀ (s:Shared) (u:Value),BindsTo s fd ⟨[u],[]⟩ [("script",u)])∧∀ base:Heap,(K w.params).In base→base.Ns mainGlobals mg→FnOk PySem.Challenge.rw_callmill_k22_whole_waits_by_turns.prog w (K w.params) mg base CX0 20 fa fd ["script"] (ap0 (K w.params)))):PySem.W.WalkO q loose XP YP l.row.toRowW d [] (fun f vs=>PySem.call f vs) :=
 L2.walk_of (n:=63) (k:=20) (x:="script") (CX:=fun _=>CX0) (sp:=fun w=>ap0 (K w.params)) hn (by decide) hdf ⟨rfl,by decide,by decide⟩ hY (by rw [hd,hl]; exact G K hF) (fun _ _ a ns hl _ hS=>⟨a,ns,rfl,hS,hl,fun _=>rfl⟩) fun _ _ _ _ _ z=>z
theorem c06 {K:PySem.W.Frag}{C:Addr}{x q:Str}{st:Stmt}{ps:List Str}{f:Addr}{fd:FuncData}(a:PySem.W.findIn K (.ref C) x=some (some (.ref f))) (i:PySem.W.isFn K (.ref f)=true) (h:CIi K x q st ps f fd):CMi K C x q st ps f fd:=⟨h,a,i,h.F.kp⟩
theorem c07 {K:PySem.W.Frag}{a:Addr}{vs:List V}{od:Option Addr}{its:Array Value}{nn:Nat}{sl:Array (Option Value)}(h1:K.lookup a=some ⟨.type "tuple",od,.seq its nn,sl⟩) (h2:its.size≤sizeLine) (h3:Vals vs its.toList):∃ od its nn sl,K.lookup a=some ⟨.type "tuple",od,.seq its nn,sl⟩∧its.size≤sizeLine∧Vals vs its.toList:=⟨_,_,_,_,h1,h2,h3⟩
theorem c08 {K:PySem.W.Frag}{a:Addr}{od:Option Addr}{cd:ClassData}{sl:Array (Option Value)}(h:K.lookup a=some ⟨.type "type",od,.cls cd,sl⟩):∃ od cd sl,K.lookup a=some ⟨.type "type",od,.cls cd,sl⟩:=⟨_,_,_,h⟩
section
open PySem PySem.W PyProof.Rows
local macro_rules | `(tactic| o_head $H) => `(tactic| refine holds_open (q := K22.view) (loose := []) (Xt := fun s => xlAt K22.view [] s && recOk (RowW.records _) s) (XP := XL K22.view []) (Yf := Hook.obs $H) (Ya := Hook.val $H) (YP := Hook.says $H) (N := 8000) ?hl (Hook.of $H) (Hook.keeps $H) (fun s e => xl_of s (Bool.and_eq_true_iff.mp e).1) XL.keeps (by rfl) (by rfl) (by rfl) (fun s e => recFacts_of (Bool.and_eq_true_iff.mp e).2) (by rfl) (by first | assumption | decide +kernel) (by decide +kernel) ⟨rfl, rfl, rfl, rfl, rfl, by decide +kernel⟩ ?hw ?hc)
local macro_rules | `(tactic| walk_at "bi") => `(tactic| (intro _ _ _ _ _ _ us hl; first | (obtain ⟨_, z⟩ := c01 hl; subst z; rfl) | (obtain ⟨_, _, z⟩ := c02 hl; subst z; rfl) | (obtain ⟨_, _, _, z⟩ := c03 hl; subst z; rfl) | (obtain ⟨_, _, _, _, z⟩ := c04 hl; subst z; rfl)))
local macro_rules | `(tactic| walk_at "fi") => `(tactic| first | (refine' c05 $(Lean.mkIdent `X) $(Lean.mkIdent `G) ?a (bh3 ?l ?c ?k (by walk_at "bi")); (case a => k_is); (case l => k_is); (case c => k_is); (case k => k_is)) | (refine' c06 ?a ?i (bh3 ?l ?c ?k (by walk_at "bi")); (case a => k_is); (case i => k_is); (case l => k_is); (case c => k_is); (case k => k_is)) | (refine' bh3 ?l ?c ?k (by walk_at "bi"); (case l => k_is); (case c => k_is); (case k => k_is)) | (refine' PySem.W.mg_of $(Lean.mkIdent `X) $(Lean.mkIdent `G) ?a; (case a => k_is)) | (refine' PySem.W.mg_none_of $(Lean.mkIdent `X) $(Lean.mkIdent `G) ?a; (case a => k_is)) | (unfold NoAttr; k_is) | k_is | (refine' Cls.mk ?a ?b ?c ?d; (case a => k_is); (case b => k_is); (case c => k_is); (case d => k_is)) | (refine' Mk.mk ?a ?b ?c ?d; (case a => k_is); (case b => k_is); (case c => k_is); (case d => k_is)) | exact ⟨_, rfl⟩ | (with_reducible exact rfl) | (refine' c07 ?a ?b ?c; (case a => k_is); (case b => exact Nat.le_of_lt (L2.small1000 (by decide))); (case c => repeat first | exact .nil | refine .cons (by first | exact rfl | exact ⟨_, rfl⟩) ?_)) | (refine' c08 ?a; (case a => k_is)) | (change PySem.W.excIn _ _ _ _ = true; kernel_rfl) | exact rfl)
def bt:List Obj→Nat→BT→BT
 | [],_,t=>t
 | o::l,i,t=>bt l (i+1) (t.ins i o)
noncomputable def T0 (P:Params):BT:=bt (boot_heap P).objs.toList 0 .nil
def runT (tb:String→Option Builtin) (p:Program) (w:World) (n₀:Nat) (ann:Option Value):Nat→SharedT→Thread→Option SharedT
 | 0,_,_=>none
 | n+1,s,t=>match through t with
   | true=>some s
   | false=>match stepOk n₀ ann t with
     | false=>none
     | true=>match stepT (denote tb) p w s t with
       | some (s',t')=>runT tb p w n₀ ann n s' t'
       | none=>none
theorem b19 {tb:String→Option Builtin}{p:Program}{w:World}{n₀:Nat}{ann:Option Value}:∀ {n:Nat}{s s':SharedT}{t:Thread},runT tb p w n₀ ann n s t=some s'→topRun tb p w n₀ ann n s.abs t=some s'.abs
 | 0,_,_,_,h=>by cases h
 | n+1,s,s',t,h=>by
   unfold runT at h
   unfold topRun
   cases he:through t with
   | true=>rw [he] at h; cases h; rfl
   | false =>
     rw [he] at h
     cases hk:stepOk n₀ ann t with
     | false=>rw [hk] at h; cases h
     | true =>
       rw [hk] at h
       cases hs:stepT (denote tb) p w s t with
       | none=>rw [hs] at h; cases h
       | some r=>obtain ⟨s₂,t₂⟩:=r; rw [hs] at h; rw [stepT_spec hs]; exact b19 h
theorem b20 {p q:Program}{loose:List Str}{Xt:Shared→Bool}{α:Type}{Yf:Shared→α}{Ya:World→α}{N:Nat}{g0:Bool}{m₀:Nat}{ann:Option Value}(e:opening p=plainProg p.main.scope.names) (hN:Nat.ble 600 N=true) (f:∀ s,fenceModules? p s=some s)
 (b:∀ P,boot_heap P=absHeap (T0 P) m₀ (boot_heap P).life) (z:∀ w:World,(boot_heap w.params).isNs mainGlobals=true∧(boot_heap w.params).objs.size=m₀∧(boot_heap w.params).nsMap mainGlobals "__annotations__"=ann)
 (h:∀ (w:World) (os:OsState),(runT treeTable p w m₀ ann N ⟨T0 w.params,m₀,(boot_heap w.params).life,Array.mk [],boot_drawn,boot_toks,os⟩ (topStub p)).map (fun s=>(staticsOk (importedModules p.main.body) (boot_heap w.params) s.abs.heap && namesBound p s.abs.heap && gensDone s.abs && laidKept (boot_heap w.params) s.abs.heap,openSeen q loose (importedModules p.main.body) Xt g0 s.abs,Yf s.abs))=some (true,openGood q loose,Ya w)):LeftO p q loose Xt Yf Ya N g0:=fun w=>by
 obtain ⟨⟨hp,g,d,k,os⟩,hs,hv⟩:=Option.map_eq_some_iff.mp (boot_open e hN f w)
 injection hv with v1 v2
 injection v2 with v2 v3
 injection v3 with v3 v4
 dsimp only at v1 v2 v3 v4
 subst v1 v2 v3 v4
 obtain ⟨z1,z2,z3⟩:=z w
 obtain ⟨s',h1,h2⟩:=Option.map_eq_some_iff.mp (h w os)
 obtain ⟨l1,l2,l3⟩:_∧_∧_:=by simpa only [Prod.mk.injEq] using h2
 have r:=b19 h1
 have r':topRun treeTable p w m₀ ann N ⟨boot_heap w.params,Array.mk [],boot_drawn,boot_toks,os⟩ (topStub p)=some s'.abs:=by
  rw [b w.params]
  exact r
 unfold openEnds
 rw [hs]
 show (topFrom treeTable p w N _).map _=_
 unfold topFrom
 dsimp only
 rw [z1,z2,z3,r']
 show (match staticsOk (importedModules p.main.body) (boot_heap w.params) s'.abs.heap && namesBound p s'.abs.heap && gensDone s'.abs && laidKept (boot_heap w.params) s'.abs.heap with | true=>some s'.abs | false=>none).map _=_
 rw [l1]
 exact congrArg some (Prod.ext l2 l3)
theorem br0 (P:Params):boot_heap P=absHeap (T0 P) 11 (boot_heap P).life:=by kernel_rfl
theorem br1 (w:World):(boot_heap w.params).isNs mainGlobals=true∧(boot_heap w.params).objs.size=11∧(boot_heap w.params).nsMap mainGlobals "__annotations__"=some (.ref 6):=⟨by kernel_rfl,by kernel_rfl,by kernel_rfl⟩
set_option maxRecDepth 100000 in
set_option maxHeartbeats 0 in
theorem head (G:∀ K:Params→PySem.W.Frag,(∀ P,HF P (K P))→(∀ (w:World) (mg:Str→Option Value) (fa:Addr) (h:Heap),(K w.params).In h→h.Ns mainGlobals mg→mg "law"=some (.ref fa)→∃ fd:FuncData,(∀ (s:Shared) (u:Value),BindsTo s fd ⟨[u],[]⟩ [("script",u)])∧∀ base:Heap,(K w.params).In base→base.Ns mainGlobals mg→FnOk PySem.Challenge.rw_callmill_k22_whole_waits_by_turns.prog w (K w.params) mg base CX0 20 fa fd ["script"] (ap0 (K w.params)))):PySem.Challenge.rw_callmill_k22_whole_waits_by_turns.Holds:=by
 w_on; o_law; k_head; (case hw=>w_witness2); (case hl=>exact b20 rfl rfl (fun _=>rfl) br0 br1 (by intro w os; kernel_rfl))
 k_fill
 refine K22.walk2 (l:=PySem.Challenge.rw_callmill_k22_whole_waits_by_turns) rfl rfl rfl rfl (fun w h Y=>PySem.W.kIn_of Y) ?facts G
 case facts =>
  intro P
  refine' ⟨Adr.mk,fun mg h X G=>?z⟩
  case z =>
   constructor
   all_goals (try dsimp only); walk_at "fi"
end
end K22
namespace L2
open PySem PySem.Spec PyProof.Rows
section
variable {κ:Type} [DecidableEq κ]
def valV (kvs:List (κ×V)) (k:κ):Option V:=(kvs.find? fun kv=>decide (kv.1=k)).map (·.2)
def putK (kvs:List (κ×V)) (k:κ) (v:V):List (κ×V) :=
 if (kvs.any fun kv=>decide (kv.1=k))=true then kvs.map (fun kv=>if kv.1=k then (kv.1,v) else kv) else kvs++[(k,v)]
theorem af7 {p:κ×V}{r:List (κ×V)}{k:κ}(e:p.1=k):valV (p::r) k=some p.2:=by simp [valV,List.find?_cons,e]
theorem ad0 {p:κ×V}{r:List (κ×V)}{k:κ}(e:¬ p.1=k):valV (p::r) k=valV r k:=by simp [valV,List.find?_cons,e]
theorem as7 (kvs:List (κ×V)) (k:κ) (v:V):(putK kvs k v).length≤kvs.length+1:=by
 unfold putK
 split
 · rw [List.length_map]; omega
 · rw [List.length_append,List.length_cons,List.length_nil]; omega
theorem RelO.getD {o:Option V}{u:Option Value}{d:V}{d':Value}(r:RelO o u) (rd:RelV d d'):RelV (o.getD d) (u.getD d'):=by
 cases o with
 | none=>cases u with
   | none=>exact rd
   | some _=>exact (show False from r).elim
 | some _=>cases u with
   | none=>exact (show False from r).elim
   | some _=>exact r
theorem KV.val {kvs:List (κ×V)}{vs:List (κ×Value)}(r:KV kvs vs) (k:κ):RelO (valV kvs k) (valueAt vs k):=by
 unfold KV at r
 induction r with
 | nil=>exact True.intro
 | @cons p q ps qs h t ih =>
   obtain ⟨h1,h2⟩:=h
   by_cases e:p.1=k
   · have e':q.1=k:=h1.symm.trans e
     have b:valueAt (q::qs) k=some q.2:=by simp [valueAt,List.find?_cons,e']
     rw [af7 e,b]; exact h2
   · have e':¬ q.1=k:=fun z=>e (h1.trans z)
     have b:valueAt (q::qs) k=valueAt qs k:=by simp [valueAt,List.find?_cons,e']
     rw [ad0 e,b]; exact ih
theorem KV.any {kvs:List (κ×V)}{vs:List (κ×Value)}(r:KV kvs vs) (k:κ):(kvs.any fun kv=>decide (kv.1=k))=vs.any fun kv=>decide (kv.1=k):=by
 unfold KV at r
 induction r with
 | nil=>rfl
 | cons h t ih=>rw [List.any_cons,List.any_cons,ih,h.1]
theorem KV.repl {kvs:List (κ×V)}{vs:List (κ×Value)}(r:KV kvs vs) (k:κ) {y:V}{u:Value}(ry:RelV y u) :
 KV (kvs.map fun kv=>if kv.1=k then (kv.1,y) else kv) (vs.map fun kv=>if kv.1=k then (kv.1,u) else kv):=by
 unfold KV at r ⊢
 induction r with
 | nil=>exact .nil
 | @cons p q ps qs h t ih =>
   rw [List.map_cons,List.map_cons]
   refine .cons ?_ ih
   obtain ⟨h1,h2⟩:=h
   by_cases e:p.1=k
   · rw [if_pos e,if_pos (h1.symm.trans e)]; exact ⟨h1,ry⟩
   · rw [if_neg e,if_neg (fun z=>e (h1.trans z))]; exact ⟨h1,h2⟩
theorem KV.put {kvs:List (κ×V)}{vs:List (κ×Value)}(r:KV kvs vs) (k:κ) {y:V}{u:Value}(ry:RelV y u):KV (putK kvs k y) (stored vs k u):=by
 unfold putK stored
 rw [r.any k]
 by_cases e:(vs.any fun kv=>decide (kv.1=k))=true
 · rw [if_pos e,if_pos e]; exact r.repl k ry
 · rw [if_neg e,if_neg e]; exact Paired.snoc r ⟨rfl,ry⟩
end
theorem bh4 {P:Program}{w:World}{k:Key}{u:Value}(r:RelV (kV k) u):(a42 P w).is k u=true:=by
 cases k with
 | inl i=>obtain ⟨t,e⟩:=(show ∃ t,u=Value.int i t from r); subst e; exact ar7 P w i t
 | inr x=>obtain ⟨t,e⟩:=(show ∃ t,u=Value.str x t from r); subst e; exact ar8 P w x t
theorem ap1 {P:Program}{w:World}:∀ {ks:List Key}{us:List Value},Vals (ks.map kV) us→ItemsAre (a42 P w) ks us
 | [],_,r=>by rw [List.map_nil] at r; cases r; exact .nil
 | k::ks,_,r=>by
   rw [List.map_cons] at r
   cases r with
   | cons h t=>exact .cons (bh4 h) (ap1 t)
abbrev KT (H:Hp):List (List Key×V)→List (List Key×Addr×Value)→Prop:=Paired fun p q=>p.1=q.1∧H q.2.1=some (.tup (p.1.map kV))∧RelV p.2 q.2.2
theorem KT.val {H:Hp}{kvs:List (List Key×V)}{xs:List (List Key×Addr×Value)}(r:KT H kvs xs) (k:List Key):RelO (valV kvs k) ((atKey xs k).map (·.2)):=by
 induction r with
 | nil=>exact True.intro
 | @cons p q ps qs h t ih =>
   obtain ⟨h1,_,h2⟩:=h
   by_cases e:p.1=k
   · have e':q.1=k:=h1.symm.trans e
     have b:atKey (q::qs) k=some q.2:=by simp [atKey,List.find?_cons,e']
     rw [af7 e,b]; exact h2
   · have e':¬ q.1=k:=fun z=>e (h1.trans z)
     have b:atKey (q::qs) k=atKey qs k:=by simp [atKey,List.find?_cons,e']
     rw [ad0 e,b]; exact ih
section
variable {P:Program}{w:World}{H:Hp}{h:Heap}{a:Addr}
theorem br2 {u:HO}(ok:HOk P w H h) (e:Rd H a u):ObjOk P w H h a u:=e.ok ok
theorem bh5 {kvs:List (Key×V)}(ok:HOk P w H h) (e:Rd H a (.dK kvs)):kvs.length≤sizeLine∧(a == sysModules)=false∧∃ vs,KV kvs vs∧h.DictOf (a42 P w) a vs :=
 show ObjOk P w H h a (.dK kvs) from br2 ok e
theorem c09 {kvs:List (Key×V)}(ok:HOk P w H h) (e:H a=some (.dK kvs)):kvs.length≤sizeLine∧(a == sysModules)=false∧∃ vs,KV kvs vs∧h.DictOf (a42 P w) a vs:=bh5 ok (.inl e)
theorem bd7 {ks:List Key}(ok:HOk P w H h) (e:H a=some (.tup (ks.map kV))):(tupleKind (a42 P w)).is h ks a:=by
 obtain ⟨_,its,r,o,h1,h2,n,h3⟩:=(show ObjOk P w H h a (.tup (ks.map kV)) from ok a _ e)
 exact ⟨o,its.toArray,n,h1,h2,h3,by simpa using ap1 r⟩
theorem br3 {kvs:List (List Key×V)}(ok:HOk P w H h) (e:Rd H a (.dT kvs)):kvs.length≤sizeLine∧(a == sysModules)=false ∧
 ∃ xs,KT H kvs xs∧h.DictOfH (tupleKind (a42 P w)) a xs:=by
 obtain ⟨z,y,xs,r,o,es,ep,h1,h2,h3,h4,h5⟩:=(show ObjOk P w H h a (.dT kvs) from br2 ok e)
 refine ⟨z,y,xs,r,o,es,ep,h1,h2,h3,h4,fun x hx=>?_,h5⟩
 have all:∀ {l:List (List Key×V)}{m:List (List Key×Addr×Value)},KT H l m→∀ x∈m,(tupleKind (a42 P w)).is h x.1 x.2.1:=by
  intro l m q
  induction q with
  | nil=>intro x hx; exact nomatch hx
  | @cons p q ps qs hq t ih =>
    intro x hx
    rcases List.mem_cons.mp hx with e | hx
    · subst e
      exact bd7 ok (by rw [← hq.1]; exact hq.2.1)
    · exact ih x hx
 exact all r x hx
end
def DGet (H:Hp) (a:Addr) (y:V) (r:Option V):Prop :=
 (∃ kvs k,Rd H a (.dK kvs)∧y=kV k∧r=valV kvs k)∨∃ kvs k b,Rd H a (.dT kvs)∧y=.ref b∧H b=some (.tup (k.map kV))∧r=valV kvs k
section
variable {X:Cx}{pins:List (Addr×Obj)}{σ:St} {H:Hp}{s:Shared}{a:Addr}{y v:V}{u r:Value}{o:Option V}{A:Around}{E:Value→Shared→Prop}
theorem Inv.big (I:Inv X pins σ H s):sysModules<s.heap.objs.size:=by
 have h:mainGlobals<s.heap.objs.size:=(I.mod.glob.keeps I.bk).lt
 exact Nat.lt_trans (by decide) h
theorem bh6 {h':Heap}{t':Nat}{ob:HO}(I:Inv X pins σ H s) (mu:Mut (H a)) (hs:Heap.SameBut a s.heap h') (he:∃ q,h'.get? a=some q) (new:ObjOk X.prog X.w (upd H a ob) h' a ob) :
 Inv X pins σ (upd H a ob) { s with heap:=h',toks:=t' } :=
 I.write (x:=a) (e:=a) mu (.inl rfl) (fun b q hb z=>(hs.2 b hb).trans z) he new
theorem br4 {P:Program}{w:World}{H':Hp}{h':Heap}{kvs:List (Key×V)}{vs:List (Key×Value)}(z:kvs.length≤sizeLine) (hd:(a == sysModules)=false) (rel:KV kvs vs) (dd:h'.DictOf (a42 P w) a vs) :
 ObjOk P w H' h' a (.dK kvs):=⟨z,hd,vs,rel,dd⟩
end
section
variable {X:Cx}{pins:List (Addr×Obj)}{σ:St} {H:Hp}{s:Shared}{a:Addr}{kvs:List (Key×V)}{k:Key}{u:Value}{A:Around}{E:Value→Shared→Prop}
end
section
variable {X:Cx}{o i e value:Expr}{pos pos' tpos:Pos}{td ty tv:TE}
end
theorem b85 {P:Program}{w:World}{H:Hp}(h:Heap) (hb:sysModules<h.objs.size):ObjOk P w H (h.push { cls:=.type "dict",data:=.dict #[] }) h.objs.size (.dK []) :=
 ⟨Nat.zero_le _,beq_eq_false_iff_ne.mpr (Ne.symm (Nat.ne_of_lt hb)),[],.nil,Heap.DictOf.new h⟩
section
variable {X:Cx}{pos:Pos}
end
def b21:List (TE×TE)→St→Hp→(List (V×V)→Hp→Prop)→Prop
 | [],_,H,Q=>Q [] H
 | (tk,tv)::r,σ,H,Q=>tk σ H fun x H1=>tv σ H1 fun y H2=>b21 r σ H2 fun ps H3=>Q ((x,y)::ps) H3
abbrev VV:List (V×V)→List (Value×Value)→Prop:=Paired fun p q=>RelV p.1 q.1∧RelV p.2 q.2
def PPs (X:Cx) (pos:Pos) (keys:List (Option Expr)) (values:List Expr) (trs:List (TE×TE)):Prop :=
 ∀ (pins:List (Addr×Obj)) (s:Shared) (σ:St) (H:Hp) (Q:List (V×V)→Hp→Prop),Inv X pins σ H s→b21 trs σ H Q →
  wpAny (model X.prog X.w) X.A (evalPairs (pairTrees keys values X.env pos)) (fun vs s'=>∃ ps H',Inv X pins σ H' s'∧VV ps vs∧Q ps H') X.xe s
theorem bh7 {X:Cx}{pos:Pos}:PPs X pos [] [] []:=fun pins s σ H Q I h=>pairTrees_nil_walk ⟨[],H,I,.nil,h⟩
theorem av1 {X:Cx}{pos:Pos}{k v:Expr}{ks:List (Option Expr)}{vs:List Expr}{tk tv:TE}{trs:List (TE×TE)}(hk:PE X k tk) (hv:PE X v tv) (hr:PPs X pos ks vs trs) :
 PPs X pos (some k::ks) (v::vs) ((tk,tv)::trs):=fun pins s σ H Q I h =>
 pairTrees_cons_walk (thn (hk pins s σ H _ I h) fun u s1 ⟨x,H1,I1,rx,q1⟩=>thn (hv pins s1 σ H1 _ I1 q1) fun w2 s2 ⟨y,H2,I2,ry,q2⟩ =>
  thn (hr pins s2 σ H2 _ I2 q2) fun ws s3 ⟨ps,H3,I3,rel,q3⟩=>⟨(x,y)::ps,H3,I3,.cons ⟨rx,ry⟩ rel,q3⟩)
def ap2 (kvs more:List (Key×V)):List (Key×V):=more.foldl (fun acc kv=>putK acc kv.1 kv.2) kvs
theorem KV.merge:∀ {more:List (Key×V)}{rs:List (Key×Value)}{kvs:List (Key×V)}{vs:List (Key×Value)},KV more rs→KV kvs vs→KV (ap2 kvs more) (merged vs rs):=by
 intro more rs kvs vs r
 unfold KV at r
 induction r generalizing kvs vs with
 | nil=>intro q; exact q
 | @cons p q ps qs h t ih =>
   intro r0
   have e:KV (putK kvs p.1 p.2) (stored vs q.1 q.2):=by
    have:=r0.put p.1 h.2
    rw [← h.1]; exact this
   exact ih e
theorem ad1:∀ (more kvs:List (Key×V)),(ap2 kvs more).length≤kvs.length+more.length
 | [],kvs=>by show kvs.length≤kvs.length+0; omega
 | p::r,kvs=>by
   have h1:=ad1 r (putK kvs p.1 p.2)
   have h2:=as7 kvs p.1 p.2
   show (ap2 (putK kvs p.1 p.2) r).length≤_
   rw [List.length_cons]; omega
theorem aj8 {P:Program}{w:World}:∀ {kvs:List (Key×V)}{ws:List (Value×Value)},VV (kvs.map fun kv=>(kV kv.1,kv.2)) ws→∃ rs,Carries (a42 P w) ws rs∧KV kvs rs
 | [],_,r=>by rw [List.map_nil] at r; cases r; exact ⟨[],True.intro,.nil⟩
 | p::kvs,_,r=>by
   rw [List.map_cons] at r
   cases r with
   | @cons a b as bs h t =>
     obtain ⟨rs,c,q⟩:=aj8 (P:=P) (w:=w) t
     obtain ⟨b1,b2⟩:=b
     exact ⟨(p.1,b2)::rs,⟨bh4 h.1,rfl,c⟩,.cons ⟨rfl,h.2⟩ q⟩
def br5 (trs:List (TE×TE)):TE:=fun σ H Q=>∀ p,H p=none→b21 trs σ (upd H p (.dK [])) fun ps H2=>H2 p=some (.dK [])∧∃ kvs:List (Key×V),ps=kvs.map (fun kv=>(kV kv.1,kv.2))∧kvs.length≤15∧Q (.ref p) (upd H2 p (.dK (ap2 [] kvs)))
theorem bh8 {X:Cx}{pos:Pos}{keys:List (Option Expr)}{values:List Expr}{trs:List (TE×TE)}(h:PPs X pos keys values trs) (hall:keys.all (·.isSome)=true) (hl:keys.length=values.length) (h0:keys≠[])
 (h15:keys.length≤15):PE X (.Dict keys values pos) (br5 trs):=by
 intro pins s σ H Q I q
 have hn:=I.hok.fresh (Nat.le_refl s.heap.objs.size)
 have I1:=I.laid (a:=s.heap.objs.size) (o:=.dK []) (h':=s.heap.push { cls:=.type "dict",data:=.dict #[] }) (t':=s.toks) (fun _ _ q=>Heap.get?_push_of_some _ q) (Nat.le_refl _) (b85 s.heap I.big)
 refine wpAny_Dict_walk (knd:=a42 X.prog X.w) hall hl h0 h15 (thn (h pins _ σ _ _ I1 (q _ hn)) ?_)
 rintro ws s2 ⟨ps,H2,I2,rel,e,kvs,ep,lk,q2⟩
 subst ep
 obtain ⟨rs,c,rk⟩:=aj8 (P:=X.prog) (w:=X.w) rel
 obtain ⟨z,hd,vs0,r0,dd⟩:=c09 I2.hok e
 cases r0
 refine ⟨rs,c,dd,fun h' dd' hs=>⟨.ref s.heap.objs.size,_,?_,rfl,q2⟩⟩
 have hz:(ap2 [] kvs).length≤sizeLine:=by
  have h1:=ad1 kvs []
  rw [List.length_nil] at h1
  rw [sizeLine_eq]; omega
 have he:∃ q,h'.get? s.heap.objs.size=some q:=let ⟨q,_,_,hq,_⟩:=dd'; ⟨q,hq⟩
 exact bh6 I2 (by rw [e]; exact True.intro) hs he (br4 hz hd (rk.merge .nil) dd')
structure M2 (X:Cx) (o:Expr) (m:Str) (apos:Pos) (e f:Expr) (cpos:Pos):Prop where
 base:attributeBase o m X.env (eval o X.env)=eval o X.env
 few:((backTo cpos (starEach [e,f] X.env)).all (fun x=>!x.1) && (backToKw cpos (keywordEach [] X.env)).all (fun x=>x.1.isSome)
  && decide (([e,f]:List Expr).length+([]:List Keyword).length+(if ([]:List Keyword).isEmpty then 0 else 1)<30))=true
 line:(apos.endLine == cpos.line)=true
 trees:backTo cpos (starEach [e,f] X.env)=[(false,eval e X.env),(false,eval f X.env)]
def IsD (H:Hp) (a:Addr):Prop:=(∃ kvs,Rd H a (.dK kvs))∨∃ kvs,Rd H a (.dT kvs)
theorem br6 {X:Cx}{pins:List (Addr×Obj)}{σ:St} {H:Hp}{s:Shared}{a:Addr}(I:Inv X pins σ H s) (d:IsD H a) :
 s.TypeIs (.ref a) "dict"∧(∀ b,Value.ref a=.ref b→∃ ob,s.heap.get? b=some ob∧ob.dict=none)∧(a == sysModules)=false:=by
 rcases d with ⟨kvs,e⟩ | ⟨kvs,e⟩
 · obtain ⟨_,hd,vs,_,dd⟩:=bh5 I.hok e
   refine ⟨dd.typeIs,fun b q=>?_,hd⟩
   cases q
   obtain ⟨ob,_,_,h1,h2,_⟩:=dd
   exact ⟨ob,h1,h2.2.1⟩
 · obtain ⟨_,hd,xs,_,dd⟩:=br3 I.hok e
   refine ⟨dd.typeIs,fun b q=>?_,hd⟩
   cases q
   obtain ⟨ob,_,_,h1,h2,_⟩:=dd
   exact ⟨ob,h1,h2.2.1⟩
section
variable {X:Cx}{pins:List (Addr×Obj)}{σ:St} {H:Hp}{s:Shared}{a:Addr}{y d:V}{u r:Value}{o:Option V}{A:Around}{E:Value→Shared→Prop}
theorem br7 {Q:Value→Shared→Prop}(hu:A.units+1<cLine) (I:Inv X pins σ H s) (g:DGet H a y o) (ry:RelV y u) (rd:RelV d r) (h:∀ w' s',Inv X pins σ H s'→RelV (o.getD d) w'→Q w' s') :
 wpAny (model X.prog X.w) A (call (.builtin "dict.get") [.ref a,u,r]) Q E s:=by
 rcases g with ⟨kvs,k,e,ey,l⟩ | ⟨kvs,k,b,e,ey,eb,l⟩
 · subst ey
   obtain ⟨z,hd,vs,rel,dd⟩:=bh5 I.hok e
   refine call_meetsIn PySem.F.slot_dict_get dd.typeIs PySem.F.entry_dict_get (PySem.F.args_dict_get_3 _ _ _) (meets_dict_get_default (a42 X.prog X.w) a (bh4 ry) hd r) ⟨_,dd.mapOf,h _ _ (I.tok _) ?_⟩
   rw [l]
   exact (rel.val k).getD rd
 · subst ey
   cases (show u=Value.ref b from ry)
   obtain ⟨z,hd,xs,rel,dd⟩:=br3 I.hok e
   refine call_meetsIn PySem.F.slot_dict_get dd.typeIs PySem.F.entry_dict_get (PySem.F.args_dict_get_3 _ _ _) (meetsH_dict_get_default (tupleKind (a42 X.prog X.w)) a b hd r) ⟨tupleKind_room_in1 hu,k,xs,bd7 I.hok eb,dd,h _ _ (I.tok _) ?_⟩
   rw [l]
   exact (rel.val k).getD rd
end
def br8 (td ty tx:TE):TE:=fun σ H Q=>td σ H fun x H1=>∃ a,x=.ref a∧IsD H1 a∧ty σ H1 fun y H2=>tx σ H2 fun z H3=>∃ o,DGet H3 a y o∧Q (o.getD z) H3
section
variable {X:Cx}{o e f:Expr}{apos cpos:Pos}{td ty tx:TE}
theorem b86 (hu:X.A.units+1<cLine) (ho:PE X o td) (he:PE X e ty) (hf:PE X f tx) (m:M2 X o "get" apos e f cpos):PE X (.Call (.Attribute o "get" apos) [e,f] [] cpos) (br8 td ty tx):=by
 intro pins s σ H Q I h
 refine wpAny_Call_method m.base m.few m.line PySem.F.plainAttrs_dict PySem.F.slot_dict_get PySem.F.type_dict_get (thn (ho pins s σ H _ I h) ?_)
 rintro u s1 ⟨x,H1,I1,rx,a,ex,d,q1⟩
 subst ex
 obtain rfl:u=Value.ref a:=rx
 obtain ⟨t1,t2,_⟩:=br6 I1 d
 refine ⟨t1,t2,?_⟩
 rw [m.trees]
 refine Calls.callWith_builtin rfl (Calls.evalArgs_plain (Calls.spliced_cons (thn (he pins s1 σ H1 _ I1 q1) fun iv s2 ⟨y,H2,I2,ry,q2⟩ =>
  Calls.spliced_cons (thn (hf pins s2 σ H2 _ I2 q2) fun fv s3 ⟨z,H3,I3,rz,ov,g,q3⟩=>Calls.spliced_nil ?_))))
 exact br7 hu I3 g ry rz fun w' s4 I4 rw'=>⟨_,H3,I4,rw',q3⟩
end
section
variable {X:Cx}{pins:List (Addr×Obj)}{σ:St} {H:Hp}{s:Shared}{a:Addr}{kvs:List (Key×V)}{A:Around}{E:Value→Shared→Prop}
end
section
variable {X:Cx}{pins:List (Addr×Obj)}{σ:St} {H:Hp}{s:Shared}{a:Addr}{y:V}{u:Value}{A:Around}{E:Value→Shared→Prop}
end
section
variable {κ:Type} [DecidableEq κ]
end
def cxC (X:Cx) (N:List Str) (scope:Scope) (cl:List (Str×Addr)) (C:Addr) (s0:Shared) (H0:Hp) (ex:List Addr):Cx :=
 { X with N:=N,s₀:=s0,H₀:=H0,env:=compEnvC scope cl C X.env,outer:=X.stack,stack:=X.stack,ex:=ex,fn:=fun x=>scope.names.lookup x == some .cell,pn:=[],xe:=fun _ _=>False }
theorem aj9 {env : Env} (has : ∀ x, (env.kindOf x = some .cell ∨ env.kindOf x = some .free) → ∃ c, env.cells.lookup x = some c) {scope : Scope}
    (hf : ∀ y ∈ scope.names, y.2 = .free → env.kindOf y.1 = some .cell ∨ env.kindOf y.1 = some .free) :
    ∃ cl, closureFor scope env = pure cl ∧ (∀ x c, cl.lookup x = some c → env.cells.lookup x = some c) ∧ (∀ y ∈ scope.names, y.2 = .free → ∃ c, cl.lookup y.1 = some c) := by
  have gen : ∀ (names : List (Str × NameKind)) (cs : List (Str × Addr)), (∀ y ∈ names, y.2 = .free → env.kindOf y.1 = some .cell ∨ env.kindOf y.1 = some .free) →
      (∀ x c, cs.lookup x = some c → env.cells.lookup x = some c) →
      ∃ cl, (forIn (m := Sem) names cs fun p r => do
          match p with
          | (name, kind) => if kind == .free then do let c ← cellOf env name; pure (ForInStep.yield ((name, c) :: r)) else pure (ForInStep.yield r)) = pure cl ∧
        (∀ x c, cl.lookup x = some c → env.cells.lookup x = some c) ∧ (∀ x c, cs.lookup x = some c → ∃ c, cl.lookup x = some c) ∧ (∀ y ∈ names, y.2 = .free → ∃ c, cl.lookup y.1 = some c) := by
    intro names
    induction names with
    | nil => intro cs _ h; exact ⟨cs, rfl, h, fun x c e => ⟨c, e⟩, fun y hy => nomatch hy⟩
    | cons p r ih =>
      intro cs hp h
      obtain ⟨n, k⟩ := p
      by_cases hk : k = .free
      · subst hk
        obtain ⟨c, hc⟩ := has n (hp (n, .free) List.mem_cons_self rfl)
        have h' : ∀ x d, ((n, c) :: cs).lookup x = some d → env.cells.lookup x = some d := by
          intro x d e
          rw [List.lookup_cons] at e
          cases hx : x == n with
          | true =>
            rw [hx] at e
            have : x = n := by simpa using hx
            cases e; rw [this]; exact hc
          | false => rw [hx] at e; exact h x d e
        obtain ⟨cl, e1, e2, e3, e4⟩ := ih ((n, c) :: cs) (fun y hy => hp y (List.mem_cons_of_mem _ hy)) h'
        have hn : ∃ d, cl.lookup n = some d := e3 n c (by simp [List.lookup_cons])
        refine ⟨cl, ?_, e2, fun x d e => ?_, fun y hy hyk => ?_⟩
        · rw [List.forIn_cons]
          have : cellOf env n = pure c := by unfold cellOf; rw [hc]
          simp only [beq_self_eq_true, if_true, this]
          exact e1
        · by_cases hx : x = n
          · subst hx; exact hn
          · exact e3 x d (by rw [List.lookup_cons]; have : (x == n) = false := by simpa using hx
                             rw [this]; exact e)
        · rcases List.mem_cons.mp hy with rfl | hy
          · exact hn
          · exact e4 y hy hyk
      · obtain ⟨cl, e1, e2, e3, e4⟩ := ih cs (fun y hy => hp y (List.mem_cons_of_mem _ hy)) h
        refine ⟨cl, ?_, e2, e3, fun y hy hyk => ?_⟩
        · rw [List.forIn_cons]
          have : (k == NameKind.free) = false := by simpa using hk
          simp only [this]
          exact e1
        · rcases List.mem_cons.mp hy with rfl | hy
          · exact absurd hyk hk
          · exact e4 y hy hyk
  obtain ⟨cl, e1, e2, _, e4⟩ := gen scope.names [] hf (fun x c e => nomatch e)
  refine ⟨cl, ?_, e2, e4⟩
  unfold closureFor
  simp only []
  exact congrArg (· >>= fun cs => pure cs) e1 |>.trans rfl
theorem ap3 {scope:Scope}{env:Env}{x:Str}{k:NameKind}(h:(relabel scope env).names.lookup x=some k) (hk:k=.cell∨k=.free):∃ y∈scope.names,y.1=x∧(y.2=.free∨y.2=.cell):=by
 have gen:∀ names:List (Str×NameKind),(names.map fun (n,k)=>if (k == NameKind.free && env.scope.kind == .function && env.kindOf n == some .cell) then (n,NameKind.cell) else (n,k)).lookup x=some k →
  ∃ y∈names,y.1=x∧(y.2=.free∨y.2=.cell):=by
  intro names
  induction names with
  | nil=>intro h; cases h
  | cons p r ih =>
    obtain ⟨n,j⟩:=p
    intro h
    rw [List.map_cons,List.lookup_cons] at h
    have e1:(if (j == NameKind.free && env.scope.kind == .function && env.kindOf n == some .cell)=true then (n,NameKind.cell) else (n,j)).1=n:=by split <;> rfl
    dsimp only at h
    rw [e1] at h
    cases hx:x == n with
    | false =>
      rw [hx] at h
      obtain ⟨y,hy,q⟩:=ih h
      exact ⟨y,List.mem_cons_of_mem _ hy,q⟩
    | true =>
      rw [hx] at h
      have ex:x=n:=by simpa using hx
      refine ⟨(n,j),List.mem_cons_self,ex.symm,?_⟩
      by_cases hc:(j == NameKind.free && env.scope.kind == .function && env.kindOf n == some .cell)=true
      · have:=(Bool.and_eq_true _ _).mp ((Bool.and_eq_true _ _).mp hc).1
        exact .inl (by simpa using this.1)
      · rw [if_neg hc] at h
        cases h
        exact hk.symm
 exact gen scope.names h
theorem a86:∀ (names:List (Str×NameKind)) (n:Nat) (a b:List (Str×Addr)),cellsFrom n names (a++b)=cellsFrom n names a++b
 | [],_,_,_=>rfl
 | (x,k)::r,n,a,b=>by
   unfold cellsFrom
   split
   · exact a86 r (n+1) ((x,n)::a) b
   · exact a86 r n a b
theorem a87:∀ (names:List (Str×NameKind)) (n:Nat) (a:List (Str×Addr)) (x:Str) (c:Addr),(x,c)∈cellsFrom n names a→(x,c)∈a∨(x,NameKind.cell)∈names
 | [],_,_,_,_,h=>.inl h
 | (y,k)::r,n,a,x,c,h=>by
   unfold cellsFrom at h
   split at h
   · next hk =>
     rcases a87 r (n+1) _ x c h with z | z
     · rcases List.mem_cons.mp z with e | z
       · cases e
         have:k=.cell:=by simpa using hk
         subst this
         exact .inr List.mem_cons_self
       · exact .inl z
     · exact .inr (List.mem_cons_of_mem _ z)
   · rcases a87 r n a x c h with z | z
     · exact .inl z
     · exact .inr (List.mem_cons_of_mem _ z)
theorem ad2 {α:Type}:∀ {l:List (Str×α)}{x:Str}{c:α},(x,c)∈l→∃ d,l.lookup x=some d
 | [],_,_,h=>nomatch h
 | (y,d)::l,x,c,h=>by
   rw [List.lookup_cons]
   cases hx:x == y with
   | true=>exact ⟨d,rfl⟩
   | false =>
     rcases List.mem_cons.mp h with e | h
     · cases e
       simp at hx
     · exact ad2 h
theorem ad8 {α:Type}{x:Str}:∀ {a b:List (Str×α)},(a++b).lookup x=(a.lookup x).or (b.lookup x)
 | [],_=>rfl
 | (y,d)::a,b=>by
   rw [List.cons_append,List.lookup_cons,List.lookup_cons]
   cases hx:x == y with
   | true=>rfl
   | false=>exact ad8 (a:=a) (b:=b)
theorem a88:∀ (names:List (Str×NameKind)) (n:Nat) (a:List (Str×Addr)) (p:Str×Addr),p∈a→p∈cellsFrom n names a
 | [],_,_,_,h=>h
 | (y,k)::r,n,a,p,h=>by
   unfold cellsFrom
   split
   · exact a88 r (n+1) _ p (List.mem_cons_of_mem _ h)
   · exact a88 r n a p h
theorem a89:∀ (names:List (Str×NameKind)) (n:Nat) (a:List (Str×Addr)) (x:Str),(x,NameKind.cell)∈names→∃ c,(x,c)∈cellsFrom n names a
 | (y,k)::r,n,a,x,h=>by
   unfold cellsFrom
   rcases List.mem_cons.mp h with e | h
   · cases e
     exact ⟨n,a88 r (n+1) _ _ List.mem_cons_self⟩
   · split
     · exact a89 r (n+1) _ x h
     · exact a89 r n a x h
structure CellsR (X:Cx) (scope:Scope) (Nf:List Str) (r:List (Str×Addr)) (C:Addr) (h1:Heap):Prop where
 sp:∀ x c,r.lookup x=some c→(C<c∧h1.IsCell c none)∨X.env.cells.lookup x=some c
 inj:∀ x y c,r.lookup x=some c→r.lookup y=some c→x=y
 has:∀ y∈scope.names,(y.2=.free∨y.2=.cell)→∃ c,r.lookup y.1=some c
 cab:∀ x c,scope.names.lookup x=some .cell→r.lookup x=some c→C<c
 cap:∀ x∈Nf,∀ c,r.lookup x=some c→X.env.cells.lookup x=some c
theorem bh9 {X:Cx}{scope:Scope}{Nf:List Str}{cl:List (Str×Addr)}{h:Heap}{C:Addr}(hC:h.objs.size=C+1) (hX:∀ x c,X.env.cells.lookup x=some c→c<C) (hinj:∀ x y c,X.env.cells.lookup x=some c→X.env.cells.lookup y=some c→x=y)
 (hcl:∀ x c,cl.lookup x=some c→X.env.cells.lookup x=some c) (hcf:∀ y∈scope.names,y.2=.free→∃ c,cl.lookup y.1=some c) (hnx:∀ x∈Nf,(x,NameKind.cell)∉scope.names) :
 CellsR X scope Nf (cellsFrom (C+1) scope.names cl) C (pushCells h scope.names):=by
 have e0:cellsFrom (C+1) scope.names cl=cellsFrom (C+1) scope.names []++cl:=a86 scope.names (C+1) [] cl
 have ok:=cellsFrom_ok scope.names h (C+1) [] ⟨fun _ _ hm=>(nomatch hm),List.Pairwise.nil⟩ (by rw [hC]; exact Nat.le_refl _)
 rw [hC] at ok
 have hmem:∀ x c,(x,c)∈cellsFrom (C+1) scope.names []→(x,NameKind.cell)∈scope.names:=fun x c h=>by
  rcases a87 _ _ _ x c h with z | z
  · exact nomatch z
  · exact z
 have ho:∀ x,(x,NameKind.cell)∈scope.names→∃ c,(cellsFrom (C+1) scope.names []).lookup x=some c:=fun x hx=>by
  obtain ⟨c,hc⟩:=a89 scope.names (C+1) [] x hx
  exact ad2 hc
 rw [e0]
 generalize cellsFrom (C+1) scope.names []=own at ok hmem e0 ho
 have spl:∀ x c,(own++cl).lookup x=some c→(own.lookup x=some c∧C<c)∨(own.lookup x=none∧cl.lookup x=some c):=fun x c e=>by
  rw [ad8] at e
  cases hx:own.lookup x with
  | none=>rw [hx] at e; exact .inr ⟨rfl,e⟩
  | some d =>
    rw [hx] at e
    cases e
    exact .inl ⟨rfl,(ok.empty x c (PySem.mem_of_lookup hx)).2⟩
 refine ⟨fun x c e=>?_,fun x y c e1 e2=>?_,fun y hy hk=>?_,fun x c hk e=>?_,fun x hx c e=>?_⟩
 · rcases spl x c e with ⟨e1,h1⟩ | ⟨_,e1⟩
   · exact .inl ⟨h1,(ok.empty x c (PySem.mem_of_lookup e1)).1⟩
   · exact .inr (hcl x c e1)
 · rcases spl x c e1 with ⟨a1,b1⟩ | ⟨_,a1⟩ <;> rcases spl y c e2 with ⟨a2,b2⟩ | ⟨_,a2⟩
   · exact name_of_addr ok.apart (PySem.mem_of_lookup a1) (PySem.mem_of_lookup a2)
   · exact absurd (hX y c (hcl y c a2)) (Nat.not_lt.mpr (Nat.le_of_lt b1))
   · exact absurd (hX x c (hcl x c a1)) (Nat.not_lt.mpr (Nat.le_of_lt b2))
   · exact hinj x y c (hcl x c a1) (hcl y c a2)
 · rw [ad8]
   cases hx:own.lookup y.1 with
   | some d=>exact ⟨d,rfl⟩
   | none =>
     rcases hk with hk | hk
     · exact hcf y hy hk
     · obtain ⟨c,hc⟩:=ho y.1 (by rw [← hk]; exact hy)
       rw [hx] at hc
       cases hc
 · obtain ⟨d,hd⟩:=ho x (PySem.mem_of_lookup hk)
   rcases spl x c e with ⟨_,h1⟩ | ⟨z,_⟩
   · exact h1
   · rw [hd] at z
     cases z
 · rcases spl x c e with ⟨h1,_⟩ | ⟨_,e1⟩
   · exact absurd (hmem x c (PySem.mem_of_lookup h1)) (hnx x hx)
   · exact hcl x c e1
section
variable {X:Cx}{pins:List (Addr×Obj)}{σ:St} {H:Hp}{s:Shared}{N:List Str}{scope:Scope}{cl:List (Str×Addr)}{C:Addr}{ex:List Addr}{Nf:List Str}{h1:Heap}
theorem br9 (I:Inv X pins σ H s) (hC:s.heap.objs.size≤C) (hkind:scope.kind=.function) (R:CellsR X scope Nf cl C h1)
 (hex:∀ b∈ex,FpOk X pins H b) (hexl:∀ b∈ex,b<s.heap.objs.size):(cxC X N scope cl C s H ex).Ok where
 mod:=I.ok.mod
 kind:=hkind
 glob:=I.ok.glob
 blt:=I.ok.blt
 above:=hC
 inj:=R.inj
 has:=fun x hx=>by
  have hx':∃ k,(relabel scope X.env).names.lookup x=some k∧(k=.cell∨k=.free):=by
   rcases hx with h | h
   · exact ⟨_,h,.inl rfl⟩
   · exact ⟨_,h,.inr rfl⟩
  obtain ⟨k,h,hk⟩:=hx'
  obtain ⟨y,hy,e1,e2⟩:=ap3 h hk
  rw [← e1]
  exact R.has y hy e2
 cab:=fun x c h e=>Nat.le_trans hC (Nat.le_of_lt (R.cab x c (by have h':(scope.names.lookup x == some NameKind.cell)=true:=h; simpa using h') e))
 hd:=I.ok.hd
 frames:=I.ok.frames
 stk:=.inl rfl
 exf:=fun b hb=>⟨Nat.ne_of_lt (Nat.lt_of_lt_of_le (hexl b hb) hC),fun x c e=>by
  rcases R.sp x c e with ⟨z,_⟩ | z
  · exact Nat.ne_of_gt (Nat.lt_trans (Nat.lt_of_lt_of_le (hexl b hb) hC) z)
  · exact (hex b hb).2.2.2.2.1 x c z⟩
 bs:=I.bs
 bsz:=Nat.le_trans I.ok.bsz I.sz
 noex:=fun b o e hb=>by
  rcases (hex b hb).2.2.2.1 with z | z
  · exact I.ok.noex b o e z
  · have h1:=Heap.lt_size e
    have h2:=I.ok.bsz
    exact absurd (Nat.lt_of_lt_of_le h1 (Nat.le_trans h2 z)) (Nat.lt_irrefl _)
 exfs:=fun b hb z=>by
  have h1:=I.stkSub b z
  rcases List.mem_cons.mp h1 with z | z
  · exact (hex b hb).2.1 z
  · exact (hex b hb).2.2.1 z
 funs:=I.stack
 frf:=I.stkFree
def capV (caps:List Nat) (σ:St):St:=caps.map fun j=>(σ[j]?).join
def cSt (n:Nat) (caps:List Nat) (σ:St):St:=List.replicate n none++capV caps σ
theorem bi0 {caps:List Nat}{Nt:List Str}{s1:Shared}{m:Str→Option Value}(I:Inv X pins σ H s) (ok:(cxC X (Nt++Nf) scope cl C s H ex).Ok)
 (R:CellsR X scope Nf cl C s1.heap)
 (hcap:caps.map (fun j=>X.N[j]?)=Nf.map some)
 (hvis:∀ x∈Nf,scope.names.lookup x=some .free) (hXv:∀ x∈Nf,X.env.kindOf x=some .cell∨X.env.kindOf x=some .free) (hcf:∀ x∈Nf,∃ c,cl.lookup x=some c)
 (hos:s1.os=s.os) (hgens:s1.gens=s.gens) (hk:∀ b o,s.heap.get? b=some o→s1.heap.get? b=some o) (hns:s1.heap.Ns C m) (hC:s.heap.objs.size≤C) :
 Inv (cxC X (Nt++Nf) scope cl C s H ex) [] (cSt Nt.length caps σ) H s1:=by
 have hlen:caps.length=Nf.length:=by
  have:=congrArg List.length hcap
  simpa using this
 refine ⟨ok,hos,by rw [hgens]; exact I.bare,Un.kept hk,⟨m,hns,fun i x v h1 h2 h3=>?_⟩,fun x c e=>?_,I.hok.fresh hC,fun x c e=>by
  rcases R.sp x c e with ⟨z,_⟩ | z
  · exact I.hok.fresh (Nat.le_trans hC (Nat.le_of_lt z))
  · exact I.freeC x c z,fun p hp=>absurd (show p∈([]:List (Addr×Obj)) from hp) (by simp),I.hok.kept hk,?_⟩
 · -- a captured name
   have hi:Nt.length≤i:=by
    refine Nat.le_of_not_lt fun q=>?_
    unfold cSt at h2
    rw [List.getElem?_append_left (by simpa using q),List.getElem?_replicate] at h2
    split at h2 <;> cases h2
   have h1':Nf[i - Nt.length]?=some x:=by
    have:(Nt++Nf)[i]?=some x:=h1
    rwa [List.getElem?_append_right hi] at this
   unfold cSt at h2
   rw [List.getElem?_append_right (by simpa using hi)] at h2
   have e0:i - (List.replicate Nt.length (none:Option V)).length=i - Nt.length:=by simp
   rw [e0] at h2
   generalize hj:i - Nt.length=j at h1' h2
   unfold capV at h2
   rw [List.getElem?_map] at h2
   cases hc:caps[j]? with
   | none=>rw [hc] at h2; cases h2
   | some jj =>
     rw [hc] at h2
     have h2':(σ[jj]?).join=some v:=Option.some.inj h2
     have h2'':σ[jj]?=some (some v):=by
      cases q:σ[jj]? with
      | none=>rw [q] at h2'; cases h2'
      | some z=>rw [q] at h2'; cases z with
        | none=>cases h2'
        | some z'=>cases h2'; rfl
     have hN:X.N[jj]?=some x:=by
      have q:=congrArg (fun l=>l[j]?) hcap
      simp only [List.getElem?_map,hc,h1',Option.map_some] at q
      exact Option.some.inj q
     have hx:x∈Nf:=List.mem_of_getElem? h1'
     have hXk:=hXv x hx
     obtain ⟨mX,_,hl⟩:=I.loc
     obtain ⟨u,ru,lk⟩:=hl jj x v hN h2'' (by
      rcases hXk with z | z
      · exact .inr (.inl z)
      · exact .inr (.inr z))
     refine ⟨u,ru,.inr ?_⟩
     rcases lk with ⟨z,_⟩ | ⟨_,c,hc1,hcell⟩
     · rcases hXk with y | y <;> (rw [z] at y; cases y)
     · obtain ⟨c',hc'⟩:=hcf x hx
       have e:=R.cap x hx c' hc'
       rw [hc1] at e; cases e
       refine ⟨?_,c,hc',?_⟩
       · rcases h3 with z | z | z
         · -- not a local of the block
           exfalso
           have hfree:=hvis x hx
           have z':(relabel scope X.env).names.lookup x=some .local:=z
           have gen:∀ names:List (Str×NameKind),names.lookup x=some .free→(names.map fun (n,k)=>if (k == NameKind.free && X.env.scope.kind == .function && X.env.kindOf n == some .cell) then (n,NameKind.cell) else (n,k)).lookup x≠some .local:=by
            intro names
            induction names with
            | nil=>intro h; cases h
            | cons p r ih =>
              obtain ⟨n,k⟩:=p
              intro h
              rw [List.map_cons,List.lookup_cons]
              rw [List.lookup_cons] at h
              have e1:(if (k == NameKind.free && X.env.scope.kind == .function && X.env.kindOf n == some .cell)=true then (n,NameKind.cell) else (n,k)).1=n:=by split <;> rfl
              dsimp only
              rw [e1]
              cases hx:x == n with
              | false=>rw [hx] at h; exact ih h
              | true =>
                rw [hx] at h
                cases h
                show some (if _ then (n,NameKind.cell) else (n,NameKind.free)).2≠some .local
                split <;> (intro q; cases q)
           exact gen scope.names hfree z'
         · exact .inl z
         · exact .inr z
       · obtain ⟨o,eo,d⟩:=hcell
         exact ⟨o,hk _ _ eo,d⟩
 · rcases R.sp x c e with ⟨_,z⟩ | z
   · exact ⟨none,z⟩
   · obtain ⟨v,q⟩:=I.cell x c z
     obtain ⟨o,eo,d⟩:=q
     exact ⟨v,o,hk _ _ eo,d⟩
 · show (cSt Nt.length caps σ).length=(Nt++Nf).length
   unfold cSt capV
   simp [hlen]
end
abbrev bd8 (ifs:List Expr) (env:Env):Sem Bool:=forIn ifs true fun c r=>if r=true then do let ok←isTrue c env (eval c env); pure (ForInStep.yield ok) else pure (ForInStep.yield r)
abbrev NoX:Value→Shared→Prop:=fun _ _=>False
theorem ap4 {P:Program}{w:World}{B:Around}{R:Result→Shared→Prop}{s:Shared}{y tg l:Expr}{cs:List Expr}{sc:Scope}{ps:Pos}{iv av:Value}{en:Env}(G:Nat→Shared→Prop)
 (one:∀ n s,G n s→wpAny (model P w) B (pyNext iv) (fun r s1=>match r with
  | none=>R (.ok .next) s1
  | some v=>wpAny (model P w) B (letOwnedTupleGo tg iv v) (fun _ s1=>wpAny (model P w) B (assign tg en v) (fun _ s2=>wpAny (model P w) B (bd8 cs en) (fun k s3 =>
   if k=true then wpAny (model P w) B (eval y en) (fun x s4=>wpAny (model P w) B (call (.builtin "list.append") [av,x]) (fun _ s5=>∃ m,m<n∧G m s5) NoX s4) NoX s3
   else ∃ m,m<n∧G m s3) NoX s2) NoX s1) NoX s1) NoX s) (n:Nat) (h:G n s) :
 codeAny (model P w) B (.compLoop (.ListComp y [⟨tg,l,cs,0⟩] sc ps) 0 iv av en) R s:=by
 refine codeAny_loop rfl G (fun n s hG=>?_) n h
 show wpAny _ B ((compTurn (.ListComp y [⟨tg,l,cs,0⟩] sc ps) 0 iv av en).onRaise (fun x=>do noteFrame x en; theTreesLotGoes x)) _ _ s
 refine wpAny_noted ?_
 rw [compTurn_list]
 refine wpAny_bind (wpAny_standAt (wpAny_bind (wpAny_mono (one n s hG) (fun r s1 h1=>?_) fun _ _ z=>z.elim)))
 cases r with
 | none=>exact wpAny_pure h1
 | some v =>
   refine wpAny_bind (wpAny_mono h1 (fun _ s1' h1'=>?_) fun _ _ z=>z.elim)
   refine wpAny_bind (wpAny_mono h1' (fun _ s2 h2=>wpAny_bind (wpAny_mono h2 (fun k s3 h3=>?_) fun _ _ z=>z.elim)) fun _ _ z=>z.elim)
   cases k with
   | false=>exact wpAny_pure ⟨rfl,h3⟩
   | true=>exact wpAny_bind (wpAny_bind (wpAny_mono h3 (fun x s4 h4=>wpAny_bind (wpAny_mono h4 (fun _ s5 h5=>wpAny_pure (wpAny_pure ⟨rfl,h5⟩)) fun _ _ z=>z.elim)) fun _ _ z=>z.elim))
def PTs (X:Cx) (ifs:List Expr) (t:TT):Prop :=
 ∀ (pins:List (Addr×Obj)) (s:Shared) (σ:St) (H:Hp) (Q:Bool→Hp→Prop),Inv X pins σ H s→t σ H Q →
  wpAny (model X.prog X.w) X.A (bd8 ifs X.env) (TP X pins σ Q) X.xe s
def tNoIf:TT:=fun _ H Q=>Q true H
theorem a67 {X:Cx}:PTs X [] tNoIf:=fun pins s σ H Q I h=>wpAny_tests_nil ⟨H,I,h⟩
theorem b22 {X:Cx}{c:Expr}{t:TT}(h:PT X c t):PTs X [c] t:=fun pins s σ H Q I q=>wpAny_tests_one (h pins s σ H Q I q)
section
variable {X:Cx}{pins:List (Addr×Obj)}{σ:St} {H:Hp}{s:Shared}
theorem Inv.adopt {D:Addr}{o:HO}(I:Inv X pins σ H s) (hD:H D=none) (h1:X.s₀.heap.objs.size≤D) (h2:D≠X.env.locals) (h3:∀ x c,X.env.cells.lookup x=some c→c≠D) (h4:∀ p∈X.pn++pins,p.1≠D)
 (new:ObjOk X.prog X.w (upd H D o) s.heap D o):Inv X pins σ (upd H D o) s:=by
 have old:∀ {b:Addr}{q:Obj},X.s₀.heap.get? b=some q→b≠D:=fun e=>Nat.ne_of_lt (Nat.lt_of_lt_of_le (Heap.lt_size e) h1)
 refine ⟨I.ok,I.os,I.bare,⟨I.base.keep,I.base.slot,fun b q e n hx=>by rw [a14 (old e)]; exact I.base.free b q e n hx,I.base.there,fun b xs e=>?_,fun b q u e=>?_,fun b ps e=>?_⟩,I.loc,I.cell,by rw [a14 (Ne.symm h2)]; exact I.free,fun x c e=>by rw [a14 (h3 x c e)]; exact I.freeC x c e,fun p hp=>?_,fun b u e=>?_,I.len⟩
 · have e':=I.base.tups b xs e
   rw [a14 (a35 e' hD)]; exact e'
 · have e':=I.base.frzs b q u e
   rw [a14 (a35 e' hD)]; exact e'
 · obtain ⟨more,e'⟩:=I.base.tbls b ps e
   exact ⟨more,by rw [a14 (a35 e' hD)]; exact e'⟩
 · obtain ⟨a1,a2,a3,a4,a5⟩:=I.pin p hp
   exact ⟨a1,by rw [a14 (h4 p hp)]; exact a2,a3,a4,a5⟩
 · by_cases hb:b=D
   · subst hb; rw [a19] at e; cases e; exact new
   · rw [a14 hb] at e
     exact (I.hok b u e).stay (fun c v _ q=>q) (fun c q=>by rw [a14 (a35 q hD)]; exact q) fun c xs q=>by rw [a14 (a35 q hD)]; exact q
def tLC (wi:TI) (g:TG) (tt:TT) (te:TE) (n:Nat) (caps:List Nat):TE:=fun σ H Q=>wi σ H fun J H1=>∃ W:Nat→Nat→List V→St→Hp→Prop,(∃ m,W 0 m [] (cSt n caps σ) H1)∧∀ i m acc σ' H',W i m acc σ' H' →
 (J.stop i H'∧∀ l,H' l=none→Q (.ref l) (upd H' l (.lst acc))) ∨
 (J.go i H'∧acc.length<sizeLine∧∃ N:List V→St→Hp→Prop,(∀ ac σ2 H2,N ac σ2 H2→∃ m',m'<m∧W (i+1) m' ac σ2 H2)∧∀ x H2,J.yld i H' x H2→g x σ' H2 fun σ3 H3=>tt σ3 H3 fun b H4=>if b=true then te σ3 H4 fun y H5=>N (acc++[y]) σ3 H5 else N acc σ3 H4)
structure CompOk (X:Cx) (scope:Scope) (Nt Nf:List Str) (caps:List Nat):Prop where
 kind:scope.kind=.function
 nx:∀ x∈Nf,(x,NameKind.cell)∉scope.names
 nm:∀ y∈scope.names,y.2=.local→scope.names.lookup y.1=some .local
 fr:∀ y∈scope.names,y.2=.free→X.env.kindOf y.1=some .cell∨X.env.kindOf y.1=some .free
 cap:caps.map (fun j=>X.N[j]?)=Nf.map some
 vis:∀ x∈Nf,scope.names.lookup x=some .free
theorem ay3 {M:Model}{A:Around}{E:Value→Shared→Prop}{scope:Scope}{globals:Addr}{closure:List (Str×Addr)}{qual:Str}{func:Option Addr}{code:Value}{env:Env}{builtins:Addr}{Q:Env→Shared→Prop}
 (hQ:Q (newEnv scope s.heap.objs.size globals (cellsFrom (s.heap.objs.size+1) scope.names closure) qual func code (some env) builtins) { s with heap:=pushCells (s.heap.push { cls:=.type "dict",data:=.dict #[] }) scope.names }) :
 wpAny M A (newFunctionEnv scope globals closure [] qual func code (some env) builtins) Q E s:=by
 simp only [newFunctionEnv,Option.isSome_some,if_true]
 refine wpAny_bind (wpAny_alloc ?_)
 refine wpAny_bind (wpAny_layCells _ (fun name kind cells=>by cases hkc:kind == NameKind.cell <;> simp [hkc]) _ _ _ _ ?_)
 rw [show ({ s with heap:=s.heap.push { cls:=.type "dict",data:=.dict #[] } }:Shared).heap.objs.size=s.heap.objs.size+1 from Heap.size_push ..]
 rw [List.forIn_nil]
 exact wpAny_bind (wpAny_pure (wpAny_pure hQ))
theorem ak0 {tg iter elt:Expr}{ifs:List Expr}{scope:Scope}{pos:Pos}{g:TG}{tt:TT}{te:TE}{Nt Nf:List Str}{caps:List Nat}{cl:List (Str×Addr)}{it:Addr}{fp:List Addr}{tn:Nat→Heap→Prop}{J:It}{Q:VK}{E:Value→Shared→Prop}
 {RR:Value→Addr→Result→Shared→Prop}
 (hc:X.calm=true) (S:CompOk X scope Nt Nf caps)
 (hg:∀ cl C s0 H0 ex,PG (cxC X (Nt++Nf) scope cl C s0 H0 ex) tg g)
 (ht:∀ cl C s0 H0 ex,PTs (cxC X (Nt++Nf) scope cl C s0 H0 ex) ifs tt)
 (he:∀ cl C s0 H0 ex,PE (cxC X (Nt++Nf) scope cl C s0 H0 ex) elt te)
 (hcl:∀ x c,cl.lookup x=some c→X.env.cells.lookup x=some c) (hcf:∀ y∈scope.names,y.2=.free→∃ c,cl.lookup y.1=some c)
 (I:Inv X pins σ H s) (T:Turn X.prog X.w X.K tg J fp it tn) (st:tn 0 s.heap) (hfp:∀ b∈fp,FpOk X pins H b)
 (hW:∃ W:Nat→Nat→List V→St→Hp→Prop,(∃ m,W 0 m [] (cSt Nt.length caps σ) H)∧∀ i m acc σ' H',W i m acc σ' H' →
  (J.stop i H'∧∀ l,H' l=none→Q (.ref l) (upd H' l (.lst acc))) ∨
  (J.go i H'∧acc.length<sizeLine∧∃ N:List V→St→Hp→Prop,(∀ ac σ2 H2,N ac σ2 H2→∃ m',m'<m∧W (i+1) m' ac σ2 H2)∧∀ x H2,J.yld i H' x H2→g x σ' H2 fun σ3 H3=>tt σ3 H3 fun b H4=>if b=true then te σ3 H4 fun y H5=>N (acc++[y]) σ3 H5 else N acc σ3 H4))
 (fin:∀ D C m s' H',Inv X pins σ H' s'→Q (.ref D) H'→s'.heap.Ns C m→H' C=none→C≠X.env.locals→X.s₀.heap.objs.size≤C→(∀ x c,X.env.cells.lookup x=some c→c≠C)→(∀ p∈X.pn++pins,p.1≠C)→RR (.ref D) C (.ok .next) s') :
 wpAny (model X.prog X.w) X.A (newList []) (fun acc s₃=>wpAny (model X.prog X.w) X.A (newFunctionEnv scope X.env.globals cl [] X.env.qual none .none (some X.env)) (fun cenv s₄ =>
  codeAny (model X.prog X.w) X.A (.compStart (.ListComp elt [⟨tg,iter,ifs,0⟩] scope pos) 0 (.ref it) acc { cenv with scope:=relabel scope X.env }) (RR acc cenv.locals) s₄) E s₃) E s:=by
 obtain ⟨W,⟨m0,w0⟩,turn⟩:=hW
 refine wpAny_newObj_type (ay3 ?_)
 dsimp only
 generalize hH2:s.heap.push { cls:=.type "list",dict:=none,data:=.seq ([]:List Value).toArray }=P2
 have hCs:P2.objs.size=s.heap.objs.size+1:=by rw [← hH2,Heap.size_push]
 have hDC:s.heap.objs.size≠P2.objs.size:=by rw [hCs]; exact Nat.ne_of_lt (Nat.lt_succ_self _)
 have hCle:s.heap.objs.size≤P2.objs.size:=by rw [hCs]; exact Nat.le_succ _
 have below:∀ b,b<s.heap.objs.size→b≠P2.objs.size:=fun b hb=>by rw [hCs]; exact Nat.ne_of_lt (Nat.lt_succ_of_lt hb)
 have kp:=pushCells_keeps scope.names (P2.push { cls:=.type "dict",data:=.dict #[] })
 have hns₁:=(Heap.Ns.new P2 (.type "dict")).keeps kp
 have old:∀ b o,s.heap.get? b=some o→(pushCells (P2.push { cls:=.type "dict",data:=.dict #[] }) scope.names).get? b=some o:=fun b o e=>kp _ _ (Heap.get?_push_of_some _ (hH2 ▸ Heap.get?_push_of_some _ e))
 have hacc:(pushCells (P2.push { cls:=.type "dict",data:=.dict #[] }) scope.names).PlainList s.heap.objs.size #[]:=⟨_,kp _ _ (Heap.get?_push_of_some _ (hH2 ▸ Heap.get?_push_size _ rfl))⟩
 have R:=bh9 (X:=X) (scope:=scope) (Nf:=Nf) (cl:=cl) (h:=P2.push { cls:=.type "dict",data:=.dict #[] }) (C:=P2.objs.size) (Heap.size_push ..) (fun x c e=>by
  obtain ⟨v,q⟩:=I.cell x c e
  exact Nat.lt_of_lt_of_le q.lt hCle) I.ok.inj hcl hcf S.nx
 generalize cellsFrom (P2.objs.size+1) scope.names cl=r at R ⊢
 generalize pushCells (P2.push { cls:=.type "dict",data:=.dict #[] }) scope.names=h₁ at R hns₁ old hacc ⊢
 have fpl:∀ b∈fp,b<s.heap.objs.size:=fun b hb=>by
  obtain ⟨o,e,_⟩:=T.obj _ _ st b hb
  exact Heap.lt_size e
 have st₁:tn 0 h₁:=T.keep _ _ _ st fun b _ o e=>old b o e
 generalize hCe:P2.objs.size=C at hns₁ R hDC hCle below ⊢
 generalize hDe:s.heap.objs.size=D at hacc hDC hCle ⊢
 have hDl:X.env.locals<D:=by rw [← hDe]; exact I.lt
 have hDs:X.s₀.heap.objs.size≤D:=by rw [← hDe]; exact I.sz
 have hcD:∀ x c,X.env.cells.lookup x=some c→c<D:=fun x c e=>by
  obtain ⟨v,q⟩:=I.cell x c e
  rw [← hDe]; exact q.lt
 have hpD:∀ p∈X.pn++pins,p.1<D:=fun p hp=>by rw [← hDe]; exact Heap.lt_size (I.pin p hp).1
 let Y:Cx:=cxC X (Nt++Nf) scope r C s H fp
 have okY:Y.Ok:=br9 I (by rw [hDe]; exact hCle) S.kind R hfp fpl
 have hfsY:∀ b,b∈Y.fs→b<D:=fun b hb=>by
  rcases List.mem_cons.mp (I.stkSub b hb) with z | z
  · rw [z]; exact hDl
  · refine Nat.lt_of_lt_of_le ?_ hDs
    have:=(I.ok.funs.mem z)
    refine Nat.lt_of_not_le fun q=>?_
    exact absurd z (fun z=>by
     have:=I.nofs (a:=b)
     by_cases hb2:s.heap.objs.size≤b
     · exact this hb2 z
     · obtain ⟨_,o,e,_⟩:=I.ok.funs.mem z
       exact absurd (Heap.lt_size e) (Nat.not_lt.mpr q))
 have loop:∀ s₃:Shared,s₃={ s with heap:=h₁ } →
  codeAny (model X.prog X.w) X.A (.compLoop (.ListComp elt [⟨tg,iter,ifs,0⟩] scope pos) 0 (.ref it) (.ref D) Y.env) (RR (.ref D) C) s₃:=by
  rintro s₃ rfl
  have I0:Inv Y [] (cSt Nt.length caps σ) H { s with heap:=h₁ } :=
   bi0 I okY R S.cap S.vis (fun x hx=>S.fr (x,.free) (PySem.mem_of_lookup (S.vis x hx)) rfl) (fun x hx=>R.has (x,.free) (PySem.mem_of_lookup (S.vis x hx)) (.inl rfl)) rfl rfl old hns₁ (by rw [hDe]; exact hCle)
  have fpY:∀ {H':Hp},(∀ b∈fp,H' b=none)→∀ b∈fp,FpOk Y [] H' b:=fun hn b hb =>
   ⟨hn b hb,Nat.ne_of_lt (Nat.lt_of_lt_of_le (fpl b hb) (by rw [hDe]; exact hCle)),okY.exfs b hb,.inl hb,fun x c e=>by
    rcases R.sp x c e with ⟨z,_⟩ | z
    · exact Nat.ne_of_gt (Nat.lt_trans (Nat.lt_of_lt_of_le (fpl b hb) (by rw [hDe]; exact hCle)) z)
    · exact (hfp b hb).2.2.2.2.1 x c z,fun p hp=>absurd (show p∈([]:List (Addr×Obj)) from hp) (by simp)⟩
  have fpD:∀ b∈fp,b≠D:=fun b hb=>Nat.ne_of_lt (by rw [← hDe]; exact fpl b hb)
  refine ap4 (fun n s'=>∃ i acc its σ' H',Inv Y [] σ' H' s'∧tn i s'.heap∧(∀ b∈fp,H' b=none)∧s'.heap.PlainList D its∧H' D=none∧Vals acc its.toList∧acc.length≤sizeLine∧W i n acc σ' H') ?_ m0
   ⟨0,[],#[],cSt Nt.length caps σ,H,I0,st₁,fun b hb=>(hfp b hb).1,hacc,by rw [← hDe]; exact I.hok.fresh (Nat.le_refl _),.nil,Nat.zero_le _,w0⟩
  rintro n s3 ⟨i,acc,its,σ3,H3,I3,st3,fr3,⟨nd,e3⟩,hD3,rv3,hl3,w3⟩
  have cD:C≠D:=Ne.symm hDC
  have pinOk:∀ {H':Hp}{s':Shared}{o:Obj},s'.heap.get? D=some o→H' D=none→(∀ v,o.data≠.cell v)→s'.heap.get? D=some o∧H' D=none∧D≠Y.env.locals∧D∉Y.fs∧∀ v,o.data≠.cell v:=fun e n d =>
   ⟨e,n,hDC,fun z=>absurd (hfsY D z) (Nat.lt_irrefl _),d⟩
  have I3':Inv Y [(D,{ cls:=.type "list",data:=.seq its nd })] σ3 H3 s3:=I3.pins_of fun p hp=>by
   obtain rfl:p=(D,({ cls:=.type "list",data:=.seq its nd }:Obj)):=List.mem_singleton.mp hp
   exact pinOk e3 hD3 (fun v z=>by cases z)
  have fpY':∀ {H':Hp},(∀ b∈fp,H' b=none)→∀ b∈fp,FpOk Y [(D,{ cls:=.type "list",data:=.seq its nd })] H' b:=fun hn b hb=>by
   obtain ⟨a1,a2,a3,a4,a5,_⟩:=fpY hn b hb
   refine ⟨a1,a2,a3,a4,a5,fun p hp=>?_⟩
   obtain rfl:p=(D,({ cls:=.type "list",data:=.seq its nd }:Obj)):=List.mem_singleton.mp hp
   exact Ne.symm (fpD b hb)
  rcases turn i n acc σ3 H3 w3 with ⟨stop,qn⟩ | ⟨go,hlt,N,hN,step⟩
  · refine thn (T.done Y rfl rfl rfl hc i _ s3 σ3 H3 _ I3' (fpY' fr3) st3 stop) ?_
    rintro r s4 ⟨hr,I4⟩
    subst hr
    have e4:=(I4.pin (D,{ cls:=.type "list",data:=.seq its nd }) (List.mem_append_right _ List.mem_cons_self)).1
    have IX:Inv X pins σ H3 s4:=I.call' (ch:=fp) I4.os I4.base I4.hok I4.bare fun b hb=>by
     obtain ⟨_,a2,_,a4,a5,a6⟩:=hfp b hb
     exact ⟨a4,a2,a5,a6⟩
    have IA:=IX.adopt (o:=.lst acc) hD3 hDs (Nat.ne_of_gt hDl) (fun x c e=>Nat.ne_of_lt (hcD x c e)) (fun p hp=>Nat.ne_of_lt (hpD p hp)) ⟨hl3,its.toList,nd,rv3,e4⟩
    obtain ⟨m,nsC,_⟩:=I4.loc
    refine fin D C m s4 _ IA (qn D hD3) nsC (by rw [a14 cD]; exact I4.free) ?_ ?_ ?_ ?_
    · exact Nat.ne_of_gt (Nat.lt_of_lt_of_le hDl hCle)
    · exact Nat.le_trans hDs hCle
    · exact fun x c e=>Nat.ne_of_lt (Nat.lt_of_lt_of_le (hcD x c e) hCle)
    · exact fun p hp=>Nat.ne_of_lt (Nat.lt_of_lt_of_le (hpD p hp) hCle)
  · refine thn (T.item Y rfl rfl rfl hc i _ s3 σ3 H3 _ I3' (fpY' fr3) st3 go) ?_
    rintro r s4 ⟨u,hr,h4⟩
    subst hr
    refine thn h4 ?_
    rintro _ s5 ⟨x,H5,I5,r5,y5,st5,fr5⟩
    have I5':=I5.pinned (fpY' fr5) (T.obj _ _ st5)
    refine thn (hg r C s H fp _ s5 σ3 H5 x u _ I5' r5 (step x H5 y5)) ?_
    rintro _ s6 ⟨σ6,H6,I6,q6⟩
    refine thn (ht r C s H fp _ s6 σ6 H6 _ I6 q6) ?_
    rintro b s7 ⟨H7,I7,q7⟩
    have back:∀ {σ':St} {H':Hp}{s':Shared},Inv Y ([(D,{ cls:=.type "list",data:=.seq its nd })]++an6 fp s5.heap) σ' H' s' →
     s'.heap.get? D=some { cls:=.type "list",data:=.seq its nd }∧H' D=none∧tn (i+1) s'.heap∧∀ b∈fp,H' b=none:=fun {σ' H' s'} J7=>by
     have hd:=J7.pin (D,{ cls:=.type "list",data:=.seq its nd }) (List.mem_append_right _ (List.mem_append_left _ List.mem_cons_self))
     refine ⟨hd.1,hd.2.1,T.keep _ _ _ st5 fun b hb o e=>(J7.pin (b,o) (List.mem_append_right _ (List.mem_append_right _ (ab2 hb e)))).1,fun b hb=>?_⟩
     obtain ⟨o,e,d⟩:=T.obj _ _ st5 b hb
     exact (J7.pin (b,o) (List.mem_append_right _ (List.mem_append_right _ (ab2 hb e)))).2.1
    cases b with
    | false =>
      rw [if_neg Bool.false_ne_true]
      rw [if_neg Bool.false_ne_true] at q7
      obtain ⟨m',hm,w7⟩:=hN _ _ _ q7
      obtain ⟨b1,b2,b3,b4⟩:=back I7
      exact ⟨m',hm,i+1,acc,its,σ6,H7,I7.pins_of (fun p hp=>nomatch hp),b3,b4,⟨nd,b1⟩,b2,rv3,hl3,w7⟩
    | true =>
      rw [if_pos rfl]
      rw [if_pos rfl] at q7
      refine thn (he r C s H fp _ s7 σ6 H7 _ I7 q7) ?_
      rintro u8 s8 ⟨y,H8,I8,r8,n8⟩
      obtain ⟨m',hm,w8⟩:=hN _ _ _ n8
      obtain ⟨b1,b2,b3,b4⟩:=back I8
      have hsz:its.size≤sizeLine:=by
       have h1:=rv3.length
       have h2:its.toList.length=its.size:=by simp
       omega
      refine wpAny_list_append_plain (hsz:=hsz) ⟨nd,b1⟩ fun h' pl' sb'=>?_
      have I8':Inv Y [] σ6 H8 s8:=I8.pins_of (fun p hp=>nomatch hp)
      refine ⟨m',hm,i+1,acc++[y],its.push u8,σ6,H8,I8'.turned (t':=s8.toks) (fun b o hb e=>(sb'.2 b hb).trans e) b2 hDC (.inr (by show s.heap.objs.size≤D; rw [hDe]; exact Nat.le_refl _)) (fun x c e=>by
       rcases R.sp x c e with ⟨z,_⟩ | z
       · exact Nat.ne_of_gt (Nat.lt_of_le_of_lt hCle z)
       · exact Nat.ne_of_lt (hcD x c z)) (fun p hp=>absurd (show p∈([]:List (Addr×Obj)) from hp) (by simp)),?_,b4,pl',b2,?_,?_,w8⟩
      · exact T.keep _ _ _ b3 fun b hb o e=>(sb'.2 b (fpD b hb)).trans e
      · rw [Array.toList_push]
        exact rv3.append (.cons r8 .nil)
      · rw [List.length_append,List.length_singleton]
        omega
 exact codeAny_compStart_list (loop _ rfl) (T.self _ _ _ _ _ st₁ (loop _ rfl))
theorem ay4 {tg iter elt:Expr}{ifs:List Expr}{scope:Scope}{pos:Pos}{wi:TI}{g:TG}{tt:TT}{te:TE}{Nt Nf:List Str}{caps:List Nat}(hc:X.calm=true) (S:CompOk X scope Nt Nf caps) (hi:PI X tg iter wi)
 (hg:∀ cl C s0 H0 ex,PG (cxC X (Nt++Nf) scope cl C s0 H0 ex) tg g)
 (ht:∀ cl C s0 H0 ex,PTs (cxC X (Nt++Nf) scope cl C s0 H0 ex) ifs tt)
 (he:∀ cl C s0 H0 ex,PE (cxC X (Nt++Nf) scope cl C s0 H0 ex) elt te)
 (hs:∀ x,foldedSetIterable iter X.env x=pure x:=by intro _; rfl):PE X (.ListComp elt [⟨tg,iter,ifs,0⟩] scope pos) (tLC wi g tt te Nt.length caps):=by
 intro pins s σ H Q I h
 obtain ⟨cl,hclos,hcl,hcf⟩:=aj9 I.ok.has S.fr
 rw [eval_ListComp]
 refine wpAny_comprehension_free (use:=none) rfl hs hclos S.kind S.nm (thn (hi pins s σ H _ I h) fun v s1 h1=>thn h1 fun itv s2 h2=>?_)
 obtain ⟨it,fp,tn,J,H2,e,I2,T,st2,f2,hW⟩:=h2
 subst e
 refine ak0 (RR:=fun acc C=>compPost (model X.prog X.w) X.A X.xe none (EP X pins σ Q) acc C) (Q:=Q) hc S hg ht he hcl hcf I2 T st2 f2 hW ?_
 intro D C m s' H' I' q nsC hCn hCl hCs hCc hCp
 exact ⟨m,nsC,fun h' sb=>⟨.ref D,H',I'.turned (t':=s'.toks) (fun b o hb e=>(sb.2 b hb).trans e) hCn hCl (.inr hCs) hCc hCp,rfl,q⟩⟩
theorem as8 {tg iter elt:Expr}{ifs:List Expr}{scope:Scope}{pos spos py:Pos}{y:Str}{i:Nat}{wi:TI}{g:TG}{tt:TT}{te:TE}{Nt Nf:List Str}{caps:List Nat}(hc:X.calm=true) (S:CompOk X scope Nt Nf caps) (hi:PI X tg iter wi)
 (hg:∀ cl C s0 H0 ex,PG (cxC X (Nt++Nf) scope cl C s0 H0 ex) tg g)
 (ht:∀ cl C s0 H0 ex,PTs (cxC X (Nt++Nf) scope cl C s0 H0 ex) ifs tt)
 (he:∀ cl C s0 H0 ex,PE (cxC X (Nt++Nf) scope cl C s0 H0 ex) elt te)
 (hN:X.N.Nodup) (hy:X.N[i]?=some y) (hx:Loc X.env.scope y)
 (hsw:swapsWith (.ListComp elt [⟨tg,iter,ifs,0⟩] scope pos) (some (.Name y py)) spos.line X.env=pure true)
 (hf:X.fn y=true∨X.env.scope.names.lookup y=some .local:=by first | exact .inl rfl | exact .inr rfl | assumption)
 (hs:∀ x,foldedSetIterable iter X.env x=pure x:=by intro _; rfl):PS X (.Assign [.Name y py] (.ListComp elt [⟨tg,iter,ifs,0⟩] scope pos) spos) (tAsg (tLC wi g tt te Nt.length caps) (ad5 i)):=by
 intro pins s σ H D I h
 obtain ⟨cl,hclos,hcl,hcf⟩:=aj9 I.ok.has S.fr
 rw [exec_Assign_Name_used _ _ _ _ hsw]
 refine wpAny_bind (wpAny_standAt (wpAny_bind ?_))
 show wpAny _ X.A (do let _←comprehension (.ListComp elt [⟨tg,iter,ifs,0⟩] scope pos) scope X.env _ (newList []) false (eval iter X.env) (some (assign (.Name y py) X.env))) _ _ s
 refine wpAny_bind (wpAny_mono (wpAny_comprehension_free (use:=some (assign (.Name y py) X.env)) (Q:=fun _ s'=>SP X pins D .next s') rfl hs hclos S.kind S.nm
  (thn (hi pins s σ H _ I h) fun v s1 h1=>thn h1 fun itv s2 h2=>?_)) (fun _ s' hq=>wpAny_pure (wpAny_pure hq)) fun _ _ e=>e)
 obtain ⟨it,fp,tn,J,H2,e,I2,T,st2,f2,hW⟩:=h2
 subst e
 refine ak0 (RR:=fun acc C=>compPost (model X.prog X.w) X.A X.xe (some (assign (.Name y py) X.env)) (fun _ s'=>SP X pins D .next s') acc C) (Q:=fun x H1=>ad5 i x σ H1 D.nx) hc S hg ht he hcl hcf I2 T st2 f2 hW ?_
 intro l C m s' H' I' q nsC hCn hCl hCs hCc hCp
 show wpAny _ X.A (assign (.Name y py) X.env (.ref l)) _ _ _
 refine wpAny_assign_Name (an1 (v:=.ref l) I' hN hy hx rfl (?_) hf)
 rintro s'' I'' ⟨a,sb,ha⟩
 have haC:C≠a:=by
  rcases ha with z | z
  · rw [z]; exact hCl
  · exact fun e=>hCc y a z e.symm
 refine ⟨m,nsC.sameBut sb haC,fun h' sb'=>⟨_,H',I''.turned (t':=s''.toks) (fun b o hb e=>(sb'.2 b hb).trans e) hCn hCl (.inr hCs) hCc hCp,q⟩⟩
end
section
variable {X:Cx}{tg:Expr}
end
section
variable {X:Cx}
def a31 (ys:List Str):List V:=ys.map V.str
def CBig (i j:Int):Prop:=(i.natAbs<2 ^ 4096∧j.natAbs<2 ^ 4096)∨CMul i j
theorem b23 {i:Int}{n:Nat}(h:i.natAbs<2 ^ n):Builtin.Int.intBits i≤n:=by
 unfold Builtin.Int.intBits
 split
 · exact Nat.zero_le _
 · rename_i h0
   have h1:i.natAbs≠0:=by simpa using h0
   have:=(Nat.log2_lt h1).mpr h
   omega
theorem CBig.ok {i j:Int}(h:CBig i j):IntMulOk i j:=by
 rcases h with ⟨h1,h2⟩ | h
 · exact IntMulOk.of_bits (Nat.le_trans (b23 h1) (by decide)) (Nat.le_trans (b23 h2) (by decide))
 · exact h.ok
theorem bs0:OpR X (binaryOp .Mult) (rI CBig fun i j=>.int (i*j)):=opI fun _ _ _ _ _ _ _ hc q=>mul_int q hc.ok
theorem ap5:CallR X (.type "str") (fun xs H Q=>∃ z,xs=[.str z]∧Q (.str z) H):=by
 intro pins s σ H xs us Q I r h
 obtain ⟨z,rfl,q⟩:=h
 obtain ⟨u,rfl,t,rfl⟩:=ax6 r
 exact PySem.P.str_of_str ⟨.str _,H,I,⟨_,rfl⟩,q⟩
theorem b24:∀ {ys:List Str}{us:List Value},Vals (a31 ys) us→∀ (i:Nat) (h:i<us.length),∃ y t,ys[i]?=some y∧us[i]=.str y t
 | [],_,r,i,h=>by cases r; simp at h
 | y::ys,_,r,i,h=>by
   cases r with
   | cons r1 r2 =>
     cases i with
     | zero =>
       obtain ⟨t,rfl⟩:=r1
       exact ⟨y,t,rfl,rfl⟩
     | succ i=>exact b24 (ys:=ys) r2 i (by simpa using h)
end
section
variable {X:Cx}{e:Expr}{te:TE}{pos:Pos}
def tFmt (te:TE):TE:=fun σ H Q=>te σ H fun x H1=>(∃ z,x=.str z∧z.length≤sizeLine∧Q (.str z) H1)∨∃ i:Int,x=.int i∧i.natAbs.log2<1920∧Q (.str (toString i)) H1
theorem bd9 (he:PE X e te):PE X (.FormattedValue e (-1) none pos) (tFmt te):=by
 intro pins s σ H Q I h
 refine wpAny_FormattedValue_plain (thn (he pins s σ H _ I h) ?_)
 rintro v s1 ⟨x,H1,I1,r1,q1⟩
 rcases q1 with ⟨z,rfl,hz,q⟩ | ⟨i,rfl,hi,q⟩
 · obtain ⟨t,rfl⟩:=r1
   exact wpAny_formatField_str ⟨.str z,H1,I1,⟨_,rfl⟩,q⟩ ⟨.str z,H1,I1.tok _,⟨_,rfl⟩,q⟩ hz
 · obtain ⟨t,rfl⟩:=r1
   exact wpAny_formatField_int hi ⟨.str _,H1,I1.tok _,⟨_,rfl⟩,q⟩
inductive PEs (X:Cx):List Expr→List TE→Prop
 | nil:PEs X [] []
 | cons {e es t ts}:PE X e t→PEs X es ts→PEs X (e::es) (t::ts)
def ay5:List TE→Str→TE
 | [],out=>fun _ H Q=>out.length≤sizeLine∧Q (.str out) H
 | t::r,out=>fun σ H Q=>t σ H fun x H1=>∃ y,x=.str y∧(out++y).length≤sizeLine∧ay5 r (out++y) σ H1 Q
theorem ap6:∀ {es:List Expr}{ts:List TE},PEs X es ts→∀ (out:Str) (pins:List (Addr×Obj)) (s:Shared) (σ:St) (H:Hp) (Q:VK),Inv X pins σ H s→ay5 ts out σ H Q →
 wpAny (model X.prog X.w) X.A (joinParts out (evalEach es X.env)) (EP X pins σ Q) X.xe s:=by
 intro es ts P
 induction P with
 | nil =>
   intro out pins s σ H Q I h
   exact joinParts_nil ⟨.str out,H,I.tok _,⟨_,rfl⟩,h.2⟩ h.1
 | cons p _ ih =>
   intro out pins s σ H Q I h
   refine joinParts_cons (thn (p pins s σ H _ I h) ?_)
   rintro v s1 ⟨x,H1,I1,r1,y,e,hz,q⟩
   subst e
   obtain ⟨t,rfl⟩:=r1
   exact ⟨hz,ih _ pins s1 σ H1 Q I1 q⟩
theorem bi1 {a b:Expr}{rest:List Expr}{ts:List TE}(h:PEs X (a::b::rest) ts):PE X (.JoinedStr (a::b::rest) pos) (ay5 ts Str.empty):=by
 intro pins s σ H Q I hq
 exact JoinedStr_many (ap6 h Str.empty pins s σ H Q I hq)
end
abbrev New (H:Hp) (o:HO) (Q:VK):Prop:=∀ p H',H p=none→Same H H'→H' p=some o→Q (.ref p) H'
theorem Same.new {H:Hp}{p:Addr}{o:HO}(h:H p=none):Same H (upd H p o):=fun b u e=>by rw [a14 (a35 e h)]; exact e
theorem New.to {H:Hp}{Q:VK}{o:HO}(h:New H o Q):∀ p,H p=none→Q (.ref p) (upd H p o):=fun p hp=>h p _ hp (Same.new hp) a19
section
variable {X:Cx}{es:List Expr}{t:TA}{pos:Pos}
def b87 (t:TA):TE:=fun σ H Q=>t σ H fun xs H1=>xs.length≤sizeLine∧New H1 (.lst xs) Q
def bs1 (t:TA):TE:=fun σ H Q=>t σ H fun xs H1=>xs.length≤sizeLine∧New H1 (.tup xs) Q
theorem a15 {x1}(h:PA X es t):PE X (.Tuple es x1 pos) (bs1 t):=by
 intro pins s σ H Q I hq
 refine wpAny_Tuple_spliced (thn (h pos pins s σ H _ I hq) fun us s1 ⟨xs,H1,I1,r,z,q⟩=>⟨by rw [← r.length]; exact z,?_⟩)
 refine ⟨.ref s1.heap.objs.size,upd H1 s1.heap.objs.size (.tup xs),I1.laid (t':=s1.toks) (fun b u e=>Heap.get?_push_of_some _ e) (Nat.le_refl _) ?_,rfl,New.to q _ (I1.hok.fresh (Nat.le_refl _))⟩
 exact ⟨z,us,r,⟨_,Heap.get?_push_size _ rfl,rfl,_,rfl⟩⟩
theorem a23 (h:PA X es t):PE X (.List es pos) (b87 t):=by
 intro pins s σ H Q I hq
 refine wpAny_List_spliced (thn (h pos pins s σ H _ I hq) fun us s1 ⟨xs,H1,I1,r,z,q⟩=>⟨by rw [← r.length]; exact z,?_⟩)
 refine ⟨.ref s1.heap.objs.size,upd H1 s1.heap.objs.size (.lst xs),I1.laid (t':=s1.toks) (fun b u e=>Heap.get?_push_of_some _ e) (Nat.le_refl _) ?_,rfl,New.to q _ (I1.hok.fresh (Nat.le_refl _))⟩
 exact ⟨z,us,0,r,Heap.get?_push_size _ rfl⟩
def rSlN (K:PySem.W.Frag):V→Option Int→Option Int→Hp→VK→Prop:=fun x lo hi H Q=>∃ a xs,x=.ref a∧SqL K H a xs∧New H (.lst (cutV xs lo hi)) Q
theorem b88:SlR X (rSlN X.K):=by
 intro pins s σ H x v vl vu lo hi sl Q I rx hs pl pu h
 obtain ⟨a,xs,e,h1,h2⟩:=h
 exact bh1 pins s σ H x v vl vu lo hi sl Q I rx hs pl pu ⟨a,xs,e,h1,New.to h2⟩
theorem ay6:CallR X (.type "list") (fun xs H Q=>∃ p ys,xs=[.ref p]∧(SqL X.K H p ys∨SqT X.K H p ys)∧New H (.lst ys) Q):=by
 intro pins s σ H xs us Q I r h
 obtain ⟨p,ys,e,h1,h2⟩:=h
 exact ao5 pins s σ H xs us Q I r ⟨p,ys,e,h1,New.to h2⟩
theorem as9:CallR X (.type "tuple") (fun xs H Q=>∃ p ys,xs=[.ref p]∧SqL X.K H p ys∧New H (.tup ys) Q):=by
 intro pins s σ H xs us Q I r h
 obtain ⟨p,ys,e,h1,h2⟩:=h
 exact ak8 pins s σ H xs us Q I r ⟨p,ys,e,.inl ⟨h1,New.to h2⟩⟩
end
def tTru (K:PySem.W.Frag) (ta:TE):TT:=fun σ H Q=>ta σ H fun x H'=>∃ k,TruV K x H' k∧Q k H'
def rLen (K:PySem.W.Frag):List V→Hp→VK→Prop:=fun xs H Q=>∃ x n,xs=[x]∧LenV K x H n∧Q (.int n) H
def rInS:R2:=fun x y H Q=>∃ i j,x=.str i∧y=.str j∧Q (.bl (!(Builtin.Str.occurrences j i 0 j.length 1).isEmpty)) H
def b25 (K:PySem.W.Frag):List V→Hp→VK→Prop:=fun xs H Q=>∃ p ys,xs=[.ref p]∧(SqL K H p ys∨SqT K H p ys)∧New H (.lst ys) Q
def at0 (K:PySem.W.Frag):List V→Hp→VK→Prop:=fun xs H Q=>∃ p ys,xs=[.ref p]∧SqL K H p ys∧New H (.tup ys) Q
section
variable {X:Cx}{a:Expr}{ta:TE}
theorem bs2 (ha:PE X a ta) (he:∀ whole,isTrue a X.env whole=(do let v←whole; standAt a.pos; holding [v] (truthy v))):PT X a (tTru X.K ta):=b75 ha he
theorem bs3:CallR X (.builtin "len") (rLen X.K):=b76
theorem bs4:OpR X (compareOp .In) rInS:=b05
theorem bi2:CallR X (.type "list") (b25 X.K):=ay6
theorem b89:CallR X (.type "tuple") (at0 X.K):=as9
end
def b90:R2:=fun x y H Q=>match x,y with
 | .int i,.int j=>Q (.int (i+j)) H
 | .str i,.str j=>i.length+j.length≤sizeLine∧Q (.str (i++j)) H
 | .ref l,.ref b=>∃ xs zs,H l=some (.lst xs)∧H b=some (.lst zs)∧xs.length+zs.length≤sizeLine∧New H (.lst (xs++zs)) Q
 | _,_=>False
def be0:R2:=fun x y H Q=>match x,y with
 | .int i,.int j=>CBig i j∧Q (.int (i*j)) H
 | .str z,.int n=>MulOk z n∧Q (.str (Txt.mul z n)) H
 | _,_=>False
def rStr:List V→Hp→VK→Prop:=fun xs H Q=>match xs with
 | [.int i]=>i.natAbs.log2<1920∧Q (.str (toString i)) H
 | [.str z]=>Q (.str z) H
 | _=>False
section
variable {X:Cx}
theorem a37:OpR X (binaryOp .Add) b90:=by
 intro pins s σ H x y v u Q I rx ry h
 cases x with
 | int i=>cases y with
   | int j=>exact bp3 pins s σ H _ _ v u Q I rx ry ⟨i,j,rfl,rfl,h⟩
   | _=>exact (show False from h).elim
 | str i=>cases y with
   | str j=>exact ax5 pins s σ H _ _ v u Q I rx ry ⟨i,j,rfl,rfl,h⟩
   | _=>exact (show False from h).elim
 | ref l=>cases y with
   | ref b =>
     obtain ⟨xs,zs,h1,h2,h3,h4⟩:=h
     exact bq8 pins s σ H _ _ v u Q I rx ry ⟨l,b,xs,zs,rfl,rfl,h1,h2,h3,New.to h4⟩
   | _=>exact (show False from h).elim
 | _=>exact (show False from h).elim
theorem ak9:OpR X (binaryOp .Mult) be0:=by
 intro pins s σ H x y v u Q I rx ry h
 cases x with
 | int i=>cases y with
   | int j=>exact bs0 pins s σ H _ _ v u Q I rx ry ⟨i,j,rfl,rfl,h⟩
   | _=>exact (show False from h).elim
 | str z=>cases y with
   | int n =>
     obtain ⟨t,rfl⟩:=rx
     obtain ⟨t',rfl⟩:=ry
     exact SB.mul h.1 fun t2 k=>⟨.str _,H,I.tok _,⟨_,rfl⟩,h.2⟩
   | _=>exact (show False from h).elim
 | _=>exact (show False from h).elim
theorem b91:CallR X (.type "str") rStr:=by
 intro pins s σ H xs us Q I r h
 match xs,h with
 | [.int i],h=>exact an9 pins s σ H _ us Q I r ⟨i,rfl,h⟩
 | [.str z],h=>exact ap5 pins s σ H _ us Q I r ⟨z,rfl,h⟩
theorem b92 {scope sc:Scope}{Nt Nf:List Str}{caps:List Nat}(hsc:X.env.scope=sc) (kind:scope.kind=.function) (nx:∀ x∈Nf,(x,NameKind.cell)∉scope.names) (nm:∀ y∈scope.names,y.2=.local→scope.names.lookup y.1=some .local)
 (fr:∀ y∈scope.names,y.2=.free→sc.names.lookup y.1=some .cell∨sc.names.lookup y.1=some .free) (cap:caps.map (fun j=>X.N[j]?)=Nf.map some) (vis:∀ x∈Nf,scope.names.lookup x=some .free):CompOk X scope Nt Nf caps :=
 ⟨kind,nx,nm,fun y hy h=>by show X.env.scope.names.lookup y.1=_∨X.env.scope.names.lookup y.1=_; rw [hsc]; exact fr y hy h,cap,vis⟩
theorem a56 {scope sc:Scope}{Nt Nf:List Str}{caps:List Nat}(hsc:X.env.scope=sc) (kind:scope.kind=.function) (nc:∀ y∈scope.names,y.2≠.cell) (nm:∀ y∈scope.names,y.2=.local→scope.names.lookup y.1=some .local)
 (fr:∀ y∈scope.names,y.2=.free→sc.names.lookup y.1=some .cell∨sc.names.lookup y.1=some .free) (cap:caps.map (fun j=>X.N[j]?)=Nf.map some) (vis:∀ x∈Nf,scope.names.lookup x=some .free):CompOk X scope Nt Nf caps :=
 b92 hsc kind (fun x _ h=>nc (x,.cell) h rfl) nm fr cap vis
abbrev bs5 (J:It) (te:TE) (tt:TT) (caps:List Nat) (σ:St) (H:Hp) (Q:VK):Prop:=∃ W:Nat→Nat→List V→St→Hp→Prop,(∃ m,W 0 m [] (cSt 1 caps σ) H)∧∀ i m acc σ' H',W i m acc σ' H' →
 (J.stop i H'∧∀ l,H' l=none→Q (.ref l) (upd H' l (.lst acc))) ∨
 (J.go i H'∧acc.length<sizeLine∧∃ N:List V→St→Hp→Prop,(∀ ac σ2 H2,N ac σ2 H2→∃ m',m'<m∧W (i+1) m' ac σ2 H2)∧∀ x H2,J.yld i H' x H2→ad5 0 x σ' H2 fun σ3 H3=>tt σ3 H3 fun b H4=>if b=true then te σ3 H4 fun y H5=>N (acc++[y]) σ3 H5 else N acc σ3 H4)
theorem bs6 {J:It}{te:TE}{tt:TT}{caps:List Nat}{σ:St} {H:Hp}{Q:VK}(n:Nat) (hz:n≤sizeLine) (Pv:Nat→List V→Hp→Prop) (h0:Pv 0 [] H) (hl:∀ i acc H,Pv i acc H→acc.length≤i)
 (hgo:∀ i acc H,i<n→Pv i acc H→J.go i H) (hst:∀ acc H,Pv n acc H→J.stop n H)
 (hs:∀ i x acc H H2,i<n→Pv i acc H→J.yld i H x H2→tt (some x::capV caps σ) H2 fun b H4=>if b=true then te (some x::capV caps σ) H4 fun y H5=>Pv (i+1) (acc++[y]) H5 else Pv (i+1) acc H4)
 (hd:∀ acc H,Pv n acc H→New H (.lst acc) Q):bs5 J te tt caps σ H Q:=by
 refine ⟨fun i m acc σ' H=>m=n - i∧i≤n∧(∃ v,σ'=v::capV caps σ)∧Pv i acc H,⟨n,by simp,Nat.zero_le _,⟨none,rfl⟩,h0⟩,?_⟩
 rintro i m acc σ' H' ⟨rfl,hi,⟨v,rfl⟩,p⟩
 by_cases hlt:i<n
 · refine .inr ⟨hgo i acc H' hlt p,?_,fun ac σ2 H2=>(∃ v,σ2=v::capV caps σ)∧Pv (i+1) ac H2,fun ac σ2 H2 ⟨e,p'⟩=>⟨n - (i+1),by omega,rfl,hlt,e,p'⟩,fun x H2 y=>?_⟩
   · have:=hl i acc H' p
     omega
   · have eN:∀ ac H5,((∃ u,some x::capV caps σ=u::capV caps σ)∧Pv (i+1) ac H5)=Pv (i+1) ac H5:=fun ac H5=>propext ⟨And.right,fun p=>⟨⟨_,rfl⟩,p⟩⟩
     show tt (some x::capV caps σ) H2 fun b H4=>if b=true then te (some x::capV caps σ) H4 fun y H5=>((∃ u,some x::capV caps σ=u::capV caps σ)∧Pv (i+1) (acc++[y]) H5) else ((∃ u,some x::capV caps σ=u::capV caps σ)∧Pv (i+1) acc H4)
     simp only [eN]
     exact hs i x acc H' H2 hlt p y
 · have e:i=n:=by omega
   subst e
   exact .inl ⟨hst acc H' p,New.to (hd acc H' p)⟩
theorem bi3 {K:PySem.W.Frag}{a:Addr}{xs:List V}{te:TE}{tt:TT}{caps:List Nat}{σ:St} {H:Hp}{Q:VK}(hz:xs.length≤sizeLine) (Pv:Nat→List V→Hp→Prop) (h0:Pv 0 [] H) (hl:∀ i acc H,Pv i acc H→acc.length≤i∧SqL K H a xs)
 (hs:∀ i x acc H,xs[i]?=some x→Pv i acc H→tt (some x::capV caps σ) H fun b H4=>if b=true then te (some x::capV caps σ) H4 fun y H5=>Pv (i+1) (acc++[y]) H5 else Pv (i+1) acc H4)
 (hd:∀ acc H,Pv xs.length acc H→New H (.lst acc) Q):bs5 (Itl K a) te tt caps σ H Q:=by
 refine bs6 xs.length hz Pv h0 (fun i acc H p=>(hl i acc H p).1) (fun i acc H hi p=>⟨xs,xs[i],(hl i acc H p).2,by simp [hi]⟩) (fun acc H p=>⟨xs,(hl _ acc H p).2,Nat.le_refl _⟩) ?_ hd
 rintro i x acc H1 H2 hi p ⟨rfl,y⟩
 exact hs i x acc _ (y xs (hl i acc _ p).2) p
end
end L2
namespace L2
open PySem
theorem ex_some_and {α:Type}{a:α}{p:α→Prop}:(∃ v,some (some a)=some (some v)∧p v)↔p a:=⟨fun ⟨_,e,h⟩=>by cases e; exact h,fun h=>⟨a,rfl,h⟩⟩
def be1 (J:It) (g:TG) (tb:TS) (D:Ends) (σ:St) (H1:Hp):Prop:=∃ W:Nat→Nat→St→Hp→Prop,(∃ m,W 0 m σ H1)∧∀ i m σ H,W i m σ H →
 (J.stop i H∧D.nx σ H)∨(J.go i H∧∃ N:St→Hp→Prop,(∀ σ' H',N σ' H'→∃ m',m'<m∧W (i+1) m' σ' H')∧∀ x H',J.yld i H x H'→g x σ H' fun σ2 H2=>tb { D with nx:=N,ct:=N,bk:=D.nx } σ2 H2)
def ag9 (J:It) (g:TG) (tt:TT) (te:TE) (n:Nat) (caps:List Nat) (σ:St) (H:Hp) (Q:VK):Prop:=∃ W:Nat→Nat→List V→St→Hp→Prop,(∃ m,W 0 m [] (cSt n caps σ) H)∧∀ i m acc σ' H',W i m acc σ' H' →
 (J.stop i H'∧∀ l,H' l=none→Q (.ref l) (upd H' l (.lst acc))) ∨
 (J.go i H'∧acc.length<sizeLine∧∃ N:List V→St→Hp→Prop,(∀ ac σ2 H2,N ac σ2 H2→∃ m',m'<m∧W (i+1) m' ac σ2 H2)∧∀ x H2,J.yld i H' x H2→g x σ' H2 fun σ3 H3=>tt σ3 H3 fun b H4=>if b=true then te σ3 H4 fun y H5=>N (acc++[y]) σ3 H5 else N acc σ3 H4)
section
variable {K:PySem.W.Frag}{a:Addr}{xs:List V}{te:TE}{tt:TT}{caps:List Nat}{σ:St} {H:Hp}{Q:VK}{z:Str}{lo:Int}{n:Nat}
theorem a90 (hz:xs.length≤sizeLine) (Pv:Nat→List V→Hp→Prop) (h0:Pv 0 [] H) (hl:∀ i acc H,Pv i acc H→acc.length≤i∧SqL K H a xs)
 (hs:∀ i x acc H,xs[i]?=some x→Pv i acc H→tt (some x::capV caps σ) H fun b H4=>if b=true then te (some x::capV caps σ) H4 fun y H5=>Pv (i+1) (acc++[y]) H5 else Pv (i+1) acc H4)
 (hd:∀ acc H,Pv xs.length acc H→New H (.lst acc) Q):ag9 (Itl K a) (ad5 0) tt te 1 caps σ H Q:=bi3 hz Pv h0 hl hs hd
end
theorem cxOf_K {CX:CXT}{P:Program}{w:World}{K:PySem.W.Frag}{mg:Str→Option Value}{base:Heap}{N:List Str}{qual:Str}{scope:Scope}{f:Addr}{cd:Value}{A:Around}{outer:List Env}{s:Shared}{H:Hp}{E:XK} :
 (cxOf CX P w K mg base N qual scope f cd A outer s H E).K=K:=rfl
theorem cxC_K {X:Cx}{N:List Str}{scope:Scope}{cl:List (Str×Addr)}{C:Addr}{s0:Shared}{H0:Hp}{ex:List Addr}:(cxC X N scope cl C s0 H0 ex).K=X.K:=rfl
theorem Same.seqT {K:PySem.W.Frag}{H H':Hp}{a:Addr}{xs:List V}(e:Same H H') (h:SqT K H a xs):SqT K H' a xs:=by
 rcases h with (h | ⟨o,h⟩) | h
 · exact .inl (.inl (e _ _ h))
 · exact .inl (.inr ⟨o,e _ _ h⟩)
 · exact .inr h
section
variable {X:Cx}
theorem a38 (K:PySem.W.Frag) (hK:X.K=K:=by rfl):IxR X (rIxL K):=hK ▸ ix_list
theorem a07 (K:PySem.W.Frag) (hK:X.K=K:=by rfl):IxR X (rIxT K):=hK ▸ ix_tup
theorem al0 (K:PySem.W.Frag) (hK:X.K=K:=by rfl):IxR X (rIx K):=hK ▸ bq5
theorem ab3 (K:PySem.W.Frag) (hK:X.K=K:=by rfl):SlR X (rSlN K):=hK ▸ b88
theorem aa5 (K:PySem.W.Frag) (hK:X.K=K:=by rfl):CallR X (.builtin "len") (rLen K):=hK ▸ bs3
theorem al1 (K:PySem.W.Frag) (hK:X.K=K:=by rfl):CallR X (.type "list") (b25 K):=hK ▸ bi2
theorem ah0 (K:PySem.W.Frag) (hK:X.K=K:=by rfl):CallR X (.type "tuple") (at0 K):=hK ▸ b89
theorem bs7 (K:PySem.W.Frag) (hK:X.K=K:=by rfl):OpR X (compareOp .In) (rIn K false):=hK ▸ b12
theorem al2 (K:PySem.W.Frag) {a:Expr}{ta:TE}(ha:PE X a ta) (he:∀ whole,isTrue a X.env whole=(do let v←whole; standAt a.pos; holding [v] (truthy v))) (hK:X.K=K:=by rfl):PT X a (tTru K ta):=hK ▸ bs2 ha he
theorem a40 (K:PySem.W.Frag) {tg l:Expr}{tl:TE}(hl:PE X l tl) (hK:X.K=K:=by rfl):PI X tg l (bf9 K tl):=hK ▸ bg0 hl
theorem bi4 (K:PySem.W.Frag) {tg l:Expr}{tl:TE}(hl:PE X l tl) (hK:X.K=K:=by rfl):PI X tg l (iTup K tl):=hK ▸ bp0 hl
theorem aa6 (K:PySem.W.Frag) {pos:Pos}{es:List Expr}{k:Nat}{t:TGs}{n:Nat}(hc:X.calm=true) (h:PGs X es t) (hn:(assignEach es X.env).length=n:=by rfl) (hst:(assignEach es X.env).findIdx? (·.1)=none:=by rfl) (hK:X.K=K:=by rfl) :
 PG X (.Tuple es k pos) (gTup K n t):=hK ▸ bo7 hc h hn hst
theorem a64 (K:PySem.W.Frag) {o e:Expr}{es:List Expr}{to:TE}{t:TA}{name:Str}{apos cpos:Pos}{T id:String}{r:V→List V→Hp→VK→Prop}(pa:PlainAttrs T) (slot:Slot T name id) (hty:typeOf (.builtin id)=pure (.type "method_descriptor")) (hm:MtR X id r) (ho:PE X o to) (ha:PA X (e::es) t)
 (hbase:attributeBase o name X.env (eval o X.env)=eval o X.env:=by rfl)
 (hfew:((backTo cpos (starEach (e::es) X.env)).all (fun x=>!x.1) && (backToKw cpos (keywordEach [] X.env)).all (fun x=>x.1.isSome) && decide ((e::es).length+([]:List Keyword).length+(if ([]:List Keyword).isEmpty then 0 else 1)<30))=true:=by rfl)
 (hline:(apos.endLine == cpos.line)=true:=by rfl) (hs:starEach (e::es) X.env=(false,eval e X.env)::starEach es X.env:=by rfl) (hplain:(backTo cpos (starEach es X.env)).any (·.1)=false:=by rfl) (hK:X.K=K:=by rfl) :
 PE X (.Call (.Attribute o name apos) (e::es) [] cpos) (tBM K T r to t):=hK ▸ bz9 pa slot hty hm ho ha hbase hfew hline hs hplain
end
theorem ae7:bootBuiltins "len"=some (.builtin "len"):=by decide +kernel
theorem bs8:bootBuiltins "int"=some (.type "int"):=by decide +kernel
theorem bs9:bootBuiltins "str"=some (.type "str"):=by decide +kernel
theorem at1:bootBuiltins "list"=some (.type "list"):=by decide +kernel
theorem al3:bootBuiltins "tuple"=some (.type "tuple"):=by decide +kernel
def Bd (p:Nat) (x:Int):Prop:=x.natAbs<2 ^ p
theorem Bd.mono {p q:Nat}{x:Int}(h:Bd p x) (l:p≤q):Bd q x:=Nat.lt_of_lt_of_le h (Nat.pow_le_pow_right (by decide) l)
theorem Bd.big {p q:Nat}{x y:Int}(h:Bd p x) (h':Bd q y) (hp:p≤4096:=by decide) (hq:q≤4096:=by decide):CBig x y:=.inl ⟨h.mono hp,h'.mono hq⟩
theorem Bd.of {p:Nat}{x:Int}(h0:0≤x) (h1:x<2 ^ p):Bd p x:=by
 unfold Bd
 have e:((2 ^ p:Nat):Int)=(2:Int) ^ p:=by norm_cast
 omega
end L2
local macro_rules | `(tactic| walk_at "rd") => `(tactic| simp only [L2.tCB, L2.tCons, L2.tNil, L2.tVar, L2.rStr, L2.tNoIf, L2.capV, List.map_nil, List.getElem?_cons_zero, L2.ex_some_and, if_true])
namespace L2
open PySem
theorem le_line {n:Nat}(h:n≤1000000):n≤sizeLine:=Nat.le_trans h (by decide)
theorem ay7 {ys:List Str}{i:Nat}{y:Str}(e:ys[i]?=some y):a31 (ys.take i)++[V.str y]=a31 (ys.take (i+1)):=by
 unfold a31
 rw [List.take_add_one,e]
 simp
theorem ap7 {i:Int}(h:i.natAbs<2 ^ 64):i.natAbs.log2<1920:=by
 by_cases h0:i.natAbs=0
 · rw [h0]; decide
 · exact Nat.lt_of_lt_of_le ((Nat.log2_lt h0).mpr h) (by decide)
theorem be2 {x y:Str}(h:x.cps.toList=y.cps.toList):x=y:=by
 cases x; cases y
 simp at h
 simp [h]
theorem be3 (x y:Str):(x++y).cps.toList=x.cps.toList++y.cps.toList:=by
 show (x.cps++y.cps).toList=_
 simp
theorem b93 (x:Str):Str.empty++x=x:=be2 (by rw [be3]; rfl)
theorem b94 (x y z:Str):x++y++z=x++(y++z):=be2 (by simp only [be3,List.append_assoc])
theorem av2 (c:Nat):(⟨#[c]⟩:Str).length=1:=rfl
theorem b26 {k:Int}(h0:0≤k) (h1:k<10):k=0∨k=1∨k=2∨k=3∨k=4∨k=5∨k=6∨k=7∨k=8∨k=9:=by
 obtain ⟨n,rfl⟩:=Int.eq_ofNat_of_zero_le h0
 exact (by decide:∀ n:Nat,n<10→(n:Int)=0∨(n:Int)=1∨(n:Int)=2∨(n:Int)=3∨(n:Int)=4∨(n:Int)=5∨(n:Int)=6∨(n:Int)=7∨(n:Int)=8∨(n:Int)=9) n (Int.ofNat_lt.mp h1)
theorem b27 {k:Int}(h0:0≤k) (h1:k<10):(Str.ofString (toString k)).length=1:=by
 rcases b26 h0 h1 with rfl | rfl | rfl | rfl | rfl | rfl | rfl | rfl | rfl | rfl <;> decide +kernel
theorem nox_K {X:Cx}:X.nox.K=X.K:=rfl
theorem wish_K {X:Cx}{E:Value→Shared→Prop}:(X.wish E).K=X.K:=rfl
section
variable {σ:St} {H:Hp}{Q:VK}{D:Ends}{nn bb cc:St→Hp→Prop}{rr:VK}{t u:TS}{ta tb tc te:TE}{tA tB:TT}{g:TG}{QT:Bool→Hp→Prop}{QA:List V→Hp→Prop}{QS:St→Hp→Prop}
theorem c10 (h:te σ H fun x H1=>g x σ H1 nn):tAsg te g ⟨nn,rr,bb,cc⟩ σ H:=h
theorem i_name {i:Nat}{v:V}(h:QS (σ.set i (some v)) H):ad5 i v σ H QS:=h
theorem i_var {i:Nat}{v:V}(e:σ[i]?=some (some v)) (h:Q v H):tVar i σ H Q:=⟨v,e,h⟩
theorem i_c {v:V}(h:Q v H):tC v σ H Q:=h
theorem i_op {r:R2}(h:ta σ H fun x H1=>tb σ H1 fun y H2=>r x y H2 Q):tOp r ta tb σ H Q:=h
theorem i_un {r:V→Hp→VK→Prop}(h:ta σ H fun x H1=>r x H1 Q):tUn r ta σ H Q:=h
theorem i_rU {f:Int→V}{i:Int}(h:Q (f i) H):rU f (.int i) H Q:=⟨i,rfl,h⟩
theorem i_rI {C:Int→Int→Prop}{f:Int→Int→V}{i j:Int}(c:C i j) (h:Q (f i j) H):rI C f (.int i) (.int j) H Q:=⟨i,j,rfl,rfl,c,h⟩
theorem c11 {f:Int→Int→V}{i j:Int}(h:Q (f i j) H):rI0 f (.int i) (.int j) H Q:=⟨i,j,rfl,rfl,h⟩
theorem bi5 {i j:Int}(h:Q (.int (i+j)) H):b90 (.int i) (.int j) H Q:=h
theorem al4 {x y:Str}(z:x.length+y.length≤sizeLine) (h:Q (.str (x++y)) H):b90 (.str x) (.str y) H Q:=⟨z,h⟩
theorem al5 {l b:Addr}{xs zs:List V}(h1:H l=some (.lst xs)) (h2:H b=some (.lst zs)) (z:xs.length+zs.length≤sizeLine) (h:New H (.lst (xs++zs)) Q):b90 (.ref l) (.ref b) H Q:=⟨xs,zs,h1,h2,z,h⟩
theorem af8 {i j:Int}(c:CBig i j) (h:Q (.int (i*j)) H):be0 (.int i) (.int j) H Q:=⟨c,h⟩
theorem decI (i j:Int):decide (V.int i=V.int j)=decide (i=j):=by rw [Bool.eq_iff_iff]; simp
theorem decS (i j:Str):decide (V.str i=V.str j)=decide (i=j):=by rw [Bool.eq_iff_iff]; simp
theorem c12 {i j:Int}(h:Q (.bl (decide (i=j))) H):rEq (.int i) (.int j) H Q:=⟨rfl,by rw [decI]; exact h⟩
theorem c13 {i j:Str}(h:Q (.bl (decide (i=j))) H):rEq (.str i) (.str j) H Q:=⟨rfl,by rw [decS]; exact h⟩
theorem c14 {i j:Str}(h:Q (.bl (!decide (i=j))) H):rNe (.str i) (.str j) H Q:=⟨rfl,by rw [decS]; exact h⟩
theorem bt0 (h:te σ H fun x H'=>∃ k,x=.bl k∧QT k H'):bg4 te σ H QT:=h
theorem i_bl {k:Bool}{p:Bool→Prop}(h:p k):∃ j,V.bl k=V.bl j∧p j:=⟨k,rfl,h⟩
theorem c15 (h:tA σ H fun b H1=>if b=true then t D σ H1 else u D σ H1):tIfS tA t u D σ H:=h
theorem i_if (h:tA σ H fun b H1=>if b=true then ta σ H1 Q else tb σ H1 Q):tIf tA ta tb σ H Q:=h
theorem c16 (h:te σ H rr):tRet te ⟨nn,rr,bb,cc⟩ σ H:=h
theorem bt1 (h:nn σ H):bo4 ⟨nn,rr,bb,cc⟩ σ H:=h
theorem bt2 (h:te σ H fun _ H1=>nn σ H1):bo6 te ⟨nn,rr,bb,cc⟩ σ H:=h
theorem bt3 (h:cc σ H):bo5 ⟨nn,rr,bb,cc⟩ σ H:=h
theorem bt4 {tr:TA}(h:te σ H fun x H1=>tr σ H1 fun xs H2=>QA (x::xs) H2):tCons te tr σ H QA:=h
theorem c17 (h:QA [] H):tNil σ H QA:=h
theorem i_cb {r:List V→Hp→VK→Prop}{ts:TA}(h:ts σ H fun vs H1=>r vs H1 Q):tCB r ts σ H Q:=h
theorem bt5 {sp:Sp}{dvs:List V}{E:XK}{ts:TA}(h:ts σ H fun vs H1=>sp (vs++dvs) H1 Q E):bp9 sp dvs E ts σ H Q:=h
theorem c18 {ts:TA}(h:ts σ H fun xs H1=>xs.length≤sizeLine∧New H1 (.lst xs) Q):b87 ts σ H Q:=h
theorem c19 {ts:TA}(h:ts σ H fun xs H1=>xs.length≤sizeLine∧New H1 (.tup xs) Q):bs1 ts σ H Q:=h
theorem bt6 {n:Nat}{P:Prop}(h:n≤sizeLine) (p:P):n≤sizeLine∧P:=⟨h,p⟩
theorem i_rgA {j:Int}{P:Prop}(h:-(2 ^ 62)≤j) (h':j<2 ^ 62) (p:P):-(2 ^ 62)≤j∧j<2 ^ 62∧P:=⟨h,h',p⟩
theorem bt7 (h:QT true H):tNoIf σ H QT:=h
theorem c20 (h:tA σ H fun c H1=>QT (!c) H1):tNot tA σ H QT:=h
theorem c21 (h:tA σ H fun c H1=>if c=true then tB σ H1 QT else QT false H1):tAnd tA tB σ H QT:=h
theorem i_or (h:tA σ H fun c H1=>if c=true then QT true H1 else tB σ H1 QT):tOr tA tB σ H QT:=h
theorem bt8 (h:ta σ H fun x H1=>∃ c,x=.bl c∧if c=true then tb σ H1 Q else Q (.bl false) H1):bo0 ta tb σ H Q:=h
theorem c22 (h:ta σ H fun x H1=>∃ c,x=.bl c∧if c=true then Q (.bl true) H1 else tb σ H1 Q):tOrV ta tb σ H Q:=h
theorem bt9 (h:ta σ H fun x H1=>∃ c,x=.bl c∧Q (.bl (!c)) H1):bo1 ta σ H Q:=h
theorem bu0 {i:Int}(z:i.natAbs.log2<1920) (h:Q (.str (Str.ofString (toString i))) H):rStr [.int i] H Q:=⟨z,h⟩
theorem c23 {wi:TI}(h:wi σ H fun J H1=>be1 J g t D σ H1):tFor wi g t D σ H:=h
theorem i_lc {wi:TI}{n:Nat}{caps:List Nat}(h:wi σ H fun J H1=>ag9 J g tA te n caps σ H1 Q):tLC wi g tA te n caps σ H Q:=h
theorem bu1 {R:It→Hp→Prop}{ts:TA}(h:ts σ H fun vs H1=>∃ j:Int,vs=[.int j]∧-(2 ^ 62)≤j∧j<2 ^ 62∧R (Itr 0 j.toNat) H1):bp1 ts σ H R:=h
theorem bi6 {K:PySem.W.Frag}{R:It→Hp→Prop}(h:te σ H fun x H1=>∃ a,x=.ref a∧(∃ xs,SqL K H1 a xs)∧R (Itl K a) H1):bf9 K te σ H R:=h
theorem bu2 {K:PySem.W.Frag}{R:It→Hp→Prop}(h:te σ H fun x H1=>∃ a,x=.ref a∧(∃ xs,SqT K H1 a xs)∧R (Itt K a) H1):iTup K te σ H R:=h
theorem c24 {j:Int}{p:Int→Prop}(h:p j):∃ i:Int,[V.int j]=[V.int i]∧p i:=⟨j,rfl,h⟩
theorem c25 {a:Addr}{p:Addr→Prop}(h:p a):∃ b,V.ref a=V.ref b∧p b:=⟨a,rfl,h⟩
theorem i_sx {z:Str}{p:Str→Prop}(h:p z):∃ b,V.str z=V.str b∧p b:=⟨z,rfl,h⟩
theorem i_bm {K:PySem.W.Frag}{T:String}{r:V→List V→Hp→VK→Prop}{to:TE}{ts:TA}(h:to σ H fun x H1=>tyV K T x H1∧ts σ H1 fun xs H2=>r x xs H2 Q):tBM K T r to ts σ H Q:=h
theorem aa7 {K:PySem.W.Frag}{p:Addr}{xs:List V}{i:Int}{v:V}(h1:SqL K H p xs) (h2:atI xs i=some v) (h:Q v H):rIxL K (.ref p) (.int i) H Q:=⟨p,xs,i,v,rfl,rfl,h1,h2,h⟩
theorem a27 {K:PySem.W.Frag}{p:Addr}{xs:List V}{i:Int}{v:V}(h1:SqT K H p xs) (h2:atI xs i=some v) (h:Q v H):rIxT K (.ref p) (.int i) H Q:=⟨p,xs,i,v,rfl,rfl,h1,h2,h⟩
theorem b95 {K:PySem.W.Frag}{z:Str}{i:Int}{c:Nat}(hz:z.length≤sizeLine) (h2:atI z.cps.toList i=some c) (h:Q (.str ⟨#[c]⟩) H):rIx K (.str z) (.int i) H Q:=.inr (.inr ⟨z,i,c,rfl,rfl,hz,h2,h⟩)
theorem i_sl {r:V→Option Int→Option Int→Hp→VK→Prop}{tl th:TO}(h:te σ H fun x H1=>tl σ H1 fun l H2=>th σ H2 fun u H3=>r x l u H3 Q):tSl r te tl th σ H Q:=h
theorem b96 {QO:Option Int→Hp→Prop}(h:QO none H):b11 σ H QO:=h
theorem bu3 {QO:Option Int→Hp→Prop}(h:te σ H fun x H1=>∃ i,x=.int i∧QO (some i) H1):bq2 te σ H QO:=h
theorem c26 {i:Int}{p:Int→Prop}(h:p i):∃ j,V.int i=V.int j∧p j:=⟨i,rfl,h⟩
theorem ay8 {K:PySem.W.Frag}{a:Addr}{xs:List V}{lo hi:Option Int}(h1:SqL K H a xs) (h:New H (.lst (cutV xs lo hi)) Q):rSlN K (.ref a) lo hi H Q:=⟨a,xs,rfl,h1,h⟩
theorem c27 {A B:Prop}(h:A):if true=true then A else B:=iteT h
theorem c28 {A B:Prop}(h:B):if false=true then A else B:=iteF h
theorem bu4 {A B:Prop}(h:B):if (!true)=true then A else B:=iteF h
theorem bu5 {A B:Prop}(h:A):if (!false)=true then A else B:=iteT h
theorem a25 {c A B:Prop} [Decidable c] (hc:c) (h:A):if decide c=true then A else B:=by rw [decide_eq_true hc]; exact iteT h
theorem a24 {c A B:Prop} [Decidable c] (hc:¬ c) (h:B):if decide c=true then A else B:=by rw [decide_eq_false hc]; exact iteF h
theorem ak1 {c A B:Prop} [Decidable c] (hc:¬ c) (h:A):if (!decide c)=true then A else B:=by rw [decide_eq_false hc]; exact iteT h
theorem ak2 {c A B:Prop} [Decidable c] (hc:c) (h:B):if (!decide c)=true then A else B:=by rw [decide_eq_true hc]; exact iteF h
theorem bi7 {r r':R2}(h:ta σ H fun x H1=>tb σ H1 fun y H2=>r x y H2 fun z H3=>∃ k,z=.bl k∧(if k=true then tc σ H3 fun w' H4=>r' y w' H4 Q else Q (.bl false) H3)):bd4 r r' ta tb tc σ H Q:=h
theorem bu6 (h:QS σ H):gNil [] σ H QS:=⟨rfl,h⟩
theorem bi8 {gt:TG}{us:TGs}{v:V}{r:List V}(h:gt v σ H fun σ' H'=>us r σ' H' QS):an4 gt us (v::r) σ H QS:=⟨v,r,rfl,h⟩
theorem c29 {K:PySem.W.Frag}(h:te σ H fun x H'=>∃ k,TruV K x H' k∧QT k H'):tTru K te σ H QT:=h
theorem bu7 {K:PySem.W.Frag}{k:Bool}{p:Bool→Prop}(h:p k):∃ j,TruV K (.bl k) H j∧p j:=⟨k,rfl,h⟩
theorem ah1 {K:PySem.W.Frag}{p:Addr}{xs:List V}(h1:SqL K H p xs) (h:Q (.int xs.length) H):rLen K [V.ref p] H Q:=⟨_,_,rfl,.inl ⟨xs,h1,rfl⟩,h⟩
theorem bu8 {K:PySem.W.Frag}{p:Addr}{xs:List V}(h1:SqT K H p xs) (h:Q (.int xs.length) H):rLen K [V.ref p] H Q:=⟨_,_,rfl,.inr ⟨xs,h1,rfl⟩,h⟩
theorem c30 {x y:Str}(h:Q (.bl (!(Builtin.Str.occurrences y x 0 y.length 1).isEmpty)) H):rInS (.str x) (.str y) H Q:=⟨x,y,rfl,rfl,h⟩
theorem at2 {K:PySem.W.Frag}{p:Addr}{ys:List V}(h1:SqL K H p ys) (h:New H (.lst ys) Q):b25 K [.ref p] H Q:=⟨p,ys,rfl,.inl h1,h⟩
theorem al6 {K:PySem.W.Frag}{p:Addr}{ys:List V}(h1:SqL K H p ys) (h:New H (.tup ys) Q):at0 K [.ref p] H Q:=⟨p,ys,rfl,h1,h⟩
end
end L2
namespace L2
open PySem PySem.Spec PyProof.Rows
def be4 (K:PySem.W.Frag):V→List V→Hp→VK→Prop:=fun x vs H Q=>∃ l ys y j,x=.ref l∧vs=[.str y]∧SqL K H l (a31 ys)∧ys[j]?=some y∧(∀ m,m<j→ys[m]?≠some y)∧Q (.int (j:Nat)) H
section
variable {X:Cx}
theorem ap8 (K:PySem.W.Frag) (hK:X.K=K:=by rfl):MtR X "list.index" (be4 K):=by
 subst hK
 intro pins s σ H x vs v us Q I rx rv h
 obtain ⟨l,ys,y,j,rfl,rfl,hq,hj,hno,q⟩:=h
 cases rx
 obtain ⟨u,rfl,ru⟩:=rv.one
 obtain ⟨its,r,pl,hz⟩:=I.list hq
 have hlen:ys.length=its.length:=by have:=r.length; simpa [a31] using this
 have hjl:j<its.length:=by have:=(List.getElem?_eq_some_iff.mp hj).1; omega
 obtain ⟨o,n,e,hc,hd,hs⟩:=pl
 obtain ⟨cls,dd,data,sl⟩:=o
 simp only at hc hd hs
 subst hc hs
 have fy:ad7 (.str y)=true:=rfl
 have fs:(a31 ys).all ad7=true:=by simp [a31,ad7]
 have at_:∀ (m:Nat) (hm:m<its.toArray.size),∃ z,ys[m]?=some z∧eqU (.str y) its.toArray[m]=(z == y):=fun m hm=>by
  obtain ⟨z,t,ez,eu⟩:=b24 r m (by simpa using hm)
  have g1:its.toArray[m]=.str z t:=by simpa using eu
  exact ⟨z,ez,by rw [g1]; rfl⟩
 have hl16:its.length≤sizeLine:=by have:=r.length; omega
 have hsm:((j:Nat):Int)<2 ^ 63 - 1:=by
  have:(sizeLine:Nat)+1<2 ^ 63:=by rw [sizeLine_eq]; decide
  omega
 refine call_meets F.slot_list_index ⟨_,e,rfl⟩ F.entry_list_index (F.args_list_index_2 _ _) (SeqAt.list_indexAt l its.toArray n dd sl u (eqU (.str y)) j (by simpa using hjl) hsm ?_ ?_) ⟨e,?_,⟨.int j,H,I.tok _,⟨_,rfl⟩,q⟩⟩
 · obtain ⟨z,ez,eq⟩:=at_ j (by simpa using hjl)
   rw [eq]
   rw [hj] at ez
   cases ez
   simp
 · intro m hm hmj
   obtain ⟨z,ez,eq⟩:=at_ m hm
   rw [eq]
   have:z≠y:=fun e=>hno m hmj (by rw [ez,e])
   simpa using this
 · intro w hw
   exact af6 ru fy r fs w (by simpa using hw)
end
theorem av3 {K:PySem.W.Frag}{a:Addr}{xs:List V}{te:TE}{tt:TT}{caps:List Nat}{σ:St} {H:Hp}{Q:VK}(hz:xs.length≤sizeLine) (Pv:Nat→List V→Hp→Prop) (h0:Pv 0 [] H) (hl:∀ i acc H,Pv i acc H→acc.length≤i∧SqL K H a xs)
 (hs:∀ i x acc H,xs[i]?=some x→Pv i acc H→∃ p u v,x=.ref p∧SqT K H p [u,v]∧tt (some u::some v::capV caps σ) H fun b H4=>if b=true then te (some u::some v::capV caps σ) H4 fun y H5=>Pv (i+1) (acc++[y]) H5 else Pv (i+1) acc H4)
 (hd:∀ acc H,Pv xs.length acc H→New H (.lst acc) Q):ag9 (Itl K a) (gTup K 2 (an4 (ad5 0) (an4 (ad5 1) gNil))) tt te 2 caps σ H Q:=by
 refine ⟨fun i m acc σ' H=>m=xs.length - i∧i≤xs.length∧(∃ u v,σ'=u::v::capV caps σ)∧Pv i acc H,⟨xs.length,by simp,Nat.zero_le _,⟨none,none,rfl⟩,h0⟩,?_⟩
 rintro i m acc σ' H' ⟨rfl,hi,⟨u0,v0,rfl⟩,p⟩
 obtain ⟨hl1,hq⟩:=hl i acc H' p
 by_cases hlt:i<xs.length
 · refine .inr ⟨⟨xs,xs[i],hq,by simp [hlt]⟩,by omega,fun ac σ2 H2=>(∃ u v,σ2=u::v::capV caps σ)∧Pv (i+1) ac H2,fun ac σ2 H2 ⟨e,p'⟩=>⟨xs.length - (i+1),by omega,rfl,hlt,e,p'⟩,fun x H2 y=>?_⟩
   obtain ⟨e,y⟩:=y
   subst e
   obtain ⟨q,u,v,rfl,hT,hst⟩:=hs i x acc _ (y xs hq) p
   have eN:∀ ac H5,((∃ u1 v1,some u::some v::capV caps σ=u1::v1::capV caps σ)∧Pv (i+1) ac H5)=Pv (i+1) ac H5:=fun ac H5=>propext ⟨And.right,fun p=>⟨⟨_,_,rfl⟩,p⟩⟩
   refine ⟨q,[u,v],rfl,hT,rfl,u,[v],rfl,v,[],rfl,rfl,?_⟩
   show tt (some u::some v::capV caps σ) _ fun b H4=>if b=true then te (some u::some v::capV caps σ) H4 fun y H5=>((∃ u1 v1,some u::some v::capV caps σ=u1::v1::capV caps σ)∧Pv (i+1) (acc++[y]) H5) else ((∃ u1 v1,some u::some v::capV caps σ=u1::v1::capV caps σ)∧Pv (i+1) acc H4)
   simp only [eN]
   exact hst
 · have e:i=xs.length:=by omega
   subst e
   exact .inl ⟨⟨xs,hq,Nat.le_refl _⟩,New.to (hd acc H' p)⟩
section
variable {σ:St} {H:Hp}{Q:VK}
theorem b28 {K:PySem.W.Frag}{l:Addr}{ys:List Str}{y:Str}{j:Nat}(h1:SqL K H l (a31 ys)) (h2:ys[j]?=some y) (h3:∀ m,m<j→ys[m]?≠some y) (h:Q (.int (j:Nat)) H):be4 K (.ref l) [.str y] H Q:=⟨l,ys,y,j,rfl,rfl,h1,h2,h3,h⟩
theorem a51 {l:Addr}{xs:List V}{y:V}(h1:H l=some (.lst xs)) (hz:xs.length<sizeLine) (h:Q .non (upd H l (.lst (xs++[y])))):b13 (.ref l) [y] H Q:=⟨l,xs,y,rfl,rfl,h1,hz,h⟩
theorem ab4 {K:PySem.W.Frag}{l:Addr}{xs:List V}{P:Prop}(h1:SqL K H l xs) (h:P):tyV K "list" (.ref l) H∧P:=⟨.inl ⟨rfl,xs,h1⟩,h⟩
end
def Tups (H H':Hp):Prop:=∀ b xs,H b=some (.tup xs)→H' b=some (.tup xs)
theorem Same.tups {H H':Hp}(s:Same H H'):Tups H H':=fun b xs h=>s b _ h
theorem Tups.upd {H:Hp}{l:Addr}{xs:List V}{o:HO}(h:H l=some (.lst xs)):Tups H (upd H l o):=fun b ys e=>by rw [a14 (b71 e h (fun z=>nomatch z))]; exact e
theorem vac {P:Program}{w:World}{K:PySem.W.Frag}{mg:Str→Option Value}{base:Heap}{CX:CXT}{k:Nat}{f:Addr}{fd:FuncData}{ps:List Str}{sp:Sp}(h:∀ vs H Q E,¬ sp vs H Q E):FnOk P w K mg base CX k f fd ps sp :=
 ⟨fun vs H Q E q=>(h _ _ _ _ q).elim,fun A outer s H args us vs Q E _ _ _ _ q=>(h _ _ _ _ q).elim⟩
end L2
namespace L2
open PySem
theorem Same.updNew {H H1:Hp}{l:Addr}{o:HO}(s:Same H H1) (h:H l=none):Same H (upd H1 l o):=fun b u e=>by rw [a14 (a35 e h)]; exact s b u e
inductive Ex where
 | num (i:Int)
 | box (n:Str)
 | two (k:Bool) (a b:Ex)
def Ex.h:Ex→Nat
 | .num _=>0
 | .box _=>0
 | .two _ a b=>max a.h b.h+1
def Ex.ok (ns:List Str):Ex→Prop
 | .num i=>0≤i∧i<10
 | .box n=>n∈ns
 | .two _ a b=>a.ok ns∧b.ok ns
def bi9 (k:Bool):Str:=if k then "plus" else "less"
def Ex.At (H:Hp):Ex→V→Prop
 | .num i,v=>∃ a,v=.ref a∧H a=some (.tup [.str "number",.int i])
 | .box n,v=>∃ a,v=.ref a∧H a=some (.tup [.str "box",.str n])
 | .two k e f,v=>∃ a x y,v=.ref a∧H a=some (.tup [.str (bi9 k),x,y])∧e.At H x∧f.At H y
theorem Ex.At.mono {H H':Hp}(t:Tups H H'):∀ {e:Ex}{v:V},e.At H v→e.At H' v
 | .num _,_,⟨a,h1,h2⟩=>⟨a,h1,t _ _ h2⟩
 | .box _,_,⟨a,h1,h2⟩=>⟨a,h1,t _ _ h2⟩
 | .two _ e f,_,⟨a,x,y,h1,h2,h3,h4⟩=>⟨a,x,y,h1,t _ _ h2,Ex.At.mono t h3,Ex.At.mono t h4⟩
def bval:List Str→List Int→Str→Int
 | m::ns,v::vs,n=>if m=n then v else bval ns vs n
 | _,_,_=>0
def Ex.ev (ns:List Str) (vs:List Int):Ex→Int
 | .num i=>i
 | .box n=>bval ns vs n
 | .two k a b=>if k then a.ev ns vs+b.ev ns vs else a.ev ns vs - b.ev ns vs
theorem b29:∀ {ns:List Str}{vs:List Int}{n:Str},n∈ns→ns.length≤vs.length→∃ j:Nat,ns[j]?=some n∧(∀ m:Nat,m<j→ns[m]?≠some n)∧vs[j]?=some (bval ns vs n)
 | [],_,_,h,_=>nomatch h
 | m::ns,[],n,_,hl=>by simp at hl
 | m::ns,v::vs,n,h,hl=>by
   by_cases e:m=n
   · exact ⟨0,by simp [e],fun m h=>absurd h (Nat.not_lt_zero _),by simp [bval,e]⟩
   · have h':n∈ns:=by
      rcases List.mem_cons.mp h with z | z
      · exact absurd z.symm e
      · exact z
     obtain ⟨j,h1,h2,h3⟩:=b29 (vs:=vs) h' (by simpa using hl)
     refine ⟨j+1,by simpa using h1,fun k hk=>?_,by simpa [bval,e] using h3⟩
     cases k with
     | zero=>simpa using e
     | succ k=>simpa using h2 k (by omega)
inductive Boxes (H:Hp):List V→List Str→Prop
 | nil:Boxes H [] []
 | cons {p:Addr}{n:Str}{z:Int}{xs ns}:H p=some (.tup [.str n,.int z])→Boxes H xs ns→Boxes H (.ref p::xs) (n::ns)
theorem Boxes.mono {H H':Hp}(t:Tups H H') {xs:List V}{ns:List Str}(b:Boxes H xs ns):Boxes H' xs ns:=by
 induction b with
 | nil=>exact .nil
 | cons h _ ih=>exact .cons (t _ _ h) ih
theorem Boxes.len {H:Hp}{xs:List V}{ns:List Str}(b:Boxes H xs ns):xs.length=ns.length:=by
 induction b with
 | nil=>rfl
 | cons _ _ ih=>simp [ih]
theorem Boxes.get {H:Hp}:∀ {xs:List V}{ns:List Str},Boxes H xs ns→∀ (i:Nat) (x:V),xs[i]?=some x→∃ (p:Addr) (n:Str) (z:Int),x=.ref p∧ns[i]?=some n∧H p=some (.tup [.str n,.int z])
 | _,_,.nil,i,x,e=>by simp at e
 | _,_,.cons h r,0,x,e=>by simp at e; subst e; exact ⟨_,_,_,rfl,rfl,h⟩
 | _,_,.cons h r,i+1,x,e=>r.get i x (by simpa using e)
theorem bj0 {vs:List Int}{j:Nat}{v:Int}(h:vs[j]?=some v):atI (vs.map V.int) (j:Int)=some (.int v):=a05 (by rw [List.getElem?_map,h]; rfl)
end L2
namespace L2
open PySem PySem.Spec PyProof.Rows
inductive Cd where
 | cmp (k:Bool) (a b:Ex)
 | nt (c:Cd)
 | both (c d:Cd)
def Cd.h:Cd→Nat
 | .cmp _ _ _=>0
 | .nt c=>c.h+1
 | .both c d=>max c.h d.h+1
def Cd.ok (ns:List Str) (n:Nat):Cd→Prop
 | .cmp _ a b=>(a.ok ns∧a.h≤n)∧b.ok ns∧b.h≤n
 | .nt c=>c.ok ns n
 | .both c d=>c.ok ns n∧d.ok ns n
def bj1 (k:Bool):Str:=if k then "same" else "under"
def Cd.At (H:Hp):Cd→V→Prop
 | .cmp k e f,v=>∃ a x y,v=.ref a∧H a=some (.tup [.str (bj1 k),x,y])∧e.At H x∧f.At H y
 | .nt c,v=>∃ a x,v=.ref a∧H a=some (.tup [.str "not",x])∧c.At H x
 | .both c d,v=>∃ a x y,v=.ref a∧H a=some (.tup [.str "both",x,y])∧c.At H x∧d.At H y
theorem Cd.At.mono {H H':Hp}(t:Tups H H'):∀ {c:Cd}{v:V},c.At H v→c.At H' v
 | .cmp _ e f,_,⟨a,x,y,h1,h2,h3,h4⟩=>⟨a,x,y,h1,t _ _ h2,h3.mono t,h4.mono t⟩
 | .nt c,_,⟨a,x,h1,h2,h3⟩=>⟨a,x,h1,t _ _ h2,Cd.At.mono t h3⟩
 | .both c d,_,⟨a,x,y,h1,h2,h3,h4⟩=>⟨a,x,y,h1,t _ _ h2,Cd.At.mono t h3,Cd.At.mono t h4⟩
def Cd.ev (ns:List Str) (vs:List Int):Cd→Bool
 | .cmp k a b=>if k then decide (a.ev ns vs=b.ev ns vs) else decide (a.ev ns vs<b.ev ns vs)
 | .nt c=>!c.ev ns vs
 | .both c d=>c.ev ns vs && d.ev ns vs
end L2
namespace L2
open PySem
abbrev bl1:Str:=⟨#[32]⟩
theorem b97 (w:Str) (ys:List Str):inV (.str w) (a31 ys)=decide (w∈ys):=by
 unfold inV a31
 rw [List.any_map,Bool.eq_iff_iff,List.any_eq_true,decide_eq_true_iff]
 constructor
 · rintro ⟨y,hy,e⟩
   have:(y == w)=true:=e
   have:y=w:=by simpa using this
   exact this ▸ hy
 · intro h
   exact ⟨w,h,by show (w == w)=true; simp⟩
theorem b30 (ys:List Str):(a31 ys).all ad7=true:=by simp [a31,ad7]
theorem c31 {K:PySem.W.Frag}{H:Hp}{Q:VK}{p:Addr}{ys:List Str}{w:Str}(h1:SqL K H p (a31 ys)) (h:Q (.bl (decide (w∈ys))) H):rIn K false (.str w) (.ref p) H Q:=⟨p,a31 ys,rfl,.inl h1,rfl,b30 ys,by rw [b97]; exact h⟩
end L2
namespace L2
open PySem PySem.Spec PyProof.Rows
end L2
namespace L2
open PySem
inductive Tr where
 | non
 | int (i:Int)
 | str (s:Str)
 | tup (xs:List Tr)
 | lst (xs:List Tr)
mutual
def Tr.At (H:Hp):Tr→V→List Addr→Prop
 | .non,v,fs=>v=.non∧fs=[]
 | .int i,v,fs=>v=.int i∧fs=[]
 | .str s,v,fs=>v=.str s∧fs=[]
 | .tup xs,v,fs=>∃ a vs,v=.ref a∧H a=some (.tup vs)∧Tr.Ats H xs vs fs
 | .lst xs,v,fs=>∃ a vs gs,v=.ref a∧H a=some (.lst vs)∧Tr.Ats H xs vs gs∧fs=a::gs
def Tr.Ats (H:Hp):List Tr→List V→List Addr→Prop
 | [],vs,fs=>vs=[]∧fs=[]
 | x::xs,vs,fs=>∃ v ws f g,vs=v::ws∧fs=f++g∧Tr.At H x v f∧Tr.Ats H xs ws g
end
def Keep (fs:List Addr) (H H':Hp):Prop:=Tups H H'∧∀ a∈fs,∀ xs,H a=some (.lst xs)→H' a=some (.lst xs)
theorem Same.keep {H H':Hp}(s:Same H H') (fs:List Addr):Keep fs H H':=⟨s.tups,fun a _ xs h=>s a _ h⟩
theorem Keep.upd {fs:List Addr}{H:Hp}{l:Addr}{xs:List V}{o:HO}(h:H l=some (.lst xs)) (n:l∉fs):Keep fs H (upd H l o):=⟨Tups.upd h,fun a m ys e=>by
 have hne:a≠l:=fun z=>n (z ▸ m)
 rw [a14 hne]
 exact e⟩
theorem Keep.sub {fs gs:List Addr}{H H':Hp}(k:Keep fs H H') (h:∀ a∈gs,a∈fs):Keep gs H H':=⟨k.1,fun a m=>k.2 a (h a m)⟩
mutual
theorem Tr.At.mono {H H':Hp}:∀ {x:Tr}{v:V}{fs:List Addr},x.At H v fs→Keep fs H H'→x.At H' v fs
 | .non,_,_,h,_=>by simpa only [Tr.At] using h
 | .int _,_,_,h,_=>by simpa only [Tr.At] using h
 | .str _,_,_,h,_=>by simpa only [Tr.At] using h
 | .tup xs,v,fs,h,k=>by
   simp only [Tr.At] at h ⊢
   obtain ⟨a,vs,e,g,r⟩:=h
   exact ⟨a,vs,e,k.1 _ _ g,Tr.Ats.mono r k⟩
 | .lst xs,v,fs,h,k=>by
   simp only [Tr.At] at h ⊢
   obtain ⟨a,vs,gs,e,g,r,rfl⟩:=h
   exact ⟨a,vs,gs,e,k.2 _ (by simp) _ g,Tr.Ats.mono r (k.sub fun b m=>by simp [m]),rfl⟩
theorem Tr.Ats.mono {H H':Hp}:∀ {xs:List Tr}{vs:List V}{fs:List Addr},Tr.Ats H xs vs fs→Keep fs H H'→Tr.Ats H' xs vs fs
 | [],_,_,h,_=>by simpa only [Tr.Ats] using h
 | x::xs,vs,fs,h,k=>by
   simp only [Tr.Ats] at h ⊢
   obtain ⟨v,ws,f,g,e,rfl,a,b⟩:=h
   exact ⟨v,ws,f,g,e,rfl,Tr.At.mono a (k.sub fun c m=>by simp [m]),Tr.Ats.mono b (k.sub fun c m=>by simp [m])⟩
end
theorem Tr.Ats.snoc {H:Hp}:∀ {xs:List Tr}{vs:List V}{fs gs:List Addr}{x:Tr}{v:V},Tr.Ats H xs vs fs→x.At H v gs→Tr.Ats H (xs++[x]) (vs++[v]) (fs++gs)
 | [],vs,fs,gs,x,v,h,a=>by
   simp only [Tr.Ats] at h
   obtain ⟨rfl,rfl⟩:=h
   simp only [List.nil_append,Tr.Ats]
   exact ⟨v,[],gs,[],rfl,by simp,a,rfl,rfl⟩
 | y::xs,vs,fs,gs,x,v,h,a=>by
   simp only [Tr.Ats] at h
   obtain ⟨w,ws,f,g,rfl,rfl,b,c⟩:=h
   simp only [List.cons_append,Tr.Ats]
   exact ⟨w,ws++[v],f,g++gs,rfl,by simp,b,c.snoc a⟩
theorem Tr.Ats.len {H:Hp}:∀ {xs:List Tr}{vs:List V}{fs:List Addr},Tr.Ats H xs vs fs→vs.length=xs.length
 | [],vs,fs,h=>by
   simp only [Tr.Ats] at h
   obtain ⟨rfl,rfl⟩:=h
   rfl
 | y::xs,vs,fs,h=>by
   simp only [Tr.Ats] at h
   obtain ⟨w,ws,f,g,rfl,rfl,b,c⟩:=h
   simp [c.len]
theorem Tr.Ats.get {H:Hp}:∀ {xs:List Tr}{vs:List V}{fs:List Addr},Tr.Ats H xs vs fs→∀ (i:Nat) (v:V),vs[i]?=some v→∃ x f,xs[i]?=some x∧x.At H v f∧∀ a∈f,a∈fs
 | [],vs,fs,h,i,v,e=>by
   simp only [Tr.Ats] at h
   obtain ⟨rfl,rfl⟩:=h
   simp at e
 | y::xs,vs,fs,h,i,v,e=>by
   simp only [Tr.Ats] at h
   obtain ⟨w,ws,f,g,rfl,rfl,b,c⟩:=h
   cases i with
   | zero =>
     simp at e
     subst e
     exact ⟨y,f,rfl,b,fun a m=>by simp [m]⟩
   | succ i =>
     obtain ⟨x,f',h1,h2,h3⟩:=c.get i v (by simpa using e)
     exact ⟨x,f',by simpa using h1,h2,fun a m=>by simp [h3 a m]⟩
end L2
namespace L2
open PySem PySem.Spec PyProof.Rows
mutual
def Tr.h:Tr→Nat
 | .non=>0
 | .int _=>0
 | .str _=>0
 | .tup xs=>Tr.hs xs+1
 | .lst xs=>Tr.hs xs+1
def Tr.hs:List Tr→Nat
 | []=>0
 | x::xs=>max x.h (Tr.hs xs)
end
theorem be5 (n:Nat):((List.range n).all fun _=>true)=true:=by simp
theorem a77 (A:Around):A.in1.units=A.units+1:=rfl
section
variable {X:Cx}{pins:List (Addr×Obj)}{σ:St} {H:Hp}{s:Shared}
mutual
theorem Tr.eqAt (I:Inv X pins σ H s):∀ {t:Tr}{A:Around}{v w:V}{fs gs:List Addr}{u z:Value},t.At H v fs→t.At H w gs→RelV v u→RelV w z→A.units+t.h<cLine→SeqAt.EqAt A s u z true
 | .non,A,v,w,fs,gs,u,z,h1,h2,r1,r2,hu=>by
   simp only [Tr.At] at h1 h2
   obtain ⟨rfl,-⟩:=h1
   obtain ⟨rfl,-⟩:=h2
   cases r1
   cases r2
   exact SeqAt.EqAt.same _
 | .int i,A,v,w,fs,gs,u,z,h1,h2,r1,r2,hu=>by
   simp only [Tr.At] at h1 h2
   obtain ⟨rfl,-⟩:=h1
   obtain ⟨rfl,-⟩:=h2
   obtain ⟨t1,rfl⟩:=r1
   obtain ⟨t2,rfl⟩:=r2
   have:=SeqAt.EqAt.int_int (A:=A) (s:=s) i t1 i t2
   simpa using this
 | .str i,A,v,w,fs,gs,u,z,h1,h2,r1,r2,hu=>by
   simp only [Tr.At] at h1 h2
   obtain ⟨rfl,-⟩:=h1
   obtain ⟨rfl,-⟩:=h2
   obtain ⟨t1,rfl⟩:=r1
   obtain ⟨t2,rfl⟩:=r2
   have:=SeqAt.EqAt.str_str (A:=A) (s:=s) i t1 i t2
   simpa using this
 | .tup xs,A,v,w,fs,gs,u,z,h1,h2,r1,r2,hu=>by
   simp only [Tr.At] at h1 h2
   obtain ⟨a,vs,rfl,e1,c1⟩:=h1
   obtain ⟨b,ws,rfl,e2,c2⟩:=h2
   cases r1
   cases r2
   by_cases hab:a=b
   · subst hab
     exact SeqAt.EqAt.same _
   refine SeqAt.EqAt.of_refs hab ?_
   obtain ⟨is1,q1,p1,_⟩:=I.tuple (SqT.of e1)
   obtain ⟨is2,q2,p2,_⟩:=I.tuple (SqT.of e2)
   simp only [Tr.h] at hu
   have hl:is1.length=is2.length:=by rw [← q1.length,←q2.length,c1.len,c2.len]
   have:=SeqAt.RcAt.tuples (A:=A) (s:=s) (e:=fun _=>true) p1 p2 (by omega) (fun j h1 h2=>by
    have:=Tr.eqAts I (A:=A.in1) c1 c2 q1 q2 (by rw [a77]; omega) j (by simpa using h1) (by simpa using h2)
    simpa using this)
   simpa [hl,be5] using this
 | .lst xs,A,v,w,fs,gs,u,z,h1,h2,r1,r2,hu=>by
   simp only [Tr.At] at h1 h2
   obtain ⟨a,vs,_,rfl,e1,c1,_⟩:=h1
   obtain ⟨b,ws,_,rfl,e2,c2,_⟩:=h2
   cases r1
   cases r2
   by_cases hab:a=b
   · subst hab
     exact SeqAt.EqAt.same _
   refine SeqAt.EqAt.of_refs hab ?_
   obtain ⟨is1,q1,p1,_⟩:=I.list (SqL.of e1)
   obtain ⟨is2,q2,p2,_⟩:=I.list (SqL.of e2)
   simp only [Tr.h] at hu
   have hl:is1.length=is2.length:=by rw [← q1.length,←q2.length,c1.len,c2.len]
   have:=SeqAt.RcAt.lists (A:=A) (s:=s) (e:=fun _=>true) p1.isList p2.isList (by simpa using hl) (by omega) (fun j h1 h2=>by
    have:=Tr.eqAts I (A:=A.in1) c1 c2 q1 q2 (by rw [a77]; omega) j (by simpa using h1) (by simpa using h2)
    simpa using this)
   simpa [be5] using this
theorem Tr.eqAts (I:Inv X pins σ H s):∀ {ts:List Tr}{A:Around}{vs ws:List V}{fs gs:List Addr}{us zs:List Value},Tr.Ats H ts vs fs→Tr.Ats H ts ws gs→Vals vs us→Vals ws zs→A.units+Tr.hs ts<cLine →
 ∀ (j:Nat) (h1:j<us.length) (h2:j<zs.length),SeqAt.EqAt A s us[j] zs[j] true
 | [],A,vs,ws,fs,gs,us,zs,c1,c2,q1,q2,hu,j,h1,h2=>by
   simp only [Tr.Ats] at c1
   obtain ⟨rfl,-⟩:=c1
   cases q1
   exact absurd h1 (by simp)
 | t::ts,A,vs,ws,fs,gs,us,zs,c1,c2,q1,q2,hu,j,h1,h2=>by
   simp only [Tr.Ats] at c1 c2
   obtain ⟨v,vs,f,g,rfl,rfl,a1,b1⟩:=c1
   obtain ⟨w,ws,f',g',rfl,rfl,a2,b2⟩:=c2
   cases q1 with
   | cons r1 q1 =>
   cases q2 with
   | cons r2 q2 =>
   simp only [Tr.hs] at hu
   cases j with
   | zero=>exact Tr.eqAt I a1 a2 r1 r2 (by omega)
   | succ j=>exact Tr.eqAts I b1 b2 q1 q2 (by omega) j (by simpa using h1) (by simpa using h2)
end
end
theorem ak3 {it l:Addr}{items:Array Value}{h h':Heap}(hl:h.IsList l items) (e:Heap.ExtBut it h h') (hne:l≠it):h'.IsList l items:=by
 obtain ⟨o,ho,r⟩:=hl
 exact ⟨o,e l o hne ho,r⟩
section
variable {prog:Program}{w:World}{A:Around}{E:Value→Shared→Prop}
theorem ap9 {it l:Addr}{items:Array Value}(hne:l≠it):∀ (n i:Nat) (s:Shared) (Q:List Value→Shared→Prop),s.heap.IsListIter it l i→s.heap.IsList l items→i+n≤items.size →
 (∀ h',h'.IsListIter it l (i+n)→Heap.SameBut it s.heap h'→Q ((items.toList.drop i).take n) { s with heap:=h' })→wpAny (model prog w) A (draw (.ref it) n) Q E s
 | 0,i,s,Q,hit,_,_,hQ=>by
   show wpAny _ _ (pure []) Q E s
   exact wpAny_pure (by simpa using hQ s.heap hit (Heap.SameBut.refl ..))
 | n+1,i,s,Q,hit,ht,hle,hQ=>by
   have hlt:i<items.size:=by omega
   show wpAny _ _ (pyNext (.ref it) >>= _) Q E s
   refine wpAny_bind (wpAny_pyNext_list_item hit ht (x:=items[i]) (by simp [hlt]) fun h1 hit1 hs1=>?_)
   refine wpAny_bind (wpAny_holding (ap9 hne n (i+1) _ _ hit1 (ak3 ht hs1.extBut hne) (by omega) fun h2 hit2 hs2=>wpAny_pure ?_))
   have hd:items.toList.drop i=items[i]::items.toList.drop (i+1):=by simp [List.drop_eq_getElem_cons,hlt]
   have:=hQ h2 (by rw [show i+(n+1)=i+1+n by omega]; exact hit2) (hs1.trans hs2)
   rw [hd,List.take_succ_cons] at this
   exact this
theorem ae9 {s:Shared}{l:Addr}{items:Array Value}{Q:List Value→Shared→Prop}(hh:A.handled=none) (ht:s.heap.IsList l items)
 (hQ:∀ h',Heap.ExtBut s.heap.objs.size s.heap h'→Q items.toList { s with heap:=h' }):wpAny (model prog w) A (unpackItems (.ref l) items.size none) Q E s:=by
 have hlt:l≠s.heap.objs.size:=by obtain ⟨o,ho,_⟩:=ht; exact Nat.ne_of_lt (Heap.lt_size ho)
 unfold unpackItems
 refine wpAny_bind ?_
 unfold notIterableAtAll
 refine wpAny_bind (wpAny_specialOf ht.typeIs slot_list_iter.lookup ?_)
 refine wpAny_pure ?_
 simp only [Bool.false_eq_true,if_false]
 refine wpAny_bind (wpAny_holding (wpAny_pyIter_list ht ?_))
 have hp:(s.heap.push { cls:=.type "list_iterator",data:=.fields #[.ref l,.int 0 0] }).IsList l items:=by
  obtain ⟨o,ho,r⟩:=ht
  exact ⟨o,Heap.get?_push_of_some _ ho,r⟩
 refine wpAny_bind (wpAny_holding (ap9 hlt items.size 0 _ _ ⟨_,Heap.get?_push_size _ rfl,rfl,rfl⟩ hp (by omega) fun h1 hit1 hs1=>?_))
 have hall:List.take items.size (List.drop 0 items.toList)=items.toList:=by
  rw [List.drop_zero]; exact List.take_of_length_le (by simp)
 rw [hall,if_neg (by simp)]
 refine wpAny_bind (wpAny_holding (wpAny_pyNext_list_end hh hit1 (ak3 hp hs1.extBut hlt) (by simp) fun h2 he2=>?_))
 simp only [Option.isSome_none,Bool.false_eq_true,if_false]
 exact wpAny_pure (hQ h2 fun b o hb e=>he2 b o hb (hs1.extBut b o hb (Heap.get?_push_of_some _ e)))
end
section
variable {X:Cx}{pos:Pos}
def gLst (K:PySem.W.Frag) (n:Nat) (t:TGs):TG:=fun v σ H Q=>∃ a xs,v=.ref a∧SqL K H a xs∧xs.length=n∧t xs σ H Q
theorem ad9 (K:PySem.W.Frag) {es:List Expr}{k:Nat}{t:TGs}{n:Nat}(hc:X.calm=true) (h:PGs X es t) (hn:(assignEach es X.env).length=n:=by rfl) (hst:(assignEach es X.env).findIdx? (·.1)=none:=by rfl) (hK:X.K=K:=by rfl) :
 PG X (.Tuple es k pos) (gLst K n t):=by
 subst hK
 intro pins s σ H v u Q I r hw
 obtain ⟨a,xs,e1,hq,hl,hw⟩:=hw
 subst e1
 cases r
 obtain ⟨its,rv,ht,hz⟩:=I.list hq
 rw [PySem.arm_assign_Tuple]
 refine wpAny_bind (wpAny_standAt ?_)
 unfold unpack
 rw [hst,show (assignEach es X.env).length=its.toArray.size by simp [hn,←hl,rv.length]]
 refine wpAny_bind (wpAny_holding (ae9 (I.ok.hd hc) ht.isList fun h' hx=>?_))
 have I1:Inv X pins σ H { s with heap:=h' }:=I.kept (t':=s.toks) fun b o e=>hx b o (Nat.ne_of_lt (Heap.lt_size e)) e
 exact h pins _ σ H xs _ Q I1 (by simpa using rv) hw
theorem ak4 {K:PySem.W.Frag}{σ:St} {H:Hp}{QS:St→Hp→Prop}{n:Nat}{ts:TGs}{a:Addr}{xs:List V}(h1:SqL K H a xs) (h2:xs.length=n) (h:ts xs σ H QS):gLst K n ts (.ref a) σ H QS:=⟨a,xs,rfl,h1,h2,h⟩
end
inductive Pt where
 | s (z:Str)
 | i (n:Int)
theorem av4 {H:Hp}{Q:VK}{l b:Addr}{xs zs:List V}(h1:H l=some (.lst xs)) (h2:H b=some (.lst zs)) (hz:xs.length+zs.length≤sizeLine) (h:Q .non (upd H l (.lst (xs++zs)))):b14 (.ref l) [.ref b] H Q:=⟨l,b,xs,zs,rfl,rfl,h1,h2,hz,h⟩
theorem bj2 {out:Str}{σ:St} {H:Hp}{Q:VK}(hz:out.length≤sizeLine) (h:Q (.str out) H):ay5 [] out σ H Q:=⟨hz,h⟩
theorem bj3 {t:TE}{r:List TE}{out:Str}{σ:St} {H:Hp}{Q:VK}(h:t σ H fun x H1=>∃ y,x=.str y∧(out++y).length≤sizeLine∧ay5 r (out++y) σ H1 Q):ay5 (t::r) out σ H Q:=h
theorem c32 {te:TE}{σ:St} {H:Hp}{Q:VK}(h:te σ H fun x H1=>(∃ z,x=.str z∧z.length≤sizeLine∧Q (.str z) H1)∨∃ i:Int,x=.int i∧i.natAbs.log2<1920∧Q (.str (toString i)) H1):tFmt te σ H Q:=h
theorem c33 {z:Str}{A:Str→Prop}{B:Int→Prop}(h:A z):(∃ y,V.str z=.str y∧A y)∨∃ i:Int,V.str z=.int i∧B i:=.inl ⟨z,rfl,h⟩
theorem c34 {i:Int}{A:Str→Prop}{B:Int→Prop}(h:B i):(∃ y,V.int i=.str y∧A y)∨∃ j:Int,V.int i=.int j∧B j:=.inr ⟨i,rfl,h⟩
end L2
namespace L2
open PySem
def Pt.tr:Pt→Tr
 | .s z=>.str z
 | .i n=>.int n
def Ex.tr:Ex→Tr
 | .num i=>.tup [.str "number",.int i]
 | .box n=>.tup [.str "box",.str n]
 | .two k a b=>.tup [.str (bi9 k),a.tr,b.tr]
def Cd.tr:Cd→Tr
 | .cmp k a b=>.tup [.str (bj1 k),a.tr,b.tr]
 | .nt c=>.tup [.str "not",c.tr]
 | .both c d=>.tup [.str "both",c.tr,d.tr]
mutual
inductive Stm where
 | plain (ps:List Pt)
 | put (n:Str) (e:Ex)
 | loop (b:List Stm)
 | wait (n:Int) (bs:List Br)
 | test (c:Cd) (a b:List Stm)
inductive Br where
 | mk (p:List Pt) (b:List Stm)
end
mutual
def Stm.tr:Stm→Tr
 | .plain ps=>.tup (ps.map Pt.tr)
 | .put n e=>.tup [.str "put",.str n,e.tr]
 | .loop b=>.tup [.str "loop",.lst (Stm.trs b)]
 | .wait n bs=>.tup [.str "wait",.int n,.lst (Br.trs bs)]
 | .test c a b=>.tup [.str "test",c.tr,.lst (Stm.trs a),.lst (Stm.trs b)]
def Br.tr:Br→Tr
 | .mk p b=>.tup [.tup (p.map Pt.tr),.lst (Stm.trs b)]
def Stm.trs:List Stm→List Tr
 | []=>[]
 | s::r=>s.tr::Stm.trs r
def Br.trs:List Br→List Tr
 | []=>[]
 | s::r=>s.tr::Br.trs r
end
section
variable {H:Hp}{v:V}{fs:List Addr}
end
section
variable {H:Hp}{v:V}{fs:List Addr}
end
end L2
namespace L2
open PySem PySem.Spec PyProof.Rows
section
variable {X:Cx}
end
end L2
namespace L2
def c35 (ws:List (Option Nat)) (n:Nat):List Nat:=(List.range n).filter fun i=>decide (ws[i]?=some none)
def kept (ws:List (Option Nat)):List Nat:=c35 ws ws.length
end L2
namespace L2
open PySem
section
variable {prog:Program}{w:World}{K:Type} [DecidableEq K] {knd:KeyKind prog w K}{A:Around}{E:Value→Shared→Prop}{s:Shared}
end
section
variable {prog:Program}{w:World}{K:Type} [DecidableEq K] {knd:KeyKind prog w K}{A:Around}{E:Value→Shared→Prop}{s:Shared}
end
end L2
namespace L2
open PySem PySem.Spec PyProof.Rows
section
variable {X:Cx}{pins:List (Addr×Obj)}{σ:St} {H:Hp}{s:Shared}
theorem Inv.turnedL {t':Nat}{h':Heap}{ch:List Addr}(I:Inv X pins σ H s) (k:∀ b o,b∉ch→s.heap.get? b=some o→h'.get? b=some o) (hf:∀ b∈ch,FpOk X pins H b):Inv X pins σ H { s with heap:=h',toks:=t' }:=by
 have nit:∀ b u,H b=some u→b∉ch:=fun b u e z=>by rw [(hf b z).1] at e; cases e
 refine I.step (g':=s.gens) (d':=s.drawn) (ch:=ch) (fun b hb=>⟨(hf b hb).2.2.2.1,(hf b hb).2.1,(hf b hb).2.2.2.2.1,(hf b hb).2.2.2.2.2⟩) (fun b o _ _ hc e _=>k b o hc e) (fun b o _ _ hc e _=>⟨o.slots,k b o hc e⟩) (fun _ _ _ _ n=>n)
  (fun b o hc e=>⟨o,k b o hc e⟩) (fun _ _ e=>e) (fun _ _ _ e=>e) (fun b ps e=>⟨#[],by rw [e]; simp⟩) (fun m hm=>?_) (fun b u e=>?_) I.bare
 · obtain ⟨o,es,ep,ho,r⟩:=hm
   exact ⟨o,es,ep,k _ o (fun z=>(hf _ z).2.1 rfl) ho,r⟩
 · refine (I.hok b u e).stay (fun c v hc q=>k c v ?_ q) (fun _ q=>q) fun _ _ q=>q
   rcases hc with z | z
   · rw [z]; exact nit b u e
   · exact nit c _ z
end
def Ite (K:PySem.W.Frag) (a:Addr):It :=
 ⟨fun i H=>∃ xs x,SqL K H a xs∧xs[i]?=some x,fun i H v H'=>∃ p y,v=.ref p∧H p=none∧Same H H'∧H' p=some (.tup [.int (i:Nat),y])∧∀ xs,SqL K H a xs→xs[i]?=some y,fun i H=>∃ xs,SqL K H a xs∧xs.length≤i⟩
theorem b31 {P:Program}{w:World}{K:PySem.W.Frag}{elts:List Expr}{x1:Nat}{pos:Pos}(a e it:Addr) (hne:e≠it) :
 Turn P w K (.Tuple elts x1 pos) (Ite K a) [e,it] e (fun i h=>(∃ old,IsEnum h e it (i:Nat) old)∧h.IsListIter it a i) where
 mem:=by simp
 obj:=fun i h st b hb=>by
  obtain ⟨⟨old,he⟩,o,e2,c,d⟩:=st
  rcases (by simpa using hb:b=e∨b=it) with rfl | rfl
  · exact ⟨_,he,fun v z=>by cases z⟩
  · exact ⟨o,e2,fun v z=>by rw [d] at z; cases z⟩
 keep:=fun i h h' st k=>⟨let ⟨old,he⟩:=st.1; ⟨old,k e (by simp) _ he⟩,st.2.at fun o x=>k it (by simp) o x⟩
 item:=by
  intro X hP hw hK hc i pins s σ H E I hf st hg
  subst hP hw hK
  obtain ⟨xs,x,hq,hx⟩:=hg
  obtain ⟨its,rv,p,hz⟩:=I.list hq
  obtain ⟨u,hu,ru⟩:=rv.get hx
  obtain ⟨⟨old,he⟩,hit⟩:=st
  have helt:e<s.heap.objs.size:=Heap.lt_size he
  have hilt:it<s.heap.objs.size:=by obtain ⟨_,q,_⟩:=hit; exact Heap.lt_size q
  refine wpAny_pyNext_enum_item he hit p.isList (x:=u) (by simpa using hu) hne fun h' ho hit' hT hsz hk=>?_
  have fr:H s.heap.objs.size=none:=I.hok.fresh (Nat.le_refl _)
  have I1:Inv X pins σ H { s with heap:=h',toks:=s.toks+1 }:=I.turnedL (ch:=[e,it]) (fun b o hb q=>hk b o (fun z=>hb (by simp [z])) (fun z=>hb (by simp [z])) q) hf
  have I2:Inv X pins σ (upd H s.heap.objs.size (.tup [.int (i:Nat),x])) { s with heap:=h',toks:=s.toks+1 }:=I1.adopt (o:=.tup [.int (i:Nat),x]) fr I.sz (Nat.ne_of_gt I.lt) (fun y c ec z=>by
   obtain ⟨v,q⟩:=I.cell y c ec
   exact absurd q.lt (by rw [z]; exact Nat.lt_irrefl _)) (fun q hq z=>absurd (Heap.lt_size (I.pin q hq).1) (by rw [z]; exact Nat.lt_irrefl _))
   ⟨le_line (by simp),[.int (i:Nat) s.toks,u],.cons ⟨_,rfl⟩ (.cons ru .nil),⟨_,hT,rfl,_,rfl⟩⟩
  have ne:∀ b∈[e,it],b≠s.heap.objs.size:=fun b hb=>by
   rcases (by simpa using hb:b=e∨b=it) with rfl | rfl
   · exact Nat.ne_of_lt helt
   · exact Nat.ne_of_lt hilt
  have hf2:∀ b∈[e,it],FpOk X pins (upd H s.heap.objs.size (.tup [.int (i:Nat),x])) b:=fun b hb=>⟨by rw [a14 (ne b hb)]; exact (hf b hb).1,(hf b hb).2⟩
  refine ⟨_,rfl,wpAny_letOwnedTupleGo_enum ho fun h2 he2 hs2=>⟨.ref s.heap.objs.size,_,I2.turnedL (t':=s.toks+1) (ch:=[e]) (fun b o hb q=>(hs2.2 b (fun z=>hb (by simp [z]))).trans q) (fun b hb=>hf2 b (by simp at hb; simp [hb])),rfl,⟨s.heap.objs.size,x,rfl,fr,Same.new fr,a19,fun ys hy=>by rw [I.list_inj hy hq]; exact hx⟩,⟨⟨_,by simpa using he2⟩,hit'.at fun o q=>(hs2.2 it (Ne.symm hne)).trans q⟩,fun b hb=>(hf2 b hb).1⟩⟩
 done:=by
  intro X hP hw hK hc i pins s σ H E I hf st hg
  subst hP hw hK
  obtain ⟨xs,hq,hx⟩:=hg
  obtain ⟨its,rv,p,hz⟩:=I.list hq
  obtain ⟨⟨old,he⟩,hit⟩:=st
  have hl:=rv.length
  exact wpAny_pyNext_enum_end (I.ok.hd hc) he hit p.isList (by simp; omega) fun h' eb=>⟨rfl,I.turnedL (t':=s.toks) (ch:=[it]) (fun b o hb q=>eb b o (fun z=>hb (by simp [z])) q) (fun b hb=>hf b (by simp at hb; simp [hb]))⟩
 self:=fun A i s Q E st h=>let ⟨old,he⟩:=st.1; wpAny_pyIter_enum he h
section
variable {X:Cx}{elts:List Expr}{x1:Nat}{tpos:Pos}
def bu9 (K:PySem.W.Frag) (ta:TA):TI:=fun σ H R=>ta σ H fun vs H1=>∃ a,vs=[.ref a]∧(∃ xs,SqL K H1 a xs)∧R (Ite K a) H1
theorem at3 (K:PySem.W.Frag) {a:Expr}{ta:TA}{p pos:Pos}(hg:Gl X "enumerate") (hm:X.mg "enumerate"=none) (ha:PA X [a] ta) (hs:starEach [a] X.env=[(false,eval a X.env)]:=by rfl) (hK:X.K=K:=by rfl):PI X (.Tuple elts x1 tpos) (.Call (.Name "enumerate" p) [a] [] pos) (bu9 K ta):=by
 subst hK
 intro pins s σ H R I h
 refine Call_ (an2 I hg hm boot_enumerate (PyProof.Rows.callWith_type1 (thn (ha pos pins s σ H _ I h) ?_) hs rfl))
 rintro us s1 ⟨vs,H1,I1,r1,q1⟩
 obtain ⟨l,e,⟨xs,hq⟩,q⟩:=q1
 subst e
 obtain ⟨u,rfl,ru⟩:=ax6 r1
 cases ru
 obtain ⟨its,rv,pl,hz⟩:=I1.list hq
 refine call_enumerate_list pl.isList fun h' he hit hsz hk=>?_
 refine wpAny_pyIter_enum he ?_
 refine ⟨s1.heap.objs.size+1,[s1.heap.objs.size+1,s1.heap.objs.size],_,_,H1,rfl,I1.kept (t':=s1.toks) hk,b31 l _ _ (Nat.succ_ne_self _),⟨⟨_,he⟩,hit⟩,fun b hb=>?_,q⟩
 have hb':s1.heap.objs.size≤b:=by
  rcases (by simpa using hb:b=s1.heap.objs.size+1∨b=s1.heap.objs.size) with rfl | rfl <;> omega
 exact I1.fpOk hb' (I1.hok.fresh hb')
theorem bv0 {K:PySem.W.Frag}{σ:St} {H:Hp}{R:It→Hp→Prop}{ts:TA}(h:ts σ H fun vs H1=>∃ a,vs=[.ref a]∧(∃ xs,SqL K H1 a xs)∧R (Ite K a) H1):bu9 K ts σ H R:=h
theorem bv1 {a:Addr}{p:Addr→Prop}(h:p a):∃ b,[V.ref a]=[V.ref b]∧p b:=⟨a,rfl,h⟩
theorem bj4 {K:PySem.W.Frag}{a:Addr}{xs:List V}{te:TE}{tt:TT}{caps:List Nat}{σ:St} {H:Hp}{Q:VK}(hz:xs.length≤sizeLine) (Pv:Nat→List V→Hp→Prop) (h0:Pv 0 [] H) (hl:∀ i acc H,Pv i acc H→acc.length≤i∧SqL K H a xs)
 (hs:∀ i x acc H H2,xs[i]?=some x→Pv i acc H→Same H H2→tt (some (.int (i:Nat))::some x::capV caps σ) H2 fun b H4=>if b=true then te (some (.int (i:Nat))::some x::capV caps σ) H4 fun y H5=>Pv (i+1) (acc++[y]) H5 else Pv (i+1) acc H4)
 (hd:∀ acc H,Pv xs.length acc H→New H (.lst acc) Q):ag9 (Ite K a) (gTup K 2 (an4 (ad5 0) (an4 (ad5 1) gNil))) tt te 2 caps σ H Q:=by
 refine ⟨fun i m acc σ' H=>m=xs.length - i∧i≤xs.length∧(∃ u v,σ'=u::v::capV caps σ)∧Pv i acc H,⟨xs.length,by simp,Nat.zero_le _,⟨none,none,rfl⟩,h0⟩,?_⟩
 rintro i m acc σ' H' ⟨rfl,hi,⟨u0,v0,rfl⟩,p⟩
 obtain ⟨hl1,hq⟩:=hl i acc H' p
 by_cases hlt:i<xs.length
 · refine .inr ⟨⟨xs,xs[i],hq,by simp [hlt]⟩,by omega,fun ac σ2 H2=>(∃ u v,σ2=u::v::capV caps σ)∧Pv (i+1) ac H2,fun ac σ2 H2 ⟨e,p'⟩=>⟨xs.length - (i+1),by omega,rfl,hlt,e,p'⟩,fun x H2 y=>?_⟩
   obtain ⟨q,z,rfl,hn,sm,hT,hy⟩:=y
   have hst:=hs i z acc H' H2 (hy xs hq) p sm
   have eN:∀ ac H5,((∃ u1 v1,some (V.int (i:Nat))::some z::capV caps σ=u1::v1::capV caps σ)∧Pv (i+1) ac H5)=Pv (i+1) ac H5:=fun ac H5=>propext ⟨And.right,fun p=>⟨⟨_,_,rfl⟩,p⟩⟩
   refine ⟨q,[.int (i:Nat),z],rfl,SqT.of hT,rfl,.int (i:Nat),[z],rfl,z,[],rfl,rfl,?_⟩
   show tt (some (.int (i:Nat))::some z::capV caps σ) _ fun b H4=>if b=true then te (some (.int (i:Nat))::some z::capV caps σ) H4 fun y H5=>((∃ u1 v1,some (V.int (i:Nat))::some z::capV caps σ=u1::v1::capV caps σ)∧Pv (i+1) (acc++[y]) H5) else ((∃ u1 v1,some (V.int (i:Nat))::some z::capV caps σ=u1::v1::capV caps σ)∧Pv (i+1) acc H4)
   simp only [eN]
   exact hst
 · have e:i=xs.length:=by omega
   subst e
   exact .inl ⟨⟨xs,hq,Nat.le_refl _⟩,New.to (hd acc H' p)⟩
end
section
variable {X:Cx}
theorem b98 (xs:List V) (y:V):cutV (xs++[y]) none (some (-1))=xs∧HT.sIx (xs++[y]).length (xs++[y]).length (some (-1))=xs.length:=by
 have e:HT.sIx (xs++[y]).length (xs++[y]).length (some (-1))=xs.length:=by
  unfold HT.sIx
  simp only []
  rw [if_pos (by decide),List.length_append]
  simp only [List.length_cons,List.length_nil]
  omega
 refine ⟨?_,e⟩
 unfold cutV
 rw [e,HT.sIx_none,List.drop_zero,Nat.sub_zero,List.take_left']
 rfl
def rIsN:R2:=fun x y H Q=>y=.non∧Q (.bl (decide (x=.non))) H
def bv2:R2:=fun x y H Q=>y=.non∧Q (.bl (!decide (x=.non))) H
theorem aa8:OpR X (compareOp .Is) rIsN:=bp5
theorem af9:OpR X (compareOp .IsNot) bv2:=bg3
theorem c36 {x:V}{H:Hp}{Q:VK}(h:Q (.bl (decide (x=.non))) H):rIsN x .non H Q:=⟨rfl,h⟩
theorem bv3 {x:V}{H:Hp}{Q:VK}(h:Q (.bl (!decide (x=.non))) H):bv2 x .non H Q:=⟨rfl,h⟩
def bv4 (t u:TS):TS:=fun D σ H=>∃ R:St→Hp→Prop,t { D with nx:=R } σ H∧∀ σ' H',R σ' H'→u D σ' H'
theorem a48 {st:Stmt}{rest:List Stmt}{t u:TS}(h1:PS X st t) (h2:PSs X rest u):PSs X (st::rest) (bv4 t u):=by
 intro pins s σ H D I h
 obtain ⟨R,ha,hb⟩:=h
 refine wpAny_execs_cons (thn (h1 pins s σ H _ I ha) fun f s1 q=>?_)
 cases f with
 | next=>obtain ⟨σ1,H1,I1,q1⟩:=q; exact h2 pins s1 σ1 H1 D I1 (hb σ1 H1 q1)
 | brk=>exact q
 | cont=>exact q
 | ret v=>exact q
theorem ac1 {t u:TS}{nn bb cc:St→Hp→Prop}{rr:VK}{σ:St} {H:Hp}(R:St→Hp→Prop) (h1:t ⟨R,rr,bb,cc⟩ σ H) (h2:∀ σ' H',R σ' H'→u ⟨nn,rr,bb,cc⟩ σ' H'):bv4 t u ⟨nn,rr,bb,cc⟩ σ H:=⟨R,h1,h2⟩
def bv5 (t:TT):TT:=t
theorem ah2 {e:Expr}{t:TT}(h:PT X e t):PT X e (bv5 t):=h
theorem aq0 {t:TT}{σ:St} {H:Hp}{QT:Bool→Hp→Prop}(c:Prop) [Decidable c] (h:∀ R:Bool→Hp→Prop,R (decide c) H→t σ H R) (h2:QT (decide c) H):bv5 t σ H QT:=h QT h2
theorem rT {R:Bool→Hp→Prop}{H:Hp}{c:Prop} [Decidable c] (h:R (decide c) H) (hc:c):R true H:=by rw [decide_eq_true hc] at h; exact h
theorem rF {R:Bool→Hp→Prop}{H:Hp}{c:Prop} [Decidable c] (h:R (decide c) H) (hc:¬ c):R false H:=by rw [decide_eq_false hc] at h; exact h
theorem al7 {c:TT}{tb:TS}{nn bb cc:St→Hp→Prop}{rr:VK}{σ:St} {H:Hp}(W:Nat→St→Hp→Prop) (m:Nat) (h0:W m σ H)
 (hs:∀ m σ H,W m σ H→c σ H fun b H1=>if b=true then ∃ N:St→Hp→Prop,(∀ σ' H',N σ' H'→∃ m',m'<m∧W m' σ' H')∧tb ⟨N,rr,nn,N⟩ σ H1 else nn σ H1):bd1 c tb ⟨nn,rr,bb,cc⟩ σ H:=⟨W,⟨m,h0⟩,hs⟩
end
end L2
namespace L2
open PySem
section
variable {H:Hp}{x:Tr}{xs:List Tr}{v:V}{vs ws:List V}
theorem ats_nil0:Tr.Ats H [] vs []↔vs=[]:=by simp [Tr.Ats]
theorem ats_cons0:Tr.Ats H (x::xs) vs []↔∃ v ws,vs=v::ws∧x.At H v []∧Tr.Ats H xs ws []:=by
 simp only [Tr.Ats]
 constructor
 · rintro ⟨v,ws,f,g,h1,h2,h3,h4⟩
   obtain ⟨rfl,rfl⟩:=List.append_eq_nil_iff.mp h2.symm
   exact ⟨v,ws,h1,h3,h4⟩
 · rintro ⟨v,ws,h1,h3,h4⟩
   exact ⟨v,ws,[],[],h1,rfl,h3,h4⟩
theorem at_tup0:(Tr.tup xs).At H v []↔∃ a vs,v=.ref a∧H a=some (.tup vs)∧Tr.Ats H xs vs []:=by simp only [Tr.At]
theorem at_int0 {i:Int}:(Tr.int i).At H v []↔v=.int i:=by simp [Tr.At]
theorem at_str0 {i:Str}:(Tr.str i).At H v []↔v=.str i:=by simp [Tr.At]
theorem Tr.At.same {H H':Hp}(h:x.At H v []) (s:Same H H'):x.At H' v []:=h.mono (s.keep _)
theorem Tr.Ats.same {H H':Hp}(h:Tr.Ats H xs vs []) (s:Same H H'):Tr.Ats H' xs vs []:=h.mono (s.keep _)
end
section
variable {H:Hp}{v:V}{a:Addr}
theorem ae0 {x:Tr}{u:V}(e:H a=some (.tup [u])) (h:x.At H u []):(Tr.tup [x]).At H (.ref a) []:=at_tup0.mpr ⟨a,_,rfl,e,ats_cons0.mpr ⟨_,_,rfl,h,ats_nil0.mpr rfl⟩⟩
theorem a46 {x y:Tr}{u v:V}(e:H a=some (.tup [u,v])) (h:x.At H u []) (h2:y.At H v []):(Tr.tup [x,y]).At H (.ref a) []:=at_tup0.mpr ⟨a,_,rfl,e,ats_cons0.mpr ⟨_,_,rfl,h,ats_cons0.mpr ⟨_,_,rfl,h2,ats_nil0.mpr rfl⟩⟩⟩
theorem aa9 {i:Int}:(Tr.int i).At H (.int i) []:=at_int0.mpr rfl
theorem a28 {i:Str}:(Tr.str i).At H (.str i) []:=at_str0.mpr rfl
end
def ab5 (l:List Nat):List V:=l.map fun k=>V.int (k:Nat)
theorem b32:∀ ps:List Pt,Tr.hs (ps.map Pt.tr)=0
 | []=>by simp [Tr.hs]
 | p::ps=>by
   have:p.tr.h=0:=by cases p <;> simp [Pt.tr,Tr.h]
   simp [Tr.hs,b32 ps,this]
end L2
namespace L2
open PySem PySem.Spec PyProof.Rows
section
variable {σ:St} {H:Hp}{Q:VK}{QT:Bool→Hp→Prop}{td ty tv te:TE}{nn bb cc:St→Hp→Prop}{rr:VK}
end
theorem aq1 {H:Hp}:∀ {e:Ex}{v:V},e.tr.At H v []→e.At H v
 | .num i,v,h=>by
   obtain ⟨a,vs,rfl,e,h⟩:=at_tup0.mp h
   obtain ⟨v1,w1,rfl,h1,h⟩:=ats_cons0.mp h
   obtain ⟨v2,w2,rfl,h2,h⟩:=ats_cons0.mp h
   obtain rfl:=ats_nil0.mp h
   obtain rfl:=at_str0.mp h1
   obtain rfl:=at_int0.mp h2
   exact ⟨a,rfl,e⟩
 | .box i,v,h=>by
   obtain ⟨a,vs,rfl,e,h⟩:=at_tup0.mp h
   obtain ⟨v1,w1,rfl,h1,h⟩:=ats_cons0.mp h
   obtain ⟨v2,w2,rfl,h2,h⟩:=ats_cons0.mp h
   obtain rfl:=ats_nil0.mp h
   obtain rfl:=at_str0.mp h1
   obtain rfl:=at_str0.mp h2
   exact ⟨a,rfl,e⟩
 | .two k x y,v,h=>by
   obtain ⟨a,vs,rfl,e,h⟩:=at_tup0.mp h
   obtain ⟨v1,w1,rfl,h1,h⟩:=ats_cons0.mp h
   obtain ⟨v2,w2,rfl,h2,h⟩:=ats_cons0.mp h
   obtain ⟨v3,w3,rfl,h3,h⟩:=ats_cons0.mp h
   obtain rfl:=ats_nil0.mp h
   obtain rfl:=at_str0.mp h1
   exact ⟨a,v2,v3,rfl,e,aq1 h2,aq1 h3⟩
theorem av5 {H:Hp}:∀ {c:Cd}{v:V},c.tr.At H v []→c.At H v
 | .cmp k x y,v,h=>by
   obtain ⟨a,vs,rfl,e,h⟩:=at_tup0.mp h
   obtain ⟨v1,w1,rfl,h1,h⟩:=ats_cons0.mp h
   obtain ⟨v2,w2,rfl,h2,h⟩:=ats_cons0.mp h
   obtain ⟨v3,w3,rfl,h3,h⟩:=ats_cons0.mp h
   obtain rfl:=ats_nil0.mp h
   obtain rfl:=at_str0.mp h1
   exact ⟨a,v2,v3,rfl,e,aq1 h2,aq1 h3⟩
 | .nt c,v,h=>by
   obtain ⟨a,vs,rfl,e,h⟩:=at_tup0.mp h
   obtain ⟨v1,w1,rfl,h1,h⟩:=ats_cons0.mp h
   obtain ⟨v2,w2,rfl,h2,h⟩:=ats_cons0.mp h
   obtain rfl:=ats_nil0.mp h
   obtain rfl:=at_str0.mp h1
   exact ⟨a,v2,rfl,e,av5 h2⟩
 | .both x y,v,h=>by
   obtain ⟨a,vs,rfl,e,h⟩:=at_tup0.mp h
   obtain ⟨v1,w1,rfl,h1,h⟩:=ats_cons0.mp h
   obtain ⟨v2,w2,rfl,h2,h⟩:=ats_cons0.mp h
   obtain ⟨v3,w3,rfl,h3,h⟩:=ats_cons0.mp h
   obtain rfl:=ats_nil0.mp h
   obtain rfl:=at_str0.mp h1
   exact ⟨a,v2,v3,rfl,e,av5 h2,av5 h3⟩
end L2
namespace L2
end L2
namespace L2
open PySem PySem.Spec PyProof.Rows
section
variable {X:Cx}{σ:St} {H:Hp}{Q:VK}{QT:Bool→Hp→Prop}{td ty tv te:TE}{nn bb cc:St→Hp→Prop}{rr:VK}
theorem bv6 {i:Nat}{a c:Int}{f:Int→Int→Int}(e:σ[i]?=some (some (.int a))) (h:nn (σ.set i (some (.int (f a c)))) H):tAug i (tC (.int c)) (ipI f) ⟨nn,rr,bb,cc⟩ σ H:=⟨_,e,a,c,rfl,rfl,h⟩
end
section
variable {X:Cx}{elts:List Expr}{x1:Nat}{tpos:Pos}
theorem b33:bootBuiltins "zip"=some (.type "zip"):=by decide +kernel
end
def pl2 (k:Bool):Option Int→Option Int→Option Int
 | some x,some y=>some (if k then x+y else x - y)
 | _,_=>none
end L2
namespace L2
open PySem
end L2
namespace L2
open PySem PySem.Spec PyProof.Rows
noncomputable instance trDec:DecidableEq Tr:=fun _ _=>Classical.propDecidable _
def b34 (z:Int) (u:Value):Prop:=(∃ t,u=.int z t)∨∃ b:Bool,u=.bool b∧z=(if b=true then 1 else 0)
mutual
def Tr.In (h:Heap):Tr→Value→Prop
 | .non,u=>u=.none
 | .int z,u=>b34 z u
 | .str x,u=>∃ t,u=.str x t
 | .tup ts,u=>∃ a us,u=.ref a∧h.IsTuple a us∧Tr.Ins h ts us.toList
 | .lst _,_=>False
def Tr.Ins (h:Heap):List Tr→List Value→Prop
 | [],us=>us=[]
 | t::ts,us=>∃ u r,us=u::r∧Tr.In h t u∧Tr.Ins h ts r
end
theorem Tr.Ins.len {h:Heap}:∀ {ts:List Tr}{us:List Value},Tr.Ins h ts us→us.length=ts.length
 | [],us,e=>by simp only [Tr.Ins] at e; rw [e]; rfl
 | t::ts,us,e=>by
   simp only [Tr.Ins] at e
   obtain ⟨u,r,rfl,_,e⟩:=e
   simp [e.len]
theorem at4 {h:Heap}{a:Addr}{us vs:Array Value}(x:h.IsTuple a us) (y:h.IsTuple a vs):us=vs:=by
 obtain ⟨o,e,_,n,d⟩:=x
 obtain ⟨o',e',_,n',d'⟩:=y
 rw [e] at e'; cases e'
 rw [d] at d'
 injection d' with d1 _
mutual
theorem Tr.In.inj {h:Heap}:∀ {t r:Tr}{u:Value},Tr.In h t u→Tr.In h r u→t=r
 | .non,r,u,e,f=>by
   simp only [Tr.In] at e
   subst e
   cases r <;> simp [Tr.In,b34] at f ⊢
 | .int z,r,u,e,f=>by
   simp only [Tr.In] at e
   rcases e with ⟨t,rfl⟩ | ⟨b,rfl,rfl⟩
   · cases r <;> simp [Tr.In,b34] at f ⊢
     exact f
   · cases r <;> simp [Tr.In,b34] at f ⊢
     exact f.symm
 | .str x,r,u,e,f=>by
   simp only [Tr.In] at e
   obtain ⟨t,rfl⟩:=e
   cases r <;> simp [Tr.In,b34] at f ⊢
   exact f
 | .lst _,r,u,e,f=>e.elim
 | .tup ts,.tup rs,u,e,f=>by
   simp only [Tr.In] at e f
   obtain ⟨a,us,rfl,e2,e3⟩:=e
   obtain ⟨b,vs,hb,f2,f3⟩:=f
   cases hb
   cases at4 e2 f2
   rw [Tr.Ins.inj e3 f3]
 | .tup ts,.non,u,e,f=>by
   simp only [Tr.In] at e f
   obtain ⟨a,us,rfl,e2,e3⟩:=e
   cases f
 | .tup ts,.int _,u,e,f=>by
   simp only [Tr.In] at e f
   obtain ⟨a,us,rfl,e2,e3⟩:=e
   rcases f with ⟨_,f⟩ | ⟨_,f,_⟩ <;> cases f
 | .tup ts,.str _,u,e,f=>by
   simp only [Tr.In] at e f
   obtain ⟨a,us,rfl,e2,e3⟩:=e
   obtain ⟨_,f⟩:=f
   cases f
 | .tup ts,.lst _,u,e,f=>f.elim
theorem Tr.Ins.inj {h:Heap}:∀ {ts rs:List Tr}{us:List Value},Tr.Ins h ts us→Tr.Ins h rs us→ts=rs
 | [],rs,us,e,f=>by
   simp only [Tr.Ins] at e
   subst e
   cases rs with
   | nil=>rfl
   | cons r rs=>simp [Tr.Ins] at f
 | t::ts,rs,us,e,f=>by
   simp only [Tr.Ins] at e
   obtain ⟨u,r,rfl,e1,e2⟩:=e
   cases rs with
   | nil=>simp [Tr.Ins] at f
   | cons q qs =>
     simp only [Tr.Ins] at f
     obtain ⟨u',r',hh,f1,f2⟩:=f
     cases hh
     rw [e1.inj f1,Tr.Ins.inj e2 f2]
end
theorem b35 {H:Hp}{ts:List Tr}{v:V}{h:(Tr.lst ts).At H v []}:False:=by
 simp only [Tr.At] at h
 obtain ⟨a,vs,_,rfl,e1,c1,e⟩:=h
 simp at e
section
variable {X:Cx}{pins:List (Addr×Obj)}{σ:St} {H:Hp}{s:Shared}
end
theorem b36 {n:Nat}{e:Nat→Bool}:(List.range n).all e=true↔∀ j,j<n→e j=true:=by simp [List.all_eq_true]
theorem b37 {ts rs:List Tr}:((List.range (min ts.length rs.length)).all (fun j=>decide (ts.getD j .non=rs.getD j .non)) && ts.length == rs.length)=decide (ts=rs):=by
 rw [Bool.eq_iff_iff,Bool.and_eq_true,b36,decide_eq_true_iff,beq_iff_eq]
 constructor
 · rintro ⟨h1,h2⟩
   refine List.ext_getElem h2 fun j h3 h4=>?_
   have:=of_decide_eq_true (h1 j (by omega))
   simpa [h3,h4] using this
 · rintro rfl
   exact ⟨fun j _=>decide_eq_true rfl,rfl⟩
section
variable {s:Shared}
mutual
theorem Tr.In.eqAt:∀ {t r:Tr}{A:Around}{u z:Value},Tr.In s.heap t u→Tr.In s.heap r z→A.units+t.h+r.h<cLine→SeqAt.EqAt A s u z (decide (t=r))
 | .non,r,A,u,z,h1,h2,hu=>by
   simp only [Tr.In] at h1
   subst h1
   cases r with
   | non =>
     simp only [Tr.In] at h2
     subst h2
     rw [decide_eq_true rfl]
     exact SeqAt.EqAt.same _
   | int i =>
     rw [decide_eq_false (by simp)]
     rcases h2 with ⟨t2,rfl⟩ | ⟨b2,rfl,rfl⟩
     · exact SeqAt.EqAt.none_int _ _
     · exact SeqAt.EqAt.none_bool _
   | str i =>
     obtain ⟨t2,rfl⟩:=h2
     rw [decide_eq_false (by simp)]
     exact SeqAt.EqAt.none_str _ _
   | tup rs =>
     simp only [Tr.In] at h2
     obtain ⟨a,us,rfl,p,_⟩:=h2
     rw [decide_eq_false (by simp)]
     exact SeqAt.EqAt.none_tuple p (by omega)
   | lst rs=>exact h2.elim
 | .int i,r,A,u,z,h1,h2,hu=>by
   cases r with
   | non =>
     simp only [Tr.In] at h2
     subst h2
     rw [decide_eq_false (by simp)]
     rcases h1 with ⟨t1,rfl⟩ | ⟨b1,rfl,rfl⟩
     · exact SeqAt.EqAt.int_none _ _
     · exact SeqAt.EqAt.bool_none _
   | int j =>
     rw [show decide (Tr.int i=Tr.int j)=(i == j) from Bool.eq_iff_iff.mpr (by simp)]
     rcases h1 with ⟨t1,rfl⟩ | ⟨b1,rfl,rfl⟩
     · rcases h2 with ⟨t2,rfl⟩ | ⟨b2,rfl,rfl⟩
       · exact SeqAt.EqAt.int_int _ _ _ _
       · exact SeqAt.EqAt.int_bool _ _ _
     · rcases h2 with ⟨t2,rfl⟩ | ⟨b2,rfl,rfl⟩
       · exact SeqAt.EqAt.bool_int _ _ _
       · have:=SeqAt.EqAt.bool_bool (A:=A) (s:=s) b1 b2
         cases b1 <;> cases b2 <;> exact this
   | str j =>
     obtain ⟨t2,rfl⟩:=h2
     rw [decide_eq_false (by simp)]
     rcases h1 with ⟨t1,rfl⟩ | ⟨b1,rfl,rfl⟩
     · exact SeqAt.EqAt.int_str _ _ _ _
     · exact SeqAt.EqAt.bool_str _ _ _
   | tup rs =>
     simp only [Tr.In] at h2
     obtain ⟨a,us,rfl,p,_⟩:=h2
     rw [decide_eq_false (by simp)]
     rcases h1 with ⟨t1,rfl⟩ | ⟨b1,rfl,rfl⟩
     · exact SeqAt.EqAt.int_tuple _ _ p (by omega)
     · exact SeqAt.EqAt.bool_tuple _ p (by omega)
   | lst rs=>exact h2.elim
 | .str i,r,A,u,z,h1,h2,hu=>by
   obtain ⟨t1,rfl⟩:=h1
   cases r with
   | non =>
     simp only [Tr.In] at h2
     subst h2
     rw [decide_eq_false (by simp)]
     exact SeqAt.EqAt.str_none _ _
   | int j =>
     rw [decide_eq_false (by simp)]
     rcases h2 with ⟨t2,rfl⟩ | ⟨b2,rfl,rfl⟩
     · exact SeqAt.EqAt.str_int _ _ _ _
     · exact SeqAt.EqAt.str_bool _ _ _
   | str j =>
     obtain ⟨t2,rfl⟩:=h2
     have:=SeqAt.EqAt.str_str (A:=A) (s:=s) i t1 j t2
     rw [show (i == j)=decide (Tr.str i=Tr.str j) from Bool.eq_iff_iff.mpr (by simp)] at this
     exact this
   | tup rs =>
     simp only [Tr.In] at h2
     obtain ⟨a,us,rfl,p,_⟩:=h2
     rw [decide_eq_false (by simp)]
     exact SeqAt.EqAt.str_tuple _ _ p (by omega)
   | lst rs=>exact h2.elim
 | .lst _,r,A,u,z,h1,h2,hu=>h1.elim
 | .tup ts,r,A,u,z,h1,h2,hu=>by
   have h1':=h1
   simp only [Tr.In] at h1
   obtain ⟨a,us,rfl,p1,c1⟩:=h1
   cases r with
   | non =>
     simp only [Tr.In] at h2
     subst h2
     rw [decide_eq_false (by simp)]
     exact SeqAt.EqAt.tuple_none p1 (by omega)
   | int j =>
     rw [decide_eq_false (by simp)]
     rcases h2 with ⟨t2,rfl⟩ | ⟨b2,rfl,rfl⟩
     · exact SeqAt.EqAt.tuple_int _ _ p1 (by omega)
     · exact SeqAt.EqAt.tuple_bool _ p1 (by omega)
   | str j =>
     obtain ⟨t2,rfl⟩:=h2
     rw [decide_eq_false (by simp)]
     exact SeqAt.EqAt.tuple_str _ _ p1 (by omega)
   | lst rs=>exact h2.elim
   | tup rs =>
     have h2':=h2
     simp only [Tr.In] at h2
     obtain ⟨b,vs,rfl,p2,c2⟩:=h2
     by_cases hab:a=b
     · subst hab
       rw [decide_eq_true (h1'.inj h2')]
       exact SeqAt.EqAt.same _
     refine SeqAt.EqAt.of_refs hab ?_
     simp only [Tr.h] at hu
     have l1:=c1.len
     have l2:=c2.len
     simp only [Array.length_toList] at l1 l2
     have:=SeqAt.RcAt.tuples (A:=A) (s:=s) (e:=fun j=>decide (ts.getD j .non=rs.getD j .non)) p1 p2 (by omega) (fun j h1 h2=>by
      have:=Tr.Ins.eqAts (A:=A.in1) c1 c2 (by rw [a77]; omega) j (by simpa using h1) (by simpa using h2)
      simpa using this)
     rw [l1,l2,b37] at this
     rw [show decide (Tr.tup ts=Tr.tup rs)=decide (ts=rs) from Bool.eq_iff_iff.mpr (by simp)]
     exact this
theorem Tr.Ins.eqAts:∀ {ts rs:List Tr}{A:Around}{us zs:List Value},Tr.Ins s.heap ts us→Tr.Ins s.heap rs zs→A.units+Tr.hs ts+Tr.hs rs<cLine →
 ∀ (j:Nat) (h1:j<us.length) (h2:j<zs.length),SeqAt.EqAt A s us[j] zs[j] (decide (ts.getD j .non=rs.getD j .non))
 | [],rs,A,us,zs,c1,c2,hu,j,h1,h2=>by
   simp only [Tr.Ins] at c1
   subst c1
   exact absurd h1 (by simp)
 | t::ts,[],A,us,zs,c1,c2,hu,j,h1,h2=>by
   simp only [Tr.Ins] at c2
   subst c2
   exact absurd h2 (by simp)
 | t::ts,r::rs,A,us,zs,c1,c2,hu,j,h1,h2=>by
   simp only [Tr.Ins] at c1 c2
   obtain ⟨u,us,rfl,a1,b1⟩:=c1
   obtain ⟨z,zs,rfl,a2,b2⟩:=c2
   simp only [Tr.hs] at hu
   cases j with
   | zero =>
     have:=a1.eqAt a2 (A:=A) (by omega)
     simpa using this
   | succ j =>
     have:=b1.eqAts b2 (A:=A) (by omega) j (by simpa using h1) (by simpa using h2)
     simpa using this
end
end
section
variable {prog:Program}{w:World}{E:Value→Shared→Prop}
end
section
variable {prog:Program}{w:World}{E:Value→Shared→Prop}
end
section
variable {prog:Program}{w:World}{E:Value→Shared→Prop}{A:Around}{s:Shared}{d:Addr}{o:Obj}{es:Array DictEntry}{ep:Nat}{ts:List Tr}{t:Tr}{u:Value}
end
section
variable {X:Cx}{pins:List (Addr×Obj)}{σ:St} {H:Hp}{s:Shared}{a:Addr}{t:Tr}{y v:V}{u r:Value}{A:Around}{E:Value→Shared→Prop}{kvs:List (Tr×V)}{m:List (Tr×V×V)}
end
section
variable {prog:Program}{w:World}{A:Around}{E:Value→Shared→Prop}{s:Shared}{d it:Addr}{es:Array DictEntry}{ep i:Nat}
end
section
variable {X:Cx}{pins:List (Addr×Obj)}{σ:St} {H:Hp}{s:Shared}{a:Addr}{t:Tr}{y v z:V}{u r:Value}{A:Around}{E:Value→Shared→Prop}{kvs:List (Tr×V)}{m:List (Tr×V×V)}
end
theorem al8 {H H':Hp}{t:Tr}{v:V}(h:t.At H v []) (k:Tups H H'):t.At H' v []:=h.mono ⟨k,fun _ m=>absurd m (by simp)⟩
section
variable {X:Cx}{o i e f value:Expr}{pos pos' apos cpos:Pos}{td ty tv tx:TE}{P:Params}
end
section
variable {X:Cx}
theorem Tr.In.rcAt {s:Shared}{t r:Tr}{A:Around}{u z:Value}(h1:Tr.In s.heap t u) (h2:Tr.In s.heap r z) (hu:A.units+t.h+r.h+2<cLine):SeqAt.RcAt A s u z (decide (t=r)):=by
 cases t with
 | lst _=>exact h1.elim
 | non =>
   simp only [Tr.In] at h1
   subst h1
   cases r with
   | lst _=>exact h2.elim
   | non=>simp only [Tr.In] at h2; subst h2; rw [decide_eq_true rfl]; exact SeqAt.RcAt.none_none
   | int j =>
     rw [decide_eq_false (by simp)]
     rcases h2 with ⟨t2,rfl⟩ | ⟨b2,rfl,rfl⟩
     · exact SeqAt.RcAt.none_int _ _
     · exact SeqAt.RcAt.none_bool _
   | str j=>obtain ⟨t2,rfl⟩:=h2; rw [decide_eq_false (by simp)]; exact SeqAt.RcAt.none_str _ _
   | tup rs=>simp only [Tr.In] at h2; obtain ⟨b,vs,rfl,p,_⟩:=h2; rw [decide_eq_false (by simp)]; exact SeqAt.RcAt.none_tuple p (by omega)
 | int i =>
   cases r with
   | lst _=>exact h2.elim
   | non =>
     simp only [Tr.In] at h2
     subst h2
     rw [decide_eq_false (by simp)]
     rcases h1 with ⟨t1,rfl⟩ | ⟨b1,rfl,rfl⟩
     · exact SeqAt.RcAt.int_none _ _
     · exact SeqAt.RcAt.bool_none _
   | int j =>
     rw [show decide (Tr.int i=Tr.int j)=(i == j) from Bool.eq_iff_iff.mpr (by simp)]
     rcases h1 with ⟨t1,rfl⟩ | ⟨b1,rfl,rfl⟩
     · rcases h2 with ⟨t2,rfl⟩ | ⟨b2,rfl,rfl⟩
       · exact SeqAt.RcAt.int_int _ _ _ _
       · exact SeqAt.RcAt.int_bool _ _ _
     · rcases h2 with ⟨t2,rfl⟩ | ⟨b2,rfl,rfl⟩
       · exact SeqAt.RcAt.bool_int _ _ _
       · have:=SeqAt.RcAt.bool_bool (A:=A) (s:=s) b1 b2
         cases b1 <;> cases b2 <;> exact this
   | str j =>
     obtain ⟨t2,rfl⟩:=h2
     rw [decide_eq_false (by simp)]
     rcases h1 with ⟨t1,rfl⟩ | ⟨b1,rfl,rfl⟩
     · exact SeqAt.RcAt.int_str _ _ _ _
     · exact SeqAt.RcAt.bool_str _ _ _
   | tup rs =>
     simp only [Tr.In] at h2
     obtain ⟨b,vs,rfl,p,_⟩:=h2
     rw [decide_eq_false (by simp)]
     rcases h1 with ⟨t1,rfl⟩ | ⟨b1,rfl,rfl⟩
     · exact SeqAt.RcAt.int_tuple _ _ p (by omega)
     · exact SeqAt.RcAt.bool_tuple _ p (by omega)
 | str i =>
   obtain ⟨t1,rfl⟩:=h1
   cases r with
   | lst _=>exact h2.elim
   | non=>simp only [Tr.In] at h2; subst h2; rw [decide_eq_false (by simp)]; exact SeqAt.RcAt.str_none _ _
   | int j =>
     rw [decide_eq_false (by simp)]
     rcases h2 with ⟨t2,rfl⟩ | ⟨b2,rfl,rfl⟩
     · exact SeqAt.RcAt.str_int _ _ _ _
     · exact SeqAt.RcAt.str_bool _ _ _
   | str j =>
     obtain ⟨t2,rfl⟩:=h2
     have:=SeqAt.RcAt.str_str (A:=A) (s:=s) i t1 j t2
     rw [show (i == j)=decide (Tr.str i=Tr.str j) from Bool.eq_iff_iff.mpr (by simp)] at this
     exact this
   | tup rs=>simp only [Tr.In] at h2; obtain ⟨b,vs,rfl,p,_⟩:=h2; rw [decide_eq_false (by simp)]; exact SeqAt.RcAt.str_tuple _ _ p (by omega)
 | tup ts =>
   simp only [Tr.In] at h1
   obtain ⟨a,us,rfl,p1,c1⟩:=h1
   cases r with
   | lst _=>exact h2.elim
   | non=>simp only [Tr.In] at h2; subst h2; rw [decide_eq_false (by simp)]; exact SeqAt.RcAt.tuple_none p1 (by omega)
   | int j =>
     rw [decide_eq_false (by simp)]
     rcases h2 with ⟨t2,rfl⟩ | ⟨b2,rfl,rfl⟩
     · exact SeqAt.RcAt.tuple_int _ _ p1 (by omega)
     · exact SeqAt.RcAt.tuple_bool _ p1 (by omega)
   | str j=>obtain ⟨t2,rfl⟩:=h2; rw [decide_eq_false (by simp)]; exact SeqAt.RcAt.tuple_str _ _ p1 (by omega)
   | tup rs =>
     simp only [Tr.In] at h2
     obtain ⟨b,vs,rfl,p2,c2⟩:=h2
     simp only [Tr.h] at hu
     have l1:=c1.len
     have l2:=c2.len
     simp only [Array.length_toList] at l1 l2
     have:=SeqAt.RcAt.tuples (A:=A) (s:=s) (e:=fun j=>decide (ts.getD j .non=rs.getD j .non)) p1 p2 (by omega) (fun j h1 h2=>by
      have:=Tr.Ins.eqAts (A:=A.in1) c1 c2 (by rw [a77]; omega) j (by simpa using h1) (by simpa using h2)
      simpa using this)
     rw [l1,l2,b37] at this
     rw [show decide (Tr.tup ts=Tr.tup rs)=decide (ts=rs) from Bool.eq_iff_iff.mpr (by simp)]
     exact this
end
section
variable {P:Params}{σ:St} {H:Hp}{Q:VK}{td ty tx tv:TE}{nn bb cc:St→Hp→Prop}{rr:VK}
end
def be6 (K:PySem.W.Frag):R2:=fun x y H Q=>∃ a b xs,x=.ref a∧y=.ref b∧SqL K H a xs∧SqL K H b []∧Q (.bl (!xs.isEmpty)) H
section
variable {X:Cx}
theorem b38 (K:PySem.W.Frag) (hu:X.A.units+64<cLine) (hK:X.K=K:=by rfl):OpR X (compareOp .NotEq) (be6 K):=by
 subst hK
 intro pins s σ H x y v u Q I rx ry h
 obtain ⟨a,b,xs,rfl,rfl,h1,h2,q⟩:=h
 cases rx
 cases ry
 obtain ⟨is1,q1,p1,_⟩:=I.list h1
 obtain ⟨is2,q2,p2,_⟩:=I.list h2
 cases q2
 cases q1 with
 | nil =>
   have:=SeqAt.RcNeAt.lists (A:=X.A) (s:=s) (e:=fun _=>true) p1.isList p2.isList rfl (by omega) (fun j h1 _=>absurd h1 (by simp))
   exact this X.prog X.w X.xe (EP X pins σ Q) ⟨.bl false,H,I,rfl,q⟩
 | cons r1 r2 =>
   have:=SeqAt.RcNeAt.lists_lengths (A:=X.A) (s:=s) p1.isList p2.isList (by simp) (by omega)
   exact this X.prog X.w X.xe (EP X pins σ Q) ⟨.bl true,H,I,rfl,q⟩
end
section
variable {K:PySem.W.Frag}{H:Hp}{Q:VK}
theorem bj5 {a b:Addr}{xs:List V}(h1:SqL K H a xs) (h2:SqL K H b []) (h:Q (.bl (!xs.isEmpty)) H):be6 K (.ref a) (.ref b) H Q:=⟨a,b,xs,rfl,rfl,h1,h2,h⟩
end
section
variable {X:Cx}{o e value:Expr}{f:Str}{pos pos':Pos}{ta tv:TE}
theorem a47 (K:PySem.W.Frag) (he:PE X e ta) (hb:attributeBase e f X.env (eval e X.env)=eval e X.env) (hK:X.K=K:=by rfl):PE X (.Attribute e f pos) (tFld K ta f):=hK ▸ bp7 he hb
theorem ah3 (K:PySem.W.Frag) (ha:PE X o ta) (hv:PE X value tv) (hs:swapsWith value (some (.Attribute o f pos')) pos.line X.env=pure false) (hK:X.K=K:=by rfl):PS X (.Assign [.Attribute o f pos'] value pos) (sFld K ta tv f):=hK ▸ bp8 ha hv hs
end
section
variable {K:PySem.W.Frag}{σ:St} {H:Hp}{Q:VK}{ta tv:TE}{t:TA}{f m:Str}{C:Addr}{sp:Sp}{dvs:List V}{E:XK}{nn bb cc:St→Hp→Prop}{rr:VK}
theorem c37 (h:ta σ H fun x H1=>∃ a C dx fs v,x=.ref a∧H1 a=some (.ins C dx fs)∧Cls K C∧NoAttr K C f∧fs.lookup f=some v∧Q v H1):tFld K ta f σ H Q:=h
theorem bv7 (h:tv σ H fun y H1=>ta σ H1 fun x H2=>∃ a C dx fs,x=.ref a∧H2 a=some (.ins C dx fs)∧Cls K C∧NoAttr K C f∧fs.length<1000∧nn σ (upd H2 a (.ins C dx (putF f y fs)))):sFld K ta tv f ⟨nn,rr,bb,cc⟩ σ H:=h
theorem bv8 (h:ta σ H fun x H1=>∃ a dx fs,x=.ref a∧H1 a=some (.ins C dx fs)∧fs.lookup m=none∧t σ H1 fun vs H2=>sp (x::(vs++dvs)) H2 Q E):bg8 C m sp dvs E ta t σ H Q:=h
theorem bv9 (h:t σ H fun vs H1=>∀ x dx,H1 x=none→H1 dx=none→dx≠x→sp (.ref x::(vs++dvs)) (upd (upd H1 dx (.own x)) x (.ins C dx [])) (fun v H2=>v=.non∧Q (.ref x) H2) E):bq0 C sp dvs E t σ H Q:=h
end
theorem b39 {H:Hp}{a C dx:Addr}{fs:List (Str×V)}{o:HO}(h:H a=some (.ins C dx fs)):Tups H (upd H a o):=fun b ys e=>by rw [a14 (b71 e h (fun z=>nomatch z))]; exact e
section
variable {X:Cx}{pins:List (Addr×Obj)}{σ:St} {H:Hp}{s:Shared}
end
section
variable {X:Cx}
end
theorem av6 {K:PySem.W.Frag}{a:Addr}{xs:List V}{g:TG}{tb:TS}{D:Ends}{σ:St} {H:Hp}(Pv:Nat→St→Hp→Prop) (h0:Pv 0 σ H) (hl:∀ i σ H,i≤xs.length→Pv i σ H→SqL K H a xs)
 (hs:∀ i x σ H q H2,xs[i]?=some x→Pv i σ H→Same H H2→H2 q=some (.tup [.int (i:Nat),x])→g (.ref q) σ H2 fun σ1 H1=>tb { D with nx:=Pv (i+1),ct:=Pv (i+1),bk:=D.nx } σ1 H1)
 (hd:∀ σ H,Pv xs.length σ H→D.nx σ H):be1 (Ite K a) g tb D σ H:=by
 refine ⟨fun i m σ H=>m=xs.length - i∧i≤xs.length∧Pv i σ H,⟨xs.length,by simp,Nat.zero_le _,h0⟩,?_⟩
 rintro i m σ' H' ⟨rfl,hi,p⟩
 have hq:=hl i σ' H' hi p
 by_cases hlt:i<xs.length
 · refine .inr ⟨⟨xs,xs[i],hq,by simp [hlt]⟩,Pv (i+1),fun σ2 H2 p'=>⟨xs.length - (i+1),by omega,rfl,hlt,p'⟩,fun v H2 y=>?_⟩
   obtain ⟨q,x,rfl,hn,sm,hT,hx⟩:=y
   exact hs i x σ' H' q H2 (hx xs hq) p sm hT
 · have e:i=xs.length:=by omega
   subst e
   exact .inl ⟨⟨xs,hq,Nat.le_refl _⟩,hd σ' H' p⟩
section
variable {K:PySem.W.Frag}{H:Hp}{Q:VK}
end
section
variable {X:Cx}{tg:Expr}
end
section
variable {σ:St} {H:Hp}{R:It→Hp→Prop}{ts:TA}
end
section
variable {X:Cx}
def c38:List V→Hp→VK→Prop:=fun xs H Q=>∃ (x:Str) (n:Int),xs=[.str x]∧intText? x=some n∧x.length≤640∧Q (.int n) H
theorem bj6:CallR X (.type "int") c38:=by
 intro pins s σ H xs us Q I r h
 obtain ⟨x,n,rfl,h1,h2,q⟩:=h
 cases r with
 | cons r1 r2 =>
 cases r2
 obtain ⟨t,rfl⟩:=r1
 have:=PySem.W.KTb.int_tab (prog:=X.prog) (w:=X.w) (A:=X.A) (E:=X.xe) (s:=s) (L:=[x]) (zs:=[n]) (n:=1) (k:=0) (t:=t) (Q:=fun v s'=>∃ x7 H',Inv X pins σ H' s'∧RelV x7 v∧Q x7 H') (by decide) (fun j hj=>by
  obtain rfl:j=0:=by omega
  exact ⟨h1,h2⟩) fun t' k'=>⟨.int n,H,I.tok _,⟨t',rfl⟩,q⟩
 exact this
end
section
variable {K:PySem.W.Frag}{H:Hp}{Q:VK}
end
section
variable {X:Cx}{e st:Expr}{te ts:TE}{p2 pos:Pos}
end
structure ItS (prog:Program) (w:World) (it l:Addr) (xs:Array Value) (st:Nat→Heap→Prop):Prop where
 keep:∀ {k:Nat}{h h':Heap},st k h→(∀ c o,c=it∨c=l→h.get? c=some o→h'.get? c=some o)→st k h'
 item:∀ {A:Around}{E:Value→Shared→Prop}{s:Shared}{k:Nat}{x:Value}{Q:Value→Shared→Prop},st k s.heap→xs[k]?=some x→(∀ h':Heap,st (k+1) h'→Heap.SameBut it s.heap h'→Q x { s with heap:=h' })→wpAny (model prog w) A (Builtin.SmallTypes.nextOf (.ref it)) Q E s
 done:∀ {A:Around}{E:Value→Shared→Prop}{s:Shared}{k:Nat}{Q:Value→Shared→Prop},A.handled=none→st k s.heap→xs[k]?=none→(∀ (h':Heap) (e:Addr),Heap.ExtBut it s.heap h'→(∃ o,h'.get? e=some o∧o.cls=.type "StopIteration")→E (.ref e) { s with heap:=h' })→wpAny (model prog w) A (Builtin.SmallTypes.nextOf (.ref it)) Q E s
theorem av7 {prog:Program}{w:World}{it l:Addr}{xs:Array Value}(hn:l≠it):ItS prog w it l xs (fun k h=>h.IsListIter it l k∧h.IsList l xs) where
 keep:=fun ⟨h1,h2⟩ k=>⟨h1.at fun o e=>k it o (.inl rfl) e,by obtain ⟨o,e,r⟩:=h2; exact ⟨o,k l o (.inr rfl) e,r⟩⟩
 item:=fun ⟨h1,h2⟩ e q=>wpAny_nextOf_list_item h1 h2 e fun h' a b=>q h' ⟨a,h2.extBut b.extBut hn⟩ b
 done:=fun hA ⟨h1,h2⟩ e q=>wpAny_nextOf_list_end hA h1 h2 e q
theorem a09 {a b:Addr}{h h':Heap}{o:Obj}(s:Heap.SameBut a h h') (hn:b≠a) (e:h.get? b=some o):h'.get? b=some o:=(s.2 b hn).trans e
section
variable {prog:Program}{w:World}{z TI TO i1 i2 i3 l1 l2 l3:Addr}{xs ys us:Array Value}{st1 st2 st3:Nat→Heap→Prop}
end
structure SrcO (l:Addr) (o:Obj) (P:Heap→Prop):Prop where
 push:∀ {h:Heap}{o':Obj},P h→P (h.push o')
 iter:∀ {prog:Program}{w:World}{A:Around}{E:Value→Shared→Prop}{s:Shared}{Q:Value→Shared→Prop},P s.heap→Q (.ref s.heap.objs.size) { s with heap:=s.heap.push o }→wpAny (model prog w) A (pyIter (.ref l)) Q E s
theorem b99 (l:Addr) (xs:Array Value):SrcO l { cls:=.type "list_iterator",data:=.fields #[.ref l,.int 0 0] } (fun h=>h.IsList l xs) where
 push:=fun h=>h.push _
 iter:=fun p q=>wpAny_pyIter_list p q
section
variable {X:Cx}{elts:List Expr}{x1:Nat}{tpos:Pos}
end
section
variable {X:Cx}{k v:Expr}{pos:Pos}{tk tv:TE}{P:Params}
end
def Each {α β:Type}(R:α→β→Prop) (vs:List α) (xs:List β):Prop:=vs.length=xs.length∧∀ (j:Nat) (v:α) (x:β),vs[j]?=some v→xs[j]?=some x→R v x
section
variable {α β:Type}{R:α→β→Prop}{vs:List α}{xs:List β}
theorem Each.nil:Each R ([]:List α) ([]:List β):=⟨rfl,fun j v x h=>by simp at h⟩
theorem Each.mono {R':α→β→Prop}(h:Each R vs xs) (k:∀ v x,R v x→R' v x):Each R' vs xs:=⟨h.1,fun j v x h1 h2=>k v x (h.2 j v x h1 h2)⟩
theorem Each.append {ws:List α}{ys:List β}(h:Each R vs xs) (k:Each R ws ys):Each R (vs++ws) (xs++ys):=by
 refine ⟨by simp [h.1,k.1],fun j v x h1 h2=>?_⟩
 by_cases hj:j<vs.length
 · rw [List.getElem?_append_left hj] at h1
   rw [List.getElem?_append_left (by rw [← h.1]; exact hj)] at h2
   exact h.2 j v x h1 h2
 · rw [List.getElem?_append_right (by omega)] at h1
   rw [List.getElem?_append_right (by rw [← h.1]; omega),←h.1] at h2
   exact k.2 _ v x h1 h2
theorem Each.snoc {v:α}{x:β}(h:Each R vs xs) (k:R v x):Each R (vs++[v]) (xs++[x]):=h.append ⟨rfl,fun j w y h1 h2=>by
 cases j with
 | zero=>cases h1; cases h2; exact k
 | succ j=>simp at h1⟩
theorem Each.get {j:Nat}{x:β}(h:Each R vs xs) (k:xs[j]?=some x):∃ v,vs[j]?=some v∧R v x:=by
 have hj:j<vs.length:=by rw [h.1]; exact (List.getElem?_eq_some_iff.mp k).1
 exact ⟨vs[j],List.getElem?_eq_getElem hj,h.2 j _ x (List.getElem?_eq_getElem hj) k⟩
end
abbrev RRow:=List Str×Nat
abbrev c39:=Bool×List RRow
def RowAt (H:Hp) (v:V) (x:RRow):Prop:=∃ k sl,v=.ref k∧H k=some (.tup [.ref sl,.int (x.2:Nat)])∧H sl=some (.lst (a31 x.1))
theorem RowAt.same {H H':Hp}{v:V}{x:RRow}(h:RowAt H v x) (s:Same H H'):RowAt H' v x:=by
 obtain ⟨k,sl,e,h1,h2⟩:=h
 exact ⟨k,sl,e,s _ _ h1,s _ _ h2⟩
section
variable {f:Nat→Option Nat}{rep rk:Nat→Nat}
end
def hF (d:Addr):List (Str×V):=putF "heads" (.ref d) []
abbrev Pr:=Nat×Nat
def bw0:R2:=fun x y H Q=>∃ a b xs ys,x=.ref a∧y=.ref b∧H a=some (.tup xs)∧H b=some (.tup ys)∧xs.length+ys.length≤sizeLine∧∀ c H',Same H H'→H' c=some (.tup (xs++ys))→Q (.ref c) H'
section
variable {X:Cx}
theorem ba0:OpR X (binaryOp .Add) bw0:=by
 intro pins s σ H x y v u Q I rx ry h
 obtain ⟨a,b,xs,ys,rfl,rfl,ha,hb,hz,q⟩:=h
 cases rx
 cases ry
 obtain ⟨its,r1,p1,_⟩:=I.tuple (SqT.of ha)
 obtain ⟨its2,r2,p2,_⟩:=I.tuple (SqT.of hb)
 obtain ⟨⟨cls,dd,data,sl⟩,ho,hc,n,hd⟩:=id p1
 obtain ⟨⟨cls2,dd2,data2,sl2⟩,ho2,hc2,n2,hd2⟩:=id p2
 simp only at hc hd hc2 hd2
 subst hc hd hc2 hd2
 have e:its.toArray++its2.toArray=(its++its2).toArray:=by simp
 by_cases hv:its=[]
 · refine concat_meets ⟨_,ho,rfl⟩ ⟨_,ho2,rfl⟩ noFill_tuple_add seq_tuple_add PySem.F.slot_tuple_add PySem.F.entry_tuple_add (PySem.F.args_tuple_add_2 _ _)
    (tuple_addW0 a b its.toArray its2.toArray n n2 dd dd2 sl sl2 (by simp [hv])) ⟨ho,ho2,⟨.ref b,H,I,rfl,q b H (Same.refl _) ?_⟩⟩
   rw [r1.nil_iff.mp hv,List.nil_append]
   exact hb
 · by_cases hw:its2=[]
   · refine concat_meets ⟨_,ho,rfl⟩ ⟨_,ho2,rfl⟩ noFill_tuple_add seq_tuple_add PySem.F.slot_tuple_add PySem.F.entry_tuple_add (PySem.F.args_tuple_add_2 _ _)
      (tuple_addW1 a b its.toArray its2.toArray n n2 dd dd2 sl sl2 (by simpa using hv) (by simp [hw])) ⟨ho,ho2,⟨.ref a,H,I,rfl,q a H (Same.refl _) ?_⟩⟩
     rw [r2.nil_iff.mp hw,List.append_nil]
     exact ha
   · refine concat_meets ⟨_,ho,rfl⟩ ⟨_,ho2,rfl⟩ noFill_tuple_add seq_tuple_add PySem.F.slot_tuple_add PySem.F.entry_tuple_add (PySem.F.args_tuple_add_2 _ _)
      (tuple_addW2 a b its.toArray its2.toArray n n2 dd dd2 sl sl2 (by simpa using hv) (by simpa using hw) (by rw [List.size_toArray,List.size_toArray,←r1.length,←r2.length]; exact hz)) ⟨ho,ho2,?_⟩
     rw [e]
     have fr:=I.hok.fresh (Nat.le_refl s.heap.objs.size)
     refine ⟨.ref s.heap.objs.size,_,I.laid (t':=s.toks) (o:=.tup (xs++ys)) (fun b ob q=>Heap.get?_push_of_some _ q) (Nat.le_refl _) ?_,rfl,q _ _ (Same.new fr) a19⟩
     exact ⟨by rw [List.length_append]; exact hz,_,r1.append r2,IsTup.new _ _⟩
theorem ae1 {prog:Program}{w:World}{A:Around}{E:Value→Shared→Prop}{s:Shared}{t sl:Addr}{items:Array Value}{vl vu:Value}{lo hi:Option Int}{Q:Value→Shared→Prop}(ht:IsTup s.heap t items) (hs:s.heap.IsSliceOf sl vl vu .none) (pl:IsPart vl lo) (pu:IsPart vu hi)
 (hw:HT.sIx items.size 0 lo=0∧HT.sIx items.size items.size hi=items.size) (h:Q (.ref t) s):wpAny (model prog w) A (getItem (.ref t) (.ref sl)) Q E s:=by
 obtain ⟨os,hos,hcs,hds⟩:=id hs
 have hTs:s.TypeIs (.ref sl) "slice":=⟨os,hos,hcs⟩
 unfold getItem
 try with_reducible refine wpAny_holding ?_
 first | refine wpAny_bind (wpAny_pure ?_) | skip
 refine wpAny_bind (wpAny_sequenceKey ht.typeIs (by decide) ?_)
 refine wpAny_bind (wpAny_callSpecial?_slot (name:=Str.ofString "__getitem__") ht.typeIs PyProof.Rows.slot_tuple_getitem
  (wpAny_call_entry PyProof.Rows.slot_tuple_getitem ht.typeIs PyProof.Rows.entry_tuple_getitem ?_ (PyProof.Rows.args_tuple_getitem _ _)))
 show wpAny _ _ (Builtin.Tuple.tupleItemsOf (.ref t) >>= _) _ _ s
 refine wpAny_bind (PyProof.Rows.tupleItemsOf_ ht ?_)
 refine wpAny_bind (wpAny_typeOf hTs ?_)
 rw [if_pos (by decide)]
 refine wpAny_bind (HT.sliceApplied_gen hs pl pu ?_)
 have hyes:(((HT.sIx items.size 0 lo:Nat):Int) == 0 && (1:Int) == 1 && (HT.sIx items.size items.size hi - HT.sIx items.size 0 lo) == items.size)=true:=by
  rw [hw.1,hw.2]
  simp
 show wpAny _ _ (if (((HT.sIx items.size 0 lo:Nat):Int) == 0 && (1:Int) == 1 && (HT.sIx items.size items.size hi - HT.sIx items.size 0 lo) == items.size)=true then _ else _) _ _ s
 rw [if_pos hyes]
 refine wpAny_bind ?_
 unfold Builtin.Tuple.tupleIsExact
 refine wpAny_bind (wpAny_typeOf ht.typeIs (wpAny_pure ?_))
 rw [if_pos (by decide)]
 exact wpAny_bind (wpAny_rule (wpAny_pure ⟨_,rfl,wpAny_pure h⟩))
def rSlU:V→Option Int→Option Int→Hp→VK→Prop:=fun x lo hi H Q=>∃ a xs,x=.ref a∧H a=some (.tup xs)∧∀ c H',Same H H'→H' c=some (.tup (cutV xs lo hi))→Q (.ref c) H'
theorem ba1:SlR X rSlU:=by
 intro pins s σ H x v vl vu lo hi sl Q I rx hs pl pu h
 obtain ⟨a,xs,rfl,hx,q⟩:=h
 by_cases hw:HT.sIx xs.length 0 lo=0∧HT.sIx xs.length xs.length hi=xs.length
 · cases rx
   obtain ⟨its,r,ht,hz⟩:=I.tuple (SqT.of hx)
   have hlen:its.toArray.size=xs.length:=by rw [List.size_toArray]; exact r.length.symm
   refine ⟨"tuple",_,PyProof.Rows.slot_tuple_getitem.lookup,ht.typeIs,?_⟩
   refine ae1 ht hs pl pu (by rw [hlen]; exact hw) ⟨.ref a,H,I,rfl,q a H (Same.refl _) ?_⟩
   have e:cutV xs lo hi=xs:=by
    unfold cutV
    rw [hw.1,hw.2,List.drop_zero,Nat.sub_zero,List.take_length]
   rw [e]
   exact hx
 · exact bq3 pins s σ H (.ref a) v vl vu lo hi sl Q I rx hs pl pu ⟨a,xs,rfl,SqT.of hx,hw,fun p hp=>q p _ (Same.new hp) a19⟩
end
section
variable {H:Hp}{Q:VK}
theorem bw1 {a b:Addr}{xs ys:List V}(h1:H a=some (.tup xs)) (h2:H b=some (.tup ys)) (hz:xs.length+ys.length≤sizeLine) (h:∀ c H',Same H H'→H' c=some (.tup (xs++ys))→Q (.ref c) H'):bw0 (.ref a) (.ref b) H Q:=⟨a,b,xs,ys,rfl,rfl,h1,h2,hz,h⟩
theorem c40 {a:Addr}{xs:List V}{lo hi:Option Int}(h1:H a=some (.tup xs)) (h:∀ c H',Same H H'→H' c=some (.tup (cutV xs lo hi))→Q (.ref c) H'):rSlU (.ref a) lo hi H Q:=⟨a,xs,rfl,h1,h⟩
end
def TupK (K:PySem.W.Frag) (a:Addr) (xs:List V):Prop:=∃ (o:Obj) (its:Array Value) (n:Nat),K.lookup a=some o∧o.cls=.type "tuple"∧o.data=.seq its n∧its.size≤sizeLine∧Vals xs its.toList
theorem TupK.sq {K:PySem.W.Frag}{a:Addr}{xs:List V}(h:TupK K a xs) (H:Hp):SqT K H a xs:=.inr h
mutual
def Tr.AtK (K:PySem.W.Frag) (H:Hp):Tr→V→Prop
 | .non,v=>v=.non
 | .int i,v=>v=.int i
 | .str s,v=>v=.str s
 | .tup xs,v=>∃ a vs,v=.ref a∧(H a=some (.tup vs)∨TupK K a vs)∧Tr.AtsK K H xs vs
 | .lst _,_=>False
def Tr.AtsK (K:PySem.W.Frag) (H:Hp):List Tr→List V→Prop
 | [],vs=>vs=[]
 | x::xs,vs=>∃ v ws,vs=v::ws∧Tr.AtK K H x v∧Tr.AtsK K H xs ws
end
mutual
theorem Tr.AtK.mono {K:PySem.W.Frag}{H H':Hp}:∀ {x:Tr}{v:V},x.AtK K H v→Tups H H'→x.AtK K H' v
 | .non,_,h,_=>by simpa only [Tr.AtK] using h
 | .int _,_,h,_=>by simpa only [Tr.AtK] using h
 | .str _,_,h,_=>by simpa only [Tr.AtK] using h
 | .tup xs,v,h,k=>by
   simp only [Tr.AtK] at h ⊢
   obtain ⟨a,vs,e,g,r⟩:=h
   exact ⟨a,vs,e,g.imp (fun z=>k _ _ z) id,Tr.AtsK.mono r k⟩
 | .lst xs,v,h,k=>by simp only [Tr.AtK] at h
theorem Tr.AtsK.mono {K:PySem.W.Frag}{H H':Hp}:∀ {xs:List Tr}{vs:List V},Tr.AtsK K H xs vs→Tups H H'→Tr.AtsK K H' xs vs
 | [],_,h,_=>by simpa only [Tr.AtsK] using h
 | x::xs,vs,h,k=>by
   simp only [Tr.AtsK] at h ⊢
   obtain ⟨v,ws,e,a,b⟩:=h
   exact ⟨v,ws,e,Tr.AtK.mono a k,Tr.AtsK.mono b k⟩
end
mutual
theorem Tr.At.toK (K:PySem.W.Frag) {H:Hp}:∀ {x:Tr}{v:V},x.At H v []→x.AtK K H v
 | .non,_,h=>by simp only [Tr.At] at h; simp only [Tr.AtK]; exact h.1
 | .int _,_,h=>by simp only [Tr.At] at h; simp only [Tr.AtK]; exact h.1
 | .str _,_,h=>by simp only [Tr.At] at h; simp only [Tr.AtK]; exact h.1
 | .tup xs,v,h=>by
   simp only [Tr.At] at h
   simp only [Tr.AtK]
   obtain ⟨a,vs,e,g,r⟩:=h
   exact ⟨a,vs,e,.inl g,Tr.Ats.toK K r⟩
 | .lst xs,v,h=>(b35 (h:=h)).elim
theorem Tr.Ats.toK (K:PySem.W.Frag) {H:Hp}:∀ {xs:List Tr}{vs:List V},Tr.Ats H xs vs []→Tr.AtsK K H xs vs
 | [],_,h=>by simp only [Tr.Ats] at h; simp only [Tr.AtsK]; exact h.1
 | x::xs,vs,h=>by
   simp only [Tr.Ats] at h
   simp only [Tr.AtsK]
   obtain ⟨v,ws,f,g,e,e2,a,b⟩:=h
   have hf:f=[]∧g=[]:=by simpa using e2.symm
   obtain ⟨rfl,rfl⟩:=hf
   exact ⟨v,ws,e,Tr.At.toK K a,Tr.Ats.toK K b⟩
end
section
variable {X:Cx}{pins:List (Addr×Obj)}{σ:St} {H:Hp}{s:Shared}
mutual
theorem Tr.AtK.isIn (I:Inv X pins σ H s):∀ {t:Tr}{v:V}{u:Value},t.AtK X.K H v→RelV v u→Tr.In s.heap t u
 | .non,v,u,h,r=>by
   simp only [Tr.AtK] at h
   subst h
   cases r
   exact rfl
 | .int z,v,u,h,r=>by
   simp only [Tr.AtK] at h
   subst h
   obtain ⟨t,rfl⟩:=r
   exact .inl ⟨t,rfl⟩
 | .str z,v,u,h,r=>by
   simp only [Tr.AtK] at h
   subst h
   obtain ⟨t,rfl⟩:=r
   exact ⟨t,rfl⟩
 | .lst _,v,u,h,r=>by simp only [Tr.AtK] at h
 | .tup ts,v,u,h,r=>by
   simp only [Tr.AtK] at h
   obtain ⟨a,vs,rfl,e1,c1⟩:=h
   cases r
   obtain ⟨is1,q1,p1,_⟩:=I.tuple (show SqT X.K H a vs from e1.elim SqT.of (fun z=>z.sq H))
   simp only [Tr.In]
   exact ⟨a,is1.toArray,rfl,p1,by simpa using Tr.AtsK.isIns I c1 q1⟩
theorem Tr.AtsK.isIns (I:Inv X pins σ H s):∀ {ts:List Tr}{vs:List V}{us:List Value},Tr.AtsK X.K H ts vs→Vals vs us→Tr.Ins s.heap ts us
 | [],vs,us,c,q=>by
   simp only [Tr.AtsK] at c
   subst c
   cases q
   exact rfl
 | t::ts,vs,us,c,q=>by
   simp only [Tr.AtsK] at c
   obtain ⟨v,vs,rfl,a1,b1⟩:=c
   cases q with
   | cons r1 r2 =>
     simp only [Tr.Ins]
     exact ⟨_,_,rfl,Tr.AtK.isIn I a1 r1,Tr.AtsK.isIns I b1 r2⟩
end
end
def bw2 (K:PySem.W.Frag):R2:=fun x y H Q=>∃ (t r:Tr),t.AtK K H x∧r.AtK K H y∧t.h≤20∧r.h≤20∧Q (.bl (decide (t=r))) H
section
variable {X:Cx}{pins:List (Addr×Obj)}{σ:St} {H:Hp}{s:Shared}{a:Addr}{t:Tr}{y v z:V}{u r:Value}{A:Around}{E:Value→Shared→Prop}{kvs:List (Tr×V)}{m:List (Tr×V×V)}
end
section
variable {X:Cx}{o i e f value:Expr}{pos pos' apos cpos:Pos}{td ty tv tx:TE}{P:Params}
theorem al9 (K:PySem.W.Frag) (hu:X.A.units+64<cLine) (hK:X.K=K:=by rfl):OpR X (compareOp .Eq) (bw2 K):=by
 subst hK
 intro pins s σ H x y v u Q I rx ry h
 obtain ⟨t,r,h1,h2,l1,l2,q⟩:=h
 exact (h1.isIn I rx).rcAt (h2.isIn I ry) (A:=X.A) (by omega) X.prog X.w X.xe (EP X pins σ Q) ⟨.bl _,H,I,rfl,q⟩
end
section
variable {K:PySem.W.Frag}{P:Params}{σ:St} {H:Hp}{Q:VK}{td ty tx tv:TE}
theorem b40 {x y:V}{t r:Tr}(h1:t.AtK K H x) (h2:r.AtK K H y) (l1:t.h≤20) (l2:r.h≤20) (h:Q (.bl (decide (t=r))) H):bw2 K x y H Q:=⟨t,r,h1,h2,l1,l2,h⟩
end
section
variable {prog:Program}{w:World}{A:Around}{E:Value→Shared→Prop}{s:Shared}
theorem ae2 {it l:Addr}{i:Nat}{items}{x:Value}{Q:Value→Shared→Prop}(hit:s.heap.IsTupleIter it l i)
 (hl:s.heap.IsTuple l items) (hx:items[i]?=some x)
 (hQ:∀ h',h'.IsTupleIter it l (i+1)→Heap.SameBut it s.heap h'→Q x { s with heap:=h' }) :
 wpAny (model prog w) A (Builtin.SmallTypes.nextOf (.ref it)) Q E s:=by
 obtain ⟨o,ho,hc,hd⟩:=id hit
 obtain ⟨ol,hol,_,nl,hdl⟩:=hl
 unfold Builtin.SmallTypes.nextOf
 refine wpAny_bind (wpAny_callSpecial?_slot (name:=Str.ofString "__next__") hit.typeIs F.slot_tuple_iterator_next
  (wpAny_call_entry F.slot_tuple_iterator_next hit.typeIs F.entry_tuple_iterator_next ?_ (F.args_tuple_iterator_next_1 _)))
 show wpAny _ _ (field (.ref it) 0 >>= _) _ _ s
 refine wpAny_bind (wpAny_field ho hd (x:=.ref l) rfl ?_)
 show wpAny _ _ (if (Value.ref l == Value.none)=true then _ else _) _ _ s
 rw [if_neg (show ¬ ((Value.ref l == Value.none)=true) from Bool.false_ne_true)]
 show wpAny _ _ (field (.ref it) 1 >>= _) _ _ s
 refine wpAny_bind (wpAny_field ho hd (x:=.int i 0) rfl ?_)
 show wpAny _ _ (seqItems? (.ref l) >>= _) _ _ s
 refine wpAny_bind (wpAny_seqItems hol hdl ?_)
 simp only [Int.toNat_natCast,hx]
 refine wpAny_bind (wpAny_setField ho hd (by simp) (wpAny_pure ⟨x,rfl,wpAny_pure (hQ _ ?_ (Heap.SameBut.update ..))⟩))
 exact ⟨_,Heap.get?_update_self _ ho (Obj.isFreed_of_fields (Obj.data_mapFields hd _)),(Obj.cls_mapFields ..).trans hc,by
  rw [Obj.data_mapFields hd]; simp [rawInt]⟩
theorem af0 {it l:Addr}{i:Nat}{items}{Q:Value→Shared→Prop}(hh:A.handled=none)
 (hit:s.heap.IsTupleIter it l i) (hl:s.heap.IsTuple l items) (hx:items[i]?=none)
 (hE:∀ h' e,Heap.ExtBut it s.heap h'→(∃ o,h'.get? e=some o∧o.cls=.type "StopIteration")→E (.ref e) { s with heap:=h' }) :
 wpAny (model prog w) A (Builtin.SmallTypes.nextOf (.ref it)) Q E s:=by
 obtain ⟨o,ho,hc,hd⟩:=id hit
 obtain ⟨ol,hol,_,nl,hdl⟩:=hl
 unfold Builtin.SmallTypes.nextOf
 refine wpAny_bind (wpAny_callSpecial?_slot (name:=Str.ofString "__next__") hit.typeIs F.slot_tuple_iterator_next
  (wpAny_call_entry F.slot_tuple_iterator_next hit.typeIs F.entry_tuple_iterator_next ?_ (F.args_tuple_iterator_next_1 _)))
 show wpAny _ _ (field (.ref it) 0 >>= _) _ _ s
 refine wpAny_bind (wpAny_field ho hd (x:=.ref l) rfl ?_)
 show wpAny _ _ (if (Value.ref l == Value.none)=true then _ else _) _ _ s
 rw [if_neg (show ¬ ((Value.ref l == Value.none)=true) from Bool.false_ne_true)]
 show wpAny _ _ (field (.ref it) 1 >>= _) _ _ s
 refine wpAny_bind (wpAny_field ho hd (x:=.int i 0) rfl ?_)
 show wpAny _ _ (seqItems? (.ref l) >>= _) _ _ s
 refine wpAny_bind (wpAny_seqItems hol hdl ?_)
 simp only [Int.toNat_natCast,hx]
 refine wpAny_bind (wpAny_rule (wpAny_bind (wpAny_setField ho hd (by simp) ?_)))
 show wpAny _ _ (newExc (.type "StopIteration") [] >>= _) _ _ _
 refine wpAny_bind ?_
 simp only [newExc,newTuple]
 refine wpAny_bind (wpAny_newObj_type ?_ (by size_fits))
 refine wpAny_bind (m:=firstArgMember _ _) (wpAny_of_eq (a:=Value.none) (by first | rfl | (simp only [firstArgMember]; rfl)) ?_)
 refine wpAny_newObj_type ?_ (by size_fits)
 simp only [raiseNew]
 refine wpAny_bind (wpAny_handled ?_)
 first | rw [show A.in1.handled=none from hh] | rw [hh]
 refine wpAny_bind (wpAny_pure (wpAny_throw ?_))
 exact hE _ _ (((Heap.SameBut.update ..).extBut.push _).push _) ⟨_,Heap.get?_push_size _ rfl,rfl⟩
end
theorem ak5 {h h':Heap}{a t:Addr}{i:Nat}(x:h.IsTupleIter a t i) (k:∀ o,h.get? a=some o→h'.get? a=some o):h'.IsTupleIter a t i:=let ⟨o,ho,r⟩:=x; ⟨o,k o ho,r⟩
theorem aq2 {prog:Program}{w:World}{it l:Addr}{xs:Array Value}(hn:l≠it):ItS prog w it l xs (fun k h=>h.IsTupleIter it l k∧h.IsTuple l xs) where
 keep:=fun ⟨h1,h2⟩ k=>⟨ak5 h1 fun o e=>k it o (.inl rfl) e,by obtain ⟨o,e,r⟩:=h2; exact ⟨o,k l o (.inr rfl) e,r⟩⟩
 item:=fun ⟨h1,h2⟩ e q=>ae2 h1 h2 e fun h' a b=>q h' ⟨a,h2.extBut b.extBut hn⟩ b
 done:=fun hA ⟨h1,h2⟩ e q=>af0 hA h1 h2 e q
theorem b41 (l:Addr) (xs:Array Value):SrcO l { cls:=.type "tuple_iterator",data:=.fields #[.ref l,.int 0 0] } (fun h=>h.IsTuple l xs) where
 push:=fun h=>h.push _
 iter:=fun p q=>wpAny_pyIter_tuple p q
section
variable {X:Cx}{elts:List Expr}{x1:Nat}{tpos:Pos}
end
theorem Each.take {α β:Type}{R:α→β→Prop}{vs:List α}{xs:List β}(h:Each R vs xs) (n:Nat):Each R (vs.take n) (xs.take n):=by
 refine ⟨by simp [h.1],fun j v x h1 h2=>?_⟩
 by_cases hj:j<n
 · rw [List.getElem?_take,if_pos hj] at h1 h2
   exact h.2 j v x h1 h2
 · rw [List.getElem?_take,if_neg hj] at h1
   cases h1
def rSlS:V→Option Int→Option Int→Hp→VK→Prop:=fun x lo hi H Q=>∃ z,x=.str z∧z.length≤sizeLine∧Q (.str (Txt.slice z lo hi)) H
theorem bj7 {X:Cx}:SlR X rSlS:=by
 intro pins s σ H x v vl vu lo hi sl Q I rx hs pl pu h
 obtain ⟨z,rfl,hz,q⟩:=h
 obtain ⟨t,rfl⟩:=rx
 have fin:∀ (t':Tok) (k:Nat),EP X pins σ Q (.str (Txt.slice z lo hi) t') { s with toks:=k }:=fun t' k=>⟨.str _,H,I.tok _,⟨_,rfl⟩,q⟩
 have hle:=Nat.le_trans (Txt.slice_le z lo hi) hz
 refine ⟨"str",_,F.slot_str_getitem.lookup,typeIs_str _ _ _,?_⟩
 cases pl with
 | none=>cases pu with
   | none=>exact wpAny_getItem_str_slice (l:=none) (u:=none) (st:=none) hs rfl (post_val_or_str ⟨hle,fin⟩)
   | int j uj=>exact wpAny_getItem_str_slice (l:=none) (u:=some (j,uj)) (st:=none) hs rfl (post_val_or_str ⟨hle,fin⟩)
 | int i ui=>cases pu with
   | none=>exact wpAny_getItem_str_slice (l:=some (i,ui)) (u:=none) (st:=none) hs rfl (post_val_or_str ⟨hle,fin⟩)
   | int j uj=>exact wpAny_getItem_str_slice (l:=some (i,ui)) (u:=some (j,uj)) (st:=none) hs rfl (post_val_or_str ⟨hle,fin⟩)
theorem c41 {H:Hp}{Q:VK}{z:Str}{lo hi:Option Int}(hz:z.length≤sizeLine) (h:Q (.str (Txt.slice z lo hi)) H):rSlS (.str z) lo hi H Q:=⟨z,rfl,hz,h⟩
theorem Tr.In.rcNeAt {s:Shared}{ts rs:List Tr}{A:Around}{u z:Value}(h1:Tr.In s.heap (.tup ts) u) (h2:Tr.In s.heap (.tup rs) z) (hu:A.units+(Tr.tup ts).h+(Tr.tup rs).h+2<cLine):SeqAt.RcNeAt A s u z (!decide (Tr.tup ts=Tr.tup rs)):=by
 simp only [Tr.In] at h1 h2
 obtain ⟨a,us,rfl,p1,c1⟩:=h1
 obtain ⟨b,vs,rfl,p2,c2⟩:=h2
 simp only [Tr.h] at hu
 have l1:=c1.len
 have l2:=c2.len
 simp only [Array.length_toList] at l1 l2
 have:=SeqAt.RcNeAt.tuples (A:=A) (s:=s) (e:=fun j=>decide (ts.getD j .non=rs.getD j .non)) p1 p2 (by omega) (fun j h1 h2=>by
  have:=Tr.Ins.eqAts (A:=A.in1) c1 c2 (by rw [a77]; omega) j (by simpa using h1) (by simpa using h2)
  simpa using this)
 rw [l1,l2,b37] at this
 rw [show decide (Tr.tup ts=Tr.tup rs)=decide (ts=rs) from Bool.eq_iff_iff.mpr (by simp)]
 exact this
def bw3 (K:PySem.W.Frag):R2:=fun x y H Q=>∃ (ts rs:List Tr),(Tr.tup ts).AtK K H x∧(Tr.tup rs).AtK K H y∧(Tr.tup ts).h≤20∧(Tr.tup rs).h≤20∧Q (.bl (!decide (Tr.tup ts=Tr.tup rs))) H
theorem ba2 {X:Cx}(K:PySem.W.Frag) (hu:X.A.units+64<cLine) (hK:X.K=K:=by rfl):OpR X (compareOp .NotEq) (bw3 K):=by
 subst hK
 intro pins s σ H x y v u Q I rx ry h
 obtain ⟨t,r,h1,h2,l1,l2,q⟩:=h
 exact (h1.isIn I rx).rcNeAt (h2.isIn I ry) (A:=X.A) (by omega) X.prog X.w X.xe (EP X pins σ Q) ⟨.bl _,H,I,rfl,q⟩
theorem bw4 {K:PySem.W.Frag}{H:Hp}{Q:VK}{x y:V}{ts rs:List Tr}(h1:(Tr.tup ts).AtK K H x) (h2:(Tr.tup rs).AtK K H y) (l1:(Tr.tup ts).h≤20) (l2:(Tr.tup rs).h≤20) (h:Q (.bl (!decide (Tr.tup ts=Tr.tup rs))) H):bw3 K x y H Q:=⟨ts,rs,h1,h2,l1,l2,h⟩
def bw5:R2:=fun x y H Q=>∃ t fs gs,(Tr.lst t).At H x fs∧(Tr.lst t).At H y gs∧Tr.hs t≤60∧Q (.bl true) H
theorem ba3 {X:Cx}(hu:X.A.units+64<cLine):OpR X (compareOp .Eq) bw5:=by
 intro pins s σ H x y v u Q I rx ry h
 obtain ⟨t,fs,gs,h1,h2,hh,q⟩:=h
 simp only [Tr.At] at h1 h2
 obtain ⟨a,vs,_,rfl,e1,c1,_⟩:=h1
 obtain ⟨b,ws,_,rfl,e2,c2,_⟩:=h2
 cases rx
 cases ry
 obtain ⟨is1,q1,p1,_⟩:=I.list (SqL.of e1)
 obtain ⟨is2,q2,p2,_⟩:=I.list (SqL.of e2)
 have hl:is1.length=is2.length:=by rw [← q1.length,←q2.length,c1.len,c2.len]
 have:=SeqAt.RcAt.lists (A:=X.A) (s:=s) (e:=fun _=>true) p1.isList p2.isList (by simpa using hl) (by omega) (fun j h1 h2=>by
  have:=Tr.eqAts I (A:=X.A.in1) c1 c2 q1 q2 (by rw [a77]; omega) j (by simpa using h1) (by simpa using h2)
  simpa using this) X.prog X.w X.xe (EP X pins σ Q)
 refine this ⟨.bl true,H,I,?_,q⟩
 rw [show ((List.range is1.toArray.size).all fun _=>true)=true by simp]
 rfl
theorem bw6 {H:Hp}{Q:VK}{x y:V}{t:List Tr}{fs gs:List Addr}(h1:(Tr.lst t).At H x fs) (h2:(Tr.lst t).At H y gs) (hh:Tr.hs t≤60) (h:Q (.bl true) H):bw5 x y H Q:=⟨t,fs,gs,h1,h2,hh,h⟩
section
variable {prog:Program}{w:World}{A:Around}{E:Value→Shared→Prop}{s:Shared}{d:Addr}{es:Array DictEntry}{ep:Nat}
end
section
variable {prog:Program}{w:World}{A:Around}{E:Value→Shared→Prop}{s:Shared}{d it:Addr}{es:Array DictEntry}{ep i:Nat}
end
section
variable {X:Cx}{P:Params}{o:Expr}{td:TE}{apos cpos:Pos}
end
section
variable {prog:Program}{w:World}{A:Around}{E:Value→Shared→Prop}{s:Shared}{d v:Addr}{es:Array DictEntry}{ep:Nat}
end
section
variable {X:Cx}{P:Params}
end
open AutoSeq1 (wpAny_loadPart')
section
variable {X:Cx}{elts:List Expr}{x1:Nat}{tpos:Pos}
end
section
variable {prog:Program}{w:World}
variable {A:Around}{E:Value→Shared→Prop}{s:Shared}
end
section
variable {prog:Program}{w:World}{A:Around}{R:Result→Shared→Prop}{I:Addr}{fp wr:List Addr}{G:Array GenState→Array GenState→Prop}{n:Nat}{P:Nat→Value→Prop}{St:Nat→Shared→Prop}
end
section
variable {prog:Program}{w:World}{A:Around}{E:Value→Shared→Prop}{s:Shared}
end
section
variable {M:Model}{A:Around}{E:Value→Shared→Prop}{s:Shared}
end
section
variable {prog:Program}{w:World}{A:Around}{E:Value→Shared→Prop}{s:Shared}{S it:Addr}{o:Obj}{es:Array (Int×Value)}{ep:Nat}{t:SetTable}
end
section
variable {prog:Program}{w:World}{A:Around}{E:Value→Shared→Prop}{s:Shared}{S it tp:Addr}{o:Obj}{es:Array (Int×Value)}{ep i:Nat}{t:SetTable}{first:Value}
end
section
variable {prog:Program}{w:World}{A:Around}{E:Value→Shared→Prop}{s:Shared}{S it tp:Addr}{o:Obj}{es:Array (Int×Value)}{ep i:Nat}{t:SetTable}{first:Value}
end
section
variable {prog:Program}{w:World}{A:Around}{E:Value→Shared→Prop}{s:Shared}{S it tp:Addr}{o:Obj}{es:Array (Int×Value)}{ep i:Nat}{t:SetTable}{first:Value}
end
section
variable {prog:Program}{w:World}{A:Around}{E:Value→Shared→Prop}{s:Shared}{S:Addr}{es:Array (Int×Value)}
end
section
variable {prog:Program}{w:World}{A:Around}{E:Value→Shared→Prop}{s:Shared}{S:Addr}{es:Array (Int×Value)}
end
section
variable {X:Cx}{P:Program}{w:World}
end
section
variable {X:Cx}
end
section
variable {rs:List c39}{many:Nat}{p:Pr}
variable {N k:Nat}{dv:Pr→Option Nat}
end
section
variable {prog:Program}{w:World}{A:Around}{E:Value→Shared→Prop}{s:Shared}
end
section
variable {X:Cx}{P:Params}
end
section
variable {prog:Program}{w:World}{A:Around}{R:Result→Shared→Prop}{J:Addr}{fp wr:List Addr}{n:Nat}{P:Nat→Value→Prop}{St:Nat→Heap→Prop}
end
section
variable {prog:Program}{w:World}{A:Around}{E:Value→Shared→Prop}{s:Shared}
end
section
variable {X:Cx}{e d:Expr}{t tk:TA}{p kp pos:Pos}
end
section
variable {X:Cx}
end
section
variable {P:Program}{w:World}{K:PySem.W.Frag}{mg:Str→Option Value}{base:Heap}
end
section
variable {σ:St} {H:Hp}{D:Ends}{C:Addr}{E:XK}{t:TA}{n:Nat}{tb:XK→TS}{ts:TS}
end
section
variable {X:Cx}{k k':Nat}{f f' C C':Addr}{fd fd':FuncData}{ps ps':List Str}{sp sp':Sp}{m:Str}{pos apos:Pos}{e o:Expr}{es:List Expr}{ta:TE}{t:TA}
end
section
variable {σ:St} {H:Hp}{Q:VK}{ta:TE}{t:TA}{m:Str}{C1 C2:Addr}{sp1 sp2:Sp}
end
section
variable {X:Cx}{tg:Expr}
end
section
variable {σ:St} {H:Hp}{R:It→Hp→Prop}{ts:TA}
end
end L2
namespace L2
end L2
namespace L2
open PySem PySem.Spec PyProof.Rows
@[reducible] def a78 (h:Heap) (T:Addr) (a b:Value):Prop:=h.get? T=some { cls:=.type "tuple",data:=.seq #[a,b] }
theorem a91 {prog:Program}{w:World}{A:Around}{E:Value→Shared→Prop}{s:Shared}{T:Addr}{a b x:Value}{k:Nat}{Q:Unit→Shared→Prop}(h:a78 s.heap T a b)
 (q:∀ h':Heap,h'.get? T=some { cls:=.type "tuple",data:=.seq (#[a,b].setIfInBounds k x) }→Heap.SameBut T s.heap h'→Q () { s with heap:=h' }):wpAny (model prog w) A (updateSeq T fun v=>v.setIfInBounds k x) Q E s:=by
 refine wpAny_updateSeq h rfl (q _ ?_ (Heap.SameBut.update _ _ _)) (by simp [sizeLine_eq]) (by simp [sizeLine_eq])
 rw [Heap.get?_update_self _ h rfl]
 simp [Obj.mapSeq]
structure Apt2 (z TI TO i1 i2 l1 l2:Addr):Prop where
 nd:[z,TI,TO,i1,i2].Nodup
 ls:∀ l∈[l1,l2],l∉[z,TO,i1,i2]
section
variable {prog:Program}{w:World}{z TI TO i1 i2 l1 l2:Addr}{xs ys:Array Value}{st1 st2:Nat→Heap→Prop}
theorem Apt2.all (D:[z,TI,TO,i1,i2].Nodup):z≠TI∧z≠TO∧z≠i1∧z≠i2∧TI≠TO∧TI≠i1∧TI≠i2∧TO≠i1∧TO≠i2∧i1≠i2:=by
 simp only [List.nodup_cons,List.mem_cons,List.not_mem_nil,or_false,not_or,List.nodup_nil,and_true] at D
 obtain ⟨⟨a1,a2,a3,a4⟩,⟨a6,a7,a8⟩,⟨a10,a11⟩,a13,_⟩:=D
 exact ⟨a1,a2,a3,a4,a6,a7,a8,a10,a11,a13⟩
theorem ItS.mv {it l p:Addr}{X:Array Value}{st:Nat→Heap→Prop}{j:Nat}{h h':Heap}(J:ItS prog w it l X st) (hs:st j h) (b:Heap.SameBut p h h') (x1:it≠p) (x2:l≠p):st j h':=J.keep hs fun c o hc e=>by
 rcases hc with rfl | rfl
 · exact a09 b x1 e
 · exact a09 b x2 e
theorem b42 {A:Around}{E:Value→Shared→Prop}{s:Shared}{k:Nat}{x y a b:Value}{Q:Value→Shared→Prop}
 (D:Apt2 z TI TO i1 i2 l1 l2) (J1:ItS prog w i1 l1 xs st1) (J2:ItS prog w i2 l2 ys st2) (hz:IsZip s.heap z TI TO .none) (hTI:a78 s.heap TI (.ref i1) (.ref i2)) (hTO:a78 s.heap TO a b)
 (h1:st1 k s.heap) (h2:st2 k s.heap) (e1:xs[k]?=some x) (e2:ys[k]?=some y)
 (q:∀ h':Heap,IsZip h' z TI TO (rawInt s.heap.objs.size)→a78 h' TO x y→st1 (k+1) h'→st2 (k+1) h'→a78 h' s.heap.objs.size x y→h'.objs.size=s.heap.objs.size+1→(∀ (c:Addr) (o:Obj),c∉[z,TO,i1,i2]→s.heap.get? c=some o→h'.get? c=some o)→Q (.ref s.heap.objs.size) { s with heap:=h' }) :
 wpAny (model prog w) A (Builtin.«zip.__next__» { pos:=[.ref z] }) (fun fin s'=>∃ v,fin=Fin.done (Flow.ret v)∧Q v s') E s:=by
 obtain ⟨D,D2⟩:=D
 unfold Builtin.«zip.__next__»
 refine wpAny_bind (wpAny_pure ?_)
 refine wpAny_bind (wpAny_field (x:=.bool false) hz rfl rfl ?_)
 refine wpAny_bind (wpAny_field (x:=.ref TI) hz rfl rfl ?_)
 refine wpAny_bind (wpAny_seqItems hTI rfl ?_)
 dsimp only
 rw [if_neg (show ¬ (#[Value.ref i1,Value.ref i2].isEmpty=true) by simp)]
 refine wpAny_bind (wpAny_bind (wpAny_field (x:=.none) hz rfl rfl (wpAny_pure ?_)))
 rw [if_pos rfl]
 refine wpAny_bind (wpAny_rule ?_)
 refine wpAny_bind (wpAny_field (x:=.ref TO) hz rfl rfl ?_)
 dsimp only
 refine wpAny_bind (wpAny_setField_rec hz (by simp) fun g1 z1 b1=>?_)
 refine wpAny_bind ?_
 obtain ⟨n1,n2,n3,n4,n6,n7,n8,n10,n11,n13⟩:=Apt2.all D
 obtain ⟨m1,m2,m3,m4⟩:l1≠z∧l1≠TO∧l1≠i1∧l1≠i2:=by simpa using D2 l1 (by simp)
 obtain ⟨m6,m7,m8,m9⟩:l2≠z∧l2≠TO∧l2≠i1∧l2≠i2:=by simpa using D2 l2 (by simp)
 show wpAny (model prog w) A (forIn [(Value.ref i1,0),(Value.ref i2,1)] (none,()) _) _ E _
 rw [List.forIn_cons]
 refine wpAny_bind (wpAny_bind (wpAny_onRaise ?_))
 refine wpAny_bind (m:=Builtin.SmallTypes.nextOf (.ref i1)) (f:=fun v=>pure (some v)) ?_
 refine J1.item (J1.mv h1 b1 n3.symm m1) e1 fun g2 z2 b2=>wpAny_pure ?_
 dsimp only
 refine wpAny_bind (wpAny_seqItems (items:=#[a,b]) (a09 b2 n10 (a09 b1 n2.symm hTO)) rfl ?_)
 dsimp only
 refine wpAny_bind (a91 (a09 b2 n10 (a09 b1 n2.symm hTO)) fun g3 t3 b3=>?_)
 refine wpAny_bind (wpAny_letGo (wpAny_pure ?_))
 dsimp only
 rw [List.forIn_cons]
 refine wpAny_bind (wpAny_bind (wpAny_onRaise ?_))
 refine wpAny_bind (m:=Builtin.SmallTypes.nextOf (.ref i2)) (f:=fun v=>pure (some v)) ?_
 refine J2.item (J2.mv (J2.mv (J2.mv h2 b1 n4.symm m6) b2 n13.symm m8) b3 n11.symm m7) e2 fun g4 z4 b4=>wpAny_pure ?_
 dsimp only
 have t4:a78 g4 TO x b:=a09 b4 n11 (by rw [t3]; rfl)
 refine wpAny_bind (wpAny_seqItems (items:=#[x,b]) t4 rfl ?_)
 dsimp only
 refine wpAny_bind (a91 t4 fun g5 t5 b5=>?_)
 refine wpAny_bind (wpAny_letGo (wpAny_pure ?_))
 dsimp only
 rw [List.forIn_nil]
 refine wpAny_pure ?_
 dsimp only
 have t5':a78 g5 TO x y:=by rw [a78,t5]; rfl
 refine wpAny_bind (wpAny_seqItems (items:=#[x,y]) t5' rfl ?_)
 dsimp only
 refine wpAny_bind (wpAny_newTuple ?_ (by simp [sizeLine_eq]))
 have sz:g5.objs.size=s.heap.objs.size:=by rw [b5.1,b4.1,b3.1,b2.1,b1.1]
 have zz:g5.get? z=some { cls:=.type "zip",data:=.fields #[.ellipsis,.bool false,.bool false,.ref TI,.ref TO] }:=a09 b5 n2 (a09 b4 n4 (a09 b3 n2 (a09 b2 n3 z1)))
 refine wpAny_bind (wpAny_bind ?_)
 refine wpAny_setField_rec (Heap.get?_push_of_some _ zz) (by simp) fun g8 z8 b8=>?_
 refine wpAny_setField_rec z8 (by simp) fun g9 z9 b9=>?_
 refine wpAny_pure ⟨_,rfl,?_⟩
 have lt:∀ {c:Addr}{o:Obj},g5.get? c=some o→c≠g5.objs.size:=fun e=>Nat.ne_of_lt (Heap.lt_size e)
 have mvp:∀ {it l:Addr}{X:Array Value}{st:Nat→Heap→Prop}{j:Nat},ItS prog w it l X st→st j g5→it≠z→l≠z→st j g9:=fun J hs x1 x2=>J.keep hs fun c o hc e=>by
  rcases hc with rfl | rfl
  · exact a09 b9 x1 (a09 b8 x1 (Heap.get?_push_of_some _ e))
  · exact a09 b9 x2 (a09 b8 x2 (Heap.get?_push_of_some _ e))
 have zne:g5.objs.size≠z:=(lt zz).symm
 rw [sz]
 refine q g9 ?_ ?_ (mvp J1 ?_ n3.symm m1) (mvp J2 ?_ n4.symm m6) ?_ ?_ ?_
 · rw [IsZip,z9]
   simp [sz]
 · exact a09 b9 n2.symm (a09 b8 n2.symm (Heap.get?_push_of_some _ t5'))
 · exact J1.mv (J1.mv (J1.mv z2 b3 n10.symm m2) b4 n13 m4) b5 n10.symm m2
 · exact J2.mv z4 b5 n11.symm m7
 · have:=a09 b9 zne (a09 b8 zne (Heap.get?_push_size g5 rfl))
   rw [← sz]
   exact this
 · rw [b9.1,b8.1,Heap.size_push,sz]
 · intro c o hc e
   simp only [List.mem_cons,List.not_mem_nil,or_false,not_or] at hc
   obtain ⟨c1,c2,c3,c4⟩:=hc
   exact a09 b9 c1 (a09 b8 c1 (Heap.get?_push_of_some _ (a09 b5 c2 (a09 b4 c4 (a09 b3 c2 (a09 b2 c3 (a09 b1 c1 e)))))))
theorem ba4 {A:Around}{E:Value→Shared→Prop}{s:Shared}{k:Nat}{a b:Value}{Q:PySem.Fin→Shared→Prop}(hA:A.handled=none)
 (D:Apt2 z TI TO i1 i2 l1 l2) (J1:ItS prog w i1 l1 xs st1) (J2:ItS prog w i2 l2 ys st2) (hz:IsZip s.heap z TI TO .none) (hTI:a78 s.heap TI (.ref i1) (.ref i2)) (hTO:a78 s.heap TO a b)
 (h1:st1 k s.heap) (h2:st2 k s.heap) (e:xs[k]?=none∨ys[k]?=none)
 (q:∀ (h':Heap) (ex:Addr),(∀ (c:Addr) (o:Obj),c∉[z,TO,i1,i2]→s.heap.get? c=some o→h'.get? c=some o)→(∃ o,h'.get? ex=some o∧o.cls=.type "StopIteration")→E (.ref ex) { s with heap:=h' }) :
 wpAny (model prog w) A (Builtin.«zip.__next__» { pos:=[.ref z] }) Q E s:=by
 obtain ⟨D,D2⟩:=D
 unfold Builtin.«zip.__next__»
 refine wpAny_bind (wpAny_pure ?_)
 refine wpAny_bind (wpAny_field (x:=.bool false) hz rfl rfl ?_)
 refine wpAny_bind (wpAny_field (x:=.ref TI) hz rfl rfl ?_)
 refine wpAny_bind (wpAny_seqItems hTI rfl ?_)
 dsimp only
 rw [if_neg (show ¬ (#[Value.ref i1,Value.ref i2].isEmpty=true) by simp)]
 refine wpAny_bind (wpAny_bind (wpAny_field (x:=.none) hz rfl rfl (wpAny_pure ?_)))
 rw [if_pos rfl]
 refine wpAny_bind (wpAny_rule ?_)
 refine wpAny_bind (wpAny_field (x:=.ref TO) hz rfl rfl ?_)
 dsimp only
 refine wpAny_bind (wpAny_setField_rec hz (by simp) fun g1 z1 b1=>?_)
 refine wpAny_bind ?_
 obtain ⟨n1,n2,n3,n4,n6,n7,n8,n10,n11,n13⟩:=Apt2.all D
 obtain ⟨m1,m2,m3,m4⟩:l1≠z∧l1≠TO∧l1≠i1∧l1≠i2:=by simpa using D2 l1 (by simp)
 obtain ⟨m6,m7,m8,m9⟩:l2≠z∧l2≠TO∧l2≠i1∧l2≠i2:=by simpa using D2 l2 (by simp)
 have fin:∀ {it l p:Addr}{X:Array Value}{st:Nat→Heap→Prop}{g:Heap}{Q':Option Value→Shared→Prop},it∈[i1,i2]→ItS prog w it l X st→st k g→X[k]?=none→(∀ (c:Addr) (o:Obj),c∉[z,TO,i1,i2]→s.heap.get? c=some o→g.get? c=some o)→g.get? z=some { cls:=.type "zip",data:=.fields #[.ellipsis,.bool false,.bool false,.ref TI,.ref TO] }→z≠it →
  wpAny (model prog w) A (Builtin.SmallTypes.nextOf (.ref it) >>= fun v=>pure (some v)) Q' (fun e s'=>wpAny (model prog w) A (setField (.ref z) 0 .none) (fun _ s''=>E e s'') E s') { s with heap:=g }:=fun {it l p X st g Q'} hit J hs hx hk hzz hne=>by
  refine wpAny_bind (J.done hA hs hx fun g' ex b' hex=>?_)
  refine wpAny_setField_rec (b' _ _ hne hzz) (by simp) fun g'' z'' b''=>q g'' ex (fun c o hc e=>?_) ?_
  · have hc':=hc
    simp only [List.mem_cons,List.not_mem_nil,or_false,not_or] at hc
    refine a09 b'' hc.1 (b' c o (fun hq=>?_) (hk c o hc' e))
    subst hq
    simp only [List.mem_cons,List.not_mem_nil,or_false] at hit
    rcases hit with h | h
    · exact hc.2.2.1 h
    · exact hc.2.2.2 h
  · obtain ⟨o,e1,e2⟩:=hex
    by_cases hq:ex=z
    · subst hq
      rw [b' _ _ hne hzz] at e1
      cases e1
      simp at e2
    · exact ⟨o,a09 b'' hq e1,e2⟩
 show wpAny (model prog w) A (forIn [(Value.ref i1,0),(Value.ref i2,1)] (none,()) _) _ E _
 rw [List.forIn_cons]
 refine wpAny_bind (wpAny_bind (wpAny_onRaise ?_))
 have k1:∀ (c:Addr) (o:Obj),c∉[z,TO,i1,i2]→s.heap.get? c=some o→g1.get? c=some o:=fun c o hc e=>by
  simp only [List.mem_cons,List.not_mem_nil,or_false,not_or] at hc
  exact a09 b1 hc.1 e
 cases hx1:xs[k]? with
 | none=>exact fin (p:=z) (by simp) J1 (J1.mv h1 b1 n3.symm m1) hx1 k1 z1 n3
 | some x =>
   refine wpAny_bind (m:=Builtin.SmallTypes.nextOf (.ref i1)) (f:=fun v=>pure (some v)) ?_
   refine J1.item (J1.mv h1 b1 n3.symm m1) hx1 fun g2 z2 b2=>wpAny_pure ?_
   dsimp only
   refine wpAny_bind (wpAny_seqItems (items:=#[a,b]) (a09 b2 n10 (a09 b1 n2.symm hTO)) rfl ?_)
   dsimp only
   refine wpAny_bind (a91 (a09 b2 n10 (a09 b1 n2.symm hTO)) fun g3 t3 b3=>?_)
   refine wpAny_bind (wpAny_letGo (wpAny_pure ?_))
   dsimp only
   rw [List.forIn_cons]
   refine wpAny_bind (wpAny_bind (wpAny_onRaise ?_))
   have k3:∀ (c:Addr) (o:Obj),c∉[z,TO,i1,i2]→s.heap.get? c=some o→g3.get? c=some o:=fun c o hc e=>by
    have hc':=hc
    simp only [List.mem_cons,List.not_mem_nil,or_false,not_or] at hc
    exact a09 b3 hc.2.1 (a09 b2 hc.2.2.1 (k1 c o hc' e))
   have zz3:=a09 b3 n2 (a09 b2 n3 z1)
   have hx2:ys[k]?=none:=by
    rcases e with e | e
    · rw [hx1] at e; cases e
    · exact e
   exact fin (p:=z) (by simp) J2 (J2.mv (J2.mv (J2.mv h2 b1 n4.symm m6) b2 n13.symm m8) b3 n11.symm m7) hx2 k3 zz3 n4
theorem af1 {A:Around}{E:Value→Shared→Prop}{s:Shared}{k:Nat}{x y a b:Value}{Q:Option Value→Shared→Prop}
 (D:Apt2 z TI TO i1 i2 l1 l2) (J1:ItS prog w i1 l1 xs st1) (J2:ItS prog w i2 l2 ys st2) (hz:IsZip s.heap z TI TO .none) (hTI:a78 s.heap TI (.ref i1) (.ref i2)) (hTO:a78 s.heap TO a b)
 (h1:st1 k s.heap) (h2:st2 k s.heap) (e1:xs[k]?=some x) (e2:ys[k]?=some y)
 (q:∀ h':Heap,IsZip h' z TI TO (rawInt s.heap.objs.size)→a78 h' TO x y→st1 (k+1) h'→st2 (k+1) h'→a78 h' s.heap.objs.size x y→h'.objs.size=s.heap.objs.size+1→(∀ (c:Addr) (o:Obj),c∉[z,TO,i1,i2]→s.heap.get? c=some o→h'.get? c=some o)→Q (some (.ref s.heap.objs.size)) { s with heap:=h' }) :
 wpAny (model prog w) A (pyNext (.ref z)) Q E s:=by
 unfold pyNext
 refine wpAny_bind (wpAny_attempt (wpAny_callSpecial?_slot (T:="zip") ⟨_,hz,rfl⟩ F.slot_zip_next (wpAny_call_entry F.slot_zip_next ⟨_,hz,rfl⟩ F.entry_zip_next ?_ (F.args_zip_next_1 _))))
 exact b42 D J1 J2 hz hTI hTO h1 h2 e1 e2 fun h' a1 a2 a3 a4 a6 a7 a8=>wpAny_pure (q h' a1 a2 a3 a4 a6 a7 a8)
theorem ah4 {A:Around}{E:Value→Shared→Prop}{s:Shared}{k:Nat}{a b:Value}{Q:Option Value→Shared→Prop}(hA:A.handled=none)
 (D:Apt2 z TI TO i1 i2 l1 l2) (J1:ItS prog w i1 l1 xs st1) (J2:ItS prog w i2 l2 ys st2) (hz:IsZip s.heap z TI TO .none) (hTI:a78 s.heap TI (.ref i1) (.ref i2)) (hTO:a78 s.heap TO a b)
 (h1:st1 k s.heap) (h2:st2 k s.heap) (e:xs[k]?=none∨ys[k]?=none)
 (q:∀ h':Heap,(∀ (c:Addr) (o:Obj),c∉[z,TO,i1,i2]→s.heap.get? c=some o→h'.get? c=some o)→Q none { s with heap:=h' }):wpAny (model prog w) A (pyNext (.ref z)) Q E s:=by
 unfold pyNext
 refine wpAny_bind (wpAny_attempt (wpAny_callSpecial?_slot (T:="zip") ⟨_,hz,rfl⟩ F.slot_zip_next (wpAny_call_entry F.slot_zip_next ⟨_,hz,rfl⟩ F.entry_zip_next ?_ (F.args_zip_next_1 _))))
 refine ba4 (by exact hA) D J1 J2 hz hTI hTO h1 h2 e ?_
 rintro h' ex hk ⟨o,x1,x2⟩
 refine wpAny_bind (wpAny_isInstance (T:="StopIteration") ⟨o,x1,x2⟩ isSubtype_stop ?_)
 rw [if_pos rfl]
 exact wpAny_pure (q h' hk)
end
@[reducible] def z2H (h:Heap) (o1 o2:Obj):Heap:=((((h.push o1).push o2).push { cls:=.type "tuple",data:=.seq #[.ref h.objs.size,.ref (h.objs.size+1)] }).push { cls:=.type "tuple",data:=.seq #[.none,.none] }).push { cls:=.type "zip",data:=.fields #[.none,.bool false,.bool false,.ref (h.objs.size+2),.ref (h.objs.size+3)] }
theorem ay9 {l1 l2:Addr}{o1 o2:Obj}{P1 P2:Heap→Prop}(S1:SrcO l1 o1 P1) (S2:SrcO l2 o2 P2):Meets (Builtin.«zip.__new__» { pos:=[.type "zip",.ref l1,.ref l2] }) fun _ R s=>P1 s.heap∧P2 s.heap∧R (.ok (.ret (.ref (s.heap.objs.size+4)))) { s with heap:=z2H s.heap o1 o2 }:=by
 refine Meets.of_wp ?_
 rintro prog w A R s ⟨p1,p2,r⟩
 unfold Builtin.«zip.__new__»
 refine wpAny_bind ?_
 unfold Builtin.SmallTypes.newClass
 dsimp only
 refine wpAny_bind (wpAny_pure ?_)
 rw [if_neg (by decide)]
 refine wpAny_bind ?_
 rw [sub_zip]
 refine wpAny_pure ?_
 rw [if_neg (by decide)]
 refine wpAny_pure ?_
 dsimp only
 rw [if_neg (by decide)]
 refine wpAny_bind ?_
 unfold Builtin.SmallTypes.iterAll
 refine wpAny_bind ?_
 rw [List.forIn_cons]
 refine wpAny_bind (wpAny_bind (wpAny_holding (S1.iter p1 (wpAny_pure ?_))))
 dsimp only
 rw [List.forIn_cons]
 refine wpAny_bind (wpAny_bind (wpAny_holding (S2.iter (S2.push p2) (wpAny_pure ?_))))
 dsimp only
 rw [List.forIn_nil]
 refine wpAny_pure (wpAny_pure ?_)
 refine wpAny_bind (wpAny_newTuple ?_ (by simp [sizeLine_eq]))
 refine wpAny_bind (wpAny_newTuple ?_ (by simp [sizeLine_eq]))
 refine wpAny_bind ?_
 refine wpAny_bind (wpAny_alloc' ?_)
 refine wpAny_pure ?_
 refine wpAny_pure ⟨_,rfl,?_⟩
 simp only [Heap.size_push]
 exact r
theorem ah5 (a b:Value):checkTypeCall "zip" { pos:=[a,b] }=pure ():=by
 with_unfolding_all rfl
theorem ai7 (a b:Value):checkBuiltinCall "zip.__new__" { pos:=[.type "zip",a,b] }=pure ():=by
 with_unfolding_all rfl
theorem aq3 (a b c:Value):argsOk "object.__init__" { pos:=[a,b,c] }:=by
 with_unfolding_all rfl
theorem at5 {prog:Program}{w:World}{A:Around}{E:Value→Shared→Prop}{s:Shared}{l1 l2:Addr}{xs ys:Array Value}{Q:Value→Shared→Prop}(p1:s.heap.IsList l1 xs) (p2:s.heap.IsTuple l2 ys)
 (q:∀ h':Heap,IsZip h' (s.heap.objs.size+4) (s.heap.objs.size+2) (s.heap.objs.size+3) .none→a78 h' (s.heap.objs.size+2) (.ref s.heap.objs.size) (.ref (s.heap.objs.size+1))→a78 h' (s.heap.objs.size+3) .none .none →
  h'.IsListIter s.heap.objs.size l1 0→h'.IsTupleIter (s.heap.objs.size+1) l2 0→(∀ (c:Addr) (o:Obj),s.heap.get? c=some o→h'.get? c=some o)→Q (.ref (s.heap.objs.size+4)) { s with heap:=h' }) :
 wpAny (model prog w) A (call (.type "zip") [.ref l1,.ref l2]) Q E s:=by
 refine callType_new F.called_zip (by decide) (ah5 _ _) (ai7 _ _) (fun obj=>aq3 _ _ _) F.entry_zip_new (ay9 (b99 l1 xs) (b41 l2 ys)) ⟨p1,p2,?_⟩
 have e4:(z2H s.heap { cls:=.type "list_iterator",data:=.fields #[.ref l1,.int 0 0] } { cls:=.type "tuple_iterator",data:=.fields #[.ref l2,.int 0 0] }).get? (s.heap.objs.size+4)=some { cls:=.type "zip",data:=.fields #[.none,.bool false,.bool false,.ref (s.heap.objs.size+2),.ref (s.heap.objs.size+3)] }:=by
  have:=Heap.get?_push_size ((((s.heap.push { cls:=.type "list_iterator",data:=.fields #[.ref l1,.int 0 0] }).push { cls:=.type "tuple_iterator",data:=.fields #[.ref l2,.int 0 0] }).push { cls:=.type "tuple",data:=.seq #[.ref s.heap.objs.size,.ref (s.heap.objs.size+1)] }).push { cls:=.type "tuple",data:=.seq #[.none,.none] }) (o:={ cls:=.type "zip",data:=.fields #[.none,.bool false,.bool false,.ref (s.heap.objs.size+2),.ref (s.heap.objs.size+3)] }) rfl
  simp only [Heap.size_push] at this
  exact this
 refine ⟨⟨_,e4,rfl⟩,q _ e4 ?_ ?_ ?_ ?_ ?_⟩
 · have:=Heap.get?_push_size ((s.heap.push { cls:=.type "list_iterator",data:=.fields #[.ref l1,.int 0 0] }).push { cls:=.type "tuple_iterator",data:=.fields #[.ref l2,.int 0 0] }) (o:={ cls:=.type "tuple",data:=.seq #[.ref s.heap.objs.size,.ref (s.heap.objs.size+1)] }) rfl
   simp only [Heap.size_push] at this
   exact Heap.get?_push_of_some _ (Heap.get?_push_of_some _ this)
 · have:=Heap.get?_push_size (((s.heap.push { cls:=.type "list_iterator",data:=.fields #[.ref l1,.int 0 0] }).push { cls:=.type "tuple_iterator",data:=.fields #[.ref l2,.int 0 0] }).push { cls:=.type "tuple",data:=.seq #[.ref s.heap.objs.size,.ref (s.heap.objs.size+1)] }) (o:={ cls:=.type "tuple",data:=.seq #[.none,.none] }) rfl
   simp only [Heap.size_push] at this
   exact Heap.get?_push_of_some _ this
 · refine ⟨_,Heap.get?_push_of_some _ (Heap.get?_push_of_some _ (Heap.get?_push_of_some _ (Heap.get?_push_of_some _ (Heap.get?_push_size s.heap rfl)))),rfl,rfl⟩
 · have:=Heap.get?_push_size (s.heap.push { cls:=.type "list_iterator",data:=.fields #[.ref l1,.int 0 0] }) (o:={ cls:=.type "tuple_iterator",data:=.fields #[.ref l2,.int 0 0] }) rfl
   simp only [Heap.size_push] at this
   exact ⟨_,Heap.get?_push_of_some _ (Heap.get?_push_of_some _ (Heap.get?_push_of_some _ this)),rfl,rfl⟩
 · intro c o e
   exact Heap.get?_push_of_some _ (Heap.get?_push_of_some _ (Heap.get?_push_of_some _ (Heap.get?_push_of_some _ (Heap.get?_push_of_some _ e))))
def ba5 (K:PySem.W.Frag) (a b:Addr):It :=
 ⟨fun i H=>∃ xs ys x y,SqL K H a xs∧SqT K H b ys∧xs[i]?=some x∧ys[i]?=some y,
  fun i H v H'=>∃ p x y,v=.ref p∧H p=none∧Same H H'∧H' p=some (.tup [x,y])∧(∀ xs,SqL K H a xs→xs[i]?=some x)∧(∀ ys,SqT K H b ys→ys[i]?=some y),
  fun i H=>∃ xs ys,SqL K H a xs∧SqT K H b ys∧(xs.length≤i∨ys.length≤i)⟩
theorem az0 {P:Program}{w:World}{K:PySem.W.Frag}{elts:List Expr}{x1:Nat}{pos:Pos}(a b z TI TO i1 i2:Addr) (D:Apt2 z TI TO i1 i2 a b) (E1:a≠i1) (E2:b≠i2) :
 Turn P w K (.Tuple elts x1 pos) (ba5 K a b) [z,TI,TO,i1,i2] z (fun i h=>IsZip h z TI TO .none∧a78 h TI (.ref i1) (.ref i2)∧(∃ a b,a78 h TO a b)∧h.IsListIter i1 a i∧h.IsTupleIter i2 b i) where
 mem:=by simp
 obj:=fun i h st d hd=>by
  obtain ⟨hz,hTI,⟨a,b,hTO⟩,⟨o1,h1,_,d1⟩,⟨o2,h2,_,d2⟩⟩:=st
  rcases (by simpa using hd:d=z∨d=TI∨d=TO∨d=i1∨d=i2) with rfl | rfl | rfl | rfl | rfl
  · exact ⟨_,hz,fun v q=>by cases q⟩
  · exact ⟨_,hTI,fun v q=>by cases q⟩
  · exact ⟨_,hTO,fun v q=>by cases q⟩
  · exact ⟨_,h1,fun v q=>by rw [d1] at q; cases q⟩
  · exact ⟨_,h2,fun v q=>by rw [d2] at q; cases q⟩
 keep:=fun i h h' st k=>by
  obtain ⟨hz,hTI,⟨a,b,hTO⟩,h1,h2⟩:=st
  exact ⟨k z (by simp) _ hz,k TI (by simp) _ hTI,⟨a,b,k TO (by simp) _ hTO⟩,h1.at fun o x=>k i1 (by simp) o x,ak5 h2 fun o x=>k i2 (by simp) o x⟩
 item:=by
  intro X hP hw hK hc i pins s σ H E I hf st hg
  subst hP hw hK
  obtain ⟨xs,ys,x,y,hqa,hqb,hx,hy⟩:=hg
  obtain ⟨it1,rv1,p1,hz1⟩:=I.list hqa
  obtain ⟨it2,rv2,p2,hz2⟩:=I.tuple hqb
  obtain ⟨u1,hu1,ru1⟩:=rv1.get hx
  obtain ⟨u2,hu2,ru2⟩:=rv2.get hy
  obtain ⟨hz,hTI,⟨a',b',hTO⟩,h1,h2⟩:=st
  have fr:H s.heap.objs.size=none:=I.hok.fresh (Nat.le_refl _)
  have lt:∀ d∈[z,TI,TO,i1,i2],d<s.heap.objs.size:=fun d hd=>by
   obtain ⟨o1,e1,_⟩:=h1
   obtain ⟨o2,e2,_⟩:=h2
   rcases (by simpa using hd:d=z∨d=TI∨d=TO∨d=i1∨d=i2) with rfl | rfl | rfl | rfl | rfl
   · exact Heap.lt_size hz
   · exact Heap.lt_size hTI
   · exact Heap.lt_size hTO
   · exact Heap.lt_size e1
   · exact Heap.lt_size e2
  refine af1 (k:=i) D (av7 (xs:=it1.toArray) E1) (aq2 (xs:=it2.toArray) E2) hz hTI hTO ⟨h1,p1.isList⟩ ⟨h2,p2⟩ (x:=u1) (y:=u2) (by simpa using hu1) (by simpa using hu2) fun h' a1 a2 a3 a4 a6 a7 hk=>?_
  have I1:Inv X pins σ H { s with heap:=h' }:=I.turnedL (t':=s.toks) (ch:=[z,TI,TO,i1,i2]) (fun d o hd q=>hk d o (fun e=>hd (by simp at e ⊢; rcases e with e | e | e | e <;> simp [e])) q) hf
  have I2:Inv X pins σ (upd H s.heap.objs.size (.tup [x,y])) { s with heap:=h' }:=I1.adopt (o:=.tup [x,y]) fr I.sz (Nat.ne_of_gt I.lt) (fun n c ec e=>by
   obtain ⟨v,q⟩:=I.cell n c ec
   exact absurd q.lt (by rw [e]; exact Nat.lt_irrefl _)) (fun q hq e=>absurd (Heap.lt_size (I.pin q hq).1) (by rw [e]; exact Nat.lt_irrefl _))
   ⟨le_line (by simp),[u1,u2],.cons ru1 (.cons ru2 .nil),⟨_,a6,rfl,_,rfl⟩⟩
  have hf2:∀ d∈[z,TI,TO,i1,i2],FpOk X pins (upd H s.heap.objs.size (.tup [x,y])) d:=fun d hd=>⟨by rw [a14 (Nat.ne_of_lt (lt d hd))]; exact (hf d hd).1,(hf d hd).2⟩
  obtain ⟨nd,_⟩:=D
  obtain ⟨n1,n2,n3,n4,n6,n7,n8,n10,n11,n13⟩:=Apt2.all nd
  refine ⟨_,rfl,wpAny_letOwnedTupleGo_zip a1 fun h2' hz' hs'=>⟨.ref s.heap.objs.size,_,I2.turnedL (t':=s.toks) (ch:=[z]) (fun d o hd q=>(hs'.2 d (fun e=>hd (by simp [e]))).trans q) (fun d hd=>hf2 d (by simp at hd; simp [hd])),rfl,⟨s.heap.objs.size,x,y,rfl,fr,Same.new fr,a19,fun q hq=>by rw [I.list_inj hq hqa]; exact hx,fun q hq=>by rw [I.tuple_inj hq hqb]; exact hy⟩,⟨hz',a09 hs' (Ne.symm n1) (hk _ _ (by simp [Ne.symm n1,n6,n7,n8]) hTI),⟨_,_,a09 hs' (Ne.symm n2) a2⟩,a3.1.extBut hs'.extBut (Ne.symm n3),a4.1.extBut hs'.extBut (Ne.symm n4)⟩,fun d hd=>(hf2 d hd).1⟩⟩
 done:=by
  intro X hP hw hK hc i pins s σ H E I hf st hg
  subst hP hw hK
  obtain ⟨xs,ys,hqa,hqb,hx⟩:=hg
  obtain ⟨it1,rv1,p1,hz1⟩:=I.list hqa
  obtain ⟨it2,rv2,p2,hz2⟩:=I.tuple hqb
  obtain ⟨hz,hTI,⟨a',b',hTO⟩,h1,h2⟩:=st
  have l1:=rv1.length
  have l2:=rv2.length
  refine ah4 (k:=i) (I.ok.hd hc) D (av7 (xs:=it1.toArray) E1) (aq2 (xs:=it2.toArray) E2) hz hTI hTO ⟨h1,p1.isList⟩ ⟨h2,p2⟩ ?_ fun h' hk=>⟨rfl,I.turnedL (t':=s.toks) (ch:=[z,TI,TO,i1,i2]) (fun d o hd q=>hk d o (fun e=>hd (by simp at e ⊢; rcases e with e | e | e | e <;> simp [e])) q) hf⟩
  rcases hx with e | e
  · exact .inl (by simp; omega)
  · exact .inr (by simp; omega)
 self:=fun A i s Q E st h=>wpAny_pyIter_zip st.1 h
section
variable {X:Cx}{elts:List Expr}{x1:Nat}{tpos:Pos}
def be7 (K:PySem.W.Frag) (ta:TA):TI:=fun σ H R=>ta σ H fun vs H1=>∃ a b,vs=[.ref a,.ref b]∧(∃ xs,SqL K H1 a xs)∧(∃ ys,SqT K H1 b ys)∧R (ba5 K a b) H1
theorem ba6 (K:PySem.W.Frag) {a b:Expr}{ta:TA}{p pos:Pos}(hg:Gl X "zip") (hm:X.mg "zip"=none) (ha:PA X [a,b] ta) (hs:starEach [a,b] X.env=[(false,eval a X.env),(false,eval b X.env)]:=by rfl) (hs2:starEach [b] X.env=[(false,eval b X.env)]:=by rfl) (hK:X.K=K:=by rfl) :
 PI X (.Tuple elts x1 tpos) (.Call (.Name "zip" p) [a,b] [] pos) (be7 K ta):=by
 subst hK
 intro pins s σ H R I h
 refine Call_ (an2 I hg hm b33 (PyProof.Rows.callWith_type1 (thn (ha pos pins s σ H _ I h) fun us s1 ⟨vs,H1,I1,r1,q1⟩=>?_) (by rw [hs,hs2]) (by rw [hs2]; rfl)))
 obtain ⟨l1,l2,e,⟨xs,hq1⟩,⟨ys,hq2⟩,q⟩:=q1
 subst e
 obtain ⟨u1,u2,rfl,r2,r3⟩:=bz7 r1
 cases r2
 cases r3
 obtain ⟨it1,rv1,p1,hz1⟩:=I1.list hq1
 obtain ⟨it2,rv2,p2,hz2⟩:=I1.tuple hq2
 have a1:l1<s1.heap.objs.size:=by obtain ⟨_,e,_⟩:=p1.isList; exact Heap.lt_size e
 have a2:l2<s1.heap.objs.size:=by obtain ⟨_,e,_⟩:=p2; exact Heap.lt_size e
 refine at5 p1.isList p2 fun h' b1 b2 b3 b4 b5 hk=>?_
 refine wpAny_pyIter_zip b1 ?_
 have fp:∀ d,s1.heap.objs.size≤d→FpOk X pins H1 d:=fun d hd=>I1.fpOk hd (I1.hok.fresh hd)
 generalize s1.heap.objs.size=m at a1 a2 b1 b2 b3 b4 b5 fp ⊢
 have hA1:l1<m:=a1
 have hA2:l2<m:=a2
 have ne:∀ {l k:Addr},l<m→l≠m+k:=fun {l k} h=>Nat.ne_of_lt (Nat.lt_of_lt_of_le h (Nat.le_add_right _ _))
 have D:Apt2 (m+4) (m+2) (m+3) m (m+1) l1 l2:=by
  constructor
  · simp
  · intro l hl
    have hlm:l<m:=by
     simp only [List.mem_cons,List.not_mem_nil,or_false] at hl
     rcases hl with rfl | rfl
     · exact hA1
     · exact hA2
    simp only [List.mem_cons,List.not_mem_nil,or_false,not_or]
    exact ⟨ne hlm,ne hlm,Nat.ne_of_lt hlm,ne hlm⟩
 refine ⟨m+4,[m+4,m+2,m+3,m,m+1],_,_,H1,rfl,I1.kept (t':=s1.toks) hk,az0 l1 l2 _ _ _ _ _ D (Nat.ne_of_lt hA1) (ne hA2),⟨b1,b2,⟨_,_,b3⟩,b4,b5⟩,fun d hd=>fp d ?_,q⟩
 simp only [List.mem_cons,List.not_mem_nil,or_false] at hd
 rcases hd with rfl | rfl | rfl | rfl | rfl
 · exact Nat.le_add_right _ _
 · exact Nat.le_add_right _ _
 · exact Nat.le_add_right _ _
 · exact Nat.le_refl _
 · exact Nat.le_add_right _ _
end
theorem bj8 {K:PySem.W.Frag}{σ:St} {H:Hp}{R:It→Hp→Prop}{ts:TA}(h:ts σ H fun vs H1=>∃ a b,vs=[.ref a,.ref b]∧(∃ xs,SqL K H1 a xs)∧(∃ ys,SqT K H1 b ys)∧R (ba5 K a b) H1):be7 K ts σ H R:=h
theorem ba7 {K:PySem.W.Frag}{a b:Addr}{xs ys:List V}{te:TE}{tt:TT}{caps:List Nat}{σ:St} {H:Hp}{Q:VK}(hl2:xs.length=ys.length) (hz:xs.length≤sizeLine) (Pv:Nat→List V→Hp→Prop) (h0:Pv 0 [] H) (hl:∀ i acc H,Pv i acc H→acc.length≤i∧SqL K H a xs∧SqT K H b ys)
 (hs:∀ i x z acc H H2,xs[i]?=some x→ys[i]?=some z→Pv i acc H→Same H H2→tt (some x::some z::capV caps σ) H2 fun b H4=>if b=true then te (some x::some z::capV caps σ) H4 fun y H5=>Pv (i+1) (acc++[y]) H5 else Pv (i+1) acc H4)
 (hd:∀ acc H,Pv xs.length acc H→New H (.lst acc) Q):ag9 (ba5 K a b) (gTup K 2 (an4 (ad5 0) (an4 (ad5 1) gNil))) tt te 2 caps σ H Q:=by
 refine ⟨fun i m acc σ' H=>m=xs.length - i∧i≤xs.length∧(∃ u v,σ'=u::v::capV caps σ)∧Pv i acc H,⟨xs.length,by simp,Nat.zero_le _,⟨none,none,rfl⟩,h0⟩,?_⟩
 rintro i m acc σ' H' ⟨rfl,hi,⟨u0,v0,rfl⟩,p⟩
 obtain ⟨hl1,hq,hq2⟩:=hl i acc H' p
 by_cases hlt:i<xs.length
 · have hlt2:i<ys.length:=by omega
   refine .inr ⟨⟨xs,ys,xs[i],ys[i],hq,hq2,by simp [hlt],by simp [hlt2]⟩,by omega,fun ac σ2 H2=>(∃ u v,σ2=u::v::capV caps σ)∧Pv (i+1) ac H2,fun ac σ2 H2 ⟨e,p'⟩=>⟨xs.length - (i+1),by omega,rfl,hlt,e,p'⟩,fun x H2 y=>?_⟩
   obtain ⟨q,x,z,rfl,hn,sm,hT,hx,hy⟩:=y
   have hst:=hs i x z acc H' H2 (hx xs hq) (hy ys hq2) p sm
   have eN:∀ ac H5,((∃ u1 v1,some x::some z::capV caps σ=u1::v1::capV caps σ)∧Pv (i+1) ac H5)=Pv (i+1) ac H5:=fun ac H5=>propext ⟨And.right,fun p=>⟨⟨_,_,rfl⟩,p⟩⟩
   refine ⟨q,[x,z],rfl,SqT.of hT,rfl,x,[z],rfl,z,[],rfl,rfl,?_⟩
   show tt (some x::some z::capV caps σ) _ fun b H4=>if b=true then te (some x::some z::capV caps σ) H4 fun y H5=>((∃ u1 v1,some x::some z::capV caps σ=u1::v1::capV caps σ)∧Pv (i+1) (acc++[y]) H5) else ((∃ u1 v1,some x::some z::capV caps σ=u1::v1::capV caps σ)∧Pv (i+1) acc H4)
   simp only [eN]
   exact hst
 · have e:i=xs.length:=by omega
   subst e
   exact .inl ⟨⟨xs,ys,hq,hq2,.inl (Nat.le_refl _)⟩,New.to (hd acc H' p)⟩
section
variable {prog:Program}{w:World}
variable {A:Around}{E:Value→Shared→Prop}{s:Shared}
end
section
variable {prog:Program}{w:World}{A:Around}{R:Result→Shared→Prop}{I:Addr}{fp wr:List Addr}{G:Array GenState→Array GenState→Prop}{n:Nat}{P:Nat→Value→Prop}{St:Nat→Shared→Prop}
end
section
variable {prog:Program}{w:World}{A:Around}{E:Value→Shared→Prop}{s:Shared}
end
section
variable {prog:Program}{w:World}{A:Around}{E:Value→Shared→Prop}{s:Shared}{S it tp:Addr}{o:Obj}{es:Array (Int×Value)}{ep i:Nat}{t:SetTable}{first:Value}
end
section
variable {prog:Program}{w:World}{A:Around}{E:Value→Shared→Prop}{s:Shared}{S:Addr}{es:Array (Int×Value)}
end
section
variable {prog:Program}{w:World}{A:Around}{E:Value→Shared→Prop}{s:Shared}{S:Addr}{es:Array (Int×Value)}
end
section
variable {X:Cx}{P:Program}{w:World}
end
def ba8:V→List V→Hp→VK→Prop:=fun x vs H Q=>∃ (l:Addr) (xs:List V) (y:V) (k:Nat) (kz:Int),kz=(k:Nat)∧x=.ref l∧vs=[.int kz,y]∧H l=some (.lst xs)∧k≤xs.length∧xs.length<1000000∧Q .non (upd H l (.lst (xs.take k++y::xs.drop k)))
section
variable {X:Cx}
theorem az1:MtM X "list.insert" ba8:=by
 intro pins s σ H x vs v us Q I rx rv h
 obtain ⟨l,xs,y,k,kz,hkz,rfl,rfl,hH,hk,hz,q⟩:=h
 cases rx
 cases rv with
 | cons r1 r2 =>
 cases r2 with
 | cons r2 r3 =>
 cases r3
 obtain ⟨t0,rfl⟩:=r1
 obtain ⟨z,its,n,r,hl,e⟩:=I.lstM hH
 have hlen:its.length=xs.length:=r.length.symm
 have sl:(1000000:Nat)≤sizeLine:=le_line (Nat.le_refl _)
 have hkn:¬ kz<0:=by omega
 have hkt:kz.toNat=k:=by omega
 have hfit:¬ (!Builtin.List.listFitsIndex kz)=true:=by
  have h1:-(2 ^ 63:Int)≤kz:=by omega
  have h2:kz<2 ^ 63:=by omega
  simp only [Builtin.List.listFitsIndex,Bool.not_eq_true',Bool.not_eq_false,Bool.and_eq_true,decide_eq_true_iff]
  exact ⟨h1,h2⟩
 clear hkz
 refine call_meets F.slot_list_insert ⟨_,e,rfl⟩ F.entry_list_insert (F.args_list_insert_3 _ _ _) (PySem.AutoSeq1.list_insert_list_int_val_1 l its.toArray n kz t0 _ hfit (by rw [List.size_toArray]; omega)) ⟨e,?_⟩
 refine ⟨.non,_,I.lset (its':=its.take k++_::its.drop k) hH e ?_ (Vals.append (Vals.take k r) (.cons r2 (Vals.drop k r))) ?_,rfl,q⟩
 · dsimp only
   rw [if_neg hkn,hkt,List.size_toArray,show min k its.length=k by omega]
   simp
   exact List.take_of_length_le (by simp)
 · simp
   omega
end
def PAt (H:Hp) (v:V) (p:List Pt):Prop:=(Tr.tup (p.map Pt.tr)).At H v []
def SAt (H:Hp) (v:V) (s:Stm):Prop:=∃ fs,s.tr.At H v fs
def BAt (H:Hp) (v:V) (b:List Stm):Prop:=∃ fs,(Tr.lst (Stm.trs b)).At H v fs
theorem PAt.same {H H':Hp}{v:V}{p:List Pt}(h:PAt H v p) (s:Same H H'):PAt H' v p:=al8 h s.tups
theorem SAt.same {H H':Hp}{v:V}{x:Stm}(h:SAt H v x) (s:Same H H'):SAt H' v x:=by
 obtain ⟨fs,h⟩:=h
 exact ⟨fs,h.mono (s.keep _)⟩
theorem BAt.same {H H':Hp}{v:V}{b:List Stm}(h:BAt H v b) (s:Same H H'):BAt H' v b:=by
 obtain ⟨fs,h⟩:=h
 exact ⟨fs,h.mono (s.keep _)⟩
theorem am0 {H:Hp}{α:Type}{f:α→Tr}{R:V→α→Prop}(hR:∀ v x fs,(f x).At H v fs→R v x):∀ {xs:List α}{ts:List Tr}{vs:List V}{fs:List Addr},ts=xs.map f→Tr.Ats H ts vs fs→Each R vs xs
 | [],_,vs,fs,rfl,h=>by
   simp only [List.map_nil,Tr.Ats] at h
   rw [h.1]
   exact Each.nil
 | x::xs,_,vs,fs,rfl,h=>by
   simp only [List.map_cons,Tr.Ats] at h
   obtain ⟨v,ws,f1,g1,rfl,_,h1,h2⟩:=h
   have:=am0 hR (xs:=xs) rfl h2
   refine ⟨by simp [this.1],fun j a b e1 e2=>?_⟩
   cases j with
   | zero =>
     simp at e1 e2
     subst e1 e2
     exact hR _ _ _ h1
   | succ j=>exact this.2 j a b (by simpa using e1) (by simpa using e2)
theorem ag0 {H:Hp}{α:Type}{f:α→Tr}{R:V→α→Prop}(hR:∀ v x,R v x→∃ fs,(f x).At H v fs):∀ {xs:List α}{vs:List V},Each R vs xs→∃ fs,Tr.Ats H (xs.map f) vs fs
 | [],[],_=>⟨[],by simp [Tr.Ats]⟩
 | x::xs,v::vs,h=>by
   obtain ⟨f1,h1⟩:=hR v x (h.2 0 v x rfl rfl)
   obtain ⟨f2,h2⟩:=ag0 hR (xs:=xs) (vs:=vs) ⟨by simpa using h.1,fun j a b e1 e2=>h.2 (j+1) a b (by simpa using e1) (by simpa using e2)⟩
   refine ⟨f1++f2,?_⟩
   simp only [List.map_cons,Tr.Ats]
   exact ⟨v,vs,f1,f2,rfl,rfl,h1,h2⟩
 | [],v::vs,h=>absurd h.1 (by simp)
 | x::xs,[],h=>absurd h.1 (by simp)
theorem at6:∀ b:List Stm,Stm.trs b=b.map Stm.tr
 | []=>rfl
 | s::r=>by rw [Stm.trs,at6 r]; rfl
theorem at7:∀ b:List Br,Br.trs b=b.map Br.tr
 | []=>rfl
 | s::r=>by rw [Br.trs,at7 r]; rfl
theorem bat_iff {H:Hp}{v:V}{b:List Stm}:BAt H v b↔∃ l us,v=.ref l∧H l=some (.lst us)∧Each (SAt H) us b:=by
 constructor
 · rintro ⟨fs,h⟩
   simp only [Tr.At] at h
   obtain ⟨l,us,gs,rfl,e,h,_⟩:=h
   exact ⟨l,us,rfl,e,am0 (f:=Stm.tr) (fun v x fs h=>⟨fs,h⟩) (at6 b) h⟩
 · rintro ⟨l,us,rfl,e,h⟩
   obtain ⟨fs,h⟩:=ag0 (f:=Stm.tr) (fun v x h=>h) h
   refine ⟨l::fs,?_⟩
   simp only [Tr.At]
   exact ⟨l,us,fs,rfl,e,by rw [at6]; exact h,rfl⟩
def BrAt (H:Hp) (v:V) (x:Br):Prop:=match x with | .mk p b=>∃ q pv bv,v=.ref q∧H q=some (.tup [pv,bv])∧PAt H pv p∧BAt H bv b
theorem av8 {H:Hp}:∀ {p:List Pt}{vs:List V}{fs:List Addr},Tr.Ats H (p.map Pt.tr) vs fs→fs=[]
 | [],vs,fs,h=>by
   simp only [List.map_nil,Tr.Ats] at h
   exact h.2
 | x::p,vs,fs,h=>by
   simp only [List.map_cons,Tr.Ats] at h
   obtain ⟨v,ws,f,g,_,rfl,h1,h2⟩:=h
   rw [av8 h2]
   cases x with
   | s z=>simp only [Pt.tr,Tr.At] at h1; simp [h1.2]
   | i z=>simp only [Pt.tr,Tr.At] at h1; simp [h1.2]
theorem be8 {H:Hp}{v:V}{x:Br}{fs:List Addr}(h:x.tr.At H v fs):BrAt H v x:=by
 cases x with
 | mk p b =>
   simp only [Br.tr,Tr.At,Tr.Ats] at h
   obtain ⟨q,vs,rfl,e,v1,w1,f1,g1,rfl,rfl,⟨a,us,rfl,e1,h1⟩,v2,w2,f2,g2,rfl,rfl,⟨l,ws,gs,rfl,e2,h2,rfl⟩,rfl,rfl⟩:=h
   have:=av8 h1
   subst this
   refine ⟨q,_,_,rfl,e,?_,⟨l::gs,?_⟩⟩
   · unfold PAt
     simp only [Tr.At]
     exact ⟨a,us,rfl,e1,h1⟩
   · simp only [Tr.At]
     exact ⟨l,ws,gs,rfl,e2,h2,rfl⟩
theorem c42 {H:Hp}{v:V}{x:Br}(h:BrAt H v x):∃ fs,x.tr.At H v fs:=by
 cases x with
 | mk p b =>
   obtain ⟨q,pv,bv,rfl,e,h1,⟨fs,h2⟩⟩:=h
   refine ⟨[]++(fs++[]),?_⟩
   simp only [Br.tr,Tr.At,Tr.Ats] at h2 ⊢
   exact ⟨q,_,rfl,e,pv,_,[],_,rfl,rfl,by unfold PAt at h1; simp only [Tr.At] at h1; exact h1,bv,_,fs,[],rfl,rfl,h2,rfl,rfl⟩
theorem sat_loop {H:Hp}{v:V}{b:List Stm}:SAt H v (.loop b)↔∃ a u,v=.ref a∧H a=some (.tup [.str "loop",u])∧BAt H u b:=by
 constructor
 · rintro ⟨fs,h⟩
   simp only [Stm.tr,Tr.At,Tr.Ats] at h
   obtain ⟨a,vs,rfl,e,v1,w1,f1,g1,rfl,rfl,⟨rfl,rfl⟩,v2,w2,f2,g2,rfl,rfl,h2,rfl,rfl⟩:=h
   exact ⟨a,v2,rfl,e,f2,by simp only [Tr.At]; exact h2⟩
 · rintro ⟨a,u,rfl,e,fs,h⟩
   refine ⟨[]++(fs++[]),?_⟩
   simp only [Stm.tr,Tr.At,Tr.Ats] at h ⊢
   exact ⟨a,_,rfl,e,_,_,[],_,rfl,rfl,⟨rfl,rfl⟩,u,_,fs,[],rfl,rfl,h,rfl,rfl⟩
theorem sat_wait {H:Hp}{v:V}{n:Int}{bs:List Br}:SAt H v (.wait n bs)↔∃ a l ws,v=.ref a∧H a=some (.tup [.str "wait",.int n,.ref l])∧H l=some (.lst ws)∧Each (BrAt H) ws bs:=by
 constructor
 · rintro ⟨fs,h⟩
   simp only [Stm.tr,Tr.At,Tr.Ats] at h
   obtain ⟨a,vs,rfl,e,v1,w1,f1,g1,rfl,rfl,⟨rfl,rfl⟩,v2,w2,f2,g2,rfl,rfl,⟨rfl,rfl⟩,v3,w3,f3,g3,rfl,rfl,⟨l,ws,gs,rfl,e2,h2,_⟩,rfl,rfl⟩:=h
   exact ⟨a,l,ws,rfl,e,e2,am0 (f:=Br.tr) (fun v x fs h=>be8 h) (at7 bs) h2⟩
 · rintro ⟨a,l,ws,rfl,e,e2,h⟩
   obtain ⟨gs,h⟩:=ag0 (f:=Br.tr) (fun v x h=>c42 h) h
   refine ⟨[]++([]++((l::gs)++[])),?_⟩
   simp only [Stm.tr,Tr.At,Tr.Ats]
   exact ⟨a,_,rfl,e,_,_,[],_,rfl,rfl,⟨rfl,rfl⟩,_,_,[],_,rfl,rfl,⟨rfl,rfl⟩,_,_,l::gs,[],rfl,rfl,⟨l,ws,gs,rfl,e2,by rw [at7]; exact h,rfl⟩,rfl,rfl⟩
theorem av9 {H:Hp}{v:V}{c:Cd}{x y:List Stm}(h:SAt H v (.test c x y)):∃ a u1 u2 u3,v=.ref a∧H a=some (.tup [.str "test",u1,u2,u3])∧BAt H u2 x∧BAt H u3 y:=by
 obtain ⟨fs,h⟩:=h
 simp only [Stm.tr,Tr.At,Tr.Ats] at h
 obtain ⟨a,vs,rfl,e,v1,w1,f1,g1,rfl,rfl,⟨rfl,rfl⟩,v2,w2,f2,g2,rfl,rfl,_,v3,w3,f3,g3,rfl,rfl,h3,v4,w4,f4,g4,rfl,rfl,h4,rfl,rfl⟩:=h
 exact ⟨a,v2,v3,v4,rfl,e,⟨f3,by simp only [Tr.At]; exact h3⟩,f4,by simp only [Tr.At]; exact h4⟩
theorem b43 {H:Hp}{v:V}{k:Str}{r:List Pt}(h:SAt H v (.plain (.s k::r))):∃ a us,v=.ref a∧H a=some (.tup (.str k::us)):=by
 obtain ⟨fs,h⟩:=h
 simp only [Stm.tr,List.map_cons,Tr.At,Tr.Ats,Pt.tr] at h
 obtain ⟨a,vs,rfl,e,v1,w1,f1,g1,rfl,_,⟨rfl,_⟩,_⟩:=h
 exact ⟨a,w1,rfl,e⟩
def a32:Stm→List (List Stm)
 | .loop b=>[b]
 | .wait _ bs=>bs.map fun | .mk _ b=>b
 | .test _ a b=>[a,b]
 | _=>[]
section
variable {X:Cx}
end
section
variable {σ:St} {H:Hp}{nn bb cc:St→Hp→Prop}{rr:VK}{t u:TS}
theorem be9 (h:∀ N:St→Hp→Prop,(∀ σ H,u ⟨nn,rr,bb,cc⟩ σ H→N σ H)→t ⟨N,rr,bb,cc⟩ σ H):tSeq t u ⟨nn,rr,bb,cc⟩ σ H:=h _ fun _ _ x=>x
theorem bf0 {P N:St→Hp→Prop}(e:∀ σ H,P σ H→N σ H) (h:P σ H):N σ H:=e σ H h
end
abbrev Pl:=Nat×Nat
inductive KS where
 | say (w:Str)
 | hand (l:Int) (w:Str)
 | put (n:Str) (e:Ex)
 | test (c:Cd) (a b:Nat)
 | loop (n:Nat)
 | call (n:Nat)
 | wait (l:Int) (br:List (List Pt×Pl)) (w:Pl)
 | again
 | leave
 | back
 | stop
def plT (p:Pl):Tr:=.tup [.int (p.1:Nat),.int (p.2:Nat)]
def brK (b:List Pt×Pl):Tr:=.tup [.tup (b.1.map Pt.tr),plT b.2]
def KS.word:KS→Str
 | .say _=>"say"
 | .hand _ _=>"hand"
 | .put _ _=>"put"
 | .test _ _ _=>"test"
 | .loop _=>"loop"
 | .call _=>"call"
 | .wait _ _ _=>"wait"
 | .again=>"again"
 | .leave=>"leave"
 | .back=>"back"
 | .stop=>"stop"
def KS.its:KS→List Tr
 | .say w=>[.str w]
 | .hand l w=>[.int l,.str w]
 | .put n e=>[.str n,e.tr]
 | .test c a b=>[c.tr,.int (a:Nat),.int (b:Nat)]
 | .loop n=>[.int (n:Nat)]
 | .call n=>[.int (n:Nat)]
 | .wait l br w=>[.int l,.tup (br.map brK),plT w]
 | _=>[]
def KS.tr (s:KS):Tr:=.tup (.str s.word::s.its)
structure KB where
 lp:Bool
 bh:Option Pl
 st:List KS
def Pl.At (H:Hp) (v:V) (p:Pl):Prop:=∃ a,v=.ref a∧H a=some (.tup [.int (p.1:Nat),.int (p.2:Nat)])
def PlO (H:Hp) (v:V):Option Pl→Prop
 | none=>v=.non
 | some p=>Pl.At H v p
theorem Pl.At.same {H H':Hp}{v:V}{p:Pl}(h:Pl.At H v p) (s:Same H H'):Pl.At H' v p:=by
 obtain ⟨a,e,h⟩:=h
 exact ⟨a,e,s _ _ h⟩
theorem PlO.same {H H':Hp}{v:V}{p:Option Pl}(h:PlO H v p) (s:Same H H'):PlO H' v p:=by
 cases p with
 | none=>exact h
 | some p=>exact Pl.At.same h s
theorem pl_tr {H:Hp}{v:V}{p:Pl}:(plT p).At H v []↔Pl.At H v p:=by
 constructor
 · intro h
   obtain ⟨a,vs,rfl,e,h⟩:=at_tup0.mp h
   obtain ⟨v1,w1,rfl,h1,h⟩:=ats_cons0.mp h
   obtain ⟨v2,w2,rfl,h2,h⟩:=ats_cons0.mp h
   obtain rfl:=ats_nil0.mp h
   obtain rfl:=at_int0.mp h1
   obtain rfl:=at_int0.mp h2
   exact ⟨a,rfl,e⟩
 · rintro ⟨a,rfl,e⟩
   exact a46 e aa9 aa9
theorem KS.word_at {H:Hp}{v:V}{s:KS}(h:s.tr.At H v []):∃ a us,v=.ref a∧H a=some (.tup (.str s.word::us))∧Tr.Ats H s.its us []:=by
 obtain ⟨a,vs,rfl,e,h⟩:=at_tup0.mp h
 obtain ⟨v1,w1,hz,h1,h2⟩:=ats_cons0.mp h
 obtain rfl:=at_str0.mp h1
 exact ⟨a,w1,rfl,by rw [e,hz],h2⟩
def kbS (x y z:V):List (Str×V):=putF "statements" z (putF "behind" y (putF "loops" x []))
theorem ah6 (x y z:V):(kbS x y z).lookup ("loops":Str)=some x:=by
 unfold kbS
 rw [a29,if_neg (by decide +kernel),a29,if_neg (by decide +kernel),a29,if_pos rfl]
theorem ae3 (x y z:V):(kbS x y z).lookup ("behind":Str)=some y:=by
 unfold kbS
 rw [a29,if_neg (by decide +kernel),a29,if_pos rfl]
theorem a74 (x y z:V):(kbS x y z).lookup ("statements":Str)=some z:=by
 unfold kbS
 rw [a29,if_pos rfl]
def KbAt (C:Addr) (H:Hp) (v:V) (b:KB):Prop:=∃ p dx bv l us,v=.ref p∧H p=some (.ins C dx (kbS (.bl b.lp) bv (.ref l)))∧PlO H bv b.bh∧H l=some (.lst us)∧Tr.Ats H (b.st.map KS.tr) us []
theorem KbAt.same {C:Addr}{H H':Hp}{v:V}{b:KB}(h:KbAt C H v b) (s:Same H H'):KbAt C H' v b:=by
 obtain ⟨p,dx,bv,l,us,h1,h2,h3,h4,h5⟩:=h
 exact ⟨p,dx,bv,l,us,h1,s _ _ h2,h3.same s,s _ _ h4,h5.same s⟩
def BxAt (H:Hp) (v:V) (b:Str×Int):Prop:=∃ p,v=.ref p∧H p=some (.tup [.str b.1,.int b.2])
theorem BxAt.same {H H':Hp}{v:V}{b:Str×Int}(h:BxAt H v b) (s:Same H H'):BxAt H' v b:=by
 obtain ⟨p,h1,h2⟩:=h
 exact ⟨p,h1,s _ _ h2⟩
theorem am1 {H:Hp}:∀ {vs:List V}{bs:List (Str×Int)},Each (BxAt H) vs bs→Boxes H vs (bs.map (·.1))
 | [],[],_=>.nil
 | v::vs,b::bs,h=>by
   obtain ⟨p,rfl,e⟩:=h.2 0 v b rfl rfl
   exact .cons e (am1 (vs:=vs) (bs:=bs) ⟨by simpa using h.1,fun j a b e1 e2=>h.2 (j+1) a b (by simpa using e1) (by simpa using e2)⟩)
 | [],b::bs,h=>absurd h.1 (by simp)
 | v::vs,[],h=>absurd h.1 (by simp)
def teS (x y:V):List (Str×V):=putF "bodies" y (putF "boxes" x [])
theorem ah7 (x y:V):(teS x y).lookup ("boxes":Str)=some x:=by
 unfold teS
 rw [a29,if_neg (by decide +kernel),a29,if_pos rfl]
theorem a79 (x y:V):(teS x y).lookup ("bodies":Str)=some y:=by
 unfold teS
 rw [a29,if_pos rfl]
theorem a80 {m:Str}(x y:V) (h1:m≠"bodies") (h2:m≠"boxes"):(teS x y).lookup m=none:=by
 unfold teS
 rw [a29,if_neg h1,a29,if_neg h2]
 rfl
structure TeAt (C CK:Addr) (H:Hp) (p:Addr) (bs:List (Str×Int)) (kb:List KB):Prop where
 ex:∃ dx bl kl bvs kvs,H p=some (.ins C dx (teS (.ref bl) (.ref kl)))∧H bl=some (.lst bvs)∧Each (BxAt H) bvs bs∧H kl=some (.lst kvs)∧Each (KbAt CK H) kvs kb
theorem TeAt.same {C CK:Addr}{H H':Hp}{p:Addr}{bs:List (Str×Int)}{kb:List KB}(h:TeAt C CK H p bs kb) (s:Same H H'):TeAt C CK H' p bs kb:=by
 obtain ⟨dx,bl,kl,bvs,kvs,h1,h2,h3,h4,h5⟩:=h.ex
 exact ⟨dx,bl,kl,bvs,kvs,s _ _ h1,s _ _ h2,h3.mono fun _ _ z=>z.same s,s _ _ h4,h5.mono fun _ _ z=>z.same s⟩
abbrev Std:=Pl×List Pl×List Int×Int
def stAt (kb:List KB) (p:Pl):Option KS:=match kb[p.1]? with
 | none=>none
 | some b=>b.st[p.2]?
def setF (kb:List KB):Nat→Option Pl→Option (Option Pl)
 | 0,_=>none
 | _+1,none=>some none
 | n+1,some p=>match kb[p.1]? with
   | none=>none
   | some b=>if p.2<b.st.length then some (some p) else setF kb n (if b.lp then some (p.1,0) else b.bh)
def lpF (kb:List KB):Nat→Nat→Option Nat
 | 0,_=>none
 | n+1,i=>match kb[i]? with
   | none=>none
   | some b=>if b.lp then some i else match b.bh with
     | none=>none
     | some p=>lpF kb n p.1
def sayS (l:Int) (w:Str):Str:=Str.ofString (toString l)++":"++w
def KS.sd:KS→List Str
 | .say w=>[w]
 | .hand l w=>[sayS l w]
 | _=>[]
def vput (bs:List (Str×Int)) (vs:List Int) (n:Str) (k:Int):List Int:=List.zipWith (fun b v=>if b.1=n then k % b.2 else v) bs vs
def KS.vals (bs:List (Str×Int)) (vs:List Int):KS→List Int
 | .put n e=>vput bs vs n (e.ev (bs.map (·.1)) vs)
 | _=>vs
def tfu (kb:List KB):Nat:=kb.length+2
def stkF (kb:List KB) (p:Pl) (stk:List Pl):KS→Option (List Pl)
 | .call _=>(setF kb (tfu kb) (some (p.1,p.2+1))).map fun
   | none=>stk
   | some q=>stk++[q]
 | _=>some stk
def wayF (kb:List KB) (ns:List Str) (p:Pl) (vs:List Int):KS→Option (Option Pl)
 | .back=>some none
 | .test c a b=>some (some (if c.ev ns vs then a else b,0))
 | .loop n=>some (some (n,0))
 | .call n=>some (some (n,0))
 | .again=>(lpF kb (tfu kb) p.1).map fun i=>some (i,0)
 | .leave=>match lpF kb (tfu kb) p.1 with
   | none=>none
   | some i=>(kb[i]?).map (·.bh)
 | _=>some (some (p.1,p.2+1))
def popP:Option Pl→List Pl→Option (Pl×List Pl)
 | some p,stk=>some (p,stk)
 | none,stk=>match stk.getLast? with
   | none=>none
   | some p=>some (p,stk.dropLast)
inductive StO where
 | done (r:Option Std)
 | go (sd:List Str) (o:Option Pl) (stk:List Pl) (vs:List Int)
def onK (kb:List KB) (bs:List (Str×Int)) (p:Pl) (stk:List Pl) (vs:List Int) (s:KS):Option StO:=match s with
 | .wait l _ _=>some (.done (some (p,stk,vs,l)))
 | .stop=>some (.done none)
 | s=>match stkF kb p stk s,wayF kb (bs.map (·.1)) p (s.vals bs vs) s with
   | some stk2,some w=>(setF kb (tfu kb) w).map fun o=>.go s.sd o stk2 (s.vals bs vs)
   | _,_=>none
def goF (kb:List KB) (bs:List (Str×Int)):Nat→Option Pl→List Pl→List Int→Option (List Str×Option Std)
 | 0,_,_,_=>none
 | n+1,o,stk,vs=>match popP o stk with
   | none=>some ([],none)
   | some (p,stk1)=>match stAt kb p with
     | none=>none
     | some s=>match onK kb bs p stk1 vs s with
       | none=>none
       | some (.done r)=>some ([],r)
       | some (.go sd o2 stk2 vs2)=>(goF kb bs n o2 stk2 vs2).map fun r=>(sd++r.1,r.2)
def tgoF (kb:List KB) (bs:List (Str×Int)) (n:Nat) (o:Option Pl) (stk:List Pl) (vs:List Int):Option (List Str×Option Std):=match setF kb (tfu kb) o with
 | none=>none
 | some o=>goF kb bs n o stk vs
def KS.ok (ns:List Str):KS→Prop
 | .say w=>w.length≤100
 | .hand l w=>0≤l∧l<10∧w.length≤100
 | .put _ e=>e.ok ns∧e.h<8
 | .test c _ _=>c.ok ns 5∧c.h<4
 | .wait l br _=>0≤l∧br.length≤1000
 | _=>True
structure KOk (bs:List (Str×Int)) (kb:List KB):Prop where
 ok:∀ b∈kb,∀ s∈b.st,s.ok (bs.map (·.1))
 bz:∀ b∈bs,0<b.2∧b.2<1000
 bl:bs.length≤100
 kl:kb.length≤100000
 sl:∀ b∈kb,b.st.length≤100000
theorem KOk.at {bs:List (Str×Int)}{kb:List KB}(h:KOk bs kb) {p:Pl}{s:KS}(e:stAt kb p=some s):s.ok (bs.map (·.1)):=by
 unfold stAt at e
 split at e
 · cases e
 · rename_i b hb
   exact h.ok b (List.mem_of_getElem? hb) s (List.mem_of_getElem? e)
def StkAt (H:Hp) (a:Addr) (stk:List Pl):Prop:=∃ us,H a=some (.tup us)∧Each (Pl.At H) us stk
theorem StkAt.same {H H':Hp}{a:Addr}{stk:List Pl}(h:StkAt H a stk) (s:Same H H'):StkAt H' a stk:=by
 obtain ⟨us,h1,h2⟩:=h
 exact ⟨us,s _ _ h1,h2.mono fun _ _ z=>z.same s⟩
def StdAt (H:Hp) (v:V):Option Std→Prop
 | none=>v=.non
 | some (p,stk,vs,l)=>∃ q pv ps pa,v=.ref q∧H q=some (.tup [pv,.ref ps,.ref pa,.int l])∧Pl.At H pv p∧StkAt H ps stk∧H pa=some (.tup (vs.map V.int))
theorem StdAt.same {H H':Hp}{v:V}{r:Option Std}(h:StdAt H v r) (s:Same H H'):StdAt H' v r:=by
 cases r with
 | none=>exact h
 | some x =>
   obtain ⟨p,stk,vs,l⟩:=x
   obtain ⟨q,pv,ps,pa,h1,h2,h3,h4,h5⟩:=h
   exact ⟨q,pv,ps,pa,h1,s _ _ h2,h3.same s,h4.same s,s _ _ h5⟩
mutual
def Tr.nl:Tr→Bool
 | .tup xs=>Tr.nls xs
 | .lst _=>false
 | _=>true
def Tr.nls:List Tr→Bool
 | []=>true
 | x::xs=>x.nl && Tr.nls xs
end
mutual
theorem ba9 {H:Hp}:∀ {x:Tr}{v:V}{fs:List Addr},x.nl=true→x.At H v fs→fs=[]
 | .non,_,_,_,h=>by simp only [Tr.At] at h; exact h.2
 | .int _,_,_,_,h=>by simp only [Tr.At] at h; exact h.2
 | .str _,_,_,_,h=>by simp only [Tr.At] at h; exact h.2
 | .tup xs,_,_,n,h=>by
   simp only [Tr.At] at h
   obtain ⟨a,vs,_,_,h⟩:=h
   exact bf1 (by simpa only [Tr.nl] using n) h
 | .lst _,_,_,n,_=>by simp [Tr.nl] at n
theorem bf1 {H:Hp}:∀ {xs:List Tr}{vs:List V}{fs:List Addr},Tr.nls xs=true→Tr.Ats H xs vs fs→fs=[]
 | [],_,_,_,h=>by simp only [Tr.Ats] at h; exact h.2
 | x::xs,_,_,n,h=>by
   simp only [Tr.nls,Bool.and_eq_true] at n
   simp only [Tr.Ats] at h
   obtain ⟨v,ws,f,g,_,rfl,h1,h2⟩:=h
   rw [ba9 n.1 h1,bf1 n.2 h2]
   rfl
end
theorem b44:∀ e:Ex,e.tr.nl=true
 | .num _=>rfl
 | .box _=>rfl
 | .two k a b=>by simp only [Ex.tr,Tr.nl,Tr.nls,b44 a,b44 b]; rfl
theorem bb0:∀ c:Cd,c.tr.nl=true
 | .cmp k a b=>by simp only [Cd.tr,Tr.nl,Tr.nls,b44 a,b44 b]; rfl
 | .nt c=>by simp only [Cd.tr,Tr.nl,Tr.nls,bb0 c]; rfl
 | .both c d=>by simp only [Cd.tr,Tr.nl,Tr.nls,bb0 c,bb0 d]; rfl
theorem bf2:∀ ps:List Pt,Tr.nls (ps.map Pt.tr)=true
 | []=>rfl
 | p::ps=>by
   simp only [List.map_cons,Tr.nls,bf2 ps,Bool.and_true]
   cases p <;> rfl
def Stm.isL:Stm→Bool
 | .loop _=>true
 | _=>false
def Br.pat:Br→List Pt
 | .mk p _=>p
def patB (p:List Pt):Tr:=.tup (p.map Pt.tr)
noncomputable def fndT (br:List (List Pt×Pl)) (e:Tr):Option Pl:=(br.find? fun b=>decide (patB b.1=e)).map (·.2)
def brsK (m:Nat) (bs:List Br):List (List Pt×Pl):=bs.mapIdx fun i b=>(b.pat,(m+i,0))
def plK (tn:List Str):List Pt→KS
 | [.s k,.s w]=>if k=Str.ofString "say" then .say w else .call (tn.idxOf w)
 | [.s _,.i l,.s w]=>.hand l w
 | [.s k]=>if k=Str.ofString "again" then .again else if k=Str.ofString "leave" then .leave else if k=Str.ofString "back" then .back else .stop
 | _=>.stop
noncomputable def a52 (tn:List Str) (bh:Pl) (m:Nat):Stm→KS
 | .plain ps=>plK tn ps
 | .put n e=>.put n e
 | .loop _=>.loop m
 | .test c _ _=>.test c m (m+1)
 | .wait l bs=>.wait l (brsK m bs) ((fndT (brsK m bs) (.tup [.str "none"])).getD bh)
def Stm.kd (tn:List Str):Stm→Prop
 | .plain ps=>(∃ w,ps=[.s "say",.s w])∨(∃ l w,ps=[.s "hand",.i l,.s w])∨(∃ w,ps=[.s "call",.s w]∧w∈tn)∨ps=[.s "again"]∨ps=[.s "leave"]∨ps=[.s "back"]∨ps=[.s "stop"]
 | .wait _ bs=>bs.length≤1000
 | _=>True
theorem bb1 {tn:List Str}{ps:List Pt}(h:Stm.kd tn (.plain ps)):∃ k r,ps=.s k::r∧k≠Str.ofString "test"∧k≠Str.ofString "wait"∧k≠Str.ofString "loop":=by
 rcases h with ⟨w,rfl⟩ | ⟨l,w,rfl⟩ | ⟨w,rfl,_⟩ | rfl | rfl | rfl | rfl <;> exact ⟨_,_,rfl,by decide +kernel,by decide +kernel,by decide +kernel⟩
theorem bw7 {tn:List Str}{s:Stm}(h:s.kd tn):(a32 s).length≤1000:=by
 cases s with
 | wait n bs=>simp only [a32,List.length_map]; exact h
 | _=>simp [a32]
theorem c43 {tn:List Str}{w:Str}(h:w∈tn):tn[tn.idxOf w]?=some w∧∀ m,m<tn.idxOf w→tn[m]?≠some w:=by
 have hl:=List.idxOf_lt_length_of_mem h
 refine ⟨by rw [List.getElem?_eq_getElem hl]; simp,fun m hm he=>?_⟩
 have h1:=List.not_of_lt_findIdx (p:=fun x=>x == w) (xs:=tn) (i:=m) (by simpa [List.idxOf] using hm)
 obtain ⟨h2,h3⟩:=List.getElem?_eq_some_iff.mp he
 rw [h3] at h1
 simp at h1
theorem b45 {H:Hp}{v:V}{n:Str}{e:Ex}(h:SAt H v (.put n e)):(KS.put n e).tr.At H v []:=by
 obtain ⟨fs,h⟩:=h
 have:fs=[]:=ba9 (by simp only [Stm.tr,Tr.nl,Tr.nls,b44]; rfl) h
 subst this
 exact h
theorem bf3 {H:Hp}{v:V}{ps:List Pt}(h:SAt H v (.plain ps)):(Tr.tup (ps.map Pt.tr)).At H v []:=by
 obtain ⟨fs,h⟩:=h
 have:fs=[]:=ba9 (by simp only [Stm.tr,Tr.nl,bf2]) h
 subst this
 exact h
theorem b46 {H:Hp}{v:V}{c:Cd}{x y:List Stm}(h:SAt H v (.test c x y)):∃ a u1 u2 u3,v=.ref a∧H a=some (.tup [.str "test",u1,u2,u3])∧BAt H u2 x∧BAt H u3 y∧c.tr.At H u1 []:=by
 obtain ⟨fs,h⟩:=h
 simp only [Stm.tr,Tr.At,Tr.Ats] at h
 obtain ⟨a,vs,rfl,e,v1,w1,f1,g1,rfl,rfl,⟨rfl,rfl⟩,v2,w2,f2,g2,rfl,rfl,h2,v3,w3,f3,g3,rfl,rfl,h3,v4,w4,f4,g4,rfl,rfl,h4,rfl,rfl⟩:=h
 obtain rfl:=ba9 (bb0 c) h2
 exact ⟨a,v2,v3,v4,rfl,e,⟨f3,by simp only [Tr.At]; exact h3⟩,⟨f4,by simp only [Tr.At]; exact h4⟩,h2⟩
def Stm.wd:Stm→Str
 | .plain (.s k::_)=>k
 | .plain _=>"stop"
 | .put _ _=>"put"
 | .loop _=>"loop"
 | .wait _ _=>"wait"
 | .test _ _ _=>"test"
theorem b47 {H:Hp}{v:V}{s:Stm}{tn:List Str}(h:SAt H v s) (hk:s.kd tn):∃ a us,v=.ref a∧H a=some (.tup (.str s.wd::us)):=by
 cases s with
 | plain ps =>
   obtain ⟨k,r,rfl,_⟩:=bb1 hk
   obtain ⟨a,us,h1,h2⟩:=b43 h
   exact ⟨a,us,h1,h2⟩
 | put n e =>
   obtain ⟨a,us,h1,h2,_⟩:=KS.word_at (b45 h)
   exact ⟨a,us,h1,h2⟩
 | loop b =>
   obtain ⟨a,u,h1,h2,_⟩:=sat_loop.mp h
   exact ⟨a,_,h1,h2⟩
 | wait n bs =>
   obtain ⟨a,l,ws,h1,h2,_⟩:=sat_wait.mp h
   exact ⟨a,_,h1,h2⟩
 | test c x y =>
   obtain ⟨a,u1,u2,u3,h1,h2,_⟩:=av9 h
   exact ⟨a,_,h1,h2⟩
theorem b48 {s:Stm}{tn:List Str}(hk:s.kd tn) (h:s.wd=Str.ofString "test"):∃ c x y,s=.test c x y:=by
 cases s with
 | test c x y=>exact ⟨c,x,y,rfl⟩
 | plain ps=>obtain ⟨k,r,rfl,h1,h2,h3⟩:=bb1 hk; exact absurd h h1
 | _=>simp only [Stm.wd] at h; exact absurd h (by decide +kernel)
theorem b49 {s:Stm}{tn:List Str}(hk:s.kd tn) (h:s.wd=Str.ofString "wait"):∃ c x,s=.wait c x:=by
 cases s with
 | wait c x=>exact ⟨c,x,rfl⟩
 | plain ps=>obtain ⟨k,r,rfl,h1,h2,h3⟩:=bb1 hk; exact absurd h h2
 | _=>simp only [Stm.wd] at h; exact absurd h (by decide +kernel)
theorem at8 {s:Stm}{tn:List Str}(hk:s.kd tn) (h:s.wd=Str.ofString "loop"):∃ c,s=.loop c:=by
 cases s with
 | loop c=>exact ⟨c,rfl⟩
 | plain ps=>obtain ⟨k,r,rfl,h1,h2,h3⟩:=bb1 hk; exact absurd h h3
 | _=>simp only [Stm.wd] at h; exact absurd h (by decide +kernel)
theorem bw8 {s:Stm}{tn:List Str}(hk:s.kd tn):s.isL=decide (s.wd=Str.ofString "loop"):=by
 by_cases h:s.wd=Str.ofString "loop"
 · obtain ⟨c,rfl⟩:=at8 hk h
   rw [decide_eq_true h]
   rfl
 · rw [decide_eq_false h]
   cases s <;> first | rfl | exact absurd rfl h
theorem bj9 {s:Stm}(h1:s.wd≠Str.ofString "test") (h2:s.wd≠Str.ofString "wait") (h3:s.wd≠Str.ofString "loop"):a32 s=[]:=by
 cases s <;> first | rfl | exact absurd rfl h1 | exact absurd rfl h2 | exact absurd rfl h3
abbrev QE:=List Stm×Bool×Option Pl
def newQ (num:Nat):Nat→List Stm→List QE
 | _,[]=>[]
 | i,s::r=>(a32 s).map (fun b=>(b,s.isL,some (num,i+1)))++newQ num (i+1) r
noncomputable def a57 (tn:List Str) (num:Nat):Nat→Nat→List Stm→List KS
 | _,_,[]=>[]
 | i,m,s::r=>a52 tn (num,i+1) m s::a57 tn num (i+1) (m+(a32 s).length) r
theorem ah8 (num:Nat) (s:Stm):∀ (a:List Stm) (i:Nat),newQ num i (a++[s])=newQ num i a++(a32 s).map (fun b=>(b,s.isL,some (num,i+a.length+1)))
 | [],i=>by simp [newQ]
 | x::a,i=>by
   simp only [List.cons_append,newQ,ah8 num s a (i+1),List.append_assoc,List.length_cons]
   rw [show i+1+a.length+1=i+(a.length+1)+1 by omega]
theorem ae4 (tn:List Str) (num:Nat) (s:Stm):∀ (a:List Stm) (i m:Nat),a57 tn num i m (a++[s])=a57 tn num i m a++[a52 tn (num,i+a.length+1) (m+(newQ num i a).length) s]
 | [],i,m=>by simp [a57,newQ]
 | x::a,i,m=>by
   simp only [List.cons_append,a57,ae4 tn num s a (i+1),List.length_cons,newQ,List.length_append,List.length_map]
   rw [show i+1+a.length+1=i+(a.length+1)+1 by omega,Nat.add_assoc m]
theorem aq4 (tn:List Str) (num:Nat):∀ (a:List Stm) (i m:Nat),(a57 tn num i m a).length=a.length
 | [],_,_=>rfl
 | x::a,i,m=>by simp only [a57,List.length_cons,aq4 tn num a]
def Qn (q0:List QE):Nat→List QE
 | 0=>q0
 | n+1=>Qn q0 n++match (Qn q0 n)[n]? with
   | none=>[]
   | some q=>newQ n 0 q.1
theorem b50 (q0:List QE) (n:Nat):∀ k,∃ r,Qn q0 (n+k)=Qn q0 n++r
 | 0=>⟨[],by simp⟩
 | k+1=>by
   obtain ⟨r,h⟩:=b50 q0 n k
   exact ⟨_,by show Qn q0 (n+k)++_=_; rw [h,List.append_assoc]⟩
theorem bk0 {q0:List QE}{n m:Nat}(h:n≤m):(Qn q0 n).length≤(Qn q0 m).length:=by
 obtain ⟨k,rfl⟩:=Nat.exists_eq_add_of_le h
 obtain ⟨r,e⟩:=b50 q0 n k
 rw [e,List.length_append]
 omega
theorem bw9 {q0:List QE}{n m i:Nat}{q:QE}(h:n≤m) (e:(Qn q0 n)[i]?=some q):(Qn q0 m)[i]?=some q:=by
 obtain ⟨k,rfl⟩:=Nat.exists_eq_add_of_le h
 obtain ⟨r,e'⟩:=b50 q0 n k
 rw [e',List.getElem?_append_left (List.getElem?_eq_some_iff.mp e).1,e]
theorem b51 {q0:List QE}{n:Nat}(h:(Qn q0 n).length≤n):∀ k,Qn q0 (n+k)=Qn q0 n
 | 0=>rfl
 | k+1=>by
   have e:=b51 h k
   show Qn q0 (n+k)++(match (Qn q0 (n+k))[n+k]? with | none=>[] | some q=>newQ (n+k) 0 q.1)=_
   rw [e,List.getElem?_eq_none (by omega)]
   simp
theorem bx0 {q0:List QE}{n N:Nat}(h:(Qn q0 n).length≤n) (hn:n≤N) (hN:(Qn q0 N).length=N):n=N:=by
 obtain ⟨k,rfl⟩:=Nat.exists_eq_add_of_le hn
 rw [b51 h k] at hN
 omega
def q0T (ts:List (Str×List Stm)):List QE:=ts.map fun x=>(x.2,false,none)
noncomputable def kbL (ts:List (Str×List Stm)) (N:Nat):List KB:=(Qn (q0T ts) N).mapIdx fun j q=>⟨q.2.1,q.2.2,a57 (ts.map (·.1)) j 0 (Qn (q0T ts) j).length q.1⟩
structure KR where
 o:Addr
 l:Addr
 q:QE
 st:List KS
def KrAt (C:Addr) (H:Hp) (x:KR):Prop:=∃ dx bv us,H x.o=some (.ins C dx (kbS (.bl x.q.2.1) bv (.ref x.l)))∧PlO H bv x.q.2.2∧H x.l=some (.lst us)∧Tr.Ats H (x.st.map KS.tr) us []
theorem KrAt.same {C:Addr}{H H':Hp}{x:KR}(h:KrAt C H x) (s:Same H H'):KrAt C H' x:=by
 obtain ⟨dx,bv,us,h1,h2,h3,h4⟩:=h
 exact ⟨dx,bv,us,s _ _ h1,h2.same s,s _ _ h3,h4.same s⟩
theorem PlO.tups {H H':Hp}{v:V}{p:Option Pl}(h:PlO H v p) (s:Tups H H'):PlO H' v p:=by
 cases p with
 | none=>exact h
 | some p =>
   obtain ⟨a,e,h⟩:=h
   exact ⟨a,e,s _ _ h⟩
theorem KrAt.upd {C:Addr}{H:Hp}{x:KR}{l:Addr}{us vs:List V}(h:KrAt C H x) (e:H l=some (.lst us)) (hne:x.l≠l):KrAt C (upd H l (.lst vs)) x:=by
 obtain ⟨dx,bv,us',h1,h2,h3,h4⟩:=h
 have ho:x.o≠l:=fun z=>by rw [z,e] at h1; cases h1
 exact ⟨dx,bv,us',by rw [a14 ho]; exact h1,h2.tups (Tups.upd e),by rw [a14 hne]; exact h3,h4.mono (Keep.upd e (by simp))⟩
structure KeepI (C:Addr) (H0 H:Hp) (kl bd:Addr) (ks:List KR) (bvs:List V):Prop where
 k:H kl=some (.lst (ks.map fun x=>V.ref x.o))
 b:H bd=some (.lst bvs)
 e:Each (BAt H0) bvs (ks.map (·.q.1))
 a:∀ (j:Nat) x,ks[j]?=some x→KrAt C H x
 nd:(ks.map (·.l)).Nodup
 nk:∀ x∈ks,x.l≠kl
 nb:∀ x∈ks,x.l≠bd
 ne:kl≠bd
 fk:H0 kl=none
 fb:H0 bd=none
 fl:∀ x∈ks,H0 x.l=none
 s:Same H0 H
theorem KeepI.same {C:Addr}{H0 H H':Hp}{kl bd:Addr}{ks:List KR}{bvs:List V}(h:KeepI C H0 H kl bd ks bvs) (s:Same H H'):KeepI C H0 H' kl bd ks bvs :=
 ⟨s _ _ h.k,s _ _ h.b,h.e,fun j x e=>(h.a j x e).same s,h.nd,h.nk,h.nb,h.ne,h.fk,h.fb,h.fl,h.s.trans s⟩
theorem bx1 {ks:List KR}(hn:(ks.map (·.l)).Nodup) {i j:Nat}{x y:KR}(h1:ks[i]?=some x) (h2:ks[j]?=some y) (h:i≠j):x.l≠y.l:=by
 intro z
 have e1:(ks.map (·.l))[i]?=some x.l:=by rw [List.getElem?_map,h1]; rfl
 have e2:(ks.map (·.l))[j]?=some x.l:=by rw [List.getElem?_map,h2,z]; rfl
 obtain ⟨a1,a2⟩:=List.getElem?_eq_some_iff.mp e1
 obtain ⟨b1,b2⟩:=List.getElem?_eq_some_iff.mp e2
 exact h ((List.getElem_inj (h₀:=a1) (h₁:=b1) hn).mp (a2.trans b2.symm))
theorem KeepI.put {C:Addr}{H0 H:Hp}{kl bd:Addr}{ks:List KR}{bvs:List V}{n:Nat}{x:KR}{us:List V}{v:V}{k:KS}(h:KeepI C H0 H kl bd ks bvs) (e:ks[n]?=some x) (hl:H x.l=some (.lst us)) (hu:Tr.Ats H (x.st.map KS.tr) us []) (hk:k.tr.At H v []):KeepI C H0 (upd H x.l (.lst (us++[v]))) kl bd (ks.set n { x with st:=x.st++[k] }) bvs:=by
 have hm:=List.mem_of_getElem? e
 have hn:=(List.getElem?_eq_some_iff.mp e).1
 have hex:=(List.getElem?_eq_some_iff.mp e).2
 have mp:∀ {β:Type}(f:KR→β),f { x with st:=x.st++[k] }=f x→(ks.set n { x with st:=x.st++[k] }).map f=ks.map f:=fun f hf=>by
  apply List.ext_getElem?
  intro i
  rw [List.getElem?_map,List.getElem?_map,List.getElem?_set]
  split
  · rename_i hi
    subst hi
    rw [e]
    simp [hf]
  · rfl
 have mem:∀ y∈ks.set n { x with st:=x.st++[k] },∃ z∈ks,y.l=z.l:=fun y hy=>by
  rcases List.mem_or_eq_of_mem_set hy with z | z
  · exact ⟨y,z,rfl⟩
  · exact ⟨x,hm,by rw [z]⟩
 refine ⟨by rw [a14 (h.nk x hm).symm,mp _ rfl]; exact h.k,by rw [a14 (h.nb x hm).symm]; exact h.b,by rw [mp _ rfl]; exact h.e,fun j y hy=>?_,by rw [mp _ rfl]; exact h.nd,fun y hy=>?_,fun y hy=>?_,h.ne,h.fk,h.fb,fun y hy=>?_,h.s.updNew (h.fl x hm)⟩
 · by_cases hj:n=j
   · subst hj
     rw [List.getElem?_set,if_pos rfl,if_pos hn] at hy
     obtain rfl:=Option.some.inj hy
     obtain ⟨dx,bv,us',h1,h2,h3,h4⟩:=h.a n x e
     have ho:x.o≠x.l:=fun z=>by rw [z,hl] at h1; cases h1
     refine ⟨dx,bv,us++[v],by show upd H x.l _ x.o=_; rw [a14 ho]; exact h1,h2.tups (Tups.upd hl),a19,?_⟩
     rw [List.map_append]
     exact (hu.mono (Keep.upd hl (by simp))).snoc (hk.mono (Keep.upd hl (by simp)))
   · rw [List.getElem?_set,if_neg hj] at hy
     exact (h.a j y hy).upd hl (bx1 h.nd hy e fun z=>hj z.symm)
 · obtain ⟨z,hz,e1⟩:=mem y hy
   rw [e1]
   exact h.nk z hz
 · obtain ⟨z,hz,e1⟩:=mem y hy
   rw [e1]
   exact h.nb z hz
 · obtain ⟨z,hz,e1⟩:=mem y hy
   rw [e1]
   exact h.fl z hz
structure NewK (C:Addr) (Hc H:Hp) (zs:List KR) (B:List (List Stm)) (lp:Bool) (bh:Option Pl):Prop where
 q:zs.map (·.q)=B.map fun b=>(b,lp,bh)
 a:∀ (j:Nat) x,zs[j]?=some x→KrAt C H x
 st:∀ x∈zs,x.st=[]
 nd:(zs.map (·.l)).Nodup
 fl:∀ x∈zs,Hc x.l=none
 s:Same Hc H
theorem NewK.same {C:Addr}{Hc H H':Hp}{zs:List KR}{B:List (List Stm)}{lp:Bool}{bh:Option Pl}(h:NewK C Hc H zs B lp bh) (s:Same H H'):NewK C Hc H' zs B lp bh :=
 ⟨h.q,fun j x e=>(h.a j x e).same s,h.st,h.nd,h.fl,h.s.trans s⟩
theorem NewK.snoc {C:Addr}{Hc H H':Hp}{zs:List KR}{B:List (List Stm)}{lp:Bool}{bh:Option Pl}{b:List Stm}{o l dx:Addr}{bv:V}(h:NewK C Hc H zs B lp bh) (s:Same H H') (fl:H l=none) (e1:H' o=some (.ins C dx (kbS (.bl lp) bv (.ref l)))) (e2:PlO H' bv bh) (e3:H' l=some (.lst [])):NewK C Hc H' (zs++[⟨o,l,(b,lp,bh),[]⟩]) (B++[b]) lp bh:=by
 refine ⟨by simp [h.q],fun j x e=>?_,fun x hx=>?_,?_,fun x hx=>?_,h.s.trans s⟩
 · rcases Nat.lt_or_ge j zs.length with hj | hj
   · rw [List.getElem?_append_left hj] at e
     exact (h.a j x e).same s
   · rw [List.getElem?_append_right hj] at e
     have:=(List.getElem?_eq_some_iff.mp e).1
     simp only [List.length_cons,List.length_nil] at this
     rw [show j - zs.length=0 by omega] at e
     obtain rfl:=Option.some.inj e
     exact ⟨dx,bv,[],e1,e2,e3,by simp [Tr.Ats]⟩
 · rcases List.mem_append.mp hx with z | z
   · exact h.st x z
   · rw [List.mem_singleton.mp z]
 · rw [List.map_append,List.nodup_append]
   refine ⟨h.nd,by simp,fun a ha b' hb=>?_⟩
   obtain ⟨x,hx,rfl⟩:=List.mem_map.mp ha
   obtain ⟨j,hj⟩:=List.mem_iff_getElem?.mp hx
   obtain ⟨_,_,us,_,_,h3,_⟩:=h.a j x hj
   simp only [List.map_cons,List.map_nil,List.mem_singleton] at hb
   intro z
   rw [z,hb,fl] at h3
   cases h3
 · rcases List.mem_append.mp hx with z | z
   · exact h.fl x z
   · rw [List.mem_singleton.mp z]
     exact h.s.free fl
theorem KeepI.app {C:Addr}{H0 H H':Hp}{kl bd:Addr}{ks:List KR}{bvs bv':List V}{zs:List KR}{B:List (List Stm)}{lp:Bool}{bh:Option Pl}(h:KeepI C H0 H kl bd ks bvs) (hb:Each (BAt H0) bv' B) (z:NewK C (upd H bd (.lst (bvs++bv'))) H' zs B lp bh):KeepI C H0 (upd H' kl (.lst ((ks++zs).map fun x=>V.ref x.o))) kl bd (ks++zs) (bvs++bv'):=by
 have ekl:upd H bd (.lst (bvs++bv')) kl=some (.lst (ks.map fun x=>V.ref x.o)):=by rw [a14 h.ne]; exact h.k
 have hkl:=z.s _ _ ekl
 have ebd:upd H bd (.lst (bvs++bv')) bd=some (.lst (bvs++bv')):=a19
 have hbd:=z.s _ _ ebd
 have ka:∀ (j:Nat) x,ks[j]?=some x→KrAt C (upd H' kl (.lst ((ks++zs).map fun x=>V.ref x.o))) x:=fun j x e=>by
  have hm:=List.mem_of_getElem? e
  exact (((h.a j x e).upd h.b (h.nb x hm)).same z.s).upd hkl (h.nk x hm)
 have zn:∀ x∈zs,x.l≠kl∧x.l≠bd∧∀ y∈ks,y.l≠x.l:=fun x hx=>by
  have hf:=z.fl x hx
  refine ⟨fun e=>?_,fun e=>?_,fun y hy e=>?_⟩
  · rw [e,ekl] at hf; cases hf
  · rw [e,ebd] at hf; cases hf
  · obtain ⟨j,hj⟩:=List.mem_iff_getElem?.mp hy
    obtain ⟨_,_,us,_,_,h3,_⟩:=(h.a j y hj).upd (vs:=bvs++bv') h.b (h.nb y hy)
    rw [e,hf] at h3
    cases h3
 refine ⟨a19,by rw [a14 h.ne.symm]; exact hbd,?_,fun j x e=>?_,?_,fun x hx=>?_,fun x hx=>?_,h.ne,h.fk,h.fb,fun x hx=>?_,?_⟩
 · rw [List.map_append,show zs.map (·.q.1)=B by have:=congrArg (List.map Prod.fst) z.q; simpa [List.map_map,Function.comp_def] using this]
   exact h.e.append hb
 · rcases Nat.lt_or_ge j ks.length with hj | hj
   · rw [List.getElem?_append_left hj] at e
     exact ka j x e
   · rw [List.getElem?_append_right hj] at e
     exact (z.a _ x e).upd hkl (zn x (List.mem_of_getElem? e)).1
 · rw [List.map_append,List.nodup_append]
   refine ⟨h.nd,z.nd,fun a ha b hb'=>?_⟩
   obtain ⟨x,hx,rfl⟩:=List.mem_map.mp ha
   obtain ⟨y,hy,rfl⟩:=List.mem_map.mp hb'
   exact (zn y hy).2.2 x hx
 · rcases List.mem_append.mp hx with e | e
   · exact h.nk x e
   · exact (zn x e).1
 · rcases List.mem_append.mp hx with e | e
   · exact h.nb x e
   · exact (zn x e).2.1
 · rcases List.mem_append.mp hx with e | e
   · exact h.fl x e
   · exact (h.s.updNew h.fb).free (z.fl x e)
 · exact ((h.s.updNew h.fb).trans z.s).updNew h.fk
end L2
local macro_rules | `(tactic| walk_at "side") => `(tactic| first | exact ⟨by decide, by decide, by decide⟩ | exact ⟨by decide, by decide⟩ | exact .inr (.inr ⟨by decide, by decide⟩) | exact .inr (.inl ⟨by decide, by decide⟩) | decide | omega | exact L2.le_line (by simp only [List.length_cons, List.length_nil]; omega))
local macro_rules | `(tactic| walk_at "o") => `(tactic| first | exact Or.inl rfl | exact Or.inr rfl)
local macro_rules | `(tactic| walk_at "step") => do
  let mut acc ← `(tactic| ((with_reducible refine L2.i_rgA ?k ?l ?_); (case k => walk_at "side"); (case l => walk_at "side")))
  for s in ("i_rI af8 be9 c10 i_c i_op i_un i_rU c11 bi5 c12 c13 c14 bt0 i_bl c15 i_if c16 bt1 bt2 bt3 bt4 c17 i_cb bt5 c18 c19 c20 bt7 c21 i_or bt8 c22 bt9 c23 i_lc bu1 bi6 bu2 bj3 c32 c33 c34 c24 c25 i_sx i_bm i_sl b96 bu3 c26 c27 c28 bu4 bu5 bu7 bi7 bu6 bi8 c29 c30 c36 bv3 bv0 bv1 c37 bv7 bv8 bv9 bj8 bt6 bf0".splitOn " ").reverse do
    let n := Lean.mkIdent (Lean.Name.str `L2 s)
    if s == "i_rI" || s == "af8" || s == "bt6" then acc ← `(tactic| first | ((with_reducible refine $n ?k ?_); (case k => walk_at "side")) | $acc:tactic)
    else if s == "be9" then acc ← `(tactic| first | ((with_reducible refine $n ?_); intro _ _) | $acc:tactic)
    else if s == "bf0" then acc ← `(tactic| first | ((with_reducible refine' $n ?k ?_); (case k => assumption)) | $acc:tactic)
    else acc ← `(tactic| first | with_reducible refine $n ?_ | $acc:tactic)
  `(tactic| first | ((with_reducible refine L2.i_name ?_); dsimp only [List.set_cons_zero, List.set_cons_succ]) | ((with_reducible refine' L2.i_var ?k ?_); (case k => rfl)) | $acc:tactic)
local macro_rules | `(tactic| walk_at "run") => `(tactic| (repeat walk_at "step"))
local macro_rules | `(tactic| walk_at "go") => do
  let ids := (("L2.start List.map_cons List.map_nil List.length_cons List.length_nil List.replicate List.cons_append List.nil_append Nat.reduceSub Nat.reduceAdd L2.nox_K L2.wish_K L2.cxOf_K L2.cxC_K".splitOn " ").map fun s => Lean.mkIdent s.toName).toArray
  `(tactic| (simp only [$[$ids:term],*]; walk_at "run"))
namespace K22
open PySem L2
theorem sc_bodies_of:FnScope ["statement","kind"] ["statement"] (a08 ac5):=⟨rfl,rfl,rfl,by decide +kernel,rfl,by decide +kernel,by decide +kernel⟩
theorem aq5:FnScope ["line","word"] ["line","word"] (a08 ag5):=⟨rfl,rfl,rfl,by decide +kernel,rfl,by decide +kernel,by decide +kernel⟩
theorem sc_value_of_box:FnScope ["name","boxes","values","names"] ["name","boxes","values"] (a08 a72):=⟨rfl,rfl,rfl,by decide +kernel,rfl,by decide +kernel,by decide +kernel⟩
theorem sc_worth:FnScope ["expression","boxes","values","kind","one","other"] ["expression","boxes","values"] (a08 b17):=⟨rfl,rfl,rfl,by decide +kernel,rfl,by decide +kernel,by decide +kernel⟩
theorem sc_holds:FnScope ["condition","boxes","values","kind","one","other"] ["condition","boxes","values"] (a08 b18):=⟨rfl,rfl,rfl,by decide +kernel,rfl,by decide +kernel,by decide +kernel⟩
theorem sc_run:FnScope ["machine","events","told","sayings","event"] ["machine","events"] (a08 bq9):=⟨rfl,rfl,rfl,by decide +kernel,rfl,by decide +kernel,by decide +kernel⟩
theorem ah9:FnScope ["boxes"] ["boxes"] (a08 a73):=⟨rfl,rfl,rfl,by decide +kernel,rfl,by decide +kernel,by decide +kernel⟩
theorem sc_values_put:FnScope ["boxes","values","name","expression","number"] ["boxes","values","name","expression"] (a08 aa2):=⟨rfl,rfl,rfl,by decide +kernel,rfl,by decide +kernel,by decide +kernel⟩
theorem aq6:FnScope ["thing"] ["thing"] (a08 ag6):=⟨rfl,rfl,rfl,by decide +kernel,rfl,by decide +kernel,by decide +kernel⟩
theorem sc_rested_on:FnScope ["standing","left"] ["standing"] (a08 ag7):=⟨rfl,rfl,rfl,by decide +kernel,rfl,by decide +kernel,by decide +kernel⟩
theorem sc_way_of_pattern:FnScope ["branches","pattern","own","way"] ["branches","pattern"] (a08 a94):=⟨rfl,rfl,rfl,by decide +kernel,rfl,by decide +kernel,by decide +kernel⟩
theorem sc_way_of_event:FnScope ["branches","event","way"] ["branches","event"] (a08 ab8):=⟨rfl,rfl,rfl,by decide +kernel,rfl,by decide +kernel,by decide +kernel⟩
theorem sc_stepped:FnScope ["machine","wait","standing","event","way","rest"] ["machine","wait","standing","event"] (a08 ao8):=⟨rfl,rfl,rfl,by decide +kernel,rfl,by decide +kernel,by decide +kernel⟩
theorem ab6:FnScope ["self","loops","behind"] ["self","loops","behind"] (a08 a66):=⟨rfl,rfl,rfl,by decide +kernel,rfl,by decide +kernel,by decide +kernel⟩
theorem sc_kept_bodies:FnScope ["talks","names","bodies","kept","number","body","place","statement","behind","inner"] ["talks"] (a08 a44):=⟨rfl,rfl,rfl,by decide +kernel,rfl,by decide +kernel,by decide +kernel⟩
theorem sc_kept_statement:FnScope ["statement","behind","number","names","kind"] ["statement","behind","number","names"] (a08 a95):=⟨rfl,rfl,rfl,by decide +kernel,rfl,by decide +kernel,by decide +kernel⟩
theorem sc_kept_wait:FnScope ["statement","behind","number","patterns","branches","none"] ["statement","behind","number"] (a08 a85):=⟨rfl,rfl,rfl,by decide +kernel,rfl,by decide +kernel,by decide +kernel⟩
theorem ad3:FnScope ["self","script"] ["self","script"] (a08 a76):=⟨rfl,rfl,rfl,by decide +kernel,rfl,by decide +kernel,by decide +kernel⟩
theorem ai0:FnScope ["self"] ["self"] (a08 ab9):=⟨rfl,rfl,rfl,by decide +kernel,rfl,by decide +kernel,by decide +kernel⟩
theorem ai8:FnScope ["self","standing","event"] ["self","standing","event"] (a08 ac9):=⟨rfl,rfl,rfl,by decide +kernel,rfl,by decide +kernel,by decide +kernel⟩
theorem a98:FnScope ["self","place"] ["self","place"] (a08 a59):=⟨rfl,rfl,rfl,by decide +kernel,rfl,by decide +kernel,by decide +kernel⟩
theorem sc_Teller_settled:FnScope ["self","place","body"] ["self","place"] (a08 a96):=⟨rfl,rfl,rfl,by decide +kernel,rfl,by decide +kernel,by decide +kernel⟩
theorem sc_Teller_gone_on:FnScope ["self","place","stack","values","said","statement","kind"] ["self","place","stack","values"] (a08 a97):=⟨rfl,rfl,rfl,by decide +kernel,rfl,by decide +kernel,by decide +kernel⟩
theorem sc_Teller_stack_behind:FnScope ["self","place","stack","behind"] ["self","place","stack"] (a08 a60):=⟨rfl,rfl,rfl,by decide +kernel,rfl,by decide +kernel,by decide +kernel⟩
theorem sc_Teller_way_on:FnScope ["self","place","statement","values","kind"] ["self","place","statement","values"] (a08 aa3):=⟨rfl,rfl,rfl,by decide +kernel,rfl,by decide +kernel,by decide +kernel⟩
theorem sc_Teller_loop_around:FnScope ["self","place","number"] ["self","place"] (a08 a63):=⟨rfl,rfl,rfl,by decide +kernel,rfl,by decide +kernel,by decide +kernel⟩
theorem ai1:FnScope ["place"] ["place"] (a08 ac0):=⟨rfl,rfl,rfl,by decide +kernel,rfl,by decide +kernel,by decide +kernel⟩
theorem at9:FnScope ["script","k"] ["script","k"] (a08 aj5):=⟨rfl,rfl,rfl,by decide +kernel,rfl,by decide +kernel,by decide +kernel⟩
theorem sc_law_stir:FnScope ["cell","k","number"] ["cell","k"] (a08 aj6):=⟨rfl,rfl,rfl,by decide +kernel,rfl,by decide +kernel,by decide +kernel⟩
theorem sc_law_drawn:FnScope ["cell","sizes","found","rest","k","size"] ["cell","sizes"] (a08 ag8):=⟨rfl,rfl,rfl,by decide +kernel,rfl,by decide +kernel,by decide +kernel⟩
theorem sc_law_script:FnScope ["script","d","limit","size","many","word","none","start","spoken","said","menu","rows","k","way","line","handed","branches","pattern","statement","body"] ["script"] (a08 aa4):=⟨rfl,rfl,rfl,by decide +kernel,rfl,by decide +kernel,by decide +kernel⟩
theorem sc_law_event:FnScope ["cell","rows","way","key","at","some"] ["cell","rows"] (a08 ac6):=⟨rfl,rfl,rfl,by decide +kernel,rfl,by decide +kernel,by decide +kernel⟩
theorem sc_law_row:FnScope ["rows","pattern","row"] ["rows","pattern"] (a08 ao9):=⟨rfl,rfl,rfl,by decide +kernel,rfl,by decide +kernel,by decide +kernel⟩
theorem sc_law_turn:FnScope ["rows","limit","left","event","row"] ["rows","limit","left","event"] (a08 aj7):=⟨rfl,rfl,rfl,by decide +kernel,rfl,by decide +kernel,by decide +kernel⟩
theorem sc_law:FnScope ["script","rows","limit","size","made","events","due","gone","left","over","event","said","way","more"] ["script"] (a08 bh2):=⟨rfl,rfl,rfl,by decide +kernel,rfl,by decide +kernel,by decide +kernel⟩
theorem Txt.d_QUIET {K:PySem.W.Frag}{mg:Str→Option Value}{t:Adr}(T:Txt K mg t):TupK K t.ad_QUIET [.str "quiet"]:=by obtain ⟨_,its,nn,_,h1,h2,h3⟩:=T.dd_QUIET; exact ⟨_,its,nn,h1,rfl,rfl,h2,h3⟩
theorem Txt.d_OTHER {K:PySem.W.Frag}{mg:Str→Option Value}{t:Adr}(T:Txt K mg t):TupK K t.ad_OTHER [.str "other"]:=by obtain ⟨_,its,nn,_,h1,h2,h3⟩:=T.dd_OTHER; exact ⟨_,its,nn,h1,rfl,rfl,h2,h3⟩
theorem Txt.d_NONE {K:PySem.W.Frag}{mg:Str→Option Value}{t:Adr}(T:Txt K mg t):TupK K t.ad_NONE [.str "none"]:=by obtain ⟨_,its,nn,_,h1,h2,h3⟩:=T.dd_NONE; exact ⟨_,its,nn,h1,rfl,rfl,h2,h3⟩
section
variable {P:Program}{w:World}{K:PySem.W.Frag}{mg:Str→Option Value}{base:Heap}{t:Adr}
def bx2 (K:PySem.W.Frag):Sp:=fun vs H Q _=>∃ (n:Str) (bx vl:Addr) (xs:List V) (ns:List Str) (ws:List Int),vs=[.str n,.ref bx,.ref vl]∧SqL K H bx xs∧Boxes H xs ns∧SqT K H vl (ws.map V.int)∧ns.length≤ws.length∧ns.length≤1000∧n∈ns∧∀ H',Same H H'→Q (.int (bval ns ws n)) H'
theorem ai2 (T:Txt K mg t):FnOk P w K mg base CX0 1 t.a_value_of_box t.fd_value_of_box ["name","boxes","values"] (bx2 K):=by
 refine T.f_value_of_box.F.ok sc_value_of_box (fun vs H Q E h=>?_) (fun cdv A outer s H vs Q E hr h=>?_)
 · obtain ⟨n,bx,vl,xs,ns,ws,rfl,_⟩:=h
   rfl
 · obtain ⟨n,bx,vl,xs,ns,ws,rfl,hb,hB,hv,hl,hl2,hn,q⟩:=h
   refine ⟨_,(@a01 _ _ _ _ _ (as8 (i:=3) (Nt:=["box"]) (Nf:=[]) (caps:=[]) rfl (a56 (sc:=a08 a72) rfl rfl (by decide +kernel) (by decide +kernel) (by decide +kernel) rfl (by decide +kernel)) (a40 K (pv 1)) (fun _ _ _ _ _=>(a17 (i:=0) (show (["box"]:List Str).Nodup by decide +kernel) rfl (by walk_at "o"))) (fun _ _ _ _ _=>(@a67 _)) (fun _ _ _ _ _=>(@a22 _ _ _ _ _ _ _ (a07 K) (pv 0) (@a03 _ _ _ _) (fun _ _=>rfl))) sc_value_of_box.nd rfl (by walk_at "o") rfl)
    (@a04 _ _ _ (@a16 _ _ _ _ (@a22 _ _ _ _ _ _ _ (a07 K) (pv 2) (@a64 _ K _ _ _ _ _ _ _ _ _ _ _ PySem.F.plainAttrs_list PySem.F.slot_list_index PySem.F.type_list_index (ap8 K) (pv 3) (@a00 _ _ _ _ _ (pv 0) (@a02 _) (by rfl)) (by rfl) (by rfl) (by rfl) (by rfl) (by rfl) (by rfl)) (fun _ _=>rfl))))),?_⟩
   walk_at "go"
   refine ⟨⟨_,hb⟩,a90 (xs:=xs) (le_line (by rw [hB.len]; omega)) (fun i acc H2=>H2=H∧i≤xs.length∧acc=a31 (ns.take i)) ⟨rfl,Nat.zero_le _,rfl⟩ (fun i acc H2 ⟨e0,hi,e⟩=>⟨?_,e0 ▸ hb⟩) ?_ ?_⟩
   · subst e
     simp only [a31,List.length_map,List.length_take]
     omega
   · rintro i x acc H2 hx ⟨rfl,hi,rfl⟩
     obtain ⟨p,m,z,rfl,hm,hp⟩:=hB.get i x hx
     have hi':i<xs.length:=(List.getElem?_eq_some_iff.mp hx).1
     walk_at "run"
     refine a27 (SqT.of hp) (a05 (j:=0) rfl) ?_
     exact ⟨rfl,hi',ay7 hm⟩
   · rintro acc H2 ⟨rfl,_,rfl⟩ l H3 f3 s3 e3
     walk_at "run"
     rw [hB.len,List.take_length] at e3
     refine ab4 (SqL.of e3) ?_
     walk_at "run"
     obtain ⟨j,h1,h2,h3⟩:=b29 hn hl
     refine b28 (SqL.of e3) h1 h2 ?_
     refine a27 (s3.seqT hv) (bj0 h3) ?_
     exact q _ s3
def bb2 (K:PySem.W.Frag) (d:Nat):Sp:=fun vs H Q _=>∃ (v:V) (e:Ex) (bx vl:Addr) (xs:List V) (ns:List Str) (ws:List Int),vs=[v,.ref bx,.ref vl]∧e.At H v∧e.h<d∧e.ok ns∧SqL K H bx xs∧Boxes H xs ns∧SqT K H vl (ws.map V.int)∧ns.length≤ws.length∧ns.length≤1000 ∧
 ∀ H',Same H H'→Q (.int (e.ev ns ws)) H'
theorem aw0 (T:Txt K mg t):∀ d:Nat,FnOk P w K mg base CX0 (d+2) t.a_worth t.fd_worth ["expression","boxes","values"] (bb2 K d):=by
 intro d
 induction d with
 | zero=>exact vac (fun vs H Q E ⟨_,_,_,_,_,_,_,_,_,h,_⟩=>Nat.not_lt_zero _ h)
 | succ d G_worth =>
   have G_value_of_box:=ai2 (P:=P) (w:=w) (base:=base) T
   refine T.f_worth.F.ok sc_worth (fun vs H Q E h=>?_) (fun cdv A outer s H vs Q E hr h=>?_)
   · obtain ⟨v,e,bx,vl,xs,ns,ws,rfl,_⟩:=h
     rfl
   · obtain ⟨v,e,bx,vl,xs,ns,ws,rfl,he,hh,ho,hb,hB,hv,hl,hl2,q⟩:=h
     refine ⟨_,(@a01 _ _ _ _ _ (@a18 _ _ 3 _ _ _ _ sc_worth.nd rfl (by walk_at "o") (@a22 _ _ _ _ _ _ _ (a07 K) (pv 0) (@a03 _ _ _ _) (fun _ _=>rfl)) (by rfl) (by walk_at "o"))
     (@a01 _ _ _ _ _ (@a36 _ _ _ _ _ _ _ _ (@a12 _ _ _ _ _ _ _ _ a41 (pv 3) (@a06 _ _ _ _) (nomark _)) (@a04 _ _ _ (@a16 _ _ _ _ (@a22 _ _ _ _ _ _ _ (a07 K) (pv 0) (@a03 _ _ _ _) (fun _ _=>rfl)))) (@a20 _))
     (@a01 _ _ _ _ _ (@a36 _ _ _ _ _ _ _ _ (@a12 _ _ _ _ _ _ _ _ a41 (pv 3) (@a06 _ _ _ _) (nomark _)) (@a04 _ _ _ (@a16 _ _ _ _ (@a26 _ _ _ _ _ _ _ _ _ _ _ _ _ _ _ _ G_value_of_box (hr.mono (by omega)) rfl T.f_value_of_box.m T.f_value_of_box.F.kp T.f_value_of_box.b .nil a30 (@a00 _ _ _ _ _ (@a22 _ _ _ _ _ _ _ (a07 K) (pv 0) (@a03 _ _ _ _) (fun _ _=>rfl)) (@a00 _ _ _ _ _ (pv 1) (@a00 _ _ _ _ _ (pv 2) (@a02 _) (by rfl)) (by rfl)) (by rfl)) (by decide) (by rfl) (by rfl)))) (@a20 _))
     (@a01 _ _ _ _ _ (@a18 _ _ 4 _ _ _ _ sc_worth.nd rfl (by walk_at "o") (@a26 _ _ _ _ _ _ _ _ _ _ _ _ _ _ _ _ G_worth (hr.mono (by omega)) rfl T.f_worth.m T.f_worth.F.kp T.f_worth.b .nil a30 (@a00 _ _ _ _ _ (@a22 _ _ _ _ _ _ _ (a07 K) (pv 0) (@a03 _ _ _ _) (fun _ _=>rfl)) (@a00 _ _ _ _ _ (pv 1) (@a00 _ _ _ _ _ (pv 2) (@a02 _) (by rfl)) (by rfl)) (by rfl)) (by decide) (by rfl) (by rfl)) (by rfl) (by walk_at "o"))
     (@a01 _ _ _ _ _ (@a18 _ _ 5 _ _ _ _ sc_worth.nd rfl (by walk_at "o") (@a26 _ _ _ _ _ _ _ _ _ _ _ _ _ _ _ _ G_worth (hr.mono (by omega)) rfl T.f_worth.m T.f_worth.F.kp T.f_worth.b .nil a30 (@a00 _ _ _ _ _ (@a22 _ _ _ _ _ _ _ (a07 K) (pv 0) (@a03 _ _ _ _) (fun _ _=>rfl)) (@a00 _ _ _ _ _ (pv 1) (@a00 _ _ _ _ _ (pv 2) (@a02 _) (by rfl)) (by rfl)) (by rfl)) (by decide) (by rfl) (by rfl)) (by rfl) (by walk_at "o"))
     (@a01 _ _ _ _ _ (@a36 _ _ _ _ _ _ _ _ (@a12 _ _ _ _ _ _ _ _ a41 (pv 3) (@a06 _ _ _ _) (nomark _)) (@a04 _ _ _ (@a16 _ _ _ _ (@a34 _ _ _ _ _ _ _ _ a37 (pv 4) (pv 5)))) (@a20 _))
     (@a04 _ _ _ (@a16 _ _ _ _ (@a34 _ _ _ _ _ _ _ _ b01 (pv 4) (pv 5)))))))))),?_⟩
     walk_at "go"
     cases e with
     | num i =>
       obtain ⟨a,rfl,ha⟩:=he
       refine a27 (SqT.of ha) (a05 (j:=0) rfl) ?_
       walk_at "run"
       refine a25 rfl ?_
       walk_at "run"
       refine a27 (SqT.of ha) (a05 (j:=1) rfl) ?_
       exact q _ (Same.refl _)
     | box n =>
       obtain ⟨a,rfl,ha⟩:=he
       refine a27 (SqT.of ha) (a05 (j:=0) rfl) ?_
       walk_at "run"
       refine a24 (by decide +kernel) ?_
       walk_at "run"
       refine a25 rfl ?_
       walk_at "run"
       refine a27 (SqT.of ha) (a05 (j:=1) rfl) ?_
       walk_at "run"
       exact ⟨n,bx,vl,xs,ns,ws,rfl,hb,hB,hv,hl,hl2,ho,q⟩
     | two k e f =>
       obtain ⟨a,x,y,rfl,ha,h1,h2⟩:=he
       simp only [Ex.h] at hh
       refine a27 (SqT.of ha) (a05 (j:=0) rfl) ?_
       walk_at "run"
       refine a24 (by cases k <;> decide +kernel) ?_
       walk_at "run"
       refine a24 (by cases k <;> decide +kernel) ?_
       walk_at "run"
       refine a27 (SqT.of ha) (a05 (j:=1) rfl) ?_
       walk_at "run"
       refine ⟨x,e,bx,vl,xs,ns,ws,rfl,h1,by omega,ho.1,hb,hB,hv,hl,hl2,fun H1 s1=>?_⟩
       walk_at "run"
       refine a27 (SqT.of (s1 _ _ ha)) (a05 (j:=2) rfl) ?_
       walk_at "run"
       refine ⟨y,f,bx,vl,xs,ns,ws,rfl,h2.mono s1.tups,by omega,ho.2,s1.seq hb,hB.mono s1.tups,s1.seqT hv,hl,hl2,fun H2 s2=>?_⟩
       walk_at "run"
       have:=q H2 (s1.trans s2)
       cases k with
       | true =>
         refine a25 rfl ?_
         walk_at "run"
         exact this
       | false =>
         refine a24 (by decide +kernel) ?_
         walk_at "run"
         exact this
def bb3 (K:PySem.W.Frag) (d:Nat):Sp:=fun vs H Q _=>∃ (v:V) (c:Cd) (bx vl:Addr) (xs:List V) (ns:List Str) (ws:List Int),vs=[v,.ref bx,.ref vl]∧c.At H v∧c.h<d∧c.ok ns 5∧SqL K H bx xs∧Boxes H xs ns∧SqT K H vl (ws.map V.int)∧ns.length≤ws.length∧ns.length≤1000 ∧
 ∀ H',Same H H'→Q (.bl (c.ev ns ws)) H'
theorem bb4 (T:Txt K mg t):∀ d:Nat,FnOk P w K mg base CX0 (d+10) t.a_holds t.fd_holds ["condition","boxes","values"] (bb3 K d):=by
 intro d
 induction d with
 | zero=>exact vac (fun vs H Q E ⟨_,_,_,_,_,_,_,_,_,h,_⟩=>Nat.not_lt_zero _ h)
 | succ d G_holds =>
   have G_worth:=aw0 (P:=P) (w:=w) (base:=base) T
   refine T.f_holds.F.ok sc_holds (fun vs H Q E h=>?_) (fun cdv A outer s H vs Q E hr h=>?_)
   · obtain ⟨v,c,bx,vl,xs,ns,ws,rfl,_⟩:=h
     rfl
   · obtain ⟨v,c,bx,vl,xs,ns,ws,rfl,he,hh,ho,hb,hB,hv,hl,hl2,q⟩:=h
     have G_worth:=G_worth 7
     refine ⟨_,(@a01 _ _ _ _ _ (@a18 _ _ 3 _ _ _ _ sc_holds.nd rfl (by walk_at "o") (@a22 _ _ _ _ _ _ _ (a07 K) (pv 0) (@a03 _ _ _ _) (fun _ _=>rfl)) (by rfl) (by walk_at "o"))
     (@a01 _ _ _ _ _ (@a36 _ _ _ _ _ _ _ _ (@a12 _ _ _ _ _ _ _ _ a41 (pv 3) (@a06 _ _ _ _) (nomark _)) (@a04 _ _ _ (@a16 _ _ _ _ (@bo3 _ _ _ _ (@a26 _ _ _ _ _ _ _ _ _ _ _ _ _ _ _ _ G_holds (hr.mono (by omega)) rfl T.f_holds.m T.f_holds.F.kp T.f_holds.b .nil a30 (@a00 _ _ _ _ _ (@a22 _ _ _ _ _ _ _ (a07 K) (pv 0) (@a03 _ _ _ _) (fun _ _=>rfl)) (@a00 _ _ _ _ _ (pv 1) (@a00 _ _ _ _ _ (pv 2) (@a02 _) (by rfl)) (by rfl)) (by rfl)) (by decide) (by rfl) (by rfl))))) (@a20 _))
     (@a01 _ _ _ _ _ (@a36 _ _ _ _ _ _ _ _ (@a12 _ _ _ _ _ _ _ _ a41 (pv 3) (@a06 _ _ _ _) (nomark _)) (@a04 _ _ _ (@a16 _ _ _ _ (@bo2 _ _ _ _ _ _ _ (@a26 _ _ _ _ _ _ _ _ _ _ _ _ _ _ _ _ G_holds (hr.mono (by omega)) rfl T.f_holds.m T.f_holds.F.kp T.f_holds.b .nil a30 (@a00 _ _ _ _ _ (@a22 _ _ _ _ _ _ _ (a07 K) (pv 0) (@a03 _ _ _ _) (fun _ _=>rfl)) (@a00 _ _ _ _ _ (pv 1) (@a00 _ _ _ _ _ (pv 2) (@a02 _) (by rfl)) (by rfl)) (by rfl)) (by decide) (by rfl) (by rfl)) (@bd0 _ _ _ _ _ (@a26 _ _ _ _ _ _ _ _ _ _ _ _ _ _ _ _ G_holds (hr.mono (by omega)) rfl T.f_holds.m T.f_holds.F.kp T.f_holds.b .nil a30 (@a00 _ _ _ _ _ (@a22 _ _ _ _ _ _ _ (a07 K) (pv 0) (@a03 _ _ _ _) (fun _ _=>rfl)) (@a00 _ _ _ _ _ (pv 1) (@a00 _ _ _ _ _ (pv 2) (@a02 _) (by rfl)) (by rfl)) (by rfl)) (by decide) (by rfl) (by rfl)))))) (@a20 _))
     (@a01 _ _ _ _ _ (@a18 _ _ 4 _ _ _ _ sc_holds.nd rfl (by walk_at "o") (@a26 _ _ _ _ _ _ _ _ _ _ _ _ _ _ _ _ G_worth (hr.mono (by omega)) rfl T.f_worth.m T.f_worth.F.kp T.f_worth.b .nil a30 (@a00 _ _ _ _ _ (@a22 _ _ _ _ _ _ _ (a07 K) (pv 0) (@a03 _ _ _ _) (fun _ _=>rfl)) (@a00 _ _ _ _ _ (pv 1) (@a00 _ _ _ _ _ (pv 2) (@a02 _) (by rfl)) (by rfl)) (by rfl)) (by decide) (by rfl) (by rfl)) (by rfl) (by walk_at "o"))
     (@a01 _ _ _ _ _ (@a18 _ _ 5 _ _ _ _ sc_holds.nd rfl (by walk_at "o") (@a26 _ _ _ _ _ _ _ _ _ _ _ _ _ _ _ _ G_worth (hr.mono (by omega)) rfl T.f_worth.m T.f_worth.F.kp T.f_worth.b .nil a30 (@a00 _ _ _ _ _ (@a22 _ _ _ _ _ _ _ (a07 K) (pv 0) (@a03 _ _ _ _) (fun _ _=>rfl)) (@a00 _ _ _ _ _ (pv 1) (@a00 _ _ _ _ _ (pv 2) (@a02 _) (by rfl)) (by rfl)) (by rfl)) (by decide) (by rfl) (by rfl)) (by rfl) (by walk_at "o"))
     (@a01 _ _ _ _ _ (@a36 _ _ _ _ _ _ _ _ (@a12 _ _ _ _ _ _ _ _ a41 (pv 3) (@a06 _ _ _ _) (nomark _)) (@a04 _ _ _ (@a16 _ _ _ _ (@ad6 _ _ _ _ _ _ _ _ a41 (pv 4) (pv 5) (nomark _)))) (@a20 _))
     (@a04 _ _ _ (@a16 _ _ _ _ (@ad6 _ _ _ _ _ _ _ _ ax3 (pv 4) (pv 5) (nomark _)))))))))),?_⟩
     walk_at "go"
     cases c with
     | nt c =>
       obtain ⟨a,x,rfl,ha,h1⟩:=he
       simp only [Cd.h] at hh
       refine a27 (SqT.of ha) (a05 (j:=0) rfl) ?_
       walk_at "run"
       refine a25 rfl ?_
       walk_at "run"
       refine a27 (SqT.of ha) (a05 (j:=1) rfl) ?_
       walk_at "run"
       refine ⟨x,c,bx,vl,xs,ns,ws,rfl,h1,by omega,ho,hb,hB,hv,hl,hl2,fun H1 s1=>?_⟩
       walk_at "run"
       exact q H1 s1
     | both c d' =>
       obtain ⟨a,x,y,rfl,ha,h1,h2⟩:=he
       simp only [Cd.h] at hh
       refine a27 (SqT.of ha) (a05 (j:=0) rfl) ?_
       walk_at "run"
       refine a24 (by decide +kernel) ?_
       walk_at "run"
       refine a25 rfl ?_
       walk_at "run"
       refine a27 (SqT.of ha) (a05 (j:=1) rfl) ?_
       walk_at "run"
       refine ⟨x,c,bx,vl,xs,ns,ws,rfl,h1,by omega,ho.1,hb,hB,hv,hl,hl2,fun H1 s1=>?_⟩
       walk_at "run"
       have qq:=fun H' s'=>q H' s'
       simp only [Cd.ev] at qq
       cases e:c.ev ns ws with
       | true =>
         rw [e] at qq
         refine iteT ?_
         walk_at "run"
         refine a27 (SqT.of (s1 _ _ ha)) (a05 (j:=2) rfl) ?_
         walk_at "run"
         refine ⟨y,d',bx,vl,xs,ns,ws,rfl,h2.mono s1.tups,by omega,ho.2,s1.seq hb,hB.mono s1.tups,s1.seqT hv,hl,hl2,fun H2 s2=>?_⟩
         exact qq H2 (s1.trans s2)
       | false =>
         rw [e] at qq
         refine iteF ?_
         exact qq H1 s1
     | cmp k e f =>
       obtain ⟨a,x,y,rfl,ha,h1,h2⟩:=he
       obtain ⟨⟨o1,o2⟩,o3,o4⟩:=ho
       refine a27 (SqT.of ha) (a05 (j:=0) rfl) ?_
       walk_at "run"
       refine a24 (by cases k <;> decide +kernel) ?_
       walk_at "run"
       refine a24 (by cases k <;> decide +kernel) ?_
       walk_at "run"
       refine a27 (SqT.of ha) (a05 (j:=1) rfl) ?_
       walk_at "run"
       refine ⟨x,e,bx,vl,xs,ns,ws,rfl,h1,by omega,o1,hb,hB,hv,hl,hl2,fun H1 s1=>?_⟩
       walk_at "run"
       refine a27 (SqT.of (s1 _ _ ha)) (a05 (j:=2) rfl) ?_
       walk_at "run"
       refine ⟨y,f,bx,vl,xs,ns,ws,rfl,h2.mono s1.tups,by omega,o3,s1.seq hb,hB.mono s1.tups,s1.seqT hv,hl,hl2,fun H2 s2=>?_⟩
       walk_at "run"
       have:=q H2 (s1.trans s2)
       cases k with
       | true =>
         refine a25 rfl ?_
         walk_at "run"
         exact this
       | false =>
         refine a24 (by decide +kernel) ?_
         walk_at "run"
         exact this
def bb5 (K:PySem.W.Frag):Sp:=fun vs H Q _=>∃ (a:Addr) (xs:List V),vs=[.ref a]∧H a=some (.lst xs)∧xs.length≤1000∧∀ p H',Same H H'→H' p=some (.tup ((List.replicate xs.length (0:Int)).map V.int))→Q (.ref p) H'
theorem ai3 (T:Txt K mg t):FnOk P w K mg base CX0 1 t.a_first_values t.fd_first_values ["boxes"] (bb5 K):=by
 refine T.f_first_values.F.ok ah9 (fun vs H Q E h=>?_) (fun cdv A outer s H vs Q E hr h=>?_)
 · obtain ⟨a,xs,rfl,_⟩:=h
   rfl
 · obtain ⟨a,xs,rfl,ha,hl,q⟩:=h
   refine ⟨_,(@a04 _ _ _ (@a16 _ _ _ _ (@a58 _ _ _ _ _ _ _ _ _ (ah0 K) (by rfl) T.z_tuple al3 (@a00 _ _ _ _ _ (ay4 (Nt:=["box"]) (Nf:=[]) (caps:=[]) rfl (a56 (sc:=a08 a73) rfl rfl (by decide +kernel) (by decide +kernel) (by decide +kernel) rfl (by decide +kernel)) (a40 K (pv 0)) (fun _ _ _ _ _=>(a17 (i:=0) (show (["box"]:List Str).Nodup by decide +kernel) rfl (by walk_at "o"))) (fun _ _ _ _ _=>(@a67 _)) (fun _ _ _ _ _=>(@a03 _ _ _ _))) (@a02 _) (by rfl)) (by decide) (by decide) (by rfl) (by rfl)))),?_⟩
   walk_at "go"
   refine ⟨⟨_,SqL.of ha⟩,a90 (xs:=xs) (le_line (by omega)) (fun i acc H2=>H2=H∧i≤xs.length∧acc=(List.replicate i (0:Int)).map V.int) ⟨rfl,Nat.zero_le _,rfl⟩ (fun i acc H2 ⟨e0,hi,e⟩=>⟨by rw [e]; simp,e0 ▸ SqL.of ha⟩) ?_ ?_⟩
   · rintro i x acc H2 hx ⟨rfl,hi,rfl⟩
     walk_at "run"
     exact ⟨rfl,(List.getElem?_eq_some_iff.mp hx).1,by rw [List.replicate_succ',List.map_append]; rfl⟩
   · rintro acc H2 ⟨rfl,_,rfl⟩ l H3 f3 s3 e3
     walk_at "run"
     refine al6 (SqL.of e3) ?_
     intro p H4 f4 s4 e4
     exact q p H4 (s3.trans s4) e4
def bk1 (K:PySem.W.Frag):Sp:=fun vs H Q _=>∃ (a va:Addr) (xs:List V) (bs:List (Str×Int)) (ws:List Int) (n:Str) (e:Ex) (v:V),vs=[.ref a,.ref va,.str n,v]∧H a=some (.lst xs)∧Each (BxAt H) xs bs∧(∀ b∈bs,0<b.2∧b.2<1000)∧bs.length≤100∧H va=some (.tup (ws.map V.int))∧ws.length=bs.length∧e.At H v∧e.h<8∧e.ok (bs.map (·.1)) ∧
 ∀ p H',Same H H'→H' p=some (.tup ((vput bs ws n (e.ev (bs.map (·.1)) ws)).map V.int))→Q (.ref p) H'
theorem bb6 {bs:List (Str×Int)}{ws:List Int}{n:Str}{k:Int}{i:Nat}{b:Str×Int}{w:Int}(h1:bs[i]?=some b) (h2:ws[i]?=some w):(vput bs ws n k)[i]?=some (if b.1=n then k % b.2 else w):=by
 unfold vput
 rw [List.getElem?_zipWith,h1,h2]
theorem aw1 {bs:List (Str×Int)}{ws:List Int}{n:Str}{k:Int}(h:ws.length=bs.length):(vput bs ws n k).length=bs.length:=by
 simp [vput,h]
theorem am2 (T:Txt K mg t):FnOk P w K mg base CX0 11 t.a_values_put t.fd_values_put ["boxes","values","name","expression"] (bk1 K):=by
 have G_worth:=aw0 (P:=P) (w:=w) (base:=base) T
 refine T.f_values_put.F.ok sc_values_put (fun vs H Q E h=>?_) (fun cdv A outer s H vs Q E hr h=>?_)
 · obtain ⟨a,va,xs,bs,ws,n,e,v,rfl,_⟩:=h
   rfl
 · obtain ⟨a,va,xs,bs,ws,n,e,v,rfl,ha,hb,hz,hl,hpv,hwl,he,hh,ho,q⟩:=h
   have G_worth:=G_worth 8
   refine ⟨_,(@a01 _ _ _ _ _ (@a18 _ _ 4 _ _ _ _ sc_values_put.nd rfl (by walk_at "o") (@a26 _ _ _ _ _ _ _ _ _ _ _ _ _ _ _ _ G_worth (hr.mono (by omega)) rfl T.f_worth.m T.f_worth.F.kp T.f_worth.b .nil a30 (@a00 _ _ _ _ _ (pv 3) (@a00 _ _ _ _ _ (pv 0) (@a00 _ _ _ _ _ (pv 1) (@a02 _) (by rfl)) (by rfl)) (by rfl)) (by decide) (by rfl) (by rfl)) (by rfl) (by walk_at "o"))
    (@a04 _ _ _ (@a16 _ _ _ _ (@a58 _ _ _ _ _ _ _ _ _ (ah0 K) (by rfl) T.z_tuple al3 (@a00 _ _ _ _ _ (ay4 (Nt:=["box","value"]) (Nf:=["name","number"]) (caps:=[2,4]) rfl (a56 (sc:=a08 aa2) rfl rfl (by decide +kernel) (by decide +kernel) (by decide +kernel) rfl (by decide +kernel)) (ba6 K rfl T.z_zip (@a00 _ _ _ _ _ (pv 0) (@a00 _ _ _ _ _ (pv 1) (@a02 _) (by rfl)) (by rfl))) (fun _ _ _ _ _=>(aa6 K (n:=2) rfl (a21 (a17 (i:=0) (show (["box","value","name","number"]:List Str).Nodup by decide +kernel) rfl (by walk_at "o")) (a21 (a17 (i:=1) (show (["box","value","name","number"]:List Str).Nodup by decide +kernel) rfl (by walk_at "o")) (@a50 _))))) (fun _ _ _ _ _=>(@a67 _)) (fun _ _ _ _ _=>(@af3 _ _ _ _ _ _ _ _ (@a12 _ _ _ _ _ _ _ _ a41 (@a22 _ _ _ _ _ _ _ (a07 K) (pv 0) (@a03 _ _ _ _) (fun _ _=>rfl)) (pv 2) (nomark _)) (@a34 _ _ _ _ _ _ _ _ a75 (pv 3) (@a22 _ _ _ _ _ _ _ (a07 K) (pv 0) (@a03 _ _ _ _) (fun _ _=>rfl))) (pv 1)))) (@a02 _) (by rfl)) (by decide) (by decide) (by rfl) (by rfl))))),?_⟩
   have hxl:xs.length=bs.length:=hb.1
   have hvl:=aw1 (n:=n) (k:=e.ev (bs.map (·.1)) ws) hwl
   walk_at "go"
   refine ⟨v,e,a,va,xs,bs.map (·.1),ws,rfl,he,hh,ho,SqL.of ha,am1 hb,SqT.of hpv,by simp [hwl],by simp; omega,fun H1 s1=>?_⟩
   walk_at "run"
   refine ⟨a,va,rfl,⟨_,SqL.of (s1 _ _ ha)⟩,⟨_,SqT.of (s1 _ _ hpv)⟩,ba7 (xs:=xs) (ys:=ws.map V.int) (by simp [hxl,hwl]) (le_line (by omega)) (fun i acc H2=>Same H H2∧i≤xs.length∧acc=((vput bs ws n (e.ev (bs.map (·.1)) ws)).take i).map V.int) ⟨s1,Nat.zero_le _,rfl⟩ (fun i acc H2 ⟨s2,hi,e⟩=>⟨by rw [e]; simp; omega,SqL.of (s2 _ _ ha),SqT.of (s2 _ _ hpv)⟩) ?_ ?_⟩
   · rintro i x z acc H2 H3 hx hz' ⟨s2,hi,rfl⟩ s3
     have hi':i<xs.length:=(List.getElem?_eq_some_iff.mp hx).1
     obtain ⟨b,hbi⟩:∃ b,bs[i]?=some b:=⟨_,List.getElem?_eq_getElem (by omega)⟩
     obtain ⟨w,hwi⟩:∃ w,ws[i]?=some w:=⟨_,List.getElem?_eq_getElem (by omega)⟩
     obtain ⟨p,rfl,hp⟩:=hb.2 i x b hx hbi
     rw [List.getElem?_map,hwi] at hz'
     obtain rfl:=Option.some.inj hz'
     obtain ⟨z1,z2⟩:=hz b (List.mem_of_getElem? hbi)
     have s23:=s2.trans s3
     have hg:=bb6 (n:=n) (k:=e.ev (bs.map (·.1)) ws) hbi hwi
     walk_at "run"
     refine a27 (SqT.of (s23 _ _ hp)) (a05 (j:=0) rfl) ?_
     walk_at "run"
     by_cases hn:b.1=n
     · refine a25 hn ?_
       walk_at "run"
       refine a27 (SqT.of (s23 _ _ hp)) (a05 (j:=1) rfl) ?_
       refine i_rI z1 ?_
       rw [if_pos hn] at hg
       exact ⟨s23,hi',by rw [List.take_add_one,hg,Option.toList_some,List.map_append]; rfl⟩
     · refine a24 hn ?_
       walk_at "run"
       rw [if_neg hn] at hg
       exact ⟨s23,hi',by rw [List.take_add_one,hg,Option.toList_some,List.map_append]; rfl⟩
   · rintro acc H2 ⟨s2,_,rfl⟩ l H3 f3 s3 e3
     walk_at "run"
     refine al6 (SqL.of e3) ?_
     intro p H4 f4 s4 e4
     refine q p H4 (s2.trans (s3.trans s4)) ?_
     rw [e4,hxl,←hvl,List.take_length]
def bk2:Sp:=fun vs H Q _=>∃ (k:Int) (w:Str),vs=[.int k,.str w]∧0≤k∧k<10∧w.length≤100∧Q (.str (sayS k w)) H
theorem aq7 (T:Txt K mg t):FnOk P w K mg base CX0 1 t.a_hand_text t.fd_hand_text ["line","word"] bk2:=by
 refine T.f_hand_text.F.ok aq5 (fun vs H Q E h=>?_) (fun cdv A outer s H vs Q E hr h=>?_)
 · obtain ⟨k,w,rfl,_⟩:=h
   rfl
 · obtain ⟨k,w,rfl,hk0,hk1,hw,q⟩:=h
   refine ⟨_,(@a04 _ _ _ (@a16 _ _ _ _ (@bi1 _ _ _ _ _ _ (.cons (@bd9 _ _ _ _ (pv 0)) (.cons (@a06 _ _ _ _) (.cons (@bd9 _ _ _ _ (pv 1)) .nil)))))),?_⟩
   have e1:=b27 hk0 hk1
   have e2:(Str.ofString ":").length=1:=by decide +kernel
   walk_at "go"
   simp only [b93]
   refine ⟨ap7 (by omega),_,rfl,le_line (by omega),?_⟩
   walk_at "run"
   refine ⟨le_line (by rw [strLen_append]; omega),?_⟩
   walk_at "run"
   refine ⟨le_line (by omega),?_⟩
   walk_at "run"
   have hz:=le_line (n:=(Str.ofString (toString k)++Str.ofString ":"++w).length) (by rw [strLen_append,strLen_append]; omega)
   exact ⟨hz,bj2 hz q⟩
def bk3 (K:PySem.W.Frag):Sp:=fun vs H Q _=>∃ (v:V) (s:KS) (w:Str) (ns:List Str),vs=[v]∧s.tr.At H v []∧s.ok ns∧s.sd=[w]∧Q (.str w) H
theorem aq8 (T:Txt K mg t):FnOk P w K mg base CX0 2 t.a_said_text t.fd_said_text ["thing"] (bk3 K):=by
 have G_hand_text:=aq7 (P:=P) (w:=w) (base:=base) T
 refine T.f_said_text.F.ok aq6 (fun vs H Q E h=>?_) (fun cdv A outer s H vs Q E hr h=>?_)
 · obtain ⟨v,s',w,ns,rfl,_⟩:=h
   rfl
 · obtain ⟨v,s',w,ns,rfl,hs,ho,hw,q⟩:=h
   refine ⟨_,(@a01 _ _ _ _ _ (@a36 _ _ _ _ _ _ _ _ (@a12 _ _ _ _ _ _ _ _ a41 (@a22 _ _ _ _ _ _ _ (a07 K) (pv 0) (@a03 _ _ _ _) (fun _ _=>rfl)) (@a06 _ _ _ _) (nomark _)) (@a04 _ _ _ (@a16 _ _ _ _ (@a22 _ _ _ _ _ _ _ (a07 K) (pv 0) (@a03 _ _ _ _) (fun _ _=>rfl)))) (@a20 _))
    (@a04 _ _ _ (@a16 _ _ _ _ (@a26 _ _ _ _ _ _ _ _ _ _ _ _ _ _ _ _ G_hand_text (hr.mono (by omega)) rfl T.f_hand_text.m T.f_hand_text.F.kp T.f_hand_text.b .nil a30 (@a00 _ _ _ _ _ (@a22 _ _ _ _ _ _ _ (a07 K) (pv 0) (@a03 _ _ _ _) (fun _ _=>rfl)) (@a00 _ _ _ _ _ (@a22 _ _ _ _ _ _ _ (a07 K) (pv 0) (@a03 _ _ _ _) (fun _ _=>rfl)) (@a02 _) (by rfl)) (by rfl)) (by decide) (by rfl) (by rfl))))),?_⟩
   obtain ⟨a,us,rfl,ha,hu⟩:=KS.word_at hs
   walk_at "go"
   refine a27 (SqT.of ha) (a05 (j:=0) rfl) ?_
   walk_at "run"
   cases s' with
   | say x =>
     obtain rfl:=(List.cons.inj hw).1
     obtain ⟨v1,w1,rfl,h1,h2⟩:=ats_cons0.mp hu
     obtain rfl:=at_str0.mp h1
     refine a25 rfl ?_
     walk_at "run"
     exact a27 (SqT.of ha) (a05 (j:=1) rfl) q
   | hand l x =>
     obtain rfl:=(List.cons.inj hw).1
     obtain ⟨v1,w1,rfl,h1,h2⟩:=ats_cons0.mp hu
     obtain rfl:=at_int0.mp h1
     obtain ⟨v2,w2,rfl,h3,h4⟩:=ats_cons0.mp h2
     obtain rfl:=at_str0.mp h3
     refine a24 (show Str.ofString "hand"≠Str.ofString "say" by decide +kernel) ?_
     walk_at "run"
     refine a27 (SqT.of ha) (a05 (j:=1) rfl) ?_
     walk_at "run"
     refine a27 (SqT.of ha) (a05 (j:=2) rfl) ?_
     exact ⟨l,x,rfl,ho.1,ho.2.1,ho.2.2,q⟩
   | _=>cases hw
def ae5 (r:Std):Option Std:=if r.2.2.2=0 then some r else if r.2.2.2=1 then none else some (r.1,r.2.1,r.2.2.1,r.2.2.2 - 1)
def bk4 (K:PySem.W.Frag):Sp:=fun vs H Q _=>∃ (v:V) (r:Std),vs=[v]∧StdAt H v (some r)∧∀ v' H',Same H H'→StdAt H' v' (ae5 r)→Q v' H'
theorem aq9 (T:Txt K mg t):FnOk P w K mg base CX0 1 t.a_rested_on t.fd_rested_on ["standing"] (bk4 K):=by
 refine T.f_rested_on.F.ok sc_rested_on (fun vs H Q E h=>?_) (fun cdv A outer s H vs Q E hr h=>?_)
 · obtain ⟨v,r,rfl,_⟩:=h
   rfl
 · obtain ⟨v,r,rfl,hr',q⟩:=h
   obtain ⟨p,stk,ws,l⟩:=r
   obtain ⟨a,u,ps,pa,rfl,ha,h1,h2,h3⟩:=hr'
   refine ⟨_,(@a01 _ _ _ _ _ (@a18 _ _ 1 _ _ _ _ sc_rested_on.nd rfl (by walk_at "o") (@a22 _ _ _ _ _ _ _ (a07 K) (pv 0) (@a03 _ _ _ _) (fun _ _=>rfl)) (by rfl) (by walk_at "o"))
    (@a01 _ _ _ _ _ (@a36 _ _ _ _ _ _ _ _ (@a12 _ _ _ _ _ _ _ _ a41 (pv 1) (@a03 _ _ _ _) (nomark _)) (@a04 _ _ _ (@a16 _ _ _ _ (pv 0))) (@a20 _))
    (@a01 _ _ _ _ _ (@a36 _ _ _ _ _ _ _ _ (@a12 _ _ _ _ _ _ _ _ a41 (pv 1) (@a03 _ _ _ _) (nomark _)) (@a04 _ _ _ (@a16 _ _ _ _ (@a45 _ _ _))) (@a20 _))
    (@a04 _ _ _ (@a16 _ _ _ _ (@a15 _ _ _ _ _ (@a00 _ _ _ _ _ (@a22 _ _ _ _ _ _ _ (a07 K) (pv 0) (@a03 _ _ _ _) (fun _ _=>rfl)) (@a00 _ _ _ _ _ (@a22 _ _ _ _ _ _ _ (a07 K) (pv 0) (@a03 _ _ _ _) (fun _ _=>rfl)) (@a00 _ _ _ _ _ (@a22 _ _ _ _ _ _ _ (a07 K) (pv 0) (@a03 _ _ _ _) (fun _ _=>rfl)) (@a00 _ _ _ _ _ (@a34 _ _ _ _ _ _ _ _ b01 (pv 1) (@a03 _ _ _ _)) (@a02 _) (by rfl)) (by rfl)) (by rfl)) (by rfl)))))))),?_⟩
   walk_at "go"
   refine a27 (SqT.of ha) (a05 (j:=3) rfl) ?_
   walk_at "run"
   by_cases l0:l=0
   · refine a25 l0 ?_
     walk_at "run"
     exact q _ _ (Same.refl _) (by unfold ae5; rw [if_pos l0]; exact ⟨a,u,ps,pa,rfl,ha,h1,h2,h3⟩)
   · refine a24 l0 ?_
     walk_at "run"
     by_cases l1:l=1
     · refine a25 l1 ?_
       walk_at "run"
       exact q _ _ (Same.refl _) (by unfold ae5; rw [if_neg l0,if_pos l1]; rfl)
     · refine a24 l1 ?_
       walk_at "run"
       refine a27 (SqT.of ha) (a05 (j:=0) rfl) ?_
       walk_at "run"
       refine a27 (SqT.of ha) (a05 (j:=1) rfl) ?_
       walk_at "run"
       refine a27 (SqT.of ha) (a05 (j:=2) rfl) ?_
       walk_at "run"
       intro p1 H1 f1 s1 e1
       exact q _ _ s1 (by unfold ae5; rw [if_neg l0,if_neg l1]; exact ⟨p1,u,ps,pa,rfl,e1,h1.same s1,h2.same s1,s1 _ _ h3⟩)
def patK (p:List Pt):Tr:=.tup (p.map Pt.tr)
noncomputable def fndB (br:List (List Pt×Pl)) (e:Tr):Option Pl:=(br.find? fun b=>decide (patK b.1=e)).map (·.2)
def BrsAt (H:Hp) (v:V) (br:List (List Pt×Pl)):Prop:=(Tr.tup (br.map brK)).At H v []
theorem BrsAt.same {H H':Hp}{v:V}{br:List (List Pt×Pl)}(h:BrsAt H v br) (s:Same H H'):BrsAt H' v br:=Tr.At.same h s
def bx3 (K:PySem.W.Frag):Sp:=fun vs H Q _=>∃ (u v:V) (br:List (List Pt×Pl)) (e:Tr),vs=[u,v]∧BrsAt H u br∧e.AtK K H v∧e.h≤5∧∀ v',PlO H v' (fndB br e)→Q v' H
theorem aw2 {H:Hp}{xs:List Tr}{vs:List V}(h:Tr.Ats H xs vs []) {i:Nat}{v:V}(e:vs[i]?=some v):∃ x,xs[i]?=some x∧x.At H v []:=by
 obtain ⟨x,f,h1,h2,h3⟩:=h.get i v e
 have:f=[]:=List.eq_nil_iff_forall_not_mem.mpr fun a m=>by simpa using h3 a m
 subst this
 exact ⟨x,h1,h2⟩
theorem c44 {H:Hp}{x:V}{b:List Pt×Pl}(h:(brK b).At H x []):∃ a u w,x=.ref a∧H a=some (.tup [u,w])∧(patK b.1).At H u []∧Pl.At H w b.2:=by
 obtain ⟨a,vs,rfl,e,h⟩:=at_tup0.mp h
 obtain ⟨v1,w1,rfl,h1,h⟩:=ats_cons0.mp h
 obtain ⟨v2,w2,rfl,h2,h⟩:=ats_cons0.mp h
 obtain rfl:=ats_nil0.mp h
 exact ⟨a,v1,v2,rfl,e,h1,pl_tr.mp h2⟩
theorem b52 (p:List Pt):(patK p).h≤5:=by
 have:Tr.hs (p.map Pt.tr)=0:=b32 p
 simp only [patK,Tr.h,this]
 omega
theorem b53 {α:Type}{p:α→Bool}{l:List α}{i:Nat}{b:α}(h:(l.take i).find? p=none) (e:l[i]?=some b) (hp:p b=true):l.find? p=some b:=by
 have hi:=(List.getElem?_eq_some_iff.mp e).1
 have h2:l=l.take i++b::l.drop (i+1):=by
  conv=>lhs; rw [← List.take_append_drop i l]
  rw [List.drop_eq_getElem_cons hi,(List.getElem?_eq_some_iff.mp e).2]
 rw [h2,List.find?_append,h,Option.none_or,List.find?_cons,hp]
theorem ar0 {α:Type}{p:α→Bool}{l:List α}{i:Nat}{b:α}(h:(l.take i).find? p=none) (e:l[i]?=some b) (hp:p b=false):(l.take (i+1)).find? p=none:=by
 rw [List.take_add_one,e,Option.toList_some,List.find?_append,h,Option.none_or,List.find?_cons,hp]
 rfl
theorem a81 (T:Txt K mg t):FnOk P w K mg base CX0 1 t.a_way_of_pattern t.fd_way_of_pattern ["branches","pattern"] (bx3 K):=by
 refine T.f_way_of_pattern.F.ok sc_way_of_pattern (fun vs H Q E h=>?_) (fun cdv A outer s H vs Q E hr h=>?_)
 · obtain ⟨u,v,br,e,rfl,_⟩:=h
   rfl
 · obtain ⟨u,v,br,e,rfl,hbr,hev,heh,q⟩:=h
   refine ⟨_,(@a01 _ _ _ _ _ (@ac8 _ _ _ _ _ _ _ _ PassesOwn.never rfl (bi4 K (pv 0)) (aa6 K (n:=2) rfl (a21 (a17 (i:=2) sc_way_of_pattern.nd rfl (by walk_at "o")) (a21 (a17 (i:=3) sc_way_of_pattern.nd rfl (by walk_at "o")) (@a50 _)))) (@a04 _ _ _ (@a36 _ _ _ _ _ _ _ _ (@a12 _ _ _ _ _ _ _ _ (al9 K (by exact hr.units)) (pv 2) (pv 1) (nomark _)) (@a04 _ _ _ (@a16 _ _ _ _ (pv 3))) (@a20 _))) (by intro _; rfl))
    (@a04 _ _ _ (@a16 _ _ _ _ (@a45 _ _ _)))),?_⟩
   obtain ⟨ua,uv,rfl,hu,hat⟩:=at_tup0.mp hbr
   have hul:uv.length=br.length:=by rw [hat.len,List.length_map]
   walk_at "go"
   refine ⟨⟨_,SqT.of hu⟩,bg1 (K:=K) (a:=ua) (xs:=uv) (fun i σ H'=>H=H'∧(∃ y1 y2,σ=[some (.ref ua),some v,y1,y2])∧(br.take i).find? (fun b=>decide (patK b.1=e))=none) ⟨rfl,⟨_,_,rfl⟩,rfl⟩ (fun i σ H' _ ⟨s',_⟩=>s' ▸ SqT.of hu) ?_ ?_⟩
   · rintro i x σ H2 hx ⟨rfl,⟨y1,y2,rfl⟩,hf⟩
     have hi:i<br.length:=by rw [← hul]; exact (List.getElem?_eq_some_iff.mp hx).1
     obtain ⟨b,hb⟩:∃ b,br[i]?=some b:=⟨_,List.getElem?_eq_getElem hi⟩
     obtain ⟨t,ht,hxt⟩:=aw2 hat hx
     rw [List.getElem?_map,hb] at ht
     rw [← Option.some.inj ht] at hxt
     obtain ⟨a,u,w',rfl,ha,hp,hw⟩:=c44 hxt
     walk_at "run"
     refine ⟨a,_,rfl,SqT.of ha,rfl,_,_,rfl,_,_,rfl,rfl,?_⟩
     walk_at "run"
     refine b40 (hp.toK K) hev (Nat.le_trans (b52 _) (by decide)) (Nat.le_trans heh (by decide)) ?_
     walk_at "run"
     by_cases hc:patK b.1=e
     · refine a25 hc ?_
       walk_at "run"
       refine q _ ?_
       unfold fndB
       rw [b53 hf hb (decide_eq_true hc)]
       exact hw
     · refine a24 hc ?_
       walk_at "run"
       exact ⟨rfl,⟨_,_,rfl⟩,ar0 hf hb (decide_eq_false hc)⟩
   · rintro σ H2 ⟨rfl,⟨y1,y2,rfl⟩,hf⟩
     rw [hul,List.take_length] at hf
     walk_at "run"
     refine q _ ?_
     unfold fndB
     rw [hf]
     rfl
theorem bk5 {K:PySem.W.Frag}{H:Hp}{a:Addr}{z:Str}(h:TupK K a [.str z]):(Tr.tup [.str z]).AtK K H (.ref a):=by
 simp only [Tr.AtK,Tr.AtsK]
 exact ⟨_,_,rfl,.inr h,_,_,rfl,rfl,rfl⟩
noncomputable def weF (br:List (List Pt×Pl)) (e:Tr):Option Pl:=if e=.tup [.str "quiet"] then none else match fndB br e with
 | some p=>some p
 | none=>fndB br (.tup [.str "other"])
def bx4 (K:PySem.W.Frag):Sp:=fun vs H Q _=>∃ (u v:V) (br:List (List Pt×Pl)) (e:Tr),vs=[u,v]∧BrsAt H u br∧e.AtK K H v∧e.h≤5∧∀ v',PlO H v' (weF br e)→Q v' H
theorem ai4 (T:Txt K mg t):FnOk P w K mg base CX0 2 t.a_way_of_event t.fd_way_of_event ["branches","event"] (bx4 K):=by
 have G_way_of_pattern:=a81 (P:=P) (w:=w) (base:=base) T
 refine T.f_way_of_event.F.ok sc_way_of_event (fun vs H Q E h=>?_) (fun cdv A outer s H vs Q E hr h=>?_)
 · obtain ⟨u,v,br,e,rfl,_⟩:=h
   rfl
 · obtain ⟨u,v,br,e,rfl,hbr,hev,heh,q⟩:=h
   refine ⟨_,(@a01 _ _ _ _ _ (@a36 _ _ _ _ _ _ _ _ (@a12 _ _ _ _ _ _ _ _ (al9 K (by exact hr.units)) (pv 1) (as0 (by rfl) T.m_QUIET (by exact T.r_QUIET)) (nomark _)) (@a04 _ _ _ (@a16 _ _ _ _ (@a45 _ _ _))) (@a20 _))
    (@a01 _ _ _ _ _ (@a18 _ _ 2 _ _ _ _ sc_way_of_event.nd rfl (by walk_at "o") (@a26 _ _ _ _ _ _ _ _ _ _ _ _ _ _ _ _ G_way_of_pattern (hr.mono (by omega)) rfl T.f_way_of_pattern.m T.f_way_of_pattern.F.kp T.f_way_of_pattern.b .nil a30 (@a00 _ _ _ _ _ (pv 0) (@a00 _ _ _ _ _ (pv 1) (@a02 _) (by rfl)) (by rfl)) (by decide) (by rfl) (by rfl)) (by rfl) (by walk_at "o"))
    (@a48 _ _ _ _ _ (@a36 _ _ _ _ _ _ _ _ (@a12 _ _ _ _ _ _ _ _ aa8 (pv 2) (@a45 _ _ _) (nomark _)) (@a04 _ _ _ (@a18 _ _ 2 _ _ _ _ sc_way_of_event.nd rfl (by walk_at "o") (@a26 _ _ _ _ _ _ _ _ _ _ _ _ _ _ _ _ G_way_of_pattern (hr.mono (by omega)) rfl T.f_way_of_pattern.m T.f_way_of_pattern.F.kp T.f_way_of_pattern.b .nil a30 (@a00 _ _ _ _ _ (pv 0) (@a00 _ _ _ _ _ (as0 (by rfl) T.m_OTHER (by exact T.r_OTHER)) (@a02 _) (by rfl)) (by rfl)) (by decide) (by rfl) (by rfl)) (by rfl) (by walk_at "o"))) (@a20 _))
    (@a04 _ _ _ (@a16 _ _ _ _ (pv 2)))))),?_⟩
   walk_at "go"
   refine b40 hev (bk5 T.d_QUIET) (Nat.le_trans heh (by decide)) (by decide) ?_
   walk_at "run"
   by_cases hq:e=.tup [.str "quiet"]
   · refine a25 hq ?_
     walk_at "run"
     exact q _ (by unfold weF; rw [if_pos hq]; rfl)
   · refine a24 hq ?_
     walk_at "run"
     refine ⟨u,v,br,e,rfl,hbr,hev,heh,fun v' hv'=>?_⟩
     walk_at "run"
     refine ac1 (fun σ' H'=>∃ v2,H=H'∧σ'=[some u,some v,some v2]∧PlO H' v2 (weF br e)) ?_ ?_
     · walk_at "run"
       cases hf:fndB br e with
       | some p =>
         rw [hf] at hv'
         obtain ⟨a,rfl,ha⟩:=hv'
         refine a24 (fun z=>nomatch z) ?_
         walk_at "run"
         exact ⟨_,rfl,rfl,by unfold weF; rw [if_neg hq,hf]; exact ⟨a,rfl,ha⟩⟩
       | none =>
         rw [hf] at hv'
         obtain rfl:v'=.non:=hv'
         refine a25 rfl ?_
         walk_at "run"
         refine ⟨u,_,br,_,rfl,hbr,bk5 T.d_OTHER,by decide,fun v2 hv2=>?_⟩
         exact ⟨_,rfl,rfl,by unfold weF; rw [if_neg hq,hf]; exact hv2⟩
     · rintro σ' H' ⟨v2,rfl,rfl,hv2⟩
       walk_at "run"
       exact q _ hv2
def c45:Sp:=fun vs H Q _=>∃ (v:V) (p:Pl),vs=[v]∧Pl.At H v p∧∀ v' H',Same H H'→Pl.At H' v' (p.1,p.2+1)→Q v' H'
theorem ab0 (T:Txt K mg t):FnOk P w K mg base CX0 1 t.a_place_behind t.fd_place_behind ["place"] c45:=by
 refine T.f_place_behind.F.ok ai1 (fun vs H Q E h=>?_) (fun cdv A outer s H vs Q E hr h=>?_)
 · obtain ⟨v,p,rfl,_⟩:=h
   rfl
 · obtain ⟨v,p,rfl,⟨a,rfl,ha⟩,q⟩:=h
   refine ⟨_,(@a04 _ _ _ (@a16 _ _ _ _ (@a15 _ _ _ _ _ (@a00 _ _ _ _ _ (@a22 _ _ _ _ _ _ _ (a07 K) (pv 0) (@a03 _ _ _ _) (fun _ _=>rfl)) (@a00 _ _ _ _ _ (@a34 _ _ _ _ _ _ _ _ a37 (@a22 _ _ _ _ _ _ _ (a07 K) (pv 0) (@a03 _ _ _ _) (fun _ _=>rfl)) (@a03 _ _ _ _)) (@a02 _) (by rfl)) (by rfl))))),?_⟩
   walk_at "go"
   refine a27 (SqT.of ha) (a05 (j:=0) rfl) ?_
   walk_at "run"
   refine a27 (SqT.of ha) (a05 (j:=1) rfl) ?_
   walk_at "run"
   intro p1 H1 f1 s1 e1
   exact q _ _ s1 ⟨p1,rfl,by rw [e1]; simp⟩
theorem bk6 {kb:List KB}{p:Pl}{s:KS}(h:stAt kb p=some s):∃ b,kb[p.1]?=some b∧b.st[p.2]?=some s:=by
 unfold stAt at h
 split at h
 · cases h
 · rename_i b hb
   exact ⟨b,hb,h⟩
def bk7 (K:PySem.W.Frag) (C CK:Addr):Sp:=fun vs H Q _=>∃ (p:Addr) (v:V) (bs:List (Str×Int)) (kb:List KB) (pl:Pl) (s:KS),vs=[.ref p,v]∧TeAt C CK H p bs kb∧Pl.At H v pl∧stAt kb pl=some s∧∀ v',s.tr.At H v' []→Q v' H
theorem a54 (T:Txt K mg t):FnOk P w K mg base CX0 1 t.a_Teller_statement_at t.fd_Teller_statement_at ["self","place"] (bk7 K t.c_Teller t.c_KeptBody):=by
 refine T.f_Teller_statement_at.F.ok a98 (fun vs H Q E h=>?_) (fun cdv A outer s H vs Q E hr h=>?_)
 · obtain ⟨p,v,bs,kb,pl,s',rfl,_⟩:=h
   rfl
 · obtain ⟨p,v,bs,kb,pl,s',rfl,hT,⟨a,rfl,ha⟩,hs,q⟩:=h
   refine ⟨_,(@a04 _ _ _ (@a16 _ _ _ _ (@a22 _ _ _ _ _ _ _ (a38 K) (a47 K (@a22 _ _ _ _ _ _ _ (a38 K) (a47 K (pv 0) rfl) (@a22 _ _ _ _ _ _ _ (a07 K) (pv 1) (@a03 _ _ _ _) (fun _ _=>rfl)) (fun _ _=>rfl)) rfl) (@a22 _ _ _ _ _ _ _ (a07 K) (pv 1) (@a03 _ _ _ _) (fun _ _=>rfl)) (fun _ _=>rfl)))),?_⟩
   obtain ⟨dx,bl,kl,bvs,kvs,h1,h2,h3,h4,h5⟩:=hT.ex
   obtain ⟨b,hb,hbs⟩:=bk6 hs
   obtain ⟨kv,hkv,op,odx,bv,l,us,rfl,e1,e2,e3,e4⟩:=h5.get hb
   walk_at "go"
   refine ⟨p,_,dx,_,_,rfl,h1,T.cl_Teller,T.n_Teller_bodies,a79 _ _,?_⟩
   walk_at "run"
   refine a27 (SqT.of ha) (a05 (j:=0) rfl) ?_
   walk_at "run"
   refine aa7 (SqL.of h4) (a05 hkv) ?_
   walk_at "run"
   refine ⟨op,_,odx,_,_,rfl,e1,T.cl_KeptBody,T.n_KeptBody_statements,a74 _ _ _,?_⟩
   walk_at "run"
   refine a27 (SqT.of ha) (a05 (j:=1) rfl) ?_
   walk_at "run"
   obtain ⟨u,hu⟩:∃ u,us[pl.2]?=some u:=⟨_,List.getElem?_eq_getElem (by have:=(List.getElem?_eq_some_iff.mp hbs).1; rw [e4.len,List.length_map]; exact this)⟩
   obtain ⟨t,ht,hxt⟩:=aw2 e4 hu
   rw [List.getElem?_map,hbs] at ht
   rw [← Option.some.inj ht] at hxt
   exact aa7 (SqL.of e3) (a05 hu) (q _ hxt)
def bx5 (K:PySem.W.Frag) (C CK:Addr):Sp:=fun vs H Q _=>∃ (p:Addr) (v:V) (bs:List (Str×Int)) (kb:List KB) (o:Option Pl) (n:Nat) (r:Option Pl),vs=[.ref p,v]∧TeAt C CK H p bs kb∧PlO H v o∧setF kb n o=some r∧∀ v' H',Same H H'→PlO H' v' r→Q v' H'
theorem a82 (T:Txt K mg t):FnOk P w K mg base CX0 1 t.a_Teller_settled t.fd_Teller_settled ["self","place"] (bx5 K t.c_Teller t.c_KeptBody):=by
 refine T.f_Teller_settled.F.ok sc_Teller_settled (fun vs H Q E h=>?_) (fun cdv A outer s H vs Q E hr h=>?_)
 · obtain ⟨p,v,bs,kb,o,n,r,rfl,_⟩:=h
   rfl
 · obtain ⟨p,v,bs,kb,o,n,r,rfl,hT,hv,hs,q⟩:=h
   refine ⟨_,(@a01 _ _ _ _ _ (@af4 _ _ _ _ _ _ PassesOwn.never (@a12 _ _ _ _ _ _ _ _ af9 (pv 1) (@a45 _ _ _) (nomark _)) (@a01 _ _ _ _ _ (@a18 _ _ 2 _ _ _ _ sc_Teller_settled.nd rfl (by walk_at "o") (@a22 _ _ _ _ _ _ _ (a38 K) (a47 K (pv 0) rfl) (@a22 _ _ _ _ _ _ _ (a07 K) (pv 1) (@a03 _ _ _ _) (fun _ _=>rfl)) (fun _ _=>rfl)) (by rfl) (by walk_at "o"))
    (@a01 _ _ _ _ _ (@a36 _ _ _ _ _ _ _ _ (@a12 _ _ _ _ _ _ _ _ ax3 (@a22 _ _ _ _ _ _ _ (a07 K) (pv 1) (@a03 _ _ _ _) (fun _ _=>rfl)) (@a69 _ _ _ _ _ _ _ _ _ (aa5 K) (by rfl) T.z_len ae7 (@a00 _ _ _ _ _ (a47 K (pv 2) rfl) (@a02 _) (by rfl)) (by decide) (by decide) (by rfl) (by rfl)) (nomark _)) (@a04 _ _ _ (@a16 _ _ _ _ (pv 1))) (@a20 _))
    (@a04 _ _ _ (@a18 _ _ 1 _ _ _ _ sc_Teller_settled.nd rfl (by walk_at "o") (@af3 _ _ _ _ _ _ _ _ (al2 K (a47 K (pv 2) rfl) (fun _=>rfl)) (@a15 _ _ _ _ _ (@a00 _ _ _ _ _ (@a22 _ _ _ _ _ _ _ (a07 K) (pv 1) (@a03 _ _ _ _) (fun _ _=>rfl)) (@a00 _ _ _ _ _ (@a03 _ _ _ _) (@a02 _) (by rfl)) (by rfl))) (a47 K (pv 2) rfl)) (by rfl) (by walk_at "o"))))))
    (@a04 _ _ _ (@a16 _ _ _ _ (@a45 _ _ _)))),?_⟩
   obtain ⟨dx,bl,kl,bvs,kvs,h1,h2,h3,h4,h5⟩:=hT.ex
   walk_at "go"
   obtain ⟨Pv,hPv⟩:∃ Pv:Nat→St→Hp→Prop,Pv=(fun m σ H'=>∃ (v:V) (o:Option Pl) (y:Option V),σ=[some (.ref p),some v,y]∧Same H H'∧PlO H' v o∧setF kb m o=some r):=⟨_,rfl⟩
   refine al7 Pv n (by rw [hPv]; exact ⟨v,o,_,rfl,Same.refl _,hv,hs⟩) ?_
   intro m σ H2 hI
   rw [hPv] at hI
   obtain ⟨v,o,y,rfl,s2,hv,hs⟩:=hI
   walk_at "run"
   cases m with
   | zero=>cases hs
   | succ m =>
   cases o with
   | none =>
     obtain rfl:v=.non:=hv
     obtain rfl:=Option.some.inj hs
     refine ak2 rfl ?_
     walk_at "run"
     exact q _ _ s2 rfl
   | some pl =>
     obtain ⟨a,rfl,ha⟩:=hv
     refine ak1 (fun z=>nomatch z) ?_
     refine ⟨fun σ' H'=>∃ m',m'<m+1∧Pv m' σ' H',fun σ' H' h'=>h',?_⟩
     simp only [setF] at hs
     split at hs
     · cases hs
     rename_i b hb
     obtain ⟨kv,hkv,op,odx,bv,l,us,rfl,e1,e2,e3,e4⟩:=h5.get hb
     have hul:us.length=b.st.length:=by rw [e4.len,List.length_map]
     walk_at "run"
     refine ⟨p,_,dx,_,_,rfl,s2 _ _ h1,T.cl_Teller,T.n_Teller_bodies,a79 _ _,?_⟩
     walk_at "run"
     refine a27 (SqT.of ha) (a05 (j:=0) rfl) ?_
     walk_at "run"
     refine aa7 (SqL.of (s2 _ _ h4)) (a05 hkv) ?_
     walk_at "run"
     refine a27 (SqT.of ha) (a05 (j:=1) rfl) ?_
     walk_at "run"
     refine ⟨op,_,odx,_,_,rfl,s2 _ _ e1,T.cl_KeptBody,T.n_KeptBody_statements,a74 _ _ _,?_⟩
     walk_at "run"
     refine ah1 (SqL.of (s2 _ _ e3)) ?_
     rw [hul]
     walk_at "run"
     by_cases hlt:pl.2<b.st.length
     · rw [if_pos hlt] at hs
       obtain rfl:=Option.some.inj hs
       refine a25 (by omega) ?_
       walk_at "run"
       exact q _ _ s2 ⟨a,rfl,ha⟩
     · rw [if_neg hlt] at hs
       refine a24 (by omega) ?_
       walk_at "run"
       refine ⟨op,_,odx,_,_,rfl,s2 _ _ e1,T.cl_KeptBody,T.n_KeptBody_loops,ah6 _ _ _,?_⟩
       walk_at "run"
       cases hlp:b.lp with
       | true =>
         rw [hlp] at hs
         walk_at "run"
         refine a27 (SqT.of ha) (a05 (j:=0) rfl) ?_
         walk_at "run"
         intro p3 H3 f3 s3 e3
         rw [hPv]
         exact ⟨m,by omega,_,some (pl.1,0),_,rfl,s2.trans s3,⟨p3,rfl,e3⟩,hs⟩
       | false =>
         rw [hlp] at hs
         walk_at "run"
         refine ⟨op,_,odx,_,_,rfl,s2 _ _ e1,T.cl_KeptBody,T.n_KeptBody_behind,ae3 _ _ _,?_⟩
         rw [hPv]
         exact ⟨m,by omega,_,_,_,rfl,s2,e2.same s2,hs⟩
def bx6 (K:PySem.W.Frag) (C CK:Addr):Sp:=fun vs H Q _=>∃ (p:Addr) (v:V) (bs:List (Str×Int)) (kb:List KB) (pl:Pl) (n i:Nat),vs=[.ref p,v]∧TeAt C CK H p bs kb∧Pl.At H v pl∧lpF kb n pl.1=some i∧Q (.int (i:Nat)) H
theorem ab1 (T:Txt K mg t):FnOk P w K mg base CX0 1 t.a_Teller_loop_around t.fd_Teller_loop_around ["self","place"] (bx6 K t.c_Teller t.c_KeptBody):=by
 refine T.f_Teller_loop_around.F.ok sc_Teller_loop_around (fun vs H Q E h=>?_) (fun cdv A outer s H vs Q E hr h=>?_)
 · obtain ⟨p,v,bs,kb,pl,n,i,rfl,_⟩:=h
   rfl
 · obtain ⟨p,v,bs,kb,pl,n,i,rfl,hT,⟨a,rfl,ha⟩,hs,q⟩:=h
   refine ⟨_,(@a01 _ _ _ _ _ (@a18 _ _ 2 _ _ _ _ sc_Teller_loop_around.nd rfl (by walk_at "o") (@a22 _ _ _ _ _ _ _ (a07 K) (pv 1) (@a03 _ _ _ _) (fun _ _=>rfl)) (by rfl) (by walk_at "o"))
    (@a01 _ _ _ _ _ (@af4 _ _ _ _ _ _ PassesOwn.never (@bn9 _ _ _ _ (al2 K (a47 K (@a22 _ _ _ _ _ _ _ (a38 K) (a47 K (pv 0) rfl) (pv 2) (fun _ _=>rfl)) rfl) (fun _=>rfl))) (@a04 _ _ _ (@a18 _ _ 2 _ _ _ _ sc_Teller_loop_around.nd rfl (by walk_at "o") (@a22 _ _ _ _ _ _ _ (a07 K) (a47 K (@a22 _ _ _ _ _ _ _ (a38 K) (a47 K (pv 0) rfl) (pv 2) (fun _ _=>rfl)) rfl) (@a03 _ _ _ _) (fun _ _=>rfl)) (by rfl) (by walk_at "o"))))
    (@a04 _ _ _ (@a16 _ _ _ _ (pv 2))))),?_⟩
   obtain ⟨dx,bl,kl,bvs,kvs,h1,h2,h3,h4,h5⟩:=hT.ex
   walk_at "go"
   refine a27 (SqT.of ha) (a05 (j:=0) rfl) ?_
   walk_at "run"
   obtain ⟨Pv,hPv⟩:∃ Pv:Nat→St→Hp→Prop,Pv=(fun m σ H'=>∃ (k:Nat),σ=[some (.ref p),some (.ref a),some (.int (k:Nat))]∧H=H'∧lpF kb m k=some i):=⟨_,rfl⟩
   refine al7 Pv n (by rw [hPv]; exact ⟨pl.1,rfl,rfl,hs⟩) ?_
   intro m σ H2 hI
   rw [hPv] at hI
   obtain ⟨k,rfl,rfl,hs⟩:=hI
   walk_at "run"
   cases m with
   | zero=>cases hs
   | succ m =>
   simp only [lpF] at hs
   split at hs
   · cases hs
   rename_i b hb
   obtain ⟨kv,hkv,op,odx,bv,l,us,rfl,e1,e2,e3,e4⟩:=h5.get hb
   refine ⟨p,_,dx,_,_,rfl,h1,T.cl_Teller,T.n_Teller_bodies,a79 _ _,?_⟩
   walk_at "run"
   refine aa7 (SqL.of h4) (a05 hkv) ?_
   walk_at "run"
   refine ⟨op,_,odx,_,_,rfl,e1,T.cl_KeptBody,T.n_KeptBody_loops,ah6 _ _ _,?_⟩
   walk_at "run"
   cases hlp:b.lp with
   | true =>
     rw [hlp,if_pos rfl] at hs
     obtain rfl:=Option.some.inj hs
     walk_at "run"
     exact q
   | false =>
     rw [hlp,if_neg (by simp)] at hs
     walk_at "run"
     refine ⟨fun σ' H'=>∃ m',m'<m+1∧Pv m' σ' H',fun σ' H' h'=>h',?_⟩
     split at hs
     · cases hs
     rename_i pb hpb
     rw [hpb] at e2
     obtain ⟨ab,rfl,hab⟩:=e2
     walk_at "run"
     refine ⟨p,_,dx,_,_,rfl,h1,T.cl_Teller,T.n_Teller_bodies,a79 _ _,?_⟩
     walk_at "run"
     refine aa7 (SqL.of h4) (a05 hkv) ?_
     walk_at "run"
     refine ⟨op,_,odx,_,_,rfl,e1,T.cl_KeptBody,T.n_KeptBody_behind,ae3 _ _ _,?_⟩
     walk_at "run"
     refine a27 (SqT.of hab) (a05 (j:=0) rfl) ?_
     rw [hPv]
     exact ⟨m,by omega,_,rfl,rfl,hs⟩
theorem bk8 {s:KS}(h:s.word=Str.ofString "back"):s=.back:=by
 cases s <;> first | rfl | (simp only [KS.word] at h; exact absurd h (by decide +kernel))
theorem au0 {s:KS}(h:s.word=Str.ofString "stop"):s=.stop:=by
 cases s <;> first | rfl | (simp only [KS.word] at h; exact absurd h (by decide +kernel))
theorem bb7 {s:KS}(h:s.word=Str.ofString "again"):s=.again:=by
 cases s <;> first | rfl | (simp only [KS.word] at h; exact absurd h (by decide +kernel))
theorem bb8 {s:KS}(h:s.word=Str.ofString "leave"):s=.leave:=by
 cases s <;> first | rfl | (simp only [KS.word] at h; exact absurd h (by decide +kernel))
theorem bk9 {s:KS}(h:s.word=Str.ofString "test"):∃ c a b,s=.test c a b:=by
 cases s <;> first | exact ⟨_,_,_,rfl⟩ | (simp only [KS.word] at h; exact absurd h (by decide +kernel))
theorem au1 {s:KS}(h:s.word=Str.ofString "wait"):∃ c a b,s=.wait c a b:=by
 cases s <;> first | exact ⟨_,_,_,rfl⟩ | (simp only [KS.word] at h; exact absurd h (by decide +kernel))
theorem bx7 {s:KS}(h:s.word=Str.ofString "put"):∃ n e,s=.put n e:=by
 cases s <;> first | exact ⟨_,_,rfl⟩ | (simp only [KS.word] at h; exact absurd h (by decide +kernel))
theorem b54 {s:KS}(h:s.word=Str.ofString "call"):∃ n,s=.call n:=by
 cases s <;> first | exact ⟨_,rfl⟩ | (simp only [KS.word] at h; exact absurd h (by decide +kernel))
theorem c46 {s:KS}(h:s.word=Str.ofString "loop"∨s.word=Str.ofString "call"):∃ n,s.its=[.int (n:Nat)]∧∀ kb ns p ws,wayF kb ns p ws s=some (some (n,0)):=by
 rcases h with h | h <;> cases s <;> first | exact ⟨_,rfl,fun _ _ _ _=>rfl⟩ | (simp only [KS.word] at h; exact absurd h (by decide +kernel))
theorem bl0 {s:KS}(h:s.word=Str.ofString "say"∨s.word=Str.ofString "hand"):∃ w,s.sd=[w]:=by
 rcases h with h | h <;> cases s <;> first | exact ⟨_,rfl⟩ | (simp only [KS.word] at h; exact absurd h (by decide +kernel))
theorem b55 {s:KS}(h:¬ (s.word=Str.ofString "say"∨s.word=Str.ofString "hand")):s.sd=[]:=by
 cases s <;> first | rfl | exact absurd (.inl rfl) h | exact absurd (.inr rfl) h
theorem bl3 {s:KS}{kb:List KB}{ns:List Str}{p:Pl}{ws:List Int}(h1:s.word≠Str.ofString "back") (h2:s.word≠Str.ofString "test") (h3:¬ (s.word=Str.ofString "loop"∨s.word=Str.ofString "call")) (h4:s.word≠Str.ofString "again") (h5:s.word≠Str.ofString "leave"):wayF kb ns p ws s=some (some (p.1,p.2+1)):=by
 cases s <;> first | rfl | exact absurd rfl h1 | exact absurd rfl h2 | exact absurd (.inl rfl) h3 | exact absurd (.inr rfl) h3 | exact absurd rfl h4 | exact absurd rfl h5
def bx8 (K:PySem.W.Frag) (C CK:Addr):Sp:=fun vs H Q _=>∃ (p pa:Addr) (v sv:V) (bs:List (Str×Int)) (kb:List KB) (pl:Pl) (s:KS) (ws:List Int) (w:Option Pl),vs=[.ref p,v,sv,.ref pa]∧TeAt C CK H p bs kb∧Pl.At H v pl∧s.tr.At H sv []∧s.ok (bs.map (·.1))∧bs.length≤100∧H pa=some (.tup (ws.map V.int))∧ws.length=bs.length∧wayF kb (bs.map (·.1)) pl ws s=some w ∧
 ∀ v' H',Same H H'→PlO H' v' w→Q v' H'
theorem af2 (T:Txt K mg t):FnOk P w K mg base CX0 15 t.a_Teller_way_on t.fd_Teller_way_on ["self","place","statement","values"] (bx8 K t.c_Teller t.c_KeptBody):=by
 have G_Teller_loop_around:=ab1 (P:=P) (w:=w) (base:=base) T
 have G_holds:=bb4 (P:=P) (w:=w) (base:=base) T
 have G_place_behind:=ab0 (P:=P) (w:=w) (base:=base) T
 refine T.f_Teller_way_on.F.ok sc_Teller_way_on (fun vs H Q E h=>?_) (fun cdv A outer s H vs Q E hr h=>?_)
 · obtain ⟨p,pa,v,sv,bs,kb,pl,s',ws,w,rfl,_⟩:=h
   rfl
 · obtain ⟨p,pa,v,sv,bs,kb,pl,s',ws,w,rfl,hT,hv,hs,ho,hbl,hpa,hwl,hw,q⟩:=h
   have G_holds:=G_holds 4
   refine ⟨_,(@a01 _ _ _ _ _ (@a18 _ _ 4 _ _ _ _ sc_Teller_way_on.nd rfl (by walk_at "o") (@a22 _ _ _ _ _ _ _ (a07 K) (pv 2) (@a03 _ _ _ _) (fun _ _=>rfl)) (by rfl) (by walk_at "o"))
    (@a01 _ _ _ _ _ (@a36 _ _ _ _ _ _ _ _ (@a12 _ _ _ _ _ _ _ _ a41 (pv 4) (@a06 _ _ _ _) (nomark _)) (@a04 _ _ _ (@a16 _ _ _ _ (@a45 _ _ _))) (@a20 _))
    (@a01 _ _ _ _ _ (@a36 _ _ _ _ _ _ _ _ (@a12 _ _ _ _ _ _ _ _ a41 (pv 4) (@a06 _ _ _ _) (nomark _)) (@a04 _ _ _ (@a16 _ _ _ _ (@a15 _ _ _ _ _ (@a00 _ _ _ _ _ (@af3 _ _ _ _ _ _ _ _ (al2 K (@a26 _ _ _ _ _ _ _ _ _ _ _ _ _ _ _ _ G_holds (hr.mono (by omega)) rfl T.f_holds.m T.f_holds.F.kp T.f_holds.b .nil a30 (@a00 _ _ _ _ _ (@a22 _ _ _ _ _ _ _ (a07 K) (pv 2) (@a03 _ _ _ _) (fun _ _=>rfl)) (@a00 _ _ _ _ _ (a47 K (pv 0) rfl) (@a00 _ _ _ _ _ (pv 3) (@a02 _) (by rfl)) (by rfl)) (by rfl)) (by decide) (by rfl) (by rfl)) (fun _=>rfl)) (@a22 _ _ _ _ _ _ _ (a07 K) (pv 2) (@a03 _ _ _ _) (fun _ _=>rfl)) (@a22 _ _ _ _ _ _ _ (a07 K) (pv 2) (@a03 _ _ _ _) (fun _ _=>rfl))) (@a00 _ _ _ _ _ (@a03 _ _ _ _) (@a02 _) (by rfl)) (by rfl))))) (@a20 _))
    (@a01 _ _ _ _ _ (@a36 _ _ _ _ _ _ _ _ (@ah2 _ _ _ (@PW.pt _ _ _ (@az8 _ _ _ _ _ _ _ (@a12 _ _ _ _ _ _ _ _ a41 (pv 4) (@a06 _ _ _ _) (nomark _)) (@an3 _ _ _ _ (@a12 _ _ _ _ _ _ _ _ a41 (pv 4) (@a06 _ _ _ _) (nomark _)))))) (@a04 _ _ _ (@a16 _ _ _ _ (@a15 _ _ _ _ _ (@a00 _ _ _ _ _ (@a22 _ _ _ _ _ _ _ (a07 K) (pv 2) (@a03 _ _ _ _) (fun _ _=>rfl)) (@a00 _ _ _ _ _ (@a03 _ _ _ _) (@a02 _) (by rfl)) (by rfl))))) (@a20 _))
    (@a01 _ _ _ _ _ (@a36 _ _ _ _ _ _ _ _ (@a12 _ _ _ _ _ _ _ _ a41 (pv 4) (@a06 _ _ _ _) (nomark _)) (@a04 _ _ _ (@a16 _ _ _ _ (@a15 _ _ _ _ _ (@a00 _ _ _ _ _ (a61 (pv 0) T.cl_Teller T.f_Teller_loop_around.M G_Teller_loop_around (hr.mono (by omega)) T.f_Teller_loop_around.b .nil a30 (@a00 _ _ _ _ _ (pv 1) (@a02 _) (by rfl))) (@a00 _ _ _ _ _ (@a03 _ _ _ _) (@a02 _) (by rfl)) (by rfl))))) (@a20 _))
    (@a01 _ _ _ _ _ (@a36 _ _ _ _ _ _ _ _ (@a12 _ _ _ _ _ _ _ _ a41 (pv 4) (@a06 _ _ _ _) (nomark _)) (@a04 _ _ _ (@a16 _ _ _ _ (a47 K (@a22 _ _ _ _ _ _ _ (a38 K) (a47 K (pv 0) rfl) (a61 (pv 0) T.cl_Teller T.f_Teller_loop_around.M G_Teller_loop_around (hr.mono (by omega)) T.f_Teller_loop_around.b .nil a30 (@a00 _ _ _ _ _ (pv 1) (@a02 _) (by rfl))) (fun _ _=>rfl)) rfl))) (@a20 _))
    (@a04 _ _ _ (@a16 _ _ _ _ (@a26 _ _ _ _ _ _ _ _ _ _ _ _ _ _ _ _ G_place_behind (hr.mono (by omega)) rfl T.f_place_behind.m T.f_place_behind.F.kp T.f_place_behind.b .nil a30 (@a00 _ _ _ _ _ (pv 1) (@a02 _) (by rfl)) (by decide) (by rfl) (by rfl)))))))))),?_⟩
   obtain ⟨dx,bl,kl,bvs,kvs,h1,h2,h3,h4,h5⟩:=hT.ex
   obtain ⟨a,us,rfl,ha,hu⟩:=KS.word_at hs
   walk_at "go"
   refine a27 (SqT.of ha) (a05 (j:=0) rfl) ?_
   walk_at "run"
   by_cases w1:s'.word=Str.ofString "back"
   · refine a25 w1 ?_
     walk_at "run"
     obtain rfl:=bk8 w1
     obtain rfl:=Option.some.inj hw
     exact q _ _ (Same.refl _) rfl
   refine a24 w1 ?_
   walk_at "run"
   by_cases w2:s'.word=Str.ofString "test"
   · refine a25 w2 ?_
     walk_at "run"
     obtain ⟨c,x,y,rfl⟩:=bk9 w2
     obtain ⟨v1,u1,rfl,k1,hu⟩:=ats_cons0.mp hu
     obtain ⟨v2,u2,rfl,k2,hu⟩:=ats_cons0.mp hu
     obtain ⟨v3,u3,rfl,k3,hu⟩:=ats_cons0.mp hu
     obtain rfl:=at_int0.mp k2
     obtain rfl:=at_int0.mp k3
     obtain rfl:=Option.some.inj hw
     refine a27 (SqT.of ha) (a05 (j:=1) rfl) ?_
     walk_at "run"
     refine ⟨p,_,dx,_,_,rfl,h1,T.cl_Teller,T.n_Teller_boxes,ah7 _ _,?_⟩
     walk_at "run"
     refine ⟨v1,c,bl,pa,bvs,bs.map (·.1),ws,rfl,av5 k1,ho.2,ho.1,SqL.of h2,am1 h3,SqT.of hpa,by simp [hwl],by simp; omega,fun H1 s1=>?_⟩
     walk_at "run"
     cases hc:c.ev (bs.map (·.1)) ws with
     | true =>
       walk_at "run"
       refine a27 (SqT.of (s1 _ _ ha)) (a05 (j:=2) rfl) ?_
       walk_at "run"
       intro p2 H2 f2 s2 e2
       exact q _ _ (s1.trans s2) ⟨p2,rfl,by rw [e2,hc]; rfl⟩
     | false =>
       walk_at "run"
       refine a27 (SqT.of (s1 _ _ ha)) (a05 (j:=3) rfl) ?_
       walk_at "run"
       intro p2 H2 f2 s2 e2
       exact q _ _ (s1.trans s2) ⟨p2,rfl,by rw [e2,hc]; rfl⟩
   refine a24 w2 ?_
   walk_at "run"
   refine aq0 (s'.word=Str.ofString "loop"∨s'.word=Str.ofString "call") (fun R hR=>?_) ?_
   · walk_at "run"
     by_cases hh:s'.word=Str.ofString "loop"
     · refine a25 hh ?_
       exact rT hR (.inl hh)
     · refine a24 hh ?_
       walk_at "run"
       by_cases h7:s'.word=Str.ofString "call"
       · rw [decide_eq_true h7]
         exact rT hR (.inr h7)
       · rw [decide_eq_false h7]
         exact rF hR (fun z=>by rcases z with z | z; exact hh z; exact h7 z)
   by_cases w3:s'.word=Str.ofString "loop"∨s'.word=Str.ofString "call"
   · refine a25 w3 ?_
     walk_at "run"
     obtain ⟨n,hn,hwy⟩:=c46 w3
     rw [hn] at hu
     obtain ⟨v1,u1,rfl,k1,hu⟩:=ats_cons0.mp hu
     obtain rfl:=at_int0.mp k1
     rw [hwy] at hw
     obtain rfl:=Option.some.inj hw
     refine a27 (SqT.of ha) (a05 (j:=1) rfl) ?_
     walk_at "run"
     intro p2 H2 f2 s2 e2
     exact q _ _ s2 ⟨p2,rfl,e2⟩
   refine a24 w3 ?_
   walk_at "run"
   by_cases w4:s'.word=Str.ofString "again"
   · refine a25 w4 ?_
     walk_at "run"
     obtain rfl:=bb7 w4
     simp only [wayF] at hw
     obtain ⟨i,hi,rfl⟩:=Option.map_eq_some_iff.mp hw
     refine ⟨p,dx,_,rfl,h1,a80 _ _ (by decide +kernel) (by decide +kernel),?_⟩
     walk_at "run"
     refine ⟨p,v,bs,kb,pl,_,i,rfl,hT,hv,hi,?_⟩
     walk_at "run"
     intro p2 H2 f2 s2 e2
     exact q _ _ s2 ⟨p2,rfl,e2⟩
   refine a24 w4 ?_
   walk_at "run"
   by_cases w5:s'.word=Str.ofString "leave"
   · refine a25 w5 ?_
     walk_at "run"
     obtain rfl:=bb8 w5
     simp only [wayF] at hw
     split at hw
     · cases hw
     rename_i i hi
     obtain ⟨b,hb,rfl⟩:=Option.map_eq_some_iff.mp hw
     obtain ⟨kv,hkv,op,odx,bv,l,us',rfl,e1,e2,e3,e4⟩:=h5.get hb
     refine ⟨p,_,dx,_,_,rfl,h1,T.cl_Teller,T.n_Teller_bodies,a79 _ _,?_⟩
     walk_at "run"
     refine ⟨p,dx,_,rfl,h1,a80 _ _ (by decide +kernel) (by decide +kernel),?_⟩
     walk_at "run"
     refine ⟨p,v,bs,kb,pl,_,i,rfl,hT,hv,hi,?_⟩
     refine aa7 (SqL.of h4) (a05 hkv) ?_
     walk_at "run"
     refine ⟨op,_,odx,_,_,rfl,e1,T.cl_KeptBody,T.n_KeptBody_behind,ae3 _ _ _,?_⟩
     exact q _ _ (Same.refl _) e2
   refine a24 w5 ?_
   walk_at "run"
   rw [bl3 w1 w2 w3 w4 w5] at hw
   obtain rfl:=Option.some.inj hw
   exact ⟨v,pl,rfl,hv,fun v' H' s' h'=>q v' H' s' h'⟩
def bx9 (K:PySem.W.Frag) (C CK:Addr):Sp:=fun vs H Q _=>∃ (p ps:Addr) (v:V) (bs:List (Str×Int)) (kb:List KB) (pl:Pl) (stk stk2:List Pl) (n:Nat),vs=[.ref p,v,.ref ps]∧TeAt C CK H p bs kb∧Pl.At H v pl∧StkAt H ps stk∧stk.length≤900000∧stkF kb pl stk (.call n)=some stk2 ∧
 ∀ ps' H',Same H H'→StkAt H' ps' stk2→Q (.ref ps') H'
theorem a99 (T:Txt K mg t):FnOk P w K mg base CX0 2 t.a_Teller_stack_behind t.fd_Teller_stack_behind ["self","place","stack"] (bx9 K t.c_Teller t.c_KeptBody):=by
 have G_Teller_settled:=a82 (P:=P) (w:=w) (base:=base) T
 have G_place_behind:=ab0 (P:=P) (w:=w) (base:=base) T
 refine T.f_Teller_stack_behind.F.ok sc_Teller_stack_behind (fun vs H Q E h=>?_) (fun cdv A outer s H vs Q E hr h=>?_)
 · obtain ⟨p,ps,v,bs,kb,pl,stk,stk2,n,rfl,_⟩:=h
   rfl
 · obtain ⟨p,ps,v,bs,kb,pl,stk,stk2,n,rfl,hT,hv,hst,hsl,hk,q⟩:=h
   refine ⟨_,(@a01 _ _ _ _ _ (@a18 _ _ 3 _ _ _ _ sc_Teller_stack_behind.nd rfl (by walk_at "o") (a61 (pv 0) T.cl_Teller T.f_Teller_settled.M G_Teller_settled (hr.mono (by omega)) T.f_Teller_settled.b .nil a30 (@a00 _ _ _ _ _ (@a26 _ _ _ _ _ _ _ _ _ _ _ _ _ _ _ _ G_place_behind (hr.mono (by omega)) rfl T.f_place_behind.m T.f_place_behind.F.kp T.f_place_behind.b .nil a30 (@a00 _ _ _ _ _ (pv 1) (@a02 _) (by rfl)) (by decide) (by rfl) (by rfl)) (@a02 _) (by rfl))) (by rfl) (by walk_at "o"))
    (@a01 _ _ _ _ _ (@a36 _ _ _ _ _ _ _ _ (@a12 _ _ _ _ _ _ _ _ aa8 (pv 3) (@a45 _ _ _) (nomark _)) (@a04 _ _ _ (@a16 _ _ _ _ (pv 2))) (@a20 _))
    (@a04 _ _ _ (@a16 _ _ _ _ (@a34 _ _ _ _ _ _ _ _ ba0 (pv 2) (@a15 _ _ _ _ _ (@a00 _ _ _ _ _ (pv 3) (@a02 _) (by rfl)))))))),?_⟩
   obtain ⟨dx,bl,kl,bvs,kvs,h1,h2,h3,h4,h5⟩:=hT.ex
   simp only [stkF] at hk
   obtain ⟨r,hr',hk⟩:=Option.map_eq_some_iff.mp hk
   walk_at "go"
   refine ⟨p,dx,_,rfl,h1,a80 _ _ (by decide +kernel) (by decide +kernel),?_⟩
   walk_at "run"
   refine ⟨v,pl,rfl,hv,fun v1 H1 s1 hv1=>?_⟩
   walk_at "run"
   refine ⟨p,v1,bs,kb,some (pl.1,pl.2+1),_,r,rfl,hT.same s1,hv1,hr',fun v2 H2 s2 hv2=>?_⟩
   walk_at "run"
   cases r with
   | none =>
     obtain rfl:v2=.non:=hv2
     refine a25 rfl ?_
     walk_at "run"
     subst hk
     exact q _ _ (s1.trans s2) (hst.same (s1.trans s2))
   | some pl2 =>
     obtain ⟨a2,rfl,ha2⟩:=hv2
     refine a24 (fun z=>nomatch z) ?_
     walk_at "run"
     intro p3 H3 f3 s3 e3
     subst hk
     obtain ⟨us,hus,hE⟩:=hst.same (s1.trans (s2.trans s3))
     have hz:us.length+[V.ref a2].length≤1000000:=by
      have:=hE.1
      simp only [List.length_cons,List.length_nil]
      omega
     refine bw1 hus e3 (le_line hz) ?_
     intro p4 H4 s4 e4
     exact q _ _ (s1.trans (s2.trans (s3.trans s4))) ⟨_,e4,(hE.mono fun _ _ z=>Pl.At.same z s4).snoc ⟨a2,rfl,s4 _ _ (s3 _ _ ha2)⟩⟩
theorem am3 {kb:List KB}{bs:List (Str×Int)}{p:Pl}{stk:List Pl}{ws:List Int}{l:Int}{br:List (List Pt×Pl)}{w:Pl}:onK kb bs p stk ws (.wait l br w)=some (.done (some (p,stk,ws,l))):=rfl
theorem am4 {kb:List KB}{bs:List (Str×Int)}{p:Pl}{stk:List Pl}{ws:List Int}:onK kb bs p stk ws .stop=some (.done none):=rfl
theorem b56 {kb:List KB}{bs:List (Str×Int)}{p:Pl}{stk:List Pl}{ws:List Int}{s:KS}{x:StO}(h1:s.word≠Str.ofString "wait") (h2:s.word≠Str.ofString "stop") (h:onK kb bs p stk ws s=some x):∃ stk2 w o,stkF kb p stk s=some stk2∧wayF kb (bs.map (·.1)) p (s.vals bs ws) s=some w∧setF kb (tfu kb) w=some o∧x=.go s.sd o stk2 (s.vals bs ws):=by
 have:(match stkF kb p stk s,wayF kb (bs.map (·.1)) p (s.vals bs ws) s with
  | some stk2,some w=>(setF kb (tfu kb) w).map fun o=>StO.go s.sd o stk2 (s.vals bs ws)
  | _,_=>none)=some x:=by
  rw [← h]
  cases s <;> first | rfl | exact absurd rfl h1 | exact absurd rfl h2
 cases e1:stkF kb p stk s with
 | none=>rw [e1] at this; cases this
 | some stk2 =>
   cases e2:wayF kb (bs.map (·.1)) p (s.vals bs ws) s with
   | none=>rw [e1,e2] at this; cases this
   | some w =>
     rw [e1,e2] at this
     obtain ⟨o,e3,e4⟩:=Option.map_eq_some_iff.mp this
     exact ⟨stk2,w,o,rfl,rfl,e3,e4.symm⟩
theorem am5 {s:KS}{bs:List (Str×Int)}{ws:List Int}(h:ws.length=bs.length):(s.vals bs ws).length=bs.length:=by
 cases s <;> first | exact h | exact aw1 h
theorem bl4 {s:KS}{bs:List (Str×Int)}{ws:List Int}(h:s.word≠Str.ofString "put"):s.vals bs ws=ws:=by
 cases s <;> first | rfl | exact absurd rfl h
theorem b57 {s:KS}{kb:List KB}{p:Pl}{stk:List Pl}(h:s.word≠Str.ofString "call"):stkF kb p stk s=some stk:=by
 cases s <;> first | rfl | exact absurd rfl h
theorem aw3 {s:KS}{kb:List KB}{p:Pl}{stk stk2:List Pl}(h:stkF kb p stk s=some stk2):stk2.length≤stk.length+1:=by
 by_cases hc:s.word=Str.ofString "call"
 · obtain ⟨n,rfl⟩:=b54 hc
   simp only [stkF] at h
   obtain ⟨r,_,h⟩:=Option.map_eq_some_iff.mp h
   cases r with
   | none=>simp only at h; rw [← h]; omega
   | some q=>simp only at h; rw [← h,List.length_append]; simp
 · rw [b57 hc] at h
   rw [← Option.some.inj h]
   omega
theorem by0 (s:KS):s.sd.length≤1:=by
 cases s <;> simp [KS.sd]
theorem am6 {o:Option Pl}{stk stk1:List Pl}{p:Pl}(h:popP o stk=some (p,stk1)):stk1.length≤stk.length:=by
 cases o with
 | some q=>simp only [popP,Option.some.injEq,Prod.mk.injEq] at h; rw [h.2]; exact Nat.le_refl _
 | none =>
   simp only [popP] at h
   split at h
   · cases h
   · simp only [Option.some.injEq,Prod.mk.injEq] at h
     rw [← h.2,List.length_dropLast]
     omega
theorem bl5 {α:Type}{l:List α}{z:α}(h:l.getLast?=some z):l.dropLast++[z]=l:=by
 rcases List.eq_nil_or_concat l with e | ⟨x,y,e⟩
 · subst e
   cases h
 · subst e
   rw [List.concat_eq_append] at h ⊢
   rw [List.getLast?_append] at h
   cases h
   simp
structure TgI (kb:List KB) (bs:List (Str×Int)) (m n:Nat) (o:Option Pl) (stk:List Pl) (ws:List Int) (sd sd0:List Str) (r:Option Std):Prop where
 go:∃ sd1,goF kb bs m o stk ws=some (sd1,r)∧sd0=sd++sd1
 wl:ws.length=bs.length
 sl:stk.length+m≤900000
 dl:sd.length+m≤900000
theorem TgI.pop {kb:List KB}{bs:List (Str×Int)}{m n:Nat}{o:Option Pl}{stk:List Pl}{ws:List Int}{sd sd0:List Str}{r:Option Std}(h:TgI kb bs m n o stk ws sd sd0 r):(o=none∧stk=[]∧sd0=sd∧r=none)∨∃ p stk1 s x,popP o stk=some (p,stk1)∧stAt kb p=some s∧onK kb bs p stk1 ws s=some x∧(∀ r',x=.done r'→sd0=sd∧r=r') ∧
 ∀ sd1 o2 stk2 ws2,x=.go sd1 o2 stk2 ws2→stk2.length≤stk1.length+1→sd1.length≤1→ws2.length=bs.length→∃ m',m'<m∧TgI kb bs m' n o2 stk2 ws2 (sd++sd1) sd0 r:=by
 obtain ⟨sd1,hg,rfl⟩:=h.go
 have hsl:=h.sl
 have hdl:=h.dl
 cases m with
 | zero=>cases hg
 | succ m =>
   simp only [goF] at hg
   cases hp:popP o stk with
   | none =>
     rw [hp] at hg
     injection hg with hg
     injection hg with h1 h2
     subst h1 h2
     left
     cases o with
     | some q=>cases hp
     | none =>
       simp only [popP] at hp
       split at hp
       · rename_i hz
         exact ⟨rfl,List.getLast?_eq_none_iff.mp hz,by simp,rfl⟩
       · cases hp
   | some x =>
     obtain ⟨p,stk1⟩:=x
     rw [hp] at hg
     simp only at hg
     have hpl:=am6 hp
     right
     cases hs:stAt kb p with
     | none=>rw [hs] at hg; cases hg
     | some s =>
       rw [hs] at hg
       simp only at hg
       cases hx:onK kb bs p stk1 ws s with
       | none=>rw [hx] at hg; cases hg
       | some x =>
         rw [hx] at hg
         refine ⟨p,stk1,s,x,rfl,hs,hx,fun r' e=>?_,fun sd1' o2 stk2 ws2 e k1 k2 k3=>?_⟩
         · subst e
           injection hg with hg
           injection hg with h1 h2
           subst h1 h2
           exact ⟨by simp,rfl⟩
         · subst e
           obtain ⟨y,hy,hz⟩:=Option.map_eq_some_iff.mp hg
           injection hz with h1 h2
           subst h1 h2
           exact ⟨m,by omega,⟨y.1,hy,by rw [List.append_assoc]⟩,k3,by omega,by rw [List.length_append]; omega⟩
def bl6 (K:PySem.W.Frag) (C CK:Addr):Sp:=fun vs H Q _=>∃ (p ps pa:Addr) (v:V) (bs:List (Str×Int)) (kb:List KB) (o:Option Pl) (stk:List Pl) (ws:List Int) (n:Nat) (sd:List Str) (r:Option Std),vs=[.ref p,v,.ref ps,.ref pa]∧TeAt C CK H p bs kb∧KOk bs kb∧PlO H v o∧StkAt H ps stk∧H pa=some (.tup (ws.map V.int))∧ws.length=bs.length∧tgoF kb bs n o stk ws=some (sd,r)∧stk.length+n≤900000 ∧
 ∀ p' l v' H',Same H H'→H' p'=some (.tup [.ref l,v'])→H l=none→H' l=some (.lst (a31 sd))→StdAt H' v' r→Q (.ref p') H'
theorem a83 (T:Txt K mg t):FnOk P w K mg base CX0 16 t.a_Teller_gone_on t.fd_Teller_gone_on ["self","place","stack","values"] (bl6 K t.c_Teller t.c_KeptBody):=by
 have G_Teller_settled:=a82 (P:=P) (w:=w) (base:=base) T
 have G_Teller_stack_behind:=a99 (P:=P) (w:=w) (base:=base) T
 have G_Teller_statement_at:=a54 (P:=P) (w:=w) (base:=base) T
 have G_Teller_way_on:=af2 (P:=P) (w:=w) (base:=base) T
 have G_said_text:=aq8 (P:=P) (w:=w) (base:=base) T
 have G_values_put:=am2 (P:=P) (w:=w) (base:=base) T
 refine T.f_Teller_gone_on.F.ok sc_Teller_gone_on (fun vs H Q E h=>?_) (fun cdv A outer s H vs Q E hr h=>?_)
 · obtain ⟨p,ps,pa,v,bs,kb,o,stk,ws,n,sd,r,rfl,_⟩:=h
   rfl
 · obtain ⟨p,ps,pa,v,bs,kb,o,stk,ws,n,sd0,r,rfl,hT,hk,hv,hst,hpa,hwl,hgo,hsl,q⟩:=h
   refine ⟨_,(@a01 _ _ _ _ _ (@a18 _ _ 4 _ _ _ _ sc_Teller_gone_on.nd rfl (by walk_at "o") (@a23 _ _ _ _ (@a02 _)) (by rfl) (by walk_at "o"))
    (@a01 _ _ _ _ _ (@a18 _ _ 1 _ _ _ _ sc_Teller_gone_on.nd rfl (by walk_at "o") (a61 (pv 0) T.cl_Teller T.f_Teller_settled.M G_Teller_settled (hr.mono (by omega)) T.f_Teller_settled.b .nil a30 (@a00 _ _ _ _ _ (pv 1) (@a02 _) (by rfl))) (by rfl) (by walk_at "o"))
    (@a01 _ _ _ _ _ (@af4 _ _ _ _ _ _ PassesOwn.never (@ah2 _ _ _ (@PW.pt _ _ _ (@az8 _ _ _ _ _ _ _ (@a12 _ _ _ _ _ _ _ _ af9 (pv 1) (@a45 _ _ _) (nomark _)) (@an3 _ _ _ _ (@a12 _ _ _ _ _ _ _ _ bg2 (@a69 _ _ _ _ _ _ _ _ _ (aa5 K) (by rfl) T.z_len ae7 (@a00 _ _ _ _ _ (pv 2) (@a02 _) (by rfl)) (by decide) (by decide) (by rfl) (by rfl)) (@a03 _ _ _ _) (nomark _)))))) (@a48 _ _ _ _ _ (@a36 _ _ _ _ _ _ _ _ (@a12 _ _ _ _ _ _ _ _ aa8 (pv 1) (@a45 _ _ _) (nomark _)) (@a01 _ _ _ _ _ (@a18 _ _ 1 _ _ _ _ sc_Teller_gone_on.nd rfl (by walk_at "o") (@a22 _ _ _ _ _ _ _ (a07 K) (pv 2) (@bp2 _ _ _ _ _ _ bd2 (@a03 _ _ _ _)) (fun _ _=>rfl)) (by rfl) (by walk_at "o"))
     (@a04 _ _ _ (@a18 _ _ 2 _ _ _ _ sc_Teller_gone_on.nd rfl (by walk_at "o") (@a70 _ _ _ _ _ _ _ _ _ _ ba1 (pv 2) (@ac3 _) (@a84 _ _ _ (@bp2 _ _ _ _ _ _ bd2 (@a03 _ _ _ _)))) (by rfl) (by walk_at "o")))) (@a20 _))
     (@a01 _ _ _ _ _ (@a18 _ _ 5 _ _ _ _ sc_Teller_gone_on.nd rfl (by walk_at "o") (a61 (pv 0) T.cl_Teller T.f_Teller_statement_at.M G_Teller_statement_at (hr.mono (by omega)) T.f_Teller_statement_at.b .nil a30 (@a00 _ _ _ _ _ (pv 1) (@a02 _) (by rfl))) (by rfl) (by walk_at "o"))
     (@a01 _ _ _ _ _ (@a18 _ _ 6 _ _ _ _ sc_Teller_gone_on.nd rfl (by walk_at "o") (@a22 _ _ _ _ _ _ _ (a07 K) (pv 5) (@a03 _ _ _ _) (fun _ _=>rfl)) (by rfl) (by walk_at "o"))
     (@a01 _ _ _ _ _ (@a36 _ _ _ _ _ _ _ _ (@a12 _ _ _ _ _ _ _ _ a41 (pv 6) (@a06 _ _ _ _) (nomark _)) (@a04 _ _ _ (@a16 _ _ _ _ (@a15 _ _ _ _ _ (@a00 _ _ _ _ _ (pv 4) (@a00 _ _ _ _ _ (@a15 _ _ _ _ _ (@a00 _ _ _ _ _ (pv 1) (@a00 _ _ _ _ _ (pv 2) (@a00 _ _ _ _ _ (pv 3) (@a00 _ _ _ _ _ (@a22 _ _ _ _ _ _ _ (a07 K) (pv 5) (@a03 _ _ _ _) (fun _ _=>rfl)) (@a02 _) (by rfl)) (by rfl)) (by rfl)) (by rfl))) (@a02 _) (by rfl)) (by rfl))))) (@a20 _))
     (@a01 _ _ _ _ _ (@a36 _ _ _ _ _ _ _ _ (@a12 _ _ _ _ _ _ _ _ a41 (pv 6) (@a06 _ _ _ _) (nomark _)) (@a04 _ _ _ (@a16 _ _ _ _ (@a15 _ _ _ _ _ (@a00 _ _ _ _ _ (pv 4) (@a00 _ _ _ _ _ (@a45 _ _ _) (@a02 _) (by rfl)) (by rfl))))) (@a20 _))
     (@a48 _ _ _ _ _ (@a36 _ _ _ _ _ _ _ _ (@ah2 _ _ _ (@PW.pt _ _ _ (@az8 _ _ _ _ _ _ _ (@a12 _ _ _ _ _ _ _ _ a41 (pv 6) (@a06 _ _ _ _) (nomark _)) (@an3 _ _ _ _ (@a12 _ _ _ _ _ _ _ _ a41 (pv 6) (@a06 _ _ _ _) (nomark _)))))) (@a04 _ _ _ (@a49 _ _ _ _ (@a64 _ K _ _ _ _ _ _ _ _ _ _ _ PySem.F.plainAttrs_list PySem.F.slot_list_append PySem.F.type_list_append a43 (pv 4) (@a00 _ _ _ _ _ (@a26 _ _ _ _ _ _ _ _ _ _ _ _ _ _ _ _ G_said_text (hr.mono (by omega)) rfl T.f_said_text.m T.f_said_text.F.kp T.f_said_text.b .nil a30 (@a00 _ _ _ _ _ (pv 5) (@a02 _) (by rfl)) (by decide) (by rfl) (by rfl)) (@a02 _) (by rfl)) (by rfl) (by rfl) (by rfl) (by rfl) (by rfl) (by rfl)) (by rfl))) (@a20 _))
     (@a48 _ _ _ _ _ (@a36 _ _ _ _ _ _ _ _ (@a12 _ _ _ _ _ _ _ _ a41 (pv 6) (@a06 _ _ _ _) (nomark _)) (@a04 _ _ _ (@a18 _ _ 3 _ _ _ _ sc_Teller_gone_on.nd rfl (by walk_at "o") (@a26 _ _ _ _ _ _ _ _ _ _ _ _ _ _ _ _ G_values_put (hr.mono (by omega)) rfl T.f_values_put.m T.f_values_put.F.kp T.f_values_put.b .nil a30 (@a00 _ _ _ _ _ (a47 K (pv 0) rfl) (@a00 _ _ _ _ _ (pv 3) (@a00 _ _ _ _ _ (@a22 _ _ _ _ _ _ _ (a07 K) (pv 5) (@a03 _ _ _ _) (fun _ _=>rfl)) (@a00 _ _ _ _ _ (@a22 _ _ _ _ _ _ _ (a07 K) (pv 5) (@a03 _ _ _ _) (fun _ _=>rfl)) (@a02 _) (by rfl)) (by rfl)) (by rfl)) (by rfl)) (by decide) (by rfl) (by rfl)) (by rfl) (by walk_at "o"))) (@a20 _))
     (@a48 _ _ _ _ _ (@a36 _ _ _ _ _ _ _ _ (@a12 _ _ _ _ _ _ _ _ a41 (pv 6) (@a06 _ _ _ _) (nomark _)) (@a04 _ _ _ (@a18 _ _ 2 _ _ _ _ sc_Teller_gone_on.nd rfl (by walk_at "o") (a61 (pv 0) T.cl_Teller T.f_Teller_stack_behind.M G_Teller_stack_behind (hr.mono (by omega)) T.f_Teller_stack_behind.b .nil a30 (@a00 _ _ _ _ _ (pv 1) (@a00 _ _ _ _ _ (pv 2) (@a02 _) (by rfl)) (by rfl))) (by rfl) (by walk_at "o"))) (@a20 _))
     (@a04 _ _ _ (@a18 _ _ 1 _ _ _ _ sc_Teller_gone_on.nd rfl (by walk_at "o") (a61 (pv 0) T.cl_Teller T.f_Teller_settled.M G_Teller_settled (hr.mono (by omega)) T.f_Teller_settled.b .nil a30 (@a00 _ _ _ _ _ (a61 (pv 0) T.cl_Teller T.f_Teller_way_on.M G_Teller_way_on (hr.mono (by omega)) T.f_Teller_way_on.b .nil a30 (@a00 _ _ _ _ _ (pv 1) (@a00 _ _ _ _ _ (pv 5) (@a00 _ _ _ _ _ (pv 3) (@a02 _) (by rfl)) (by rfl)) (by rfl))) (@a02 _) (by rfl))) (by rfl) (by walk_at "o"))))))))))))
    (@a04 _ _ _ (@a16 _ _ _ _ (@a15 _ _ _ _ _ (@a00 _ _ _ _ _ (pv 4) (@a00 _ _ _ _ _ (@a45 _ _ _) (@a02 _) (by rfl)) (by rfl)))))))),?_⟩
   obtain ⟨dx,bl,kl,bvs,kvs,h1,h2,h3,h4,h5⟩:=hT.ex
   unfold tgoF at hgo
   split at hgo
   · cases hgo
   rename_i o1 ho1
   walk_at "go"
   intro ls H1 f1 s1 e1
   walk_at "run"
   refine ⟨p,dx,_,rfl,s1 _ _ h1,a80 _ _ (by decide +kernel) (by decide +kernel),?_⟩
   walk_at "run"
   refine ⟨p,v,bs,kb,o,_,o1,rfl,hT.same s1,hv.same s1,ho1,fun v2 H2 s2 hv2=>?_⟩
   walk_at "run"
   have s12:=s1.trans s2
   obtain ⟨Pv,hPv⟩:∃ Pv:Nat→St→Hp→Prop,Pv=(fun m σ H'=>∃ (v:V) (o:Option Pl) (ps pa:Addr) (stk:List Pl) (ws:List Int) (sd:List Str) (y1 y2:Option V),σ=[some (.ref p),some v,some (.ref ps),some (.ref pa),some (.ref ls),y1,y2]∧Same H H'∧H' ls=some (.lst (a31 sd))∧PlO H' v o∧StkAt H' ps stk∧H' pa=some (.tup (ws.map V.int))∧TgI kb bs m n o stk ws sd sd0 r):=⟨_,rfl⟩
   refine al7 Pv n (by rw [hPv]; exact ⟨v2,o1,ps,pa,stk,ws,[],_,_,rfl,s12,s2 _ _ e1,hv2,hst.same s12,s12 _ _ hpa,⟨sd0,hgo,rfl⟩,hwl,hsl,by simp; omega⟩) ?_
   intro m σ H3 hI
   rw [hPv] at hI
   obtain ⟨v3,o3,ps3,pa3,stk3,ws3,sd3,y1,y2,rfl,s3,hls,hv3,hst3,hpa3,hI⟩:=hI
   refine aq0 (o3≠none∨stk3≠[]) (fun R hR=>?_) ?_
   · walk_at "run"
     cases o3 with
     | some pl =>
       obtain ⟨a,rfl,ha⟩:=hv3
       refine ak1 (fun z=>nomatch z) ?_
       exact rT hR (.inl (fun z=>nomatch z))
     | none =>
       obtain rfl:v3=.non:=hv3
       refine ak2 rfl ?_
       walk_at "run"
       obtain ⟨us,hus,hE⟩:=hst3
       refine bu8 (SqT.of hus) ?_
       walk_at "run"
       have hul:=hE.1
       by_cases hz:stk3=[]
       · subst hz
         rw [decide_eq_false (by rw [hul]; simp)]
         exact rF hR (fun z=>by rcases z with z | z; exact z rfl; exact z rfl)
       · have:0<stk3.length:=List.length_pos_iff.mpr hz
         rw [decide_eq_true (by rw [hul]; omega)]
         exact rT hR (.inr hz)
   rcases hI.pop with ⟨rfl,rfl,rfl,rfl⟩ | ⟨pl,stk4,s',x,hp,hs,hx,hdone,hnext⟩
   · refine a24 (fun z=>by rcases z with z | z; exact z rfl; exact z rfl) ?_
     walk_at "run"
     intro po H4 f4 s4 e4
     exact q po ls .non H4 (s3.trans s4) e4 f1 (s4 _ _ hls) rfl
   have hne:o3≠none∨stk3≠[]:=by
    cases o3 with
    | some _=>exact .inl (fun z=>nomatch z)
    | none=>exact .inr (fun z=>by rw [z] at hp; cases hp)
   refine a25 hne ?_
   refine ⟨fun σ' H'=>∃ m',m'<m∧Pv m' σ' H',fun σ' H' h'=>h',?_⟩
   have hwl3:=hI.wl
   have hdl3:=hI.dl
   have hsl3:=hI.sl
   refine ac1 (fun σ' H'=>∃ (a ps4:Addr),σ'=[some (.ref p),some (.ref a),some (.ref ps4),some (.ref pa3),some (.ref ls),y1,y2]∧Same H3 H'∧H' a=some (.tup [.int (pl.1:Nat),.int (pl.2:Nat)])∧StkAt H' ps4 stk4) ?_ ?_
   · walk_at "run"
     cases o3 with
     | some pl0 =>
       obtain ⟨a,rfl,ha⟩:=hv3
       obtain ⟨rfl,rfl⟩:pl0=pl∧stk3=stk4:=by simpa [popP] using hp
       refine a24 (fun z=>nomatch z) ?_
       walk_at "run"
       exact ⟨a,ps3,rfl,Same.refl _,ha,hst3⟩
     | none =>
       obtain rfl:v3=.non:=hv3
       refine a25 rfl ?_
       walk_at "run"
       obtain ⟨us,hus,hE⟩:=hst3
       have hsn:∃ t',stk3=t'++[pl]∧stk4=t':=by
        simp only [popP] at hp
        split at hp
        · cases hp
        · rename_i z hz
          simp only [Option.some.injEq,Prod.mk.injEq] at hp
          obtain ⟨rfl,rfl⟩:=hp
          exact ⟨stk3.dropLast,(bl5 hz).symm,rfl⟩
       obtain ⟨t',rfl,rfl⟩:=hsn
       obtain ⟨us',u,rfl⟩:∃ us' u,us=us'++[u]:=by
        rcases List.eq_nil_or_concat us with z | ⟨x,y,z⟩
        · subst z
          have:=hE.1
          simp at this
        · exact ⟨x,y,by rw [z,List.concat_eq_append]⟩
       have hul:us'.length=stk4.length:=by have:=hE.1; simpa using this
       obtain ⟨a,rfl,ha⟩:=hE.2 us'.length u pl (by simp) (by rw [hul]; simp)
       refine a27 (SqT.of hus) (b82 _ _) ?_
       walk_at "run"
       refine c40 hus ?_
       rw [(b98 _ _).1]
       intro p4 H4 s4 e4
       refine ⟨a,p4,rfl,s4,s4 _ _ ha,_,e4,?_⟩
       have:=(hE.take us'.length).mono fun _ _ z=>Pl.At.same z s4
       rw [List.take_left' rfl,hul,List.take_left' rfl] at this
       exact this
   rintro σ' H4 ⟨a,ps4,rfl,s4,ha,hst4⟩
   have s34:=s3.trans s4
   walk_at "run"
   refine ⟨p,dx,_,rfl,s34 _ _ h1,a80 _ _ (by decide +kernel) (by decide +kernel),?_⟩
   walk_at "run"
   refine ⟨p,_,bs,kb,pl,s',rfl,hT.same s34,⟨a,rfl,ha⟩,hs,fun vs' hvs=>?_⟩
   walk_at "run"
   obtain ⟨sa,us,rfl,hsa,hus⟩:=KS.word_at hvs
   refine a27 (SqT.of hsa) (a05 (j:=0) rfl) ?_
   walk_at "run"
   have hls4:=s4 _ _ hls
   by_cases w1:s'.word=Str.ofString "wait"
   · refine a25 w1 ?_
     walk_at "run"
     obtain ⟨l,br,w',rfl⟩:=au1 w1
     obtain ⟨v1,u1,rfl,k1,hus⟩:=ats_cons0.mp hus
     obtain rfl:=at_int0.mp k1
     rw [am3] at hx
     obtain rfl:=Option.some.inj hx
     obtain ⟨rfl,rfl⟩:=hdone _ rfl
     refine a27 (SqT.of hsa) (a05 (j:=1) rfl) ?_
     walk_at "run"
     intro p5 H5 f5 s5 e5
     walk_at "run"
     intro p6 H6 f6 s6 e6
     have s56:=s5.trans s6
     have s46:=s4.trans s56
     exact q p6 ls _ H6 (s34.trans s56) e6 f1 (s46 _ _ hls) ⟨p5,_,ps4,pa3,rfl,s6 _ _ e5,⟨a,rfl,s56 _ _ ha⟩,hst4.same s56,s46 _ _ hpa3⟩
   refine a24 w1 ?_
   walk_at "run"
   by_cases w2:s'.word=Str.ofString "stop"
   · refine a25 w2 ?_
     walk_at "run"
     obtain rfl:=au0 w2
     rw [am4] at hx
     obtain rfl:=Option.some.inj hx
     obtain ⟨rfl,rfl⟩:=hdone _ rfl
     intro p6 H6 f6 s6 e6
     exact q p6 ls .non H6 (s34.trans s6) e6 f1 (s6 _ _ hls4) rfl
   refine a24 w2 ?_
   walk_at "run"
   obtain ⟨stk5,wy,o5,k1,k2,k3,rfl⟩:=b56 w1 w2 hx
   obtain ⟨m',hm',hI'⟩:=hnext _ _ _ _ rfl (aw3 k1) (by0 _) (am5 hwl3)
   have hok:=hk.at hs
   refine ac1 (fun σ' H'=>σ'=[some (.ref p),some (.ref a),some (.ref ps4),some (.ref pa3),some (.ref ls),some (.ref sa),some (.str s'.word)]∧Same H H'∧H' ls=some (.lst (a31 (sd3++s'.sd)))∧H' a=some (.tup [.int (pl.1:Nat),.int (pl.2:Nat)])∧StkAt H' ps4 stk4∧H' pa3=some (.tup (ws3.map V.int))∧s'.tr.At H' (.ref sa) []) ?_ ?_
   · walk_at "run"
     refine aq0 (s'.word=Str.ofString "say"∨s'.word=Str.ofString "hand") (fun R hR=>?_) ?_
     · walk_at "run"
       by_cases hh:s'.word=Str.ofString "say"
       · refine a25 hh ?_
         exact rT hR (.inl hh)
       · refine a24 hh ?_
         walk_at "run"
         by_cases h7:s'.word=Str.ofString "hand"
         · rw [decide_eq_true h7]
           exact rT hR (.inr h7)
         · rw [decide_eq_false h7]
           exact rF hR (fun z=>by rcases z with z | z; exact hh z; exact h7 z)
     by_cases w3:s'.word=Str.ofString "say"∨s'.word=Str.ofString "hand"
     · refine a25 w3 ?_
       walk_at "run"
       obtain ⟨w',hw'⟩:=bl0 w3
       refine ab4 (SqL.of hls4) ?_
       walk_at "run"
       refine ⟨_,s',w',_,rfl,hvs,hok,hw',?_⟩
       walk_at "run"
       refine a51 hls4 (by have:(1000000:Nat)≤sizeLine:=le_line (Nat.le_refl _); simp only [a31,List.length_map]; omega) ?_
       walk_at "run"
       have tU:Tups H4 (upd H4 ls (.lst (a31 sd3++[V.str w']))):=Tups.upd hls4
       have tt:=hvs.mono (Keep.upd (fs:=[]) (o:=.lst (a31 sd3++[V.str w'])) hls4 (by simp))
       obtain ⟨us4,hu4,hE4⟩:=hst4
       refine ⟨rfl,s34.updNew f1,by rw [a19,hw']; simp [a31],tU _ _ ha,⟨us4,tU _ _ hu4,hE4.mono fun _ _ z=>by obtain ⟨b,z1,z2⟩:=z; exact ⟨b,z1,tU _ _ z2⟩⟩,tU _ _ (s4 _ _ hpa3),tt⟩
     · refine a24 w3 ?_
       walk_at "run"
       exact ⟨rfl,s34,by rw [b55 w3,List.append_nil]; exact hls4,ha,hst4,s4 _ _ hpa3,hvs⟩
   rintro σ' H5 ⟨rfl,s5,hls5,ha5,hst5,hpa5,hvs5⟩
   obtain ⟨sa',us5,hz,hsa5,hus5⟩:=KS.word_at hvs5
   cases hz
   refine ac1 (fun σ' H'=>∃ pa6,σ'=[some (.ref p),some (.ref a),some (.ref ps4),some (.ref pa6),some (.ref ls),some (.ref sa),some (.str s'.word)]∧Same H5 H'∧H' pa6=some (.tup ((s'.vals bs ws3).map V.int))) ?_ ?_
   · walk_at "run"
     by_cases w4:s'.word=Str.ofString "put"
     · refine a25 w4 ?_
       walk_at "run"
       obtain ⟨nm,e,rfl⟩:=bx7 w4
       obtain ⟨v1,u1,rfl,j1,hus5⟩:=ats_cons0.mp hus5
       obtain ⟨v2',u2,rfl,j2,hus5⟩:=ats_cons0.mp hus5
       obtain rfl:=at_str0.mp j1
       refine ⟨p,_,dx,_,_,rfl,s5 _ _ h1,T.cl_Teller,T.n_Teller_boxes,ah7 _ _,?_⟩
       walk_at "run"
       refine a27 (SqT.of hsa5) (a05 (j:=1) rfl) ?_
       walk_at "run"
       refine a27 (SqT.of hsa5) (a05 (j:=2) rfl) ?_
       walk_at "run"
       exact ⟨bl,pa3,bvs,bs,ws3,nm,e,v2',rfl,s5 _ _ h2,h3.mono fun _ _ z=>z.same s5,hk.bz,hk.bl,hpa5,hwl3,aq1 j2,hok.2,hok.1,fun p6 H6 s6 e6=>⟨p6,rfl,s6,e6⟩⟩
     · refine a24 w4 ?_
       walk_at "run"
       exact ⟨pa3,rfl,Same.refl _,by rw [bl4 w4]; exact hpa5⟩
   rintro σ' H6 ⟨pa6,rfl,s6,hpa6⟩
   have s56:=s5.trans s6
   refine ac1 (fun σ' H'=>∃ ps7,σ'=[some (.ref p),some (.ref a),some (.ref ps7),some (.ref pa6),some (.ref ls),some (.ref sa),some (.str s'.word)]∧Same H6 H'∧StkAt H' ps7 stk5) ?_ ?_
   · walk_at "run"
     by_cases w5:s'.word=Str.ofString "call"
     · refine a25 w5 ?_
       walk_at "run"
       obtain ⟨nc,rfl⟩:=b54 w5
       refine ⟨p,dx,_,rfl,s56 _ _ h1,a80 _ _ (by decide +kernel) (by decide +kernel),?_⟩
       walk_at "run"
       have:=am6 hp
       exact ⟨p,ps4,_,bs,kb,pl,stk4,stk5,nc,rfl,hT.same s56,⟨a,rfl,s6 _ _ ha5⟩,hst5.same s6,by omega,k1,fun ps7 H7 s7 e7=>⟨ps7,rfl,s7,e7⟩⟩
     · refine a24 w5 ?_
       walk_at "run"
       rw [b57 w5] at k1
       obtain rfl:=Option.some.inj k1
       exact ⟨ps4,rfl,Same.refl _,hst5.same s6⟩
   rintro σ' H7 ⟨ps7,rfl,s7,hst7⟩
   have s67:=s6.trans s7
   have s57:=s5.trans s67
   walk_at "run"
   refine ⟨p,dx,_,rfl,s57 _ _ h1,a80 _ _ (by decide +kernel) (by decide +kernel),?_⟩
   walk_at "run"
   refine ⟨p,dx,_,rfl,s57 _ _ h1,a80 _ _ (by decide +kernel) (by decide +kernel),?_⟩
   walk_at "run"
   refine ⟨p,pa6,_,_,bs,kb,pl,s',_,wy,rfl,hT.same s57,⟨a,rfl,s67 _ _ ha5⟩,hvs5.same s67,hok,hk.bl,s7 _ _ hpa6,am5 hwl3,k2,fun v8 H8 s8 hv8=>?_⟩
   walk_at "run"
   refine ⟨p,_,bs,kb,wy,_,o5,rfl,hT.same (s57.trans s8),hv8,k3,fun v9 H9 s9 hv9=>?_⟩
   rw [hPv]
   have s79:=s8.trans s9
   have s69:=s7.trans s79
   exact ⟨m',hm',v9,o5,ps7,pa6,stk5,_,_,_,_,rfl,s57.trans s79,(s67.trans s79) _ _ hls5,hv9,hst7.same s79,s69 _ _ hpa6,hI'⟩
noncomputable def ar1 (kb:List KB) (bs:List (Str×Int)) (n:Nat):Option Std→Tr→Option (List Str×Option Std)
 | none,_=>some ([],none)
 | some (p,stk,ws,l),e=>match stAt kb p with
   | some (.wait _ br w)=>match weF br e with
     | some q=>tgoF kb bs n (some q) stk ws
     | none=>match ae5 (p,stk,ws,l) with
       | some r=>some ([],some r)
       | none=>tgoF kb bs n (some w) stk ws
   | _=>none
theorem aw4 {kb:List KB}{bs:List (Str×Int)}{n:Nat}{p:Pl}{stk:List Pl}{ws:List Int}{l:Int}{e:Tr}{x:List Str×Option Std}(h:ar1 kb bs n (some (p,stk,ws,l)) e=some x):∃ l' br w,stAt kb p=some (.wait l' br w)∧(match weF br e with
 | some q=>tgoF kb bs n (some q) stk ws
 | none=>match ae5 (p,stk,ws,l) with
   | some r=>some ([],some r)
   | none=>tgoF kb bs n (some w) stk ws)=some x:=by
 simp only [ar1] at h
 split at h
 · rename_i l' br w hs
   exact ⟨l',br,w,hs,h⟩
 · cases h
def bb9 (K:PySem.W.Frag) (C CK:Addr):Sp:=fun vs H Q _=>∃ (p:Addr) (wv sv ev:V) (bs:List (Str×Int)) (kb:List KB) (pl:Pl) (stk:List Pl) (ws:List Int) (l l':Int) (br:List (List Pt×Pl)) (w:Pl) (e:Tr) (n:Nat) (sd:List Str) (r:Option Std),vs=[.ref p,wv,sv,ev]∧TeAt C CK H p bs kb∧KOk bs kb∧(KS.wait l' br w).tr.At H wv []∧StdAt H sv (some (pl,stk,ws,l))∧e.AtK K H ev∧e.h≤5∧ws.length=bs.length∧stk.length+n≤900000 ∧
 (match weF br e with
  | some q=>tgoF kb bs n (some q) stk ws
  | none=>match ae5 (pl,stk,ws,l) with
    | some r=>some ([],some r)
    | none=>tgoF kb bs n (some w) stk ws)=some (sd,r) ∧
 ∀ p' l v' H',Same H H'→H' p'=some (.tup [.ref l,v'])→H l=none→H' l=some (.lst (a31 sd))→StdAt H' v' r→Q (.ref p') H'
theorem az2 (T:Txt K mg t):FnOk P w K mg base CX0 17 t.a_stepped t.fd_stepped ["machine","wait","standing","event"] (bb9 K t.c_Teller t.c_KeptBody):=by
 have G_Teller_gone_on:=a83 (P:=P) (w:=w) (base:=base) T
 have G_rested_on:=aq9 (P:=P) (w:=w) (base:=base) T
 have G_way_of_event:=ai4 (P:=P) (w:=w) (base:=base) T
 refine T.f_stepped.F.ok sc_stepped (fun vs H Q E h=>?_) (fun cdv A outer s H vs Q E hr h=>?_)
 · obtain ⟨p,wv,sv,ev,bs,kb,pl,stk,ws,l,l',br,w',e,n,sd,r,rfl,_⟩:=h
   rfl
 · obtain ⟨p,wv,sv,ev,bs,kb,pl,stk,ws,l,l',br,w',e,n,sd,r,rfl,hT,hk,hw,hs,he,heh,hwl,hsl,hst,q⟩:=h
   refine ⟨_,(@a01 _ _ _ _ _ (@a18 _ _ 4 _ _ _ _ sc_stepped.nd rfl (by walk_at "o") (@a26 _ _ _ _ _ _ _ _ _ _ _ _ _ _ _ _ G_way_of_event (hr.mono (by omega)) rfl T.f_way_of_event.m T.f_way_of_event.F.kp T.f_way_of_event.b .nil a30 (@a00 _ _ _ _ _ (@a22 _ _ _ _ _ _ _ (a07 K) (pv 1) (@a03 _ _ _ _) (fun _ _=>rfl)) (@a00 _ _ _ _ _ (pv 3) (@a02 _) (by rfl)) (by rfl)) (by decide) (by rfl) (by rfl)) (by rfl) (by walk_at "o"))
    (@a48 _ _ _ _ _ (@a36 _ _ _ _ _ _ _ _ (@a12 _ _ _ _ _ _ _ _ aa8 (pv 4) (@a45 _ _ _) (nomark _)) (@a01 _ _ _ _ _ (@a18 _ _ 5 _ _ _ _ sc_stepped.nd rfl (by walk_at "o") (@a26 _ _ _ _ _ _ _ _ _ _ _ _ _ _ _ _ G_rested_on (hr.mono (by omega)) rfl T.f_rested_on.m T.f_rested_on.F.kp T.f_rested_on.b .nil a30 (@a00 _ _ _ _ _ (pv 2) (@a02 _) (by rfl)) (by decide) (by rfl) (by rfl)) (by rfl) (by walk_at "o"))
     (@a01 _ _ _ _ _ (@a36 _ _ _ _ _ _ _ _ (@a12 _ _ _ _ _ _ _ _ af9 (pv 5) (@a45 _ _ _) (nomark _)) (@a04 _ _ _ (@a16 _ _ _ _ (@a15 _ _ _ _ _ (@a00 _ _ _ _ _ (@a23 _ _ _ _ (@a02 _)) (@a00 _ _ _ _ _ (pv 5) (@a02 _) (by rfl)) (by rfl))))) (@a20 _))
     (@a04 _ _ _ (@a18 _ _ 4 _ _ _ _ sc_stepped.nd rfl (by walk_at "o") (@a22 _ _ _ _ _ _ _ (a07 K) (pv 1) (@a03 _ _ _ _) (fun _ _=>rfl)) (by rfl) (by walk_at "o"))))) (@a20 _))
    (@a04 _ _ _ (@a16 _ _ _ _ (a61 (pv 0) T.cl_Teller T.f_Teller_gone_on.M G_Teller_gone_on (hr.mono (by omega)) T.f_Teller_gone_on.b .nil a30 (@a00 _ _ _ _ _ (pv 4) (@a00 _ _ _ _ _ (@a22 _ _ _ _ _ _ _ (a07 K) (pv 2) (@a03 _ _ _ _) (fun _ _=>rfl)) (@a00 _ _ _ _ _ (@a22 _ _ _ _ _ _ _ (a07 K) (pv 2) (@a03 _ _ _ _) (fun _ _=>rfl)) (@a02 _) (by rfl)) (by rfl)) (by rfl))))))),?_⟩
   obtain ⟨dx,bl,kl,bvs,kvs,h1,h2,h3,h4,h5⟩:=hT.ex
   obtain ⟨wa,us,rfl,hwa,hus⟩:=KS.word_at hw
   obtain ⟨v1,u1,rfl,j1,hus⟩:=ats_cons0.mp hus
   obtain ⟨v2,u2,rfl,j2,hus⟩:=ats_cons0.mp hus
   obtain ⟨v3,u3,rfl,j3,hus⟩:=ats_cons0.mp hus
   have j3:=pl_tr.mp j3
   have hs0:=hs
   obtain ⟨sa,pv',ps,pa,rfl,hsa,i1,i2,i3⟩:=hs
   walk_at "go"
   refine a27 (SqT.of hwa) (a05 (j:=2) rfl) ?_
   walk_at "run"
   refine ⟨v2,ev,br,e,rfl,j2,he,heh,fun v4 hv4=>?_⟩
   walk_at "run"
   refine ac1 (fun σ' H'=>∃ (v5:V) (q5:Pl) (y:Option V),σ'=[some (.ref p),some (.ref wa),some (.ref sa),some ev,some v5,y]∧Same H H'∧Pl.At H' v5 q5∧tgoF kb bs n (some q5) stk ws=some (sd,r)) ?_ ?_
   · walk_at "run"
     cases hwe:weF br e with
     | some q5 =>
       rw [hwe] at hv4 hst
       obtain ⟨a4,rfl,ha4⟩:=hv4
       refine a24 (fun z=>nomatch z) ?_
       walk_at "run"
       exact ⟨_,q5,_,rfl,Same.refl _,⟨a4,rfl,ha4⟩,hst⟩
     | none =>
       rw [hwe] at hv4 hst
       obtain rfl:v4=.non:=hv4
       refine a25 rfl ?_
       walk_at "run"
       refine ⟨_,_,rfl,hs0,fun v5 H5 s5 hv5=>?_⟩
       walk_at "run"
       cases hre:ae5 (pl,stk,ws,l) with
       | some r' =>
         rw [hre] at hv5 hst
         injection hst with hst
         injection hst with z1 z2
         subst z1 z2
         have hn:v5≠.non:=by
          obtain ⟨_,_,_,_⟩:=r'
          obtain ⟨_,_,_,_,rfl,_⟩:=hv5
          exact fun z=>nomatch z
         refine ak1 hn ?_
         walk_at "run"
         intro p6 H6 f6 s6 e6
         walk_at "run"
         intro p7 H7 f7 s7 e7
         exact q p7 p6 v5 H7 (s5.trans (s6.trans s7)) e7 (s5.free f6) (s7 _ _ e6) (hv5.same (s6.trans s7))
       | none =>
         rw [hre] at hv5 hst
         obtain rfl:v5=.non:=hv5
         refine ak2 rfl ?_
         walk_at "run"
         refine a27 (SqT.of (s5 _ _ hwa)) (a05 (j:=3) rfl) ?_
         exact ⟨_,w',_,rfl,s5,j3.same s5,hst⟩
   rintro σ' H' ⟨v5,q5,y,rfl,s5,hv5,hgo⟩
   walk_at "run"
   refine ⟨p,dx,_,rfl,s5 _ _ h1,a80 _ _ (by decide +kernel) (by decide +kernel),?_⟩
   walk_at "run"
   refine a27 (SqT.of (s5 _ _ hsa)) (a05 (j:=1) rfl) ?_
   walk_at "run"
   refine a27 (SqT.of (s5 _ _ hsa)) (a05 (j:=2) rfl) ?_
   walk_at "run"
   exact ⟨p,ps,pa,v5,bs,kb,some q5,stk,ws,n,sd,r,rfl,hT.same s5,hk,hv5,i2.same s5,s5 _ _ i3,hwl,hgo,hsl,fun p6 l6 v6 H6 s6 e1 e2 e3 e4=>q p6 l6 v6 H6 (s5.trans s6) e1 (s5.free e2) e3 e4⟩
def bl7 (K:PySem.W.Frag) (C CK:Addr):Sp:=fun vs H Q _=>∃ (p:Addr) (bs:List (Str×Int)) (kb:List KB) (n:Nat) (sd:List Str) (r:Option Std),vs=[.ref p]∧TeAt C CK H p bs kb∧KOk bs kb∧n≤900000∧tgoF kb bs n (some (0,0)) [] (List.replicate bs.length 0)=some (sd,r) ∧
 ∀ p' l v' H',Same H H'→H' p'=some (.tup [.ref l,v'])→H l=none→H' l=some (.lst (a31 sd))→StdAt H' v' r→Q (.ref p') H'
theorem ai5 (T:Txt K mg t):FnOk P w K mg base CX0 18 t.a_Teller_begin t.fd_Teller_begin ["self"] (bl7 K t.c_Teller t.c_KeptBody):=by
 have G_Teller_gone_on:=a83 (P:=P) (w:=w) (base:=base) T
 have G_first_values:=ai3 (P:=P) (w:=w) (base:=base) T
 refine T.f_Teller_begin.F.ok ai0 (fun vs H Q E h=>?_) (fun cdv A outer s H vs Q E hr h=>?_)
 · obtain ⟨p,bs,kb,n,sd,r,rfl,_⟩:=h
   rfl
 · obtain ⟨p,bs,kb,n,sd,r,rfl,hT,hk,hn,hgo,q⟩:=h
   refine ⟨_,(@a04 _ _ _ (@a16 _ _ _ _ (a61 (pv 0) T.cl_Teller T.f_Teller_gone_on.M G_Teller_gone_on (hr.mono (by omega)) T.f_Teller_gone_on.b .nil a30 (@a00 _ _ _ _ _ (@a15 _ _ _ _ _ (@a00 _ _ _ _ _ (@a03 _ _ _ _) (@a00 _ _ _ _ _ (@a03 _ _ _ _) (@a02 _) (by rfl)) (by rfl))) (@a00 _ _ _ _ _ (@a15 _ _ _ _ _ (@a02 _)) (@a00 _ _ _ _ _ (@a26 _ _ _ _ _ _ _ _ _ _ _ _ _ _ _ _ G_first_values (hr.mono (by omega)) rfl T.f_first_values.m T.f_first_values.F.kp T.f_first_values.b .nil a30 (@a00 _ _ _ _ _ (a47 K (pv 0) rfl) (@a02 _) (by rfl)) (by decide) (by rfl) (by rfl)) (@a02 _) (by rfl)) (by rfl)) (by rfl))))),?_⟩
   obtain ⟨dx,bl,kl,bvs,kvs,h1,h2,h3,h4,h5⟩:=hT.ex
   walk_at "go"
   refine ⟨p,dx,_,rfl,h1,a80 _ _ (by decide +kernel) (by decide +kernel),?_⟩
   walk_at "run"
   intro p1 H1 f1 s1 e1
   walk_at "run"
   intro p2 H2 f2 s2 e2
   walk_at "run"
   have s12:=s1.trans s2
   refine ⟨p,_,dx,_,_,rfl,s12 _ _ h1,T.cl_Teller,T.n_Teller_boxes,ah7 _ _,?_⟩
   walk_at "run"
   refine ⟨bl,bvs,rfl,s12 _ _ h2,by have:=h3.1; have:=hk.bl; omega,fun p3 H3 s3 e3=>?_⟩
   walk_at "run"
   have s13:=s12.trans s3
   rw [h3.1] at e3
   exact ⟨p,p2,p3,_,bs,kb,some (0,0),[],_,n,sd,r,rfl,hT.same s13,hk,⟨p1,rfl,(s2.trans s3) _ _ e1⟩,⟨[],s3 _ _ e2,Each.nil⟩,e3,by simp,hgo,by simpa using hn,fun p6 l6 v6 H6 s6 e1 e2 e3 e4=>q p6 l6 v6 H6 (s13.trans s6) e1 (s13.free e2) e3 e4⟩
def bc0 (K:PySem.W.Frag) (C CK:Addr):Sp:=fun vs H Q _=>∃ (p:Addr) (sv ev:V) (bs:List (Str×Int)) (kb:List KB) (r0:Option Std) (e:Tr) (n:Nat) (sd:List Str) (r:Option Std),vs=[.ref p,sv,ev]∧TeAt C CK H p bs kb∧KOk bs kb∧StdAt H sv r0∧e.AtK K H ev∧e.h≤5∧(∀ x,r0=some x→x.2.2.1.length=bs.length∧x.2.1.length+n≤900000)∧ar1 kb bs n r0 e=some (sd,r) ∧
 ∀ p' l v' H',Same H H'→H' p'=some (.tup [.ref l,v'])→H l=none→H' l=some (.lst (a31 sd))→StdAt H' v' r→Q (.ref p') H'
theorem ai9 (T:Txt K mg t):FnOk P w K mg base CX0 18 t.a_Teller_step t.fd_Teller_step ["self","standing","event"] (bc0 K t.c_Teller t.c_KeptBody):=by
 have G_Teller_statement_at:=a54 (P:=P) (w:=w) (base:=base) T
 have G_stepped:=az2 (P:=P) (w:=w) (base:=base) T
 refine T.f_Teller_step.F.ok ai8 (fun vs H Q E h=>?_) (fun cdv A outer s H vs Q E hr h=>?_)
 · obtain ⟨p,sv,ev,bs,kb,r0,e,n,sd,r,rfl,_⟩:=h
   rfl
 · obtain ⟨p,sv,ev,bs,kb,r0,e,n,sd,r,rfl,hT,hk,hs,he,heh,hb,hst,q⟩:=h
   refine ⟨_,(@a01 _ _ _ _ _ (@a36 _ _ _ _ _ _ _ _ (@a12 _ _ _ _ _ _ _ _ aa8 (pv 1) (@a45 _ _ _) (nomark _)) (@a04 _ _ _ (@a16 _ _ _ _ (@a15 _ _ _ _ _ (@a00 _ _ _ _ _ (@a23 _ _ _ _ (@a02 _)) (@a00 _ _ _ _ _ (@a45 _ _ _) (@a02 _) (by rfl)) (by rfl))))) (@a20 _))
    (@a04 _ _ _ (@a16 _ _ _ _ (@a26 _ _ _ _ _ _ _ _ _ _ _ _ _ _ _ _ G_stepped (hr.mono (by omega)) rfl T.f_stepped.m T.f_stepped.F.kp T.f_stepped.b .nil a30 (@a00 _ _ _ _ _ (pv 0) (@a00 _ _ _ _ _ (a61 (pv 0) T.cl_Teller T.f_Teller_statement_at.M G_Teller_statement_at (hr.mono (by omega)) T.f_Teller_statement_at.b .nil a30 (@a00 _ _ _ _ _ (@a22 _ _ _ _ _ _ _ (a07 K) (pv 1) (@a03 _ _ _ _) (fun _ _=>rfl)) (@a02 _) (by rfl))) (@a00 _ _ _ _ _ (pv 1) (@a00 _ _ _ _ _ (pv 2) (@a02 _) (by rfl)) (by rfl)) (by rfl)) (by rfl)) (by decide) (by rfl) (by rfl))))),?_⟩
   obtain ⟨dx,bl,kl,bvs,kvs,h1,h2,h3,h4,h5⟩:=hT.ex
   walk_at "go"
   cases r0 with
   | none =>
     obtain rfl:sv=.non:=hs
     injection hst with hst
     injection hst with z1 z2
     subst z1 z2
     refine a25 rfl ?_
     walk_at "run"
     intro p6 H6 f6 s6 e6
     walk_at "run"
     intro p7 H7 f7 s7 e7
     exact q p7 p6 _ H7 (s6.trans s7) e7 f6 (s7 _ _ e6) rfl
   | some x =>
     obtain ⟨pl,stk,ws,l⟩:=x
     obtain ⟨b1,b2⟩:=hb _ rfl
     have hs0:=hs
     obtain ⟨sa,pv',ps,pa,rfl,hsa,i1,i2,i3⟩:=hs
     obtain ⟨l',br,w',hw,hm⟩:=aw4 hst
     refine a24 (fun z=>nomatch z) ?_
     walk_at "run"
     refine ⟨p,dx,_,rfl,h1,a80 _ _ (by decide +kernel) (by decide +kernel),?_⟩
     walk_at "run"
     refine a27 (SqT.of hsa) (a05 (j:=0) rfl) ?_
     walk_at "run"
     refine ⟨p,_,bs,kb,pl,_,rfl,hT,i1,hw,fun v6 hv6=>?_⟩
     walk_at "run"
     exact ⟨p,v6,_,ev,bs,kb,pl,stk,ws,l,l',br,w',e,n,sd,r,rfl,hT,hk,hv6,hs0,he,heh,b1,b2,hm,q⟩
theorem b58 {kb:List KB}{bs:List (Str×Int)}:∀ {n:Nat}{o:Option Pl}{stk:List Pl}{ws:List Int}{sd:List Str}{r:Option Std},ws.length=bs.length→goF kb bs n o stk ws=some (sd,r)→∀ x,r=some x→x.2.2.1.length=bs.length∧x.2.1.length≤stk.length+n
 | 0,_,_,_,_,_,_,h=>by cases h
 | n+1,o,stk,ws,sd,r,hw,h=>by
   intro x hx
   subst hx
   simp only [goF] at h
   split at h
   · cases h
   rename_i p stk1 hp
   split at h
   · cases h
   rename_i s hs
   have hpl:=am6 hp
   split at h
   · cases h
   · rename_i r' he
     injection h with h
     injection h with h1 h2
     subst h2
     by_cases w1:s.word=Str.ofString "wait"
     · obtain ⟨l,br,w',rfl⟩:=au1 w1
       rw [am3] at he
       cases he
       exact ⟨hw,by show stk1.length≤_; omega⟩
     by_cases w2:s.word=Str.ofString "stop"
     · obtain rfl:=au0 w2
       rw [am4] at he
       cases he
     obtain ⟨_,_,_,_,_,_,z⟩:=b56 w1 w2 he
     cases z
   · rename_i sd1 o2 stk2 ws2 he
     obtain ⟨y,hy,hz⟩:=Option.map_eq_some_iff.mp h
     injection hz with h1 h2
     have hst:stk2.length≤stk1.length+1∧ws2.length=bs.length:=by
      by_cases w1:s.word=Str.ofString "wait"
      · obtain ⟨l,br,w',rfl⟩:=au1 w1
        rw [am3] at he
        cases he
      by_cases w2:s.word=Str.ofString "stop"
      · obtain rfl:=au0 w2
        rw [am4] at he
        cases he
      obtain ⟨_,_,_,k1,_,_,z⟩:=b56 w1 w2 he
      cases z
      exact ⟨aw3 k1,am5 hw⟩
     have:=b58 (n:=n) hst.2 (show goF kb bs n o2 stk2 ws2=some (y.1,y.2) from hy) x h2
     exact ⟨this.1,by omega⟩
theorem am7 {kb:List KB}{bs:List (Str×Int)}{n:Nat}{o:Option Pl}{stk:List Pl}{ws:List Int}{sd:List Str}{r:Option Std}(hw:ws.length=bs.length) (h:tgoF kb bs n o stk ws=some (sd,r)):∀ x,r=some x→x.2.2.1.length=bs.length∧x.2.1.length≤stk.length+n:=by
 unfold tgoF at h
 split at h
 · cases h
 · exact b58 hw h
theorem b59 {kb:List KB}{bs:List (Str×Int)}{n m:Nat}{r0:Option Std}{e:Tr}{sd:List Str}{r:Option Std}(hr:∀ x,r0=some x→x.2.2.1.length=bs.length∧x.2.1.length≤m) (h:ar1 kb bs n r0 e=some (sd,r)):∀ x,r=some x→x.2.2.1.length=bs.length∧x.2.1.length≤m+n:=by
 cases r0 with
 | none=>cases h; intro x hx; cases hx
 | some y =>
   obtain ⟨pl,stk,ws,l⟩:=y
   obtain ⟨b1,b2⟩:=hr _ rfl
   dsimp only at b1 b2
   obtain ⟨l',br,w',hw,hm⟩:=aw4 h
   intro x hx
   split at hm
   · have:=am7 b1 hm x hx
     exact ⟨this.1,by omega⟩
   · split at hm
     · rename_i r' hr'
       injection hm with hm
       injection hm with z1 z2
       rw [← z2] at hx
       obtain rfl:=Option.some.inj hx
       unfold ae5 at hr'
       split at hr'
       · obtain rfl:=Option.some.inj hr'
         exact ⟨b1,by dsimp only; omega⟩
       · split at hr'
         · cases hr'
         · obtain rfl:=Option.some.inj hr'
           exact ⟨b1,by dsimp only; omega⟩
     · have:=am7 b1 hm x hx
       exact ⟨this.1,by omega⟩
noncomputable def runF (kb:List KB) (bs:List (Str×Int)) (n:Nat):Option Std→List Tr→Option (List (List Str))
 | _,[]=>some []
 | r,e::es=>match ar1 kb bs n r e with
   | none=>none
   | some (sd,r')=>(runF kb bs n r' es).map fun x=>sd::x
def aw5 (H:Hp) (v:V) (sd:List Str):Prop:=∃ a,v=.ref a∧H a=some (.lst (a31 sd))
def EvK (K:PySem.W.Frag) (H:Hp) (v:V) (e:Tr):Prop:=e.AtK K H v∧e.h≤5
theorem EvK.same {K:PySem.W.Frag}{H H':Hp}{v:V}{e:Tr}(h:EvK K H v e) (s:Same H H'):EvK K H' v e:=⟨h.1.mono s.tups,h.2⟩
def by1 (K:PySem.W.Frag) (C CK:Addr):Sp:=fun vs H Q _=>∃ (p a:Addr) (evs:List V) (bs:List (Str×Int)) (kb:List KB) (es:List Tr) (n:Nat) (sd:List Str) (r:Option Std) (sds:List (List Str)),vs=[.ref p,.ref a]∧TeAt C CK H p bs kb∧KOk bs kb∧H a=some (.lst evs)∧Each (EvK K H) evs es∧n≤5000∧es.length≤100∧tgoF kb bs n (some (0,0)) [] (List.replicate bs.length 0)=some (sd,r)∧runF kb bs n r es=some sds ∧
 ∀ l us H',Same H H'→H l=none→H' l=some (.lst us)→Each (aw5 H') us (sd::sds)→Q (.ref l) H'
theorem b60 {kb:List KB}{bs:List (Str×Int)}{n:Nat}:∀ {es:List Tr}{r:Option Std}{sds:List (List Str)},runF kb bs n r es=some sds→sds.length=es.length∧∀ i,i≤es.length→∃ rs:Option Std,runF kb bs n rs (es.drop i)=some (sds.drop i)∧(i=0→rs=r)
 | [],r,sds,h=>by
   cases h
   exact ⟨rfl,fun i hi=>⟨r,by simp [runF],fun _=>rfl⟩⟩
 | e::es,r,sds,h=>by
   have h0:=h
   simp only [runF] at h
   split at h
   · cases h
   rename_i sd r' he
   obtain ⟨x,hx,rfl⟩:=Option.map_eq_some_iff.mp h
   obtain ⟨k1,k2⟩:=b60 hx
   refine ⟨by simp [k1],fun i hi=>?_⟩
   cases i with
   | zero=>exact ⟨r,h0,fun _=>rfl⟩
   | succ i =>
     obtain ⟨rs,h1,_⟩:=k2 i (by simpa using hi)
     exact ⟨rs,by simpa using h1,fun z=>by omega⟩
theorem by2 (T:Txt K mg t):FnOk P w K mg base CX0 19 t.a_run t.fd_run ["machine","events"] (by1 K t.c_Teller t.c_KeptBody):=by
 have G_Teller_begin:=ai5 (P:=P) (w:=w) (base:=base) T
 have G_Teller_step:=ai9 (P:=P) (w:=w) (base:=base) T
 refine T.f_run.F.ok sc_run (fun vs H Q E h=>?_) (fun cdv A outer s H vs Q E hr h=>?_)
 · obtain ⟨p,a,evs,bs,kb,es,n,sd,r,sds,rfl,_⟩:=h
   rfl
 · obtain ⟨p,a,evs,bs,kb,es,n,sd,r,sds,rfl,hT,hk,ha,hE,hn,hel,hgo,hrun,q⟩:=h
   refine ⟨_,(@a01 _ _ _ _ _ (@a18 _ _ 2 _ _ _ _ sc_run.nd rfl (by walk_at "o") (b79 (pv 0) T.cl_Teller T.f_Teller_begin.M G_Teller_begin (hr.mono (by omega)) T.f_Teller_begin.b .nil a30) (by rfl) (by walk_at "o"))
    (@a01 _ _ _ _ _ (@a18 _ _ 3 _ _ _ _ sc_run.nd rfl (by walk_at "o") (@a23 _ _ _ _ (@a00 _ _ _ _ _ (@a58 _ _ _ _ _ _ _ _ _ (al1 K) (by rfl) T.z_list at1 (@a00 _ _ _ _ _ (@a22 _ _ _ _ _ _ _ (a07 K) (pv 2) (@a03 _ _ _ _) (fun _ _=>rfl)) (@a02 _) (by rfl)) (by decide) (by decide) (by rfl) (by rfl)) (@a02 _) (by rfl))) (by rfl) (by walk_at "o"))
    (@a01 _ _ _ _ _ (@ac8 _ _ _ _ _ _ _ _ PassesOwn.never rfl (a40 K (pv 1)) (a17 (i:=4) sc_run.nd rfl (by walk_at "o")) (@a01 _ _ _ _ _ (@a18 _ _ 2 _ _ _ _ sc_run.nd rfl (by walk_at "o") (a61 (pv 0) T.cl_Teller T.f_Teller_step.M G_Teller_step (hr.mono (by omega)) T.f_Teller_step.b .nil a30 (@a00 _ _ _ _ _ (@a22 _ _ _ _ _ _ _ (a07 K) (pv 2) (@a03 _ _ _ _) (fun _ _=>rfl)) (@a00 _ _ _ _ _ (pv 4) (@a02 _) (by rfl)) (by rfl))) (by rfl) (by walk_at "o"))
     (@a04 _ _ _ (@a49 _ _ _ _ (@a64 _ K _ _ _ _ _ _ _ _ _ _ _ PySem.F.plainAttrs_list PySem.F.slot_list_append PySem.F.type_list_append a43 (pv 3) (@a00 _ _ _ _ _ (@a58 _ _ _ _ _ _ _ _ _ (al1 K) (by rfl) T.z_list at1 (@a00 _ _ _ _ _ (@a22 _ _ _ _ _ _ _ (a07 K) (pv 2) (@a03 _ _ _ _) (fun _ _=>rfl)) (@a02 _) (by rfl)) (by decide) (by decide) (by rfl) (by rfl)) (@a02 _) (by rfl)) (by rfl) (by rfl) (by rfl) (by rfl) (by rfl) (by rfl)) (by rfl)))) (by intro _; rfl))
    (@a04 _ _ _ (@a16 _ _ _ _ (pv 3)))))),?_⟩
   obtain ⟨dx,bl,kl,bvs,kvs,h1,h2,h3,h4,h5⟩:=hT.ex
   have hev:=hE.1
   have sl:(1000000:Nat)≤sizeLine:=le_line (Nat.le_refl _)
   walk_at "go"
   refine ⟨p,dx,_,rfl,h1,a80 _ _ (by decide +kernel) (by decide +kernel),?_⟩
   walk_at "run"
   refine ⟨p,bs,kb,n,sd,r,rfl,hT,hk,by omega,hgo,fun p1 l1 v1 H1 s1 e1 f1 e2 e3=>?_⟩
   walk_at "run"
   refine a27 (SqT.of e1) (a05 (j:=0) rfl) ?_
   walk_at "run"
   refine at2 (SqL.of e2) ?_
   intro p2 H2 f2 s2 e4
   walk_at "run"
   intro ls H3 f3 s3 e5
   walk_at "run"
   have s13:=s1.trans (s2.trans s3)
   have hls0:H ls=none:=(s1.trans s2).free f3
   refine ⟨⟨_,SqL.of (s13 _ _ ha)⟩,af5 (K:=K) (a:=a) (xs:=evs) (fun i σ H'=>∃ (tp:Addr) (lv v:V) (rs:Option Std) (us:List V) (y:Option V),σ=[some (.ref p),some (.ref a),some (.ref tp),some (.ref ls),y]∧Same H H'∧H' tp=some (.tup [lv,v])∧StdAt H' v rs∧(∀ x,rs=some x→x.2.2.1.length=bs.length∧x.2.1.length≤(i+1)*n)∧i≤evs.length∧runF kb bs n rs (es.drop i)=some (sds.drop i)∧H' ls=some (.lst us)∧ls≠tp∧Each (fun v sd=>∃ b,v=.ref b∧b≠ls∧H' b=some (.lst (a31 sd))) us (sd::sds.take i)) ?_ (fun i σ H' _ ⟨_,_,_,_,_,_,_,s',_⟩=>SqL.of (s' _ _ ha)) ?_ ?_⟩
   · refine ⟨p1,_,v1,r,_,_,rfl,s13,(s2.trans s3) _ _ e1,e3.same (s2.trans s3),fun x hx=>?_,Nat.zero_le _,hrun,e5,?_,?_⟩
     · have:=am7 (by simp) hgo x hx
       exact ⟨this.1,by simpa using this.2⟩
     · intro z
       rw [z,(s2 _ _ e1)] at f3
       cases f3
     · exact Each.nil.snoc ⟨p2,rfl,(fun z=>by rw [← z,e4] at f3; cases f3),s3 _ _ e4⟩
   · rintro i x σ H4 hx ⟨tp,lv,v,rs,us,y,rfl,s4,ht,hv,hb,hi,hr',hls,hne,hus⟩
     have hi':i<evs.length:=(List.getElem?_eq_some_iff.mp hx).1
     obtain ⟨e,he⟩:∃ e,es[i]?=some e:=⟨_,List.getElem?_eq_getElem (by omega)⟩
     have hek:=(hE.2 i x e hx he).same s4
     have hdr:es.drop i=e::es.drop (i+1):=by
      rw [List.drop_eq_getElem_cons (by omega),(List.getElem?_eq_some_iff.mp he).2]
     rw [hdr] at hr'
     simp only [runF] at hr'
     split at hr'
     · cases hr'
     rename_i sd' r' hst
     obtain ⟨z,hz,hzz⟩:=Option.map_eq_some_iff.mp hr'
     walk_at "run"
     refine ⟨p,dx,_,rfl,s4 _ _ h1,a80 _ _ (by decide +kernel) (by decide +kernel),?_⟩
     walk_at "run"
     refine a27 (SqT.of ht) (a05 (j:=1) rfl) ?_
     walk_at "run"
     have hin:(i+1)*n≤100*5000:=Nat.mul_le_mul (by omega) hn
     refine ⟨p,v,x,bs,kb,rs,e,n,sd',r',rfl,hT.same s4,hk,hv,hek.1,hek.2,fun y hy=>⟨(hb y hy).1,by have:=(hb y hy).2; omega⟩,hst,fun p5 l5 v5 H5 s5 e1 e2 e3 e6=>?_⟩
     walk_at "run"
     refine ab4 (SqL.of (s5 _ _ hls)) ?_
     walk_at "run"
     refine a27 (SqT.of e1) (a05 (j:=0) rfl) ?_
     walk_at "run"
     refine at2 (SqL.of e3) ?_
     intro p6 H6 f6 s6 e7
     walk_at "run"
     have hul:us.length=(sds.take i).length+1:=hus.1
     have hls6:=(s5.trans s6) _ _ hls
     refine a51 hls6 (by rw [hul,List.length_take]; omega) ?_
     walk_at "run"
     have hp6:p6≠ls:=fun z=>by rw [z,s5 _ _ hls] at f6; cases f6
     have hp5:ls≠p5:=fun z=>by rw [← z,s5 _ _ hls] at e1; cases e1
     have s46:=s5.trans s6
     have hsd:sds.drop i=sd'::z:=hzz.symm
     have hsi:sds[i]?=some sd':=by
      have:=congrArg (fun l=>l[0]?) hsd
      simpa using this
     have tU:Tups H6 (upd H6 ls (.lst (us++[V.ref p6]))):=Tups.upd hls6
     refine ⟨p5,_,v5,r',_,_,rfl,(s4.trans s46).updNew hls0,tU _ _ (s6 _ _ e1),?_,fun y hy=>?_,hi',?_,a19,hp5,?_⟩
     · have h6:=e6.same s6
       cases r' with
       | none=>exact h6
       | some x =>
         obtain ⟨q0,stk0,ws0,l0⟩:=x
         obtain ⟨q1,q2,q3,q4,g1,g2,⟨g31,g32,g33⟩,⟨g41,g42,g43⟩,g5⟩:=h6
         exact ⟨q1,q2,q3,q4,g1,tU _ _ g2,⟨g31,g32,tU _ _ g33⟩,⟨g41,tU _ _ g42,g43.mono fun _ _ z=>by obtain ⟨b,z1,z2⟩:=z; exact ⟨b,z1,tU _ _ z2⟩⟩,tU _ _ g5⟩
     · have:=b59 hb hst y hy
       exact ⟨this.1,by rw [Nat.succ_mul]; exact this.2⟩
     · have h7:sds.drop (i+1)=z:=by rw [← List.tail_drop,hsd]; rfl
       rw [h7]
       exact hz
     · rw [List.take_add_one,hsi,Option.toList_some,←List.cons_append]
       refine Each.snoc (hus.mono fun v sd z=>?_) ⟨p6,rfl,hp6,by rw [a14 hp6]; exact e7⟩
       obtain ⟨b,z1,z2,z3⟩:=z
       exact ⟨b,z1,z2,by rw [a14 z2]; exact s46 _ _ z3⟩
   · rintro σ H4 ⟨tp,lv,v,rs,us,y,rfl,s4,ht,hv,hb,hi,hr',hls,hne,hus⟩
     walk_at "run"
     have hsl:=(b60 hrun).1
     rw [hev,←hsl,List.take_length] at hus
     exact q ls us H4 s4 hls0 hls (hus.mono fun v sd z=>by obtain ⟨b,z1,z2,z3⟩:=z; exact ⟨b,z1,z3⟩)
def bl8 (C:Addr):Sp:=fun vs H Q _=>∃ (p dx:Addr) (b:Bool) (bv:V),vs=[.ref p,.bl b,bv]∧H p=some (.ins C dx [])∧∀ l H',H l=none→H' p=some (.ins C dx (kbS (.bl b) bv (.ref l)))→H' l=some (.lst [])→(∀ x o,H x=some o→x≠p→H' x=some o)→Q .non H'
theorem ab7 (T:Txt K mg t):FnOk P w K mg base CX0 1 t.a_KeptBody___init__ t.fd_KeptBody___init__ ["self","loops","behind"] (bl8 t.c_KeptBody):=by
 refine T.f_KeptBody___init__.F.ok ab6 (fun vs H Q E h=>?_) (fun cdv A outer s H vs Q E hr h=>?_)
 · obtain ⟨p,dx,b,bv,rfl,_⟩:=h
   rfl
 · obtain ⟨p,dx,b,bv,rfl,hp,q⟩:=h
   refine ⟨_,(@a01 _ _ _ _ _ (ah3 K (pv 0) (pv 1) rfl)
    (@a01 _ _ _ _ _ (ah3 K (pv 0) (pv 2) rfl)
    (@a04 _ _ _ (ah3 K (pv 0) (@a23 _ _ _ _ (@a02 _)) rfl)))),?_⟩
   walk_at "go"
   refine ⟨p,_,dx,_,rfl,hp,T.cl_KeptBody,T.n_KeptBody_loops,by decide,?_⟩
   walk_at "run"
   refine ⟨p,_,dx,_,rfl,a19,T.cl_KeptBody,T.n_KeptBody_behind,(by have h1:=a55 "loops" (V.bl b) []; rw [List.length_nil] at h1; omega),?_⟩
   walk_at "run"
   intro l H1 f1 s1 e1
   walk_at "run"
   have e2:=s1 p _ a19
   have hlp:l≠p:=fun z=>by rw [← z,a19] at f1; cases f1
   refine ⟨p,_,dx,_,rfl,e2,T.cl_KeptBody,T.n_KeptBody_statements,(by have h1:=a55 "loops" (V.bl b) []; have h2:=a55 "behind" bv (putF "loops" (V.bl b) []); rw [List.length_nil] at h1; omega),?_⟩
   refine q l _ ?_ a19 (by rw [a14 hlp]; exact e1) fun x o e hx=>by rw [a14 hx]; exact s1 _ _ (by rw [a14 hx,a14 hx]; exact e)
   rw [a14 hlp,a14 hlp] at f1
   exact f1
def bl9 (K:PySem.W.Frag):Sp:=fun vs H Q _=>∃ (v:V) (x:Stm) (G:Hp) (tn:List Str),vs=[v]∧Same G H∧SAt G v x∧x.kd tn∧∀ l us H',H l=none→Same H H'→H' l=some (.lst us)→Each (BAt G) us (a32 x)→Q (.ref l) H'
theorem ar2 (T:Txt K mg t):FnOk P w K mg base CX0 1 t.a_bodies_of t.fd_bodies_of ["statement"] (bl9 K):=by
 refine T.f_bodies_of.F.ok sc_bodies_of (fun vs H Q E h=>?_) (fun cdv A outer s H vs Q E hr h=>?_)
 · obtain ⟨v,x,G,tn,rfl,_⟩:=h
   rfl
 · obtain ⟨v,x,G,tn,rfl,sG,hx,hp,q⟩:=h
   refine ⟨_,(@a01 _ _ _ _ _ (@a18 _ _ 1 _ _ _ _ sc_bodies_of.nd rfl (by walk_at "o") (@a22 _ _ _ _ _ _ _ (a07 K) (pv 0) (@a03 _ _ _ _) (fun _ _=>rfl)) (by rfl) (by walk_at "o"))
    (@a01 _ _ _ _ _ (@a36 _ _ _ _ _ _ _ _ (@a12 _ _ _ _ _ _ _ _ a41 (pv 1) (@a06 _ _ _ _) (nomark _)) (@a04 _ _ _ (@a16 _ _ _ _ (@a23 _ _ _ _ (@a00 _ _ _ _ _ (@a22 _ _ _ _ _ _ _ (a07 K) (pv 0) (@a03 _ _ _ _) (fun _ _=>rfl)) (@a00 _ _ _ _ _ (@a22 _ _ _ _ _ _ _ (a07 K) (pv 0) (@a03 _ _ _ _) (fun _ _=>rfl)) (@a02 _) (by rfl)) (by rfl))))) (@a20 _))
    (@a01 _ _ _ _ _ (@a36 _ _ _ _ _ _ _ _ (@a12 _ _ _ _ _ _ _ _ a41 (pv 1) (@a06 _ _ _ _) (nomark _)) (@a04 _ _ _ (@a16 _ _ _ _ (ay4 (Nt:=["pattern","body"]) (Nf:=[]) (caps:=[]) rfl (a56 (sc:=a08 ac5) rfl rfl (by decide +kernel) (by decide +kernel) (by decide +kernel) rfl (by decide +kernel)) (a40 K (@a22 _ _ _ _ _ _ _ (a07 K) (pv 0) (@a03 _ _ _ _) (fun _ _=>rfl))) (fun _ _ _ _ _=>(aa6 K (n:=2) rfl (a21 (a17 (i:=0) (show (["pattern","body"]:List Str).Nodup by decide +kernel) rfl (by walk_at "o")) (a21 (a17 (i:=1) (show (["pattern","body"]:List Str).Nodup by decide +kernel) rfl (by walk_at "o")) (@a50 _))))) (fun _ _ _ _ _=>(@a67 _)) (fun _ _ _ _ _=>(pv 1))))) (@a20 _))
    (@a01 _ _ _ _ _ (@a36 _ _ _ _ _ _ _ _ (@a12 _ _ _ _ _ _ _ _ a41 (pv 1) (@a06 _ _ _ _) (nomark _)) (@a04 _ _ _ (@a16 _ _ _ _ (@a23 _ _ _ _ (@a00 _ _ _ _ _ (@a22 _ _ _ _ _ _ _ (a07 K) (pv 0) (@a03 _ _ _ _) (fun _ _=>rfl)) (@a02 _) (by rfl))))) (@a20 _))
    (@a04 _ _ _ (@a16 _ _ _ _ (@a23 _ _ _ _ (@a02 _)))))))),?_⟩
   have sl:(1000000:Nat)≤sizeLine:=le_line (Nat.le_refl _)
   obtain ⟨a,us,rfl,ha⟩:=b47 hx hp
   walk_at "go"
   refine a27 (SqT.of (sG _ _ ha)) (a05 (j:=0) rfl) ?_
   walk_at "run"
   by_cases w1:x.wd=Str.ofString "test"
   · refine a25 w1 ?_
     walk_at "run"
     obtain ⟨c,y,z,rfl⟩:=b48 hp w1
     obtain ⟨a,u1,u2,u3,hz,e,h2,h3⟩:=av9 hx
     cases hz
     refine a27 (SqT.of (sG _ _ e)) (a05 (j:=2) rfl) ?_
     walk_at "run"
     refine a27 (SqT.of (sG _ _ e)) (a05 (j:=3) rfl) ?_
     walk_at "run"
     intro p1 H1 f1 s1 e1
     exact q p1 _ H1 f1 s1 e1 ((Each.nil.snoc h2).snoc h3)
   refine a24 w1 ?_
   walk_at "run"
   by_cases w2:x.wd=Str.ofString "wait"
   · refine a25 w2 ?_
     walk_at "run"
     obtain ⟨n,bs,rfl⟩:=b49 hp w2
     obtain ⟨a,l,ws,hz,e,el,hw⟩:=sat_wait.mp hx
     cases hz
     have wl:ws.length=bs.length:=hw.1
     have bl:bs.length≤1000:=hp
     refine a27 (SqT.of (sG _ _ e)) (a05 (j:=2) rfl) ?_
     refine ⟨_,rfl,⟨_,SqL.of (sG _ _ el)⟩,av3 (xs:=ws) (by omega) (fun i acc H'=>H'=H∧i≤ws.length∧acc.length=i∧Each (BAt G) acc ((a32 (.wait n bs)).take i)) ⟨rfl,Nat.zero_le _,rfl,by simpa using Each.nil⟩ (fun i acc H' ⟨e0,_,ea,_⟩=>⟨by omega,e0 ▸ SqL.of (sG _ _ el)⟩) ?_ ?_⟩
     · rintro i w acc H' hw' ⟨rfl,hi,ea,hE⟩
       have hi':=(List.getElem?_eq_some_iff.mp hw').1
       obtain ⟨br,hbr⟩:∃ br,bs[i]?=some br:=⟨_,List.getElem?_eq_getElem (by omega)⟩
       have hB:=hw.2 i w br hw' hbr
       obtain ⟨pp,bb⟩:=br
       obtain ⟨qv,pv,bv,rfl,eq,hp1,hb1⟩:=hB
       refine ⟨qv,_,_,rfl,SqT.of (sG _ _ eq),?_⟩
       walk_at "run"
       refine ⟨rfl,hi',by simp [ea],?_⟩
       rw [List.take_add_one,show (a32 (.wait n bs))[i]?=some bb by unfold a32; rw [List.getElem?_map,hbr]; rfl,Option.toList_some]
       exact hE.snoc hb1
     · rintro acc H' ⟨rfl,_,ea,hE⟩ p1 H1 f1 s1 e1
       rw [wl,show (a32 (.wait n bs)).take bs.length=a32 (.wait n bs) from List.take_of_length_le (by simp [a32])] at hE
       walk_at "run"
       exact q p1 _ H1 f1 s1 e1 hE
   refine a24 w2 ?_
   walk_at "run"
   by_cases w3:x.wd=Str.ofString "loop"
   · refine a25 w3 ?_
     walk_at "run"
     obtain ⟨b,rfl⟩:=at8 hp w3
     obtain ⟨a,u,hz,e,hb⟩:=sat_loop.mp hx
     cases hz
     refine a27 (SqT.of (sG _ _ e)) (a05 (j:=1) rfl) ?_
     walk_at "run"
     intro p1 H1 f1 s1 e1
     exact q p1 _ H1 f1 s1 e1 (Each.nil.snoc hb)
   refine a24 w3 ?_
   walk_at "run"
   intro p1 H1 f1 s1 e1
   exact q p1 [] H1 f1 s1 e1 (by rw [bj9 w1 w2 w3]; exact Each.nil)
def c47 (K:PySem.W.Frag):Sp:=fun vs H Q _=>∃ (v bv:V) (m:Nat) (pl:Pl) (n:Int) (bs:List Br) (tn:List Str),vs=[v,bv,.int (m:Nat)]∧SAt H v (.wait n bs)∧bs.length≤1000∧Pl.At H bv pl∧∀ v' H',Same H H'→(a52 tn pl m (.wait n bs)).tr.At H' v' []→Q v' H'
theorem bc1 {m i:Nat}{bs:List Br}{b:Br}(h:bs[i]?=some b):(brsK m bs)[i]?=some (b.pat,(m+i,0)):=by
 unfold brsK
 rw [List.getElem?_mapIdx,h]
 rfl
theorem ar3 (T:Txt K mg t):FnOk P w K mg base CX0 2 t.a_kept_wait t.fd_kept_wait ["statement","behind","number"] (c47 K):=by
 have G_way_of_pattern:=a81 (P:=P) (w:=w) (base:=base) T
 refine T.f_kept_wait.F.ok sc_kept_wait (fun vs H Q E h=>?_) (fun cdv A outer s H vs Q E hr h=>?_)
 · obtain ⟨v,bv,m,pl,n,bs,tn,rfl,_⟩:=h
   rfl
 · obtain ⟨v,bv,m,pl,n,bs,tn,rfl,hx,hl,hb,q⟩:=h
   refine ⟨_,(@a01 _ _ _ _ _ (as8 (i:=3) (Nt:=["pattern","body"]) (Nf:=[]) (caps:=[]) rfl (a56 (sc:=a08 a85) rfl rfl (by decide +kernel) (by decide +kernel) (by decide +kernel) rfl (by decide +kernel)) (a40 K (@a22 _ _ _ _ _ _ _ (a07 K) (pv 0) (@a03 _ _ _ _) (fun _ _=>rfl))) (fun _ _ _ _ _=>(aa6 K (n:=2) rfl (a21 (a17 (i:=0) (show (["pattern","body"]:List Str).Nodup by decide +kernel) rfl (by walk_at "o")) (a21 (a17 (i:=1) (show (["pattern","body"]:List Str).Nodup by decide +kernel) rfl (by walk_at "o")) (@a50 _))))) (fun _ _ _ _ _=>(@a67 _)) (fun _ _ _ _ _=>(pv 0)) sc_kept_wait.nd rfl (by walk_at "o") rfl)
    (@a01 _ _ _ _ _ (@a18 _ _ 4 _ _ _ _ sc_kept_wait.nd rfl (by walk_at "o") (@a58 _ _ _ _ _ _ _ _ _ (ah0 K) (by rfl) T.z_tuple al3 (@a00 _ _ _ _ _ (ay4 (Nt:=["place","pattern"]) (Nf:=["number"]) (caps:=[2]) rfl (a56 (sc:=a08 a85) rfl rfl (by decide +kernel) (by decide +kernel) (by decide +kernel) rfl (by decide +kernel)) (at3 K rfl T.z_enumerate (@a00 _ _ _ _ _ (pv 3) (@a02 _) (by rfl))) (fun _ _ _ _ _=>(aa6 K (n:=2) rfl (a21 (a17 (i:=0) (show (["place","pattern","number"]:List Str).Nodup by decide +kernel) rfl (by walk_at "o")) (a21 (a17 (i:=1) (show (["place","pattern","number"]:List Str).Nodup by decide +kernel) rfl (by walk_at "o")) (@a50 _))))) (fun _ _ _ _ _=>(@a67 _)) (fun _ _ _ _ _=>(@a15 _ _ _ _ _ (@a00 _ _ _ _ _ (pv 1) (@a00 _ _ _ _ _ (@a15 _ _ _ _ _ (@a00 _ _ _ _ _ (@a34 _ _ _ _ _ _ _ _ a37 (pv 2) (pv 0)) (@a00 _ _ _ _ _ (@a03 _ _ _ _) (@a02 _) (by rfl)) (by rfl))) (@a02 _) (by rfl)) (by rfl))))) (@a02 _) (by rfl)) (by decide) (by decide) (by rfl) (by rfl)) (by rfl) (by walk_at "o"))
    (@a01 _ _ _ _ _ (@a18 _ _ 5 _ _ _ _ sc_kept_wait.nd rfl (by walk_at "o") (@a26 _ _ _ _ _ _ _ _ _ _ _ _ _ _ _ _ G_way_of_pattern (hr.mono (by omega)) rfl T.f_way_of_pattern.m T.f_way_of_pattern.F.kp T.f_way_of_pattern.b .nil a30 (@a00 _ _ _ _ _ (pv 4) (@a00 _ _ _ _ _ (as0 (by rfl) T.m_NONE (by exact T.r_NONE)) (@a02 _) (by rfl)) (by rfl)) (by decide) (by rfl) (by rfl)) (by rfl) (by walk_at "o"))
    (@a04 _ _ _ (@a16 _ _ _ _ (@a15 _ _ _ _ _ (@a00 _ _ _ _ _ (@a06 _ _ _ _) (@a00 _ _ _ _ _ (@a22 _ _ _ _ _ _ _ (a07 K) (pv 0) (@a03 _ _ _ _) (fun _ _=>rfl)) (@a00 _ _ _ _ _ (pv 4) (@a00 _ _ _ _ _ (@af3 _ _ _ _ _ _ _ _ (@a12 _ _ _ _ _ _ _ _ aa8 (pv 5) (@a45 _ _ _) (nomark _)) (pv 1) (pv 5)) (@a02 _) (by rfl)) (by rfl)) (by rfl)) (by rfl)))))))),?_⟩
   have sl:(1000000:Nat)≤sizeLine:=le_line (Nat.le_refl _)
   obtain ⟨a,l,ws,rfl,e,el,hw⟩:=sat_wait.mp hx
   have wl:ws.length=bs.length:=hw.1
   walk_at "go"
   refine a27 (SqT.of e) (a05 (j:=2) rfl) ?_
   refine ⟨_,rfl,⟨_,SqL.of el⟩,av3 (xs:=ws) (by omega) (fun i acc H'=>H'=H∧i≤ws.length∧acc.length=i∧Each (PAt H) acc ((bs.map Br.pat).take i)) ⟨rfl,Nat.zero_le _,rfl,by simpa using Each.nil⟩ (fun i acc H' ⟨e0,_,ea,_⟩=>⟨by omega,e0 ▸ SqL.of el⟩) ?_ ?_⟩
   · rintro i w acc H' hw' ⟨rfl,hi,ea,hE⟩
     have hi':=(List.getElem?_eq_some_iff.mp hw').1
     obtain ⟨br,hbr⟩:∃ br,bs[i]?=some br:=⟨_,List.getElem?_eq_getElem (by omega)⟩
     have hB:=hw.2 i w br hw' hbr
     obtain ⟨pp,bb⟩:=br
     obtain ⟨qv,pv,bv',rfl,eq,hp1,hb1⟩:=hB
     refine ⟨qv,_,_,rfl,SqT.of eq,?_⟩
     walk_at "run"
     refine ⟨rfl,hi',by simp [ea],?_⟩
     rw [List.take_add_one,show (bs.map Br.pat)[i]?=some pp by rw [List.getElem?_map,hbr]; rfl,Option.toList_some]
     exact hE.snoc hp1
   · rintro acc H' ⟨rfl,_,ea,hE⟩ p1 H1 f1 s1 e1
     rw [wl,show (bs.map Br.pat).take bs.length=bs.map Br.pat from List.take_of_length_le (by simp)] at hE
     walk_at "run"
     refine ⟨⟨_,SqL.of e1⟩,bj4 (xs:=acc) (by omega) (fun i ac H2=>Same H1 H2∧i≤acc.length∧ac.length=i∧Tr.Ats H2 (((brsK m bs).take i).map brK) ac []) ⟨Same.refl _,Nat.zero_le _,rfl,by simp [Tr.Ats]⟩ (fun i ac H2 ⟨s2,_,ea2,_⟩=>⟨by omega,SqL.of (s2 _ _ e1)⟩) ?_ ?_⟩
     · rintro i x ac H2 H3 hx' ⟨s2,hi,ea2,hat⟩ s3
       have hi':=(List.getElem?_eq_some_iff.mp hx').1
       obtain ⟨br,hbr⟩:∃ br,bs[i]?=some br:=⟨_,List.getElem?_eq_getElem (by omega)⟩
       have hpx:PAt H' x br.pat:=hE.2 i x br.pat hx' (by rw [List.getElem?_map,hbr]; rfl)
       walk_at "run"
       intro p4 H4 f4 s4 e4
       walk_at "run"
       intro p5 H5 f5 s5 e5
       have s35:=s4.trans s5
       have s25:=s3.trans s35
       refine ⟨s2.trans s25,hi',by simp [ea2],?_⟩
       rw [List.take_add_one,bc1 hbr,Option.toList_some,List.map_append]
       refine (hat.same s25).snoc ?_
       exact a46 e5 ((hpx.same s1).same (s2.trans s25)) (pl_tr.mpr ⟨p4,rfl,by rw [s5 _ _ e4]; simp⟩)
     · rintro ac H2 ⟨s2,_,ea2,hat⟩ p3 H3 f3 s3 e3
       walk_at "run"
       refine al6 (SqL.of e3) ?_
       intro p4 H4 f4 s4 e4
       walk_at "run"
       have hbl:(brsK m bs).length=acc.length:=by unfold brsK; simp only [List.length_mapIdx]; omega
       rw [← hbl,List.take_length] at hat
       have s14:=s1.trans (s2.trans (s3.trans s4))
       have hB4:BrsAt H4 (.ref p4) (brsK m bs):=at_tup0.mpr ⟨p4,_,rfl,e4,hat.same (s3.trans s4)⟩
       refine ⟨_,_,brsK m bs,.tup [.str "none"],rfl,hB4,bk5 T.d_NONE,by decide,fun v5 hv5=>?_⟩
       walk_at "run"
       refine a27 (SqT.of (s14 _ _ e)) (a05 (j:=1) rfl) ?_
       walk_at "run"
       have fin:∀ (v6:V) (p6:Pl),Pl.At H4 v6 p6→(fndT (brsK m bs) (.tup [.str "none"])).getD pl=p6→New H4 (.tup [.str "wait",.int n,.ref p4,v6]) Q:=fun v6 p6 h6 e6 p7 H7 f7 s7 e7=>by
        refine q _ _ (s14.trans s7) ?_
        show (Tr.tup [.str "wait",.int n,.tup ((brsK m bs).map brK),plT _]).At _ _ _
        refine at_tup0.mpr ⟨p7,_,rfl,e7,ats_cons0.mpr ⟨_,_,rfl,a28,ats_cons0.mpr ⟨_,_,rfl,aa9,ats_cons0.mpr ⟨_,_,rfl,hB4.same s7,ats_cons0.mpr ⟨_,_,rfl,?_,ats_nil0.mpr rfl⟩⟩⟩⟩⟩
        rw [e6]
        exact pl_tr.mpr (h6.same s7)
       cases hf:fndB (brsK m bs) (.tup [.str "none"]) with
       | none =>
         rw [hf] at hv5
         obtain rfl:v5=.non:=hv5
         refine a25 rfl ?_
         walk_at "run"
         exact fin bv pl (hb.same s14) (by show (fndB (brsK m bs) _).getD pl=pl; rw [hf]; rfl)
       | some p6 =>
         rw [hf] at hv5
         obtain ⟨a5,rfl,ha5⟩:=hv5
         refine a24 (fun z=>nomatch z) ?_
         walk_at "run"
         exact fin _ p6 ⟨a5,rfl,ha5⟩ (by show (fndB (brsK m bs) _).getD pl=p6; rw [hf]; rfl)
def by3 (K:PySem.W.Frag):Sp:=fun vs H Q _=>∃ (v bv:V) (m:Nat) (pl:Pl) (x:Stm) (ln:Addr) (tn:List Str),vs=[v,bv,.int (m:Nat),.ref ln]∧SAt H v x∧x.kd tn∧Pl.At H bv pl∧H ln=some (.lst (a31 tn))∧∀ v' H',Same H H'→(a52 tn pl m x).tr.At H' v' []→Q v' H'
theorem ae6 (T:Txt K mg t):FnOk P w K mg base CX0 3 t.a_kept_statement t.fd_kept_statement ["statement","behind","number","names"] (by3 K):=by
 have G_kept_wait:=ar3 (P:=P) (w:=w) (base:=base) T
 refine T.f_kept_statement.F.ok sc_kept_statement (fun vs H Q E h=>?_) (fun cdv A outer s H vs Q E hr h=>?_)
 · obtain ⟨v,bv,m,pl,x,ln,tn,rfl,_⟩:=h
   rfl
 · obtain ⟨v,bv,m,pl,x,ln,tn,rfl,hx,hk,hb,hln,q⟩:=h
   refine ⟨_,(@a01 _ _ _ _ _ (@a18 _ _ 4 _ _ _ _ sc_kept_statement.nd rfl (by walk_at "o") (@a22 _ _ _ _ _ _ _ (a07 K) (pv 0) (@a03 _ _ _ _) (fun _ _=>rfl)) (by rfl) (by walk_at "o"))
    (@a01 _ _ _ _ _ (@a36 _ _ _ _ _ _ _ _ (@a12 _ _ _ _ _ _ _ _ a41 (pv 4) (@a06 _ _ _ _) (nomark _)) (@a04 _ _ _ (@a16 _ _ _ _ (@a15 _ _ _ _ _ (@a00 _ _ _ _ _ (@a06 _ _ _ _) (@a00 _ _ _ _ _ (@a22 _ _ _ _ _ _ _ (a07 K) (pv 0) (@a03 _ _ _ _) (fun _ _=>rfl)) (@a00 _ _ _ _ _ (pv 2) (@a00 _ _ _ _ _ (@a34 _ _ _ _ _ _ _ _ a37 (pv 2) (@a03 _ _ _ _)) (@a02 _) (by rfl)) (by rfl)) (by rfl)) (by rfl))))) (@a20 _))
    (@a01 _ _ _ _ _ (@a36 _ _ _ _ _ _ _ _ (@a12 _ _ _ _ _ _ _ _ a41 (pv 4) (@a06 _ _ _ _) (nomark _)) (@a04 _ _ _ (@a16 _ _ _ _ (@a26 _ _ _ _ _ _ _ _ _ _ _ _ _ _ _ _ G_kept_wait (hr.mono (by omega)) rfl T.f_kept_wait.m T.f_kept_wait.F.kp T.f_kept_wait.b .nil a30 (@a00 _ _ _ _ _ (pv 0) (@a00 _ _ _ _ _ (pv 1) (@a00 _ _ _ _ _ (pv 2) (@a02 _) (by rfl)) (by rfl)) (by rfl)) (by decide) (by rfl) (by rfl)))) (@a20 _))
    (@a01 _ _ _ _ _ (@a36 _ _ _ _ _ _ _ _ (@a12 _ _ _ _ _ _ _ _ a41 (pv 4) (@a06 _ _ _ _) (nomark _)) (@a04 _ _ _ (@a16 _ _ _ _ (@a15 _ _ _ _ _ (@a00 _ _ _ _ _ (@a06 _ _ _ _) (@a00 _ _ _ _ _ (pv 2) (@a02 _) (by rfl)) (by rfl))))) (@a20 _))
    (@a01 _ _ _ _ _ (@a36 _ _ _ _ _ _ _ _ (@a12 _ _ _ _ _ _ _ _ a41 (pv 4) (@a06 _ _ _ _) (nomark _)) (@a04 _ _ _ (@a16 _ _ _ _ (@a15 _ _ _ _ _ (@a00 _ _ _ _ _ (@a06 _ _ _ _) (@a00 _ _ _ _ _ (@a64 _ K _ _ _ _ _ _ _ _ _ _ _ PySem.F.plainAttrs_list PySem.F.slot_list_index PySem.F.type_list_index (ap8 K) (pv 3) (@a00 _ _ _ _ _ (@a22 _ _ _ _ _ _ _ (a07 K) (pv 0) (@a03 _ _ _ _) (fun _ _=>rfl)) (@a02 _) (by rfl)) (by rfl) (by rfl) (by rfl) (by rfl) (by rfl) (by rfl)) (@a02 _) (by rfl)) (by rfl))))) (@a20 _))
    (@a04 _ _ _ (@a16 _ _ _ _ (pv 0)))))))),?_⟩
   obtain ⟨a,us,rfl,ha⟩:=b47 hx hk
   walk_at "go"
   refine a27 (SqT.of ha) (a05 (j:=0) rfl) ?_
   walk_at "run"
   by_cases w1:x.wd=Str.ofString "test"
   · refine a25 w1 ?_
     walk_at "run"
     obtain ⟨c,y,z,rfl⟩:=b48 hk w1
     obtain ⟨a,u1,u2,u3,hz,e,h2,h3,h4⟩:=b46 hx
     cases hz
     refine a27 (SqT.of e) (a05 (j:=1) rfl) ?_
     walk_at "run"
     intro p1 H1 f1 s1 e1
     refine q _ _ s1 ?_
     show (Tr.tup [.str "test",c.tr,.int (m:Nat),.int ((m+1:Nat):Int)]).At _ _ _
     exact at_tup0.mpr ⟨p1,_,rfl,e1,ats_cons0.mpr ⟨_,_,rfl,a28,ats_cons0.mpr ⟨_,_,rfl,h4.same s1,ats_cons0.mpr ⟨_,_,rfl,aa9,ats_cons0.mpr ⟨_,_,rfl,at_int0.mpr (by simp),ats_nil0.mpr rfl⟩⟩⟩⟩⟩
   refine a24 w1 ?_
   walk_at "run"
   by_cases w2:x.wd=Str.ofString "wait"
   · refine a25 w2 ?_
     walk_at "run"
     obtain ⟨n,bs,rfl⟩:=b49 hk w2
     exact ⟨_,bv,m,pl,n,bs,tn,rfl,hx,hk,hb,q⟩
   refine a24 w2 ?_
   walk_at "run"
   by_cases w3:x.wd=Str.ofString "loop"
   · refine a25 w3 ?_
     walk_at "run"
     obtain ⟨b,rfl⟩:=at8 hk w3
     intro p1 H1 f1 s1 e1
     exact q _ _ s1 (a46 e1 a28 aa9)
   refine a24 w3 ?_
   walk_at "run"
   by_cases w4:x.wd=Str.ofString "call"
   · refine a25 w4 ?_
     walk_at "run"
     obtain ⟨w',rfl,hw'⟩:∃ w',x=.plain [.s "call",.s w']∧w'∈tn:=by
      cases x with
      | plain ps =>
        rcases hk with ⟨w,rfl⟩ | ⟨l,w,rfl⟩ | ⟨w,rfl,hm⟩ | rfl | rfl | rfl | rfl
        all_goals first | exact ⟨w,rfl,hm⟩ | (simp only [Stm.wd] at w4; exact absurd w4 (by decide +kernel))
      | _=>simp only [Stm.wd] at w4; exact absurd w4 (by decide +kernel)
     obtain ⟨a',vs,hz,e,h2⟩:=at_tup0.mp (bf3 hx)
     cases hz
     obtain ⟨v1,u1,rfl,k1,h2⟩:=ats_cons0.mp h2
     obtain ⟨v2,u2,rfl,k2,h2⟩:=ats_cons0.mp h2
     obtain rfl:=ats_nil0.mp h2
     obtain rfl:=at_str0.mp k1
     obtain rfl:=at_str0.mp k2
     refine ab4 (SqL.of hln) ?_
     walk_at "run"
     refine a27 (SqT.of e) (a05 (j:=1) rfl) ?_
     walk_at "run"
     obtain ⟨j1,j2⟩:=c43 hw'
     refine b28 (SqL.of hln) j1 j2 ?_
     walk_at "run"
     intro p1 H1 f1 s1 e1
     refine q _ _ s1 ?_
     rw [show a52 tn pl m (.plain [.s "call",.s w'])=.call (tn.idxOf w') by simp only [a52,plK]; rw [if_neg (by decide +kernel)]]
     exact a46 e1 a28 aa9
   refine a24 w4 ?_
   walk_at "run"
   refine q _ _ (Same.refl _) ?_
   cases x with
   | plain ps =>
     have h0:=bf3 hx
     rcases hk with ⟨w,rfl⟩ | ⟨l,w,rfl⟩ | ⟨w,rfl,hm⟩ | rfl | rfl | rfl | rfl
     · rw [show a52 tn pl m (.plain [.s "say",.s w])=.say w by simp only [a52,plK]; rw [if_pos trivial]]
       exact h0
     · exact h0
     · exact absurd rfl w4
     · rw [show a52 tn pl m (.plain [.s "again"])=.again by simp only [a52,plK]; rw [if_pos trivial]]
       exact h0
     · rw [show a52 tn pl m (.plain [.s "leave"])=.leave by simp only [a52,plK]; rw [if_neg (by decide +kernel),if_pos trivial]]
       exact h0
     · rw [show a52 tn pl m (.plain [.s "back"])=.back by simp only [a52,plK]; rw [if_neg (by decide +kernel),if_neg (by decide +kernel),if_pos trivial]]
       exact h0
     · rw [show a52 tn pl m (.plain [.s "stop"])=.stop by simp only [a52,plK]; rw [if_neg (by decide +kernel),if_neg (by decide +kernel),if_neg (by decide +kernel)]]
       exact h0
   | put n e=>exact b45 hx
   | loop b=>exact absurd rfl w3
   | wait n bs=>exact absurd rfl w2
   | test c y z=>exact absurd rfl w1
def TkN (H:Hp) (v:V) (x:Str×List Stm):Prop:=∃ a u,v=.ref a∧H a=some (.tup [.str x.1,u])∧BAt H u x.2
theorem TkN.same {H H':Hp}{v:V}{x:Str×List Stm}(h:TkN H v x) (s:Same H H'):TkN H' v x:=by
 obtain ⟨a,u,h1,h2,h3⟩:=h
 exact ⟨a,u,h1,s _ _ h2,h3.same s⟩
structure KpOk (ts:List (Str×List Stm)) (N:Nat):Prop where
 len:(Qn (q0T ts) N).length=N
 le:N≤10000
 ok:∀ q∈Qn (q0T ts) N,q.1.length≤1000∧∀ s∈q.1,s.kd (ts.map (·.1))
def by4 (K:PySem.W.Frag) (CK:Addr):Sp:=fun vs H Q _=>∃ (lt:Addr) (tvs:List V) (ts:List (Str×List Stm)) (N:Nat),vs=[.ref lt]∧H lt=some (.lst tvs)∧Each (TkN H) tvs ts∧KpOk ts N∧∀ kl kvs H',Same H H'→H kl=none→H' kl=some (.lst kvs)→Each (KbAt CK H') kvs (kbL ts N)→Q (.ref kl) H'
theorem c48 {C:Addr}{H:Hp}{x:KR}(h:KrAt C H x):KbAt C H (.ref x.o) ⟨x.q.2.1,x.q.2.2,x.st⟩:=by
 obtain ⟨dx,bv,us,h1,h2,h3,h4⟩:=h
 exact ⟨x.o,dx,bv,x.l,us,rfl,h1,h2,h3,h4⟩
theorem aj0 (T:Txt K mg t):FnOk P w K mg base CX0 4 t.a_kept_bodies t.fd_kept_bodies ["talks"] (by4 K t.c_KeptBody):=by
 have G_KeptBody___init__:=ab7 (P:=P) (w:=w) (base:=base) T
 have G_bodies_of:=ar2 (P:=P) (w:=w) (base:=base) T
 have G_kept_statement:=ae6 (P:=P) (w:=w) (base:=base) T
 refine T.f_kept_bodies.F.ok sc_kept_bodies (fun vs H Q E h=>?_) (fun cdv A outer s H vs Q E hr h=>?_)
 · obtain ⟨lt,tvs,ts,N,rfl,_⟩:=h
   rfl
 · obtain ⟨lt,tvs,ts,N,rfl,hlt,hts,hN,q⟩:=h
   refine ⟨_,(@a01 _ _ _ _ _ (as8 (i:=1) (Nt:=["talk"]) (Nf:=[]) (caps:=[]) rfl (a56 (sc:=a08 a44) rfl rfl (by decide +kernel) (by decide +kernel) (by decide +kernel) rfl (by decide +kernel)) (a40 K (pv 0)) (fun _ _ _ _ _=>(a17 (i:=0) (show (["talk"]:List Str).Nodup by decide +kernel) rfl (by walk_at "o"))) (fun _ _ _ _ _=>(@a67 _)) (fun _ _ _ _ _=>(@a22 _ _ _ _ _ _ _ (a07 K) (pv 0) (@a03 _ _ _ _) (fun _ _=>rfl))) sc_kept_bodies.nd rfl (by walk_at "o") rfl)
    (@a01 _ _ _ _ _ (as8 (i:=2) (Nt:=["talk"]) (Nf:=[]) (caps:=[]) rfl (a56 (sc:=a08 a44) rfl rfl (by decide +kernel) (by decide +kernel) (by decide +kernel) rfl (by decide +kernel)) (a40 K (pv 0)) (fun _ _ _ _ _=>(a17 (i:=0) (show (["talk"]:List Str).Nodup by decide +kernel) rfl (by walk_at "o"))) (fun _ _ _ _ _=>(@a67 _)) (fun _ _ _ _ _=>(@a22 _ _ _ _ _ _ _ (a07 K) (pv 0) (@a03 _ _ _ _) (fun _ _=>rfl))) sc_kept_bodies.nd rfl (by walk_at "o") rfl)
    (@a01 _ _ _ _ _ (as8 (i:=3) (Nt:=["talk"]) (Nf:=[]) (caps:=[]) rfl (a56 (sc:=a08 a44) rfl rfl (by decide +kernel) (by decide +kernel) (by decide +kernel) rfl (by decide +kernel)) (a40 K (pv 0)) (fun _ _ _ _ _=>(a17 (i:=0) (show (["talk"]:List Str).Nodup by decide +kernel) rfl (by walk_at "o"))) (fun _ _ _ _ _=>(@a67 _)) (fun _ _ _ _ _=>(as4 T.mk_KeptBody G_KeptBody___init__ (hr.mono (by omega)) rfl T.m_KeptBody T.f_KeptBody___init__.b .nil a30 (@a00 _ _ _ _ _ (@bn8 _ _ _ _) (@a00 _ _ _ _ _ (@a45 _ _ _) (@a02 _) (by rfl)) (by rfl)))) sc_kept_bodies.nd rfl (by walk_at "o") rfl)
    (@a01 _ _ _ _ _ (@a18 _ _ 4 _ _ _ _ sc_kept_bodies.nd rfl (by walk_at "o") (@a03 _ _ _ _) (by rfl) (by walk_at "o"))
    (@a01 _ _ _ _ _ (@af4 _ _ _ _ _ _ PassesOwn.never (@a12 _ _ _ _ _ _ _ _ ax3 (pv 4) (@a69 _ _ _ _ _ _ _ _ _ (aa5 K) (by rfl) T.z_len ae7 (@a00 _ _ _ _ _ (pv 3) (@a02 _) (by rfl)) (by decide) (by decide) (by rfl) (by rfl)) (nomark _)) (@a01 _ _ _ _ _ (@a18 _ _ 5 _ _ _ _ sc_kept_bodies.nd rfl (by walk_at "o") (@a22 _ _ _ _ _ _ _ (a38 K) (pv 2) (pv 4) (fun _ _=>rfl)) (by rfl) (by walk_at "o"))
     (@a01 _ _ _ _ _ (@ac8 _ _ _ _ _ _ _ _ PassesOwn.never rfl (at3 K rfl T.z_enumerate (@a00 _ _ _ _ _ (pv 5) (@a02 _) (by rfl))) (aa6 K (n:=2) rfl (a21 (a17 (i:=6) sc_kept_bodies.nd rfl (by walk_at "o")) (a21 (a17 (i:=7) sc_kept_bodies.nd rfl (by walk_at "o")) (@a50 _)))) (@a01 _ _ _ _ _ (@a18 _ _ 8 _ _ _ _ sc_kept_bodies.nd rfl (by walk_at "o") (@a15 _ _ _ _ _ (@a00 _ _ _ _ _ (pv 4) (@a00 _ _ _ _ _ (@a34 _ _ _ _ _ _ _ _ a37 (pv 6) (@a03 _ _ _ _)) (@a02 _) (by rfl)) (by rfl))) (by rfl) (by walk_at "o"))
      (@a01 _ _ _ _ _ (@a49 _ _ _ _ (@a64 _ K _ _ _ _ _ _ _ _ _ _ _ PySem.F.plainAttrs_list PySem.F.slot_list_append PySem.F.type_list_append a43 (a47 K (@a22 _ _ _ _ _ _ _ (a38 K) (pv 3) (pv 4) (fun _ _=>rfl)) rfl) (@a00 _ _ _ _ _ (@a26 _ _ _ _ _ _ _ _ _ _ _ _ _ _ _ _ G_kept_statement (hr.mono (by omega)) rfl T.f_kept_statement.m T.f_kept_statement.F.kp T.f_kept_statement.b .nil a30 (@a00 _ _ _ _ _ (pv 7) (@a00 _ _ _ _ _ (pv 8) (@a00 _ _ _ _ _ (@a69 _ _ _ _ _ _ _ _ _ (aa5 K) (by rfl) T.z_len ae7 (@a00 _ _ _ _ _ (pv 3) (@a02 _) (by rfl)) (by decide) (by decide) (by rfl) (by rfl)) (@a00 _ _ _ _ _ (pv 1) (@a02 _) (by rfl)) (by rfl)) (by rfl)) (by rfl)) (by decide) (by rfl) (by rfl)) (@a02 _) (by rfl)) (by rfl) (by rfl) (by rfl) (by rfl) (by rfl) (by rfl)) (by rfl))
      (@a01 _ _ _ _ _ (@a18 _ _ 9 _ _ _ _ sc_kept_bodies.nd rfl (by walk_at "o") (@a26 _ _ _ _ _ _ _ _ _ _ _ _ _ _ _ _ G_bodies_of (hr.mono (by omega)) rfl T.f_bodies_of.m T.f_bodies_of.F.kp T.f_bodies_of.b .nil a30 (@a00 _ _ _ _ _ (pv 7) (@a02 _) (by rfl)) (by decide) (by rfl) (by rfl)) (by rfl) (by walk_at "o"))
      (@a01 _ _ _ _ _ (@a49 _ _ _ _ (@a64 _ K _ _ _ _ _ _ _ _ _ _ _ PySem.F.plainAttrs_list PySem.F.slot_list_extend PySem.F.type_list_extend ao6 (pv 2) (@a00 _ _ _ _ _ (pv 9) (@a02 _) (by rfl)) (by rfl) (by rfl) (by rfl) (by rfl) (by rfl) (by rfl)) (by rfl))
      (@a04 _ _ _ (@a49 _ _ _ _ (@a64 _ K _ _ _ _ _ _ _ _ _ _ _ PySem.F.plainAttrs_list PySem.F.slot_list_extend PySem.F.type_list_extend ao6 (pv 3) (@a00 _ _ _ _ _ (ay4 (Nt:=["each"]) (Nf:=["statement","behind"]) (caps:=[7,8]) rfl (a56 (sc:=a08 a44) rfl rfl (by decide +kernel) (by decide +kernel) (by decide +kernel) rfl (by decide +kernel)) (a40 K (pv 9)) (fun _ _ _ _ _=>(a17 (i:=0) (show (["each","statement","behind"]:List Str).Nodup by decide +kernel) rfl (by walk_at "o"))) (fun _ _ _ _ _=>(@a67 _)) (fun _ _ _ _ _=>(as4 T.mk_KeptBody G_KeptBody___init__ (hr.mono (by omega)) rfl T.m_KeptBody T.f_KeptBody___init__.b .nil a30 (@a00 _ _ _ _ _ (@ad6 _ _ _ _ _ _ _ _ a41 (@a22 _ _ _ _ _ _ _ (a07 K) (pv 1) (@a03 _ _ _ _) (fun _ _=>rfl)) (@a06 _ _ _ _) (nomark _)) (@a00 _ _ _ _ _ (pv 2) (@a02 _) (by rfl)) (by rfl))))) (@a02 _) (by rfl)) (by rfl) (by rfl) (by rfl) (by rfl) (by rfl) (by rfl)) (by rfl))))))) (by intro _; rfl))
     (@a04 _ _ _ (@bo8 _ _ 4 _ _ _ _ _ _ sc_kept_bodies.nd rfl (by walk_at "o") (@a03 _ _ _ _) bo9 (by walk_at "o"))))))
    (@a04 _ _ _ (@a16 _ _ _ _ (pv 3)))))))),?_⟩
   have sl:(1000000:Nat)≤sizeLine:=le_line (Nat.le_refl _)
   have htl:tvs.length=ts.length:=hts.1
   have htN:ts.length≤N:=by
    have:=bk0 (q0:=q0T ts) (Nat.zero_le N)
    rw [hN.len] at this
    simpa [Qn,q0T] using this
   have hNl:=hN.le
   walk_at "go"
   refine ⟨⟨_,SqL.of hlt⟩,a90 (xs:=tvs) (by omega) (fun i acc H'=>H=H'∧i≤tvs.length∧acc=a31 ((ts.map (·.1)).take i)) ⟨rfl,Nat.zero_le _,rfl⟩ (fun i acc H' ⟨e0,_,ea⟩=>⟨by rw [ea]; simp [a31]; omega,e0 ▸ SqL.of hlt⟩) ?_ ?_⟩
   · rintro i x acc H' hx ⟨rfl,hi,rfl⟩
     have hi':=(List.getElem?_eq_some_iff.mp hx).1
     obtain ⟨y,hy⟩:∃ y,ts[i]?=some y:=⟨_,List.getElem?_eq_getElem (by omega)⟩
     obtain ⟨a,u,rfl,ha,hb⟩:=hts.2 i x y hx hy
     walk_at "run"
     refine a27 (SqT.of ha) (a05 (j:=0) rfl) ?_
     exact ⟨rfl,hi',by rw [List.take_add_one,List.getElem?_map,hy]; simp [a31]⟩
   rintro acc H' ⟨rfl,_,rfl⟩ ln H1 f1 s1 e1
   rw [htl,show (ts.map (·.1)).take ts.length=ts.map (·.1) from List.take_of_length_le (by simp)] at e1
   walk_at "run"
   have hlt1:=s1 _ _ hlt
   refine ⟨⟨_,SqL.of hlt1⟩,a90 (xs:=tvs) (by omega) (fun i acc H'=>H1=H'∧i≤tvs.length∧acc.length=i∧Each (BAt H1) acc ((ts.map (·.2)).take i)) ⟨rfl,Nat.zero_le _,rfl,by simpa using Each.nil⟩ (fun i acc H' ⟨e0,_,ea,_⟩=>⟨by omega,e0 ▸ SqL.of hlt1⟩) ?_ ?_⟩
   · rintro i x acc H' hx ⟨rfl,hi,ea,hE⟩
     have hi':=(List.getElem?_eq_some_iff.mp hx).1
     obtain ⟨y,hy⟩:∃ y,ts[i]?=some y:=⟨_,List.getElem?_eq_getElem (by omega)⟩
     obtain ⟨a,u,rfl,ha,hb⟩:=(hts.2 i x y hx hy).same s1
     walk_at "run"
     refine a27 (SqT.of ha) (a05 (j:=1) rfl) ?_
     refine ⟨rfl,hi',by simp [ea],?_⟩
     rw [List.take_add_one,List.getElem?_map,hy]
     exact hE.snoc hb
   rintro bvs0 H' ⟨rfl,_,ea,hE0⟩ bd H2 f2 s2 e2
   rw [htl,show (ts.map (·.2)).take ts.length=ts.map (·.2) from List.take_of_length_le (by simp)] at hE0
   walk_at "run"
   refine ⟨⟨_,SqL.of (s2 _ _ hlt1)⟩,a90 (xs:=tvs) (by omega) (fun i acc H'=>i≤tvs.length∧acc.length=i∧∃ zs,acc=zs.map (fun x:KR=>V.ref x.o)∧NewK t.c_KeptBody H2 H' zs ((ts.map (·.2)).take i) false none) ⟨Nat.zero_le _,rfl,[],rfl,⟨rfl,fun j x e=>by simp at e,by simp,by simp,by simp,Same.refl _⟩⟩ (fun i acc H' ⟨_,ea,_,_,hz⟩=>⟨by omega,SqL.of (hz.s _ _ (s2 _ _ hlt1))⟩) ?_ ?_⟩
   · rintro i x acc H3 hx ⟨hi,ea,zs,rfl,hz⟩
     have hi':=(List.getElem?_eq_some_iff.mp hx).1
     obtain ⟨y,hy⟩:∃ y,ts[i]?=some y:=⟨_,List.getElem?_eq_getElem (by omega)⟩
     walk_at "run"
     intro o dx g1 g2 g3
     refine ⟨o,dx,false,.non,rfl,a19,fun l H5 k1 k2 k3 k4=>⟨rfl,?_⟩⟩
     have s35:Same H3 H5:=fun a ob e=>by
      have ao:a≠o:=fun z=>by rw [z,g1] at e; cases e
      have ad:a≠dx:=fun z=>by rw [z,g2] at e; cases e
      exact k4 _ _ (by rw [a14 ao,a14 ad]; exact e) ao
     have lo:l≠o:=fun z=>by rw [z,a19] at k1; cases k1
     have ld:l≠dx:=fun z=>by rw [z,a14 g3,a19] at k1; cases k1
     rw [a14 lo,a14 ld] at k1
     refine ⟨hi',by simpa using ea,zs++[⟨o,l,(y.2,false,none),[]⟩],by simp,?_⟩
     rw [List.take_add_one,List.getElem?_map,hy]
     exact hz.snoc s35 k1 k2 rfl k3
   rintro acc H3 ⟨_,ea,zs,rfl,hz⟩ kl H4 f4 s4 e4
   rw [htl,show (ts.map (·.2)).take ts.length=ts.map (·.2) from List.take_of_length_le (by simp)] at hz
   walk_at "run"
   have hz4:=hz.same s4
   have hq0:zs.map (·.q)=q0T ts:=by rw [hz.q,List.map_map]; rfl
   have hI0:KeepI t.c_KeptBody H1 H4 kl bd zs bvs0:=by
    have e24:=(hz.s.trans s4) _ _ e2
    have fz:∀ x∈zs,H1 x.l=none:=fun x hx=>s2.free (hz.fl x hx)
    refine ⟨e4,e24,by rw [show zs.map (·.q.1)=ts.map (·.2) by have:=congrArg (List.map Prod.fst) hz.q; simpa [List.map_map,Function.comp_def] using this]; exact hE0,hz4.a,hz.nd,fun x hx e=>?_,fun x hx e=>?_,fun e=>?_,(s2.trans hz.s).free f4,f2,fz,s2.trans (hz.s.trans s4)⟩
    · obtain ⟨j,hj⟩:=List.mem_iff_getElem?.mp hx
      obtain ⟨_,_,us,_,_,h3,_⟩:=hz.a j x hj
      rw [e,f4] at h3
      cases h3
    · have:=hz.fl x hx
      rw [e,e2] at this
      cases this
    · rw [e,hz.s _ _ e2] at f4
      cases f4
   have hkl0:H kl=none:=s1.free hI0.fk
   have hz0:=hz.st
   clear hz hz4 e2 e4 f2 f4 hE0
   obtain ⟨Pv,hPv⟩:∃ Pv:Nat→St→Hp→Prop,Pv=(fun m σ H5=>∃ (n:Nat) (ks:List KR) (bvs:List V) (y1 y2 y3 y4 y5:Option V),σ=[some (.ref lt),some (.ref ln),some (.ref bd),some (.ref kl),some (.int (n:Nat)),y1,y2,y3,y4,y5]∧KeepI t.c_KeptBody H1 H5 kl bd ks bvs∧ks.map (·.q)=Qn (q0T ts) n∧(∀ (j:Nat) x,ks[j]?=some x→x.st=if j<n then a57 (ts.map (·.1)) j 0 (Qn (q0T ts) j).length x.q.1 else [])∧n≤N∧m=N - n):=⟨_,rfl⟩
   refine al7 Pv N (by rw [hPv]; exact ⟨0,zs,bvs0,_,_,_,_,_,rfl,hI0,hq0,fun j x e=>by rw [if_neg (Nat.not_lt_zero _)]; exact hz0 x (List.mem_of_getElem? e),Nat.zero_le _,rfl⟩) ?_
   intro m σ H5 hI
   rw [hPv] at hI
   obtain ⟨n,ks,bvs,y1,y2,y3,y4,y5,rfl,hI,hkq,hst,hnN,rfl⟩:=hI
   have hkl:ks.length=(Qn (q0T ts) n).length:=by rw [← hkq,List.length_map]
   have hkN:ks.length≤N:=by rw [hkl,←hN.len]; exact bk0 hnN
   walk_at "run"
   refine ah1 (SqL.of hI.k) ?_
   rw [List.length_map]
   walk_at "run"
   rcases Nat.lt_or_ge n ks.length with hlt' | hge
   rotate_left
   · refine a24 (by omega) ?_
     walk_at "run"
     have hnn:n=N:=bx0 (by omega) hnN hN.len
     subst hnn
     refine q kl _ H5 (s1.trans hI.s) hkl0 hI.k ?_
     refine ⟨by unfold kbL; simp [hkl],fun j v b e1 e2=>?_⟩
     rw [List.getElem?_map] at e1
     obtain ⟨x,hx,rfl⟩:=Option.map_eq_some_iff.mp e1
     have hjl:=(List.getElem?_eq_some_iff.mp hx).1
     unfold kbL at e2
     rw [List.getElem?_mapIdx,←hkq,List.getElem?_map,hx] at e2
     obtain rfl:=Option.some.inj e2
     have h1:=c48 (hI.a j x hx)
     rw [hst j x hx,if_pos (by have:=hN.len; omega)] at h1
     exact h1
   refine a25 (by omega) ?_
   refine ⟨fun σ' H6=>∃ m',m'<N - n∧Pv m' σ' H6,fun σ' H6 h'=>h',?_⟩
   have hnN':n<N:=by omega
   obtain ⟨x0,hx0⟩:∃ x0,ks[n]?=some x0:=⟨_,List.getElem?_eq_getElem hlt'⟩
   have hqn:(Qn (q0T ts) n)[n]?=some x0.q:=by rw [← hkq,List.getElem?_map,hx0]; rfl
   obtain ⟨bl1,bl2⟩:=hN.ok x0.q (List.mem_of_getElem? (bw9 hnN hqn))
   obtain ⟨bv,hbv,hB⟩:=hI.e.get (show (ks.map (·.q.1))[n]?=some x0.q.1 by rw [List.getElem?_map,hx0]; rfl)
   obtain ⟨lb,sus,rfl,elb,hEs⟩:=bat_iff.mp hB
   have hsl:sus.length=x0.q.1.length:=hEs.1
   walk_at "run"
   refine aa7 (SqL.of hI.b) (a05 hbv) ?_
   walk_at "run"
   have hst0:x0.st=[]:=by rw [hst n x0 hx0,if_neg (Nat.lt_irrefl _)]
   have hQl:(Qn (q0T ts) n).length≤N:=by rw [← hN.len]; exact bk0 hnN
   have hQn1:Qn (q0T ts) (n+1)=Qn (q0T ts) n++newQ n 0 x0.q.1:=by
    show Qn (q0T ts) n++(match (Qn (q0T ts) n)[n]? with | none=>[] | some q=>newQ n 0 q.1)=_
    rw [hqn]
   have hnq:∀ i,(Qn (q0T ts) n++newQ n 0 (x0.q.1.take i)).length≤20000000∧(i≤x0.q.1.length→(newQ n 0 (x0.q.1.take i)).length≤1000*i):=fun i=>by
    have:∀ (l:List Stm) (k:Nat),(∀ s∈l,s.kd (ts.map (·.1)))→(newQ n k l).length≤1000*l.length:=by
     intro l
     induction l with
     | nil=>intro k _; simp [newQ]
     | cons s r ih =>
       intro k hs
       simp only [newQ,List.length_append,List.length_map,List.length_cons]
       have h1:=bw7 (hs s (by simp))
       have h2:=ih (k+1) fun y hy=>hs y (by simp [hy])
       omega
    have h3:=this (x0.q.1.take i) 0 fun s hs=>bl2 s (List.mem_of_mem_take hs)
    have h4:(x0.q.1.take i).length≤1000:=by simp; omega
    refine ⟨by rw [List.length_append]; omega,fun hi=>?_⟩
    rw [List.length_take,Nat.min_eq_left hi] at h3
    exact h3
   refine ⟨⟨_,SqL.of (hI.s _ _ elb)⟩,av6 (K:=K) (a:=lb) (xs:=sus) (fun i σ H6=>∃ (ks2:List KR) (bvs2:List V) (y2 y3 y4 y5:Option V),σ=[some (.ref lt),some (.ref ln),some (.ref bd),some (.ref kl),some (.int (n:Nat)),some (.ref lb),y2,y3,y4,y5]∧KeepI t.c_KeptBody H1 H6 kl bd ks2 bvs2∧ks2.map (·.q)=Qn (q0T ts) n++newQ n 0 (x0.q.1.take i)∧(∀ (j:Nat) x,ks2[j]?=some x→x.st=if j<n then a57 (ts.map (·.1)) j 0 (Qn (q0T ts) j).length x.q.1 else if j=n then a57 (ts.map (·.1)) n 0 (Qn (q0T ts) n).length (x0.q.1.take i) else [])∧i≤sus.length) ⟨ks,bvs,_,_,_,_,rfl,hI,by rw [hkq]; simp [newQ],fun j x e=>?_,Nat.zero_le _⟩ (fun i σ H6 _ zz=>by obtain ⟨_,_,_,_,_,_,_,h',_⟩:=zz; exact SqL.of (h'.s _ _ elb)) ?_ ?_⟩
   · rw [hst j x e]
     split
     · rfl
     · split
       · simp [a57]
       · rfl
   · rintro i sv σ H6 pq H7 hsv ⟨ks2,bvs2,y2,y3,y4,y5,rfl,hI2,hq2,hst2,hi⟩ s7 e7
     have hi':=(List.getElem?_eq_some_iff.mp hsv).1
     obtain ⟨x,hx⟩:∃ x,x0.q.1[i]?=some x:=⟨_,List.getElem?_eq_getElem (by omega)⟩
     have hkd:=bl2 x (List.mem_of_getElem? hx)
     have hsx:SAt H1 sv x:=hEs.2 i sv x hsv hx
     have htk:x0.q.1.take (i+1)=x0.q.1.take i++[x]:=by rw [List.take_add_one,hx]; rfl
     have hk2:ks2.length=(Qn (q0T ts) n).length+(newQ n 0 (x0.q.1.take i)).length:=by rw [← List.length_append,←hq2,List.length_map]
     have hnl:n<ks2.length:=by omega
     obtain ⟨x2,hx2⟩:∃ x2,ks2[n]?=some x2:=⟨_,List.getElem?_eq_getElem hnl⟩
     have hx2q:x2.q=x0.q:=by
      have h1:(ks2.map (·.q))[n]?=some x2.q:=by rw [List.getElem?_map,hx2]; rfl
      rw [hq2,List.getElem?_append_left (by omega),hqn] at h1
      exact (Option.some.inj h1).symm
     have hx2s:=hst2 n x2 hx2
     rw [if_neg (Nat.lt_irrefl _),if_pos rfl] at hx2s
     obtain ⟨hq3,hq4⟩:=hnq i
     have hq4:=hq4 (by omega)
     refine ⟨_,_,rfl,SqT.of e7,rfl,?_⟩
     walk_at "run"
     intro pb H8 f8 s8 e8
     walk_at "run"
     have hI8:=hI2.same (s7.trans s8)
     obtain ⟨odx,obv,ous,k1,k2,k3,k4⟩:=hI8.a n x2 hx2
     refine aa7 (SqL.of hI8.k) (a05 (j:=n) (v:=.ref x2.o) (by rw [List.getElem?_map,hx2]; rfl)) ?_
     walk_at "run"
     refine ⟨x2.o,_,odx,_,_,rfl,k1,T.cl_KeptBody,T.n_KeptBody_statements,a74 _ _ _,?_⟩
     walk_at "run"
     refine ab4 (SqL.of k3) ?_
     walk_at "run"
     refine ah1 (SqL.of hI8.k) ?_
     rw [List.length_map]
     walk_at "run"
     have hpb:Pl.At H8 (.ref pb) (n,i+1):=⟨pb,rfl,by rw [e8]; simp⟩
     refine ⟨sv,_,ks2.length,(n,i+1),x,ln,_,rfl,hsx.same hI8.s,hkd,hpb,hI8.s _ _ e1,fun v9 H9 s9 hv9=>?_⟩
     walk_at "run"
     have hI9:=hI8.same s9
     have k3':=s9 _ _ k3
     have k4':=k4.same s9
     have hol:ous.length=x2.st.length:=by rw [k4.len,List.length_map]
     have hol2:x2.st.length≤1000:=by rw [hx2s,aq4,List.length_take]; omega
     refine a51 k3' (by omega) ?_
     walk_at "run"
     have hI10:=hI9.put hx2 k3' k4' hv9
     have hpb10:Pl.At (upd H9 x2.l (.lst (ous++[v9]))) (.ref pb) (n,i+1):=⟨pb,rfl,(Tups.upd k3') _ _ (by rw [s9 _ _ e8]; simp)⟩
     generalize hks3:ks2.set n { x2 with st:=x2.st++[a52 (ts.map (·.1)) (n,i+1) ks2.length x] }=ks3 at hI10
     have hks3l:ks3.length=ks2.length:=by rw [← hks3,List.length_set]
     generalize upd H9 x2.l (.lst (ous++[v9]))=H10 at hI10 hpb10
     walk_at "run"
     refine ⟨sv,x,H1,_,rfl,hI10.s,hsx,hkd,fun p11 us11 H11 f11 s11 e11 hE11=>?_⟩
     walk_at "run"
     have hI11:=hI10.same s11
     have hul:us11.length=(a32 x).length:=hE11.1
     have hbl:=bw7 hkd
     have hbvl:bvs2.length=ks2.length:=by rw [hI2.e.1,List.length_map]
     refine ab4 (SqL.of hI11.b) ?_
     walk_at "run"
     have hsz:(16000100:Nat)≤sizeLine:=by decide
     refine av4 hI11.b e11 (by omega) ?_
     walk_at "run"
     have hp11:p11≠bd:=fun z=>by rw [z,hI10.b] at f11; cases f11
     have hkb:upd H11 bd (.lst (bvs2++us11)) kl=some (.lst (ks3.map fun x=>V.ref x.o)):=by rw [a14 hI11.ne]; exact hI11.k
     refine ab4 (SqL.of hkb) ?_
     walk_at "run"
     have e12:upd H11 bd (.lst (bvs2++us11)) p11=some (.lst us11):=by rw [a14 hp11]; exact e11
     have tU:Tups H11 (upd H11 bd (.lst (bvs2++us11))):=Tups.upd hI11.b
     obtain ⟨sa,sus',rfl,hsa⟩:=b47 hsx hkd
     have hsaU:=tU _ _ (hI11.s _ _ hsa)
     have hpbU:Pl.At (upd H11 bd (.lst (bvs2++us11))) (.ref pb) (n,i+1):=by
      obtain ⟨a,z1,z2⟩:=hpb10
      exact ⟨a,z1,tU _ _ (s11 _ _ z2)⟩
     refine ⟨⟨_,SqL.of e12⟩,a90 (xs:=us11) (by omega) (fun r acc H'=>r≤us11.length∧acc.length=r∧∃ zs,acc=zs.map (fun x:KR=>V.ref x.o)∧NewK t.c_KeptBody (upd H11 bd (.lst (bvs2++us11))) H' zs ((a32 x).take r) x.isL (some (n,i+1))) ⟨Nat.zero_le _,rfl,[],rfl,⟨rfl,fun j x e=>by simp at e,by simp,by simp,by simp,Same.refl _⟩⟩ (fun r acc H' ⟨_,ea,_,_,hz⟩=>⟨by omega,SqL.of (hz.s _ _ e12)⟩) ?_ ?_⟩
     · rintro r y acc H13 hy ⟨hr1,ea,zs,rfl,hz⟩
       have hr2:=(List.getElem?_eq_some_iff.mp hy).1
       obtain ⟨by',hby⟩:∃ b,(a32 x)[r]?=some b:=⟨_,List.getElem?_eq_getElem (by omega)⟩
       walk_at "run"
       refine a27 (SqT.of (hz.s _ _ hsaU)) (a05 (j:=0) rfl) ?_
       walk_at "run"
       intro o dx g1 g2 g3
       refine ⟨o,dx,_,_,rfl,a19,fun l H15 k1 k2 k3 k4=>⟨rfl,?_⟩⟩
       rw [← bw8 hkd] at k2
       have s35:Same H13 H15:=fun a ob e=>by
        have ao:a≠o:=fun z=>by rw [z,g1] at e; cases e
        have ad:a≠dx:=fun z=>by rw [z,g2] at e; cases e
        exact k4 _ _ (by rw [a14 ao,a14 ad]; exact e) ao
       have lo:l≠o:=fun z=>by rw [z,a19] at k1; cases k1
       have ld:l≠dx:=fun z=>by rw [z,a14 g3,a19] at k1; cases k1
       rw [a14 lo,a14 ld] at k1
       refine ⟨hr2,by simpa using ea,zs++[⟨o,l,(by',x.isL,some (n,i+1)),[]⟩],by simp,?_⟩
       rw [List.take_add_one,hby]
       exact hz.snoc s35 k1 k2 (hpbU.same (hz.s.trans s35)) k3
     rintro acc H13 ⟨_,ea,zs,rfl,hz⟩ p14 H14 f14 s14 e14
     rw [hul,List.take_length] at hz
     walk_at "run"
     have hz14:=hz.same s14
     have hkl14:=hz14.s _ _ hkb
     have hzl:zs.length=(a32 x).length:=by have:=congrArg List.length hz.q; simpa using this
     refine av4 hkl14 e14 (by simp only [List.length_map]; omega) ?_
     walk_at "run"
     have hI15:=hI11.app hE11 hz14
     rw [List.map_append] at hI15
     refine ⟨ks3++zs,_,_,_,_,_,rfl,hI15,?_,fun j z e=>?_,hi'⟩
     · rw [List.map_append,hz.q,htk,ah8,←hks3,←List.append_assoc]
       congr 1
       · rw [← hq2]
         apply List.ext_getElem?
         intro j
         rw [List.getElem?_map,List.getElem?_map,List.getElem?_set]
         split
         · rename_i hj
           subst hj
           rw [hx2]
           rfl
         · rfl
       · rw [List.length_take,Nat.min_eq_left (by omega),Nat.zero_add]
     · rcases Nat.lt_or_ge j ks3.length with hj | hj
       · rw [List.getElem?_append_left hj,←hks3,List.getElem?_set] at e
         by_cases hjn:n=j
         · subst hjn
           rw [if_pos rfl,if_pos hnl] at e
           obtain rfl:=Option.some.inj e
           rw [if_neg (Nat.lt_irrefl _),if_pos rfl,htk,ae4,hx2s,←hk2,List.length_take,Nat.min_eq_left (by omega),Nat.zero_add]
         · rw [if_neg hjn] at e
           rw [hst2 j z e]
           split
           · rfl
           · rw [if_neg (fun z=>hjn z.symm),if_neg (fun z=>hjn z.symm)]
       · rw [List.getElem?_append_right hj] at e
         rw [hz.st z (List.mem_of_getElem? e),if_neg (by omega),if_neg (by omega)]
   · rintro σ H6 ⟨ks2,bvs2,y2,y3,y4,y5,rfl,hI2,hq2,hst2,hi⟩
     rw [hsl,List.take_length] at hq2 hst2
     walk_at "run"
     refine bv6 rfl ?_
     rw [hPv]
     refine ⟨N - (n+1),by omega,n+1,ks2,bvs2,_,_,_,_,_,rfl,hI2,by rw [hQn1]; exact hq2,fun j x e=>?_,by omega,rfl⟩
     rw [hst2 j x e]
     by_cases h1:j<n
     · rw [if_pos h1,if_pos (by omega)]
     · rw [if_neg h1]
       by_cases h2:j=n
       · subst h2
         have h3:x.q=x0.q:=by
          have h4:(ks2.map (·.q))[j]?=some x.q:=by rw [List.getElem?_map,e]; rfl
          rw [hq2,List.getElem?_append_left (by omega),hqn] at h4
          exact (Option.some.inj h4).symm
         rw [if_pos rfl,if_pos (by omega),h3]
       · rw [if_neg h2,if_neg (by omega)]
def bm0 (K:PySem.W.Frag) (C CK:Addr):Sp:=fun vs H Q _=>∃ (p dx sp lb lt:Addr) (bvs tvs:List V) (bs:List (Str×Int)) (ts:List (Str×List Stm)) (N:Nat),vs=[.ref p,.ref sp]∧H p=some (.ins C dx [])∧H sp=some (.tup [.ref lb,.ref lt])∧H lb=some (.lst bvs)∧Each (BxAt H) bvs bs∧H lt=some (.lst tvs)∧Each (TkN H) tvs ts∧KpOk ts N ∧
 ∀ H',TeAt C CK H' p bs (kbL ts N)→(∀ x o,H x=some o→x≠p→H' x=some o)→Q .non H'
theorem ad4 (T:Txt K mg t):FnOk P w K mg base CX0 5 t.a_Teller___init__ t.fd_Teller___init__ ["self","script"] (bm0 K t.c_Teller t.c_KeptBody):=by
 have G_kept_bodies:=aj0 (P:=P) (w:=w) (base:=base) T
 refine T.f_Teller___init__.F.ok ad3 (fun vs H Q E h=>?_) (fun cdv A outer s H vs Q E hr h=>?_)
 · obtain ⟨p,dx,sp,lb,lt,bvs,tvs,bs,ts,N,rfl,_⟩:=h
   rfl
 · obtain ⟨p,dx,sp,lb,lt,bvs,tvs,bs,ts,N,rfl,hp,hsp,hlb,hbs,hlt,hts,hN,q⟩:=h
   refine ⟨_,(@a01 _ _ _ _ _ (ah3 K (pv 0) (@a58 _ _ _ _ _ _ _ _ _ (al1 K) (by rfl) T.z_list at1 (@a00 _ _ _ _ _ (@a22 _ _ _ _ _ _ _ (a07 K) (pv 1) (@a03 _ _ _ _) (fun _ _=>rfl)) (@a02 _) (by rfl)) (by decide) (by decide) (by rfl) (by rfl)) rfl)
    (@a04 _ _ _ (ah3 K (pv 0) (@a26 _ _ _ _ _ _ _ _ _ _ _ _ _ _ _ _ G_kept_bodies (hr.mono (by omega)) rfl T.f_kept_bodies.m T.f_kept_bodies.F.kp T.f_kept_bodies.b .nil a30 (@a00 _ _ _ _ _ (@a22 _ _ _ _ _ _ _ (a07 K) (pv 1) (@a03 _ _ _ _) (fun _ _=>rfl)) (@a02 _) (by rfl)) (by decide) (by rfl) (by rfl)) rfl))),?_⟩
   walk_at "go"
   refine a27 (SqT.of hsp) (a05 (j:=0) rfl) ?_
   walk_at "run"
   refine at2 (SqL.of hlb) ?_
   intro pl H1 f1 s1 e1
   walk_at "run"
   refine ⟨p,_,dx,_,rfl,s1 _ _ hp,T.cl_Teller,T.n_Teller_boxes,by decide,?_⟩
   walk_at "run"
   have e2:upd H1 p (.ins t.c_Teller dx (putF "boxes" (.ref pl) [])) p=some (.ins t.c_Teller dx (putF "boxes" (.ref pl) [])):=a19
   have k2:∀ x o,H x=some o→x≠p→upd H1 p (.ins t.c_Teller dx (putF "boxes" (.ref pl) [])) x=some o:=fun x o e z=>by rw [a14 z]; exact s1 _ _ e
   have hpp:pl≠p:=(a35 hp f1).symm
   have e3:upd H1 p (.ins t.c_Teller dx (putF "boxes" (.ref pl) [])) pl=some (.lst bvs):=by rw [a14 hpp]; exact e1
   generalize upd H1 p (.ins t.c_Teller dx (putF "boxes" (.ref pl) []))=H2 at e2 k2 e3
   have np:∀ {x:Addr}{o:HO},H x=some o→(∀ C dx fs,o≠.ins C dx fs)→H2 x=some o:=fun e z=>k2 _ _ e (b71 e hp (z _ _ _))
   have nt:∀ {x:Addr}{ys:List V},H x=some (.tup ys)→H2 x=some (.tup ys):=fun e=>np e (fun _ _ _ z=>nomatch z)
   have nl:∀ {x:Addr}{ys:List V},H x=some (.lst ys)→H2 x=some (.lst ys):=fun e=>np e (fun _ _ _ z=>nomatch z)
   refine a27 (SqT.of (nt hsp)) (a05 (j:=1) rfl) ?_
   walk_at "run"
   refine ⟨lt,tvs,ts,N,rfl,nl hlt,hts.mono fun v x z=>?_,hN,fun kl kvs H3 s3 f3 e4 hE=>?_⟩
   · obtain ⟨a,u,z1,z2,fs,z3⟩:=z
     exact ⟨a,u,z1,nt z2,fs,z3.mono ⟨fun b ys e=>nt e,fun a _ xs e=>nl e⟩⟩
   walk_at "run"
   have e5:=s3 _ _ e2
   refine ⟨p,_,dx,_,rfl,e5,T.cl_Teller,T.n_Teller_bodies,(by have h1:=a55 "boxes" (V.ref pl) []; rw [List.length_nil] at h1; omega),?_⟩
   have nt3:Tups H3 (upd H3 p (.ins t.c_Teller dx (putF "bodies" (.ref kl) (putF "boxes" (.ref pl) [])))):=b39 e5
   have nl3:∀ {x:Addr}{ys:List V},H3 x=some (.lst ys)→upd H3 p (.ins t.c_Teller dx (putF "bodies" (.ref kl) (putF "boxes" (.ref pl) []))) x=some (.lst ys):=fun e=>by rw [a14 (b71 e e5 (fun z=>nomatch z))]; exact e
   refine q _ ⟨dx,pl,kl,bvs,kvs,a19,nl3 (s3 _ _ e3),hbs.mono fun v b z=>?_,nl3 e4,hE.mono fun v b z=>?_⟩ fun x o e hx=>by rw [a14 hx]; exact s3 _ _ (k2 x o e hx)
   · obtain ⟨a,z1,z2⟩:=z
     exact ⟨a,z1,nt3 _ _ (s3 _ _ (nt z2))⟩
   · obtain ⟨o,odx,bv,l,us,z1,z2,z3,z4,z5⟩:=z
     have ho:o≠p:=fun z=>by
      rw [z,e5] at z2
      injection z2 with z2
      injection z2 with c1 c2 c3
      have h1:=congrArg (fun fs=>List.lookup (Str.ofString "loops") fs) c3
      rw [show List.lookup (Str.ofString "loops") (kbS (.bl b.lp) bv (.ref l))=some (.bl b.lp) from ah6 _ _ _,a29,if_neg (by decide +kernel)] at h1
      cases h1
     exact ⟨o,odx,bv,l,us,z1,by rw [a14 ho]; exact z2,z3.tups nt3,nl3 z4,z5.mono ⟨nt3,fun a ha=>by simp at ha⟩⟩
def bm1 (K:PySem.W.Frag):Sp:=fun vs H Q _=>∃ (a:Addr) (ns:List Int) (k:Nat),vs=[.ref a,.int (k:Nat)]∧SqL K H a (ns.map V.int)∧∀ z:Int,Q (.int z) H
theorem au2 (T:Txt K mg t):FnOk P w K mg base CX0 1 t.a__law_cell t.fd__law_cell ["script","k"] (bm1 K):=by
 refine T.f__law_cell.F.ok at9 (fun vs H Q E h=>?_) (fun cdv A outer s H vs Q E hr h=>?_)
 · obtain ⟨a,ns,k,rfl,_⟩:=h
   rfl
 · obtain ⟨a,ns,k,rfl,hS,q⟩:=h
   refine ⟨_,(@a01 _ _ _ _ _ (@a36 _ _ _ _ _ _ _ _ (b74 bz6 ax3 (@a03 _ _ _ _) (pv 1) (@a69 _ _ _ _ _ _ _ _ _ (aa5 K) (by rfl) T.z_len ae7 (@a00 _ _ _ _ _ (pv 0) (@a02 _) (by rfl)) (by decide) (by decide) (by rfl) (by rfl))) (@a04 _ _ _ (@a16 _ _ _ _ (@a22 _ _ _ _ _ _ _ (a38 K) (pv 0) (pv 1) (fun _ _=>rfl)))) (@a20 _))
    (@a04 _ _ _ (@a16 _ _ _ _ (@a03 _ _ _ _)))),?_⟩
   walk_at "go"
   refine a25 (by omega) ?_
   walk_at "run"
   refine ah1 hS ?_
   walk_at "run"
   rw [List.length_map]
   by_cases hk:k<ns.length
   · refine a25 (by omega) ?_
     walk_at "run"
     exact aa7 hS (a05 (j:=k) (v:=.int ns[k]) (by simp [hk])) (q _)
   · refine a24 (by omega) ?_
     walk_at "run"
     exact q 0
def bm2:Sp:=fun vs H Q _=>∃ (c:Int) (k:Nat),vs=[.int c,.int (k:Nat)]∧k≤100∧∀ r:Int,Q (.int r) H
theorem p60:(10:Int) ^ Int.toNat 60=1000000000000000000000000000000000000000000000000000000000000:=by decide
theorem bm3 (c:Int) {k:Nat}(hk:k≤100):Bd 210 (c % 10 ^ Int.toNat 60+7919*(k:Int)+1):=by
 rw [p60]
 have a1:=Int.emod_nonneg c (show (1000000000000000000000000000000000000000000000000000000000000:Int)≠0 by decide)
 have a2:=Int.emod_lt_of_pos c (show (0:Int)<1000000000000000000000000000000000000000000000000000000000000 by decide)
 refine Bd.of (by omega) ?_
 have e2:(2:Int) ^ 210=1645504557321206042154969182557350504982735865633579863348609024:=by decide
 rw [e2]
 omega
theorem b61 (c:Int):Bd 128 (c % 170141183460469231731687303715884105727):=by
 have a1:=Int.emod_nonneg c (show (170141183460469231731687303715884105727:Int)≠0 by decide)
 have a2:=Int.emod_lt_of_pos c (show (0:Int)<170141183460469231731687303715884105727 by decide)
 refine Bd.of a1 ?_
 have e2:(2:Int) ^ 128=340282366920938463463374607431768211456:=by decide
 rw [e2]
 omega
theorem au3 (T:Txt K mg t):FnOk P w K mg base CX0 1 t.a__law_stir t.fd__law_stir ["cell","k"] bm2:=by
 refine T.f__law_stir.F.ok sc_law_stir (fun vs H Q E h=>?_) (fun cdv A outer s H vs Q E hr h=>?_)
 · obtain ⟨c,k,rfl,_⟩:=h
   rfl
 · obtain ⟨c,k,rfl,hk,q⟩:=h
   refine ⟨_,(@a01 _ _ _ _ _ (@a18 _ _ 2 _ _ _ _ sc_law_stir.nd rfl (by walk_at "o") (@a34 _ _ _ _ _ _ _ _ ak9 (@a34 _ _ _ _ _ _ _ _ a37 (@a34 _ _ _ _ _ _ _ _ a37 (@a34 _ _ _ _ _ _ _ _ a75 (pv 0) (@a34 _ _ _ _ _ _ _ _ bp4 (@a03 _ _ _ _) (@a03 _ _ _ _))) (@a34 _ _ _ _ _ _ _ _ ak9 (@a03 _ _ _ _) (pv 1))) (@a03 _ _ _ _)) (@a03 _ _ _ _)) (by rfl) (by walk_at "o"))
    (@a01 _ _ _ _ _ (@a18 _ _ 2 _ _ _ _ sc_law_stir.nd rfl (by walk_at "o") (@a34 _ _ _ _ _ _ _ _ a75 (pv 2) (@a03 _ _ _ _)) (by rfl) (by walk_at "o"))
    (@a04 _ _ _ (@a16 _ _ _ _ (@a34 _ _ _ _ _ _ _ _ ag1 (@a34 _ _ _ _ _ _ _ _ a75 (@a34 _ _ _ _ _ _ _ _ ak9 (pv 2) (pv 2)) (@a03 _ _ _ _)) (@a03 _ _ _ _)))))),?_⟩
   walk_at "go"
   refine af8 (Bd.big (bm3 c hk) (show Bd 120 27182818284590452353602874713527 by unfold Bd; decide)) ?_
   walk_at "run"
   refine af8 (Bd.big (b61 _) (b61 _)) ?_
   walk_at "run"
   exact q _
theorem by5 {ks:List Nat}{i:Nat}{v:V}(h:(ab5 ks)[i]?=some v):∃ k,ks[i]?=some k∧v=.int (k:Nat):=by
 unfold ab5 at h
 rw [List.getElem?_map] at h
 obtain ⟨k,h1,h2⟩:=Option.map_eq_some_iff.mp h
 exact ⟨k,h1,h2.symm⟩
def bc2 (K:PySem.W.Frag):Sp:=fun vs H Q _=>∃ (c:Int) (a:Addr) (sz:List Nat),vs=[.int c,.ref a]∧H a=some (.lst (ab5 sz))∧(∀ s∈sz,0<s∧s≤1000)∧sz.length≤100∧∀ l ds H',H l=none→Same H H'→H' l=some (.lst (ab5 ds))→ds.length=sz.length→(∀ (i d s:Nat),ds[i]?=some d→sz[i]?=some s→d<s)→Q (.ref l) H'
theorem ae8 (T:Txt K mg t):FnOk P w K mg base CX0 2 t.a__law_drawn t.fd__law_drawn ["cell","sizes"] (bc2 K):=by
 have G__law_stir:=au3 (P:=P) (w:=w) (base:=base) T
 refine T.f__law_drawn.F.ok sc_law_drawn (fun vs H Q E h=>?_) (fun cdv A outer s H vs Q E hr h=>?_)
 · obtain ⟨c,a,sz,rfl,_⟩:=h
   rfl
 · obtain ⟨c,a,sz,rfl,ha,hs,hl,q⟩:=h
   refine ⟨_,(@a01 _ _ _ _ _ (@a18 _ _ 2 _ _ _ _ sc_law_drawn.nd rfl (by walk_at "o") (@a23 _ _ _ _ (@a02 _)) (by rfl) (by walk_at "o"))
    (@a01 _ _ _ _ _ (@a18 _ _ 3 _ _ _ _ sc_law_drawn.nd rfl (by walk_at "o") (@a34 _ _ _ _ _ _ _ _ ag1 (pv 0) (@a03 _ _ _ _)) (by rfl) (by walk_at "o"))
    (@a01 _ _ _ _ _ (@ac8 _ _ _ _ _ _ _ _ PassesOwn.never rfl (at3 K rfl T.z_enumerate (@a00 _ _ _ _ _ (pv 1) (@a02 _) (by rfl))) (aa6 K (n:=2) rfl (a21 (a17 (i:=4) sc_law_drawn.nd rfl (by walk_at "o")) (a21 (a17 (i:=5) sc_law_drawn.nd rfl (by walk_at "o")) (@a50 _)))) (@a04 _ _ _ (@a36 _ _ _ _ _ _ _ _ (@a12 _ _ _ _ _ _ _ _ a41 (@a34 _ _ _ _ _ _ _ _ a75 (pv 0) (@a03 _ _ _ _)) (@a03 _ _ _ _) (nomark _)) (@a01 _ _ _ _ _ (@a49 _ _ _ _ (@a64 _ K _ _ _ _ _ _ _ _ _ _ _ PySem.F.plainAttrs_list PySem.F.slot_list_append PySem.F.type_list_append a43 (pv 2) (@a00 _ _ _ _ _ (@a34 _ _ _ _ _ _ _ _ a75 (pv 3) (pv 5)) (@a02 _) (by rfl)) (by rfl) (by rfl) (by rfl) (by rfl) (by rfl) (by rfl)) (by rfl))
     (@a04 _ _ _ (@a18 _ _ 3 _ _ _ _ sc_law_drawn.nd rfl (by walk_at "o") (@a34 _ _ _ _ _ _ _ _ ag1 (pv 3) (pv 5)) (by rfl) (by walk_at "o")))) (@a04 _ _ _ (@a49 _ _ _ _ (@a64 _ K _ _ _ _ _ _ _ _ _ _ _ PySem.F.plainAttrs_list PySem.F.slot_list_append PySem.F.type_list_append a43 (pv 2) (@a00 _ _ _ _ _ (@a34 _ _ _ _ _ _ _ _ a75 (@a26 _ _ _ _ _ _ _ _ _ _ _ _ _ _ _ _ G__law_stir (hr.mono (by omega)) rfl T.f__law_stir.m T.f__law_stir.F.kp T.f__law_stir.b .nil a30 (@a00 _ _ _ _ _ (pv 3) (@a00 _ _ _ _ _ (pv 4) (@a02 _) (by rfl)) (by rfl)) (by decide) (by rfl) (by rfl)) (pv 5)) (@a02 _) (by rfl)) (by rfl) (by rfl) (by rfl) (by rfl) (by rfl) (by rfl)) (by rfl))))) (by intro _; rfl))
    (@a04 _ _ _ (@a16 _ _ _ _ (pv 2)))))),?_⟩
   have sl:(1000000:Nat)≤sizeLine:=le_line (Nat.le_refl _)
   walk_at "go"
   intro l H1 f1 s1 e1
   walk_at "run"
   refine ⟨⟨_,SqL.of (s1 _ _ ha)⟩,av6 (K:=K) (a:=a) (xs:=ab5 sz) (fun i σ H'=>∃ (rest:Int) (ds:List Nat) (y1 y2:Option V),σ=[some (.int c),some (.ref a),some (.ref l),some (.int rest),y1,y2]∧Same H H'∧H' l=some (.lst (ab5 ds))∧ds.length=i∧i≤sz.length∧∀ (i d s:Nat),ds[i]?=some d→sz[i]?=some s→d<s) ⟨_,[],_,_,rfl,s1,e1,rfl,Nat.zero_le _,by simp⟩ (fun i σ H' _ zz=>by obtain ⟨_,_,_,_,_,s',_⟩:=zz; exact SqL.of (s' _ _ ha)) ?_ ?_⟩
   · rintro i v σ H2 pq H3 hv ⟨rest,ds,y1,y2,rfl,s2,e2,hdl,hi,hd⟩ s3 e3
     obtain ⟨x,hx,rfl⟩:=by5 hv
     have hi':i<sz.length:=(List.getElem?_eq_some_iff.mp hx).1
     obtain ⟨x1,x2⟩:=hs x (List.mem_of_getElem? hx)
     have s23:=s2.trans s3
     have e23:=s3 _ _ e2
     have fin:∀ (z:Int) (r:Int) (y1 y2:Option V),0≤z→z<x→∃ (rest:Int) (ds':List Nat) (y1' y2':Option V),[some (V.int c),some (.ref a),some (.ref l),some (.int r),y1,y2]=[some (V.int c),some (.ref a),some (.ref l),some (.int rest),y1',y2']∧Same H (upd H3 l (.lst (ab5 ds++[.int z])))∧upd H3 l (.lst (ab5 ds++[.int z])) l=some (.lst (ab5 ds'))∧ds'.length=i+1∧i+1≤sz.length∧∀ (i d s:Nat),ds'[i]?=some d→sz[i]?=some s→d<s:=fun z r y1 y2 z0 z1=>by
      refine ⟨r,ds++[z.toNat],y1,y2,rfl,s23.updNew f1,?_,by simp [hdl],hi',fun j d s e4 e5=>?_⟩
      · rw [a19]
        simp only [ab5,List.map_append,List.map_cons,List.map_nil]
        rw [Int.toNat_of_nonneg z0]
      · rcases Nat.lt_or_ge j ds.length with hj | hj
        · rw [List.getElem?_append_left hj] at e4
          exact hd j d s e4 e5
        · rw [List.getElem?_append_right hj] at e4
          have:=(List.getElem?_eq_some_iff.mp e4).1
          simp only [List.length_cons,List.length_nil] at this
          have hji:j=i:=by omega
          rw [show j - ds.length=0 by omega] at e4
          obtain rfl:=Option.some.inj e4
          rw [hji,hx] at e5
          obtain rfl:=Option.some.inj e5
          omega
     refine ⟨_,_,rfl,SqT.of e3,rfl,?_⟩
     walk_at "run"
     by_cases hc:c % 2=0
     · refine a25 hc ?_
       walk_at "run"
       refine ab4 (SqL.of e23) ?_
       walk_at "run"
       refine a51 e23 (by simp only [ab5,List.length_map]; omega) ?_
       walk_at "run"
       refine i_rI (show CDiv _ _ from ⟨by omega,by omega⟩) ?_
       exact fin _ _ _ _ (Int.emod_nonneg _ (by omega)) (Int.emod_lt_of_pos _ (by omega))
     · refine a24 hc ?_
       walk_at "run"
       refine ab4 (SqL.of e23) ?_
       walk_at "run"
       refine ⟨_,i,rfl,by omega,fun r=>?_⟩
       walk_at "run"
       refine a51 e23 (by simp only [ab5,List.length_map]; omega) ?_
       walk_at "run"
       exact fin _ _ _ _ (Int.emod_nonneg _ (by omega)) (Int.emod_lt_of_pos _ (by omega))
   · rintro σ H2 ⟨rest,ds,y1,y2,rfl,s2,e2,hdl,hi,hd⟩
     walk_at "run"
     rw [show (ab5 sz).length=sz.length by simp [ab5]] at hdl
     exact q l ds H2 f1 s2 e2 hdl hd
structure Rw where
 p:List Pt
 ln:Option Nat
 bb:Bool
 way:Nat
def rwS (ln:Option Nat) (bb:Bool):Str:=match ln with
 | some l=>Str.ofString (toString (l:Int))++Str.ofString ":c"
 | none=>if bb then "bb" else "a"
def wyS (w:Nat):Str:=[Str.ofString "on","again","leave","stop"].getD w "stop"
def Rw.said (r:Rw):Str:=rwS r.ln r.bb
def Rw.st (r:Rw):Stm:=match r.ln with
 | some l=>.plain [.s "hand",.i (l:Int),.s "c"]
 | none=>.plain [.s "say",.s r.said]
def Rw.ws (r:Rw):List Stm:=if r.way=0 then [] else [.plain [.s (wyS r.way)]]
def Rw.br (r:Rw):Br:=.mk r.p (r.st::r.ws)
def RowAt (H:Hp) (v:V) (r:Rw):Prop:=∃ a pv,v=.ref a∧H a=some (.tup [pv,.str r.said,.str (wyS r.way)])∧PAt H pv r.p
theorem RowAt.same {H H':Hp}{v:V}{r:Rw}(h:RowAt H v r) (s:Same H H'):RowAt H' v r:=by
 obtain ⟨a,pv,h1,h2,h3⟩:=h
 exact ⟨a,pv,h1,s _ _ h2,h3.same s⟩
def PtOk (p:List Pt):Prop:=(∃ k:Int,p=[.s "key",.i k])∨(∃ w:Str,p=[.s "word",.s w])∨p=[.s "other"]∨p=[.s "none"]
structure RwOk (r:Rw):Prop where
 p:PtOk r.p
 ln:∀ l,r.ln=some l→l<10
 way:r.way<4
def rndS (k:Nat):Str:=Str.ofString "round"++([Str.ofString "x","y","z","u","v"].getD k "x")
def ac7 (k:Nat):Stm:=.test (.cmp true (.box "n") (.num (k:Int))) [.plain [.s "say",.s (rndS k)]] []
def aa0 (L Z:Nat) (rs:List Rw):List Stm:=(List.range Z).map ac7++[.put "n" (.two true (.box "n") (.num 1)),.wait (L:Int) (rs.map Rw.br),.plain [.s "say",.s "on"]]
def tsS (L Z:Nat) (rs:List Rw):List (Str×List Stm):=[("main",[.loop (aa0 L Z rs),.plain [.s "say",.s "bye"]])]
def by6 (H:Hp) (a:Addr) (L Z:Nat) (rs:List Rw):Prop:=∃ lb lt bvs tvs,H a=some (.tup [.ref lb,.ref lt])∧H lb=some (.lst bvs)∧Each (BxAt H) bvs [("n",(Z:Int))]∧H lt=some (.lst tvs)∧Each (TkN H) tvs (tsS L Z rs)
def PM (H:Hp) (v:V):Prop:=∃ p,PAt H v p∧PtOk p
theorem PM.same {H H':Hp}{v:V}(h:PM H v) (s:Same H H'):PM H' v:=by
 obtain ⟨p,h1,h2⟩:=h
 exact ⟨p,h1.same s,h2⟩
theorem au4 {xs:List V}{lo hi:Option Int}{v:V}(h:v∈cutV xs lo hi):v∈xs:=List.mem_of_mem_drop (List.mem_of_mem_take h)
theorem b62 {us:List V}{k:Nat}:cutV us none (some (k:Int))=us.take k:=by
 unfold cutV
 rw [HT.sIx_none,HT.sIx_nat,List.drop_zero,Nat.sub_zero]
 by_cases h:k≤us.length
 · rw [Nat.min_eq_left h]
 · rw [Nat.min_eq_right (by omega),List.take_of_length_le (by simp),List.take_of_length_le (by omega)]
theorem b63 {us:List V}{k:Nat}:cutV us (some (k:Int)) none=us.drop k:=by
 unfold cutV
 rw [HT.sIx_none,HT.sIx_nat]
 by_cases h:k≤us.length
 · rw [Nat.min_eq_left h,List.take_of_length_le (by simp)]
 · rw [Nat.min_eq_right (by omega),List.drop_of_length_le (Nat.le_refl _),List.drop_of_length_le (by omega)]
   simp
theorem bf4 {H:Hp}{a:Addr}{k:Int}(e:H a=some (.tup [.str "key",.int k])):PM H (.ref a):=⟨[.s "key",.i k],a46 e a28 aa9,.inl ⟨k,rfl⟩⟩
theorem bm4 {H:Hp}{a:Addr}{k:Str}(e:H a=some (.tup [.str "word",.str k])):PM H (.ref a):=⟨[.s "word",.s k],a46 e a28 a28,.inr (.inl ⟨k,rfl⟩)⟩
theorem bc3 {H:Hp}{a:Addr}(e:H a=some (.tup [.str "other"])):PM H (.ref a):=⟨[.s "other"],ae0 e a28,.inr (.inr (.inl rfl))⟩
theorem bm5 {H:Hp}{a:Addr}(e:H a=some (.tup [.str "none"])):PM H (.ref a):=⟨[.s "none"],ae0 e a28,.inr (.inr (.inr rfl))⟩
theorem am8 {ds sz:List Nat}(hl:ds.length=sz.length) (hd:∀ (i d s:Nat),ds[i]?=some d→sz[i]?=some s→d<s) (i s:Nat) (h:sz[i]?=some s):∃ d,ds[i]?=some d∧d<s:=by
 have hi:=(List.getElem?_eq_some_iff.mp h).1
 have e:ds[i]?=some (ds[i]'(by omega)):=List.getElem?_eq_getElem (by omega)
 exact ⟨_,e,hd i _ s e h⟩
theorem seven {ds:List Nat}(h:ds.length=7):∃ a b c d e f g,ds=[a,b,c,d,e,f,g]:=by
 match ds,h with
 | [a,b,c,d,e,f,g],_=>exact ⟨a,b,c,d,e,f,g,rfl⟩
theorem three {ds:List Nat}(h:ds.length=3):∃ a b c,ds=[a,b,c]:=by
 match ds,h with
 | [a,b,c],_=>exact ⟨a,b,c,rfl⟩
theorem c49:∀ l,l<10→(Str.ofString (toString ((l:Nat):Int))++Str.ofString ":c").length=3∧(!(Builtin.Str.occurrences (Str.ofString (toString ((l:Nat):Int))++Str.ofString ":c") (Str.ofString ":") 0 (Str.ofString (toString ((l:Nat):Int))++Str.ofString ":c").length 1).isEmpty)=true∧(∃ c,atI (Str.ofString (toString ((l:Nat):Int))++Str.ofString ":c").cps.toList 0=some c∧intText? ⟨#[c]⟩=some (l:Int))∧Txt.slice (Str.ofString (toString ((l:Nat):Int))++Str.ofString ":c") (some 2) none=Str.ofString "c":=by
 intro l hl
 have:l=0∨l=1∨l=2∨l=3∨l=4∨l=5∨l=6∨l=7∨l=8∨l=9:=by omega
 rcases this with rfl | rfl | rfl | rfl | rfl | rfl | rfl | rfl | rfl | rfl
 · exact ⟨by decide +kernel,by decide +kernel,⟨48,by decide +kernel,by decide +kernel⟩,by decide +kernel⟩
 · exact ⟨by decide +kernel,by decide +kernel,⟨49,by decide +kernel,by decide +kernel⟩,by decide +kernel⟩
 · exact ⟨by decide +kernel,by decide +kernel,⟨50,by decide +kernel,by decide +kernel⟩,by decide +kernel⟩
 · exact ⟨by decide +kernel,by decide +kernel,⟨51,by decide +kernel,by decide +kernel⟩,by decide +kernel⟩
 · exact ⟨by decide +kernel,by decide +kernel,⟨52,by decide +kernel,by decide +kernel⟩,by decide +kernel⟩
 · exact ⟨by decide +kernel,by decide +kernel,⟨53,by decide +kernel,by decide +kernel⟩,by decide +kernel⟩
 · exact ⟨by decide +kernel,by decide +kernel,⟨54,by decide +kernel,by decide +kernel⟩,by decide +kernel⟩
 · exact ⟨by decide +kernel,by decide +kernel,⟨55,by decide +kernel,by decide +kernel⟩,by decide +kernel⟩
 · exact ⟨by decide +kernel,by decide +kernel,⟨56,by decide +kernel,by decide +kernel⟩,by decide +kernel⟩
 · exact ⟨by decide +kernel,by decide +kernel,⟨57,by decide +kernel,by decide +kernel⟩,by decide +kernel⟩
theorem sayF:∀ b:Bool,(!(Builtin.Str.occurrences (rwS none b) (Str.ofString ":") 0 (rwS none b).length 1).isEmpty)=false:=by
 intro b
 cases b <;> decide +kernel
theorem RowAt.tups {H H':Hp}{v:V}{r:Rw}(h:RowAt H v r) (s:Tups H H'):RowAt H' v r:=by
 obtain ⟨a,pv,h1,h2,h3⟩:=h
 exact ⟨a,pv,h1,s _ _ h2,al8 h3 s⟩
theorem PM.tups {H H':Hp}{v:V}(h:PM H v) (s:Tups H H'):PM H' v:=by
 obtain ⟨p,h1,h2⟩:=h
 exact ⟨p,al8 h1 s,h2⟩
def OffT (l:Addr) (H:Hp) (v:V) (t:Tr):Prop:=∃ fs,t.At H v fs∧l∉fs
theorem OffT.same {l:Addr}{H H':Hp}{v:V}{t:Tr}(h:OffT l H v t) (s:Same H H'):OffT l H' v t:=by
 obtain ⟨fs,h1,h2⟩:=h
 exact ⟨fs,h1.mono (s.keep _),h2⟩
theorem OffT.upd {l:Addr}{H:Hp}{v:V}{t:Tr}{xs:List V}{o:HO}(h:OffT l H v t) (e:H l=some (.lst xs)):OffT l (upd H l o) v t:=by
 obtain ⟨fs,h1,h2⟩:=h
 exact ⟨fs,h1.mono (Keep.upd e h2),h2⟩
theorem by7 {r:Rw}(h:RwOk r) (h0:r.way≠0):wyS r.way=Str.ofString "again"∨wyS r.way=Str.ofString "leave"∨wyS r.way=Str.ofString "stop":=by
 have:=h.way
 have:r.way=1∨r.way=2∨r.way=3:=by omega
 rcases this with e | e | e <;> rw [e]
 · exact .inl rfl
 · exact .inr (.inl rfl)
 · exact .inr (.inr rfl)
theorem by8 {w:Nat}(h:w<4):(wyS w=Str.ofString "on")↔w=0:=by
 have:w=0∨w=1∨w=2∨w=3:=by omega
 rcases this with rfl | rfl | rfl | rfl
 · exact ⟨fun _=>rfl,fun _=>rfl⟩
 · exact ⟨fun z=>absurd z (by decide +kernel),fun z=>by omega⟩
 · exact ⟨fun z=>absurd z (by decide +kernel),fun z=>by omega⟩
 · exact ⟨fun z=>absurd z (by decide +kernel),fun z=>by omega⟩
def b64 (K:PySem.W.Frag):Sp:=fun vs H Q _=>∃ (a:Addr) (ns:List Int),vs=[.ref a]∧SqL K H a (ns.map V.int)∧∀ p lr mp rvs rs L Z H',Same H H'→H' p=some (.lst [.ref lr,.int (L:Nat),.int (Z:Nat),.ref mp])→H' lr=some (.lst rvs)→Each (RowAt H') rvs rs→(∀ r∈rs,RwOk r)→rs.length≤4→L≤9→2≤Z→Z≤5→by6 H' mp L Z rs→Q (.ref p) H'
theorem am9 (T:Txt K mg t):FnOk P w K mg base CX0 3 t.a__law_script t.fd__law_script ["script"] (b64 K):=by
 have G__law_cell:=au2 (P:=P) (w:=w) (base:=base) T
 have G__law_drawn:=ae8 (P:=P) (w:=w) (base:=base) T
 refine T.f__law_script.F.ok sc_law_script (fun vs H Q E h=>?_) (fun cdv A outer s H vs Q E hr h=>?_)
 · obtain ⟨a,ns,rfl,_⟩:=h
   rfl
 · obtain ⟨a,ns,rfl,hS,q⟩:=h
   refine ⟨_,(@a01 _ _ _ _ _ (@a18 _ _ 1 _ _ _ _ sc_law_script.nd rfl (by walk_at "o") (@a26 _ _ _ _ _ _ _ _ _ _ _ _ _ _ _ _ G__law_drawn (hr.mono (by omega)) rfl T.f__law_drawn.m T.f__law_drawn.F.kp T.f__law_drawn.b .nil a30 (@a00 _ _ _ _ _ (@a26 _ _ _ _ _ _ _ _ _ _ _ _ _ _ _ _ G__law_cell (hr.mono (by omega)) rfl T.f__law_cell.m T.f__law_cell.F.kp T.f__law_cell.b .nil a30 (@a00 _ _ _ _ _ (pv 0) (@a00 _ _ _ _ _ (@a03 _ _ _ _) (@a02 _) (by rfl)) (by rfl)) (by decide) (by rfl) (by rfl)) (@a00 _ _ _ _ _ (@a23 _ _ _ _ (@a00 _ _ _ _ _ (@a03 _ _ _ _) (@a00 _ _ _ _ _ (@a03 _ _ _ _) (@a00 _ _ _ _ _ (@a03 _ _ _ _) (@a00 _ _ _ _ _ (@a03 _ _ _ _) (@a00 _ _ _ _ _ (@a03 _ _ _ _) (@a00 _ _ _ _ _ (@a03 _ _ _ _) (@a00 _ _ _ _ _ (@a03 _ _ _ _) (@a02 _) (by rfl)) (by rfl)) (by rfl)) (by rfl)) (by rfl)) (by rfl)) (by rfl))) (@a02 _) (by rfl)) (by rfl)) (by decide) (by rfl) (by rfl)) (by rfl) (by walk_at "o"))
    (@a01 _ _ _ _ _ (@aj1 _ _ _ _ _ _ (@a70 _ _ _ _ _ _ _ _ _ _ (ab3 K) (pv 1) (@ac3 _) (@a84 _ _ _ (@a03 _ _ _ _))) (ad9 K (n:=4) rfl (a21 (a17 (i:=2) sc_law_script.nd rfl (by walk_at "o")) (a21 (a17 (i:=3) sc_law_script.nd rfl (by walk_at "o")) (a21 (a17 (i:=4) sc_law_script.nd rfl (by walk_at "o")) (a21 (a17 (i:=5) sc_law_script.nd rfl (by walk_at "o")) (@a50 _)))))) (by rfl) (by rfl) (by rfl))
    (@a01 _ _ _ _ _ (@aj1 _ _ _ _ _ _ (@a70 _ _ _ _ _ _ _ _ _ _ (ab3 K) (pv 1) (@a84 _ _ _ (@a03 _ _ _ _)) (@ac3 _)) (ad9 K (n:=3) rfl (a21 (a17 (i:=6) sc_law_script.nd rfl (by walk_at "o")) (a21 (a17 (i:=7) sc_law_script.nd rfl (by walk_at "o")) (a21 (a17 (i:=8) sc_law_script.nd rfl (by walk_at "o")) (@a50 _))))) (by rfl) (by rfl) (by rfl))
    (@a01 _ _ _ _ _ (@a18 _ _ 9 _ _ _ _ sc_law_script.nd rfl (by walk_at "o") (@a22 _ _ _ _ _ _ _ (a38 K) (@a23 _ _ _ _ (@a00 _ _ _ _ _ (@a06 _ _ _ _) (@a00 _ _ _ _ _ (@a06 _ _ _ _) (@a00 _ _ _ _ _ (@a06 _ _ _ _) (@a00 _ _ _ _ _ (@a06 _ _ _ _) (@a00 _ _ _ _ _ (@a06 _ _ _ _) (@a02 _) (by rfl)) (by rfl)) (by rfl)) (by rfl)) (by rfl))) (pv 8) (fun _ _=>rfl)) (by rfl) (by walk_at "o"))
    (@a01 _ _ _ _ _ (@a18 _ _ 10 _ _ _ _ sc_law_script.nd rfl (by walk_at "o") (@a23 _ _ _ _ (@a00 _ _ _ _ _ (@a15 _ _ _ _ _ (@a00 _ _ _ _ _ (@a06 _ _ _ _) (@a00 _ _ _ _ _ (pv 5) (@a02 _) (by rfl)) (by rfl))) (@a00 _ _ _ _ _ (@a15 _ _ _ _ _ (@a00 _ _ _ _ _ (@a06 _ _ _ _) (@a00 _ _ _ _ _ (pv 9) (@a02 _) (by rfl)) (by rfl))) (@a00 _ _ _ _ _ (@a15 _ _ _ _ _ (@a00 _ _ _ _ _ (@a06 _ _ _ _) (@a02 _) (by rfl))) (@a00 _ _ _ _ _ (@a15 _ _ _ _ _ (@a00 _ _ _ _ _ (@a06 _ _ _ _) (@a00 _ _ _ _ _ (@a34 _ _ _ _ _ _ _ _ a37 (pv 5) (@a03 _ _ _ _)) (@a02 _) (by rfl)) (by rfl))) (@a02 _) (by rfl)) (by rfl)) (by rfl)) (by rfl))) (by rfl) (by walk_at "o"))
    (@a01 _ _ _ _ _ (@a18 _ _ 10 _ _ _ _ sc_law_script.nd rfl (by walk_at "o") (@a70 _ _ _ _ _ _ _ _ _ _ (ab3 K) (@a34 _ _ _ _ _ _ _ _ a37 (@a70 _ _ _ _ _ _ _ _ _ _ (ab3 K) (pv 10) (@a84 _ _ _ (pv 7)) (@ac3 _)) (@a70 _ _ _ _ _ _ _ _ _ _ (ab3 K) (pv 10) (@ac3 _) (@a84 _ _ _ (pv 7)))) (@ac3 _) (@a84 _ _ _ (pv 4))) (by rfl) (by walk_at "o"))
    (@a48 _ _ _ _ _ (@a36 _ _ _ _ _ _ _ _ (@ah2 _ _ _ (@PW.pt _ _ _ (@az7 _ _ _ _ _ _ _ (@a12 _ _ _ _ _ _ _ _ bg2 (pv 2) (@a03 _ _ _ _) (nomark _)) (@as1 _ _ _ _ (@a12 _ _ _ _ _ _ _ _ a41 (pv 6) (@a03 _ _ _ _) (nomark _)))))) (@a04 _ _ _ (@a49 _ _ _ _ (@a64 _ K _ _ _ _ _ _ _ _ _ _ _ PySem.F.plainAttrs_list PySem.F.slot_list_insert PySem.F.type_list_insert az1 (pv 10) (@a00 _ _ _ _ _ (@a34 _ _ _ _ _ _ _ _ a75 (pv 7) (@a34 _ _ _ _ _ _ _ _ a37 (@a69 _ _ _ _ _ _ _ _ _ (aa5 K) (by rfl) T.z_len ae7 (@a00 _ _ _ _ _ (pv 10) (@a02 _) (by rfl)) (by decide) (by decide) (by rfl) (by rfl)) (@a03 _ _ _ _))) (@a00 _ _ _ _ _ (@a15 _ _ _ _ _ (@a00 _ _ _ _ _ (@a06 _ _ _ _) (@a02 _) (by rfl))) (@a02 _) (by rfl)) (by rfl)) (by rfl) (by rfl) (by rfl) (by rfl) (by rfl) (by rfl)) (by rfl))) (@a20 _))
    (@a01 _ _ _ _ _ (@a18 _ _ 11 _ _ _ _ sc_law_script.nd rfl (by walk_at "o") (@a23 _ _ _ _ (@a02 _)) (by rfl) (by walk_at "o"))
    (@a01 _ _ _ _ _ (@ac8 _ _ _ _ _ _ _ _ PassesOwn.never rfl (an5 rfl T.z_range (@a00 _ _ _ _ _ (@a69 _ _ _ _ _ _ _ _ _ (aa5 K) (by rfl) T.z_len ae7 (@a00 _ _ _ _ _ (pv 10) (@a02 _) (by rfl)) (by decide) (by decide) (by rfl) (by rfl)) (@a02 _) (by rfl))) (a17 (i:=12) sc_law_script.nd rfl (by walk_at "o")) (@a01 _ _ _ _ _ (@aj1 _ _ _ _ _ _ (@a26 _ _ _ _ _ _ _ _ _ _ _ _ _ _ _ _ G__law_drawn (hr.mono (by omega)) rfl T.f__law_drawn.m T.f__law_drawn.F.kp T.f__law_drawn.b .nil a30 (@a00 _ _ _ _ _ (@a34 _ _ _ _ _ _ _ _ a37 (@a26 _ _ _ _ _ _ _ _ _ _ _ _ _ _ _ _ G__law_cell (hr.mono (by omega)) rfl T.f__law_cell.m T.f__law_cell.F.kp T.f__law_cell.b .nil a30 (@a00 _ _ _ _ _ (pv 0) (@a00 _ _ _ _ _ (@a34 _ _ _ _ _ _ _ _ a37 (@a03 _ _ _ _) (@a34 _ _ _ _ _ _ _ _ a75 (pv 12) (@a03 _ _ _ _))) (@a02 _) (by rfl)) (by rfl)) (by decide) (by rfl) (by rfl)) (@a34 _ _ _ _ _ _ _ _ ag1 (pv 12) (@a03 _ _ _ _))) (@a00 _ _ _ _ _ (@a23 _ _ _ _ (@a00 _ _ _ _ _ (@a03 _ _ _ _) (@a00 _ _ _ _ _ (@a03 _ _ _ _) (@a00 _ _ _ _ _ (@a03 _ _ _ _) (@a02 _) (by rfl)) (by rfl)) (by rfl))) (@a02 _) (by rfl)) (by rfl)) (by decide) (by rfl) (by rfl)) (ad9 K (n:=3) rfl (a21 (a17 (i:=13) sc_law_script.nd rfl (by walk_at "o")) (a21 (a17 (i:=14) sc_law_script.nd rfl (by walk_at "o")) (a21 (a17 (i:=15) sc_law_script.nd rfl (by walk_at "o")) (@a50 _))))) (by rfl) (by rfl) (by rfl))
     (@a04 _ _ _ (@a49 _ _ _ _ (@a64 _ K _ _ _ _ _ _ _ _ _ _ _ PySem.F.plainAttrs_list PySem.F.slot_list_append PySem.F.type_list_append a43 (pv 11) (@a00 _ _ _ _ _ (@a15 _ _ _ _ _ (@a00 _ _ _ _ _ (@a22 _ _ _ _ _ _ _ (a38 K) (pv 10) (pv 12) (fun _ _=>rfl)) (@a00 _ _ _ _ _ (@a22 _ _ _ _ _ _ _ (a38 K) (@a23 _ _ _ _ (@a00 _ _ _ _ _ (@a06 _ _ _ _) (@a00 _ _ _ _ _ (@a06 _ _ _ _) (@a00 _ _ _ _ _ (@a34 _ _ _ _ _ _ _ _ a37 (@a58 _ _ _ _ _ _ _ _ _ b91 (by rfl) T.z_str bs9 (@a00 _ _ _ _ _ (pv 14) (@a02 _) (by rfl)) (by decide) (by decide) (by rfl) (by rfl)) (@a06 _ _ _ _)) (@a02 _) (by rfl)) (by rfl)) (by rfl))) (pv 15) (fun _ _=>rfl)) (@a00 _ _ _ _ _ (@a22 _ _ _ _ _ _ _ (a38 K) (@a23 _ _ _ _ (@a00 _ _ _ _ _ (@a06 _ _ _ _) (@a00 _ _ _ _ _ (@a06 _ _ _ _) (@a00 _ _ _ _ _ (@a06 _ _ _ _) (@a00 _ _ _ _ _ (@a06 _ _ _ _) (@a02 _) (by rfl)) (by rfl)) (by rfl)) (by rfl))) (pv 13) (fun _ _=>rfl)) (@a02 _) (by rfl)) (by rfl)) (by rfl))) (@a02 _) (by rfl)) (by rfl) (by rfl) (by rfl) (by rfl) (by rfl) (by rfl)) (by rfl)))) (by intro _; rfl))
    (@a01 _ _ _ _ _ (@a18 _ _ 16 _ _ _ _ sc_law_script.nd rfl (by walk_at "o") (@a23 _ _ _ _ (@a02 _)) (by rfl) (by walk_at "o"))
    (@a01 _ _ _ _ _ (@ac8 _ _ _ _ _ _ _ _ PassesOwn.never rfl (a40 K (pv 11)) (aa6 K (n:=3) rfl (a21 (a17 (i:=17) sc_law_script.nd rfl (by walk_at "o")) (a21 (a17 (i:=9) sc_law_script.nd rfl (by walk_at "o")) (a21 (a17 (i:=13) sc_law_script.nd rfl (by walk_at "o")) (@a50 _))))) (@a01 _ _ _ _ _ (@a18 _ _ 18 _ _ _ _ sc_law_script.nd rfl (by walk_at "o") (@a15 _ _ _ _ _ (@a00 _ _ _ _ _ (@a06 _ _ _ _) (@a00 _ _ _ _ _ (pv 9) (@a02 _) (by rfl)) (by rfl))) (by rfl) (by walk_at "o"))
     (@a48 _ _ _ _ _ (@a36 _ _ _ _ _ _ _ _ (@a12 _ _ _ _ _ _ _ _ bs4 (@a06 _ _ _ _) (pv 9) (by with_unfolding_all rfl)) (@a04 _ _ _ (@a18 _ _ 18 _ _ _ _ sc_law_script.nd rfl (by walk_at "o") (@a15 _ _ _ _ _ (@a00 _ _ _ _ _ (@a06 _ _ _ _) (@a00 _ _ _ _ _ (@a58 _ _ _ _ _ _ _ _ _ bj6 (by rfl) T.z_int bs8 (@a00 _ _ _ _ _ (@a22 _ _ _ _ _ _ _ (al0 K) (pv 9) (@a03 _ _ _ _) (fun _ _=>rfl)) (@a02 _) (by rfl)) (by decide) (by decide) (by rfl) (by rfl)) (@a00 _ _ _ _ _ (@a70 _ _ _ _ _ _ _ _ _ _ bj7 (pv 9) (@a84 _ _ _ (@a03 _ _ _ _)) (@ac3 _)) (@a02 _) (by rfl)) (by rfl)) (by rfl))) (by rfl) (by walk_at "o"))) (@a20 _))
     (@a04 _ _ _ (@a49 _ _ _ _ (@a64 _ K _ _ _ _ _ _ _ _ _ _ _ PySem.F.plainAttrs_list PySem.F.slot_list_append PySem.F.type_list_append a43 (pv 16) (@a00 _ _ _ _ _ (@a15 _ _ _ _ _ (@a00 _ _ _ _ _ (pv 17) (@a00 _ _ _ _ _ (@a34 _ _ _ _ _ _ _ _ a37 (@a23 _ _ _ _ (@a00 _ _ _ _ _ (pv 18) (@a02 _) (by rfl))) (ay4 (Nt:=["word"]) (Nf:=[]) (caps:=[]) rfl (a56 (sc:=a08 aa4) rfl rfl (by decide +kernel) (by decide +kernel) (by decide +kernel) rfl (by decide +kernel)) (a40 K (@a23 _ _ _ _ (@a00 _ _ _ _ _ (pv 13) (@a02 _) (by rfl)))) (fun _ _ _ _ _=>(a17 (i:=0) (show (["word"]:List Str).Nodup by decide +kernel) rfl (by walk_at "o"))) (fun _ _ _ _ _=>(@b22 _ _ _ (@a12 _ _ _ _ _ _ _ _ bz5 (pv 0) (@a06 _ _ _ _) (nomark _)))) (fun _ _ _ _ _=>(@a15 _ _ _ _ _ (@a00 _ _ _ _ _ (pv 0) (@a02 _) (by rfl)))))) (@a02 _) (by rfl)) (by rfl))) (@a02 _) (by rfl)) (by rfl) (by rfl) (by rfl) (by rfl) (by rfl) (by rfl)) (by rfl))))) (by intro _; rfl))
    (@a01 _ _ _ _ _ (@a18 _ _ 19 _ _ _ _ sc_law_script.nd rfl (by walk_at "o") (@a23 _ _ _ _ (@a02 _)) (by rfl) (by walk_at "o"))
    (@a01 _ _ _ _ _ (@ac8 _ _ _ _ _ _ _ _ PassesOwn.never rfl (an5 rfl T.z_range (@a00 _ _ _ _ _ (@a34 _ _ _ _ _ _ _ _ a37 (pv 3) (@a03 _ _ _ _)) (@a02 _) (by rfl))) (a17 (i:=12) sc_law_script.nd rfl (by walk_at "o")) (@a04 _ _ _ (@a49 _ _ _ _ (@a64 _ K _ _ _ _ _ _ _ _ _ _ _ PySem.F.plainAttrs_list PySem.F.slot_list_append PySem.F.type_list_append a43 (pv 19) (@a00 _ _ _ _ _ (@a15 _ _ _ _ _ (@a00 _ _ _ _ _ (@a06 _ _ _ _) (@a00 _ _ _ _ _ (@a15 _ _ _ _ _ (@a00 _ _ _ _ _ (@a06 _ _ _ _) (@a00 _ _ _ _ _ (@a15 _ _ _ _ _ (@a00 _ _ _ _ _ (@a06 _ _ _ _) (@a00 _ _ _ _ _ (@a06 _ _ _ _) (@a02 _) (by rfl)) (by rfl))) (@a00 _ _ _ _ _ (@a15 _ _ _ _ _ (@a00 _ _ _ _ _ (@a06 _ _ _ _) (@a00 _ _ _ _ _ (pv 12) (@a02 _) (by rfl)) (by rfl))) (@a02 _) (by rfl)) (by rfl)) (by rfl))) (@a00 _ _ _ _ _ (@a23 _ _ _ _ (@a00 _ _ _ _ _ (@a15 _ _ _ _ _ (@a00 _ _ _ _ _ (@a06 _ _ _ _) (@a00 _ _ _ _ _ (@a34 _ _ _ _ _ _ _ _ a37 (@a06 _ _ _ _) (@a22 _ _ _ _ _ _ _ (al0 K) (@a06 _ _ _ _) (pv 12) (fun _ _=>rfl))) (@a02 _) (by rfl)) (by rfl))) (@a02 _) (by rfl))) (@a00 _ _ _ _ _ (@a23 _ _ _ _ (@a02 _)) (@a02 _) (by rfl)) (by rfl)) (by rfl)) (by rfl))) (@a02 _) (by rfl)) (by rfl) (by rfl) (by rfl) (by rfl) (by rfl) (by rfl)) (by rfl))) (by intro _; rfl))
    (@a01 _ _ _ _ _ (@a18 _ _ 19 _ _ _ _ sc_law_script.nd rfl (by walk_at "o") (@a34 _ _ _ _ _ _ _ _ a37 (pv 19) (@a23 _ _ _ _ (@a00 _ _ _ _ _ (@a15 _ _ _ _ _ (@a00 _ _ _ _ _ (@a06 _ _ _ _) (@a00 _ _ _ _ _ (@a06 _ _ _ _) (@a00 _ _ _ _ _ (@a15 _ _ _ _ _ (@a00 _ _ _ _ _ (@a06 _ _ _ _) (@a00 _ _ _ _ _ (@a15 _ _ _ _ _ (@a00 _ _ _ _ _ (@a06 _ _ _ _) (@a00 _ _ _ _ _ (@a06 _ _ _ _) (@a02 _) (by rfl)) (by rfl))) (@a00 _ _ _ _ _ (@a15 _ _ _ _ _ (@a00 _ _ _ _ _ (@a06 _ _ _ _) (@a00 _ _ _ _ _ (@a03 _ _ _ _) (@a02 _) (by rfl)) (by rfl))) (@a02 _) (by rfl)) (by rfl)) (by rfl))) (@a02 _) (by rfl)) (by rfl)) (by rfl))) (@a00 _ _ _ _ _ (@a15 _ _ _ _ _ (@a00 _ _ _ _ _ (@a06 _ _ _ _) (@a00 _ _ _ _ _ (pv 2) (@a00 _ _ _ _ _ (pv 16) (@a02 _) (by rfl)) (by rfl)) (by rfl))) (@a00 _ _ _ _ _ (@a15 _ _ _ _ _ (@a00 _ _ _ _ _ (@a06 _ _ _ _) (@a00 _ _ _ _ _ (@a06 _ _ _ _) (@a02 _) (by rfl)) (by rfl))) (@a02 _) (by rfl)) (by rfl)) (by rfl)))) (by rfl) (by walk_at "o"))
    (@a04 _ _ _ (@a16 _ _ _ _ (@a23 _ _ _ _ (@a00 _ _ _ _ _ (pv 11) (@a00 _ _ _ _ _ (pv 2) (@a00 _ _ _ _ _ (@a34 _ _ _ _ _ _ _ _ a37 (pv 3) (@a03 _ _ _ _)) (@a00 _ _ _ _ _ (@a15 _ _ _ _ _ (@a00 _ _ _ _ _ (@a23 _ _ _ _ (@a00 _ _ _ _ _ (@a15 _ _ _ _ _ (@a00 _ _ _ _ _ (@a06 _ _ _ _) (@a00 _ _ _ _ _ (@a34 _ _ _ _ _ _ _ _ a37 (pv 3) (@a03 _ _ _ _)) (@a02 _) (by rfl)) (by rfl))) (@a02 _) (by rfl))) (@a00 _ _ _ _ _ (@a23 _ _ _ _ (@a00 _ _ _ _ _ (@a15 _ _ _ _ _ (@a00 _ _ _ _ _ (@a06 _ _ _ _) (@a00 _ _ _ _ _ (@a23 _ _ _ _ (@a00 _ _ _ _ _ (@a15 _ _ _ _ _ (@a00 _ _ _ _ _ (@a06 _ _ _ _) (@a00 _ _ _ _ _ (pv 19) (@a02 _) (by rfl)) (by rfl))) (@a00 _ _ _ _ _ (@a15 _ _ _ _ _ (@a00 _ _ _ _ _ (@a06 _ _ _ _) (@a00 _ _ _ _ _ (@a06 _ _ _ _) (@a02 _) (by rfl)) (by rfl))) (@a02 _) (by rfl)) (by rfl))) (@a02 _) (by rfl)) (by rfl))) (@a02 _) (by rfl))) (@a02 _) (by rfl)) (by rfl))) (@a02 _) (by rfl)) (by rfl)) (by rfl)) (by rfl))))))))))))))))))),?_⟩
   have sl:(1000000:Nat)≤sizeLine:=le_line (Nat.le_refl _)
   walk_at "go"
   refine ⟨a,ns,0,rfl,hS,fun z=>?_⟩
   walk_at "run"
   intro p1 H1 f1 s1 e1
   walk_at "run"
   refine ⟨z,p1,[10,4,4,5,2,4,5],rfl,e1,by decide,by decide,fun p2 ds H2 f2 s2 e2 hdl hd=>?_⟩
   have da:=am8 hdl hd
   obtain ⟨d0,d1,d2,d3,d4,d5,d6,rfl⟩:=seven hdl
   have b0:d0<10:=by obtain ⟨x,h1,h2⟩:=da 0 10 rfl; cases h1; exact h2
   have b1:d1<4:=by obtain ⟨x,h1,h2⟩:=da 1 4 rfl; cases h1; exact h2
   have b2:d2<4:=by obtain ⟨x,h1,h2⟩:=da 2 4 rfl; cases h1; exact h2
   have b3:d3<5:=by obtain ⟨x,h1,h2⟩:=da 3 5 rfl; cases h1; exact h2
   have b4:d4<2:=by obtain ⟨x,h1,h2⟩:=da 4 2 rfl; cases h1; exact h2
   have b5:d5<4:=by obtain ⟨x,h1,h2⟩:=da 5 4 rfl; cases h1; exact h2
   have b6:d6<5:=by obtain ⟨x,h1,h2⟩:=da 6 5 rfl; cases h1; exact h2
   clear da hd hdl
   walk_at "run"
   refine ay8 (SqL.of e2) ?_
   rw [show cutV (ab5 [d0,d1,d2,d3,d4,d5,d6]) none (some 4)=[.int d0,.int d1,.int d2,.int d3] from b62 (k:=4)]
   intro p3 H3 f3 s3 e3
   refine ak4 (SqL.of e3) rfl ?_
   walk_at "run"
   refine ay8 (SqL.of (s3 _ _ e2)) ?_
   rw [show cutV (ab5 [d0,d1,d2,d3,d4,d5,d6]) (some 4) none=[.int d4,.int d5,.int d6] from b63 (k:=4)]
   intro p4 H4 f4 s4 e4
   refine ak4 (SqL.of e4) rfl ?_
   walk_at "run"
   intro p5 H5 f5 s5 e5
   obtain ⟨sd,hsd⟩:∃ sd:Str,[V.str "yes",.str "no",.str "other",.str "none",.str "quiet"][d6]?=some (.str sd):=by
    have:d6=0∨d6=1∨d6=2∨d6=3∨d6=4:=by omega
    rcases this with rfl | rfl | rfl | rfl | rfl <;> exact ⟨_,rfl⟩
   walk_at "run"
   refine aa7 (SqL.of e5) (a05 hsd) ?_
   walk_at "run"
   intro q1 G1 g1 t1 h1
   walk_at "run"
   intro q2 G2 g2 t2 h2
   walk_at "run"
   intro q3 G3 g3 t3 h3
   walk_at "run"
   intro q4 G4 g4 t4 h4
   walk_at "run"
   intro p6 H6 f6 s6 e6
   walk_at "run"
   have s36:Same H5 H6:=t1.trans (t2.trans (t3.trans (t4.trans s6)))
   have hpm:∀ v∈[V.ref q1,.ref q2,.ref q3,.ref q4],PM H6 v:=by
    intro v hv
    simp only [List.mem_cons,List.not_mem_nil,or_false] at hv
    rcases hv with rfl | rfl | rfl | rfl
    · exact bf4 ((t2.trans (t3.trans (t4.trans s6))) _ _ h1)
    · exact bm4 ((t3.trans (t4.trans s6)) _ _ h2)
    · exact bc3 ((t4.trans s6) _ _ h3)
    · exact bf4 (s6 _ _ h4)
   refine ay8 (SqL.of e6) ?_
   intro p7 H7 f7 s7 e7
   walk_at "run"
   refine ay8 (SqL.of (s7 _ _ e6)) ?_
   intro p8 H8 f8 s8 e8
   refine al5 (s8 _ _ e7) e8 (le_line (by have h1:=a65 [V.ref q1,.ref q2,.ref q3,.ref q4] (some (d5:Int)) none; have h2:=a65 [V.ref q1,.ref q2,.ref q3,.ref q4] none (some (d5:Int)); simp only [List.length_cons,List.length_nil] at h1 h2; omega)) ?_
   intro p9 H9 f9 s9 e9
   walk_at "run"
   refine ay8 (SqL.of e9) ?_
   rw [b62]
   intro pm H10 f10 s10 e10
   have s60:Same H6 H10:=s7.trans (s8.trans (s9.trans s10))
   obtain ⟨mv,hmv⟩:∃ mv,mv=(cutV [V.ref q1,.ref q2,.ref q3,.ref q4] (some (d5:Int)) none++cutV [V.ref q1,.ref q2,.ref q3,.ref q4] none (some (d5:Int))).take d2:=⟨_,rfl⟩
   rw [← hmv] at e10
   have hmp:∀ v∈mv,PM H10 v:=fun v hv=>by
    rw [hmv] at hv
    rcases List.mem_append.mp (List.mem_of_mem_take hv) with z | z
    · exact (hpm v (au4 z)).same s60
    · exact (hpm v (au4 z)).same s60
   have hml:mv.length≤3:=by rw [hmv]; simp only [List.length_take]; omega
   have s010:Same H H10:=s1.trans (s2.trans (s3.trans (s4.trans (s5.trans (s36.trans s60)))))
   have fpm:H pm=none:=(s1.trans (s2.trans (s3.trans (s4.trans (s5.trans (s36.trans (s7.trans (s8.trans s9)))))))).free f10
   clear hmv e1 e2 e3 e4 e5 e6 e7 e8 e9 f1 f2 f3 f4 f5 f6 f7 f8 f9 g1 g2 g3 g4 h1 h2 h3 h4 hpm
   walk_at "run"
   refine ac1 (fun σ' H'=>σ'=[some (.ref a),some (.ref p2),some (.int d0),some (.int d1),some (.int d2),some (.int d3),some (.int d4),some (.int d5),some (.int d6),some (.str sd),some (.ref pm),none,none,none,none,none,none,none,none,none]∧Same H H'∧∃ mv',H' pm=some (.lst mv')∧mv'.length≤4∧∀ v∈mv',PM H' v) ?_ ?_
   · walk_at "run"
     refine aq0 ((0:Int)<d0∧(d4:Int)=1) (fun R hR=>?_) ?_
     · walk_at "run"
       by_cases hh:(0:Int)<d0
       · refine a25 hh ?_
         walk_at "run"
         by_cases h7:(d4:Int)=1
         · rw [decide_eq_true h7]
           exact rT hR ⟨hh,h7⟩
         · rw [decide_eq_false h7]
           exact rF hR (fun z=>h7 z.2)
       · refine a24 hh ?_
         exact rF hR (fun z=>hh z.1)
     by_cases hc:(0:Int)<d0∧(d4:Int)=1
     · refine a25 hc ?_
       walk_at "run"
       refine ab4 (SqL.of e10) ?_
       walk_at "run"
       refine ah1 (SqL.of e10) ?_
       walk_at "run"
       intro pn H11 f11 s11 e11
       walk_at "run"
       have hmod:(d5:Int) % ((mv.length:Int)+1)=((d5 % (mv.length+1):Nat):Int):=by norm_cast
       refine ⟨pm,mv,.ref pn,d5 % (mv.length+1),_,hmod,rfl,rfl,s11 _ _ e10,by have:=Nat.mod_lt d5 (show 0<mv.length+1 by omega); omega,by omega,?_⟩
       have tU:Tups H11 (upd H11 pm (.lst (mv.take (d5 % (mv.length+1))++V.ref pn::mv.drop (d5 % (mv.length+1))))):=Tups.upd (s11 _ _ e10)
       refine ⟨rfl,(s010.trans s11).updNew fpm,_,a19,by simp; omega,fun v hv=>?_⟩
       rcases List.mem_append.mp hv with z | z
       · exact ((hmp v (List.mem_of_mem_take z)).same s11).tups tU
       · rcases List.mem_cons.mp z with z | z
         · rw [z]
           exact (bm5 e11).tups tU
         · exact ((hmp v (List.mem_of_mem_drop z)).same s11).tups tU
     · refine a24 hc ?_
       walk_at "run"
       exact ⟨rfl,s010,mv,e10,by omega,hmp⟩
   rintro σ' H11 ⟨rfl,s11,mv2,e11,hml2,hmp2⟩
   clear hmp hml e10 s010 s60 s36
   walk_at "run"
   intro lr H12 f12 s12 e12
   walk_at "run"
   refine ah1 (SqL.of (s12 _ _ e11)) ?_
   walk_at "run"
   have flr:H lr=none:=s11.free f12
   have hlrpm:lr≠pm:=fun z=>by rw [z,e11] at f12; cases f12
   refine an7 (lo:=0) (n:=mv2.length) (fun i σ H'=>∃ (rvs:List V) (rs:List Rw) (y1 y2 y3 y4:Option V),σ=[some (.ref a),some (.ref p2),some (.int d0),some (.int d1),some (.int d2),some (.int d3),some (.int d4),some (.int d5),some (.int d6),some (.str sd),some (.ref pm),some (.ref lr),y1,y2,y3,y4,none,none,none,none]∧Same H H'∧H' lr=some (.lst rvs)∧Each (RowAt H') rvs rs∧rs.length=i∧(∀ r∈rs,RwOk r)∧H' pm=some (.lst mv2)∧∀ v∈mv2,PM H' v) ⟨[],[],_,_,_,_,rfl,s11.trans s12,e12,Each.nil,rfl,by simp,s12 _ _ e11,fun v hv=>(hmp2 v hv).same s12⟩ ?_ ?_
   · rintro i σ H13 hi ⟨rvs,rs,y1,y2,y3,y4,rfl,s13,e13,hE,hrl,hrk,e14,hmp3⟩
     rw [Int.zero_add]
     walk_at "run"
     refine ⟨a,ns,1+i % 3,by simp,s13.seq hS,fun z2=>?_⟩
     walk_at "run"
     intro p15 H15 f15 s15 e15
     walk_at "run"
     refine ⟨_,p15,[4,10,3],rfl,e15,by decide,by decide,fun p16 ds H16 f16 s16 e16 hdl hd=>?_⟩
     have da:=am8 hdl hd
     obtain ⟨c0,c1,c2,rfl⟩:=three hdl
     have k0:c0<4:=by obtain ⟨x,h1,h2⟩:=da 0 4 rfl; cases h1; exact h2
     have k1:c1<10:=by obtain ⟨x,h1,h2⟩:=da 1 10 rfl; cases h1; exact h2
     have k2:c2<3:=by obtain ⟨x,h1,h2⟩:=da 2 3 rfl; cases h1; exact h2
     clear da hd hdl
     refine ak4 (xs:=[.int c0,.int c1,.int c2]) (SqL.of e16) rfl ?_
     walk_at "run"
     have s316:=s15.trans s16
     refine ab4 (SqL.of (s316 _ _ e13)) ?_
     walk_at "run"
     obtain ⟨mvi,hmvi⟩:∃ v,mv2[i]?=some v:=⟨_,List.getElem?_eq_getElem hi⟩
     refine aa7 (SqL.of (s316 _ _ e14)) (a05 hmvi) ?_
     walk_at "run"
     have dl:=b27 (k:=(c1:Int)) (by omega) (by omega)
     refine bu0 (ap7 (by omega)) ?_
     walk_at "run"
     refine al4 (le_line (by rw [dl]; decide +kernel)) ?_
     walk_at "run"
     intro p17 H17 f17 s17 e17
     walk_at "run"
     obtain ⟨ln,bb,hln,hsd2⟩:∃ (ln:Option Nat) (bb:Bool),(∀ l,ln=some l→l<10)∧[V.str "a",.str "bb",.str (Str.ofString (toString (c1:Int))++Str.ofString ":c")][c2]?=some (.str (rwS ln bb)):=by
      have:c2=0∨c2=1∨c2=2:=by omega
      rcases this with rfl | rfl | rfl
      · exact ⟨none,false,fun l z=>(by cases z),rfl⟩
      · exact ⟨none,true,fun l z=>(by cases z),rfl⟩
      · exact ⟨some c1,false,fun l z=>(by cases z; exact k1),rfl⟩
     refine aa7 (SqL.of e17) (a05 hsd2) ?_
     walk_at "run"
     intro p18 H18 f18 s18 e18
     walk_at "run"
     have hwy:[V.str "on",.str "again",.str "leave",.str "stop"][c0]?=some (.str (wyS c0)):=by
      have:c0=0∨c0=1∨c0=2∨c0=3:=by omega
      rcases this with rfl | rfl | rfl | rfl <;> rfl
     refine aa7 (SqL.of e18) (a05 hwy) ?_
     walk_at "run"
     intro p19 H19 f19 s19 e19
     walk_at "run"
     have s139:=s316.trans (s17.trans (s18.trans s19))
     have e139:=s139 _ _ e13
     have hrv:rvs.length=rs.length:=hE.1
     refine a51 e139 (by omega) ?_
     obtain ⟨pp,hpp,hpk⟩:=hmp3 mvi (List.mem_of_getElem? hmvi)
     have tU:Tups H19 (upd H19 lr (.lst (rvs++[V.ref p19]))):=Tups.upd e139
     refine ⟨_,rs++[⟨pp,ln,bb,c0⟩],_,_,_,_,rfl,(s13.trans s139).updNew flr,a19,?_,by simp [hrl],fun r hr=>?_,by rw [a14 hlrpm.symm]; exact s139 _ _ e14,fun v hv=>((hmp3 v hv).same s139).tups tU⟩
     · refine (hE.mono fun v r z=>(z.same s139).tups tU).snoc ?_
       exact ⟨p19,mvi,rfl,tU _ _ e19,al8 (hpp.same s139) tU⟩
     · rcases List.mem_append.mp hr with z | z
       · exact hrk r z
       · rw [List.mem_singleton.mp z]
         exact ⟨hpk,hln,k0⟩
   rintro σ' H13 ⟨rvs,rs,y1,y2,y3,y4,rfl,s13,e13,hE,hrl,hrk,_,_⟩
   clear hmp2 e11 e12 f12
   have hrl4:rs.length≤4:=by omega
   have hrvl:rvs.length=rs.length:=hE.1
   walk_at "run"
   intro lb H14 f14 s14 e14
   walk_at "run"
   have flb:H lb=none:=s13.free f14
   have hlbr:lb≠lr:=fun z=>by rw [z,e13] at f14; cases f14
   refine ⟨⟨_,SqL.of (s14 _ _ e13)⟩,af5 (K:=K) (a:=lr) (xs:=rvs) (fun i σ H'=>∃ (bvs:List V) (y1 y2 y3 y4 y5 y6 y9:Option V),σ=[some (.ref a),some (.ref p2),some (.int d0),some (.int d1),some (.int d2),some (.int d3),some (.int d4),some (.int d5),some (.int d6),y9,some (.ref pm),some (.ref lr),y1,y2,y3,y4,some (.ref lb),y5,y6,none]∧Same H13 H'∧H' lb=some (.lst bvs)∧Each (fun v r=>OffT lb H' v (Rw.br r).tr) bvs (rs.take i)) ⟨[],_,_,_,_,_,_,_,rfl,s14,e14,by simpa using Each.nil⟩ (fun i σ H' _ zz=>by obtain ⟨_,_,_,_,_,_,_,_,_,s',_⟩:=zz; exact SqL.of (s' _ _ e13)) ?_ ?_⟩
   · rintro i x σ H15 hx ⟨bvs,y1,y2,y3,y4,y5,y6,y9,rfl,s15,e15,hB⟩
     have hi':=(List.getElem?_eq_some_iff.mp hx).1
     obtain ⟨r,hr'⟩:∃ r,rs[i]?=some r:=⟨_,List.getElem?_eq_getElem (by omega)⟩
     have hok:=hrk r (List.mem_of_getElem? hr')
     obtain ⟨ra,pv',rfl,hra,hrp⟩:=(hE.2 i x r hx hr').same s15
     walk_at "run"
     refine ⟨ra,_,rfl,SqT.of hra,rfl,_,_,rfl,_,_,rfl,_,_,rfl,rfl,?_⟩
     walk_at "run"
     intro p16 H16 f16 s16 e16
     walk_at "run"
     refine ac1 (fun σ' H'=>∃ sp',σ'=[some (.ref a),some (.ref p2),some (.int d0),some (.int d1),some (.int d2),some (.int d3),some (.int d4),some (.int d5),some (.int d6),some (.str r.said),some (.ref pm),some (.ref lr),y1,some (.str (wyS r.way)),y3,y4,some (.ref lb),some pv',some (.ref sp'),none]∧Same H16 H'∧(Rw.st r).tr.At H' (.ref sp') []) ?_ ?_
     · walk_at "run"
       cases hln:r.ln with
       | none =>
         have hsd3:r.said=rwS none r.bb:=by unfold Rw.said; rw [hln]
         rw [hsd3,sayF r.bb]
         walk_at "run"
         refine ⟨p16,rfl,Same.refl _,?_⟩
         unfold Rw.st
         rw [hln]
         simp only [Rw.said,hln]
         rw [hsd3] at e16
         exact a46 e16 a28 a28
       | some l =>
         have hsd3:r.said=Str.ofString (toString ((l:Nat):Int))++Str.ofString ":c":=by unfold Rw.said; rw [hln]; rfl
         obtain ⟨j1,j2,⟨c,j3,j4⟩,j5⟩:=c49 l (hok.ln l hln)
         rw [hsd3,j2]
         walk_at "run"
         refine b95 (le_line (by rw [j1]; decide)) j3 ?_
         walk_at "run"
         refine ⟨_,_,rfl,j4,by rw [av2]; decide,?_⟩
         walk_at "run"
         refine c41 (le_line (by rw [j1]; decide)) ?_
         rw [j5]
         walk_at "run"
         intro p17 H17 f17 s17 e17
         refine ⟨p17,rfl,s17,?_⟩
         unfold Rw.st
         rw [hln]
         exact at_tup0.mpr ⟨p17,_,rfl,e17,ats_cons0.mpr ⟨_,_,rfl,a28,ats_cons0.mpr ⟨_,_,rfl,aa9,ats_cons0.mpr ⟨_,_,rfl,a28,ats_nil0.mpr rfl⟩⟩⟩⟩
     rintro σ' H17 ⟨sp',rfl,s17,hst⟩
     walk_at "run"
     have s57:=s16.trans s17
     refine ab4 (SqL.of (s57 _ _ e15)) ?_
     walk_at "run"
     intro p18 H18 f18 s18 e18
     walk_at "run"
     intro p19 H19 f19 s19 e19
     walk_at "run"
     refine ⟨⟨_,SqL.of e19⟩,a90 (xs:=[.str (wyS r.way)]) (by simp; omega) (fun j acc H'=>j≤1∧Same H19 H'∧acc.length≤j∧(j=0→acc=[])∧(j=1→Tr.Ats H' (Stm.trs r.ws) acc [])) ⟨Nat.zero_le _,Same.refl _,Nat.le_refl _,fun _=>rfl,fun z=>by omega⟩ (fun j acc H' ⟨_,s',h2,_⟩=>⟨h2,SqL.of (s' _ _ e19)⟩) ?_ ?_⟩
     · rintro j x acc H20 hx2 ⟨hj,s20,hal,ha0,ha1⟩
       have hj0:j=0:=by
        have:=(List.getElem?_eq_some_iff.mp hx2).1
        simp only [List.length_cons,List.length_nil] at this
        omega
       subst hj0
       obtain rfl:=Option.some.inj hx2
       obtain rfl:=ha0 rfl
       walk_at "run"
       by_cases hw0:r.way=0
       · refine ak2 ((by8 hok.way).mpr hw0) ?_
         refine ⟨Nat.le_refl _,s20,by simp,fun z=>by omega,fun _=>?_⟩
         unfold Rw.ws
         rw [if_pos hw0]
         simp [Stm.trs,Tr.Ats]
       · refine ak1 (fun z=>hw0 ((by8 hok.way).mp z)) ?_
         walk_at "run"
         intro p21 H21 f21 s21 e21
         refine ⟨Nat.le_refl _,s20.trans s21,by simp,fun z=>by omega,fun _=>?_⟩
         unfold Rw.ws
         rw [if_neg hw0]
         simp only [Stm.trs]
         exact ats_cons0.mpr ⟨_,_,rfl,ae0 e21 a28,ats_nil0.mpr rfl⟩
     rintro acc H20 ⟨_,s20,hal,_,ha1⟩ p21 H21 f21 s21 e21
     have ha1:=ha1 rfl
     have s819:=s19.trans (s20.trans s21)
     walk_at "run"
     refine al5 (s819 _ _ e18) e21 (le_line (by simp only [List.length_cons,List.length_nil] at hal ⊢; omega)) ?_
     intro p22 H22 f22 s22 e22
     walk_at "run"
     intro p23 H23 f23 s23 e23
     walk_at "run"
     have s223:=s22.trans s23
     have s723:=(s18.trans s819).trans s223
     have s523:=s57.trans s723
     have e523:=s523 _ _ e15
     have hbl:=hB.1
     refine a51 e523 (by rw [hbl,List.length_take]; omega) ?_
     refine ⟨_,_,_,_,_,_,_,_,rfl,(s15.trans s523).updNew (by rw [← Option.isNone_iff_eq_none] at f14 ⊢; exact f14),a19,?_⟩
     rw [List.take_add_one,hr',Option.toList_some]
     have hne22:lb≠p22:=fun z=>by rw [← z,(s57.trans (s18.trans s819)) _ _ e15] at f22; cases f22
     refine Each.snoc (hB.mono fun v r z=>(z.same s523).upd e523) (OffT.upd ⟨[]++([p22]++[]),?_,by simpa using hne22⟩ e523)
     show (Tr.tup [.tup (r.p.map Pt.tr),.lst (Stm.trs (r.st::r.ws))]).At _ _ _
     rw [Tr.At]
     refine ⟨p23,_,rfl,e23,?_⟩
     rw [Tr.Ats]
     refine ⟨_,_,[],_,rfl,rfl,hrp.same s523,?_⟩
     rw [Tr.Ats]
     refine ⟨_,_,[p22],[],rfl,rfl,?_,by simp [Tr.Ats]⟩
     rw [Tr.At]
     refine ⟨p22,_,[],rfl,s23 _ _ e22,?_,rfl⟩
     simp only [Stm.trs]
     exact ats_cons0.mpr ⟨_,_,rfl,hst.same s723,ha1.same (s21.trans s223)⟩
   rintro σ' H15 ⟨bvs,y1,y2,y3,y4,y5,y6,y9,rfl,s15,e15,hB⟩
   rw [hrvl,List.take_length] at hB
   walk_at "run"
   intro lt H16 f16 s16 e16
   walk_at "run"
   have hltb:lt≠lb:=fun z=>by rw [z,e15] at f16; cases f16
   have h13:Same H13 H16:=s15.trans s16
   have flt:H13 lt=none:=s15.free f16
   refine an7 (lo:=0) (n:=d1+2) (fun i σ H'=>∃ (tvs:List V) (y0:Option V),σ=[some (.ref a),some (.ref p2),some (.int d0),some (.int d1),some (.int d2),some (.int d3),some (.int d4),some (.int d5),some (.int d6),y9,some (.ref pm),some (.ref lr),y0,y2,y3,y4,some (.ref lb),y5,y6,some (.ref lt)]∧Same H15 H'∧H' lt=some (.lst tvs)∧Each (fun v s=>OffT lt H' v (Stm.tr s)) tvs ((List.range i).map ac7)) ⟨[],_,rfl,s16,e16,Each.nil⟩ ?_ ?_
   · rintro i σ H17 hi ⟨tvs,y0,rfl,s17,e17,hT⟩
     rw [Int.zero_add]
     walk_at "run"
     refine ab4 (SqL.of e17) ?_
     walk_at "run"
     intro q1 G1 g1 t1 h1
     walk_at "run"
     intro q2 G2 g2 t2 h2
     walk_at "run"
     intro q3 G3 g3 t3 h3
     walk_at "run"
     obtain ⟨c,hc1,hc2⟩:∃ c,atI (Str.ofString "xyzuv").cps.toList (i:Int)=some c∧Str.ofString "round"++(⟨#[c]⟩:Str)=rndS i:=by
      have:i=0∨i=1∨i=2∨i=3∨i=4:=by omega
      rcases this with rfl | rfl | rfl | rfl | rfl
      · exact ⟨120,by decide +kernel,by decide +kernel⟩
      · exact ⟨121,by decide +kernel,by decide +kernel⟩
      · exact ⟨122,by decide +kernel,by decide +kernel⟩
      · exact ⟨117,by decide +kernel,by decide +kernel⟩
      · exact ⟨118,by decide +kernel,by decide +kernel⟩
     refine b95 (le_line (by decide +kernel)) hc1 ?_
     walk_at "run"
     refine al4 (le_line (by rw [av2]; decide +kernel)) ?_
     rw [hc2]
     walk_at "run"
     intro q4 G4 g4 t4 h4
     walk_at "run"
     intro q5 G5 g5 t5 h5
     walk_at "run"
     intro q6 G6 g6 t6 h6
     walk_at "run"
     intro q7 G7 g7 t7 h7
     walk_at "run"
     have u67:=t6.trans t7
     have u57:=t5.trans u67
     have u47:=t4.trans u57
     have u37:=t3.trans u47
     have u27:=t2.trans u37
     have u17:=t1.trans u27
     have e18:=u17 _ _ e17
     have htl:=hT.1
     refine a51 e18 (by rw [htl]; simp; omega) ?_
     refine ⟨_,_,rfl,(s17.trans u17).updNew f16,a19,?_⟩
     rw [List.range_succ,List.map_append]
     have n5:lt≠q5:=fun z=>by rw [← z,(t1.trans (t2.trans (t3.trans t4))) _ _ e17] at g5; cases g5
     have n6:lt≠q6:=fun z=>by rw [← z,(t1.trans (t2.trans (t3.trans (t4.trans t5)))) _ _ e17] at g6; cases g6
     refine Each.snoc (hT.mono fun v r z=>(z.same u17).upd e18) (OffT.upd ⟨[]++([]++([q5]++([q6]++[]))),?_,by simp [n5,n6]⟩ e18)
     show (Tr.tup [.str "test",Cd.tr _,.lst (Stm.trs [.plain [.s "say",.s (rndS i)]]),.lst (Stm.trs [])]).At _ _ _
     rw [Tr.At]
     refine ⟨q7,_,rfl,h7,?_⟩
     rw [Tr.Ats]
     refine ⟨_,_,[],_,rfl,rfl,a28,?_⟩
     rw [Tr.Ats]
     refine ⟨_,_,[],_,rfl,rfl,?_,?_⟩
     · simp only [Cd.tr,Ex.tr,bj1,if_true]
       exact at_tup0.mpr ⟨q3,_,rfl,u47 _ _ h3,ats_cons0.mpr ⟨_,_,rfl,a28,ats_cons0.mpr ⟨_,_,rfl,a46 (u27 _ _ h1) a28 a28,ats_cons0.mpr ⟨_,_,rfl,a46 (u37 _ _ h2) a28 aa9,ats_nil0.mpr rfl⟩⟩⟩⟩
     rw [Tr.Ats]
     refine ⟨_,_,[q5],_,rfl,rfl,?_,?_⟩
     · rw [Tr.At]
       refine ⟨q5,_,[],rfl,u67 _ _ h5,?_,rfl⟩
       simp only [Stm.trs]
       exact ats_cons0.mpr ⟨_,_,rfl,a46 (u57 _ _ h4) a28 a28,ats_nil0.mpr rfl⟩
     rw [Tr.Ats]
     refine ⟨_,_,[q6],[],rfl,rfl,?_,by simp [Tr.Ats]⟩
     rw [Tr.At]
     exact ⟨q6,_,[],rfl,t7 _ _ h6,by simp [Stm.trs,Tr.Ats],rfl⟩
   rintro σ' H17 ⟨tvs,y0,rfl,s17,e17,hT⟩
   walk_at "run"
   intro r1 R1 j1 v1 w1
   walk_at "run"
   intro r2 R2 j2 v2 w2
   walk_at "run"
   intro r3 R3 j3 v3 w3
   walk_at "run"
   intro r4 R4 j4 v4 w4
   walk_at "run"
   intro r5 R5 j5 v5 w5
   walk_at "run"
   intro r6 R6 j6 v6 w6
   walk_at "run"
   intro r7 R7 j7 v7 w7
   walk_at "run"
   have htl:=hT.1
   have v07:Same H17 R7:=v1.trans (v2.trans (v3.trans (v4.trans (v5.trans (v6.trans v7)))))
   refine al5 (v07 _ _ e17) w7 (le_line (by rw [htl]; simp; omega)) ?_
   intro r8 R8 j8 v8 w8
   walk_at "run"
   intro r9 R9 j9 v9 w9
   walk_at "run"
   intro r10 R10 j10 v10 w10
   walk_at "run"
   intro r11 R11 j11 v11 w11
   walk_at "run"
   intro r12 R12 j12 v12 w12
   walk_at "run"
   intro r13 R13 j13 v13 w13
   walk_at "run"
   intro r14 R14 j14 v14 w14
   walk_at "run"
   intro r15 R15 j15 v15 w15
   walk_at "run"
   intro r16 R16 j16 v16 w16
   walk_at "run"
   intro r17 R17 j17 v17 w17
   have x16:Same R16 R17:=v17
   have x15:=v16.trans x16
   have x14:=v15.trans x15
   have x13:=v14.trans x14
   have x12:=v13.trans x13
   have x11:=v12.trans x12
   have x10:=v11.trans x11
   have x9:=v10.trans x10
   have x8:=v9.trans x9
   have x7:=v8.trans x8
   have x6:=v7.trans x7
   have x5:=v6.trans x6
   have x4:=v5.trans x5
   have x3:=v4.trans x4
   have x2:=v3.trans x3
   have x1:=v2.trans x2
   have x0:=v1.trans x1
   have y15:Same H15 R17:=s17.trans x0
   have y13:Same H13 R17:=s15.trans y15
   refine q r17 lr r16 rvs rs d0 (d1+2) R17 (s13.trans y13) (by rw [w17]; simp) (y13 _ _ e13) (hE.mono fun v r z=>z.same y13) hrk hrl4 (by omega) (by omega) (by omega) ?_
   have hput:SAt R17 (.ref r4) (.put "n" (.two true (.box "n") (.num 1))):=by
    refine ⟨[],?_⟩
    show (Tr.tup [.str "put",.str "n",Ex.tr _]).At _ _ _
    refine at_tup0.mpr ⟨r4,_,rfl,x4 _ _ w4,ats_cons0.mpr ⟨_,_,rfl,a28,ats_cons0.mpr ⟨_,_,rfl,a28,ats_cons0.mpr ⟨_,_,rfl,?_,ats_nil0.mpr rfl⟩⟩⟩⟩
    simp only [Ex.tr,bi9,if_true]
    exact at_tup0.mpr ⟨r3,_,rfl,x3 _ _ w3,ats_cons0.mpr ⟨_,_,rfl,a28,ats_cons0.mpr ⟨_,_,rfl,a46 (x1 _ _ w1) a28 a28,ats_cons0.mpr ⟨_,_,rfl,a46 (x2 _ _ w2) a28 aa9,ats_nil0.mpr rfl⟩⟩⟩⟩
   have hwait:SAt R17 (.ref r5) (.wait (d0:Int) (rs.map Rw.br)):=sat_wait.mpr ⟨r5,lb,bvs,rfl,x5 _ _ w5,y15 _ _ e15,by
    have h1:=hB.mono fun v r (z:OffT lb H15 v (Rw.br r).tr)=>by
     obtain ⟨fs,h1,_⟩:=z.same y15
     exact be8 h1
    exact ⟨by rw [List.length_map]; exact h1.1,fun j v x e1 e2=>by
     rw [List.getElem?_map] at e2
     obtain ⟨r,hr1,rfl⟩:=Option.map_eq_some_iff.mp e2
     exact h1.2 j v r e1 hr1⟩⟩
   have hsay:SAt R17 (.ref r6) (.plain [.s "say",.s "on"]):=⟨[],a46 (x6 _ _ w6) a28 a28⟩
   have hbody:BAt R17 (.ref r8) (aa0 d0 (d1+2) rs):=bat_iff.mpr ⟨r8,_,rfl,x8 _ _ w8,by
    unfold aa0
    refine Each.append (hT.mono fun v s z=>?_) (((Each.nil.snoc hput).snoc hwait).snoc hsay)
    obtain ⟨fs,h1,_⟩:=z.same x0
    exact ⟨fs,h1⟩⟩
   have hmain:BAt R17 (.ref r13) [.loop (aa0 d0 (d1+2) rs),.plain [.s "say",.s "bye"]]:=bat_iff.mpr ⟨r13,_,rfl,x13 _ _ w13,(Each.nil.snoc (sat_loop.mpr ⟨r11,_,rfl,x11 _ _ w11,hbody⟩)).snoc ⟨[],a46 (x12 _ _ w12) a28 a28⟩⟩
   exact ⟨r10,r15,_,_,x16 _ _ w16,x10 _ _ w10,Each.nil.snoc ⟨r9,rfl,by rw [x9 _ _ w9]; simp⟩,x15 _ _ w15,Each.nil.snoc ⟨r14,_,rfl,x14 _ _ w14,hmain⟩⟩
noncomputable def fndR (rs:List Rw) (e:Tr):Option Rw:=rs.find? fun r=>decide (patK r.p=e)
def RowO (H:Hp) (v:V):Option Rw→Prop
 | none=>v=.non
 | some r=>RowAt H v r
def by9 (K:PySem.W.Frag):Sp:=fun vs H Q _=>∃ (lr:Addr) (rvs:List V) (rs:List Rw) (v:V) (e:Tr),vs=[.ref lr,v]∧H lr=some (.lst rvs)∧Each (RowAt H) rvs rs∧EvK K H v e∧∀ v',RowO H v' (fndR rs e)→Q v' H
theorem az3 (T:Txt K mg t):FnOk P w K mg base CX0 1 t.a__law_row t.fd__law_row ["rows","pattern"] (by9 K):=by
 refine T.f__law_row.F.ok sc_law_row (fun vs H Q E h=>?_) (fun cdv A outer s H vs Q E hr h=>?_)
 · obtain ⟨lr,rvs,rs,v,e,rfl,_⟩:=h
   rfl
 · obtain ⟨lr,rvs,rs,v,e,rfl,hlr,hE,hev,q⟩:=h
   refine ⟨_,(@a01 _ _ _ _ _ (@ac8 _ _ _ _ _ _ _ _ PassesOwn.never rfl (a40 K (pv 0)) (a17 (i:=2) sc_law_row.nd rfl (by walk_at "o")) (@a04 _ _ _ (@a36 _ _ _ _ _ _ _ _ (@a12 _ _ _ _ _ _ _ _ (al9 K (by exact hr.units)) (@a22 _ _ _ _ _ _ _ (a07 K) (pv 2) (@a03 _ _ _ _) (fun _ _=>rfl)) (pv 1) (nomark _)) (@a04 _ _ _ (@a16 _ _ _ _ (pv 2))) (@a20 _))) (by intro _; rfl))
    (@a04 _ _ _ (@a16 _ _ _ _ (@a45 _ _ _)))),?_⟩
   have hrl:rvs.length=rs.length:=hE.1
   walk_at "go"
   refine ⟨⟨_,SqL.of hlr⟩,af5 (K:=K) (a:=lr) (xs:=rvs) (fun i σ H'=>H=H'∧(∃ y1,σ=[some (.ref lr),some v,y1])∧(rs.take i).find? (fun r=>decide (patK r.p=e))=none) ⟨rfl,⟨_,rfl⟩,rfl⟩ (fun i σ H' _ zz=>by obtain ⟨s',_⟩:=zz; exact s' ▸ SqL.of hlr) ?_ ?_⟩
   · rintro i x σ H2 hx ⟨rfl,⟨y1,rfl⟩,hf⟩
     have hi:i<rs.length:=by rw [← hrl]; exact (List.getElem?_eq_some_iff.mp hx).1
     obtain ⟨r,hr'⟩:∃ r,rs[i]?=some r:=⟨_,List.getElem?_eq_getElem hi⟩
     have hR:=hE.2 i x r hx hr'
     have hR0:=hR
     obtain ⟨a,pv',rfl,ha,hp⟩:=hR
     walk_at "run"
     refine a27 (SqT.of ha) (a05 (j:=0) rfl) ?_
     walk_at "run"
     refine b40 (Tr.At.toK K hp) hev.1 (Nat.le_trans (b52 _) (by decide)) (Nat.le_trans hev.2 (by decide)) ?_
     walk_at "run"
     by_cases hc:patK r.p=e
     · refine a25 hc ?_
       walk_at "run"
       refine q _ ?_
       unfold fndR
       rw [b53 hf hr' (decide_eq_true hc)]
       exact hR0
     · refine a24 hc ?_
       walk_at "run"
       exact ⟨rfl,⟨_,rfl⟩,ar0 hf hr' (decide_eq_false hc)⟩
   · rintro σ H2 ⟨rfl,⟨y1,rfl⟩,hf⟩
     rw [hrl,List.take_length] at hf
     walk_at "run"
     refine q _ ?_
     unfold fndR
     rw [hf]
     rfl
noncomputable def rowF (rs:List Rw) (e:Tr):Option Rw:=match fndR rs e with
 | some r=>some r
 | none=>if e=.tup [.str "quiet"] then none else fndR rs (.tup [.str "other"])
noncomputable def a53 (rs:List Rw) (L:Nat) (left:Int) (e:Tr):List Str×Str×Int:=match rowF rs e with
 | some r=>([r.said],wyS r.way,(L:Int))
 | none=>if L=0∨1<left then ([],"rest",left - 1) else match fndR rs (.tup [.str "none"]) with
   | some r=>([r.said],wyS r.way,(L:Int))
   | none=>([],"on",(L:Int))
def bm6 (K:PySem.W.Frag):Sp:=fun vs H Q _=>∃ (lr:Addr) (rvs:List V) (rs:List Rw) (v:V) (e:Tr) (L:Nat) (left:Int),vs=[.ref lr,.int (L:Nat),.int left,v]∧H lr=some (.lst rvs)∧Each (RowAt H) rvs rs∧EvK K H v e∧(∃ ts,e=.tup ts)∧∀ p l H',Same H H'→H' p=some (.lst [.ref l,.str (a53 rs L left e).2.1,.int (a53 rs L left e).2.2])→H' l=some (.lst (a31 (a53 rs L left e).1))→Q (.ref p) H'
theorem evW {K:PySem.W.Frag}{H:Hp}{a:Addr}{z:Str}(e:H a=some (.tup [.str z])):EvK K H (.ref a) (.tup [.str z]):=⟨Tr.At.toK K (ae0 e a28),by simp [Tr.h,Tr.hs]⟩
theorem au5 (T:Txt K mg t):FnOk P w K mg base CX0 2 t.a__law_turn t.fd__law_turn ["rows","limit","left","event"] (bm6 K):=by
 have G__law_row:=az3 (P:=P) (w:=w) (base:=base) T
 refine T.f__law_turn.F.ok sc_law_turn (fun vs H Q E h=>?_) (fun cdv A outer s H vs Q E hr h=>?_)
 · obtain ⟨lr,rvs,rs,v,e,L,left,rfl,_⟩:=h
   rfl
 · obtain ⟨lr,rvs,rs,v,e,L,left,rfl,hlr,hE,hev,⟨ets,hets⟩,q⟩:=h
   refine ⟨_,(@a01 _ _ _ _ _ (@a18 _ _ 4 _ _ _ _ sc_law_turn.nd rfl (by walk_at "o") (@a26 _ _ _ _ _ _ _ _ _ _ _ _ _ _ _ _ G__law_row (hr.mono (by omega)) rfl T.f__law_row.m T.f__law_row.F.kp T.f__law_row.b .nil a30 (@a00 _ _ _ _ _ (pv 0) (@a00 _ _ _ _ _ (pv 3) (@a02 _) (by rfl)) (by rfl)) (by decide) (by rfl) (by rfl)) (by rfl) (by walk_at "o"))
    (@a48 _ _ _ _ _ (@a36 _ _ _ _ _ _ _ _ (@PW.pt _ _ _ (@az7 _ _ _ _ _ _ _ (@a12 _ _ _ _ _ _ _ _ aa8 (pv 4) (@a45 _ _ _) (nomark _)) (@as1 _ _ _ _ (@a12 _ _ _ _ _ _ _ _ (ba2 K (by exact hr.units)) (pv 3) (@a15 _ _ _ _ _ (@a00 _ _ _ _ _ (@a06 _ _ _ _) (@a02 _) (by rfl))) (nomark _))))) (@a04 _ _ _ (@a18 _ _ 4 _ _ _ _ sc_law_turn.nd rfl (by walk_at "o") (@a26 _ _ _ _ _ _ _ _ _ _ _ _ _ _ _ _ G__law_row (hr.mono (by omega)) rfl T.f__law_row.m T.f__law_row.F.kp T.f__law_row.b .nil a30 (@a00 _ _ _ _ _ (pv 0) (@a00 _ _ _ _ _ (@a15 _ _ _ _ _ (@a00 _ _ _ _ _ (@a06 _ _ _ _) (@a02 _) (by rfl))) (@a02 _) (by rfl)) (by rfl)) (by decide) (by rfl) (by rfl)) (by rfl) (by walk_at "o"))) (@a20 _))
    (@a01 _ _ _ _ _ (@a36 _ _ _ _ _ _ _ _ (@a12 _ _ _ _ _ _ _ _ af9 (pv 4) (@a45 _ _ _) (nomark _)) (@a04 _ _ _ (@a16 _ _ _ _ (@a23 _ _ _ _ (@a00 _ _ _ _ _ (@a23 _ _ _ _ (@a00 _ _ _ _ _ (@a22 _ _ _ _ _ _ _ (a07 K) (pv 4) (@a03 _ _ _ _) (fun _ _=>rfl)) (@a02 _) (by rfl))) (@a00 _ _ _ _ _ (@a22 _ _ _ _ _ _ _ (a07 K) (pv 4) (@a03 _ _ _ _) (fun _ _=>rfl)) (@a00 _ _ _ _ _ (pv 1) (@a02 _) (by rfl)) (by rfl)) (by rfl))))) (@a20 _))
    (@a01 _ _ _ _ _ (@a36 _ _ _ _ _ _ _ _ (@PW.pt _ _ _ (@az8 _ _ _ _ _ _ _ (@a12 _ _ _ _ _ _ _ _ a41 (pv 1) (@a03 _ _ _ _) (nomark _)) (@an3 _ _ _ _ (@a12 _ _ _ _ _ _ _ _ bg2 (pv 2) (@a03 _ _ _ _) (nomark _))))) (@a04 _ _ _ (@a16 _ _ _ _ (@a23 _ _ _ _ (@a00 _ _ _ _ _ (@a23 _ _ _ _ (@a02 _)) (@a00 _ _ _ _ _ (@a06 _ _ _ _) (@a00 _ _ _ _ _ (@a34 _ _ _ _ _ _ _ _ b01 (pv 2) (@a03 _ _ _ _)) (@a02 _) (by rfl)) (by rfl)) (by rfl))))) (@a20 _))
    (@a01 _ _ _ _ _ (@a18 _ _ 4 _ _ _ _ sc_law_turn.nd rfl (by walk_at "o") (@a26 _ _ _ _ _ _ _ _ _ _ _ _ _ _ _ _ G__law_row (hr.mono (by omega)) rfl T.f__law_row.m T.f__law_row.F.kp T.f__law_row.b .nil a30 (@a00 _ _ _ _ _ (pv 0) (@a00 _ _ _ _ _ (@a15 _ _ _ _ _ (@a00 _ _ _ _ _ (@a06 _ _ _ _) (@a02 _) (by rfl))) (@a02 _) (by rfl)) (by rfl)) (by decide) (by rfl) (by rfl)) (by rfl) (by walk_at "o"))
    (@a01 _ _ _ _ _ (@a36 _ _ _ _ _ _ _ _ (@a12 _ _ _ _ _ _ _ _ aa8 (pv 4) (@a45 _ _ _) (nomark _)) (@a04 _ _ _ (@a16 _ _ _ _ (@a23 _ _ _ _ (@a00 _ _ _ _ _ (@a23 _ _ _ _ (@a02 _)) (@a00 _ _ _ _ _ (@a06 _ _ _ _) (@a00 _ _ _ _ _ (pv 1) (@a02 _) (by rfl)) (by rfl)) (by rfl))))) (@a20 _))
    (@a04 _ _ _ (@a16 _ _ _ _ (@a23 _ _ _ _ (@a00 _ _ _ _ _ (@a23 _ _ _ _ (@a00 _ _ _ _ _ (@a22 _ _ _ _ _ _ _ (a07 K) (pv 4) (@a03 _ _ _ _) (fun _ _=>rfl)) (@a02 _) (by rfl))) (@a00 _ _ _ _ _ (@a22 _ _ _ _ _ _ _ (a07 K) (pv 4) (@a03 _ _ _ _) (fun _ _=>rfl)) (@a00 _ _ _ _ _ (pv 1) (@a02 _) (by rfl)) (by rfl)) (by rfl))))))))))),?_⟩
   walk_at "go"
   refine ⟨lr,rvs,rs,v,e,rfl,hlr,hE,hev,fun v1 hv1=>?_⟩
   walk_at "run"
   refine ac1 (fun σ' H'=>∃ v2,σ'=[some (.ref lr),some (.int (L:Nat)),some (.int left),some v,some v2]∧Same H H'∧RowO H' v2 (rowF rs e)) ?_ ?_
   · walk_at "run"
     cases hf:fndR rs e with
     | some r =>
       rw [hf] at hv1
       have hv0:=hv1
       obtain ⟨a,pv',rfl,ha,hp⟩:=hv1
       refine a24 (fun z=>nomatch z) ?_
       walk_at "run"
       exact ⟨_,rfl,Same.refl _,by unfold rowF; rw [hf]; exact hv0⟩
     | none =>
       rw [hf] at hv1
       obtain rfl:v1=.non:=hv1
       refine a25 rfl ?_
       walk_at "run"
       intro p2 H2 f2 s2 e2
       walk_at "run"
       refine bw4 (ts:=ets) (by rw [← hets]; exact hev.1.mono s2.tups) (Tr.At.toK K (ae0 e2 a28)) (by rw [← hets]; exact Nat.le_trans hev.2 (by decide)) (by simp [Tr.h,Tr.hs]) ?_
       rw [← hets]
       walk_at "run"
       by_cases hq:e=.tup [.str "quiet"]
       · refine ak2 hq ?_
         walk_at "run"
         exact ⟨_,rfl,s2,by unfold rowF; rw [hf]; simp only [if_pos hq]; rfl⟩
       · refine ak1 hq ?_
         walk_at "run"
         intro p3 H3 f3 s3 e3
         walk_at "run"
         have s23:=s2.trans s3
         refine ⟨lr,rvs,rs,_,_,rfl,s23 _ _ hlr,hE.mono fun _ _ z=>z.same s23,evW e3,fun v4 hv4=>?_⟩
         exact ⟨_,rfl,s23,by unfold rowF; rw [hf]; simp only [if_neg hq]; exact hv4⟩
   rintro σ' H2 ⟨v2,rfl,s2,hv2⟩
   have fin:∀ (H3:Hp) (v3:V) (r:Rw),Same H H3→RowAt H3 v3 r→a53 rs L left e=([r.said],wyS r.way,(L:Int))→∃ a,v3=.ref a∧(∃ pv',H3 a=some (.tup [pv',.str r.said,.str (wyS r.way)]))∧∀ l H4,Same H3 H4→H4 l=some (.lst [.str r.said])→New H4 (.lst [.ref l,.str (wyS r.way),.int (L:Nat)]) Q:=fun H3 v3 r s3 h3 ht=>by
    obtain ⟨a,pv',rfl,ha,hp⟩:=h3
    refine ⟨a,rfl,⟨pv',ha⟩,fun l H4 s4 e4 p5 H5 f5 s5 e5=>?_⟩
    exact q p5 l H5 (s3.trans (s4.trans s5)) (by rw [e5,ht]) (by rw [ht]; exact s5 _ _ e4)
   walk_at "run"
   cases hr0:rowF rs e with
   | some r =>
     rw [hr0] at hv2
     obtain ⟨a,rfl,⟨pv',ha⟩,fn⟩:=fin H2 v2 r s2 hv2 (by unfold a53; rw [hr0])
     refine ak1 (fun z=>nomatch z) ?_
     walk_at "run"
     refine a27 (SqT.of ha) (a05 (j:=1) rfl) ?_
     walk_at "run"
     intro p3 H3 f3 s3 e3
     walk_at "run"
     refine a27 (SqT.of (s3 _ _ ha)) (a05 (j:=2) rfl) ?_
     walk_at "run"
     exact fn p3 H3 s3 e3
   | none =>
     rw [hr0] at hv2
     obtain rfl:v2=.non:=hv2
     refine ak2 rfl ?_
     have rest:L=0∨1<left→New H2 (.lst []) fun x H3=>New H3 (.lst [x,.str "rest",.int (left - 1)]) Q:=fun hc p3 H3 f3 s3 e3 p4 H4 f4 s4 e4=>by
      have ht:a53 rs L left e=([],Str.ofString "rest",left - 1):=by unfold a53; rw [hr0]; simp only [if_pos hc]
      exact q p4 p3 H4 (s2.trans (s3.trans s4)) (by rw [e4,ht]) (by rw [ht]; exact s4 _ _ e3)
     walk_at "run"
     by_cases hL:L=0
     · refine a25 (by omega) ?_
       walk_at "run"
       intro p3 H3 f3 s3 e3
       walk_at "run"
       exact rest (.inl hL) p3 H3 f3 s3 e3
     refine a24 (by omega) ?_
     walk_at "run"
     by_cases hl:1<left
     · rw [decide_eq_true hl]
       walk_at "run"
       intro p3 H3 f3 s3 e3
       walk_at "run"
       exact rest (.inr hl) p3 H3 f3 s3 e3
     rw [decide_eq_false hl]
     walk_at "run"
     have hnc:¬ (L=0∨1<left):=fun z=>by rcases z with z | z; exact hL z; exact hl z
     intro p3 H3 f3 s3 e3
     walk_at "run"
     refine ⟨lr,rvs,rs,_,_,rfl,(s2.trans s3) _ _ hlr,hE.mono fun _ _ z=>z.same (s2.trans s3),evW e3,fun v4 hv4=>?_⟩
     walk_at "run"
     cases hf:fndR rs (.tup [.str "none"]) with
     | none =>
       rw [hf] at hv4
       obtain rfl:v4=.non:=hv4
       refine a25 rfl ?_
       walk_at "run"
       intro p5 H5 f5 s5 e5
       walk_at "run"
       intro p6 H6 f6 s6 e6
       have ht:a53 rs L left e=([],Str.ofString "on",(L:Int)):=by unfold a53; rw [hr0]; simp only [if_neg hnc,hf]
       exact q p6 p5 H6 (s2.trans (s3.trans (s5.trans s6))) (by rw [e6,ht]) (by rw [ht]; exact s6 _ _ e5)
     | some r =>
       rw [hf] at hv4
       obtain ⟨a,rfl,⟨pv',ha⟩,fn⟩:=fin H3 v4 r (s2.trans s3) hv4 (by unfold a53; rw [hr0]; simp only [if_neg hnc,hf])
       refine a24 (fun z=>nomatch z) ?_
       walk_at "run"
       refine a27 (SqT.of ha) (a05 (j:=1) rfl) ?_
       walk_at "run"
       intro p5 H5 f5 s5 e5
       walk_at "run"
       refine a27 (SqT.of (s5 _ _ ha)) (a05 (j:=2) rfl) ?_
       walk_at "run"
       exact fn p5 H5 s5 e5
def bc4 (K:PySem.W.Frag):Sp:=fun vs H Q _=>∃ (c:Int) (lr:Addr) (rvs:List V) (rs:List Rw),vs=[.int c,.ref lr]∧H lr=some (.lst rvs)∧Each (RowAt H) rvs rs∧(∀ r∈rs,RwOk r)∧rs.length≤100∧∀ v' ts H',Same H H'→(Tr.tup ts).At H' v' []→(Tr.tup ts).h≤5→Q v' H'
theorem bm7 {p:List Pt}(h:PtOk p):∃ k r,p=.s k::r:=by
 rcases h with ⟨k,rfl⟩ | ⟨w,rfl⟩ | rfl | rfl <;> exact ⟨_,_,rfl⟩
theorem ar4 (T:Txt K mg t):FnOk P w K mg base CX0 3 t.a__law_event t.fd__law_event ["cell","rows"] (bc4 K):=by
 have G__law_drawn:=ae8 (P:=P) (w:=w) (base:=base) T
 refine T.f__law_event.F.ok sc_law_event (fun vs H Q E h=>?_) (fun cdv A outer s H vs Q E hr h=>?_)
 · obtain ⟨c,lr,rvs,rs,rfl,_⟩:=h
   rfl
 · obtain ⟨c,lr,rvs,rs,rfl,hlr,hE,hok,hrl,q⟩:=h
   refine ⟨_,(@a01 _ _ _ _ _ (@aj1 _ _ _ _ _ _ (@a26 _ _ _ _ _ _ _ _ _ _ _ _ _ _ _ _ G__law_drawn (hr.mono (by omega)) rfl T.f__law_drawn.m T.f__law_drawn.F.kp T.f__law_drawn.b .nil a30 (@a00 _ _ _ _ _ (pv 0) (@a00 _ _ _ _ _ (@a23 _ _ _ _ (@a00 _ _ _ _ _ (@a03 _ _ _ _) (@a00 _ _ _ _ _ (@a03 _ _ _ _) (@a00 _ _ _ _ _ (@a03 _ _ _ _) (@a02 _) (by rfl)) (by rfl)) (by rfl))) (@a02 _) (by rfl)) (by rfl)) (by decide) (by rfl) (by rfl)) (ad9 K (n:=3) rfl (a21 (a17 (i:=2) sc_law_event.nd rfl (by walk_at "o")) (a21 (a17 (i:=3) sc_law_event.nd rfl (by walk_at "o")) (a21 (a17 (i:=4) sc_law_event.nd rfl (by walk_at "o")) (@a50 _))))) (by rfl) (by rfl) (by rfl))
    (@a01 _ _ _ _ _ (as8 (i:=5) (Nt:=["row"]) (Nf:=[]) (caps:=[]) rfl (a56 (sc:=a08 ac6) rfl rfl (by decide +kernel) (by decide +kernel) (by decide +kernel) rfl (by decide +kernel)) (a40 K (pv 1)) (fun _ _ _ _ _=>(a17 (i:=0) (show (["row"]:List Str).Nodup by decide +kernel) rfl (by walk_at "o"))) (fun _ _ _ _ _=>(@b22 _ _ _ (@a12 _ _ _ _ _ _ _ _ (bs7 K) (@a22 _ _ _ _ _ _ _ (a07 K) (@a22 _ _ _ _ _ _ _ (a07 K) (pv 0) (@a03 _ _ _ _) (fun _ _=>rfl)) (@a03 _ _ _ _) (fun _ _=>rfl)) (@a23 _ _ _ _ (@a00 _ _ _ _ _ (@a06 _ _ _ _) (@a00 _ _ _ _ _ (@a06 _ _ _ _) (@a02 _) (by rfl)) (by rfl))) (by with_unfolding_all rfl)))) (fun _ _ _ _ _=>(@a22 _ _ _ _ _ _ _ (a07 K) (pv 0) (@a03 _ _ _ _) (fun _ _=>rfl))) sc_law_event.nd rfl (by walk_at "o") rfl)
    (@a01 _ _ _ _ _ (@a36 _ _ _ _ _ _ _ _ (@PW.pt _ _ _ (@az7 _ _ _ _ _ _ _ (@a12 _ _ _ _ _ _ _ _ ax3 (pv 2) (@a03 _ _ _ _) (nomark _)) (@as1 _ _ _ _ (@a12 _ _ _ _ _ _ _ _ (b38 K (by exact hr.units)) (pv 5) (@a23 _ _ _ _ (@a02 _)) (nomark _))))) (@a04 _ _ _ (@a16 _ _ _ _ (@a22 _ _ _ _ _ _ _ (a38 K) (pv 5) (@a34 _ _ _ _ _ _ _ _ a75 (pv 4) (@a69 _ _ _ _ _ _ _ _ _ (aa5 K) (by rfl) T.z_len ae7 (@a00 _ _ _ _ _ (pv 5) (@a02 _) (by rfl)) (by decide) (by decide) (by rfl) (by rfl))) (fun _ _=>rfl)))) (@a20 _))
    (@a01 _ _ _ _ _ (@a36 _ _ _ _ _ _ _ _ (@a12 _ _ _ _ _ _ _ _ ax3 (pv 2) (@a03 _ _ _ _) (nomark _)) (@a04 _ _ _ (@a16 _ _ _ _ (@a15 _ _ _ _ _ (@a00 _ _ _ _ _ (@a06 _ _ _ _) (@a02 _) (by rfl))))) (@a20 _))
    (@a04 _ _ _ (@a16 _ _ _ _ (@a22 _ _ _ _ _ _ _ (a38 K) (@a23 _ _ _ _ (@a00 _ _ _ _ _ (@a15 _ _ _ _ _ (@a00 _ _ _ _ _ (@a06 _ _ _ _) (@a00 _ _ _ _ _ (pv 3) (@a02 _) (by rfl)) (by rfl))) (@a00 _ _ _ _ _ (@a15 _ _ _ _ _ (@a00 _ _ _ _ _ (@a06 _ _ _ _) (@a00 _ _ _ _ _ (@a22 _ _ _ _ _ _ _ (a38 K) (@a23 _ _ _ _ (@a00 _ _ _ _ _ (@a06 _ _ _ _) (@a00 _ _ _ _ _ (@a06 _ _ _ _) (@a00 _ _ _ _ _ (@a06 _ _ _ _) (@a00 _ _ _ _ _ (@a06 _ _ _ _) (@a00 _ _ _ _ _ (@a06 _ _ _ _) (@a02 _) (by rfl)) (by rfl)) (by rfl)) (by rfl)) (by rfl))) (@a34 _ _ _ _ _ _ _ _ a75 (@a34 _ _ _ _ _ _ _ _ ag1 (pv 4) (@a03 _ _ _ _)) (@a03 _ _ _ _)) (fun _ _=>rfl)) (@a02 _) (by rfl)) (by rfl))) (@a02 _) (by rfl)) (by rfl))) (@a34 _ _ _ _ _ _ _ _ a75 (pv 4) (@a03 _ _ _ _)) (fun _ _=>rfl)))))))),?_⟩
   have sl:(1000000:Nat)≤sizeLine:=le_line (Nat.le_refl _)
   have hvl:rvs.length=rs.length:=hE.1
   walk_at "go"
   intro p1 H1 f1 s1 e1
   walk_at "run"
   refine ⟨c,p1,[6,10,12],rfl,e1,by decide,by decide,fun p2 ds H2 f2 s2 e2 hdl hd=>?_⟩
   have da:=am8 hdl hd
   obtain ⟨d0,d1,d2,rfl⟩:=three hdl
   have b2:d2<12:=by obtain ⟨x,h1,h2⟩:=da 2 12 rfl; cases h1; exact h2
   clear da hd hdl
   refine ak4 (xs:=[.int d0,.int d1,.int d2]) (SqL.of e2) rfl ?_
   walk_at "run"
   have s12:=s1.trans s2
   refine ⟨⟨_,SqL.of (s12 _ _ hlr)⟩,a90 (xs:=rvs) (by omega) (fun i acc H'=>Same H2 H'∧acc.length≤i∧∀ v∈acc,∃ ts,(Tr.tup ts).At H' v []∧(Tr.tup ts).h≤5) ⟨Same.refl _,Nat.le_refl _,by simp⟩ (fun i acc H' zz=>by obtain ⟨s',h',_⟩:=zz; exact ⟨h',SqL.of (s' _ _ (s12 _ _ hlr))⟩) ?_ ?_⟩
   · rintro i x acc H3 hx ⟨s3,hal,hac⟩
     have hi:i<rs.length:=by rw [← hvl]; exact (List.getElem?_eq_some_iff.mp hx).1
     obtain ⟨r,hr'⟩:∃ r,rs[i]?=some r:=⟨_,List.getElem?_eq_getElem hi⟩
     obtain ⟨a,pv',rfl,ha,hp⟩:=(hE.2 i x r hx hr').same (s12.trans s3)
     obtain ⟨k,rr,hpr⟩:=bm7 (hok r (List.mem_of_getElem? hr')).p
     have hp0:=hp
     unfold PAt at hp
     rw [hpr] at hp
     obtain ⟨pa,vs,rfl,hpa,hat⟩:=at_tup0.mp hp
     obtain ⟨v1,w1,rfl,j1,hat⟩:=ats_cons0.mp hat
     obtain rfl:=at_str0.mp j1
     walk_at "run"
     refine a27 (SqT.of ha) (a05 (j:=0) rfl) ?_
     walk_at "run"
     refine a27 (SqT.of hpa) (a05 (j:=0) rfl) ?_
     walk_at "run"
     intro p4 H4 f4 s4 e4
     refine c31 (ys:=["key","word"]) (SqL.of e4) ?_
     walk_at "run"
     by_cases hk:k∈[Str.ofString "key","word"]
     · refine a25 hk ?_
       walk_at "run"
       refine a27 (SqT.of (s4 _ _ ha)) (a05 (j:=0) rfl) ?_
       refine ⟨s3.trans s4,by simp; omega,fun v hv=>?_⟩
       rcases List.mem_append.mp hv with z | z
       · obtain ⟨ts,h1,h2⟩:=hac v z
         exact ⟨ts,h1.same s4,h2⟩
       · rw [List.mem_singleton.mp z]
         exact ⟨_,hp0.same s4,b52 _⟩
     · refine a24 hk ?_
       exact ⟨s3.trans s4,by omega,fun v hv=>by obtain ⟨ts,h1,h2⟩:=hac v hv; exact ⟨ts,h1.same s4,h2⟩⟩
   rintro acc H3 ⟨s3,hal,hac⟩ ps H4 f4 s4 e4
   walk_at "run"
   have s24:=s3.trans s4
   have s04:=s12.trans s24
   rename_i N hN
   have tl:∀ H5,Same H H5→N [some (.int c),some (.ref lr),some (.int d0),some (.int d1),some (.int d2),some (.ref ps)] H5:=fun H5 s5=>by
    refine hN _ _ ?_
    walk_at "run"
    by_cases h5:(d0:Int)<5
    · refine a25 h5 ?_
      walk_at "run"
      intro p6 H6 f6 s6 e6
      exact q _ _ H6 (s5.trans s6) (ae0 e6 a28) (by simp [Tr.h,Tr.hs])
    · refine a24 h5 ?_
      walk_at "run"
      intro p6 H6 f6 s6 e6
      walk_at "run"
      intro p7 H7 f7 s7 e7
      walk_at "run"
      obtain ⟨wd,hwd⟩:∃ wd:Str,atI [V.str "no",.str "other",.str "none",.str "quiet",.str "maybe"] ((d2:Int) / 2 % 5)=some (.str wd):=by
       have:d2 / 2 % 5=0∨d2 / 2 % 5=1∨d2 / 2 % 5=2∨d2 / 2 % 5=3∨d2 / 2 % 5=4:=by omega
       rw [show ((d2:Int) / 2 % 5)=((d2 / 2 % 5:Nat):Int) by omega]
       rcases this with z | z | z | z | z <;> rw [z] <;> exact ⟨_,a05 rfl⟩
      refine aa7 (SqL.of e7) hwd ?_
      walk_at "run"
      intro p8 H8 f8 s8 e8
      walk_at "run"
      intro p9 H9 f9 s9 e9
      walk_at "run"
      have s59:=s6.trans (s7.trans (s8.trans s9))
      have:d2 % 2=0∨d2 % 2=1:=by omega
      rw [show ((d2:Int) % 2)=((d2 % 2:Nat):Int) by omega]
      rcases this with z | z <;> rw [z]
      · exact aa7 (SqL.of e9) (a05 (j:=0) rfl) (q _ _ H9 (s5.trans s59) (a46 ((s7.trans (s8.trans s9)) _ _ e6) a28 aa9) (by simp [Tr.h,Tr.hs]))
      · exact aa7 (SqL.of e9) (a05 (j:=1) rfl) (q _ _ H9 (s5.trans s59) (a46 (s9 _ _ e8) a28 a28) (by simp [Tr.h,Tr.hs]))
   by_cases h2:(d0:Int)<2
   · refine a25 h2 ?_
     walk_at "run"
     intro p5 H5 f5 s5 e5
     refine bj5 (SqL.of (s5 _ _ e4)) (SqL.of e5) ?_
     walk_at "run"
     cases acc with
     | nil =>
       walk_at "run"
       exact tl H5 (s04.trans s5)
     | cons z zs =>
       refine iteT ?_
       walk_at "run"
       refine ah1 (SqL.of (s5 _ _ e4)) ?_
       walk_at "run"
       have hm:(d2:Int) % (((z::zs).length:Nat):Int)=((d2 % (z::zs).length:Nat):Int):=by norm_cast
       refine i_rI (show (0:Int)<(((z::zs).length:Nat):Int) by simp only [List.length_cons]; omega) ?_
       rw [hm]
       have hlt:=Nat.mod_lt d2 (show 0<(z::zs).length by simp)
       obtain ⟨ts,h1,h3⟩:=hac _ (List.getElem_mem hlt)
       exact aa7 (SqL.of (s5 _ _ e4)) (a05 (List.getElem?_eq_getElem hlt)) (q _ ts H5 (s04.trans s5) (h1.same (s4.trans s5)) h3)
   · refine a24 h2 ?_
     exact tl H4 s04
theorem aw6 (num:Nat):∀ (a b:List Stm) (i:Nat),newQ num i (a++b)=newQ num i a++newQ num (i+a.length) b
 | [],b,i=>by simp [newQ]
 | x::a,b,i=>by
   simp only [List.cons_append,newQ,aw6 num a b (i+1),List.append_assoc,List.length_cons]
   rw [show i+1+a.length=i+(a.length+1) by omega]
theorem ar5 (tn:List Str) (num:Nat):∀ (a b:List Stm) (i m:Nat),a57 tn num i m (a++b)=a57 tn num i m a++a57 tn num (i+a.length) (m+(newQ num i a).length) b
 | [],b,i,m=>by simp [a57,newQ]
 | x::a,b,i,m=>by
   simp only [List.cons_append,a57,ar5 tn num a b (i+1),List.length_cons,newQ,List.length_append,List.length_map]
   rw [show i+1+a.length=i+(a.length+1) by omega,Nat.add_assoc m]
theorem aw7 (num:Nat):∀ (a:List Stm) (i:Nat),(∀ s∈a,a32 s=[])→newQ num i a=[]
 | [],_,_=>rfl
 | x::a,i,h=>by
   simp only [newQ,h x (by simp),List.map_nil,List.nil_append]
   exact aw7 num a (i+1) fun s hs=>h s (by simp [hs])
def cdS (k:Nat):Cd:=.cmp true (.box "n") (.num (k:Int))
theorem tq (Z:Nat):(newQ 1 0 ((List.range Z).map ac7)).length=2*Z∧∀ k,k<Z→(newQ 1 0 ((List.range Z).map ac7))[2*k]?=some ([.plain [.s "say",.s (rndS k)]],false,some (1,k+1))∧(newQ 1 0 ((List.range Z).map ac7))[2*k+1]?=some ([],false,some (1,k+1)):=by
 induction Z with
 | zero=>exact ⟨rfl,fun k h=>absurd h (Nat.not_lt_zero _)⟩
 | succ Z ih =>
   obtain ⟨h1,h2⟩:=ih
   rw [List.range_succ,List.map_append,List.map_cons,List.map_nil,ah8]
   have e:(a32 (ac7 Z)).map (fun b=>((b,(ac7 Z).isL,some (1,0+((List.range Z).map ac7).length+1)):QE))=[([.plain [.s "say",.s (rndS Z)]],false,some (1,Z+1)),([],false,some (1,Z+1))]:=by
    simp [a32,ac7,Stm.isL]
   rw [e]
   refine ⟨by rw [List.length_append,h1]; simp; omega,fun k hk=>?_⟩
   by_cases hz:k<Z
   · rw [List.getElem?_append_left (by omega),List.getElem?_append_left (by omega)]
     exact h2 k hz
   · have:k=Z:=by omega
     subst this
     rw [List.getElem?_append_right (by omega),List.getElem?_append_right (by omega),h1,show 2*k - 2*k=0 by omega,show 2*k+1 - 2*k=1 by omega]
     exact ⟨rfl,rfl⟩
theorem tk (tn:List Str) (Z:Nat):a57 tn 1 0 2 ((List.range Z).map ac7)=(List.range Z).map fun k=>KS.test (cdS k) (2+2*k) (3+2*k):=by
 induction Z with
 | zero=>rfl
 | succ Z ih =>
   rw [List.range_succ,List.map_append,List.map_cons,List.map_nil,ae4,ih,(tq Z).1,List.map_append]
   simp only [a52,ac7,cdS,List.map_cons,List.map_nil,show 2+2*Z+1=3+2*Z by omega]
def Rw.k0 (r:Rw):KS:=match r.ln with
 | some l=>.hand (l:Int) "c"
 | none=>.say r.said
def Rw.k1 (r:Rw):List KS:=if r.way=0 then [] else [if r.way=1 then .again else if r.way=2 then .leave else .stop]
theorem bm8 {tn:List Str}{num m:Nat}{r:Rw}(h:RwOk r):a57 tn num 0 m (r.st::r.ws)=r.k0::r.k1:=by
 have h0:a52 tn (num,0+1) m r.st=r.k0:=by
  unfold Rw.st Rw.k0
  cases r.ln with
  | none=>simp only [a52,plK]; rw [if_pos trivial]
  | some l=>rfl
 have h1:∀ i m',a57 tn num i m' r.ws=r.k1:=fun i m'=>by
  unfold Rw.ws Rw.k1
  have:=h.way
  have:r.way=0∨r.way=1∨r.way=2∨r.way=3:=by omega
  rcases this with e | e | e | e <;> rw [e]
  · rfl
  · show [a52 tn _ _ (.plain [.s (Str.ofString "again")])]=[KS.again]
    simp only [a52,plK]
    rw [if_pos trivial]
  · show [a52 tn _ _ (.plain [.s (Str.ofString "leave")])]=[KS.leave]
    simp only [a52,plK]
    rw [if_neg (by decide +kernel),if_pos trivial]
  · show [a52 tn _ _ (.plain [.s (Str.ofString "stop")])]=[KS.stop]
    simp only [a52,plK]
    rw [if_neg (by decide +kernel),if_neg (by decide +kernel),if_neg (by decide +kernel)]
 simp only [a57,h0,h1]
def br22 (Z:Nat) (rs:List Rw):List (List Pt×Pl):=brsK (2+2*Z) (rs.map Rw.br)
noncomputable def w22 (Z:Nat) (rs:List Rw):Pl:=(fndT (br22 Z rs) (.tup [.str "none"])).getD (1,Z+2)
noncomputable def ac2 (L Z:Nat) (rs:List Rw):List KS:=(List.range Z).map (fun k=>KS.test (cdS k) (2+2*k) (3+2*k))++[.put "n" (.two true (.box "n") (.num 1)),.wait (L:Int) (br22 Z rs) (w22 Z rs),.say "on"]
structure KbF (kb:List KB) (L Z:Nat) (rs:List Rw):Prop where
 len:kb.length=2+2*Z+rs.length
 h0:kb[0]?=some ⟨false,none,[.loop 1,.say "bye"]⟩
 h1:kb[1]?=some ⟨true,some (0,1),ac2 L Z rs⟩
 ht:∀ k,k<Z→kb[2+2*k]?=some ⟨false,some (1,k+1),[.say (rndS k)]⟩∧kb[3+2*k]?=some ⟨false,some (1,k+1),[]⟩
 hb:∀ j r,rs[j]?=some r→kb[2+2*Z+j]?=some ⟨false,some (1,Z+2),r.k0::r.k1⟩
theorem q22 (L Z:Nat) (rs:List Rw) (hok:∀ r∈rs,RwOk r):∃ q2:List QE,Qn (q0T (tsS L Z rs)) 0=[([.loop (aa0 L Z rs),.plain [.s "say",.s "bye"]],false,none)]∧Qn (q0T (tsS L Z rs)) 1=[([.loop (aa0 L Z rs),.plain [.s "say",.s "bye"]],false,none),(aa0 L Z rs,true,some (0,1))]∧(∀ n,Qn (q0T (tsS L Z rs)) (n+2)=Qn (q0T (tsS L Z rs)) 1++(newQ 1 0 ((List.range Z).map ac7)++rs.map fun r=>(r.st::r.ws,false,some (1,Z+2)))):=by
 refine ⟨[],rfl,?_,?_⟩
 · simp [Qn,q0T,tsS,newQ,a32,Stm.isL]
 have e1:Qn (q0T (tsS L Z rs)) 1=[([.loop (aa0 L Z rs),.plain [.s "say",.s "bye"]],false,none),(aa0 L Z rs,true,some (0,1))]:=by
  simp [Qn,q0T,tsS,newQ,a32,Stm.isL]
 have e2:newQ 1 0 (aa0 L Z rs)=newQ 1 0 ((List.range Z).map ac7)++rs.map fun r=>(r.st::r.ws,false,some (1,Z+2)):=by
  unfold aa0
  rw [aw6]
  congr 1
  simp [newQ,a32,Stm.isL,Rw.br]
 have hpl:∀ (n:Nat) (q:QE),2≤n→(Qn (q0T (tsS L Z rs)) 1++(newQ 1 0 ((List.range Z).map ac7)++rs.map fun r=>(r.st::r.ws,false,some (1,Z+2))))[n]?=some q→newQ n 0 q.1=[]:=fun n q hn hq=>by
  rw [e1,List.getElem?_append_right (by simpa using hn)] at hq
  simp only [List.length_cons,List.length_nil] at hq
  refine aw7 _ _ _ fun s hs=>?_
  obtain ⟨t1,t2⟩:=tq Z
  rcases Nat.lt_or_ge (n - (0+1+1)) (2*Z) with hj | hj
  · rw [List.getElem?_append_left (by omega)] at hq
    obtain ⟨k,hk⟩:∃ k,n - (0+1+1)=2*k∨n - (0+1+1)=2*k+1:=⟨(n - 2) / 2,by omega⟩
    rcases hk with hk | hk
    · rw [hk,(t2 k (by omega)).1] at hq
      obtain rfl:=Option.some.inj hq
      rw [List.mem_singleton.mp hs]
      rfl
    · rw [hk,(t2 k (by omega)).2] at hq
      obtain rfl:=Option.some.inj hq
      simp at hs
  · rw [List.getElem?_append_right (by omega),List.getElem?_map] at hq
    obtain ⟨r,hr,rfl⟩:=Option.map_eq_some_iff.mp hq
    rcases List.mem_cons.mp hs with z | z
    · rw [z]
      unfold Rw.st
      cases r.ln <;> rfl
    · unfold Rw.ws at z
      split at z
      · simp at z
      · rw [List.mem_singleton.mp z]
        rfl
 intro n
 induction n with
 | zero =>
   show Qn (q0T (tsS L Z rs)) 1++(match (Qn (q0T (tsS L Z rs)) 1)[1]? with | none=>[] | some q=>newQ 1 0 q.1)=_
   rw [e1]
   show _++newQ 1 0 (aa0 L Z rs)=_
   rw [e2]
 | succ n ih =>
   show Qn (q0T (tsS L Z rs)) (n+2)++(match (Qn (q0T (tsS L Z rs)) (n+2))[n+2]? with | none=>[] | some q=>newQ (n+2) 0 q.1)=_
   rw [ih]
   cases hq:(Qn (q0T (tsS L Z rs)) 1++(newQ 1 0 ((List.range Z).map ac7)++rs.map fun r=>((r.st::r.ws,false,some (1,Z+2)):QE)))[n+2]? with
   | none=>simp
   | some q =>
     simp only
     rw [hpl (n+2) q (by omega) hq,List.append_nil]
theorem kb22 (L Z:Nat) (rs:List Rw) (hok:∀ r∈rs,RwOk r) (hZ:Z≤5) (hr:rs.length≤4):KpOk (tsS L Z rs) (2+2*Z+rs.length)∧KbF (kbL (tsS L Z rs) (2+2*Z+rs.length)) L Z rs:=by
 obtain ⟨_,e0,e1,e2⟩:=q22 L Z rs hok
 have eN:=e2 (2*Z+rs.length)
 rw [show 2*Z+rs.length+2=2+2*Z+rs.length by omega,e1] at eN
 obtain ⟨t1,t2⟩:=tq Z
 have hlen:(Qn (q0T (tsS L Z rs)) (2+2*Z+rs.length)).length=2+2*Z+rs.length:=by
  rw [eN]
  simp only [List.length_append,List.length_cons,List.length_nil,List.length_map,t1]
  omega
 have gt:∀ k,k<Z→(Qn (q0T (tsS L Z rs)) (2+2*Z+rs.length))[2+2*k]?=some ([.plain [.s "say",.s (rndS k)]],false,some (1,k+1))∧(Qn (q0T (tsS L Z rs)) (2+2*Z+rs.length))[3+2*k]?=some ([],false,some (1,k+1)):=fun k hk=>by
  obtain ⟨a1,a2⟩:=t2 k hk
  rw [eN]
  refine ⟨?_,?_⟩
  · rw [List.getElem?_append_right (by simp)]
    simp only [List.length_cons,List.length_nil]
    rw [List.getElem?_append_left (by omega),show 2+2*k - (0+1+1)=2*k by omega]
    exact a1
  · rw [List.getElem?_append_right (by simp; omega)]
    simp only [List.length_cons,List.length_nil]
    rw [List.getElem?_append_left (by omega),show 3+2*k - (0+1+1)=2*k+1 by omega]
    exact a2
 have gb:∀ j r,rs[j]?=some r→(Qn (q0T (tsS L Z rs)) (2+2*Z+rs.length))[2+2*Z+j]?=some (r.st::r.ws,false,some (1,Z+2)):=fun j r hr=>by
  rw [eN,List.getElem?_append_right (by simp; omega)]
  simp only [List.length_cons,List.length_nil]
  rw [List.getElem?_append_right (by omega),t1,show 2+2*Z+j - (0+1+1) - 2*Z=j by omega,List.getElem?_map,hr]
  rfl
 have g0:(Qn (q0T (tsS L Z rs)) (2+2*Z+rs.length))[0]?=some ([.loop (aa0 L Z rs),.plain [.s "say",.s "bye"]],false,none):=by rw [eN]; rfl
 have g1:(Qn (q0T (tsS L Z rs)) (2+2*Z+rs.length))[1]?=some (aa0 L Z rs,true,some (0,1)):=by rw [eN]; rfl
 have kg:∀ {j:Nat}{q:QE},(Qn (q0T (tsS L Z rs)) (2+2*Z+rs.length))[j]?=some q→(kbL (tsS L Z rs) (2+2*Z+rs.length))[j]?=some ⟨q.2.1,q.2.2,a57 ((tsS L Z rs).map (·.1)) j 0 (Qn (q0T (tsS L Z rs)) j).length q.1⟩:=fun {j q} h=>by
  unfold kbL
  rw [List.getElem?_mapIdx,h]
  rfl
 have sy:∀ (tn:List Str) (pl:Pl) (m:Nat) (w:Str),a52 tn pl m (.plain [.s "say",.s w])=.say w:=fun tn pl m w=>by
  simp only [a52,plK]
  rw [if_pos trivial]
 constructor
 · refine ⟨hlen,by omega,fun q hq=>?_⟩
   obtain ⟨j,hj⟩:=List.mem_iff_getElem?.mp hq
   have hjl:=(List.getElem?_eq_some_iff.mp hj).1
   rw [hlen] at hjl
   have hsk:∀ r,RwOk r→∀ s∈r.st::r.ws,s.kd ((tsS L Z rs).map (·.1)):=fun r hr s hs=>by
    rcases List.mem_cons.mp hs with z | z
    · rw [z]
      unfold Rw.st
      cases r.ln with
      | none=>exact .inl ⟨_,rfl⟩
      | some l=>exact .inr (.inl ⟨_,_,rfl⟩)
    · unfold Rw.ws at z
      split at z
      · simp at z
      · rename_i h0
        rw [List.mem_singleton.mp z]
        rcases by7 hr h0 with e | e | e <;> rw [e]
        · exact .inr (.inr (.inr (.inl rfl)))
        · exact .inr (.inr (.inr (.inr (.inl rfl))))
        · exact .inr (.inr (.inr (.inr (.inr (.inr rfl)))))
   have cases5:j=0∨j=1∨(∃ k,k<Z∧(j=2+2*k∨j=3+2*k))∨∃ i,i<rs.length∧j=2+2*Z+i:=by
    by_cases h0:j=0
    · exact .inl h0
    by_cases h1:j=1
    · exact .inr (.inl h1)
    by_cases h2:j<2+2*Z
    · exact .inr (.inr (.inl ⟨(j - 2) / 2,by omega,by omega⟩))
    · exact .inr (.inr (.inr ⟨j - (2+2*Z),by omega,by omega⟩))
   rcases cases5 with rfl | rfl | ⟨k,hk,rfl | rfl⟩ | ⟨i,hi,rfl⟩
   · rw [g0] at hj
     obtain rfl:=Option.some.inj hj
     refine ⟨by simp,fun s hs=>?_⟩
     simp only [List.mem_cons,List.not_mem_nil,or_false] at hs
     rcases hs with rfl | rfl
     · trivial
     · exact .inl ⟨_,rfl⟩
   · rw [g1] at hj
     obtain rfl:=Option.some.inj hj
     refine ⟨by simp [aa0]; omega,fun s hs=>?_⟩
     unfold aa0 at hs
     rcases List.mem_append.mp hs with z | z
     · obtain ⟨k,_,rfl⟩:=List.mem_map.mp z
       trivial
     · simp only [List.mem_cons,List.not_mem_nil,or_false] at z
       rcases z with rfl | rfl | rfl
       · trivial
       · show (rs.map Rw.br).length≤1000
         rw [List.length_map]
         omega
       · exact .inl ⟨_,rfl⟩
   · rw [(gt k hk).1] at hj
     obtain rfl:=Option.some.inj hj
     exact ⟨by simp,fun s hs=>by rw [List.mem_singleton.mp hs]; exact .inl ⟨_,rfl⟩⟩
   · rw [(gt k hk).2] at hj
     obtain rfl:=Option.some.inj hj
     exact ⟨by simp,fun s hs=>by simp at hs⟩
   · rw [gb i _ (List.getElem?_eq_getElem hi)] at hj
     obtain rfl:=Option.some.inj hj
     refine ⟨?_,hsk _ (hok _ (List.getElem_mem hi))⟩
     simp only [List.length_cons,Rw.ws]
     split <;> simp
 · refine ⟨by unfold kbL; rw [List.length_mapIdx,hlen],?_,?_,fun k hk=>⟨?_,?_⟩,fun j r hr=>?_⟩
   · rw [kg g0,e0]
     simp only [a57,sy]
     rfl
   · rw [kg g1,e1]
     congr 2
     show a57 _ 1 0 2 (aa0 L Z rs)=_
     unfold aa0 ac2
     rw [ar5,tk,t1]
     congr 1
     simp only [a57,sy,a32,List.length_nil,Nat.add_zero,a52,List.length_map,List.length_range,Nat.zero_add]
     rfl
   · rw [kg (gt k hk).1]
     simp only [a57,sy]
   · rw [kg (gt k hk).2]
     simp only [a57]
   · rw [kg (gb j r hr),bm8 (hok r (List.mem_of_getElem? hr))]
theorem a68 {kb:List KB}{bs:List (Str×Int)}{n:Nat}{o o2:Option Pl}{stk stk1 stk2:List Pl}{ws ws2:List Int}{p:Pl}{s:KS}{sd sd':List Str}{r:Option Std}(hp:popP o stk=some (p,stk1)) (hs:stAt kb p=some s) (hx:onK kb bs p stk1 ws s=some (.go sd o2 stk2 ws2)) (h:goF kb bs n o2 stk2 ws2=some (sd',r)):goF kb bs (n+1) o stk ws=some (sd++sd',r):=by
 simp only [goF,hp,hs,hx,h]
 rfl
theorem b65 {kb:List KB}{bs:List (Str×Int)}{n:Nat}{o:Option Pl}{stk stk1:List Pl}{ws:List Int}{p:Pl}{s:KS}{r:Option Std}(hp:popP o stk=some (p,stk1)) (hs:stAt kb p=some s) (hx:onK kb bs p stk1 ws s=some (.done r)):goF kb bs (n+1) o stk ws=some ([],r):=by
 simp only [goF,hp,hs,hx]
theorem an0 {kb:List KB}{bs:List (Str×Int)}:∀ {n:Nat}{o:Option Pl}{stk:List Pl}{ws:List Int}{x:List Str×Option Std},goF kb bs n o stk ws=some x→goF kb bs (n+1) o stk ws=some x
 | 0,_,_,_,_,h=>by cases h
 | n+1,o,stk,ws,x,h=>by
   simp only [goF] at h ⊢
   cases e:popP o stk with
   | none=>rw [e] at h; exact h
   | some y =>
     obtain ⟨p,stk1⟩:=y
     rw [e] at h
     simp only at h ⊢
     cases hs:stAt kb p with
     | none=>rw [hs] at h; cases h
     | some s =>
       rw [hs] at h
       simp only at h ⊢
       cases hx:onK kb bs p stk1 ws s with
       | none=>rw [hx] at h; cases h
       | some z =>
         rw [hx] at h
         cases z with
         | done r=>exact h
         | go sd o2 stk2 ws2 =>
           obtain ⟨y,hy,hz⟩:=Option.map_eq_some_iff.mp h
           simp only
           have hm:=an0 hy
           simp only [goF] at hm
           rw [hm]
           exact congrArg some hz
theorem ar6 {kb:List KB}{bs:List (Str×Int)}{n m:Nat}{o:Option Pl}{stk:List Pl}{ws:List Int}{x:List Str×Option Std}(h:goF kb bs n o stk ws=some x) (hm:n≤m):goF kb bs m o stk ws=some x:=by
 obtain ⟨k,rfl⟩:=Nat.exists_eq_add_of_le hm
 induction k with
 | zero=>exact h
 | succ k ih=>exact an0 (ih (by omega))
theorem set1 {kb:List KB}{f:Nat}{p:Pl}{b:KB}(h:kb[p.1]?=some b) (hi:p.2<b.st.length):setF kb (f+1) (some p)=some (some p):=by
 simp only [setF,h,if_pos hi]
theorem set2 {kb:List KB}{f:Nat}{p:Pl}{b:KB}(h:kb[p.1]?=some b) (hi:¬ p.2<b.st.length):setF kb (f+1) (some p)=setF kb f (if b.lp then some (p.1,0) else b.bh):=by
 simp only [setF,h,if_neg hi]
theorem a62 {kb:List KB}{p:Pl}{b:KB}{s:KS}(h:kb[p.1]?=some b) (hs:b.st[p.2]?=some s):stAt kb p=some s:=by
 unfold stAt
 rw [h]
 exact hs
abbrev bs22 (Z:Nat):List (Str×Int):=[("n",(Z:Int))]
def a92 (L Z x:Nat):Option Std:=some ((1,Z+1),[],[(((x+1) % Z:Nat):Int)],(L:Int))
section
variable {kb:List KB}{L Z:Nat}{rs:List Rw}
theorem KbF.fu (h:KbF kb L Z rs):∃ f,tfu kb=f+4:=⟨2*Z+rs.length,by unfold tfu; rw [h.len]; omega⟩
theorem au6:(ac2 L Z rs).length=Z+3:=by simp [ac2]
theorem c50 {k:Nat}(hk:k<Z):(ac2 L Z rs)[k]?=some (.test (cdS k) (2+2*k) (3+2*k)):=by
 unfold ac2
 rw [List.getElem?_append_left (by simpa using hk),List.getElem?_map,List.getElem?_range hk]
 rfl
theorem bc5 {i:Nat}:(ac2 L Z rs)[Z+i]?=[KS.put "n" (.two true (.box "n") (.num 1)),.wait (L:Int) (br22 Z rs) (w22 Z rs),.say "on"][i]?:=by
 unfold ac2
 rw [List.getElem?_append_right (by simp)]
 simp
theorem KbF.set1 (h:KbF kb L Z rs) {f i:Nat}(hi:i<Z+3):setF kb (f+1) (some (1,i))=some (some (1,i)):=K22.set1 h.h1 (by rw [au6]; exact hi)
theorem bz0 (h:KbF kb L Z rs) {k x:Nat}(hk:k<Z) {n:Nat}{sd:List Str}{r:Option Std}(hg:goF kb (bs22 Z) n (some (1,k+1)) [] [(x:Int)]=some (sd,r)):goF kb (bs22 Z) (n+2) (some (1,k)) [] [(x:Int)]=some ((if x=k then [rndS k] else [])++sd,r):=by
 obtain ⟨f,hf⟩:=h.fu
 obtain ⟨t1,t2⟩:=h.ht k hk
 have hev:(cdS k).ev ((bs22 Z).map (·.1)) [(x:Int)]=decide (x=k):=by
  simp only [cdS,Cd.ev,Ex.ev,bs22,List.map_cons,List.map_nil,bval,if_true]
  by_cases e:x=k
  · rw [decide_eq_true e,decide_eq_true (by omega)]
  · rw [decide_eq_false e,decide_eq_false (by omega)]
 have hs:stAt kb (1,k)=some (.test (cdS k) (2+2*k) (3+2*k)):=a62 h.h1 (c50 hk)
 by_cases e:x=k
 · rw [if_pos e]
   have s2:stAt kb (2+2*k,0)=some (.say (rndS k)):=a62 t1 rfl
   have g1:goF kb (bs22 Z) (n+1) (some (2+2*k,0)) [] [(x:Int)]=some ([rndS k]++sd,r):=a68 (o:=some (2+2*k,0)) (o2:=some (1,k+1)) rfl s2 (by
    show (setF kb (tfu kb) (some (2+2*k,1))).map _=_
    rw [hf,set2 t1 (by simp)]
    simp only [Bool.false_eq_true,if_false]
    rw [h.set1 (by omega)]
    rfl) hg
   have:=a68 (o:=some (1,k)) (sd:=[]) (o2:=some (2+2*k,0)) (stk2:=[]) (ws2:=[(x:Int)]) rfl hs (by
    show (setF kb (tfu kb) (some (if (cdS k).ev ((bs22 Z).map (·.1)) [(x:Int)]=true then 2+2*k else 3+2*k,0))).map _=_
    rw [hev,decide_eq_true e,if_pos rfl,hf,K22.set1 t1 (by simp)]
    rfl) g1
   exact this
 · rw [if_neg e]
   have:=a68 (o:=some (1,k)) (sd:=[]) (o2:=some (1,k+1)) (stk2:=[]) (ws2:=[(x:Int)]) rfl hs (by
    show (setF kb (tfu kb) (some (if (cdS k).ev ((bs22 Z).map (·.1)) [(x:Int)]=true then 2+2*k else 3+2*k,0))).map _=_
    rw [hev,decide_eq_false e,if_neg (by simp),hf,set2 t2 (by simp)]
    simp only [Bool.false_eq_true,if_false]
    rw [h.set1 (by omega)]
    rfl) hg
   exact an0 this
theorem b66 (h:KbF kb L Z rs) {x:Nat}{n:Nat}{sd:List Str}{r:Option Std}(hg:goF kb (bs22 Z) n (some (1,Z)) [] [(x:Int)]=some (sd,r)) (hx:x<Z):∀ d,d≤Z→goF kb (bs22 Z) (n+2*d) (some (1,Z - d)) [] [(x:Int)]=some ((if Z - d≤x then [rndS x] else [])++sd,r)
 | 0,_=>by
   rw [if_neg (by omega)]
   exact hg
 | d+1,hd=>by
   have ih:=b66 h hg hx d (by omega)
   have:=bz0 h (k:=Z - (d+1)) (by omega) (show goF kb (bs22 Z) (n+2*d) (some (1,Z - (d+1)+1)) [] [(x:Int)]=_ by rw [show Z - (d+1)+1=Z - d by omega]; exact ih)
   rw [show n+2*(d+1)=n+2*d+2 by omega,this]
   congr 2
   by_cases e:x=Z - (d+1)
   · rw [if_pos e,if_neg (by omega),if_pos (by omega),←e]
     rfl
   · rw [if_neg e]
     by_cases e2:Z - d≤x
     · rw [if_pos e2,if_pos (by omega)]
       rfl
     · rw [if_neg e2,if_neg (by omega)]
       rfl
theorem au7 (h:KbF kb L Z rs) {x:Nat}(hx:x<Z):goF kb (bs22 Z) (2*Z+2) (some (1,0)) [] [(x:Int)]=some ([rndS x],a92 L Z x):=by
 obtain ⟨f,hf⟩:=h.fu
 have s1:stAt kb (1,Z)=some (.put "n" (.two true (.box "n") (.num 1))):=a62 h.h1 (bc5 (i:=0))
 have s2:stAt kb (1,Z+1)=some (.wait (L:Int) (br22 Z rs) (w22 Z rs)):=a62 h.h1 (bc5 (i:=1))
 have hv:KS.vals (bs22 Z) [(x:Int)] (.put "n" (.two true (.box "n") (.num 1)))=[(((x+1) % Z:Nat):Int)]:=by
  simp only [KS.vals,vput,bs22,List.map_cons,List.map_nil,Ex.ev,bval,if_true,List.zipWith_cons_cons,List.zipWith_nil_left]
  norm_cast
 have g1:goF kb (bs22 Z) 1 (some (1,Z+1)) [] [(((x+1) % Z:Nat):Int)]=some ([],a92 L Z x):=b65 (o:=some (1,Z+1)) rfl s2 rfl
 have g2:=a68 (o:=some (1,Z)) (sd:=[]) (o2:=some (1,Z+1)) (stk2:=[]) (ws2:=[(((x+1) % Z:Nat):Int)]) rfl s1 (by
  show (setF kb (tfu kb) (some (1,Z+1))).map (fun o=>StO.go [] o [] (KS.vals (bs22 Z) [(x:Int)] (.put "n" (.two true (.box "n") (.num 1)))))=_
  rw [hv,hf,h.set1 (by omega)]
  rfl) g1
 have:=b66 h g2 hx Z (Nat.le_refl _)
 rw [Nat.sub_self,if_pos (Nat.zero_le _)] at this
 rw [show 2*Z+2=1+1+2*Z by omega]
 exact this
theorem bm9 (h:KbF kb L Z rs) (hZ:0<Z):tgoF kb (bs22 Z) (2*Z+3) (some (0,0)) [] (List.replicate (bs22 Z).length 0)=some ([rndS 0],a92 L Z 0):=by
 obtain ⟨f,hf⟩:=h.fu
 unfold tgoF
 rw [hf,K22.set1 h.h0 (by simp)]
 have s1:stAt kb (0,0)=some (.loop 1):=a62 h.h0 rfl
 exact a68 (o:=some (0,0)) (sd:=[]) (o2:=some (1,0)) (stk2:=[]) (ws2:=[((0:Nat):Int)]) rfl s1 (by
  show (setF kb (tfu kb) (some (1,0))).map _=_
  rw [hf,h.set1 (by omega)]
  rfl) (au7 h hZ)
theorem g_on (h:KbF kb L Z rs) {x:Nat}(hx:x<Z):goF kb (bs22 Z) (2*Z+3) (some (1,Z+2)) [] [(x:Int)]=some ([Str.ofString "on",rndS x],a92 L Z x):=by
 obtain ⟨f,hf⟩:=h.fu
 have s1:stAt kb (1,Z+2)=some (.say "on"):=a62 h.h1 (bc5 (i:=2))
 exact a68 (o:=some (1,Z+2)) (o2:=some (1,0)) (stk2:=[]) (ws2:=[(x:Int)]) rfl s1 (by
  show (setF kb (tfu kb) (some (1,Z+2+1))).map _=_
  rw [hf,set2 h.h1 (by rw [au6]; omega)]
  simp only [if_true]
  rw [h.set1 (by omega)]
  rfl) (au7 h hx)
def outW (L Z:Nat) (said:List Str) (way:Str) (x:Nat):List Str×Option Std :=
 if way=Str.ofString "on" then (said++[Str.ofString "on",rndS x],a92 L Z x) else if way=Str.ofString "again" then (said++[rndS x],a92 L Z x) else if way=Str.ofString "leave" then (said++[Str.ofString "bye"],none) else (said,none)
theorem bn0 {r:Rw}:r.k0.sd=[r.said]∧r.k0.word≠Str.ofString "wait"∧r.k0.word≠Str.ofString "stop"∧(∀ kb ns p ws,wayF kb ns p ws r.k0=some (some (p.1,p.2+1)))∧(∀ kb p stk,stkF kb p stk r.k0=some stk)∧∀ bs ws,r.k0.vals bs ws=ws:=by
 unfold Rw.k0 Rw.said
 cases r.ln with
 | none=>exact ⟨rfl,by simp only [KS.word]; decide +kernel,by simp only [KS.word]; decide +kernel,fun _ _ _ _=>rfl,fun _ _ _=>rfl,fun _ _=>rfl⟩
 | some l =>
   refine ⟨?_,by simp only [KS.word]; decide +kernel,by simp only [KS.word]; decide +kernel,fun _ _ _ _=>rfl,fun _ _ _=>rfl,fun _ _=>rfl⟩
   show [Str.ofString (toString (l:Int))++Str.ofString ":"++Str.ofString "c"]=[Str.ofString (toString (l:Int))++Str.ofString ":c"]
   rw [b94,show Str.ofString ":"++Str.ofString "c"=Str.ofString ":c" by decide +kernel]
theorem b67 {r:Rw}{bs:List (Str×Int)}{p:Pl}{stk:List Pl}{ws:List Int}:onK kb bs p stk ws r.k0=(setF kb (tfu kb) (some (p.1,p.2+1))).map fun o=>StO.go [r.said] o stk ws:=by
 obtain ⟨h1,h2,h3,h4,h5,h6⟩:=bn0 (r:=r)
 have:onK kb bs p stk ws r.k0=(match stkF kb p stk r.k0,wayF kb (bs.map (·.1)) p (r.k0.vals bs ws) r.k0 with
  | some stk2,some w=>(setF kb (tfu kb) w).map fun o=>StO.go r.k0.sd o stk2 (r.k0.vals bs ws)
  | _,_=>none):=by
  revert h2 h3
  generalize r.k0=s
  intro h2 h3
  cases s <;> first | rfl | exact absurd rfl h2 | exact absurd rfl h3
 rw [this,h4,h5,h6,h1]
theorem bz1 (h:KbF kb L Z rs) (hok:∀ r∈rs,RwOk r) {j x:Nat}{r:Rw}(hj:rs[j]?=some r) (hx:x<Z):tgoF kb (bs22 Z) (2*Z+5) (some (2+2*Z+j,0)) [] [(x:Int)]=some (outW L Z [r.said] (wyS r.way) x):=by
 obtain ⟨f,hf⟩:=h.fu
 have hb:=h.hb j r hj
 have hw:=(hok r (List.mem_of_getElem? hj)).way
 unfold tgoF
 rw [hf,K22.set1 hb (by simp)]
 simp only
 have s0:stAt kb (2+2*Z+j,0)=some r.k0:=a62 hb rfl
 have mid:∀ (y:List Str×Option Std) (k:KS),r.k1=[k]→goF kb (bs22 Z) (2*Z+4) (some (2+2*Z+j,1)) [] [(x:Int)]=some y→goF kb (bs22 Z) (2*Z+5) (some (2+2*Z+j,0)) [] [(x:Int)]=some ([r.said]++y.1,y.2):=fun y k hk hg =>
  a68 (o:=some (2+2*Z+j,0)) rfl s0 (by
   rw [b67,hf,K22.set1 hb (by rw [hk]; simp)]
   rfl) hg
 have:r.way=0∨r.way=1∨r.way=2∨r.way=3:=by omega
 rcases this with e | e | e | e
 · have hk:r.k1=[]:=by unfold Rw.k1; rw [if_pos e]
   rw [e,show outW L Z [r.said] (wyS 0) x=([r.said]++[Str.ofString "on",rndS x],a92 L Z x) by unfold outW; rw [if_pos (show wyS 0=Str.ofString "on" from rfl)]]
   exact a68 (o:=some (2+2*Z+j,0)) rfl s0 (by
    rw [b67,hf,set2 hb (by rw [hk]; simp)]
    simp only [Bool.false_eq_true,if_false]
    rw [h.set1 (by omega)]
    rfl) (ar6 (g_on h hx) (by omega))
 · have hk:r.k1=[.again]:=by unfold Rw.k1; rw [if_neg (by omega),if_pos e]
   rw [e,show outW L Z [r.said] (wyS 1) x=([r.said]++[rndS x],a92 L Z x) by unfold outW; rw [if_neg (by decide +kernel),if_pos (show wyS 1=Str.ofString "again" from rfl)]]
   refine mid ([rndS x],a92 L Z x) _ hk ?_
   have s1:stAt kb (2+2*Z+j,1)=some .again:=a62 hb (by rw [hk]; rfl)
   have hl:lpF kb (f+4) (2+2*Z+j)=some 1:=by
    show lpF kb (f+3+1) _=_
    simp only [lpF,hb,h.h1,Bool.false_eq_true,if_false,if_true]
   exact ar6 (a68 (n:=2*Z+2) (o:=some (2+2*Z+j,1)) (sd:=[]) (o2:=some (1,0)) (stk2:=[]) (ws2:=[(x:Int)]) rfl s1 (by
    show (match some [],(lpF kb (tfu kb) (2+2*Z+j)).map fun i=>some ((i,0):Pl) with | some stk2,some w=>(setF kb (tfu kb) w).map fun o=>StO.go [] o stk2 _ | _,_=>none)=_
    rw [hf,hl]
    show (setF kb (f+4) (some (1,0))).map _=_
    rw [h.set1 (by omega)]
    rfl) (au7 h hx)) (by omega)
 · have hk:r.k1=[.leave]:=by unfold Rw.k1; rw [if_neg (by omega),if_neg (by omega),if_pos e]
   rw [e,show outW L Z [r.said] (wyS 2) x=([r.said]++[Str.ofString "bye"],none) by unfold outW; rw [if_neg (by decide +kernel),if_neg (by decide +kernel),if_pos (show wyS 2=Str.ofString "leave" from rfl)]]
   refine mid ([Str.ofString "bye"],none) _ hk ?_
   have s1:stAt kb (2+2*Z+j,1)=some .leave:=a62 hb (by rw [hk]; rfl)
   have hl:lpF kb (f+4) (2+2*Z+j)=some 1:=by
    show lpF kb (f+3+1) _=_
    simp only [lpF,hb,h.h1,Bool.false_eq_true,if_false,if_true]
   have s2:stAt kb (0,1)=some (.say "bye"):=a62 h.h0 rfl
   have g0:goF kb (bs22 Z) 1 none [] [(x:Int)]=some ([],none):=rfl
   have g1:goF kb (bs22 Z) 2 (some (0,1)) [] [(x:Int)]=some ([Str.ofString "bye"]++[],none):=a68 (o:=some (0,1)) (o2:=none) (stk2:=[]) (ws2:=[(x:Int)]) rfl s2 (by
    show (setF kb (tfu kb) (some (0,2))).map _=_
    rw [hf,set2 h.h0 (by simp)]
    rfl) g0
   exact ar6 (a68 (n:=2) (o:=some (2+2*Z+j,1)) (sd:=[]) (o2:=some (0,1)) (stk2:=[]) (ws2:=[(x:Int)]) rfl s1 (by
    show (match some [],(match lpF kb (tfu kb) (2+2*Z+j) with | none=>none | some i=>(kb[i]?).map (·.bh)) with | some stk2,some w=>(setF kb (tfu kb) w).map fun o=>StO.go [] o stk2 _ | _,_=>none)=_
    rw [hf,hl]
    show (match some [],(kb[1]?).map (·.bh) with | some stk2,some w=>(setF kb (f+4) w).map fun o=>StO.go [] o stk2 _ | _,_=>none)=_
    rw [h.h1]
    show (setF kb (f+4) (some (0,1))).map _=_
    rw [K22.set1 h.h0 (by simp)]
    rfl) g1) (by omega)
 · have hk:r.k1=[.stop]:=by unfold Rw.k1; rw [if_neg (by omega),if_neg (by omega),if_neg (by omega)]
   rw [e,show outW L Z [r.said] (wyS 3) x=([r.said]++[],none) by unfold outW; rw [if_neg (by decide +kernel),if_neg (by decide +kernel),if_neg (by decide +kernel)]; rfl]
   refine mid ([],none) _ hk ?_
   have s1:stAt kb (2+2*Z+j,1)=some .stop:=a62 hb (by rw [hk]; rfl)
   exact b65 (o:=some (2+2*Z+j,1)) rfl s1 rfl
end
theorem b68 {rs:List Rw}{m:Nat}{e:Tr}:(fndR rs e=none→fndB (brsK m (rs.map Rw.br)) e=none)∧∀ r,fndR rs e=some r→∃ j,rs[j]?=some r∧fndB (brsK m (rs.map Rw.br)) e=some (m+j,0):=by
 have hg:∀ j,(brsK m (rs.map Rw.br))[j]?=(rs[j]?).map fun r=>(r.p,(m+j,0)):=fun j=>by
  unfold brsK
  rw [List.getElem?_mapIdx,List.getElem?_map,Option.map_map]
  rfl
 constructor
 · intro h
   unfold fndB
   rw [show (brsK m (rs.map Rw.br)).find? (fun b=>decide (patK b.1=e))=none from List.find?_eq_none.mpr fun b hb=>?_]
   · rfl
   obtain ⟨j,hj⟩:=List.mem_iff_getElem?.mp hb
   rw [hg] at hj
   obtain ⟨r,hr,rfl⟩:=Option.map_eq_some_iff.mp hj
   exact List.find?_eq_none.mp h r (List.mem_of_getElem? hr)
 · intro r h
   unfold fndR at h
   rw [List.find?_eq_some_iff_getElem] at h
   obtain ⟨hp,j,hj,hrj,hlt⟩:=h
   refine ⟨j,by rw [List.getElem?_eq_getElem hj,hrj],?_⟩
   unfold fndB
   have hl:j<(brsK m (rs.map Rw.br)).length:=by unfold brsK; simpa using hj
   have hb:(brsK m (rs.map Rw.br))[j]=(r.p,(m+j,0)):=by
    have:=hg j
    rw [List.getElem?_eq_getElem hl,List.getElem?_eq_getElem hj,hrj] at this
    exact Option.some.inj this
   rw [show (brsK m (rs.map Rw.br)).find? (fun b=>decide (patK b.1=e))=some (r.p,(m+j,0)) from List.find?_eq_some_iff_getElem.mpr ⟨hp,j,hl,hb,fun i hi=>?_⟩]
   · rfl
   have h1:=hlt i hi
   have hi2:i<(brsK m (rs.map Rw.br)).length:=by omega
   have hb2:(brsK m (rs.map Rw.br))[i]=((rs[i]'(by omega)).p,(m+i,0)):=by
    have:=hg i
    rw [List.getElem?_eq_getElem hi2,List.getElem?_eq_getElem (show i<rs.length by omega)] at this
    exact Option.some.inj this
   rw [hb2]
   exact h1
theorem bc6 {rs:List Rw}(hok:∀ r∈rs,RwOk r):fndR rs (.tup [.str "quiet"])=none:=by
 refine List.find?_eq_none.mpr fun r hr=>?_
 simp only [decide_eq_true_eq]
 rcases (hok r hr).p with ⟨k,e⟩ | ⟨w,e⟩ | e | e <;> rw [e] <;> intro z
 · simp only [patK,List.map_cons,List.map_nil,Pt.tr,Tr.tup.injEq,List.cons.injEq] at z
   exact absurd z.2 (by simp)
 · simp only [patK,List.map_cons,List.map_nil,Pt.tr,Tr.tup.injEq,List.cons.injEq] at z
   exact absurd z.2 (by simp)
 · simp only [patK,List.map_cons,List.map_nil,Pt.tr,Tr.tup.injEq,List.cons.injEq,Tr.str.injEq] at z
   exact absurd z.1 (by decide +kernel)
 · simp only [patK,List.map_cons,List.map_nil,Pt.tr,Tr.tup.injEq,List.cons.injEq,Tr.str.injEq] at z
   exact absurd z.1 (by decide +kernel)
theorem bz2 {rs:List Rw}{m:Nat}{e:Tr}(hok:∀ r∈rs,RwOk r):(rowF rs e=none→weF (brsK m (rs.map Rw.br)) e=none)∧∀ r,rowF rs e=some r→∃ j,rs[j]?=some r∧weF (brsK m (rs.map Rw.br)) e=some (m+j,0):=by
 obtain ⟨a1,a2⟩:=b68 (rs:=rs) (m:=m) (e:=e)
 obtain ⟨b1,b2⟩:=b68 (rs:=rs) (m:=m) (e:=.tup [.str "other"])
 by_cases hq:e=.tup [.str "quiet"]
 · subst hq
   have r0:rowF rs (.tup [.str "quiet"])=none:=by unfold rowF; rw [bc6 hok]; simp
   have w0:weF (brsK m (rs.map Rw.br)) (.tup [.str "quiet"])=none:=by unfold weF; rw [if_pos rfl]
   rw [r0,w0]
   exact ⟨fun _=>rfl,fun r h=>(by cases h)⟩
 · cases hf:fndR rs e with
   | some r =>
     obtain ⟨j,h1,h2⟩:=a2 r hf
     have r1:rowF rs e=some r:=by unfold rowF; rw [hf]
     have w1:weF (brsK m (rs.map Rw.br)) e=some (m+j,0):=by unfold weF; rw [if_neg hq,h2]
     rw [r1,w1]
     exact ⟨fun h=>(by cases h),fun r' h=>(by cases h; exact ⟨j,h1,rfl⟩)⟩
   | none =>
     have r1:rowF rs e=fndR rs (.tup [.str "other"]):=by unfold rowF; rw [hf]; simp only [if_neg hq]
     have w1:weF (brsK m (rs.map Rw.br)) e=fndB (brsK m (rs.map Rw.br)) (.tup [.str "other"]):=by unfold weF; rw [if_neg hq,a1 hf]
     rw [r1,w1]
     exact ⟨b1,b2⟩
structure LS (L Z gone:Nat) (left:Int) (over:Bool) (r:Option Std):Prop where
 o:over=true→r=none
 g:over=false→∃ l:Int,r=some ((1,Z+1),[],[((gone % Z:Nat):Int)],l)∧(L=0→l=0)∧(0<L→l=left∧1≤left)
def a93 (way:Str):List Str:=if way=Str.ofString "on" then ["on"] else if way=Str.ofString "leave" then ["bye"] else []
def isG (way:Str):Bool:=decide (way=Str.ofString "on") || decide (way=Str.ofString "again")
def isO (way:Str):Bool:=decide (way=Str.ofString "leave") || decide (way=Str.ofString "stop")
theorem au8 {L Z gone:Nat}{said:List Str}{w:Nat}(hw:w<4) (hZ:0<Z):outW L Z said (wyS w) (gone % Z)=(said++a93 (wyS w)++(if isG (wyS w) then [rndS (gone % Z)] else []),(outW L Z said (wyS w) (gone % Z)).2)∧LS L Z (if isG (wyS w) then gone+1 else gone) (L:Int) (isO (wyS w)) (outW L Z said (wyS w) (gone % Z)).2:=by
 have hs:a92 L Z (gone % Z)=some ((1,Z+1),[],[(((gone+1) % Z:Nat):Int)],(L:Int)):=by
  unfold a92
  rw [show (gone % Z+1) % Z=(gone+1) % Z by rw [Nat.add_mod,Nat.mod_mod,←Nat.add_mod]]
 have lg:∀ b,b=false→LS L Z (gone+1) (L:Int) b (a92 L Z (gone % Z)):=fun b hb=>⟨fun z=>(by rw [hb] at z; cases z),fun _=>⟨L,hs,fun z=>by omega,fun z=>⟨rfl,by omega⟩⟩⟩
 have lo:∀ g b,b=true→LS L Z g (L:Int) b none:=fun g b hb=>⟨fun _=>rfl,fun z=>by rw [hb] at z; cases z⟩
 have:w=0∨w=1∨w=2∨w=3:=by omega
 rcases this with rfl | rfl | rfl | rfl
 · have e:outW L Z said (wyS 0) (gone % Z)=(said++[Str.ofString "on",rndS (gone % Z)],a92 L Z (gone % Z)):=by unfold outW; rw [if_pos (show wyS 0=Str.ofString "on" from rfl)]
   have e2:isG (wyS 0)=true:=by decide +kernel
   have e3:a93 (wyS 0)=[Str.ofString "on"]:=by unfold a93; rw [if_pos (show wyS 0=Str.ofString "on" from rfl)]
   rw [e,e2,e3]
   exact ⟨by simp,by simpa using lg _ (by decide +kernel)⟩
 · have e:outW L Z said (wyS 1) (gone % Z)=(said++[rndS (gone % Z)],a92 L Z (gone % Z)):=by unfold outW; rw [if_neg (by decide +kernel),if_pos (show wyS 1=Str.ofString "again" from rfl)]
   have e2:isG (wyS 1)=true:=by decide +kernel
   have e3:a93 (wyS 1)=[]:=by unfold a93; rw [if_neg (by decide +kernel),if_neg (by decide +kernel)]
   rw [e,e2,e3]
   exact ⟨by simp,by simpa using lg _ (by decide +kernel)⟩
 · have e:outW L Z said (wyS 2) (gone % Z)=(said++[Str.ofString "bye"],none):=by unfold outW; rw [if_neg (by decide +kernel),if_neg (by decide +kernel),if_pos (show wyS 2=Str.ofString "leave" from rfl)]
   have e2:isG (wyS 2)=false:=by decide +kernel
   have e3:a93 (wyS 2)=[Str.ofString "bye"]:=by unfold a93; rw [if_neg (by decide +kernel),if_pos (show wyS 2=Str.ofString "leave" from rfl)]
   rw [e,e2,e3]
   exact ⟨by simp,by simpa using lo _ _ (by decide +kernel)⟩
 · have e:outW L Z said (wyS 3) (gone % Z)=(said,none):=by unfold outW; rw [if_neg (by decide +kernel),if_neg (by decide +kernel),if_neg (by decide +kernel)]
   have e2:isG (wyS 3)=false:=by decide +kernel
   have e3:a93 (wyS 3)=[]:=by unfold a93; rw [if_neg (by decide +kernel),if_neg (by decide +kernel)]
   rw [e,e2,e3]
   exact ⟨by simp,by simpa using lo _ _ (by decide +kernel)⟩
theorem bc7 {kb:List KB}{L Z gone:Nat}{rs:List Rw}{left:Int}{r:Option Std}{e:Tr}(h:KbF kb L Z rs) (hok:∀ r∈rs,RwOk r) (hZ:0<Z) (hl:LS L Z gone left false r):∃ r',ar1 kb (bs22 Z) (2*Z+5) r e=some ((a53 rs L left e).1++a93 (a53 rs L left e).2.1++(if isG (a53 rs L left e).2.1 then [rndS (gone % Z)] else []),r')∧LS L Z (if isG (a53 rs L left e).2.1 then gone+1 else gone) (a53 rs L left e).2.2 (isO (a53 rs L left e).2.1) r':=by
 obtain ⟨l,rfl,hl0,hl1⟩:=hl.g rfl
 have hx:gone % Z<Z:=Nat.mod_lt _ hZ
 have s2:stAt kb (1,Z+1)=some (.wait (L:Int) (br22 Z rs) (w22 Z rs)):=a62 h.h1 (bc5 (i:=1))
 obtain ⟨w1,w2⟩:=bz2 (rs:=rs) (m:=2+2*Z) (e:=e) hok
 simp only [ar1,s2]
 cases hr:rowF rs e with
 | some r =>
   obtain ⟨j,hj,hw⟩:=w2 r hr
   have ht:a53 rs L left e=([r.said],wyS r.way,(L:Int)):=by unfold a53; rw [hr]
   rw [show weF (br22 Z rs) e=some (2+2*Z+j,0) from hw,ht]
   simp only
   rw [bz1 h hok hj hx]
   obtain ⟨o1,o2⟩:=au8 (L:=L) (gone:=gone) (said:=[r.said]) (hok r (List.mem_of_getElem? hj)).way hZ
   exact ⟨_,by rw [← o1],o2⟩
 | none =>
   rw [show weF (br22 Z rs) e=none from w1 hr]
   simp only
   by_cases hc:L=0∨1<left
   · have ht:a53 rs L left e=([],Str.ofString "rest",left - 1):=by unfold a53; rw [hr]; simp only [if_pos hc]
     rw [ht]
     have e1:isG (Str.ofString "rest")=false:=by decide +kernel
     have e2:isO (Str.ofString "rest")=false:=by decide +kernel
     have e3:a93 (Str.ofString "rest")=[]:=by unfold a93; rw [if_neg (by decide +kernel),if_neg (by decide +kernel)]
     simp only [e1,e2,e3,Bool.false_eq_true,if_false,List.append_nil]
     by_cases hL:L=0
     · have hz:=hl0 hL
       subst hz
       refine ⟨some ((1,Z+1),[],[((gone % Z:Nat):Int)],0),?_,fun z=>(by cases z),fun _=>⟨0,rfl,fun _=>rfl,fun z=>by omega⟩⟩
       simp [ae5]
     · obtain ⟨rfl,h1⟩:=hl1 (by omega)
       have h2:1<l:=by rcases hc with z | z; exact absurd z hL; exact z
       refine ⟨some ((1,Z+1),[],[((gone % Z:Nat):Int)],l - 1),?_,fun z=>(by cases z),fun _=>⟨l - 1,rfl,fun z=>absurd z hL,fun z=>⟨rfl,by omega⟩⟩⟩
       have r1:l≠0:=by omega
       have r2:l≠1:=by omega
       simp [ae5,r1,r2]
   · have hL:0<L:=by rcases Nat.eq_zero_or_pos L with z | z; exact absurd (.inl z) hc; exact z
     obtain ⟨rfl,h1⟩:=hl1 hL
     have hl2:l=1:=by have:¬ 1<l:=fun z=>hc (.inr z); omega
     subst hl2
     have hre:ae5 ((1,Z+1),[],[((gone % Z:Nat):Int)],1)=none:=by simp [ae5]
     rw [hre]
     simp only
     obtain ⟨n1,n2⟩:=b68 (rs:=rs) (m:=2+2*Z) (e:=.tup [.str "none"])
     cases hf:fndR rs (.tup [.str "none"]) with
     | none =>
       have ht:a53 rs L 1 e=([],Str.ofString "on",(L:Int)):=by unfold a53; rw [hr]; simp only [if_neg hc,hf]
       have hw:w22 Z rs=(1,Z+2):=by
        unfold w22
        rw [show fndT (br22 Z rs) (.tup [.str "none"])=none from n1 hf]
        rfl
       obtain ⟨f,hfu⟩:=h.fu
       rw [ht,hw]
       have hg:tgoF kb (bs22 Z) (2*Z+5) (some (1,Z+2)) [] [((gone % Z:Nat):Int)]=some (outW L Z [] (wyS 0) (gone % Z)):=by
        unfold tgoF
        rw [hfu,h.set1 (by omega),show outW L Z [] (wyS 0) (gone % Z)=([Str.ofString "on",rndS (gone % Z)],a92 L Z (gone % Z)) by unfold outW; rw [if_pos (show wyS 0=Str.ofString "on" from rfl)]; rfl]
        exact ar6 (g_on h hx) (by omega)
       rw [hg]
       obtain ⟨o1,o2⟩:=au8 (L:=L) (gone:=gone) (said:=[]) (w:=0) (by decide) hZ
       exact ⟨_,by rw [← show wyS 0=Str.ofString "on" from rfl,←o1],o2⟩
     | some r =>
       obtain ⟨j,hj,hw'⟩:=n2 r hf
       have ht:a53 rs L 1 e=([r.said],wyS r.way,(L:Int)):=by unfold a53; rw [hr]; simp only [if_neg hc,hf]
       have hw:w22 Z rs=(2+2*Z+j,0):=by
        unfold w22
        rw [show fndT (br22 Z rs) (.tup [.str "none"])=some (2+2*Z+j,0) from hw']
        rfl
       rw [ht,hw,bz1 h hok hj hx]
       obtain ⟨o1,o2⟩:=au8 (L:=L) (gone:=gone) (said:=[r.said]) (hok r (List.mem_of_getElem? hj)).way hZ
       exact ⟨_,by rw [← o1],o2⟩
theorem c51 {kb:List KB}{L Z:Nat}{rs:List Rw}(h:KbF kb L Z rs) (hok:∀ r∈rs,RwOk r) (hZ0:0<Z) (hZ:Z≤5) (hr:rs.length≤4):KOk (bs22 Z) kb:=by
 have nm:(bs22 Z).map (·.1)=[Str.ofString "n"]:=rfl
 have all:∀ b∈kb,(∀ s∈b.st,s.ok [Str.ofString "n"])∧b.st.length≤100000:=fun b hb=>by
  obtain ⟨j,hj⟩:=List.mem_iff_getElem?.mp hb
  have hjl:=(List.getElem?_eq_some_iff.mp hj).1
  rw [h.len] at hjl
  have cases5:j=0∨j=1∨(∃ k,k<Z∧(j=2+2*k∨j=3+2*k))∨∃ i,i<rs.length∧j=2+2*Z+i:=by
   by_cases h0:j=0
   · exact .inl h0
   by_cases h1:j=1
   · exact .inr (.inl h1)
   by_cases h2:j<2+2*Z
   · exact .inr (.inr (.inl ⟨(j - 2) / 2,by omega,by omega⟩))
   · exact .inr (.inr (.inr ⟨j - (2+2*Z),by omega,by omega⟩))
  have rl:∀ k,k<5→(rndS k).length≤100:=by decide +kernel
  rcases cases5 with rfl | rfl | ⟨k,hk,rfl | rfl⟩ | ⟨i,hi,rfl⟩
  · rw [h.h0] at hj
    obtain rfl:=Option.some.inj hj
    refine ⟨fun s hs=>?_,by simp⟩
    simp only [List.mem_cons,List.not_mem_nil,or_false] at hs
    rcases hs with rfl | rfl
    · trivial
    · show (Str.ofString "bye").length≤100
      decide +kernel
  · rw [h.h1] at hj
    obtain rfl:=Option.some.inj hj
    refine ⟨fun s hs=>?_,by show (ac2 L Z rs).length≤_; rw [au6]; omega⟩
    unfold ac2 at hs
    rcases List.mem_append.mp hs with z | z
    · obtain ⟨k,hk,rfl⟩:=List.mem_map.mp z
      have hk:=List.mem_range.mp hk
      refine ⟨⟨⟨?_,?_⟩,?_,?_⟩,?_⟩
      · simp [Ex.ok]
      · simp [Ex.h]
      · simp only [Ex.ok]
        omega
      · simp [Ex.h]
      · simp [cdS,Cd.h]
    · simp only [List.mem_cons,List.not_mem_nil,or_false] at z
      rcases z with rfl | rfl | rfl
      · refine ⟨?_,by simp [Ex.h]⟩
        simp [Ex.ok]
      · refine ⟨by omega,?_⟩
        unfold br22 brsK
        simp
        omega
      · show (Str.ofString "on").length≤100
        decide +kernel
  · rw [(h.ht k hk).1] at hj
    obtain rfl:=Option.some.inj hj
    exact ⟨fun s hs=>by rw [List.mem_singleton.mp hs]; exact rl k (by omega),by simp⟩
  · rw [(h.ht k hk).2] at hj
    obtain rfl:=Option.some.inj hj
    exact ⟨fun s hs=>by simp at hs,by simp⟩
  · have hri:rs[i]?=some rs[i]:=List.getElem?_eq_getElem hi
    have hrk:=hok _ (List.getElem_mem hi)
    rw [h.hb i _ hri] at hj
    obtain rfl:=Option.some.inj hj
    refine ⟨fun s hs=>?_,?_⟩
    · rcases List.mem_cons.mp hs with z | z
      · rw [z]
        unfold Rw.k0
        cases hl:rs[i].ln with
        | none =>
          show rs[i].said.length≤100
          unfold Rw.said
          rw [hl]
          cases rs[i].bb <;> decide +kernel
        | some l =>
          have:=hrk.ln l hl
          exact ⟨by omega,by omega,by decide +kernel⟩
      · unfold Rw.k1 at z
        split at z
        · simp at z
        · rw [List.mem_singleton.mp z]
          split
          · trivial
          · split <;> trivial
    · simp only [List.length_cons,Rw.k1]
      split <;> simp
 refine ⟨fun b hb=>by rw [nm]; exact (all b hb).1,fun b hb=>?_,by simp,by rw [h.len]; omega,fun b hb=>(all b hb).2⟩
 rw [List.mem_singleton.mp hb]
 exact ⟨by simp; omega,by simp; omega⟩
theorem aw8 {H:Hp}:∀ sd:List Str,Tr.Ats H (sd.map Tr.str) (a31 sd) []
 | []=>by simp [Tr.Ats,a31]
 | x::sd=>ats_cons0.mpr ⟨_,_,rfl,a28,aw8 sd⟩
theorem bn1 {H:Hp}{v:V}{sd:List Str}(h:aw5 H v sd):∃ fs,(Tr.lst (sd.map Tr.str)).At H v fs:=by
 obtain ⟨a,rfl,e⟩:=h
 refine ⟨[a],?_⟩
 rw [Tr.At]
 exact ⟨a,_,[],rfl,e,aw8 sd,rfl⟩
theorem b69:∀ sd:List Str,Tr.hs (sd.map Tr.str)=0
 | []=>rfl
 | x::sd=>by simp [Tr.hs,Tr.h,b69 sd]
theorem b70:∀ sds:List (List Str),Tr.hs (sds.map fun sd=>Tr.lst (sd.map Tr.str))≤60
 | []=>by simp [Tr.hs]
 | x::sds=>by
   have:=b70 sds
   simp only [List.map_cons,Tr.hs,Tr.h,b69]
   omega
theorem aw9 {H:Hp}{l:Addr}{us:List V}{sds:List (List Str)}(e:H l=some (.lst us)) (h:Each (aw5 H) us sds):∃ fs,(Tr.lst (sds.map fun sd=>Tr.lst (sd.map Tr.str))).At H (.ref l) fs:=by
 obtain ⟨fs,h1⟩:=ag0 (f:=fun sd=>Tr.lst (sd.map Tr.str)) (fun v x z=>bn1 z) h
 refine ⟨l::fs,?_⟩
 rw [Tr.At]
 exact ⟨l,us,fs,rfl,e,h1,rfl⟩
theorem bn2 {ns:List Int}{lo hi:Option Int}{i:Nat}{x:V}(h:(cutV (ns.map V.int) lo hi)[i]?=some x):∃ z,x=.int z:=by
 obtain ⟨z,_,hz⟩:=List.mem_map.mp (au4 (List.mem_of_getElem? h))
 exact ⟨z,hz.symm⟩
def EvH (H:Hp) (v:V) (e:Tr):Prop:=(∃ ts,e=.tup ts)∧e.At H v []∧e.h≤5
theorem EvH.same {H H':Hp}{v:V}{e:Tr}(h:EvH H v e) (s:Same H H'):EvH H' v e:=⟨h.1,h.2.1.same s,h.2.2⟩
theorem bf5 {x:Nat}(h:x<5):∃ c,atI (Str.ofString "xyzuv").cps.toList (x:Int)=some c∧Str.ofString "round"++(⟨#[c]⟩:Str)=rndS x:=by
 have:x=0∨x=1∨x=2∨x=3∨x=4:=by omega
 rcases this with rfl | rfl | rfl | rfl | rfl
 · exact ⟨120,by decide +kernel,by decide +kernel⟩
 · exact ⟨121,by decide +kernel,by decide +kernel⟩
 · exact ⟨122,by decide +kernel,by decide +kernel⟩
 · exact ⟨117,by decide +kernel,by decide +kernel⟩
 · exact ⟨118,by decide +kernel,by decide +kernel⟩
theorem bc8 {rs:List Rw}{L:Nat}{left:Int}{e:Tr}:(a53 rs L left e).1.length≤1:=by
 unfold a53
 split
 · simp
 · split
   · simp
   · split <;> simp
theorem bc9 {σ:St} {H:Hp}{Q:VK}(h:∀ q1 q2 p H',Same H H'→H' q1=some (.lst [.str "on"])→H' q2=some (.lst [.str "bye"])→H' p=some (.dK [(Sum.inr (Str.ofString "on"),.ref q1),(Sum.inr (Str.ofString "leave"),.ref q2)])→Q (.ref p) H'):br5 [(tC (.str "on"),b87 (tCons (tC (.str "on")) tNil)),(tC (.str "leave"),b87 (tCons (tC (.str "bye")) tNil))] σ H Q:=by
 intro p hp
 have sl:(1000000:Nat)≤sizeLine:=le_line (Nat.le_refl _)
 refine ⟨by simp; omega,?_⟩
 intro q1 H1 f1 s1 e1
 refine ⟨by simp; omega,?_⟩
 intro q2 H2 f2 s2 e2
 have ep:=s2 _ _ (s1 p _ a19)
 have n1:q1≠p:=fun z=>by rw [z,a19] at f1; cases f1
 have n2:q2≠p:=fun z=>by rw [z,s1 p _ a19] at f2; cases f2
 refine ⟨ep,[(Sum.inr (Str.ofString "on"),.ref q1),(Sum.inr (Str.ofString "leave"),.ref q2)],rfl,by simp,?_⟩
 refine h q1 q2 p _ ?_ (by rw [a14 n1]; exact s2 _ _ e1) (by rw [a14 n2]; exact e2) (by rw [a19]; rfl)
 exact ((Same.new hp).trans (s1.trans s2)).updNew hp
theorem c52 {H:Hp}{p q1 q2 pz:Addr}{way:Str}(e:H p=some (.dK [(Sum.inr (Str.ofString "on"),.ref q1),(Sum.inr (Str.ofString "leave"),.ref q2)])) (e1:H q1=some (.lst [.str "on"])) (e2:H q2=some (.lst [.str "bye"])) (ez:H pz=some (.lst [])):∃ o b,DGet H p (.str way) o∧o.getD (.ref pz)=.ref b∧H b=some (.lst (a31 (a93 way))):=by
 unfold a93
 by_cases h1:way=Str.ofString "on"
 · refine ⟨_,q1,.inl ⟨_,Sum.inr way,.inl e,rfl,rfl⟩,?_,?_⟩
   · rw [af7 (by rw [h1])]
     rfl
   · rw [if_pos h1]
     exact e1
 · rw [if_neg h1]
   by_cases h2:way=Str.ofString "leave"
   · refine ⟨_,q2,.inl ⟨_,Sum.inr way,.inl e,rfl,rfl⟩,?_,?_⟩
     · rw [ad0 (fun z=>h1 (Sum.inr.inj z).symm),af7 (by rw [h2])]
       rfl
     · rw [if_pos h2]
       exact e2
   · refine ⟨_,pz,.inl ⟨_,Sum.inr way,.inl e,rfl,rfl⟩,?_,?_⟩
     · rw [ad0 (fun z=>h1 (Sum.inr.inj z).symm),ad0 (fun z=>h2 (Sum.inr.inj z).symm)]
       rfl
     · rw [if_neg h2]
       exact ez
theorem bz3 (T:Txt K mg t):FnOk P w K mg base CX0 20 t.a_law t.fd_law ["script"] (ap0 K):=by
 have G_Teller___init__:=ad4 (P:=P) (w:=w) (base:=base) T
 have G__law_event:=ar4 (P:=P) (w:=w) (base:=base) T
 have G__law_script:=am9 (P:=P) (w:=w) (base:=base) T
 have G__law_turn:=au5 (P:=P) (w:=w) (base:=base) T
 have G_run:=by2 (P:=P) (w:=w) (base:=base) T
 refine T.f_law.F.ok sc_law (fun vs H Q E h=>?_) (fun cdv A outer s H vs Q E hr h=>?_)
 · obtain ⟨a,ns,rfl,_⟩:=h
   rfl
 · obtain ⟨a,ns,rfl,hS,hnl,q⟩:=h
   refine ⟨_,(@a01 _ _ _ _ _ (@aj1 _ _ _ _ _ _ (@a26 _ _ _ _ _ _ _ _ _ _ _ _ _ _ _ _ G__law_script (hr.mono (by omega)) rfl T.f__law_script.m T.f__law_script.F.kp T.f__law_script.b .nil a30 (@a00 _ _ _ _ _ (pv 0) (@a02 _) (by rfl)) (by decide) (by rfl) (by rfl)) (ad9 K (n:=4) rfl (a21 (a17 (i:=1) sc_law.nd rfl (by walk_at "o")) (a21 (a17 (i:=2) sc_law.nd rfl (by walk_at "o")) (a21 (a17 (i:=3) sc_law.nd rfl (by walk_at "o")) (a21 (a17 (i:=4) sc_law.nd rfl (by walk_at "o")) (@a50 _)))))) (by rfl) (by rfl) (by rfl))
    (@a01 _ _ _ _ _ (as8 (i:=5) (Nt:=["cell"]) (Nf:=["rows"]) (caps:=[1]) rfl (a56 (sc:=a08 bh2) rfl rfl (by decide +kernel) (by decide +kernel) (by decide +kernel) rfl (by decide +kernel)) (a40 K (@a70 _ _ _ _ _ _ _ _ _ _ (ab3 K) (pv 0) (@a84 _ _ _ (@a03 _ _ _ _)) (@a84 _ _ _ (@a03 _ _ _ _)))) (fun _ _ _ _ _=>(a17 (i:=0) (show (["cell","rows"]:List Str).Nodup by decide +kernel) rfl (by walk_at "o"))) (fun _ _ _ _ _=>(@a67 _)) (fun _ _ _ _ _=>(@a26 _ _ _ _ _ _ _ _ _ _ _ _ _ _ _ _ G__law_event (hr.mono (by omega)) rfl T.f__law_event.m T.f__law_event.F.kp T.f__law_event.b .nil a30 (@a00 _ _ _ _ _ (pv 0) (@a00 _ _ _ _ _ (pv 1) (@a02 _) (by rfl)) (by rfl)) (by decide) (by rfl) (by rfl))) sc_law.nd rfl (by walk_at "o") rfl)
    (@a01 _ _ _ _ _ (@a18 _ _ 6 _ _ _ _ sc_law.nd rfl (by walk_at "o") (@a23 _ _ _ _ (@a00 _ _ _ _ _ (@a23 _ _ _ _ (@a00 _ _ _ _ _ (@a34 _ _ _ _ _ _ _ _ a37 (@a06 _ _ _ _) (@a22 _ _ _ _ _ _ _ (al0 K) (@a06 _ _ _ _) (@a03 _ _ _ _) (fun _ _=>rfl))) (@a02 _) (by rfl))) (@a02 _) (by rfl))) (by rfl) (by walk_at "o"))
    (@a01 _ _ _ _ _ (@a18 _ _ 7 _ _ _ _ sc_law.nd rfl (by walk_at "o") (@a03 _ _ _ _) (by rfl) (by walk_at "o"))
    (@a01 _ _ _ _ _ (@a18 _ _ 8 _ _ _ _ sc_law.nd rfl (by walk_at "o") (pv 2) (by rfl) (by walk_at "o"))
    (@a01 _ _ _ _ _ (@a18 _ _ 9 _ _ _ _ sc_law.nd rfl (by walk_at "o") (@bn8 _ _ _ _) (by rfl) (by walk_at "o"))
    (@a01 _ _ _ _ _ (@ac8 _ _ _ _ _ _ _ _ PassesOwn.never rfl (a40 K (pv 5)) (a17 (i:=10) sc_law.nd rfl (by walk_at "o")) (@a01 _ _ _ _ _ (@a36 _ _ _ _ _ _ _ _ (al2 K (pv 9) (fun _=>rfl)) (@a01 _ _ _ _ _ (@a49 _ _ _ _ (@a64 _ K _ _ _ _ _ _ _ _ _ _ _ PySem.F.plainAttrs_list PySem.F.slot_list_append PySem.F.type_list_append a43 (pv 6) (@a00 _ _ _ _ _ (@a23 _ _ _ _ (@a02 _)) (@a02 _) (by rfl)) (by rfl) (by rfl) (by rfl) (by rfl) (by rfl) (by rfl)) (by rfl))
     (@a04 _ _ _ (@as2 _ _))) (@a20 _))
     (@a01 _ _ _ _ _ (@aj1 _ _ _ _ _ _ (@a26 _ _ _ _ _ _ _ _ _ _ _ _ _ _ _ _ G__law_turn (hr.mono (by omega)) rfl T.f__law_turn.m T.f__law_turn.F.kp T.f__law_turn.b .nil a30 (@a00 _ _ _ _ _ (pv 1) (@a00 _ _ _ _ _ (pv 2) (@a00 _ _ _ _ _ (pv 8) (@a00 _ _ _ _ _ (pv 10) (@a02 _) (by rfl)) (by rfl)) (by rfl)) (by rfl)) (by decide) (by rfl) (by rfl)) (ad9 K (n:=3) rfl (a21 (a17 (i:=11) sc_law.nd rfl (by walk_at "o")) (a21 (a17 (i:=12) sc_law.nd rfl (by walk_at "o")) (a21 (a17 (i:=8) sc_law.nd rfl (by walk_at "o")) (@a50 _))))) (by rfl) (by rfl) (by rfl))
     (@a01 _ _ _ _ _ (@a18 _ _ 13 _ _ _ _ sc_law.nd rfl (by walk_at "o") (@bh8 _ _ _ _ _ (@av1 _ _ _ _ _ _ _ _ _ (@a06 _ _ _ _) (@a23 _ _ _ _ (@a00 _ _ _ _ _ (@a06 _ _ _ _) (@a02 _) (by rfl))) (@av1 _ _ _ _ _ _ _ _ _ (@a06 _ _ _ _) (@a23 _ _ _ _ (@a00 _ _ _ _ _ (@a06 _ _ _ _) (@a02 _) (by rfl))) (@bh7 _ _))) rfl rfl (by simp) (by decide)) (by rfl) (by walk_at "o"))
     (@a01 _ _ _ _ _ (@a18 _ _ 11 _ _ _ _ sc_law.nd rfl (by walk_at "o") (@a34 _ _ _ _ _ _ _ _ a37 (pv 11) (b86 (by exact c00 hr) (pv 13) (pv 12) (@a23 _ _ _ _ (@a02 _)) ⟨by rfl,by rfl,by rfl,by rfl⟩)) (by rfl) (by walk_at "o"))
     (@a48 _ _ _ _ _ (@a36 _ _ _ _ _ _ _ _ (@ah2 _ _ _ (@PW.pt _ _ _ (@az8 _ _ _ _ _ _ _ (@a12 _ _ _ _ _ _ _ _ a41 (pv 12) (@a06 _ _ _ _) (nomark _)) (@an3 _ _ _ _ (@a12 _ _ _ _ _ _ _ _ a41 (pv 12) (@a06 _ _ _ _) (nomark _)))))) (@a01 _ _ _ _ _ (@a49 _ _ _ _ (@a64 _ K _ _ _ _ _ _ _ _ _ _ _ PySem.F.plainAttrs_list PySem.F.slot_list_append PySem.F.type_list_append a43 (pv 11) (@a00 _ _ _ _ _ (@a34 _ _ _ _ _ _ _ _ a37 (@a06 _ _ _ _) (@a22 _ _ _ _ _ _ _ (al0 K) (@a06 _ _ _ _) (@a34 _ _ _ _ _ _ _ _ a75 (pv 7) (pv 3)) (fun _ _=>rfl))) (@a02 _) (by rfl)) (by rfl) (by rfl) (by rfl) (by rfl) (by rfl) (by rfl)) (by rfl))
      (@a04 _ _ _ (@a18 _ _ 7 _ _ _ _ sc_law.nd rfl (by walk_at "o") (@a34 _ _ _ _ _ _ _ _ a37 (pv 7) (@a03 _ _ _ _)) (by rfl) (by walk_at "o")))) (@a20 _))
     (@a01 _ _ _ _ _ (@a18 _ _ 9 _ _ _ _ sc_law.nd rfl (by walk_at "o") (@bz4 _ _ _ _ _ _ _ (@ad6 _ _ _ _ _ _ _ _ a41 (pv 12) (@a06 _ _ _ _) (nomark _)) (@bd0 _ _ _ _ _ (@ad6 _ _ _ _ _ _ _ _ a41 (pv 12) (@a06 _ _ _ _) (nomark _)))) (by rfl) (by walk_at "o"))
     (@a04 _ _ _ (@a49 _ _ _ _ (@a64 _ K _ _ _ _ _ _ _ _ _ _ _ PySem.F.plainAttrs_list PySem.F.slot_list_append PySem.F.type_list_append a43 (pv 6) (@a00 _ _ _ _ _ (pv 11) (@a02 _) (by rfl)) (by rfl) (by rfl) (by rfl) (by rfl) (by rfl) (by rfl)) (by rfl))))))))) (by intro _; rfl))
    (@a04 _ _ _ (@a16 _ _ _ _ (@ad6 _ _ _ _ _ _ _ _ (ba3 (by exact hr.units)) (@a26 _ _ _ _ _ _ _ _ _ _ _ _ _ _ _ _ G_run (hr.mono (by omega)) rfl T.f_run.m T.f_run.F.kp T.f_run.b .nil a30 (@a00 _ _ _ _ _ (as4 T.mk_Teller G_Teller___init__ (hr.mono (by omega)) rfl T.m_Teller T.f_Teller___init__.b .nil a30 (@a00 _ _ _ _ _ (pv 4) (@a02 _) (by rfl))) (@a00 _ _ _ _ _ (pv 5) (@a02 _) (by rfl)) (by rfl)) (by decide) (by rfl) (by rfl)) (pv 6) (nomark _))))))))))),?_⟩
   have sl:(1000000:Nat)≤sizeLine:=le_line (Nat.le_refl _)
   walk_at "go"
   refine ⟨a,ns,rfl,hS,fun p lr mp rvs rs L Z H1 s1 e1 e2 hE hok hrl hL hZ2 hZ5 hM=>?_⟩
   refine ak4 (SqL.of e1) rfl ?_
   walk_at "run"
   obtain ⟨hkp,hkb⟩:=kb22 L Z rs hok hZ5 hrl
   generalize hkbd:kbL (tsS L Z rs) (2+2*Z+rs.length)=kb at hkb
   have hko:=c51 hkb hok (by omega) hZ5 hrl
   refine ay8 (s1.seq hS) ?_
   intro p2 H2 f2 s2 e3
   walk_at "run"
   have hcl:=a65 (ns.map V.int) (some 4) (some 63)
   rw [List.length_map] at hcl
   refine ⟨⟨_,SqL.of e3⟩,a90 (xs:=cutV (ns.map V.int) (some 4) (some 63)) (by omega) (fun i acc H'=>Same H2 H'∧acc.length=i∧∃ es,Each (EvH H') acc es) ⟨Same.refl _,rfl,[],Each.nil⟩ (fun i acc H' zz=>by obtain ⟨s',h',_⟩:=zz; exact ⟨by omega,SqL.of (s' _ _ e3)⟩) ?_ ?_⟩
   · rintro i x acc H3 hx ⟨s3,hal,es,hes⟩
     obtain ⟨z,rfl⟩:=bn2 hx
     walk_at "run"
     have s23:=s2.trans s3
     exact ⟨z,lr,rvs,rs,rfl,s23 _ _ e2,hE.mono fun _ _ z=>z.same s23,hok,by omega,fun v' ts H4 s4 h4 h5=>⟨s3.trans s4,by simp [hal],es++[.tup ts],(hes.mono fun _ _ z=>z.same s4).snoc ⟨⟨ts,rfl⟩,h4,h5⟩⟩⟩
   rintro evs H3 ⟨s3,hevl,es,hes⟩ le H4 f4 s4 e4
   walk_at "run"
   have hel:es.length≤63:=by have:=hes.1; omega
   have s14:=s2.trans (s3.trans s4)
   obtain ⟨c0,c1,c2⟩:=bf5 (x:=0) (by decide)
   refine b95 (le_line (by decide +kernel)) c1 ?_
   walk_at "run"
   refine al4 (le_line (by rw [av2]; decide +kernel)) ?_
   rw [c2]
   walk_at "run"
   intro p5 H5 f5 s5 e5
   walk_at "run"
   intro ld H6 f6 s6 e6
   walk_at "run"
   have s46:=s5.trans s6
   have fld:H4 ld=none:=s5.free f6
   have hp5:p5≠ld:=fun z=>by rw [← z,e5] at f6; cases f6
   have hes4:=hes.mono fun _ _ z=>EvH.same z s4
   have hE4:=hE.mono fun _ _ z=>RowAt.same z s14
   have hLS0:LS L Z 1 (L:Int) false (a92 L Z 0):=⟨fun z=>(by cases z),fun _=>⟨L,rfl,fun z=>by omega,fun z=>⟨rfl,by omega⟩⟩⟩
   refine ⟨⟨_,SqL.of (s46 _ _ e4)⟩,af5 (K:=K) (a:=le) (xs:=evs) (fun i σ H'=>∃ (dvs:List V) (sds:List (List Str)) (r:Option Std) (gone:Nat) (left:Int) (over:Bool) (y1 y2 y3 y4:Option V),σ=[some (.ref a),some (.ref lr),some (.int (L:Nat)),some (.int (Z:Nat)),some (.ref mp),some (.ref le),some (.ref ld),some (.int (gone:Nat)),some (.int left),some (.bl over),y1,y2,y3,y4]∧Same H4 H'∧H' ld=some (.lst dvs)∧Each (fun v sd=>∃ b,v=.ref b∧b≠ld∧H' b=some (.lst (a31 sd))) dvs ([rndS 0]::sds)∧LS L Z gone left over r∧sds.length=i∧i≤evs.length∧∀ rest,runF kb (bs22 Z) (2*Z+5) (a92 L Z 0) (es.take i++rest)=(runF kb (bs22 Z) (2*Z+5) r rest).map fun x=>sds++x) ⟨_,[],_,1,_,_,_,_,_,_,rfl,s46,e6,Each.nil.snoc ⟨p5,rfl,hp5,s6 _ _ e5⟩,hLS0,rfl,Nat.zero_le _,fun rest=>by simp⟩ (fun i σ H' _ zz=>by obtain ⟨_,_,_,_,_,_,_,_,_,_,_,s',_⟩:=zz; exact SqL.of (s' _ _ e4)) ?_ ?_⟩
   · rintro i x σ H7 hx ⟨dvs,sds,r,gone,left,over,y1,y2,y3,y4,rfl,s7,e7,hD,hls,hsl,hil,hrun⟩
     have hi':=(List.getElem?_eq_some_iff.mp hx).1
     obtain ⟨e,he⟩:∃ e,es[i]?=some e:=⟨_,List.getElem?_eq_getElem (by have:=hes.1; omega)⟩
     obtain ⟨hts,hat,hh⟩:=(hes4.2 i x e hx he).same s7
     have hdl:=hD.1
     have htk:es.take (i+1)=es.take i++[e]:=by rw [List.take_add_one,he]; rfl
     have fin:∀ (H8:Hp) (b:Addr) (sd:List Str) (r':Option Std) (gone':Nat) (left':Int) (over':Bool) (y1 y2 y3 y4:Option V),Same H4 H8→H8 ld=some (.lst dvs)→b≠ld→(∀ b sd,b≠ld→H7 b=some (.lst (a31 sd))→H8 b=some (.lst (a31 sd)))→H8 b=some (.lst (a31 sd))→LS L Z gone' left' over' r'→ar1 kb (bs22 Z) (2*Z+5) r e=some (sd,r') →
      ∃ (dvs':List V) (sds:List (List Str)) (r:Option Std) (gone:Nat) (left:Int) (over:Bool) (z1 z2 z3 z4:Option V),[some (V.ref a),some (.ref lr),some (.int (L:Nat)),some (.int (Z:Nat)),some (.ref mp),some (.ref le),some (.ref ld),some (.int (gone':Nat)),some (.int left'),some (.bl over'),y1,y2,y3,y4]=[some (V.ref a),some (.ref lr),some (.int (L:Nat)),some (.int (Z:Nat)),some (.ref mp),some (.ref le),some (.ref ld),some (.int (gone:Nat)),some (.int left),some (.bl over),z1,z2,z3,z4]∧Same H4 (upd H8 ld (.lst (dvs++[.ref b])))∧upd H8 ld (.lst (dvs++[.ref b])) ld=some (.lst dvs')∧Each (fun v sd=>∃ b',v=.ref b'∧b'≠ld∧upd H8 ld (.lst (dvs++[.ref b])) b'=some (.lst (a31 sd))) dvs' ([rndS 0]::sds)∧LS L Z gone left over r∧sds.length=i+1∧i+1≤evs.length∧∀ rest,runF kb (bs22 Z) (2*Z+5) (a92 L Z 0) (es.take (i+1)++rest)=(runF kb (bs22 Z) (2*Z+5) r rest).map fun x=>sds++x:=fun H8 b sd r' gone' left' over' y1 y2 y3 y4 s8 e8 hb hk8 eb hl' hst=>by
      refine ⟨_,sds++[sd],r',gone',left',over',y1,y2,y3,y4,rfl,s8.updNew fld,a19,?_,hl',by simp [hsl],hi',fun rest=>?_⟩
      · rw [← List.cons_append]
        refine Each.snoc (hD.mono fun v sd z=>?_) ⟨b,rfl,hb,by rw [a14 hb]; exact eb⟩
        obtain ⟨b',z1,z2,z3⟩:=z
        exact ⟨b',z1,z2,by rw [a14 z2]; exact hk8 _ _ z2 z3⟩
      · rw [htk,List.append_assoc,hrun]
        show Option.map _ (runF kb (bs22 Z) (2*Z+5) r (e::rest))=_
        simp only [runF,hst]
        rw [Option.map_map]
        congr 1
        funext x
        simp
     walk_at "run"
     cases over with
     | true =>
       walk_at "run"
       refine ab4 (SqL.of e7) ?_
       walk_at "run"
       intro p8 H8 f8 s8 e8
       walk_at "run"
       have e78:=s8 _ _ e7
       refine a51 e78 (by rw [hdl]; simp; omega) ?_
       walk_at "run"
       have hr0:=hls.o rfl
       subst hr0
       exact fin H8 p8 [] none gone left true _ _ _ _ (s7.trans s8) e78 (fun z=>by rw [z,e7] at f8; cases f8) (fun b sd _ z=>s8 _ _ z) e8 hls rfl
     | false =>
       walk_at "run"
       obtain ⟨r',hst,hls'⟩:=bc7 (e:=e) hkb hok (by omega) hls
       refine ⟨lr,rvs,rs,x,e,L,left,rfl,(s14.trans s7) _ _ e2,hE4.mono fun _ _ z=>RowAt.same z s7,⟨Tr.At.toK K hat,hh⟩,hts,fun p8 l8 H8 s8 e8 e9=>?_⟩
       refine ak4 (SqL.of e8) rfl ?_
       walk_at "run"
       have hsl0:(a53 rs L left e).1.length≤1:=bc8
       generalize a53 rs L left e=T' at *
       obtain ⟨said,way,left'⟩:=T'
       dsimp only at *
       have hsl1:said.length≤1:=hsl0
       refine bc9 fun q1 q2 pd H9 s9 d1 d2 d3=>?_
       walk_at "run"
       refine ⟨_,rfl,pd,rfl,.inl ⟨_,.inl d3⟩,?_⟩
       walk_at "run"
       intro pz H10 f10 s10 e10
       obtain ⟨o,b,g1,g2,g3⟩:=c52 (way:=way) (s10 _ _ d3) (s10 _ _ d1) (s10 _ _ d2) e10
       refine ⟨o,g1,?_⟩
       rw [g2]
       have s810:=s9.trans s10
       have hln:said.length≤1:=hsl1
       refine al5 (s810 _ _ e9) g3 (le_line (by unfold a93; simp only [a31,List.length_map]; split; simp; omega; split <;> simp <;> omega)) ?_
       intro ps H11 f11 s11 e11
       walk_at "run"
       have s711:=s8.trans (s810.trans s11)
       have hps:ps≠ld:=fun z=>by rw [z,(s8.trans s810) _ _ e7] at f11; cases f11
       have e11':H11 ps=some (.lst (a31 (said++a93 way))):=by rw [e11]; simp [a31]
       refine ac1 (fun σ' H'=>∃ (gone':Nat),σ'=[some (.ref a),some (.ref lr),some (.int (L:Nat)),some (.int (Z:Nat)),some (.ref mp),some (.ref le),some (.ref ld),some (.int (gone':Nat)),some (.int left'),some (.bl false),some x,some (.ref ps),some (.str way),some (.ref pd)]∧gone'=(if isG way=true then gone+1 else gone)∧Same H4 H'∧H' ld=some (.lst dvs)∧(∀ b sd,b≠ld→H7 b=some (.lst (a31 sd))→H' b=some (.lst (a31 sd)))∧H' ps=some (.lst (a31 (said++a93 way++if isG way=true then [rndS (gone % Z)] else [])))) ?_ ?_
       · walk_at "run"
         refine aq0 (way=Str.ofString "on"∨way=Str.ofString "again") (fun R hR=>?_) ?_
         · walk_at "run"
           by_cases hh:way=Str.ofString "on"
           · refine a25 hh ?_
             exact rT hR (.inl hh)
           · refine a24 hh ?_
             walk_at "run"
             by_cases h7:way=Str.ofString "again"
             · rw [decide_eq_true h7]
               exact rT hR (.inr h7)
             · rw [decide_eq_false h7]
               exact rF hR (fun z=>by rcases z with z | z; exact hh z; exact h7 z)
         by_cases hg:way=Str.ofString "on"∨way=Str.ofString "again"
         · have hG:isG way=true:=by
            unfold isG
            rcases hg with z | z
            · rw [decide_eq_true z]; rfl
            · rw [decide_eq_true z,Bool.or_true]
           refine a25 hg ?_
           walk_at "run"
           refine ab4 (SqL.of e11') ?_
           walk_at "run"
           have hx5:gone % Z<5:=Nat.lt_of_lt_of_le (Nat.mod_lt _ (by omega)) hZ5
           obtain ⟨c0,c1,c2⟩:=bf5 hx5
           refine b95 (le_line (by decide +kernel)) (show atI _ ((gone:Int) % (Z:Int))=some c0 from by rw [← Int.natCast_emod]; exact c1) ?_
           walk_at "run"
           refine al4 (le_line (by rw [av2]; decide +kernel)) ?_
           rw [c2]
           walk_at "run"
           refine a51 e11' (by have:(a93 way).length≤1:=(by unfold a93; split; simp; split <;> simp); simp only [a31,List.length_map,List.length_append]; omega) ?_
           walk_at "run"
           have hps4:H4 ps=none:=(s7.trans (s8.trans s810)).free f11
           refine ⟨gone+1,by simp,by rw [hG]; rfl,(s7.trans s711).updNew hps4,by rw [a14 hps.symm]; exact s711 _ _ e7,fun b sd hb z=>?_,?_⟩
           · have hbp:b≠ps:=fun y=>by rw [y,(s8.trans s810).free f11] at z; cases z
             rw [a14 hbp]
             exact s711 _ _ z
           · rw [a19,hG]
             simp [a31]
         · have hG:isG way=false:=by
            unfold isG
            rw [decide_eq_false (fun z=>hg (.inl z)),decide_eq_false (fun z=>hg (.inr z))]
            rfl
           refine a24 hg ?_
           walk_at "run"
           exact ⟨gone,rfl,by rw [hG]; rfl,s7.trans s711,s711 _ _ e7,fun b sd _ z=>s711 _ _ z,by rw [hG,e11']; simp⟩
       rintro σ' H12 ⟨gone',rfl,hg',s12,e12,k12,d12⟩
       rw [← hg'] at hls'
       walk_at "run"
       rename_i N hN
       have tl:N [some (.ref a),some (.ref lr),some (.int (L:Nat)),some (.int (Z:Nat)),some (.ref mp),some (.ref le),some (.ref ld),some (.int (gone':Nat)),some (.int left'),some (.bl (isO way)),some x,some (.ref ps),some (.str way),some (.ref pd)] H12:=by
        refine hN _ _ ?_
        walk_at "run"
        refine ab4 (SqL.of e12) ?_
        walk_at "run"
        refine a51 e12 (by rw [hdl]; simp; omega) ?_
        exact fin H12 ps _ r' gone' left' (isO way) _ _ _ _ s12 e12 hps k12 d12 hls' hst
       by_cases h1:way=Str.ofString "leave"
       · refine a25 h1 ?_
         have hO:isO way=true:=by unfold isO; rw [decide_eq_true h1]; rfl
         rw [hO] at tl
         exact tl
       · refine a24 h1 ?_
         have hO:isO way=decide (way=Str.ofString "stop"):=by unfold isO; rw [decide_eq_false h1]; rfl
         rw [hO] at tl
         walk_at "step"
         walk_at "step"
         walk_at "step"
         walk_at "step"
         exact tl
   rintro σ' H7 ⟨dvs,sds,r,gone,left,over,y1,y2,y3,y4,rfl,s7,e7,hD,hls,hsl,hil,hrun⟩
   have hrun:=hrun []
   rw [show es.take evs.length++[]=es by rw [List.append_nil,hes.1,List.take_length]] at hrun
   simp only [runF,Option.map_some,List.append_nil] at hrun
   walk_at "run"
   intro tx dx g1 g2 g3
   obtain ⟨lb,lt,bvs,tvs,m1,m2,m3,m4,m5⟩:=hM
   have s17:=s14.trans s7
   have sU:Same H1 (upd (upd H7 dx (.own tx)) tx (.ins t.c_Teller dx [])):=s17.trans ((Same.new g2).trans (Same.new (by rw [a14 g3.symm]; exact g1)))
   have sU7:Same H7 (upd (upd H7 dx (.own tx)) tx (.ins t.c_Teller dx [])):=(Same.new g2).trans (Same.new (by rw [a14 g3.symm]; exact g1))
   refine ⟨tx,dx,mp,lb,lt,bvs,tvs,bs22 Z,tsS L Z rs,_,rfl,a19,sU _ _ m1,sU _ _ m2,m3.mono fun _ _ z=>z.same sU,sU _ _ m4,m5.mono fun _ _ z=>z.same sU,hkp,fun H8 hT k8=>⟨rfl,?_⟩⟩
   rw [hkbd] at hT
   have s78:Same H7 H8:=fun x o e=>k8 x o (sU7 _ _ e) (fun z=>by rw [z,g1] at e; cases e)
   walk_at "run"
   have s48:=s7.trans s78
   refine ⟨tx,le,evs,bs22 Z,kb,es,2*Z+5,[rndS 0],a92 L Z 0,sds,rfl,hT,hko,s48 _ _ e4,hes4.mono fun v e z=>⟨Tr.At.toK K (z.same s48).2.1,z.2.2⟩,by omega,by omega,?_,hrun,fun l us H9 s9 f9 e9 hU=>?_⟩
   · have:=bm9 hkb (by omega)
     unfold tgoF at this ⊢
     split at this
     · cases this
     · exact ar6 this (by omega)
   walk_at "run"
   have hD9:Each (aw5 H9) dvs ([rndS 0]::sds):=hD.mono fun v sd z=>by
    obtain ⟨b,z1,_,z3⟩:=z
    exact ⟨b,z1,(s78.trans s9) _ _ z3⟩
   obtain ⟨fs,h1⟩:=aw9 e9 hU
   obtain ⟨gs,h2⟩:=aw9 ((s78.trans s9) _ _ e7) hD9
   exact bw6 h1 h2 (b70 _) (q _)
end
theorem all_mk {l:PySem.W.OpenLaw}{w:World}{K:PySem.W.Frag}{h:Heap}{mg:Str→Option Value}{fa:Addr}(X:K.In h) (G:h.Ns mainGlobals mg) (hfa:mg "law"=some (.ref fa)) (hF:HF w.params K):∃ fd:FuncData,(∀ (s:Shared) (v:Value),BindsTo s fd ⟨[v],[]⟩ [("script",v)])∧∀ base:Heap,K.In base→base.Ns mainGlobals mg→FnOk l.prog w K mg base CX0 20 fa fd ["script"] (ap0 K):=by
 obtain ⟨t,T⟩:=hF
 have T:=T mg h X G
 have e:=hfa.symm.trans T.f_law.m
 cases e
 obtain ⟨_,_,_,_,_,_,_,_,_,e,_⟩:=T.f_law.F.ex
 exact ⟨_,fun s v=>by rw [e]; exact .of_eq rfl,fun base _ _=>bz3 T⟩
end K22
theorem PySem.Challenge.cw_callmill_k22_whole_waits_by_turns_holds : PySem.Challenge.rw_callmill_k22_whole_waits_by_turns.Holds := by
  exact K22.head fun K hF w mg fa h KX G hmg => K22.all_mk KX G hmg (hF w.params)
